package graph

import (
	"iter"
	"slices"

	"bridleway/api"
)

// New, Graph, Find, FindEdge, Out, Prop, Labels (H2).

// Step is an edge, and to which node it leads.
type Step struct{ Edge, To int }

// Index is a graph, of which is asked.
type Index struct {
	g     api.Graph
	nodes map[string]int
	edges map[string]int
	leads [][]lead // of each node
}

// lead is a step, and all directions by which it leads.
type lead struct {
	step Step
	dirs int
}

// New makes an index of g, as it is now.
func New(g api.Graph) (*Index, api.Errno) {
	if err := Right(g); err != api.OK {
		return nil, err
	}
	x := &Index{g: clone(g), nodes: places(g.Nodes, nodeName), edges: places(g.Edges, edgeName), leads: make([][]lead, len(g.Nodes))}
	for node, l := range leads(x.g.Edges) {
		x.leads[node] = append(x.leads[node], l)
	}
	return x, api.OK
}

// clone goes down to the lists of each element, which are nobody else's then.
func clone(g api.Graph) api.Graph {
	c := api.Graph{Nodes: slices.Clone(g.Nodes), Edges: slices.Clone(g.Edges)}
	for i, n := range c.Nodes {
		c.Nodes[i].Labels, c.Nodes[i].Props = slices.Clone(n.Labels), slices.Clone(n.Props)
	}
	for i, e := range c.Edges {
		c.Edges[i].Labels, c.Edges[i].Props = slices.Clone(e.Labels), slices.Clone(e.Props)
	}
	return c
}

// leads goes by the edges in order, and tells of each how it leads from both its ends; from a node to itself it is told once, by all its directions, so that nobody gathers it twice.
func leads(edges []api.Edge) iter.Seq2[int, lead] {
	return func(yield func(int, lead) bool) {
		for i, e := range edges {
			there, back := api.Right, api.Left
			if !e.Directed {
				there, back = api.Flat, api.Flat
			}
			loop := e.From == e.To
			if loop {
				there |= back
			}
			if !yield(e.From, lead{Step{i, e.To}, there}) || !loop && !yield(e.To, lead{Step{i, e.From}, back}) {
				return
			}
		}
	}
}

// Graph tells the graph that was handed in.
func (x *Index) Graph() api.Graph { return clone(x.g) }

// Find tells where the node of this name is.
func (x *Index) Find(name string) (int, bool) {
	i, ok := x.nodes[name]
	return i, ok
}

// FindEdge tells where the edge of this name is.
func (x *Index) FindEdge(name string) (int, bool) {
	i, ok := x.edges[name]
	return i, ok
}

// Out tells all edges that lead from a node by one of these directions.
func (x *Index) Out(node, dir int) []Step {
	if !isPlace(node, len(x.leads)) {
		return nil
	}
	var out []Step
	for _, l := range x.leads[node] {
		if l.dirs&dir != 0 {
			out = append(out, l.step)
		}
	}
	return out
}

// Prop tells a property of an element.
func (x *Index) Prop(e api.Elem, name string) api.Value {
	_, props := x.element(e)
	for _, p := range props {
		if p.Name == name {
			return p.Value
		}
	}
	return api.Value{}
}

// Labels tells the labels of an element.
func (x *Index) Labels(e api.Elem) []string {
	labels, _ := x.element(e)
	return slices.Clone(labels)
}

// element is what an element has: nothing, if there is no such one.
func (x *Index) element(e api.Elem) ([]string, []api.Prop) {
	switch {
	case e.Edge && isPlace(e.ID, len(x.g.Edges)):
		return x.g.Edges[e.ID].Labels, x.g.Edges[e.ID].Props
	case !e.Edge && isPlace(e.ID, len(x.g.Nodes)):
		return x.g.Nodes[e.ID].Labels, x.g.Nodes[e.ID].Props
	}
	return nil, nil
}
