package parse

import (
	"bridleway/api"
	"bridleway/lex"
	"bridleway/value"
)

// wrong is what is panicked with: where the first token that is wrong begins, and its error.
type wrong struct {
	at  int
	err api.Errno
}

// tokens are those that are left to be read. The last one is of no kind: it stands where the text ends, and nobody takes it.
type tokens struct {
	left []lex.Token
}

// newTokens is of all tokens of a text of that size.
func newTokens(l []lex.Token, size int) tokens {
	return tokens{append(l, lex.Token{At: size})}
}

func (t *tokens) next() lex.Token { return t.left[0] }

// skip goes past a token that was looked at, and is not the last one.
func (t *tokens) skip() { t.left = t.left[1:] }

// take goes past this sign or key, if it comes next. No token of another kind has the text of one.
func (t *tokens) take(text string) bool {
	if t.next().Text != text {
		return false
	}
	t.skip()
	return true
}

// takeOneOf tells which of these signs or keys it went past; nothing, if none of them comes next.
func (t *tokens) takeOneOf(texts ...string) string {
	for _, text := range texts {
		if t.take(text) {
			return text
		}
	}
	return ""
}

// takeWord is the word that comes next; nothing, if none does.
func (t *tokens) takeWord() string {
	word := t.next()
	if word.Kind != lex.TokWord {
		return ""
	}
	t.skip()
	return word.Text
}

// need goes past what alone may come next.
func (t *tokens) need(text string) {
	if !t.take(text) {
		t.refuse()
	}
}

// end is need of the text's end.
func (t *tokens) end() {
	if len(t.left) > 1 {
		t.refuse()
	}
}

// refuse says of the token that comes next that nothing goes on with it.
func (t *tokens) refuse() {
	panic(wrong{t.next().At, api.ErrSyntax})
}

// open goes past a bracket, if it comes next, and counts how many of its sort are open.
func (t *tokens) open(bracket string, count *int) bool {
	at := t.next().At
	if !t.take(bracket) {
		return false
	}
	if *count == api.MaxDeep {
		panic(wrong{at, api.ErrLimit})
	}
	*count++
	return true
}

func (t *tokens) shut(bracket string, count *int) {
	t.need(bracket)
	*count--
}

// number reads a number, and tells whether it is an Int, with nothing ahead of it.
func (t *tokens) number() (n int64, isInt bool) {
	token := t.next()
	if token.Kind != lex.TokNumber {
		t.refuse()
	}
	t.skip()
	v, isValue := whole(token.Text)
	return v.N, isValue && v.Kind == api.Int
}

// literal reads a value, with the `-` that may stand ahead. Which values have one, and that words, signs and other keys are none, is told by their Texts.
func (t *tokens) literal() api.Value {
	minus := t.takeOneOf("-")
	v, isValue := whole(minus + t.next().Text)
	if !isValue {
		t.refuse()
	}
	t.skip()
	return v
}

// whole is the value whose Text is all of this one: Read is content with a beginning.
func whole(text string) (v api.Value, isValue bool) {
	v, size, isValue := value.Read(text)
	return v, isValue && size == len(text)
}
