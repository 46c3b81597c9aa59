package lex

import (
	"math/big"
	"math/rand"
	"regexp"
	"slices"
	"strconv"
	"strings"
	"testing"

	"bridleway/api"
)

// The letter of the chapter, as one expression for each kind; that of a number is its shape alone.
var (
	blankRun    = regexp.MustCompile(`^[ \t\r\n]*`)
	wordShape   = regexp.MustCompile(`^[A-Za-z_][A-Za-z0-9_]*`)
	quotedShape = regexp.MustCompile(`^'(?:[^\\'\n]|\\[\\'n])*'`)
	intShape    = regexp.MustCompile(`^(?:0|[1-9][0-9]*)$`)
	floatShape  = regexp.MustCompile(`^(?:0p0|(?:[1-9][0-9]*)?[13579]p(?:0|-?[1-9][0-9]*))$`)
	signShape   = longestOf(allSigns())
)

func longestOf(l []string) *regexp.Regexp {
	var all []string
	for _, s := range l {
		all = append(all, regexp.QuoteMeta(s))
	}
	shape := regexp.MustCompile("^(?:" + strings.Join(all, "|") + ")")
	shape.Longest()
	return shape
}

// isNumber tells whether s, or `-` and s, is a number's text.
func isNumber(s string) bool {
	if intShape.MatchString(s) {
		n, _ := new(big.Int).SetString(s, 10)
		return n.Cmp(new(big.Int).Lsh(big.NewInt(1), 63)) <= 0
	}
	if !floatShape.MatchString(s) {
		return false
	}
	m, e, _ := strings.Cut(s, "p")
	power, err := strconv.Atoi(e)
	n, _ := new(big.Int).SetString(m, 10)
	return err == nil && n.BitLen() <= 53 && power >= -1074 && n.BitLen()+power <= 1024
}

// byLetterFirst is the token at the beginning of s, or none.
func byLetterFirst(s string) (int, string) {
	if text := wordShape.FindString(s); text != "" {
		switch {
		case len(text) > 40:
			return 0, ""
		case slices.Contains(allKeys(), text):
			return 2, text
		}
		return 1, text
	}
	for n := min(len(s), 40); n > 0 && '0' <= s[0] && s[0] <= '9'; n-- {
		if isNumber(s[:n]) {
			return 3, s[:n]
		}
	}
	if text := quotedShape.FindString(s); text != "" {
		return 4, text
	}
	return 5, signShape.FindString(s)
}

// checkLetter holds Lex to the letter, and tells its error.
func checkLetter(t *testing.T, s string) api.Errno {
	t.Helper()
	if len(s) > 65536 {
		wantWrong(t, s, 0, api.ErrLimit)
		return api.ErrLimit
	}
	var want []Token
	at := len(blankRun.FindString(s))
	for at < len(s) {
		kind, text := byLetterFirst(s[at:])
		if text == "" {
			wantWrong(t, s, at, api.ErrSyntax)
			return api.ErrSyntax
		}
		want = append(want, Token{kind, text, at})
		at += len(text)
		at += len(blankRun.FindString(s[at:]))
	}
	wantTokens(t, s, want...)
	return api.OK
}

func TestLexByTheLetter(t *testing.T) {
	r := rand.New(rand.NewSource(10))
	pieces := slices.Concat(allKeys(), allSigns(), allSigns(), allSigns(), strings.Split(spaces, ""), strings.Split(" \n a b_1 W NO T p x9 0 1 3 7 12 007 20 -1 p0 p1 p-1 3p-1 5p1 0p0 p-1074 p1023 p1024 9007199254740991 9007199254740993 9223372036854775807 9223372036854775808 '' 'a' 'it\\'s' '\\\\' '\\n'", " "))
	wrongs := []string{"$", ".", "'", "'\\x'", `\`, "\x00", "\x80", "\u00e9", strings.Repeat("y", 41), "'\n'"}
	told := map[api.Errno]int{}
	for range 60000 {
		var b strings.Builder
		for range r.Intn(12) {
			b.WriteString(pieces[r.Intn(len(pieces))])
			if r.Intn(40) == 0 {
				b.WriteString(wrongs[r.Intn(len(wrongs))])
			}
		}
		told[checkLetter(t, b.String())]++
		if t.Failed() {
			return
		}
	}
	for _, e := range []api.Errno{api.OK, api.ErrSyntax} {
		if told[e] < 5000 {
			t.Errorf("%v is told of %d texts alone", e, told[e])
		}
	}
}

// wantAllOf goes through all texts of at most so many of these pieces.
func wantAllOf(t *testing.T, most int, pieces ...string) {
	t.Helper()
	var all func(s string, left int)
	all = func(s string, left int) {
		checkLetter(t, s)
		if left == 0 || t.Failed() {
			return
		}
		for _, p := range pieces {
			all(s+p, left-1)
		}
	}
	all("", most)
}

func TestLexOfShortTexts(t *testing.T) {
	wantAllOf(t, 5, "<", ">", "-", "~", "[", "]", "=")
	wantAllOf(t, 5, "0", "1", "3", "p", "-", "4")
	wantAllOf(t, 4, "'", `\`, "n", "\n", " ", "x", "1", "$")
	wantAllOf(t, 3, strings.Split(alone+"a0' ", "")...)
	wantAllOf(t, 2, slices.Concat(allSigns(), allKeys(), []string{"_", "7", " "})...)
}

// TestLexNearGreatNumbers goes through what is nearly one, on either side of each edge.
func TestLexNearGreatNumbers(t *testing.T) {
	for _, s := range []string{"9223372036854775807", "9223372036854775808", "9223372036854775809", "9007199254740991p971", "9007199254740991p-1074", "9007199254740993p-1", "1p1023", "1p-1074", "18446744073709551615"} {
		for i := range len(s) + 1 {
			for _, c := range []string{"", "-", "0", "1", "9", "p", "x", " "} {
				checkLetter(t, s[:i]+c+s[i:])
				checkLetter(t, "-"+s[:i]+c+s[min(i+1, len(s)):])
			}
		}
	}
}

func FuzzLex(f *testing.F) {
	f.Add("(a)-[e]->(b)")
	f.Add("TRAIL (a)-[:K]->{1,2}(b WHERE p > 3p-1 AND q = 'it\\'s')")
	f.Add("9223372036854775808 007 $")
	f.Fuzz(func(t *testing.T, s string) { checkLetter(t, s) })
}
