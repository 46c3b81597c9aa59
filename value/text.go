package value

import (
	"strconv"
	"strings"

	"bridleway/api"
	"bridleway/num"
)

// No value that is not a Text has a longer one than this: M's most digits, and E's.
const longest = len("-9007199254740991p-1074")

// Text is a value, written (B4).
func Text(v api.Value) (string, api.Errno) {
	if !Right(v) {
		return "", api.ErrArg
	}
	switch v.Kind {
	case api.Bool:
		return strconv.FormatBool(v.N == 1), api.OK
	case api.Int:
		return strconv.FormatInt(v.N, 10), api.OK
	case api.Float:
		return num.Text(v.F), api.OK
	case api.Text:
		return quoted(v.S), api.OK
	}
	return "null", api.OK
}

func quoted(s string) string {
	var b strings.Builder
	b.WriteByte('\'')
	for i := range len(s) {
		switch c := s[i]; c {
		case '\\', '\'':
			b.WriteByte('\\')
			b.WriteByte(c)
		case '\n':
			b.WriteString(`\n`)
		default:
			b.WriteByte(c)
		}
	}
	b.WriteByte('\'')
	return b.String()
}

// Read is the value whose text s begins with, and how long that is (B4).
func Read(s string) (api.Value, int, bool) {
	if strings.HasPrefix(s, "'") {
		return readQuoted(s)
	}
	for n := plainRun(s); n > 0; n-- {
		if v, ok := readPlain(s[:n]); ok {
			return v, n, true
		}
	}
	return api.Value{}, 0, false
}

// readQuoted has no choice, as Read has of numbers: the first quote without a `\` ahead ends the text.
func readQuoted(s string) (api.Value, int, bool) {
	var b strings.Builder
	for i := 1; i < len(s); i++ {
		switch s[i] {
		case '\'':
			return text(b.String()), i + 1, true
		case '\n':
			return api.Value{}, 0, false
		case '\\':
			i++
			c, ok := escaped(s[i:])
			if !ok {
				return api.Value{}, 0, false
			}
			b.WriteByte(c)
		default:
			b.WriteByte(s[i])
		}
	}
	return api.Value{}, 0, false
}

// escaped is the byte that is meant by what stands behind a `\`.
func escaped(s string) (byte, bool) {
	switch {
	case s == "":
		return 0, false
	case s[0] == '\\' || s[0] == '\'':
		return s[0], true
	case s[0] == 'n':
		return '\n', true
	}
	return 0, false
}

// plainRun is how many bytes at the beginning of s may be of one text without quotes: beyond them no text goes.
func plainRun(s string) int {
	n := 0
	for n < min(len(s), longest) && isPlain(s[n]) {
		n++
	}
	return n
}

func isPlain(c byte) bool {
	return c == '-' || '0' <= c && c <= '9' || 'a' <= c && c <= 'z'
}

// readPlain is the value whose text is s, all of it.
func readPlain(s string) (api.Value, bool) {
	switch s {
	case "null":
		return api.Value{}, true
	case "false", "true":
		return truth(s == "true"), true
	}
	// One number has one text: zeros ahead and `-0` are refused here.
	if n, err := strconv.ParseInt(s, 10, 64); err == nil && strconv.FormatInt(n, 10) == s {
		return whole(n), true
	}
	if f, e := num.Parse(s); e == api.OK {
		return float(f), true
	}
	return api.Value{}, false
}
