package lex

import "strings"

// Join tells a text that has these tokens.
func Join(l []Token) string {
	var out strings.Builder
	for i, token := range l {
		if i > 0 && apart(l[i-1], token) {
			out.WriteByte(' ')
		}
		out.WriteString(written(token))
	}
	return out.String()
}

func written(t Token) string {
	if t.Kind == TextTok {
		return `"` + strings.ReplaceAll(t.Text, `"`, `""`) + `"`
	}
	return t.Text
}

// apart tells whether a blank must keep two tokens from being read as others.
func apart(a, b Token) bool {
	switch {
	case isWordy(a) && isWordy(b):
		return true
	case a.Kind == TextTok:
		return b.Kind == TextTok
	case a.Kind != SignTok:
		return false
	case a.Text == "#":
		return b.Kind == NameTok
	case b.Kind != SignTok:
		return false
	case a.Text == "<":
		return strings.HasPrefix(b.Text, "=") || strings.HasPrefix(b.Text, ">")
	}
	return a.Text == ">" && strings.HasPrefix(b.Text, "=")
}

func isWordy(t Token) bool {
	return t.Kind == NumberTok || t.Kind == NameTok || t.Kind == MarkTok
}
