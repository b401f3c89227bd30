package xmllex

import "strings"

const (
	declOpen = "<?xml"
	declShut = "?>"
)

// declSize is how many bytes the XML declaration takes with which a text begins: 0, if with none.
func declSize(s string) int {
	rest, opened := strings.CutPrefix(s, declOpen)
	rest, versioned := cutSetting(rest, "version", isVersion)
	rest, _ = cutSetting(rest, "encoding", isEncoding)
	rest, _ = cutSetting(rest, "standalone", isStandalone)
	rest, shut := strings.CutPrefix(strings.TrimLeft(rest, blanks), declShut)
	if !opened || !versioned || !shut {
		return 0
	}
	return len(s) - len(rest)
}

// cutSetting takes blanks and a setting off a text's front; a text that doesn't begin so stays whole.
func cutSetting(s, name string, allowed func(value string) bool) (string, bool) {
	inner := strings.TrimLeft(s, blanks)
	apart := len(inner) < len(s)
	inner, named := strings.CutPrefix(inner, name)
	inner, equated := strings.CutPrefix(strings.TrimLeft(inner, blanks), "=")
	value, rest, quoted := cutQuoted(strings.TrimLeft(inner, blanks))
	if apart && named && equated && quoted && allowed(value) {
		return rest, true
	}
	return s, false
}

// cutQuoted is what stands in the quotes with which a text begins, and what follows them.
func cutQuoted(s string) (value, rest string, quoted bool) {
	if s == "" || s[0] != '"' && s[0] != '\'' {
		return "", "", false
	}
	return strings.Cut(s[1:], s[:1])
}

func isVersion(value string) bool { return value == "1.0" }

func isEncoding(value string) bool { return strings.EqualFold(value, "utf-8") }

func isStandalone(value string) bool { return value == "yes" || value == "no" }
