package ir

import (
	"strconv"
	"strings"

	"stencil/api"
	"stencil/types"
)

var presences = [...]string{api.Required: "required", api.Optional: "optional", api.Constant: "constant"}

func show(tokens []api.Token) []string {
	lines := make([]string, 0, len(tokens))
	open := 0
	for _, t := range tokens {
		if ends(t.Op) {
			open--
		}
		lines = append(lines, strings.Repeat("  ", open)+strings.Join(told(t), " "))
		if begins(t.Op) {
			open++
		}
	}
	return lines
}

// told is the words of a token's line.
func told(t api.Token) []string {
	switch t.Op {
	case api.BeginMessage:
		return words("message", t.Name, t.ID, t.Since, t.Block)
	case api.BeginField:
		return append(words("field", t.Name, t.ID, t.Since, t.Offset, t.Size), presences[t.Presence])
	case api.BeginGroup:
		return words("group", t.Name, t.ID, t.Since, t.Size, t.Block)
	case api.BeginData:
		return append(words("data", t.Name, t.ID, t.Since, t.Size), types.NameOf(t.Prim))
	case api.BeginComposite:
		return words("composite", t.Name, t.Offset, t.Size)
	case api.BeginEnum:
		return words("enum", t.Name, t.Offset, t.Size)
	case api.BeginSet:
		return words("set", t.Name, t.Offset, t.Size)
	case api.Encoding:
		return append(words("encoding", t.Name, t.Offset, t.Size), types.NameOf(t.Prim), strconv.Itoa(t.Length), presences[t.Presence])
	case api.Choice:
		return append(words("choice", t.Name), strconv.FormatUint(t.Value, 10), strconv.Itoa(t.Since))
	}
	return words("end", t.Name)
}

func words(kind, name string, numbers ...int) []string {
	out := []string{kind, name}
	for _, n := range numbers {
		out = append(out, strconv.Itoa(n))
	}
	return out
}
