package decl

import (
	"strings"

	"stencil/api"
)

// noKind is the Kind of what is no element of a schema, and of what holds the root.
const noKind api.DeclKind = -1

var names = [...]string{
	api.DeclSchema:    "messageSchema",
	api.DeclTypes:     "types",
	api.DeclType:      "type",
	api.DeclComposite: "composite",
	api.DeclRef:       "ref",
	api.DeclEnum:      "enum",
	api.DeclValid:     "validValue",
	api.DeclSet:       "set",
	api.DeclChoice:    "choice",
	api.DeclMessage:   "message",
	api.DeclField:     "field",
	api.DeclGroup:     "group",
	api.DeclData:      "data",
}

func isKind(kind api.DeclKind) bool { return kind >= 0 && int(kind) < len(names) }

// kindOf is the Kind of an element's name, with the prefix or without it.
func kindOf(name string) api.DeclKind {
	local := strings.TrimPrefix(name, "sbe:")
	for kind, known := range names {
		if known == local {
			return api.DeclKind(kind)
		}
	}
	return noKind
}

// mayStandIn is false of what is no element, wherever it stands.
func mayStandIn(kind, holder api.DeclKind) bool {
	switch kind {
	case api.DeclSchema:
		return holder == noKind
	case api.DeclTypes, api.DeclMessage:
		return holder == api.DeclSchema
	case api.DeclType, api.DeclComposite, api.DeclEnum, api.DeclSet:
		return holder == api.DeclTypes || holder == api.DeclComposite
	case api.DeclRef:
		return holder == api.DeclComposite
	case api.DeclValid:
		return holder == api.DeclEnum
	case api.DeclChoice:
		return holder == api.DeclSet
	case api.DeclField, api.DeclGroup, api.DeclData:
		return holder == api.DeclMessage || holder == api.DeclGroup
	}
	return false
}

// passedOver tells whether an attribute isn't looked at in an element of a Kind.
func passedOver(kind api.DeclKind, name string) bool {
	switch name {
	case "xmlns":
		return true
	case "semanticVersion":
		return kind == api.DeclSchema
	case "characterEncoding":
		return kind == api.DeclType
	}
	return strings.HasPrefix(name, "xmlns:") || strings.HasPrefix(name, "xsi:")
}

// saysByText tells whether the text inside an element is its declaration's Value.
func saysByText(kind api.DeclKind) bool {
	return kind == api.DeclType || kind == api.DeclValid || kind == api.DeclChoice
}

// bare is the declaration of an element of a Kind that has neither attributes nor text.
func bare(kind api.DeclKind) api.Decl {
	d := api.Decl{Kind: kind, ID: -1, Length: -1, Offset: -1, Block: -1, Deprecated: -1}
	switch kind {
	case api.DeclSchema:
		d.Type = "messageHeader"
	case api.DeclGroup:
		d.Type = "groupSizeEncoding"
	}
	return d
}
