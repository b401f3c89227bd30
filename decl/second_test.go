package decl_test

import (
	"math/big"
	"reflect"
	"regexp"
	"slices"
	"strconv"
	"strings"
	"unicode/utf8"

	"stencil/api"
	"stencil/xmltree"
)

// rows is the chapter's first table as it stands there, by Kind.
var rows = []struct{ name, in, attrs string }{
	{"messageSchema", "", "package* id* version byteOrder headerType description"},
	{"types", "messageSchema", ""},
	{"type", "types, composite", "name* primitiveType* length presence nullValue minValue maxValue offset semanticType description"},
	{"composite", "types, composite", "name* offset semanticType description"},
	{"ref", "composite", "name* type* offset semanticType description"},
	{"enum", "types, composite", "name* encodingType* offset semanticType description"},
	{"validValue", "enum", "name* sinceVersion deprecated description"},
	{"set", "types, composite", "name* encodingType* offset semanticType description"},
	{"choice", "set", "name* sinceVersion deprecated description"},
	{"message", "messageSchema", "name* id* blockLength sinceVersion deprecated semanticType description"},
	{"field", "message, group", "name* id* type* offset presence valueRef sinceVersion deprecated semanticType description"},
	{"group", "message, group", "name* id* dimensionType blockLength sinceVersion deprecated semanticType description"},
	{"data", "message, group", "name* id* type* sinceVersion deprecated semanticType description"},
}

// meanings is the chapter's second table: a number stands for a number up to it, words with bars between them for themselves.
var meanings = map[string]struct{ field, values string }{
	"name":          {"Name", "symbol"},
	"package":       {"Name", "dotted"},
	"primitiveType": {"Type", "symbol"},
	"type":          {"Type", "symbol"},
	"encodingType":  {"Type", "symbol"},
	"headerType":    {"Type", "symbol"},
	"dimensionType": {"Type", "symbol"},
	"id":            {"ID", "65535"},
	"version":       {"Version", "65534"},
	"byteOrder":     {"Order", "littleEndian|bigEndian"},
	"length":        {"Length", "65535"},
	"presence":      {"Presence", "required|optional|constant"},
	"offset":        {"Offset", "65535"},
	"blockLength":   {"Block", "65535"},
	"sinceVersion":  {"Since", "65534"},
	"deprecated":    {"Deprecated", "65534"},
	"nullValue":     {"Null", "filled"},
	"minValue":      {"Min", "filled"},
	"maxValue":      {"Max", "filled"},
	"valueRef":      {"Value", "ref"},
	"description":   {"Note", "any"},
	"semanticType":  {"Meaning", "any"},
}

var forms = map[string]*regexp.Regexp{
	"symbol": regexp.MustCompile(`\A[A-Za-z_][A-Za-z0-9_]{0,63}\z`),
	"dotted": regexp.MustCompile(`\A[A-Za-z_][A-Za-z0-9_]{0,63}(\.[A-Za-z_][A-Za-z0-9_]{0,63})*\z`),
	"ref":    regexp.MustCompile(`\A[A-Za-z_][A-Za-z0-9_]{0,63}\.[A-Za-z_][A-Za-z0-9_]{0,63}\z`),
	"filled": regexp.MustCompile(`(?s)\A.+\z`),
	"any":    regexp.MustCompile(``),
	"digits": regexp.MustCompile(`\A[0-9]+\z`),
	"blank":  regexp.MustCompile(`\A[\t\n\r ]*\z`),
}

func kindNamed(local string) int {
	for k, row := range rows {
		if row.name == local {
			return k
		}
	}
	return -1
}

// has tells whether a Kind has an attribute, and whether it must be there.
func has(kind api.DeclKind, attr string) (is, must bool) {
	all := strings.Fields(rows[kind].attrs)
	must = slices.Contains(all, attr+"*")
	return must || slices.Contains(all, attr), must
}

func attrsOf(kind api.DeclKind) []string {
	return strings.Fields(strings.ReplaceAll(rows[kind].attrs, "*", ""))
}

func mayStand(kind api.DeclKind, in string) bool {
	return slices.Contains(strings.Split(rows[kind].in, ", "), in)
}

// unsaid is the declaration of an element without attributes and text.
func unsaid(kind api.DeclKind) api.Decl {
	d := api.Decl{Kind: kind, ID: -1, Length: -1, Offset: -1, Block: -1, Deprecated: -1}
	if ok, _ := has(kind, "headerType"); ok {
		d.Type = "messageHeader"
	}
	if ok, _ := has(kind, "dimensionType"); ok {
		d.Type = "groupSizeEncoding"
	}
	return d
}

// set puts an attribute's value into the declaration's field; false, if it is none of the values.
func set(d *api.Decl, attr, value string) bool {
	m := meanings[attr]
	field := reflect.ValueOf(d).Elem().FieldByName(m.field)
	if form := forms[m.values]; form != nil {
		field.SetString(value)
		return form.MatchString(value) && (m.values != "dotted" || len(value) <= 255)
	}
	if words := strings.Split(m.values, "|"); len(words) > 1 {
		n := slices.Index(words, value)
		field.SetInt(int64(n))
		d.HasPresence = d.HasPresence || attr == "presence"
		return n >= 0
	}
	most, _ := new(big.Int).SetString(m.values, 10)
	n, ok := new(big.Int).SetString(value, 10)
	if !ok || !forms["digits"].MatchString(value) || n.Cmp(most) > 0 {
		return false
	}
	field.SetInt(n.Int64())
	return true
}

// told is what an attribute would say of a declaration.
func told(d api.Decl, attr string) string {
	m := meanings[attr]
	field := reflect.ValueOf(d).FieldByName(m.field)
	if field.Kind() == reflect.String {
		return field.String()
	}
	n := int(field.Int())
	if words := strings.Split(m.values, "|"); len(words) > 1 {
		return words[n]
	}
	return strconv.Itoa(n)
}

func holderOf(es []api.Elem, i int) string {
	for n := i - 1; n >= 0; n-- {
		if es[n].Depth == es[i].Depth-1 {
			return strings.TrimPrefix(es[n].Name, "sbe:")
		}
	}
	return ""
}

func passed(kind api.DeclKind, attr string) bool {
	return attr == "xmlns" || strings.HasPrefix(attr, "xmlns:") || strings.HasPrefix(attr, "xsi:") ||
		kind == api.DeclSchema && attr == "semanticVersion" || kind == api.DeclType && attr == "characterEncoding"
}

// secondRead reads elements from the chapter's words: a second reader to hold Read against.
func secondRead(es []api.Elem) ([]api.Decl, api.Errno, int) {
	if err, _ := xmltree.Check(es); err != api.OK {
		return nil, api.ErrDeclMade, 0
	}
	var ds []api.Decl
	for i, e := range es {
		kind := api.DeclKind(kindNamed(strings.TrimPrefix(e.Name, "sbe:")))
		if kind < 0 || !mayStand(kind, holderOf(es, i)) {
			return nil, api.ErrDeclName, e.At
		}
		d := unsaid(kind)
		d.Depth, d.At = e.Depth, e.At
		there := map[string]bool{}
		for _, a := range e.Attrs {
			there[a.Name] = true
			if passed(kind, a.Name) {
				continue
			}
			if is, _ := has(kind, a.Name); !is {
				return nil, api.ErrDeclAttr, a.At
			}
			if !set(&d, a.Name, a.Value) {
				return nil, api.ErrDeclValue, a.At
			}
		}
		for _, name := range attrsOf(kind) {
			if _, must := has(kind, name); must && !there[name] {
				return nil, api.ErrDeclMiss, e.At
			}
		}
		blank := forms["blank"].MatchString(e.Text)
		switch {
		case kind == api.DeclValid || kind == api.DeclChoice:
			if blank {
				return nil, api.ErrDeclText, e.At
			}
			d.Value = strings.Trim(e.Text, "\t\n\r ")
		case kind == api.DeclType && d.Presence == api.Constant:
			d.Value = strings.Trim(e.Text, "\t\n\r ")
		case !blank:
			return nil, api.ErrDeclText, e.At
		}
		ds = append(ds, d)
	}
	return ds, api.OK, 0
}

func xmlChars(s string) bool {
	return utf8.ValidString(s) && !strings.ContainsFunc(s, func(c rune) bool {
		return c < 32 && c != 9 && c != 10 && c != 13 || c == 0xfffe || c == 0xffff
	})
}

// canBe tells of one declaration, its place aside, whether some element says it: field by field, no element is made.
func canBe(d api.Decl) bool {
	if d.Kind < 0 || int(d.Kind) >= len(rows) {
		return false
	}
	is, without := reflect.ValueOf(d), reflect.ValueOf(unsaid(d.Kind))
	for n := range is.NumField() {
		switch name := is.Type().Field(n).Name; name {
		case "Depth", "Kind", "At", "HasPresence", "Presence", "Value":
		default:
			if !fieldCanBe(d, name, is.Field(n), without.Field(n)) {
				return false
			}
		}
	}
	hasPresence, _ := has(d.Kind, "presence")
	if d.HasPresence && !hasPresence || d.Presence < 0 || d.Presence > 2 || !d.HasPresence && d.Presence != 0 {
		return false
	}
	trimmed := strings.Trim(d.Value, "\t\n\r ") == d.Value && xmlChars(d.Value)
	switch d.Kind {
	case api.DeclValid, api.DeclChoice:
		return trimmed && d.Value != ""
	case api.DeclType:
		return trimmed && (d.Value == "" || d.Presence == 2)
	case api.DeclField:
		return d.Value == "" || forms["ref"].MatchString(d.Value)
	}
	return d.Value == ""
}

func fieldCanBe(d api.Decl, name string, is, without reflect.Value) bool {
	for _, attr := range attrsOf(d.Kind) {
		if meanings[attr].field != name {
			continue
		}
		_, must := has(d.Kind, attr)
		if !must && is.Equal(without) {
			return true
		}
		values := meanings[attr].values
		if is.Kind() == reflect.String {
			return forms[values].MatchString(is.String()) && xmlChars(is.String()) && (values != "dotted" || is.Len() <= 255)
		}
		most := strings.Count(values, "|")
		if most == 0 {
			most, _ = strconv.Atoi(values)
		}
		return is.Int() >= 0 && is.Int() <= int64(most)
	}
	return is.Equal(without)
}

// secondWrite writes declarations from the chapter's words: a second writer to hold Write against.
func secondWrite(ds []api.Decl) ([]api.Elem, api.Errno, int) {
	if len(ds) == 0 {
		return nil, api.ErrDeclMade, 0
	}
	var es []api.Elem
	for n, d := range ds {
		least, most := 1, 1
		if n > 0 {
			least, most = 2, min(ds[n-1].Depth+1, 16)
		}
		if n >= 20000 || d.Depth < least || d.Depth > most || !canBe(d) {
			return nil, api.ErrDeclMade, n
		}
		e := api.Elem{Depth: d.Depth, Name: rows[d.Kind].name}
		es = append(es, e)
		if !mayStand(d.Kind, holderOf(es, n)) {
			return nil, api.ErrDeclMade, n
		}
		for _, attr := range attrsOf(d.Kind) {
			_, must := has(d.Kind, attr)
			says := must || told(d, attr) != told(unsaid(d.Kind), attr)
			if attr == "presence" {
				says = d.HasPresence
			}
			if says {
				es[n].Attrs = append(es[n].Attrs, api.Attr{Name: attr, Value: told(d, attr)})
			}
		}
		switch d.Kind {
		case api.DeclType, api.DeclValid, api.DeclChoice:
			es[n].Text = d.Value
		}
	}
	return es, api.OK, 0
}
