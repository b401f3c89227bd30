package sbe_test

import (
	"reflect"
	"strings"
	"testing"

	"stencil/api"
	"stencil/sbe"
	"stencil/schema"
)

// P26.1: texts that are refused at each layer below, with the place.
func TestRefusedTexts(t *testing.T) {
	refused(t, "", api.ErrTreeRoot, 0)
	refused(t, shop[:100], api.ErrXMLEnd, 100)
	refused(t, "x"+shop, api.ErrTreeRoot, 0)
	refused(t, strings.Replace(shop, "</types>", "</type>", 1), api.ErrTreePair, strings.Index(shop, "</types>"))
	refused(t, strings.Replace(shop, `package="shop" `, "", 1), api.ErrDeclMiss, 0)
	refused(t, strings.Replace(shop, `version="1"`, `version="x"`, 1), api.ErrDeclValue, strings.Index(shop, `version="1"`))
	refused(t, strings.Replace(shop, `type="Side"`, `type="Sides"`, 1), api.ErrTypeNone, strings.Index(shop, `<field name="side"`))
	refused(t, strings.Replace(shop, `id="1">`, `id="65535">`, 1), api.ErrHeader, strings.Index(shop, `<sbe:message `))
	refused(t, strings.Repeat(" ", api.MaxInput)+shop, api.ErrXMLSize, api.MaxInput)
}

// holdLoad holds what Load answers of any text against what schema.Load does.
func holdLoad(t *testing.T, text string) bool {
	t.Helper()
	c, fault := sbe.Load(text)
	s, e, at := schema.Load(text)
	if fault != (api.Fault{Err: e, At: at}) || (c == nil) != (e != ok) {
		t.Fatalf("P26.1: Load(%s) = %v, %v; want %v, %d", short(text), c, fault, e, at)
	}
	if c != nil && !reflect.DeepEqual(c.Schema(), s) {
		t.Fatalf("P26.2: Schema of %s = %v; want %v", short(text), c.Schema(), s)
	}
	return c != nil
}

// P26.1, P26.2: schemas, all that they begin with, and with a byte gone or another one.
func TestSpoiltTexts(t *testing.T) {
	for _, text := range []string{shop, mixed, bare, heavy(), plain(1, "", longer), crowded(10, 10)} {
		if !holdLoad(t, text) {
			t.Errorf("P26.1: %s is refused", short(text))
		}
	}
	taken := 0
	for i := range len(shop) {
		holdLoad(t, shop[:i])
		for _, s := range []string{shop[:i] + shop[i+1:], shop[:i] + "2" + shop[i+1:], shop[:i] + " " + shop[i:]} {
			if holdLoad(t, s) {
				taken++
			}
		}
	}
	if taken < 300 {
		t.Errorf("only %d spoilt texts were taken", taken)
	}
}

// P26.2: the schema that was loaded.
func TestSchema(t *testing.T) {
	s := load(t, mixed).Schema()
	if s.Package != "mixed.up" || s.ID != 300 || s.Version != 3 || s.Order != api.Big || s.Types[s.Header].Name != "head" || len(s.Parts) != 22 {
		t.Errorf("P26.2: Schema = %+v", s)
	}
	if s := load(t, bare).Schema(); s.Package != "b" || len(s.Parts) != 0 {
		t.Errorf("P26.2: Schema = %+v", s)
	}
}

// P26.2: the forms of all messages at all versions, and of names and versions that there are none of.
func TestForms(t *testing.T) {
	made := 0
	for _, text := range []string{shop, mixed, bare, plain(1, "", longer)} {
		c, again := both(t, text)
		for _, name := range []string{"Order", "All", "None", "Late", "M", "order", "Order ", "", "num", "shop", "a", "messageHeader"} {
			for version := -2; version < 6; version++ {
				if f, e := holdForm(t, c, again, name, version); e == ok {
					made++
					if f.Version != version || f.Tokens[0].Name != name {
						t.Errorf("P26.2: Form(%s, %d) is another's: %v", name, version, f)
					}
				}
			}
		}
	}
	if made != 2+4+3+2+2 {
		t.Errorf("P26.2: %d forms were made", made)
	}
}

// P26.2: no message of the name stands ahead of no such version.
func TestFormErrors(t *testing.T) {
	c := load(t, mixed)
	for _, x := range []struct {
		name    string
		version int
		want    api.Errno
	}{
		{"Zed", -1, api.ErrMessage}, {"Zed", 99, api.ErrMessage}, {"Zed", 1, api.ErrMessage}, {"", 1, api.ErrMessage},
		{"Late", 1, api.ErrVersion}, {"Late", 4, api.ErrVersion}, {"Late", -1, api.ErrVersion}, {"None", 0, api.ErrVersion}, {"All", 4, api.ErrVersion},
	} {
		if f, e := c.Form(x.name, x.version); e != x.want || !reflect.DeepEqual(f, api.Form{}) {
			t.Errorf("P26.2: Form(%q, %d) = %v, %v; want %v", x.name, x.version, f, e, x.want)
		}
		if s, e := c.Encode(x.name, x.version, nil); s != "" || e != x.want {
			t.Errorf("P26.3: Encode(%q, %d) = %q, %v; want %v", x.name, x.version, s, e, x.want)
		}
		if lines, b, e := c.Run(x.name, x.version, []byte("????"), 0, "next"); lines != nil || b != nil || e != x.want {
			t.Errorf("P26.6: Run(%q, %d) = %q, %q, %v; want %v", x.name, x.version, lines, b, e, x.want)
		}
	}
}
