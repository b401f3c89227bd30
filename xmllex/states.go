package xmllex

import (
	"strings"

	"stencil/api"
	"stencil/text"
)

func (r *reader) begin() state {
	if len(r.s) > api.MaxInput {
		giveUp(api.ErrXMLSize, api.MaxInput)
	}
	if err, at := text.Chars(r.s); err != api.OK {
		giveUp(err, at)
	}
	if strings.HasPrefix(r.s, declOpen) {
		return r.declaration
	}
	return r.content
}

func (r *reader) declaration() state {
	size := declSize(r.s)
	if size == 0 {
		giveUp(api.ErrXMLDecl, 0)
	}
	r.at = size
	body := r.s[len(declOpen) : size-len(declShut)]
	r.tell(api.XTok{Kind: api.XDecl, Value: strings.Clone(body)})
	return r.content
}

// content stands between tags, and picks the state that reads what comes next.
func (r *reader) content() state {
	rest := r.s[r.at:]
	switch {
	case rest == "":
		return nil
	case rest[0] != '<':
		return r.text
	case strings.HasPrefix(rest, "</"):
		return r.endTag
	case strings.HasPrefix(rest, "<!"):
		return r.comment
	case strings.HasPrefix(rest, "<?"):
		giveUp(api.ErrXMLDecl, r.at)
	}
	return r.startTag
}

func (r *reader) text() state {
	at := r.at
	raw := r.upTo("<")
	r.tell(api.XTok{Kind: api.XText, Value: plain(raw, at), At: at})
	return r.content
}

func (r *reader) comment() state {
	at := r.at
	r.at += len("<!")
	r.expect('-')
	r.expect('-')
	body, _, ended := strings.Cut(r.s[r.at:], "--")
	if !ended {
		giveUp(api.ErrXMLEnd, len(r.s))
	}
	hyphens := r.at + len(body)
	r.at = hyphens + len("--")
	if r.peek() != '>' {
		giveUp(api.ErrXMLComment, hyphens)
	}
	r.at++
	r.tell(api.XTok{Kind: api.XComment, Value: strings.Clone(body), At: at})
	return r.content
}

func (r *reader) endTag() state {
	at := r.at
	r.at += len("</")
	name := r.name()
	r.skipBlanks()
	r.expect('>')
	r.tell(api.XTok{Kind: api.XClose, Name: name, At: at})
	return r.content
}

func (r *reader) startTag() state {
	at := r.at
	r.at += len("<")
	r.tell(api.XTok{Kind: api.XOpen, Name: r.name(), At: at})
	return r.inTag
}

// inTag stands behind a start tag's name or one of its values, and picks the state that reads what comes next.
func (r *reader) inTag() state {
	apart := r.skipBlanks()
	switch r.peek() {
	case '>':
		return r.tagEnd
	case '/':
		return r.emptyEnd
	}
	if !apart {
		giveUp(api.ErrXML, r.at)
	}
	return r.attribute
}

func (r *reader) tagEnd() state {
	r.tell(api.XTok{Kind: api.XEnd, At: r.at})
	r.at += len(">")
	return r.content
}

func (r *reader) emptyEnd() state {
	at := r.at
	r.at += len("/")
	r.expect('>')
	r.tell(api.XTok{Kind: api.XEmpty, At: at})
	return r.content
}

func (r *reader) attribute() state {
	at := r.at
	name := r.name()
	r.skipBlanks()
	r.expect('=')
	r.skipBlanks()
	r.tell(api.XTok{Kind: api.XAttr, Name: name, Value: r.value(), At: at})
	return r.inTag
}

func (r *reader) value() string {
	quote := r.peek()
	if quote != '"' && quote != '\'' {
		giveUp(api.ErrXML, r.at)
	}
	r.at++
	at := r.at
	raw := r.upTo("<" + string(rune(quote)))
	r.expect(quote)
	return plain(raw, at)
}
