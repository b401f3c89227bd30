package decl

import (
	"strconv"
	"strings"

	"stencil/api"
	"stencil/number"
	"stencil/text"
)

// maxDotted is how many bytes a dotted name has at most.
const maxDotted = 255

var orders = [...]string{api.Little: "littleEndian", api.Big: "bigEndian"}

var presences = [...]string{api.Required: "required", api.Optional: "optional", api.Constant: "constant"}

// draft is a declaration into which attributes' values are read, and from which they are told; place is that of the attribute that is being read.
type draft struct {
	api.Decl
	place int
}

func giveUp(err api.Errno, at int) { panic(api.Fault{Err: err, At: at}) }

// demand gives up at the attribute that is being read, if its value is none.
func (d *draft) demand(is bool) {
	if !is {
		giveUp(api.ErrDeclValue, d.place)
	}
}

func (d *draft) symbol(value string) string {
	d.demand(text.Symbol(value))
	return strings.Clone(value)
}

func (d *draft) filled(value string) string {
	d.demand(value != "")
	return strings.Clone(value)
}

func (d *draft) upTo(most int, value string) int {
	n, err, _ := number.Int(value, most)
	d.demand(err == api.OK)
	return n
}

func isDotted(s string) bool {
	if len(s) > maxDotted {
		return false
	}
	for part := range strings.SplitSeq(s, ".") {
		if !text.Symbol(part) {
			return false
		}
	}
	return true
}

func isRef(s string) bool {
	enum, name, parted := strings.Cut(s, ".")
	return parted && text.Symbol(enum) && text.Symbol(name)
}

func (d *draft) readName(value string) { d.Name = d.symbol(value) }

func (d *draft) readPackage(value string) {
	d.demand(isDotted(value))
	d.Name = strings.Clone(value)
}

func (d *draft) readType(value string) { d.Type = d.symbol(value) }

func (d *draft) readID(value string) { d.ID = d.upTo(api.MaxID, value) }

func (d *draft) readVersion(value string) { d.Version = d.upTo(api.MaxVersion, value) }

func (d *draft) readLength(value string) { d.Length = d.upTo(api.MaxLength, value) }

func (d *draft) readOffset(value string) { d.Offset = d.upTo(api.MaxBlock, value) }

func (d *draft) readBlock(value string) { d.Block = d.upTo(api.MaxBlock, value) }

func (d *draft) readSince(value string) { d.Since = d.upTo(api.MaxVersion, value) }

func (d *draft) readDeprecated(value string) { d.Deprecated = d.upTo(api.MaxVersion, value) }

func (d *draft) readNull(value string) { d.Null = d.filled(value) }

func (d *draft) readMin(value string) { d.Min = d.filled(value) }

func (d *draft) readMax(value string) { d.Max = d.filled(value) }

func (d *draft) readNote(value string) { d.Note = strings.Clone(value) }

func (d *draft) readMeaning(value string) { d.Meaning = strings.Clone(value) }

func (d *draft) readRef(value string) {
	d.demand(isRef(value))
	d.Value = strings.Clone(value)
}

func (d *draft) readOrder(value string) {
	for order, word := range orders {
		if word == value {
			d.Order = api.Endian(order)
			return
		}
	}
	d.demand(false)
}

func (d *draft) readPresence(value string) {
	for presence, word := range presences {
		if word == value {
			d.Presence, d.HasPresence = api.Presence(presence), true
			return
		}
	}
	d.demand(false)
}

func (d *draft) writeName() string { return d.Name }

func (d *draft) writeType() string { return d.Type }

func (d *draft) writeID() string { return strconv.Itoa(d.ID) }

func (d *draft) writeVersion() string { return strconv.Itoa(d.Version) }

func (d *draft) writeLength() string { return strconv.Itoa(d.Length) }

func (d *draft) writeOffset() string { return strconv.Itoa(d.Offset) }

func (d *draft) writeBlock() string { return strconv.Itoa(d.Block) }

func (d *draft) writeSince() string { return strconv.Itoa(d.Since) }

func (d *draft) writeDeprecated() string { return strconv.Itoa(d.Deprecated) }

func (d *draft) writeNull() string { return d.Null }

func (d *draft) writeMin() string { return d.Min }

func (d *draft) writeMax() string { return d.Max }

func (d *draft) writeNote() string { return d.Note }

func (d *draft) writeMeaning() string { return d.Meaning }

func (d *draft) writeRef() string { return d.Value }

// writeOrder tells what is no order by a word that isn't read as one.
func (d *draft) writeOrder() string {
	if d.Order < 0 || int(d.Order) >= len(orders) {
		return ""
	}
	return orders[d.Order]
}

// writePresence tells "" where none is written, and of what is none.
func (d *draft) writePresence() string {
	if !d.HasPresence || d.Presence < 0 || int(d.Presence) >= len(presences) {
		return ""
	}
	return presences[d.Presence]
}
