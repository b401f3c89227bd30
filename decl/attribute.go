package decl

import "stencil/api"

// attribute is one that elements may have: how its value is read into a declaration, and how it is told from there.
type attribute struct {
	name  string
	must  bool // wherever it may stand it must
	read  func(d *draft, value string)
	write func(d *draft) string
}

// attributesByKind has each Kind's attributes, in the order in which they are written.
func attributesByKind() [api.DeclData + 1][]attribute {
	name := attribute{"name", true, (*draft).readName, (*draft).writeName}
	pack := attribute{"package", true, (*draft).readPackage, (*draft).writeName}
	primitive := attribute{"primitiveType", true, (*draft).readType, (*draft).writeType}
	coding := attribute{"encodingType", true, (*draft).readType, (*draft).writeType}
	named := attribute{"type", true, (*draft).readType, (*draft).writeType}
	header := attribute{"headerType", false, (*draft).readType, (*draft).writeType}
	dimension := attribute{"dimensionType", false, (*draft).readType, (*draft).writeType}
	id := attribute{"id", true, (*draft).readID, (*draft).writeID}
	version := attribute{"version", false, (*draft).readVersion, (*draft).writeVersion}
	order := attribute{"byteOrder", false, (*draft).readOrder, (*draft).writeOrder}
	length := attribute{"length", false, (*draft).readLength, (*draft).writeLength}
	presence := attribute{"presence", false, (*draft).readPresence, (*draft).writePresence}
	null := attribute{"nullValue", false, (*draft).readNull, (*draft).writeNull}
	least := attribute{"minValue", false, (*draft).readMin, (*draft).writeMin}
	most := attribute{"maxValue", false, (*draft).readMax, (*draft).writeMax}
	offset := attribute{"offset", false, (*draft).readOffset, (*draft).writeOffset}
	block := attribute{"blockLength", false, (*draft).readBlock, (*draft).writeBlock}
	ref := attribute{"valueRef", false, (*draft).readRef, (*draft).writeRef}
	since := attribute{"sinceVersion", false, (*draft).readSince, (*draft).writeSince}
	deprecated := attribute{"deprecated", false, (*draft).readDeprecated, (*draft).writeDeprecated}
	meaning := attribute{"semanticType", false, (*draft).readMeaning, (*draft).writeMeaning}
	note := attribute{"description", false, (*draft).readNote, (*draft).writeNote}
	return [...][]attribute{
		api.DeclSchema:    {pack, id, version, order, header, note},
		api.DeclTypes:     {},
		api.DeclType:      {name, primitive, length, presence, null, least, most, offset, meaning, note},
		api.DeclComposite: {name, offset, meaning, note},
		api.DeclRef:       {name, named, offset, meaning, note},
		api.DeclEnum:      {name, coding, offset, meaning, note},
		api.DeclValid:     {name, since, deprecated, note},
		api.DeclSet:       {name, coding, offset, meaning, note},
		api.DeclChoice:    {name, since, deprecated, note},
		api.DeclMessage:   {name, id, block, since, deprecated, meaning, note},
		api.DeclField:     {name, id, named, offset, presence, ref, since, deprecated, meaning, note},
		api.DeclGroup:     {name, id, dimension, block, since, deprecated, meaning, note},
		api.DeclData:      {name, id, named, since, deprecated, meaning, note},
	}
}
