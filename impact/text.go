package impact

import (
	"iter"

	"seiche/api"
	"seiche/code"
	"seiche/load"
)

// fields: a header's fields as texts, one after the other.
func fields(h api.Header) iter.Seq[string] {
	return func(yield func(string) bool) {
		ok := yield(h.Name) && yield(h.Build) && yield(code.Num(h.Fault)) && yield(code.Num(h.At)) && yield(code.Join(h.Embeds...))
		for i := 0; ok && i < len(h.Imports); i++ {
			x := h.Imports[i]
			ok = yield(x.Name) && yield(x.Path) && yield(code.Num(x.At))
		}
	}
}

// How many fields a header has ahead of its imports, and how many each of these has.
const (
	firstFields  = 5
	importFields = 3
)

// headerText is a header as a text.
func headerText(h api.Header) string {
	var parts []string
	for x := range fields(h) {
		parts = append(parts, x)
	}
	return code.Join(parts...)
}

// readHeader: the header that has a text; false: none has.
func readHeader(s string) (api.Header, bool) {
	parts, e := code.Split(s)
	if e != api.OK || len(parts) < firstFields || (len(parts)-firstFields)%importFields != 0 {
		return api.Header{}, false
	}
	fault, ok1 := code.ReadNum(parts[2])
	at, ok2 := code.ReadNum(parts[3])
	embeds, e := code.Split(parts[4])
	imports, ok3 := readImports(parts[firstFields:])
	if !ok1 || !ok2 || !ok3 || e != api.OK {
		return api.Header{}, false
	}
	return api.Header{Name: parts[0], Imports: imports, Build: parts[1], Embeds: embeds, Fault: fault, At: at}, true
}

// readImports: the imports that have such fields; false: none have.
func readImports(parts []string) ([]api.Import, bool) {
	var list []api.Import
	for i := 0; i < len(parts); i += importFields {
		at, ok := code.ReadNum(parts[i+2])
		if !ok {
			return nil, false
		}
		list = append(list, api.Import{Name: parts[i], Path: parts[i+1], At: at})
	}
	return list, true
}

// partsText is a package's parts as a text.
func partsText(parts []api.Part) string {
	var texts []string
	for _, p := range parts {
		texts = append(texts, load.Text(p))
	}
	return code.Join(texts...)
}

// readParts: the parts that have a text; false: none have.
func readParts(s string) ([]api.Part, bool) {
	texts, e := code.Split(s)
	if e != api.OK {
		return nil, false
	}
	var parts []api.Part
	for _, x := range texts {
		p, e := load.Read(x)
		if e != api.OK {
			return nil, false
		}
		parts = append(parts, p)
	}
	return parts, true
}

// inputText is files' paths, and the names of their bytes, as a text.
func inputText(list []api.Input) string {
	var parts []string
	for _, x := range list {
		parts = append(parts, x.Path, string(x.Id[:]))
	}
	return code.Join(parts...)
}
