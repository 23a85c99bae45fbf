package load

import (
	"seiche/api"
	"seiche/code"
)

// Text: a part as a text; two that aren't the same have two.
func Text(p api.Part) string {
	return code.Join(p.Unit.Dir, code.Num(p.Unit.Kind), p.Name, code.Num(p.Fault), putInputs(p.Files), putInputs(p.Embeds), putDeps(p.Deps))
}

// Read: the part that has a text; ErrForm.
func Read(s string) (api.Part, api.Errno) {
	x, ok := split(s, 7)
	if !ok || len(x) != 7 {
		return api.Part{}, api.ErrForm
	}
	kind, ok1 := number(x[1])
	fault, ok2 := number(x[3])
	files, ok3 := getInputs(x[4])
	embeds, ok4 := getInputs(x[5])
	deps, ok5 := getDeps(x[6])
	if !ok1 || !ok2 || !ok3 || !ok4 || !ok5 {
		return api.Part{}, api.ErrForm
	}
	return api.Part{Unit: api.Unit{Dir: x[0], Kind: kind}, Name: x[2], Files: files, Embeds: embeds, Deps: deps, Fault: fault}, api.OK
}

// putInputs: files as a text.
func putInputs(list []api.Input) string {
	parts := make([]string, 0, 2*len(list))
	for _, x := range list {
		parts = append(parts, x.Path, string(x.Id[:]))
	}
	return code.Join(parts...)
}

// getInputs: the files that have a text; false: none have.
func getInputs(s string) ([]api.Input, bool) {
	parts, ok := split(s, 2)
	if !ok {
		return nil, false
	}
	var list []api.Input
	for i := 0; i < len(parts); i += 2 {
		x := api.Input{Path: parts[i]}
		if len(parts[i+1]) != len(x.Id) {
			return nil, false
		}
		copy(x.Id[:], parts[i+1])
		list = append(list, x)
	}
	return list, true
}

// putDeps: what is imported as a text.
func putDeps(list []api.Dep) string {
	parts := make([]string, 0, 3*len(list))
	for _, x := range list {
		parts = append(parts, x.Path, code.Num(x.Place.Kind), x.Place.Dir)
	}
	return code.Join(parts...)
}

// getDeps: what is imported that has a text; false: nothing has.
func getDeps(s string) ([]api.Dep, bool) {
	parts, ok := split(s, 3)
	if !ok {
		return nil, false
	}
	var list []api.Dep
	for i := 0; i < len(parts); i += 3 {
		kind, ok := number(parts[i+1])
		if !ok {
			return nil, false
		}
		list = append(list, api.Dep{Path: parts[i], Place: api.Place{Kind: kind, Dir: parts[i+2]}})
	}
	return list, true
}

// split: the parts that are joined to a text; false: none are, or they make no rows of so many each.
func split(s string, each int) ([]string, bool) {
	parts, e := code.Split(s)
	return parts, e == api.OK && len(parts)%each == 0
}

// number: the number that a text is; false: it is none.
func number(s string) (int, bool) {
	n, ok := code.ReadNum(s)
	return n, ok && code.Num(n) == s
}
