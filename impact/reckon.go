package impact

import (
	"slices"

	"seiche/api"
	"seiche/code"
	"seiche/load"
	"seiche/path"
	"seiche/resolve"
	"seiche/sha"
	"seiche/suffix"
)

// What the keys of the cache begin with, and for what digests in them are.
const (
	wordHeader  = "header"
	wordPackage = "package"
	wordCommon  = "common"
)

// reckoner reckons the packages of a tree on a platform; common is the digest of what each of them is loaded from, whatever its directory is.
type reckoner struct {
	world  *World
	source *load.Source
	tree   *resolve.Map
	config api.Config
	files  []api.Input
	common api.Id
}

// reckon: the parts of all packages of a tree, on a platform; the store's errors.
func (w *World) reckon(m *resolve.Map, c api.Config) ([]api.Part, api.Errno) {
	r := &reckoner{world: w, source: load.From(w.store), tree: m, config: c, files: m.Files()}
	r.common = r.sumCommon()
	var all []api.Part
	for _, dir := range load.Dirs(m) {
		parts, e := r.parts(dir)
		if e != api.OK {
			return nil, e
		}
		all = append(all, parts...)
	}
	return all, api.OK
}

// sumCommon is the digest of the platform, all files go.mod, and all directories with files of the language.
func (r *reckoner) sumCommon() api.Id {
	var mods []api.Input
	var dirs []string
	for _, f := range r.files {
		if path.Base(f.Path) == "go.mod" {
			mods = append(mods, f)
		}
		if dir := path.Dir(f.Path); r.tree.Has(dir) {
			dirs = append(dirs, dir)
		}
	}
	slices.SortFunc(dirs, path.Compare)
	dirs = slices.Compact(dirs)
	c := r.config
	cgo := 0
	if c.Cgo {
		cgo = 1
	}
	return sha.Sum(wordCommon, c.OS, c.Arch, code.Num(cgo), code.Num(c.Level), code.Join(c.Tags...), inputText(mods), code.Join(dirs...))
}

// key is the cache's for the package in a directory.
func (r *reckoner) key(dir string) string {
	var below []api.Input
	for _, f := range r.files {
		if _, ok := path.Under(dir, f.Path); ok {
			below = append(below, f)
		}
	}
	id := sha.Sum(wordPackage, string(r.common[:]), dir, inputText(below))
	return wordPackage + string(id[:])
}

// parts: those of the package in a directory, as the cache has them, or as they are loaded; the store's errors.
func (r *reckoner) parts(dir string) ([]api.Part, api.Errno) {
	key := r.key(dir)
	if text, ok := r.world.cache.Get(key); ok {
		if parts, ok := readParts(text); ok {
			return parts, api.OK
		}
	}
	r.tell(dir)
	before := len(r.source.Parsed())
	parts, e := load.Load(r.source, r.tree, r.config, dir)
	if e != api.OK {
		return nil, e
	}
	r.world.loaded++
	for _, id := range r.source.Parsed()[before:] {
		h, _ := r.source.Header(id)
		r.world.parsed++
		r.world.keep(headerKey(id), headerText(h))
	}
	r.world.keep(key, partsText(parts))
	return parts, api.OK
}

// tell lets the source know the headers that the cache has of the files in a directory.
func (r *reckoner) tell(dir string) {
	for _, f := range r.files {
		if path.Dir(f.Path) != dir || !suffix.Of(path.Base(f.Path)).Go {
			continue
		}
		text, _ := r.world.cache.Get(headerKey(f.Id))
		if h, ok := readHeader(text); ok {
			r.source.Tell(f.Id, h)
		}
	}
}

// keep puts something into the cache, if it takes it; without power it isn't used any more.
func (w *World) keep(key, text string) {
	if w.cache.Put(key, text) == api.ErrDown {
		w.cache = nil
	}
}

// headerKey is the cache's for the header of bytes of a name.
func headerKey(id api.Id) string {
	return wordHeader + string(id[:])
}
