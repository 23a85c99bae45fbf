package script

import (
	"slices"
	"strconv"
	"strings"

	"seiche/api"
	"seiche/crew"
	"seiche/disk"
	"seiche/impact"
	"seiche/kvlog"
)

// cacheName is the cache's file.
const cacheName = "cache"

// runner is a world, its cache and its device, and what the commands have said of the next ones.
type runner struct {
	device  *disk.Device
	cache   *kvlog.Store
	most    int
	world   *impact.World
	files   []api.File
	commits []api.Id
	config  api.Config
}

// do does a command; what it says.
func (r *runner) do(c command) string {
	n, s := c.numbers, c.texts
	switch c.word {
	case "world":
		return r.newWorld(n[0], n[1])
	case "file":
		return r.file(s[0], s[1])
	case "gone":
		return r.gone(s[0])
	case "commit":
		return r.commit(s[0])
	case "config":
		r.config = api.Config{OS: s[0], Arch: s[1], Cgo: n[0] != 0, Level: n[1]}
	case "tag":
		r.config.Tags = append(r.config.Tags, s[0])
	case "analyze":
		return r.analyze(n[0], n[1])
	case "why":
		return r.why(n[0], n[1], api.Unit{Dir: s[0], Kind: n[2]})
	case "faults":
		return r.faults(n[0])
	case "counts":
		return r.counts()
	case "evict":
		return sayDone(r.cache.Evict(n[0]))
	case "compact":
		return sayDone(r.cache.Compact())
	case "sync":
		return sayDone(r.cache.Sync())
	case "arm":
		r.device.Arm(n[0], n[1], n[2] != 0)
	case "crash":
		return r.crash(n[0], n[1] != 0)
	}
	return sayDone(api.OK)
}

// newWorld begins anew, with an empty device.
func (r *runner) newWorld(room, most int) string {
	*r = runner{device: disk.New(room), most: most}
	e := r.open()
	r.world = impact.New(r.cache)
	return sayDone(e)
}

// open opens the cache; with an error there is none.
func (r *runner) open() api.Errno {
	cache, e := kvlog.Open(r.device, cacheName, r.most)
	r.cache = cache
	return e
}

// file puts a file behind all others.
func (r *runner) file(path, data string) string {
	r.gone(path)
	data = strings.ReplaceAll(strings.ReplaceAll(data, "_", " "), "|", "\n")
	r.files = append(r.files, api.File{Path: path, Data: data})
	return sayDone(api.OK)
}

// gone takes a file away.
func (r *runner) gone(path string) string {
	i := slices.IndexFunc(r.files, func(f api.File) bool { return f.Path == path })
	if i < 0 {
		return sayDone(api.ErrNone)
	}
	r.files = slices.Delete(r.files, i, i+1)
	return sayDone(api.OK)
}

// commit commits the files.
func (r *runner) commit(note string) string {
	id, e := r.world.Commit(note, r.files...)
	if e != api.OK {
		return sayDone(e)
	}
	r.commits = append(r.commits, id)
	return strconv.Itoa(len(r.commits))
}

// id is the name of the n-th commit, counted from 1 on; noughts, if it isn't there.
func (r *runner) id(n int) api.Id {
	if n < 1 || n > len(r.commits) {
		return api.Id{}
	}
	return r.commits[n-1]
}

// analyze says which units are affected.
func (r *runner) analyze(a, b int) string {
	hits, e := r.world.Analyze(r.id(a), r.id(b), r.config)
	if e != api.OK {
		return sayDone(e)
	}
	words := []string{strconv.Itoa(len(hits))}
	for _, h := range hits {
		words = append(words, sayHit(h))
	}
	return strings.Join(words, " ")
}

// why says why a unit is affected.
func (r *runner) why(a, b int, u api.Unit) string {
	row, e := r.world.Why(r.id(a), r.id(b), r.config, u)
	if e != api.OK {
		return sayDone(e)
	}
	var words []string
	for _, x := range row {
		words = append(words, sayUnit(x))
	}
	return strings.Join(words, " ")
}

// faults says which files' headers are faults.
func (r *runner) faults(workers int) string {
	var texts []string
	for _, f := range r.files {
		texts = append(texts, f.Data)
	}
	places, e := crew.Faults(workers, texts...)
	if e != api.OK {
		return sayDone(e)
	}
	words := []string{strconv.Itoa(len(places))}
	for _, i := range places {
		words = append(words, r.files[i].Path)
	}
	return strings.Join(words, " ")
}

// counts says how much was reckoned, and is kept.
func (r *runner) counts() string {
	parsed, loaded := r.world.Counts()
	return strconv.Itoa(parsed) + " " + strconv.Itoa(loaded) + " " + strconv.Itoa(len(r.cache.Keys()))
}

// crash takes the power away, and gives it back.
func (r *runner) crash(keep int, torn bool) string {
	if r.world == nil {
		return sayDone(api.ErrNil)
	}
	r.device.Off(keep, torn)
	r.device.On()
	r.device.Arm(0, 0, false)
	e := r.open()
	r.world.Use(r.cache)
	return sayDone(e)
}

// sayDone says that something is done, or its error.
func sayDone(e api.Errno) string {
	if e == api.OK {
		return "ok"
	}
	return "error " + strconv.Itoa(int(e))
}

// sayUnit says a unit.
func sayUnit(u api.Unit) string {
	return u.Dir + ":" + strconv.Itoa(u.Kind)
}

// sayHit says a unit that is affected, and why.
func sayHit(h api.Hit) string {
	s := sayUnit(h.Unit) + ":" + strconv.Itoa(h.Reason)
	if h.Reason == api.IsDeep {
		s += ":" + sayUnit(h.By)
	}
	return s
}
