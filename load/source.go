package load

import (
	"slices"

	"seiche/api"
	"seiche/header"
	"seiche/tree"
)

// Source tells files' headers, by the names of their bytes: those that it knows, or that it parses out of a store.
type Source struct {
	*tree.Store
	known  map[api.Id]api.Header
	parsed []api.Id
}

// From: a source of a store, that knows nothing yet.
func From(s *tree.Store) *Source {
	return &Source{Store: s, known: map[api.Id]api.Header{}}
}

// Tell lets it know a header.
func (s *Source) Tell(id api.Id, h api.Header) {
	if s != nil {
		s.known[id] = cloneHeader(h)
	}
}

// Header: a file's; ErrNil, ErrNone.
func (s *Source) Header(id api.Id) (api.Header, api.Errno) {
	if s == nil {
		return api.Header{}, api.ErrNil
	}
	h, ok := s.known[id]
	if !ok {
		data, e := s.Blob(id)
		if e != api.OK {
			return api.Header{}, e
		}
		h = header.Parse(data)
		s.known[id] = h
		s.parsed = append(s.parsed, id)
	}
	return cloneHeader(h), api.OK
}

// Parsed: the names of the bytes that it parsed, in order.
func (s *Source) Parsed() []api.Id {
	if s == nil {
		return nil
	}
	return slices.Clone(s.parsed)
}

// cloneHeader is a header that shares no list with another one.
func cloneHeader(h api.Header) api.Header {
	h.Imports = slices.Clone(h.Imports)
	h.Embeds = slices.Clone(h.Embeds)
	return h
}
