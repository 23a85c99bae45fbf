package graph

import (
	"container/heap"
	"slices"

	"seiche/api"
)

// group is units that lean on one another, in order, its sum, how often they lean on others that don't stand ahead of it yet, and who leans on it.
type group struct {
	units  []api.Unit
	sum    api.Id
	waits  int
	behind []*group
}

// finder is a way through the nodes along what they lean on: when each was met, and those, in order, whose group isn't known yet.
type finder struct {
	graph  *Graph
	met    map[api.Unit]int
	row    []*node
	groups []*group
}

// find: the groups of all units, in no order that counts.
func (g *Graph) find() []*group {
	f := &finder{graph: g, met: map[api.Unit]int{}}
	for _, u := range g.units {
		if f.met[u] == 0 {
			f.visit(u)
		}
	}
	return f.groups
}

// visit goes through what can be reached from a unit; when the first one was met of those without a group.
func (f *finder) visit(u api.Unit) int {
	met := len(f.met) + 1
	f.met[u] = met
	n := f.graph.nodes[u]
	f.row = append(f.row, n)
	first := met
	for _, v := range n.leans {
		if f.met[v] == 0 {
			first = min(first, f.visit(v))
		} else if f.graph.nodes[v].group == nil {
			first = min(first, f.met[v])
		}
	}
	if first == met {
		f.close(n)
	}
	return first
}

// close makes a group of all nodes that were met from one on.
func (f *finder) close(first *node) {
	g := &group{}
	for first.group == nil {
		n := f.row[len(f.row)-1]
		f.row = f.row[:len(f.row)-1]
		n.group = g
		g.units = append(g.units, n.part.Unit)
	}
	slices.SortFunc(g.units, Compare)
	f.groups = append(f.groups, g)
}

// order: groups in their order.
func (g *Graph) order(groups []*group) []*group {
	next := &ready{}
	for _, x := range groups {
		g.join(x)
	}
	for _, x := range groups {
		if x.waits == 0 {
			heap.Push(next, x)
		}
	}
	out := make([]*group, 0, len(groups))
	for next.Len() > 0 {
		x := heap.Pop(next).(*group)
		out = append(out, x)
		for _, y := range x.behind {
			y.waits--
			if y.waits == 0 {
				heap.Push(next, y)
			}
		}
		x.behind = nil
	}
	return out
}

// join tells the groups on which a group leans of it.
func (g *Graph) join(x *group) {
	for _, u := range x.units {
		for _, v := range g.nodes[u].leans {
			if other := g.nodes[v].group; other != x {
				other.behind = append(other.behind, x)
				x.waits++
			}
		}
	}
}

// ready is the groups that can come next, as a heap.
type ready []*group

// Len: how many there are; Less, Swap: of two of them.
func (r ready) Len() int { return len(r) }

func (r ready) Less(i, j int) bool { return Compare(r[i].units[0], r[j].units[0]) < 0 }

func (r ready) Swap(i, j int) { r[i], r[j] = r[j], r[i] }

// Push puts one to the end; Pop takes the last one.
func (r *ready) Push(x any) { *r = append(*r, x.(*group)) }

func (r *ready) Pop() any {
	last := (*r)[len(*r)-1]
	*r = (*r)[:len(*r)-1]
	return last
}
