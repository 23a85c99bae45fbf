package impact

import (
	"slices"

	"seiche/api"
	"seiche/graph"
	"seiche/load"
)

// parting is two graphs, of which one came behind the other.
type parting struct {
	elder *graph.Graph
	newer *graph.Graph
}

// affected: whether a unit isn't made of the same in both, or is in one alone.
func (p *parting) affected(u api.Unit) bool {
	a, inElder := p.elder.Sum(u)
	b, inNewer := p.newer.Sum(u)
	return inElder != inNewer || a != b
}

// hits: all units that are affected, in order, and why.
func (p *parting) hits() []api.Hit {
	units := append(p.elder.Units(), p.newer.Units()...)
	slices.SortFunc(units, graph.Compare)
	var out []api.Hit
	for _, u := range slices.Compact(units) {
		if p.affected(u) {
			out = append(out, p.hit(u))
		}
	}
	return out
}

// hit: why a unit is affected.
func (p *parting) hit(u api.Unit) api.Hit {
	a, inElder := p.elder.Node(u)
	b, inNewer := p.newer.Node(u)
	switch {
	case !inElder:
		return api.Hit{Unit: u, Reason: api.IsNew}
	case !inNewer:
		return api.Hit{Unit: u, Reason: api.IsGone}
	case load.Text(a.Part) != load.Text(b.Part) || !slices.Equal(a.Leans, b.Leans):
		return api.Hit{Unit: u, Reason: api.IsSelf}
	}
	h := api.Hit{Unit: u, Reason: api.IsDeep}
	if i := slices.IndexFunc(b.Leans, p.affected); i >= 0 {
		h.By = b.Leans[i]
	}
	return h
}

// row: the shortest row of affected units from one to the first one that is so by itself; of several, the first in order.
func (p *parting) row(u api.Unit) []api.Unit {
	// Units are met along the rows in their order: the first one to be met that is no more by others ends the row that is asked for.
	ahead := map[api.Unit]api.Unit{u: u}
	met := []api.Unit{u}
	for i := 0; i < len(met); i++ {
		if p.hit(met[i]).Reason != api.IsDeep {
			return back(ahead, met[i])
		}
		n, _ := p.newer.Node(met[i])
		for _, v := range n.Leans {
			if _, ok := ahead[v]; !ok && p.affected(v) {
				ahead[v] = met[i]
				met = append(met, v)
			}
		}
	}
	return nil
}

// back: the row that ends with a unit, by the one ahead of each.
func back(ahead map[api.Unit]api.Unit, u api.Unit) []api.Unit {
	row := []api.Unit{u}
	for ahead[u] != u {
		u = ahead[u]
		row = append(row, u)
	}
	slices.Reverse(row)
	return row
}
