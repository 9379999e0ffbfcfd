package group

import (
	"belvedere/api"
	"belvedere/sum"
	"belvedere/value"
)

// To which side the farthest value is looked for: as value.Compare tells it.
const (
	down = -1
	up   = 1
)

// reckon is what a reckons of z; of a Kind that is none, Null.
func reckon(a api.Agg, z []api.Entry) (api.Value, error) {
	switch a.Kind {
	case api.Count:
		return intOf(weights(z))
	case api.Sum:
		return sumOf(a.Col, z)
	case api.Min:
		return farthest(down, a.Col, z), nil
	case api.Max:
		return farthest(up, a.Col, z), nil
	}
	return api.Value{}, nil
}

// weights is z's weights together.
func weights(z []api.Entry) sum.Total {
	var t sum.Total
	for _, e := range z {
		t.Add(e.Weight, 1)
	}
	return t
}

// sumOf is the Ints of column c, each so often, together; Null, if there is none.
func sumOf(c int, z []api.Entry) (api.Value, error) {
	var t sum.Total
	found := false
	for _, e := range z {
		if v := at(e.Row, c); v.Kind == api.Int && e.Weight != 0 {
			t.Add(e.Weight, v.N)
			found = true
		}
	}
	if !found {
		return api.Value{}, nil
	}
	return intOf(t)
}

// farthest is the value of column c that is farthest to that side, of entries whose weight is above 0; Null, if there is none.
func farthest(side, c int, z []api.Entry) api.Value {
	var found api.Value
	for _, e := range z {
		v := at(e.Row, c)
		if e.Weight <= 0 || v.Kind == api.Null {
			continue
		}
		if found.Kind == api.Null || value.Compare(v, found) == side {
			found = v
		}
	}
	return found
}

// intOf is t as an Int.
func intOf(t sum.Total) (api.Value, error) {
	n, ok := t.Int64()
	if !ok {
		return api.Value{}, api.ErrOver
	}
	return value.Of(n), nil
}
