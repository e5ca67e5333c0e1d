package merge

import (
	"cmp"
	"maps"
	"slices"
	"strconv"

	"cabochon/api"
	"cabochon/apply"
	"cabochon/leaves"
)

// part is what three states have at a place, which is told as a clash there would be: nil is none.
type part struct {
	at  api.Clash
	has [3]*api.Doc // base's, left's, right's
}

// parts is those of three states, of memory of their own: documents' by rising paths, and then what is left out, by rising places.
func parts(three [3]api.State) []part {
	var docs [3][]api.Leaf
	var out [3][]api.Res
	for i, s := range three {
		docs[i], out[i] = leaves.Flat(s.Doc), apply.Copy(s).Res
	}
	return append(gathered(docs, ofDoc), gathered(out, ofOut)...)
}

func ofDoc(x api.Leaf) (api.Clash, api.Doc) { return api.Clash{Path: x.Path}, x.Doc }

func ofOut(x api.Res) (api.Clash, api.Doc) {
	return api.Clash{Out: true, Edge: x.Edge, Step: x.Step, Path: x.At}, x.Doc
}

// gathered is the parts of three rows, by rising places. tell tells of what stands in them where it is, and what.
func gathered[T any](rows [3][]T, tell func(x T) (api.Clash, api.Doc)) []part {
	all := map[string]part{}
	for i, row := range rows {
		for _, x := range row {
			at, d := tell(x)
			p := all[key(at)]
			p.at, p.has[i] = at, &d
			all[key(at)] = p
		}
	}
	return slices.SortedFunc(maps.Values(all), func(a, b part) int { return order(a.at, b.at) })
}

// key is a place as a map can hold it: unlike ones are unlike. As keys may have any bytes, each is told with its length ahead.
func key(at api.Clash) string {
	b := strconv.AppendInt(nil, int64(at.Edge), 10)
	for _, n := range at.Step {
		b = strconv.AppendInt(append(b, ' '), int64(n), 10)
	}
	for _, s := range at.Path {
		b = strconv.AppendInt(append(b, '/'), int64(len(s)), 10)
		b = append(append(b, ':'), s...)
	}
	return string(b)
}

// order is -1, if the place a comes ahead of b, 1, if it comes behind, 0, if it is the same: of places in documents, or of those of what is left out.
func order(a, b api.Clash) int {
	return cmp.Or(cmp.Compare(a.Edge, b.Edge), slices.Compare(a.Step, b.Step), slices.Compare(a.Path, b.Path))
}
