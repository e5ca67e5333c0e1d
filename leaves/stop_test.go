package leaves

import (
	"iter"
	"testing"

	"cabochon/api"
)

// Who goes over leaves may stop at each of them; a sequence that went on behind that would panic.
func TestW1SequencesMayBeLeft(t *testing.T) {
	num := api.Doc{Kind: api.DInt}
	d := api.Doc{Kind: api.DRec, Keys: []string{"a", "b"}, Kids: []api.Doc{{Kind: api.DDict, Keys: []string{"x"}, Kids: []api.Doc{num}}, num}}
	l := Flat(d)
	for what, all := range map[string]iter.Seq[api.Leaf]{
		"parts":  parts(d),
		"copies": copies(l),
		"moved":  moved(l, []string{"a"}, []string{"c"}),
	} {
		for stop := range len(l) + 1 {
			n := 0
			for range all {
				if n == stop {
					break
				}
				n++
			}
			if n != stop {
				t.Errorf("%s: %d leaves, not %d", what, n, stop)
			}
		}
	}
}
