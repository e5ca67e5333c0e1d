package lens

import (
	"cabochon/api"
	"cabochon/schema"
)

// deepest is how deep steps may stand within one another.
const deepest = 8

// Target is what the steps of l, one behind the other, make of the record t, and how many they are; or a zero type, the place of the first one that may not be, and why.
func Target(t api.Type, l []api.Lens) (api.Type, int, api.Errno) {
	if err := bounded(t, l); err != api.OK {
		return api.Type{}, 0, err
	}
	made, at, err := through(t, l)
	if err != api.OK {
		return api.Type{}, at, err
	}
	return schema.Copy(made), at, api.OK // steps leave what they do not change where it was
}

// bounded tells why t and l may not be, whatever the steps are.
func bounded(t api.Type, l []api.Lens) api.Errno {
	switch {
	case t.Kind != api.TRec || !schema.Right(t):
		return api.ErrArg
	case !few(l):
		return api.ErrFull
	case Depth(l) > deepest:
		return api.ErrDeep
	}
	return api.OK
}

// few is whether l has no more steps than there may be. It stops at the first one too many: rows that share their steps may come to far more of them than there is time for.
func few(l []api.Lens) bool {
	steps := 0
	return over(l, func(*api.Lens, int) bool {
		steps++
		return steps <= api.MaxSteps
	})
}

// through is Target of what is bounded. What it tells may share memory with t and l.
func through(t api.Type, l []api.Lens) (api.Type, int, api.Errno) {
	for i, s := range l {
		made, err := told(s)(t)
		if err == api.OK && !schema.Right(made) {
			err = api.ErrFull // the first that is too much: all that a step is given is right
		}
		if err != api.OK {
			return api.Type{}, i, err
		}
		t = made
	}
	return t, len(l), api.OK
}

// told is what s does, whatever record it comes to.
func told(s api.Lens) step {
	switch s.Kind {
	case api.LRename:
		return rename(s.A, s.B)
	case api.LAdd:
		return add(s.A, s.Type, s.Doc)
	case api.LRemove:
		return remove(s.A, s.Type, s.Doc)
	case api.LHoist:
		return hoist(s.A, s.B)
	case api.LPlunge:
		return plunge(s.A, s.B)
	case api.LWrap:
		return retype(s.A, wrap)
	case api.LHead:
		return retype(s.A, head)
	case api.LConvert:
		return retype(s.A, convert(s.Swaps))
	case api.LIn:
		return retype(s.A, in(s.Subs))
	case api.LMap:
		return retype(s.A, inEach(s.Subs))
	}
	return func(api.Type) (api.Type, api.Errno) { return api.Type{}, api.ErrArg }
}
