package lens

import (
	"slices"

	"cabochon/api"
	"cabochon/doc"
	"cabochon/schema"
	"cabochon/valid"
)

// step makes of a type the one that stands there behind it, or tells why it may not be. The type that it is given is right, and stays as it is; the one that it makes need not be right. What schema.Put tells of a field (of no name, there already, too much) is what a step tells of it: it is asked ahead only where it would be told too late.
type step func(t api.Type) (api.Type, api.Errno)

func rename(a, b string) step {
	return func(t api.Type) (api.Type, api.Errno) {
		i := schema.Field(t, a)
		switch {
		case i < 0:
			return api.Type{}, api.ErrMiss
		case schema.Field(t, b) >= 0: // a is there itself until it is dropped
			return api.Type{}, api.ErrTwice
		}
		f := t.Fields[i]
		f.Name = b
		rest, _ := schema.Drop(t, a)
		return schema.Put(rest, f)
	}
}

func add(a string, of api.Type, d api.Doc) step {
	return func(t api.Type) (api.Type, api.Errno) {
		switch {
		case !doc.Name(a):
			return api.Type{}, api.ErrArg
		case schema.Field(t, a) >= 0:
			return api.Type{}, api.ErrTwice
		case !schema.Scalar(of) || !schema.Right(of):
			return api.Type{}, api.ErrType
		case !valid.Is(of, d):
			return api.Type{}, api.ErrRange
		}
		return schema.Put(t, api.Field{Name: a, Type: of})
	}
}

// at is a step at the record's field a, which must be there in each document: what it makes of the record is told by do, which is given the type of a, too.
func at(a string, do func(t, of api.Type) (api.Type, api.Errno)) step {
	return func(t api.Type) (api.Type, api.Errno) {
		i := schema.Field(t, a)
		switch {
		case i < 0:
			return api.Type{}, api.ErrMiss
		case t.Fields[i].Optional:
			return api.Type{}, api.ErrType
		}
		return do(t, t.Fields[i].Type)
	}
}

func remove(a string, what api.Type, d api.Doc) step {
	return at(a, func(t, of api.Type) (api.Type, api.Errno) {
		switch {
		case !schema.Same(of, what) || !schema.Scalar(of):
			return api.Type{}, api.ErrType
		case !valid.Is(of, d):
			return api.Type{}, api.ErrRange
		}
		return schema.Drop(t, a)
	})
}

func hoist(a, b string) step {
	return at(a, func(t, of api.Type) (api.Type, api.Errno) {
		i := schema.Field(of, b)
		switch {
		case of.Kind != api.TRec:
			return api.Type{}, api.ErrType
		case i < 0:
			return api.Type{}, api.ErrMiss
		case of.Fields[i].Optional:
			return api.Type{}, api.ErrType
		}
		rest, _ := schema.Drop(of, b)
		return schema.Put(with(t, a, rest), of.Fields[i])
	})
}

func plunge(a, b string) step {
	return at(a, func(t, of api.Type) (api.Type, api.Errno) {
		i := schema.Field(t, b)
		switch {
		case i < 0:
			return api.Type{}, api.ErrMiss
		case t.Fields[i].Optional || of.Kind != api.TRec || b == a:
			return api.Type{}, api.ErrType
		}
		whole, err := schema.Put(of, t.Fields[i])
		if err != api.OK {
			return api.Type{}, err
		}
		rest, _ := schema.Drop(t, b)
		return with(rest, a, whole), api.OK
	})
}

// retype is a step that changes nothing but the type of the field a.
func retype(a string, change step) step {
	return at(a, func(t, of api.Type) (api.Type, api.Errno) {
		made, err := change(of)
		if err != api.OK {
			return api.Type{}, err
		}
		return with(t, a, made), api.OK
	})
}

// with is the record t, of whose field a the type is of.
func with(t api.Type, a string, of api.Type) api.Type {
	t.Fields = slices.Clone(t.Fields)
	t.Fields[schema.Field(t, a)].Type = of
	return t
}

func wrap(of api.Type) (api.Type, api.Errno) {
	if !schema.Scalar(of) {
		return api.Type{}, api.ErrType
	}
	return api.Type{Kind: api.TList, Lo: 1, Hi: 1, Of: []api.Type{of}}, api.OK
}

func head(of api.Type) (api.Type, api.Errno) {
	if of.Kind != api.TList || of.Lo != 1 || of.Hi != 1 || !schema.Scalar(of.Of[0]) {
		return api.Type{}, api.ErrType
	}
	return of.Of[0], api.OK
}

// convert leaves the type as it is: each number is swapped with another one of it.
func convert(swaps [][2]int) step {
	return func(of api.Type) (api.Type, api.Errno) {
		switch {
		case of.Kind != api.TInt:
			return api.Type{}, api.ErrType
		case len(swaps) == 0 || len(swaps) > api.MaxSwaps:
			return api.Type{}, api.ErrArg
		}
		numbers := rising(swaps)
		switch {
		case len(numbers) < 2*len(swaps):
			return api.Type{}, api.ErrArg
		case numbers[0] < of.Lo || numbers[len(numbers)-1] > of.Hi:
			return api.Type{}, api.ErrRange
		}
		return of, api.OK
	}
}

// rising is the numbers that stand in swaps, each of them once, the least one first.
func rising(swaps [][2]int) []int {
	var numbers []int
	for _, pair := range swaps {
		numbers = append(numbers, pair[0], pair[1])
	}
	slices.Sort(numbers)
	return slices.Compact(numbers)
}

func in(subs []api.Lens) step {
	return func(of api.Type) (api.Type, api.Errno) {
		if of.Kind != api.TRec {
			return api.Type{}, api.ErrType
		}
		made, _, err := through(of, subs)
		return made, err
	}
}

// inEach is in, at the record that all entries of a dictionary are.
func inEach(subs []api.Lens) step {
	return func(of api.Type) (api.Type, api.Errno) {
		if of.Kind != api.TDict {
			return api.Type{}, api.ErrType
		}
		made, err := in(subs)(of.Of[0])
		if err != api.OK {
			return api.Type{}, err
		}
		of.Of = []api.Type{made}
		return of, api.OK
	}
}
