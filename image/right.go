package image

import (
	"slices"

	"aquatint/api"
	"aquatint/plane"
)

const (
	maxId    = 255
	maxPlace = 3 // the last place of quantization tables
	minFirst = -1024
	minOther = -1023
	maxCoef  = 1023
	firstApp = 0xe0 // the codes of metadata
	lastApp  = 0xef
	noteCode = 0xfe
)

// Right answers an image's error.
func Right(m api.Image) api.Errno {
	return first(m, askFrame, askComps, askTables, askPlanes, askBlocks, askTags)
}

// first asks questions of an image, and answers the first error.
func first(m api.Image, questions ...func(m api.Image) api.Errno) api.Errno {
	for _, ask := range questions {
		if e := ask(m); e != api.OK {
			return e
		}
	}
	return api.OK
}

// each asks one question of all things of a list, and answers the first error.
func each[T any](l []T, ask func(i int, x T) api.Errno) api.Errno {
	for i, x := range l {
		if e := ask(i, x); e != api.OK {
			return e
		}
	}
	return api.OK
}

// unless answers an error, unless something holds.
func unless(holds bool, e api.Errno) api.Errno {
	if holds {
		return api.OK
	}
	return e
}

// within tells whether a number is one of those from a first to a last one.
func within(n, first, last int) bool { return first <= n && n <= last }

// askFrame asks for sides and factors.
func askFrame(m api.Image) api.Errno {
	_, e := Frame(m)
	return e
}

// askComps asks for components' ids and places.
func askComps(m api.Image) api.Errno {
	return each(m.Comps, func(i int, c api.Comp) api.Errno {
		ahead := slices.ContainsFunc(m.Comps[:i], func(a api.Comp) bool { return a.Id == c.Id })
		return unless(within(c.Id, 0, maxId) && !ahead && within(c.Q, 0, maxPlace), api.ErrFrame)
	})
}

// askTables asks for quantization tables, and whether they are just those that
// components have.
func askTables(m api.Image) api.Errno {
	e := each(m.Quants, func(i int, q api.Quant) api.Errno {
		rises := i == 0 || q.At > m.Quants[i-1].At
		used := slices.ContainsFunc(m.Comps, func(c api.Comp) bool { return c.Q == q.At })
		return unless(within(q.At, 0, maxPlace) && rises && used && !slices.Contains(q.Q[:], 0), api.ErrTable)
	})
	if e != api.OK {
		return e
	}
	return each(m.Comps, func(_ int, c api.Comp) api.Errno {
		_, ok := Table(m, c.Q)
		return unless(ok, api.ErrTable)
	})
}

// askPlanes asks whether planes are right, and fill their grids.
func askPlanes(m api.Image) api.Errno {
	f, e := Frame(m)
	if e != api.OK {
		return e
	}
	return each(m.Comps, func(i int, c api.Comp) api.Errno {
		g, _ := f.Grid(i)
		return unless(plane.Right(c.P) && c.P.Cols == g.Cols && c.P.Rows == g.Rows, api.ErrLen)
	})
}

// askBlocks asks for coefficients' ranges.
func askBlocks(m api.Image) api.Errno {
	return each(m.Comps, func(_ int, c api.Comp) api.Errno {
		return each(c.P.B, func(_ int, b api.Block) api.Errno {
			return unless(ranged(b), api.ErrRange)
		})
	})
}

// ranged tells whether all of a block's coefficients are in their ranges.
func ranged(b api.Block) bool {
	for _, n := range b[1:] {
		if n < minOther || n > maxCoef {
			return false
		}
	}
	return b[0] >= minFirst && b[0] <= maxCoef
}

// askTags asks for metadata.
func askTags(m api.Image) api.Errno {
	if len(m.Tags) > api.MaxTags {
		return api.ErrMany
	}
	return each(m.Tags, func(_ int, t api.Tag) api.Errno {
		if !within(t.Kind, firstApp, lastApp) && t.Kind != noteCode {
			return api.ErrKind
		}
		return unless(len(t.Body) <= api.MaxTag, api.ErrLen)
	})
}
