package code

import (
	"iter"

	"skywave/api"
)

// CheckFrame returns the error of a frame, with the index of the sample or the gap that it concerns.
func CheckFrame(f api.CodeFrame) (int, api.Errno) {
	e := firstError(
		errorIf(outside(f.Gain, -api.MaxCodeGain, api.MaxCodeGain), api.ErrRange),
		errorIf(outside(f.Limit, 1, api.MaxCodeLimit), api.ErrRange),
		lengthError(len(f.Samples), api.MaxCodeSamples),
	)
	if e != api.OK {
		return 0, e
	}
	i, e := firstBad(f.Samples, func(_ int, sample api.Gauss) api.Errno {
		return errorIf(beyond(sample, f.Limit), api.ErrRange)
	})
	if e != api.OK {
		return i, e
	}
	return firstBad(f.Gaps, func(i, gap int) api.Errno {
		return firstError(
			errorIf(outside(gap, 0, len(f.Samples)-1), api.ErrMissing),
			errorIf(i > 0 && gap <= f.Gaps[i-1], api.ErrOrder),
		)
	})
}

// UsableIn returns the indexes of all usable samples.
func UsableIn(f api.CodeFrame) ([]int, api.Errno) {
	c, e := checked(f)
	if e != api.OK {
		return nil, e
	}
	return c.indexes(true), api.OK
}

// checkedFrame is a valid frame, and for each sample whether it is usable.
type checkedFrame struct {
	api.CodeFrame
	usable []bool
}

func checked(f api.CodeFrame) (checkedFrame, api.Errno) {
	if _, e := CheckFrame(f); e != api.OK {
		return checkedFrame{}, e
	}
	c := checkedFrame{CodeFrame: f, usable: make([]bool, len(f.Samples))}
	for i, sample := range c.Samples {
		c.usable[i] = !beyond(sample, c.Limit-1)
	}
	for _, gap := range c.Gaps {
		c.usable[gap] = false
	}
	return c, api.OK
}

// checkedFrames returns frames that are computed together, or the error of frames.
func checkedFrames(l []api.CodeFrame) ([]checkedFrame, api.Errno) {
	if e := lengthError(len(l), api.MaxCodeFrames); e != api.OK {
		return nil, e
	}
	frames := make([]checkedFrame, len(l))
	for i, f := range l {
		c, e := checked(f)
		if e != api.OK {
			return nil, e
		}
		frames[i] = c
	}
	return frames, api.OK
}

// indexes returns the indexes of all samples that are usable, or of all that are not.
func (c checkedFrame) indexes(usable bool) []int {
	var list []int
	for i, u := range c.usable {
		if u == usable {
			list = append(list, i)
		}
	}
	return list
}

// blocks yields all usable blocks, each with the index of its first sample.
func (c checkedFrame) blocks() iter.Seq2[int, block] {
	return func(yield func(int, block) bool) {
		for first := 0; first+blockLength <= len(c.Samples); first += blockLength {
			if b, usable := c.blockAt(first); usable && !yield(first, b) {
				return
			}
		}
	}
}

func (c checkedFrame) blockAt(first int) (block, bool) {
	var b block
	for q := range b {
		if !c.usable[first+q] {
			return block{}, false
		}
		b[q] = number(c.Samples[first+q])
	}
	return b, true
}
