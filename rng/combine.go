package rng

func both(inA, inB bool) bool { return inA && inB }

func either(inA, inB bool) bool { return inA || inB }

func onlyFirst(inA, inB bool) bool { return inA && !inB }

// combine walks along the cuts of two ranges and lists those at which it
// begins and ends that in says yes. What is in neither range must not be in.
func combine(a, b []cut, in func(inA, inB bool) bool) []cut {
	var out []cut
	i, k := 0, 0
	for i < len(a) || k < len(b) {
		c, passA, passB := next(a[i:], b[k:])
		i += passA
		k += passB
		if in(inside(i), inside(k)) != inside(len(out)) {
			out = append(out, c)
		}
	}
	return out
}

// next returns the first cut ahead, and how many cuts of a and of b stand
// there. The two are passed in one step: where one range ends and the other
// begins, no version lies between.
func next(a, b []cut) (c cut, passA, passB int) {
	switch {
	case len(a) == 0:
		return b[0], 0, 1
	case len(b) == 0:
		return a[0], 1, 0
	}
	switch a[0].compare(b[0]) {
	case -1:
		return a[0], 1, 0
	case 1:
		return b[0], 0, 1
	}
	return a[0], 1, 1
}

// inside tells whether one is in a range of which that many cuts are passed.
func inside(passed int) bool { return passed%2 == 1 }
