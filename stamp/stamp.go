// Package stamp is layer 1, moments: see shared/doc/01-stamp.md.
package stamp

import "bargeman/api"

// Right tells whether s may be a moment.
func Right(s api.Stamp) bool {
	return 0 <= s.C && s.C <= api.MaxCount && 0 <= s.Dev && s.Dev < api.MaxNodes
}

// To answers the number of the moment s: its counter is the real part, its device the imaginary one.
func To(s api.Stamp) (complex128, bool) {
	if !Right(s) {
		return 0, false
	}
	return complex(float64(s.C), float64(s.Dev)), true
}

// From answers the moment whose number z is.
func From(z complex128) (api.Stamp, bool) {
	// Asked ahead of the conversion: what int makes of a float that it has no room for hangs on the machine.
	if !within(real(z), api.MaxCount) || !within(imag(z), api.MaxNodes-1) {
		return api.Stamp{}, false
	}
	s := api.Stamp{C: int(real(z)), Dev: int(imag(z))}
	if back, _ := To(s); back != z { // the conversion has cut a fraction off
		return api.Stamp{}, false
	}
	return s, true
}

// within tells whether x is 0 to most; what is not a number is not.
func within(x, most float64) bool {
	return 0 <= x && x <= most
}

// Before tells whether a comes ahead of b.
func Before(a, b api.Stamp) bool {
	from, right := To(a)
	to, also := To(b)
	if !right || !also {
		// What is no moment may have counters that a float would round.
		return a.C < b.C || a.C == b.C && a.Dev < b.Dev
	}
	gap := to - from
	return real(gap) > 0 || real(gap) == 0 && imag(gap) > 0
}

// Next answers the moment c + 1 of dev.
func Next(c, dev int) (api.Stamp, bool) {
	z, right := To(api.Stamp{C: c, Dev: dev})
	if !right {
		return api.Stamp{}, false
	}
	return From(z + 1)
}
