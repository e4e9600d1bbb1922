// Package ver is layer 1: versions, as complex numbers. See shared/doc/01-ver.md.
package ver

import (
	"math"

	"lockgate/api"
)

// Make is exact, as MaxCount is far below the whole numbers that a float64 skips.
func Make(epoch, num int) api.Ver {
	return api.Ver(complex(float64(epoch), float64(num)))
}

// Epoch is a version's real part.
func Epoch(v api.Ver) int { return int(real(v)) }

// Num is a version's imaginary part.
func Num(v api.Ver) int { return int(imag(v)) }

// Right is asked of any complex number, as what comes from outside may be anything.
func Right(v api.Ver) bool { return isCount(real(v)) && isCount(imag(v)) }

// isCount asks for what holds, not for what doesn't: what is not a number fails every comparison, and so fails here.
func isCount(x float64) bool {
	return x >= 0 && x <= api.MaxCount && x == math.Trunc(x)
}

// Ahead looks at numbers only within one epoch, as a later epoch is behind whatever an earlier one numbered.
func Ahead(a, b api.Ver) bool {
	if real(a) != real(b) {
		return real(a) < real(b)
	}
	return imag(a) < imag(b)
}

// Later is the one of both that is not ahead of the other.
func Later(a, b api.Ver) api.Ver {
	if Ahead(b, a) {
		return a
	}
	return b
}

// Next goes on counting in a new epoch, too, so that numbers alone tell that nothing is missing between two entries.
func Next(v api.Ver, epoch int) api.Ver {
	return Make(epoch, Num(v)) + 1i
}
