package meanmoon

import (
	"math"
	"testing"
)

// P15.1: the difference of a quotient and the greatest integer that is at most
// it, for quotients that no x has as well: among them, those with a difference
// that is rounded to 1, and -0.
func TestFraction(t *testing.T) {
	negativeZero := math.Copysign(0, -1)
	for _, c := range []struct{ q, want float64 }{
		{0, 0}, {negativeZero, 0}, {1, 0}, {-1, 0}, {2, 0}, {-2, 0}, {0x1p52, 0}, {-0x1p52, 0}, {0x1p53, 0}, {-0x1p53, 0}, {math.MaxFloat64, 0}, {-math.MaxFloat64, 0},
		{0.25, 0.25}, {-0.25, 0.75}, {0.5, 0.5}, {-0.5, 0.5}, {1.5, 0.5}, {-1.5, 0.5}, {2.25, 0.25}, {-2.25, 0.75}, {0x1p51 + 0.5, 0.5}, {-0x1p51 - 0.5, 0.5},
		{math.SmallestNonzeroFloat64, math.SmallestNonzeroFloat64}, {0x1p-1022, 0x1p-1022}, {0x1p-60, 0x1p-60}, {1 - 0x1p-53, 1 - 0x1p-53},
		// Small negative quotients. The last tie, -2^-54, is resolved to 1.
		{-0x1p-40, 1 - 0x1p-40}, {-0x1p-52, 1 - 0x1p-52}, {-0x1p-53, 1 - 0x1p-53}, {math.Nextafter(-0x1p-54, -1), 1 - 0x1p-53},
		{-0x1p-54, 0}, {math.Nextafter(-0x1p-54, 0), 0}, {-0x1p-55, 0}, {-0x1p-60, 0}, {-0x1p-1022, 0}, {-math.SmallestNonzeroFloat64, 0},
	} {
		if got := fraction(c.q); math.Float64bits(got) != math.Float64bits(c.want) {
			t.Errorf("fraction(%g) = %g, want %g", c.q, got, c.want)
		}
	}
}
