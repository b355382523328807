package meanmoon_test

import (
	"math"
	"math/big"
	"testing"

	"computus/meanmoon"
)

const (
	least = math.MinInt
	most  = math.MaxInt

	// noPhase is the bits of the NaN that Phase and Age return.
	noPhase = 0x7FF8000000000001

	// The bits of the values nearest to 730125.59766 and 29.530588861.
	epochBits = 0x4126481B32007DD4
	monthBits = 0x403D87D4ABED9DEC
)

func epoch() float64 { return math.Float64frombits(epochBits) }

func month() float64 { return math.Float64frombits(monthBits) }

// same reports whether two values have the same bits.
func same(x, y float64) bool { return math.Float64bits(x) == math.Float64bits(y) }

// integer is what Lunation and Round return.
type integer struct {
	n  int
	ok bool
}

func pack(n int, ok bool) integer { return integer{n, ok} }

func some(n int) integer { return integer{n, true} }

func none() integer { return integer{} }

// ascending lists the bits of values in the total order, without two equal ones.
func ascending() []uint64 {
	return []uint64{
		// Negative NaNs, the quiet ones first, by descending magnitude.
		0xFFFFFFFFFFFFFFFF, 0xFFFFFFFFFFFFFFFE, 0xFFF8000000000002, 0xFFF8000000000001, 0xFFF8000000000000, 0xFFF7FFFFFFFFFFFF, 0xFFF4000000000000, 0xFFF0000000000002, 0xFFF0000000000001,
		// Negative infinity, and negative normal values, from the greatest magnitude.
		0xFFF0000000000000, 0xFFEFFFFFFFFFFFFF, 0xFFEFFFFFFFFFFFFE, 0xC3E0000000000000, 0xC126481B32007DD4, 0xC126481B32007DD3, 0xC000000000000000, 0xBFF0000000000001, 0xBFF0000000000000, 0xBFEFFFFFFFFFFFFF, 0xBFE0000000000000, 0x8010000000000001, 0x8010000000000000,
		// Negative subnormal values, and the zeros.
		0x800FFFFFFFFFFFFF, 0x800FFFFFFFFFFFFE, 0x8008000000000000, 0x8000000100000000, 0x8000000000000002, 0x8000000000000001,
		0x8000000000000000, 0x0000000000000000,
		// The same with the other sign, in the opposite order.
		0x0000000000000001, 0x0000000000000002, 0x0000000100000000, 0x0008000000000000, 0x000FFFFFFFFFFFFE, 0x000FFFFFFFFFFFFF,
		0x0010000000000000, 0x0010000000000001, 0x3FE0000000000000, 0x3FEFFFFFFFFFFFFF, 0x3FF0000000000000, 0x3FF0000000000001, 0x4000000000000000, 0x4126481B32007DD3, 0x4126481B32007DD4, 0x43E0000000000000, 0x7FEFFFFFFFFFFFFE, 0x7FEFFFFFFFFFFFFF, 0x7FF0000000000000,
		0x7FF0000000000001, 0x7FF0000000000002, 0x7FF4000000000000, 0x7FF7FFFFFFFFFFFF, 0x7FF8000000000000, 0x7FF8000000000001, 0x7FF8000000000002, 0x7FFFFFFFFFFFFFFE, 0x7FFFFFFFFFFFFFFF,
	}
}

// notFinite lists NaNs of both signs and the infinities.
func notFinite() []float64 {
	var l []float64
	for _, bits := range ascending() {
		if bits&0x7FF0000000000000 == 0x7FF0000000000000 {
			l = append(l, math.Float64frombits(bits))
		}
	}
	return l
}

// sample lists finite values of all magnitudes and both signs, days around the
// epoch, and values beside the mean new moons, all of them by a fixed rule.
func sample() []float64 {
	var l []float64
	state := uint64(1)
	for range 6000 {
		state = state*6364136223846793005 + 1442695040888963407
		bits := state ^ state>>29
		if x := math.Float64frombits(bits); !math.IsNaN(x) && !math.IsInf(x, 0) {
			l = append(l, x)
		}
		// An exponent from 0 to 63.
		l = append(l, math.Float64frombits(bits&0x800FFFFFFFFFFFFF|(1023+bits>>52%64)<<52))
		l = append(l, epoch()+float64(int64(bits)>>20)/(1<<30))
	}
	for k := -1500; k <= 1500; k++ {
		x := meanmoon.NewMoon(k * 7)
		l = append(l, math.Nextafter(x, math.Inf(-1)), x, math.Nextafter(x, math.Inf(1)))
	}
	return l
}

// exact returns a finite value as a fraction.
func exact(x float64) *big.Rat { return new(big.Rat).SetFloat64(x) }

// rounded returns the float64 value nearest to a fraction, ties to even.
func rounded(r *big.Rat) float64 {
	x, _ := r.Float64()
	return x
}

// below returns the greatest integer that is at most a fraction. The division
// of integers rounds down if the divisor is positive, as a denominator is.
func below(r *big.Rat) *big.Int { return new(big.Int).Div(r.Num(), r.Denom()) }

// quotient returns the quotient of a finite value, computed with fractions.
func quotient(x float64) float64 {
	difference := rounded(new(big.Rat).Sub(exact(x), exact(epoch())))
	return rounded(new(big.Rat).Quo(exact(difference), exact(month())))
}

// phaseOf returns the phase of a quotient, computed with fractions.
func phaseOf(q float64) float64 {
	phase := rounded(new(big.Rat).Sub(exact(q), new(big.Rat).SetInt(below(exact(q)))))
	if phase == 1 {
		return 0
	}
	return phase
}

// lunationOf returns the lunation of a quotient, computed with fractions.
func lunationOf(q float64) integer {
	if math.Abs(q) >= 1<<53 {
		return none()
	}
	return some(int(below(exact(q)).Int64()))
}

// product returns the product of two finite values, computed with fractions.
func product(x, y float64) float64 {
	return rounded(new(big.Rat).Mul(exact(x), exact(y)))
}

// P15.1, P15.3: the epoch and the synodic month are the nearest values.
func TestConstantsAreNearest(t *testing.T) {
	for text, bits := range map[string]uint64{"730125.59766": epochBits, "29.530588861": monthBits} {
		r, _ := new(big.Rat).SetString(text)
		if got := math.Float64bits(rounded(r)); got != bits {
			t.Errorf("the value nearest to %s has the bits %#x, not %#x", text, got, bits)
		}
	}
	if got := meanmoon.NewMoon(0); !same(got, epoch()) {
		t.Errorf("NewMoon(0) = %v, want the epoch", got)
	}
}

// day is a value with its phase, age and lunation, by a separate reckoning with
// fractions outside of the project.
type day struct {
	x, phase, age uint64
	lunation      integer
}

// checkDays fails the test unless the functions have the results of the days.
func checkDays(t *testing.T, days []day) {
	t.Helper()
	for _, d := range days {
		x := math.Float64frombits(d.x)
		if got := math.Float64bits(meanmoon.Phase(x)); got != d.phase {
			t.Errorf("Phase(%v) has the bits %#x, want %#x", x, got, d.phase)
		}
		if got := math.Float64bits(meanmoon.Age(x)); got != d.age {
			t.Errorf("Age(%v) has the bits %#x, want %#x", x, got, d.age)
		}
		if got := pack(meanmoon.Lunation(x)); got != d.lunation {
			t.Errorf("Lunation(%v) = %v, want %v", x, got, d.lunation)
		}
	}
}

// P15.1, P15.2: the example of the chapter: the epoch, and the values next to
// it. The quotients of those below are negative and small, but no x has one so
// small that the difference is rounded to 1.
func TestBesideTheEpoch(t *testing.T) {
	checkDays(t, []day{
		{0x4126481B32007DD1, 0x3FEFFFFFFFFE5FE4, 0x403D87D4ABEC1DEC, some(-1)},
		{0x4126481B32007DD2, 0x3FEFFFFFFFFEEA98, 0x403D87D4ABEC9DEC, some(-1)},
		{0x4126481B32007DD3, 0x3FEFFFFFFFFF754C, 0x403D87D4ABED1DEC, some(-1)},
		{0x4126481B32007DD4, 0, 0, some(0)},
		{0x4126481B32007DD5, 0x3D9156842C37FE06, 0x3DDFFFFFFFFFFFFF, some(0)},
		{0x4126481B32007DD6, 0x3DA156842C37FE06, 0x3DEFFFFFFFFFFFFF, some(0)},
		{0x4126481B32007DD7, 0x3DAA01C64253FD0A, 0x3DF8000000000000, some(0)},
	})
}

// P15.1, P15.2: zeros, the least subnormal and normal values, and values with
// quotients of both signs that are not integers.
func TestKnownDays(t *testing.T) {
	checkDays(t, []day{
		{0x0000000000000000, 0x3FE3BC1F0B5F0000, 0x40323640ED9B8CAD, some(-24725)},
		{0x8000000000000000, 0x3FE3BC1F0B5F0000, 0x40323640ED9B8CAD, some(-24725)},
		{0x0000000000000001, 0x3FE3BC1F0B5F0000, 0x40323640ED9B8CAD, some(-24725)},
		{0x8000000000000001, 0x3FE3BC1F0B5F0000, 0x40323640ED9B8CAD, some(-24725)},
		{0x000FFFFFFFFFFFFF, 0x3FE3BC1F0B5F0000, 0x40323640ED9B8CAD, some(-24725)},
		{0x800FFFFFFFFFFFFF, 0x3FE3BC1F0B5F0000, 0x40323640ED9B8CAD, some(-24725)},
		{0x0010000000000000, 0x3FE3BC1F0B5F0000, 0x40323640ED9B8CAD, some(-24725)},
		{0x8010000000000000, 0x3FE3BC1F0B5F0000, 0x40323640ED9B8CAD, some(-24725)},
		{0x3FF0000000000000, 0x3FE4D1874E228000, 0x40333640ED9B8CCA, some(-24725)}, // 1
		{0xBFF0000000000000, 0x3FE2A6B6C89B8000, 0x40313640ED9B8C8F, some(-24725)}, // -1
		{0x3FE0000000000000, 0x3FE446D32CC08000, 0x4032B640ED9B51AB, some(-24725)}, // 0.5
		{0xBFE0000000000000, 0x3FE3316AE9FD0000, 0x4031B640ED9B518E, some(-24725)}, // -0.5
		{0x412647E0225725F9, 0x3D70368000000000, 0x3DBDEC6B58573F4E, some(-1)},     // 730096.067071139
		{0x412647FDA8F5C28F, 0x3FDFFEB0031F5AA4, 0x402D869E9C963BD9, some(-1)},     // 730110.83
		{0x4126481A00000000, 0x3FEF5A346BEC571A, 0x403CEED46D039DEC, some(-1)},     // 730125
		{0x4126481C00000000, 0x3F8BE72BABF5BEBA, 0x3FD9BFF045800000, some(0)},      // 730126
		{0x41264838B851EB85, 0x3FDFFE5C5FF222BA, 0x402D86516DB10000, some(0)},      // 730140.36
		{0x4126485641A9D5AF, 0x3FEFFFFFFFFFDF93, 0x403D87D4ABED8000, some(0)},      // 730155.128248861
		{0x41264942804F351C, 0x3FEFFFFFFFFFE898, 0x403D87D4ABED8852, some(4)},      // 730273.250604305
		{0x4126467DC45F16D5, 0x3FEFFFFFFFFFCD90, 0x403D87D4ABED6F60, some(-8)},     // 729918.8835379729
		{0x412E848000000000, 0x3FE9E0DAA15CC000, 0x4037E19EB946F3A8, some(9138)},   // 1000000
		{0xC12E848000000000, 0x3FDB2EC6EAC20000, 0x402915C643DFD543, some(-58588)}, // -1000000
		{0x419D6F3454800000, 0x3FE231CDB2C00000, 0x4030CA5D717C1811, some(4155916)},
		{0xC1CD6F3458E00000, 0x3FE693598A000000, 0x4034D55CD04A6B72, some(-33469853)},
	})
}

// P15.1, P15.2: quotients that are integers.
func TestIntegerQuotients(t *testing.T) {
	for bits, want := range map[uint64]int{
		0x412659DEE7EFEAC5: 77, 0x41266BA29DDF57B6: 154, 0x4138A88DBB9F68B7: 29_999, 0x41B5C61DB2D371A4: 12_345_678, 0x422D87EAF408CFEC: 1 << 31, 0x42BD87D4B711C90C: 1<<40 + 1, 0x437D87D4ABEE502B: 1<<52 - 1,
		0x41164831D527FA78: -12_362, 0x4026A3277CA3FFFE: -24_724, 0x411A8A0ED6113405: -10_000, 0xC10304808B9CB685: -30_000, 0xC1B5AFD597A17126: -12_345_678, 0xC22D87BE63D26BEC: -1 << 31, 0xC2BD87D4A0C9ADDB: -1<<40 - 1, 0xC37D87D4ABECEBA9: -1<<52 + 1,
	} {
		checkDays(t, []day{{bits, 0, 0, some(want)}})
	}
}

// P15.1, P15.2: quotients whose absolute value is just below 2^53, 2^53, and
// more, and halves below 2^52.
func TestGreatQuotients(t *testing.T) {
	checkDays(t, []day{
		{0x438D87D4ABEDF709, 0, 0, some(1<<53 - 3)},
		{0x438D87D4ABEDF70A, 0, 0, some(1<<53 - 2)},
		{0x438D87D4ABEDF70B, 0, 0, some(1<<53 - 1)},
		{0x438D87D4ABEDF70C, 0, 0, none()},
		{0x438D87D4ABEDF70D, 0, 0, none()},
		{0x438D87D4ABEDF70F, 0, 0, none()},
		{0xC38D87D4ABED44C9, 0, 0, some(-1<<53 + 3)},
		{0xC38D87D4ABED44CA, 0, 0, some(-1<<53 + 2)},
		{0xC38D87D4ABED44CB, 0, 0, some(-1<<53 + 1)},
		{0xC38D87D4ABED44CC, 0, 0, none()},
		{0xC38D87D4ABED44CD, 0, 0, none()},
		{0xC38D87D4ABED44CF, 0, 0, none()},

		{0x437D87D4ABED9DE8, 0x3FE0000000000000, 0x402D87D4ABED9DEC, some(4503599627345769)},
		{0x437D87D4ABED9DE9, 0, 0, some(4503599627345770)},
		{0x437D87D4ABED9DEA, 0x3FE0000000000000, 0x402D87D4ABED9DEC, some(4503599627345770)},
		{0x4376345785D8A000, 0x3FE0000000000000, 0x402D87D4ABED9DEC, some(3386319198373193)},
		{0xC376345785D8A000, 0x3FE0000000000000, 0x402D87D4ABED9DEC, some(-3386319198422643)},
		{0xC37D87D4ABED9DEC, 0, 0, some(-4503599627395220)},

		{0x43E0000000000000, 0, 0, none()}, // 2^63
		{0xC3E0000000000000, 0, 0, none()}, // -2^63
		{0x7E37E43C8800759C, 0, 0, none()}, // 1e300
		{0xFE37E43C8800759C, 0, 0, none()}, // -1e300
		{0x7FEFFFFFFFFFFFFF, 0, 0, none()}, // the greatest finite value
		{0xFFEFFFFFFFFFFFFF, 0, 0, none()},
	})
}

// P15.1, P15.2, P15.4: NaNs of both signs and infinities are not regular, and
// have no nearest integer. Phase and Age return the one NaN for all of them.
func TestNotFinite(t *testing.T) {
	for _, x := range notFinite() {
		checkDays(t, []day{{math.Float64bits(x), noPhase, noPhase, none()}})
		if got := pack(meanmoon.Round(x)); got != none() {
			t.Errorf("Round of the bits %#x = %v, want 0 and false", math.Float64bits(x), got)
		}
	}
}

// P15.1, P15.2: finite values of all magnitudes, by a reckoning with fractions.
func TestDaysByFractions(t *testing.T) {
	for _, x := range sample() {
		q := quotient(x)
		phase := phaseOf(q)
		checkDays(t, []day{{math.Float64bits(x), math.Float64bits(phase), math.Float64bits(product(phase, month())), lunationOf(q)}})
	}
}

// P15.3: 0, negative numbers, integers that are not a float64 value, and the
// least and the greatest ones, by a separate reckoning with fractions outside of
// the project. For some of them the sum and the product would have another
// result if they were rounded only once, or if the number were not rounded.
func TestKnownNewMoons(t *testing.T) {
	for k, want := range map[int]uint64{
		0: epochBits, 1: 0x4126485641A9D5AF, -1: 0x412647E0225725F9, 2: 0x4126489151532D8A, -2: 0x412647A512ADCE1E, 3: 0x412648CC60FC8566, -3: 0x4126476A03047642,
		10: 0x41264A69CE9DEC64, 100: 0x41265F2D5026CF77, 298: 0x41268CDB6D20C308, -298: 0x4126035AF6E038A0, 1000: 0x41272ED05F7FAE36, 123_456: 0x4150B14B7E78276A,
		-24_724: 0x4026A3277CA40000, -24_725: 0xC0323640ED9B8000, 12_345_678: 0x41B5C61DB2D371A4, -12_345_678: 0xC1B5AFD597A17126,
		1 << 53: 0x438D87D4ABEDF70C, 1<<53 + 1: 0x438D87D4ABEDF70C, 1<<53 + 2: 0x438D87D4ABEDF70E, 1<<53 + 3: 0x438D87D4ABEDF710, -1<<53 - 1: 0xC38D87D4ABED44CC, -1<<53 - 3: 0xC38D87D4ABED44D0,
		1 << 62: 0x441D87D4ABED9E19, 1<<62 + 1: 0x441D87D4ABED9E19, 1<<62 + 511: 0x441D87D4ABED9E19, 1<<62 + 512: 0x441D87D4ABED9E19, 1<<62 + 513: 0x441D87D4ABED9E1B, -1 << 62: 0xC41D87D4ABED9DBF,
		most: 0x442D87D4ABED9E02, most - 511: 0x442D87D4ABED9E02, most - 512: 0x442D87D4ABED9E01, most - 1023: 0x442D87D4ABED9E01,
		least: 0xC42D87D4ABED9DD6, least + 1: 0xC42D87D4ABED9DD6, least + 512: 0xC42D87D4ABED9DD6, least + 513: 0xC42D87D4ABED9DD5, least + 1024: 0xC42D87D4ABED9DD5,
	} {
		if got := math.Float64bits(meanmoon.NewMoon(k)); got != want {
			t.Errorf("NewMoon(%d) has the bits %#x, want %#x", k, got, want)
		}
	}
}

// checkNewMoon fails the test unless NewMoon has the result of a reckoning with
// fractions.
func checkNewMoon(t *testing.T, k int) {
	t.Helper()
	number := rounded(new(big.Rat).SetInt64(int64(k)))
	want := rounded(new(big.Rat).Add(exact(epoch()), exact(product(month(), number))))
	if got := meanmoon.NewMoon(k); !same(got, want) {
		t.Errorf("NewMoon(%d) = %v, want %v", k, got, want)
	}
}

// P15.3: numbers of all magnitudes, by a reckoning with fractions.
func TestNewMoonByFractions(t *testing.T) {
	for k := -30_000; k <= 30_000; k += 7 {
		checkNewMoon(t, k)
	}
	state := uint64(2)
	for range 6000 {
		state = state*6364136223846793005 + 1442695040888963407
		checkNewMoon(t, int(state)>>(state>>33%64))
		checkNewMoon(t, int(state))
	}
}

// P15.4: ties between integers of both signs, values next to ties, zeros, and
// values that have no fraction.
func TestRoundOfKnownValues(t *testing.T) {
	for _, c := range []struct {
		x    float64
		want int
	}{
		// The examples of the chapter, and other ties.
		{2.5, 2}, {3.5, 4}, {-2.5, -2}, {-3.5, -4}, {0.5, 0}, {-0.5, 0}, {1.5, 2}, {-1.5, -2}, {4.5, 4}, {-4.5, -4}, {99.5, 100}, {-99.5, -100}, {100.5, 100}, {-100.5, -100},
		{0x1p51 + 0.5, 1 << 51}, {0x1p51 + 1.5, 1<<51 + 2}, {-0x1p51 - 0.5, -1 << 51}, {-0x1p51 - 1.5, -1<<51 - 2}, {0x1p52 - 0.5, 1 << 52}, {0x1p52 - 1.5, 1<<52 - 2}, {-0x1p52 + 0.5, -1 << 52}, {-0x1p52 + 1.5, -1<<52 + 2},
		{0, 0}, {math.Copysign(0, -1), 0}, {math.SmallestNonzeroFloat64, 0}, {-math.SmallestNonzeroFloat64, 0}, {0x1p-1022, 0}, {-0x1p-1022, 0},
		{1, 1}, {-1, -1}, {2, 2}, {-2, -2}, {0.25, 0}, {-0.25, 0}, {0.75, 1}, {-0.75, -1}, {1.25, 1}, {-1.25, -1}, {1.75, 2}, {-1.75, -2}, {730125.59766, 730126}, {-730125.59766, -730126}, {29.530588861, 30}, {29.47, 29},
		// No fraction.
		{0x1p52, 1 << 52}, {-0x1p52, -1 << 52}, {0x1p52 + 1, 1<<52 + 1}, {-0x1p52 - 1, -1<<52 - 1}, {0x1p52 + 2, 1<<52 + 2}, {0x1p53 - 1, 1<<53 - 1}, {-0x1p53 + 1, -1<<53 + 1}, {0x1p53, 1 << 53}, {-0x1p53, -1 << 53},
		{0x1p53 + 2, 1<<53 + 2}, {-0x1p53 - 2, -1<<53 - 2}, {0x1p61, 1 << 61}, {-0x1p61, -1 << 61}, {0x1p62 - 512, 1<<62 - 512}, {-0x1p62 + 512, -1<<62 + 512}, {0x1p62 - 1024, 1<<62 - 1024},
	} {
		if got := pack(meanmoon.Round(c.x)); got != some(c.want) {
			t.Errorf("Round(%v) = %v, want %d", c.x, got, c.want)
		}
	}
	for _, tie := range []int{-4096, -101, -100, -5, -4, -3, -2, -1, 0, 1, 2, 3, 4, 100, 101, 4096} {
		x := float64(tie) + 0.5
		if got := pack(meanmoon.Round(math.Nextafter(x, math.Inf(-1)))); got != some(tie) {
			t.Errorf("Round just below %v = %v, want %d", x, got, tie)
		}
		if got := pack(meanmoon.Round(math.Nextafter(x, math.Inf(1)))); got != some(tie+1) {
			t.Errorf("Round just above %v = %v, want %d", x, got, tie+1)
		}
	}
}

// P15.4: values whose absolute value is 2^62 or more.
func TestRoundOutOfRange(t *testing.T) {
	for _, x := range []float64{0x1p62, 0x1p62 + 1024, 0x1p63 - 1024, 0x1p63, 0x1p63 + 2048, 0x1p64, 0x1p64 + 4096, 1e19, 1e100, 1e300, math.MaxFloat64} {
		for _, signed := range []float64{x, -x} {
			if got := pack(meanmoon.Round(signed)); got != none() {
				t.Errorf("Round(%v) = %v, want 0 and false", signed, got)
			}
		}
	}
}

// nearest returns what Round returns for a finite value, computed with
// fractions.
func nearest(x float64) integer {
	if math.Abs(x) >= 1<<62 {
		return none()
	}
	lower := below(exact(x))
	rest := new(big.Rat).Sub(exact(x), new(big.Rat).SetInt(lower))
	half := rest.Cmp(big.NewRat(1, 2))
	if half > 0 || half == 0 && lower.Bit(0) == 1 {
		lower.Add(lower, big.NewInt(1))
	}
	return some(int(lower.Int64()))
}

// P15.4: finite values of all magnitudes, and quarters, by a reckoning with
// fractions.
func TestRoundByFractions(t *testing.T) {
	l := sample()
	for quarters := -400; quarters <= 400; quarters++ {
		l = append(l, float64(quarters)/4)
	}
	for _, x := range l {
		if got, want := pack(meanmoon.Round(x)), nearest(x); got != want {
			t.Errorf("Round(%v) = %v, want %v", x, got, want)
		}
	}
}

// P15.5: all pairs of NaNs, infinities, zeros and numbers of both signs: the
// first one is before the second one if it is listed first, and no value is
// before itself.
func TestBeforeOfAllPairs(t *testing.T) {
	l := ascending()
	for i, first := range l {
		for j, second := range l {
			if got := meanmoon.Before(math.Float64frombits(first), math.Float64frombits(second)); got != (i < j) {
				t.Errorf("Before of the bits %#x and %#x = %v, want %v", first, second, got, i < j)
			}
		}
	}
}

// P15.5: the example of the chapter.
func TestBeforeOfZeros(t *testing.T) {
	zero, negativeZero := 0.0, math.Copysign(0, -1)
	if !meanmoon.Before(negativeZero, zero) || meanmoon.Before(zero, negativeZero) || meanmoon.Before(zero, zero) || meanmoon.Before(negativeZero, negativeZero) {
		t.Error("-0 is not before +0, or another zero is before one")
	}
}

// P15.5: among numbers other than zeros, the total order is the usual one.
func TestBeforeOfNumbers(t *testing.T) {
	l := sample()
	for i, x := range l {
		for _, y := range []float64{x, -x, math.Nextafter(x, math.Inf(1)), l[(i*7+1)%len(l)], l[(i*31+2)%len(l)], math.Inf(1), math.Inf(-1)} {
			if got := meanmoon.Before(x, y); got != (x < y) {
				t.Errorf("Before(%v, %v) = %v, want %v", x, y, got, x < y)
			}
			if got := meanmoon.Before(y, x); got != (y < x) {
				t.Errorf("Before(%v, %v) = %v, want %v", y, x, got, y < x)
			}
		}
	}
}

// P15.6: the least and the greatest magnitude of each class, and others of it,
// with both signs.
func TestClass(t *testing.T) {
	for class, l := range [5][]uint64{
		{0x7FF0000000000001, 0x7FF0000000000002, 0x7FF4000000000000, 0x7FF7FFFFFFFFFFFF, 0x7FF8000000000000, 0x7FF8000000000001, 0x7FFFFFFFFFFFFFFF},
		{0x7FF0000000000000},
		{0},
		{1, 2, 0x0000000100000000, 0x0008000000000000, 0x000FFFFFFFFFFFFE, 0x000FFFFFFFFFFFFF},
		{0x0010000000000000, 0x0010000000000001, 0x0020000000000000, 0x3FE0000000000000, 0x3FF0000000000000, monthBits, epochBits, 0x43E0000000000000, 0x7FE0000000000000, 0x7FEFFFFFFFFFFFFE, 0x7FEFFFFFFFFFFFFF},
	} {
		for _, magnitude := range l {
			for _, bits := range []uint64{magnitude, magnitude | 1<<63} {
				if got := meanmoon.Class(math.Float64frombits(bits)); got != class {
					t.Errorf("Class of the bits %#x = %d, want %d", bits, got, class)
				}
			}
		}
	}
}

// P15.6: values of all magnitudes, by their exponents and remaining bits.
func TestClassByBits(t *testing.T) {
	for exponent := range uint64(2048) {
		for _, remaining := range []uint64{0, 1, 1 << 51, 1<<51 + 1, 1<<52 - 1} {
			want := 4
			switch {
			case exponent == 2047 && remaining != 0:
				want = 0
			case exponent == 2047:
				want = 1
			case exponent == 0 && remaining == 0:
				want = 2
			case exponent == 0:
				want = 3
			}
			for sign := range uint64(2) {
				bits := sign<<63 | exponent<<52 | remaining
				if got := meanmoon.Class(math.Float64frombits(bits)); got != want {
					t.Errorf("Class of the bits %#x = %d, want %d", bits, got, want)
				}
			}
		}
	}
}
