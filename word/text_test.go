package word

import (
	"math/big"
	"strings"
	"testing"

	"winnow/api"
)

// P1.6: texts that are numbers.
func TestParseTakes(t *testing.T) {
	for s, want := range map[string]int64{
		"0": 0, "7": 7, "42": 42, "-12": -12, "1234567890": 1234567890,
		"-0": 0, "007": 7, "-007": -7, "000": 0, "00000000000000000000000009": 9, "-00000000000000000000000009": -9,
		"9223372036854775806": maxInt - 1, "9223372036854775807": maxInt, "0009223372036854775807": maxInt,
		"-9223372036854775807": minInt + 1, "-9223372036854775808": minInt, "-0009223372036854775808": minInt,
	} {
		if v, e, at := Parse(s); v != want || e != api.OK || at != 0 {
			t.Errorf("P1.6: Parse(%q) = %d, %v, %d, want %d, E0, 0", s, v, e, at, want)
		}
	}
}

// P1.6: texts that are none: empty, too short, or with a byte that can't stand there; ahead of being too great.
func TestParseRefuses(t *testing.T) {
	for _, c := range []struct {
		s  string
		at int
	}{
		{"", 0}, {"-", 1}, {"--1", 1}, {"+1", 0}, {"-+1", 1}, {" 1", 0}, {"1 ", 1}, {"- 1", 1}, {"1\n", 1},
		{"x", 0}, {"-x", 1}, {"1x", 1}, {"-1x", 2}, {"12x4y", 2}, {"1-", 1}, {"1-1", 1}, {"1_000", 1}, {"0x10", 1}, {"1e3", 1}, {"1.5", 1},
		{"/", 0}, {":", 0}, {"0/", 1}, {"9:", 1}, {"\x00", 0}, {"1\x00", 1}, {"\xff", 0}, {"1\xb1", 1}, {"\u0661", 0}, {"1\u0661", 1},
		{"9223372036854775808x", 19}, {"-9223372036854775809x", 20}, {strings.Repeat("9", 100) + "-", 100},
	} {
		if v, e, at := Parse(c.s); v != 0 || e != api.ErrNumber || at != c.at {
			t.Errorf("P1.6: Parse(%q) = %d, %v, %d, want 0, E10, %d", c.s, v, e, at, c.at)
		}
	}
}

// P1.6: every byte but a digit is refused where it stands, and a - anywhere but at the front.
func TestParseEveryByte(t *testing.T) {
	for b := range 256 {
		if b >= '0' && b <= '9' {
			continue
		}
		wrong := string([]byte{byte(b)})
		if v, e, at := Parse("12" + wrong + "3"); v != 0 || e != api.ErrNumber || at != 2 {
			t.Errorf("P1.6: the byte %d in the middle: %d, %v, %d, want 0, E10, 2", b, v, e, at)
		}
		if b == '-' {
			continue
		}
		if v, e, at := Parse(wrong + "3"); v != 0 || e != api.ErrNumber || at != 0 {
			t.Errorf("P1.6: the byte %d at the front: %d, %v, %d, want 0, E10, 0", b, v, e, at)
		}
	}
}

// P1.6: numbers that are too great, whatever they would wrap to.
func TestParseTooGreat(t *testing.T) {
	for _, s := range []string{
		"9223372036854775808", "9223372036854775809", "9223372036854775810", "-9223372036854775809", "-9223372036854775810",
		"18446744073709551615", "18446744073709551616", "18446744073709551617", "-18446744073709551616", "-18446744073709551617",
		"10000000000000000000", "99999999999999999999999", "-99999999999999999999999", "340282366920938463463374607431768211457",
		"0009223372036854775808", strings.Repeat("9", 1000), "1" + strings.Repeat("0", 1000),
	} {
		if v, e, at := Parse(s); v != 0 || e != api.ErrBig || at != 0 {
			t.Errorf("P1.6: Parse(%q) = %d, %v, %d, want 0, E11, 0", s, v, e, at)
		}
	}
}

// P1.6: around each place at which a check for too great a number may be off by one.
func TestParseAroundTheEnds(t *testing.T) {
	for _, end := range []*big.Int{exact(minInt), exact(maxInt), exactU(1 << 63), modulus(), zero().Neg(modulus())} {
		for d := int64(-25); d <= 25; d++ {
			n := zero().Add(end, exact(d))
			v, e, at := Parse(n.String())
			if n.IsInt64() && (v != n.Int64() || e != api.OK || at != 0) || !n.IsInt64() && (v != 0 || e != api.ErrBig || at != 0) {
				t.Errorf("P1.6: Parse(%q) = %d, %v, %d", n.String(), v, e, at)
			}
		}
	}
}

func TestPrint(t *testing.T) {
	for v, want := range map[int64]string{
		0: "0", 7: "7", 10: "10", 100: "100", -1: "-1", -12: "-12", -100: "-100",
		minInt: "-9223372036854775808", minInt + 1: "-9223372036854775807", maxInt: "9223372036854775807",
	} {
		if got := Print(v); got != want {
			t.Errorf("P1.6: Print(%d) = %q, want %q", v, got, want)
		}
	}
	for _, v := range samples() {
		if got, want := Print(v), exact(v).String(); got != want {
			t.Errorf("P1.6: Print(%d) = %q, want %q", v, got, want)
		}
	}
}

func TestParseOfPrint(t *testing.T) {
	for _, v := range samples() {
		if got, e, at := Parse(Print(v)); got != v || e != api.OK || at != 0 {
			t.Errorf("P1.6: Parse(Print(%d)) = %d, %v, %d", v, got, e, at)
		}
	}
}
