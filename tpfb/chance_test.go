package tpfb

import (
	"math"
	"math/rand"
	"slices"
	"strings"
	"testing"

	"winnow/api"
	"winnow/check"
)

// maker makes texts, configurations and tapes by chance.
type maker struct{ *rand.Rand }

func newMaker(seed int64) maker { return maker{rand.New(rand.NewSource(seed))} }

func (m maker) pick(texts ...string) string { return texts[m.Intn(len(texts))] }

func (m maker) condition() string {
	return m.pick("x < 2", "x != y", "y > 3 || x < 0", "!(x == 2)", "a[x] < 1", "x % 2 == 0", "6 / y > 1", "x * y == 12", "y <= x && a[y] != x", "x - y < 3", "12 % x < 6 / y", "x == 1", "y == 5", "z == x")
}

func (m maker) block(left int) string { return "{ " + m.statements(m.Intn(3), left-1) + "}" }

func (m maker) statements(number, left int) string {
	var text strings.Builder
	for range number {
		text.WriteString(m.statement(left) + " ")
	}
	return text.String()
}

func (m maker) statement(left int) string {
	if left > 0 {
		switch m.Intn(7) {
		case 0, 1:
			return "if " + m.condition() + " " + m.block(left)
		case 2:
			return "if " + m.condition() + " " + m.block(left) + " else " + m.block(left)
		case 3:
			return "while " + m.condition() + " " + m.block(left)
		case 4:
			return "while x < " + m.pick("3", "5", "y", "100") + " { x := x + " + m.pick("1", "2", "y") + "; " + m.statements(m.Intn(2), left-1) + "}"
		}
	}
	if m.Intn(3) == 0 {
		return m.pick("input x;", "input y;", "input z;")
	}
	return m.pick("x := y + 1;", "a[x] := y;", "assert x < 9;", "assert x != 0;", "skip;", "y := 7 / x;", "a[0] := x;", "assert x != 3 || y < 0;", "z := x;", "y := z;", "x := z;",
		"x := x * 3;", "y := x % 4;", "x := -y;", "y := a[x] - 2;", "x := x * y;", "x := (x + y) / 2;", "a[y] := a[x] / (y + 1);", "assert a[1] < 5;", "assert x == z;", "assert y + z != 12;")
}

// program makes texts until check takes one that has a site: some have too many.
func (m maker) program(left int) string {
	for {
		text := "var x; array a[3]; var y; var z; " + m.pick("", "input x; ", "input x; input y; z := x; ") + m.statements(1+m.Intn(5), left)
		if p, err := check.Text(text); err == nil && len(p.Sites) > 0 {
			return text
		}
	}
}

func (m maker) config() api.Config {
	c := api.Config{Hist: m.Intn(4), Unroll: m.Intn(4), Cap: 1 + m.Intn(6), Delay: m.Intn(7), Narrow: m.Intn(4), Rounds: m.Intn(4), Fuel: m.Intn(60), Tries: m.Intn(5)}
	if m.Intn(2) == 0 {
		c.Hist, c.Unroll = m.Intn(2), m.Intn(2)
	}
	if m.Intn(3) == 0 {
		c.Rounds, c.Tries = api.MaxRounds, m.Intn(2)
	}
	c.Thresholds = [][]int64{nil, nil, {0}, {3, 10}, {-5, -1, 4}, {math.MinInt64, -9, 0, 9, 99, math.MaxInt64}}[m.Intn(6)]
	return c
}

// anyConfig is wrong as often as not.
func (m maker) anyConfig() api.Config {
	c := m.config()
	if m.Intn(2) == 0 {
		return c
	}
	list := fields()
	for range 1 + m.Intn(2) {
		f := list[m.Intn(len(list))]
		*f.of(&c) = []int{f.least - 1, f.most + 1, math.MinInt, math.MaxInt, m.Intn(9)}[m.Intn(5)]
	}
	if m.Intn(3) == 0 {
		c.Thresholds = [][]int64{{1, 1}, {5, 2}, {1, 2, 3, 4, 5, 6, 7}, make([]int64, 1000)}[m.Intn(4)]
	}
	return c
}

func (m maker) whole() int64 {
	return []int64{m.Int63n(5), m.Int63n(5), m.Int63n(20) - 10, math.MaxInt64 - m.Int63n(2), math.MinInt64 + m.Int63n(2)}[m.Intn(5)]
}

func (m maker) tape() []int64 {
	var tape []int64
	for range m.Intn(9) {
		tape = append(tape, m.whole())
	}
	return tape
}

// bytes is a text of so many bytes that come as they come, most of them such as programs have.
func (m maker) bytes(number int) string {
	const likely = "var x; array a[2]; input assert if else while true false := < <= == != && || + - * / % ( ) { } # \n 0 1 9"
	var text strings.Builder
	for range number {
		if m.Intn(20) == 0 {
			text.WriteByte(byte(m.Intn(256)))
		} else {
			text.WriteByte(likely[m.Intn(len(likely))])
		}
	}
	return text.String()
}

// edited is a text with some of its bytes taken out, turned, or put in, or cut off.
func (m maker) edited(text string) string {
	list := []byte(text)
	for range 1 + m.Intn(3) {
		at := m.Intn(len(list) + 1)
		switch m.Intn(4) {
		case 0:
			list = slices.Insert(list, at, []byte(m.bytes(1+m.Intn(3)))...)
		case 1:
			list = slices.Delete(list, at, min(at+1+m.Intn(3), len(list)))
		case 2:
			if m.Intn(4) == 0 {
				list = list[:at]
			}
		case 3:
			if at < len(list) {
				list[at] = m.bytes(1)[0]
			}
		}
	}
	return string(list)
}

// anyText is one of a program, as it is or edited, or of anything.
func (m maker) anyText() string {
	switch m.Intn(4) {
	case 0:
		return m.bytes(m.Intn(40))
	case 1:
		return m.program(m.Intn(4))
	}
	return m.edited(m.program(m.Intn(4)))
}

// wantSeen holds that each thing was seen often enough.
func wantSeen(t testing.TB, seen, least map[string]int) {
	t.Helper()
	for what, number := range least {
		if seen[what] < number {
			t.Errorf("what was tried is too much alike: %q was seen %d times, of all %v", what, seen[what], seen)
		}
	}
}
