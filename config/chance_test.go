package config

import (
	"math"
	"math/rand"
	"strconv"
	"strings"
	"testing"

	"winnow/api"
	"winnow/check"
)

// maker makes texts of programs and configurations by chance.
type maker struct{ *rand.Rand }

func newMaker(seed int64) maker { return maker{rand.New(rand.NewSource(seed))} }

func (m maker) pick(texts ...string) string { return texts[m.Intn(len(texts))] }

func (m maker) number(left int) string {
	if left > 0 {
		switch m.Intn(6) {
		case 0:
			return m.pick("a", "b") + "[" + m.number(left-1) + "]"
		case 1, 2, 3:
			return "(" + m.number(left-1) + m.pick(" + ", " - ", " * ", " / ", " % ") + m.number(left-1) + ")"
		}
	}
	return m.pick("x", "y", "z", strconv.Itoa(m.Intn(9)), "-1")
}

func (m maker) condition(left int) string {
	if left > 0 && m.Intn(3) == 0 {
		return m.pick("!", "true && ", m.condition(left-1)+" && ", m.condition(left-1)+" || ") + "(" + m.condition(left-1) + ")"
	}
	return "(" + m.number(m.Intn(2)) + m.pick(" < ", " <= ", " > ", " >= ", " == ", " != ") + m.number(0) + ")"
}

func (m maker) block(left int) string { return "{ " + m.statements(m.Intn(4), left-1) + "}" }

func (m maker) statements(number, left int) string {
	var text strings.Builder
	for range number {
		text.WriteString(m.statement(left) + " ")
	}
	return text.String()
}

// statement is often a loop, as loops alone make passes long.
func (m maker) statement(left int) string {
	if left > 0 {
		switch m.Intn(6) {
		case 0:
			return "if " + m.condition(1) + " " + m.block(left)
		case 1:
			return "if " + m.condition(1) + " " + m.block(left) + " else " + m.block(left)
		case 2, 3:
			return "while " + m.condition(1) + " " + m.block(left)
		}
	}
	switch m.Intn(9) {
	case 0:
		return m.pick("a", "b") + "[" + m.number(0) + "] := " + m.number(1) + ";"
	case 1:
		return "input " + m.pick("x", "y", "z") + ";"
	case 2:
		return "assert " + m.condition(2) + ";"
	case 3:
		return "skip;"
	}
	name := m.pick("x", "y", "z")
	return name + " := " + m.pick(name+m.pick(" + ", " - ")+strconv.Itoa(1+m.Intn(6)), m.number(2)) + ";"
}

// program makes texts until check takes one: some have too many sites. It reads inputs first, as of zeros alone most loops are never gone round.
func (m maker) program(left int) string {
	for {
		text := "var x; array a[3]; var y; var z; array b[1]; input x; input y; " + m.statements(2+m.Intn(4), left) + m.pick("", "assert "+m.condition(2)+";")
		if _, err := check.Text(text); err == nil {
			return text
		}
	}
}

// thresholds are so many that rise.
func (m maker) thresholds(number int) []int64 {
	var list []int64
	last := int64(-20)
	for range number {
		last += 1 + m.Int63n(12)
		list = append(list, last)
	}
	return list
}

// config is a right one.
func (m maker) config() api.Config {
	var c api.Config
	for _, f := range fields() {
		*f.of(&c) = f.least + m.Intn(f.most-f.least+1)
	}
	c.Thresholds = m.thresholds(m.Intn(api.MaxThresh + 1))
	return c
}

// spoilt is a configuration in which some things are wrong, and the first that is: each is asked for in its turn.
func (m maker) spoilt() (api.Config, api.Errno) {
	c := m.config()
	code := api.OK
	tell := func(number api.Errno) {
		if code == api.OK || number < code {
			code = number
		}
	}
	for _, f := range fields() {
		if m.Intn(12) > 0 {
			continue
		}
		*f.of(&c) = []int{f.least - 1 - m.Intn(9), f.most + 1 + m.Intn(9), int(m.Uint64() | 1<<63), int(m.Uint64()>>1 | 1<<20)}[m.Intn(4)]
		tell(f.code)
	}
	switch m.Intn(12) {
	case 0:
		c.Thresholds = m.thresholds(api.MaxThresh + 1 + m.Intn(5))
		tell(api.ErrThresh)
	case 1:
		if i := m.Intn(api.MaxThresh); i+1 < len(c.Thresholds) {
			c.Thresholds[i+1] = c.Thresholds[i] - m.Int63n(3)
			tell(api.ErrThresh)
		}
	case 2:
		if len(c.Thresholds) > 1 {
			c.Thresholds[0], c.Thresholds[len(c.Thresholds)-1] = math.MinInt64, math.MaxInt64
		}
	}
	return c, code
}

// P19.1, P19.2: configurations by chance, right and wrong ones.
func TestConfigurationsByChance(t *testing.T) {
	m := newMaker(191)
	p := mustText(t, everything)
	seen := map[api.Errno]int{}
	for range 20000 {
		c, code := m.spoilt()
		seen[code]++
		if code == api.OK {
			wantOK(t, c)
			wantFormula(t, p, c)
		} else {
			wantRefused(t, c, code)
			wantNoBound(t, p, c, code)
		}
		if t.Failed() {
			t.FailNow()
		}
	}
	if len(seen) != 10 {
		t.Errorf("not every answer was seen: %v", seen)
	}
}

// P19.2: programs by chance.
func TestBoundsByChance(t *testing.T) {
	m := newMaker(192)
	for i := range 2000 {
		wantFormula(t, mustText(t, m.program(1+i%4)), m.config())
	}
}

// P19.3: analyses of programs by chance.
func TestAnalysesByChance(t *testing.T) {
	m := newMaker(193)
	many := 0
	for i := range 300 {
		if wantWithin(t, m.program(1+i%3), m.config()) > 200 {
			many++
		}
		if t.Failed() {
			t.FailNow()
		}
	}
	if many < 50 {
		t.Errorf("only %d analyses had many applications", many)
	}
}
