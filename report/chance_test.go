package report

import (
	"math"
	"math/rand"
	"strings"
	"testing"

	"winnow/api"
)

// maker makes what is handed in by chance.
type maker struct{ *rand.Rand }

func newMaker(seed int64) maker { return maker{rand.New(rand.NewSource(seed))} }

// number is often one of the ends or near 0, else of any size.
func (m maker) number() int64 {
	switch m.Intn(6) {
	case 0:
		return math.MinInt64 + m.Int63n(2)
	case 1:
		return math.MaxInt64 - m.Int63n(2)
	case 2:
		return m.Int63n(5) - 2
	}
	return int64(m.Uint64()) >> m.Intn(64)
}

func (m maker) words(number int) []string {
	var list []string
	for range number {
		list = append(list, words[m.Intn(len(words))])
	}
	return list
}

// verdict is one that may be.
func (m maker) verdict() api.Verdict {
	v := api.Verdict{Kind: api.VerdictKind(m.Intn(3)), Round: m.Intn(4)}
	if v.Kind == api.Definite {
		v.Steps = 1 + m.Intn(5000)>>m.Intn(13)
		for range m.Intn(min(v.Steps, 1+m.Intn(20))) {
			v.Tape = append(v.Tape, m.number())
		}
	}
	return v
}

// anyVerdict is a verdict that may be, or one that is a little or quite another.
func (m maker) anyVerdict() api.Verdict {
	v := m.verdict()
	if m.Intn(3) > 0 {
		return v
	}
	some := func(least, most int) int {
		if m.Intn(9) == 0 {
			return int(m.number())
		}
		return least - 1 + m.Intn(most-least+3)
	}
	switch m.Intn(5) {
	case 0:
		v.Kind = api.VerdictKind(some(0, 2))
	case 1:
		v.Round = some(0, 3)
	case 2:
		v.Steps = some(0, 3)
	case 3:
		v.Tape = counted(v.Steps - 2 + m.Intn(4))
	case 4:
		v.Kind = 2 - v.Kind
	}
	return v
}

// P27.1, P27.3: verdicts by chance: told as the chapter's words say, and read as they were.
func TestVerdictsByChance(t *testing.T) {
	m := newMaker(271)
	told, refused := 0, 0
	for range 4000 {
		list := m.words(m.Intn(api.MaxSites + 1))
		p := withSites(t, list...)
		var verdicts []api.Verdict
		right := true
		for range list {
			v := m.verdict()
			if m.Intn(len(list)) == 0 {
				v = m.anyVerdict()
			}
			right = right && may(v)
			verdicts = append(verdicts, v)
		}
		if right {
			wantLines(t, p, verdicts, expectedLines(list, verdicts)...)
			told++
		} else {
			wantNoLines(t, p, verdicts, api.ErrArg)
			refused++
		}
	}
	if told < 1000 || refused < 300 {
		t.Errorf("%d results were told, %d refused", told, refused)
	}
}

// part is a piece of a line.
func (m maker) part() string {
	parts := []string{
		" ", "  ", "", "site ", "site 0 ", "load", "store", "assert", "division", "remainder", ":", ": ", "safe", "unknown", "definite", " in round ", " after round ",
		": safe in round ", ": unknown after round ", ": definite in round ", " at step ", " with tape [", "]", "[", "0", "1", "2", "3", "4", "9", "-", "5000", "5001", "00", "-0", "-7",
		" 1", "1 ", "9223372036854775807", "9223372036854775808", "-9223372036854775808", "\n", "\x00", "\xff",
	}
	return parts[m.Intn(len(parts))]
}

// edited is a line with some bytes taken away or turned about, or with a piece more.
func (m maker) edited(line string) string {
	i, j := m.Intn(len(line)+1), m.Intn(len(line)+1)
	i, j = min(i, j), max(i, j)
	switch m.Intn(5) {
	case 0:
		return line[:i] + m.part() + line[i:]
	case 1:
		return line[:i] + m.part() + line[j:]
	case 2:
		return line[:i] + line[j:]
	case 3:
		return line[:j] + line[i:]
	}
	if i == len(line) {
		return line
	}
	return line[:i] + m.part() + line[i+1:]
}

// shortTape is a line whose numbers have few digits, so that an edited one is right more often.
func (m maker) shortTape(site int, word string) string {
	v := m.verdict()
	for i := range v.Tape {
		v.Tape[i] %= 20
	}
	return expectedLine(site, word, v)
}

// P27.2, P27.3: lines by chance, one or two of them edited, put together of pieces, or of two lines.
func TestLinesByChance(t *testing.T) {
	m := newMaker(272)
	right, wrong := 0, 0
	for range 40000 {
		var lines []string
		for site, w := range m.words(1 + m.Intn(4)) {
			lines = append(lines, m.shortTape(site, w))
		}
		for range 1 + m.Intn(2) {
			at, other := m.Intn(len(lines)), m.Intn(len(lines))
			switch m.Intn(8) {
			case 0:
				lines[at] = lines[other]
			case 1:
				lines[at] = lines[at][:m.Intn(len(lines[at])+1)] + lines[other][m.Intn(len(lines[other])+1):]
			default:
				lines[at] = m.edited(lines[at])
			}
		}
		if wantParse(t, lines...) {
			right++
		} else {
			wrong++
		}
	}
	if right < 1000 || wrong < 20000 {
		t.Errorf("%d rows of lines were right, %d wrong", right, wrong)
	}
}

// P27.2: lines that are put together of pieces that may stand behind one another.
func TestPiecesByChance(t *testing.T) {
	m := newMaker(273)
	one := func(texts ...string) string { return texts[m.Intn(len(texts))] }
	right, wrong := 0, 0
	for range 40000 {
		line := one("site 0 ", "site 0 ", "site 0 ", "site 1 ", "site 00 ", "site -0 ", "site  0 ") + one(append(words, words...)...) + one("", "", "", "", "s", " ")
		line += one(": safe in round ", ": unknown after round ", ": definite in round ", ": definite in round ", ": Definite in round ") + one("0", "1", "2", "3", "3", "4", "00", "")
		if m.Intn(2) == 0 {
			line += " at step " + one("1", "2", "3", "9", "10", "5000", "5001", "0", "01")
			line += " with tape [" + strings.Repeat(one("1 ", "0 ", "-5 ", "12 ", "-0 "), m.Intn(4)) + one("7", "7", "7", "0", "-1", "-0", "07", "") + one("]", "]", "]", "]", "", " ]")
		}
		if wantParse(t, line) {
			right++
		} else {
			wrong++
		}
	}
	if right < 1000 || wrong < 10000 {
		t.Errorf("%d lines were right, %d wrong", right, wrong)
	}
}

// P27.4: bytes by chance end, and are no lines.
func TestBytesByChance(t *testing.T) {
	m := newMaker(274)
	for range 5000 {
		lines := make([]string, m.Intn(20))
		for i := range lines {
			text := make([]byte, m.Intn(60))
			m.Read(text)
			lines[i] = string(text)
		}
		if wantParse(t, lines...) != (len(lines) == 0) {
			t.Errorf("P27.2: %q are lines", lines)
		}
	}
}
