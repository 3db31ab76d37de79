package report

import (
	"math"
	"math/big"
	"slices"
	"strconv"
	"strings"
	"testing"

	"winnow/api"
)

// beyond is a number so many times 2^64 (or 2^32) above another: one that wraps is that other one.
func beyond(n int, bits uint, times int64) string {
	turn := new(big.Int).Mul(big.NewInt(times), new(big.Int).Lsh(big.NewInt(1), bits))
	return turn.Add(turn, big.NewInt(int64(n))).String()
}

// notThat are texts that don't stand for a number above -1, though some are read as one that does, or wrap to it.
func notThat(n int) []string {
	text := strconv.Itoa(n)
	return []string{
		"", "x", "-", "+", "+" + text, "-" + strconv.Itoa(n+1), "--" + text, "0" + text, "00" + text, "0x" + text, text + "x", text + ".0", text + "-", text + "_0", text + ",", "\u0661",
		beyond(n, 64, 1), beyond(n, 64, -1), beyond(n, 32, 1), beyond(n, 32, -1), beyond(n, 16, 1), beyond(n, 63, 1), beyond(n, 64, 7), strings.Repeat("9", 40), strings.Repeat("0", 300) + text,
		"9223372036854775807", "9223372036854775808", "-9223372036854775808", "-9223372036854775809", "-0",
	}
}

// wrongSites are lines whose opening or word is wrong.
func wrongSites(site int) []string {
	own := strconv.Itoa(site)
	var lines []string
	for _, n := range append(notThat(site), strconv.Itoa(site+1), strconv.Itoa(site-1), strconv.Itoa(site+10), strconv.Itoa(site+256), own+"0", own+own, "1"+own) {
		lines = append(lines, "site "+n+" load: safe in round 0")
	}
	for _, w := range []string{"", "loads", "loa", "oad", "Load", "LOAD", "loaD", "load load", "loadstore", "stores", "asserts", "assertion", "Assert", "divide", "div", "divisions", "rem", "remainders", "modulo", "input", "skip", "0", "[load]"} {
		lines = append(lines, "site "+own+" "+w+": safe in round 0")
	}
	for _, opening := range []string{"", "sit", "sites", "Site", "SITE", "ite", "site site", "vertex"} {
		lines = append(lines, opening+" "+own+" load: safe in round 0")
	}
	return append(lines, own+" load: safe in round 0", "site load: safe in round 0", "site "+own+": safe in round 0", "site "+own+" load safe in round 0", "site "+own+" load:: safe in round 0", "site "+own+" load; safe in round 0")
}

// wrongTellings are what can't stand behind a site's word.
func wrongTellings() []string {
	list := []string{
		"", "safe", "unknown", "definite", "safe in", "safe in round", "unknown after round", "definite in round", "safe round 0", "safe 0", "in round 0", "0",
		"Safe in round 0", "SAFE in round 0", "safE in round 0", "safe In round 0", "safe in Round 0", "Unknown after round 0", "Definite in round 0 at step 1 with tape []",
		"safe after round 0", "unknown in round 0", "definite after round 0 at step 1 with tape []", "unsafe in round 0", "saved in round 0", "unknowns after round 0", "safe in rounds 0",
		"safe in round 0 at step 1", "safe in round 0 at step 0 with tape []", "safe in round 0 at step 1 with tape []", "safe in round 0 at step 2 with tape [1]", "safe in round 0 with tape []", "safe in round 0 with tape [1]", "safe in round 0 []",
		"unknown after round 0 at step 1", "unknown after round 0 at step 0 with tape []", "unknown after round 0 at step 1 with tape []", "unknown after round 0 at step 2 with tape [1]", "unknown after round 0 with tape []", "unknown after round 0 [1]",
		"definite in round 0", "definite in round 0 at step 1", "definite in round 0 at step 1 with tape", "definite in round 0 with tape []", "definite in round 0 at step 1 []", "definite at step 1 with tape []", "definite in round 0 with tape [] at step 1",
		"definite in round 0 at Step 1 with tape []", "definite in round 0 at steps 1 with tape []", "definite in round 0 at step 1 with Tape []", "definite in round 0 at step 1 with tapes []", "definite in round 0 at step 1 with tape []]", "definite in round 0 at step 1 with tape [] []",
		"safe in round 0 safe in round 0", "safe in round 0, unknown after round 0", "safe in round 0.", "safe in round 0\n", "safe in round 0\r", "safe in round 0\x00", "safe in round 0\u00a0",
	}
	for round := range 4 {
		for _, n := range append(notThat(round), "4", "5", "10", "256", "0"+strconv.Itoa(round)) {
			list = append(list, "safe in round "+n, "unknown after round "+n, "definite in round "+n+" at step 1 with tape []")
		}
	}
	for _, steps := range []int{1, 2, 5000} {
		for _, n := range append(notThat(steps), "0", "5001", "5002", "10000", "50000") {
			list = append(list, "definite in round 0 at step "+n+" with tape []")
		}
	}
	return list
}

// wrongTapes are texts of tapes that can't stand behind a number of steps.
func wrongTapes(steps int) []string {
	ones := func(number int) string { return strings.TrimSuffix(strings.Repeat("1 ", number), " ") }
	list := []string{
		"", "[", "]", "][", "[[]", "[]]", "[[]]", "()", "{}", "[ ]", "[  ]", "[]x", "[] ", " []", "[\t]", "[,]", "1", "[1", "1]", "(1)", "[1]]", "[[1]", "[1)",
		"[ 1]", "[1 ]", "[ 1 ]", "[1  2]", "[1 2 ]", "[ 1 2]", "[1 2", "1 2]", "[1,2]", "[1, 2]", "[1\t2]", "[1\n2]", "[1 ] 2]", "[1] [2]",
		"[1 2 3 ", "[1 2 3 ]", "[1  2 3]", "[1 2  3]", "[" + ones(steps) + "]", "[" + ones(steps+1) + "]", "[" + ones(steps+7) + "]", "[" + ones(5000) + "]", "[" + ones(5000), "[" + ones(9000) + "]", "[" + ones(4999),
	}
	for _, n := range []string{"", "01", "-01", "00", "-0", "+0", "+1", "-", "--1", "- 1", "1-", "1-1", "0x1", "1.0", "1e3", "x", "true", "\u0661", "9223372036854775808", "-9223372036854775809", "18446744073709551616", "18446744073709551617", "-18446744073709551615", "09223372036854775807", strings.Repeat("9", 50)} {
		if n != "" {
			list = append(list, "["+n+"]")
		}
		list = append(list, "["+n+" 1 2]", "[1 "+n+" 2]", "[1 2 "+n+"]")
	}
	return list
}

// wrongLines are lines that aren't right for a site.
func wrongLines(site int) []string {
	lines := append(wrongSites(site), "", " ", "\n", "#", "\x00", "site", ":", "[]")
	own := "site " + strconv.Itoa(site)
	for i, telling := range wrongTellings() {
		lines = append(lines, own+" "+words[i%len(words)]+": "+telling)
	}
	for i, tape := range wrongTapes(7) {
		lines = append(lines, own+" "+words[i%len(words)]+": definite in round 1 at step 7 with tape "+tape)
	}
	for _, right := range []string{own + " store: safe in round 3", own + " assert: unknown after round 0", own + " remainder: definite in round 1 at step 3 with tape [7]"} {
		lines = append(lines, right+right, right+"\n"+right, right+" "+right, "\n"+right, right+"\n", strings.ToUpper(right), strings.ReplaceAll(right, " ", "  "), strings.ReplaceAll(right, " ", "\t"))
		// None of these has two numbers in a row, so no blank more or less makes another right line of one.
		for i := range len(right) + 1 {
			lines = append(lines, right[:i]+" "+right[i:])
			if i < len(right) {
				lines = append(lines, right[:i])
			}
			if i < len(right) && right[i] == ' ' {
				lines = append(lines, right[:i]+right[i+1:])
			}
		}
	}
	return lines
}

// P27.2: each kind of wrong line at the first, a middle and the last place, and as the only one.
func TestWrongLines(t *testing.T) {
	for _, number := range []int{1, 3, api.MaxSites} {
		for _, place := range []int{0, number / 2, number - 1} {
			lines := calm(number)
			for _, wrong := range wrongLines(place) {
				lines[place] = wrong
				wantWrong(t, place, lines...)
				if _, _, right := expectedVerdict(wrong, place); right {
					t.Fatalf("%q is right", wrong)
				}
			}
		}
	}
}

// P27.2: of several wrong lines the first; one behind it may be anything.
func TestSeveralWrongLines(t *testing.T) {
	for i := range api.MaxSites {
		lines := calm(api.MaxSites)
		for j := i; j < api.MaxSites; j++ {
			lines[j] = "site"
			wantWrong(t, i, lines...)
		}
		swapped := calm(api.MaxSites)
		swapped[i], swapped[(i+3)%api.MaxSites] = swapped[(i+3)%api.MaxSites], swapped[i]
		wantWrong(t, min(i, (i+3)%api.MaxSites), swapped...)
		if i < api.MaxSites-1 {
			wantWrong(t, i, slices.Delete(calm(api.MaxSites), i, i+1)...)
		}
		wantWrong(t, i+1, slices.Insert(calm(api.MaxSites), i, "site "+strconv.Itoa(i)+" load: safe in round 1")...)
	}
}

// P27.2: steps and tapes that may be, at the limits.
func TestRightSteps(t *testing.T) {
	for _, steps := range []int{1, 2, 3, 9, 10, 99, 100, 4998, 4999, 5000} {
		for _, number := range []int{0, 1, steps - 2, steps - 1, steps, steps + 1} {
			tape := strings.TrimSuffix(strings.Repeat("-3 ", max(number, 0)), " ")
			for round := range 4 {
				right := wantParse(t, "site 0 division: definite in round "+strconv.Itoa(round)+" at step "+strconv.Itoa(steps)+" with tape ["+tape+"]")
				if right != (number < steps) {
					t.Errorf("P27.2: %d numbers of %d steps: %v", number, steps, right)
				}
			}
		}
	}
}

// P27.2: numbers of tapes around the ends and around 0.
func TestRightNumbers(t *testing.T) {
	for _, end := range []*big.Int{big.NewInt(math.MinInt64), big.NewInt(0), big.NewInt(math.MaxInt64), new(big.Int).Lsh(big.NewInt(1), 64)} {
		for d := int64(-12); d <= 12; d++ {
			n := new(big.Int).Add(end, big.NewInt(d))
			for _, tape := range []string{n.String(), n.String() + " 5", "5 " + n.String(), "5 " + n.String() + " 5"} {
				if right := wantParse(t, "site 0 store: definite in round 2 at step 9 with tape ["+tape+"]"); right != n.IsInt64() {
					t.Errorf("P27.2: the tape %s: %v", tape, right)
				}
			}
		}
	}
}

// someRight are right lines of a site, of each kind.
func someRight(site int) []string {
	own := "site " + strconv.Itoa(site)
	return []string{
		own + " store: safe in round 3", own + " load: unknown after round 0", own + " remainder: definite in round 1 at step 1 with tape []",
		own + " assert: definite in round 0 at step 4999 with tape [7]", own + " division: definite in round 2 at step 5 with tape [12 -10 0 -9223372036854775808]",
	}
}

// P27.2, P27.3: a line cut at each of its bytes, from both ends, without each of them, and with each two of them turned about.
func TestCutLines(t *testing.T) {
	for _, place := range []int{0, 5, api.MaxSites - 1} {
		lines := calm(api.MaxSites)
		for _, line := range someRight(place) {
			ask := func(other string) {
				lines[place] = other
				wantParse(t, lines...)
			}
			ask(line)
			for i := range len(line) {
				ask(line[:i])
				ask(line[i+1:])
				ask(line[:i] + line[i+1:])
				if i > 0 {
					ask(line[:i-1] + line[i:i+1] + line[i-1:i] + line[i+1:])
				}
				for j := i; j < len(line); j += 7 {
					ask(line[:i] + line[j:])
					ask(line[:j] + line[i:])
				}
			}
		}
	}
}

// P27.2, P27.3: a line with each byte more, and with a byte turned into each other one, at each place.
func TestTurnedBytes(t *testing.T) {
	right := 0
	for site, place := range []int{0, 5, api.MaxSites - 1} {
		lines := calm(api.MaxSites)
		if site == 0 {
			lines = lines[:2]
		}
		for _, line := range someRight(place) {
			for i := range len(line) + 1 {
				for b := range 256 {
					if site > 0 && b > 0 && strings.IndexByte(" -+0123456789:[]", byte(b)) < 0 {
						continue
					}
					lines[place] = line[:i] + string([]byte{byte(b)}) + line[i:]
					more := wantParse(t, lines...)
					turned := false
					if i < len(line) {
						lines[place] = line[:i] + string([]byte{byte(b)}) + line[i+1:]
						turned = wantParse(t, lines...)
					}
					if more || turned {
						right++
					}
				}
			}
		}
	}
	if right < 200 {
		t.Errorf("only %d of the lines were right ones", right)
	}
}

// P27.4: lines that are long are read to their end, or left where they are wrong.
func TestLongLines(t *testing.T) {
	const long = 1 << 20
	tape := "site 0 load: definite in round 0 at step 5000 with tape ["
	for _, line := range []string{
		strings.Repeat(" ", long), strings.Repeat("site 0 load: safe in round 0", long/28), "site " + strings.Repeat("0", long), "site " + strings.Repeat("9", long) + " load: safe in round 0",
		"site 0 load: safe in round " + strings.Repeat("0", long), "site 0 load: safe in round " + strings.Repeat("3", long), "site 0 load: definite in round 0 at step " + strings.Repeat("1", long) + " with tape []",
		tape + strings.Repeat("1 ", long) + "1]", tape + strings.Repeat("1 ", long), tape + strings.Repeat("9", long) + "]", tape + strings.Repeat("-", long) + "]", tape + strings.Repeat("0", long) + "]", tape + strings.Repeat("]", long), tape + strings.Repeat(" ", long),
	} {
		wantWrong(t, 0, line, "site 1 load: safe in round 0")
		wantWrong(t, 1, "site 0 load: safe in round 0", strings.Replace(line, "site 0", "site 1", 1))
	}
}
