package tpfb

import (
	"errors"
	"fmt"
	"math"
	"slices"
	"strings"
	"testing"

	"winnow/api"
	"winnow/check"
	"winnow/config"
)

// wrongText is a text that is refused, with its number and its place.
type wrongText struct {
	text string
	code api.Errno
	at   int
}

// wrongTexts have each number by which a text may be refused, at the front, in the middle and at the end, just beyond each limit.
func wrongTexts() []wrongText {
	declared := func(form string, number int) string {
		var text strings.Builder
		for i := range number {
			text.WriteString(strings.ReplaceAll(form, "?", string(rune('a'+i))))
		}
		return text.String()
	}
	return []wrongText{
		{"+ x = 1;", api.ErrByte, 4}, {"\xff", api.ErrByte, 0}, {"skip; &", api.ErrByte, 6}, {"var x; x := 1 | 2;", api.ErrByte, 14}, {"skip, skip;", api.ErrByte, 4}, {"skip;\x00", api.ErrByte, 5},
		{strings.Repeat(" ", api.MaxSource+1), api.ErrLong, api.MaxSource}, {strings.Repeat("\xff", api.MaxSource+1), api.ErrLong, api.MaxSource}, {strings.Repeat("skip; ", 1<<16), api.ErrLong, api.MaxSource},
		{"var abcdefghijklmnopq;", api.ErrLong, 4}, {"abcdefghijklmnopq", api.ErrLong, 0},
		{"var x; x := 9223372036854775808;", api.ErrDigits, 12}, {"1x", api.ErrDigits, 0}, {"x := 99999999999999999999; ,", api.ErrDigits, 5},
		{"+", api.ErrWant, 0}, {"var x; x := 1", api.ErrWant, 13}, {"skip; var x;", api.ErrWant, 6}, {"if := 1;", api.ErrWant, 3}, {"var while;", api.ErrWant, 4}, {"}", api.ErrWant, 0}, {"if true {", api.ErrWant, 9},
		{"var x; x := 1 < 2 < 3;", api.ErrWant, 18}, {"if true skip;", api.ErrWant, 8}, {"assert true", api.ErrWant, 11},
		{strings.Repeat("skip;", api.MaxNodes+1), api.ErrMany, 5 * api.MaxNodes}, {"var x; x := " + strings.Repeat("!", api.MaxNest-1) + "y;", api.ErrDeep, 12 + api.MaxNest - 1},
		{strings.Repeat("if true { ", api.MaxNest/2) + "skip; " + strings.Repeat("} ", api.MaxNest/2), api.ErrDeep, 10 * api.MaxNest / 2},
		{"var x; var x;", api.ErrTwice, 7}, {"var x; array x[1];", api.ErrTwice, 7}, {"array a[1]; array b[2]; array a[3]; skip;", api.ErrTwice, 24},
		{"x := 1;", api.ErrNone, 0}, {"var x; input y;", api.ErrNone, 7}, {"var x; if x < 3 { x := 1 + a[x]; }", api.ErrNone, 27}, {"assert y == 1;", api.ErrNone, 7},
		{"var x; x[0] := 1;", api.ErrSort, 7}, {"array a[1]; a := 1;", api.ErrSort, 12}, {"var x; x := true;", api.ErrSort, 12}, {"var x; if x { }", api.ErrSort, 10}, {"var x; assert x < (x < 1);", api.ErrSort, 21},
		{"array a[0];", api.ErrLen, 0}, {"array a[16]; array b[17];", api.ErrLen, 13}, {"array a[9223372036854775807];", api.ErrLen, 0},
		{declared("var ?;", api.MaxScalars+1), api.ErrScalars, 6 * api.MaxScalars}, {declared("array ?[1];", api.MaxArrays+1), api.ErrArrays, 11 * api.MaxArrays},
		{strings.Repeat("assert true; ", api.MaxSites+1), api.ErrSites, 13 * api.MaxSites}, {"var x; x := 1" + strings.Repeat(" / 1", api.MaxSites+1) + ";", api.ErrSites, 14},
	}
}

// wrongConfig is a configuration that is refused, and its number.
type wrongConfig struct {
	code api.Errno
	c    api.Config
}

// wrongConfigs have each field alone that is wrong, below and above; and some several ones.
func wrongConfigs() []wrongConfig {
	list := []wrongConfig{
		{192, api.Config{}},
		{190, api.Config{Hist: 4, Unroll: -1}},
		{191, api.Config{Unroll: 4, Cap: 7, Tries: -1}},
		{192, api.Config{Cap: 7, Delay: -1}},
		{195, api.Config{Cap: 1, Rounds: 4, Tries: 5}},
		{196, api.Config{Cap: 1, Thresholds: []int64{1, 1}}},
		{196, api.Config{Cap: 1, Thresholds: []int64{2, 1}, Fuel: -1}},
		{196, api.Config{Cap: 1, Thresholds: []int64{1, 2, 3, 4, 5, 6, 7}}},
		{197, api.Config{Cap: 1, Fuel: 5001, Tries: 5}},
	}
	for _, f := range fields() {
		for _, v := range []int{f.least - 1, f.most + 1, math.MinInt, math.MaxInt} {
			c := api.Config{Cap: 3, Rounds: 1, Thresholds: []int64{1, 5}}
			*f.of(&c) = v
			list = append(list, wrongConfig{f.code, c})
		}
	}
	return list
}

// field is a number of a configuration, with what it is from and to.
type field struct {
	code        api.Errno
	least, most int
	of          func(c *api.Config) *int
}

func fields() []field {
	return []field{
		{190, 0, 3, func(c *api.Config) *int { return &c.Hist }},
		{191, 0, 3, func(c *api.Config) *int { return &c.Unroll }},
		{192, 1, 6, func(c *api.Config) *int { return &c.Cap }},
		{193, 0, 6, func(c *api.Config) *int { return &c.Delay }},
		{194, 0, 3, func(c *api.Config) *int { return &c.Narrow }},
		{195, 0, 3, func(c *api.Config) *int { return &c.Rounds }},
		{197, 0, 5000, func(c *api.Config) *int { return &c.Fuel }},
		{198, 0, 4, func(c *api.Config) *int { return &c.Tries }},
	}
}

// P28.1, P28.4: each text that is refused, alone, and ahead of each configuration that is refused.
func TestTextsThatAreRefused(t *testing.T) {
	seen := map[api.Errno]bool{}
	for _, w := range wrongTexts() {
		seen[w.code] = true
		for _, c := range corners() {
			wantRefused(t, w.text, c, ofText(w.code, w.at))
		}
		for _, other := range wrongConfigs() {
			wantRefused(t, w.text, other.c, ofText(w.code, w.at))
		}
	}
	for _, code := range []api.Errno{20, 21, 22, 30, 31, 32, 40, 41, 42, 43, 44, 45, 46} {
		if !seen[code] {
			t.Errorf("no text has the number %v", code)
		}
	}
}

// P28.1, P28.4: each configuration that is refused, with texts that are taken.
func TestConfigurationsThatAreRefused(t *testing.T) {
	seen := map[api.Errno]bool{}
	for _, w := range wrongConfigs() {
		seen[w.code] = true
		for _, text := range append(texts(), "", " # nothing", "var x;", "skip;") {
			wantRefused(t, text, w.c, ofConfig(w.code))
		}
	}
	if len(seen) != 9 {
		t.Errorf("the numbers are %v", seen)
	}
}

// P28.1: texts at the limits are taken.
func TestTextsAtTheLimits(t *testing.T) {
	for _, text := range []string{
		strings.Repeat(" ", api.MaxSource-5) + "skip;", "skip;" + strings.Repeat("\n", api.MaxSource-5), "var abcdefghijklmnop;", "var x; x := 9223372036854775807;",
		strings.Repeat("skip;", api.MaxNodes), "assert " + strings.Repeat("!", api.MaxNest-2) + "true;",
		strings.Repeat("if true { ", api.MaxNest/2-1) + "skip; " + strings.Repeat("} ", api.MaxNest/2-1),
		"array a[1]; array b[16]; array c[9];", "var a; var b; var c; var d; var e; var f; var g; var h;", strings.Repeat("assert true; ", api.MaxSites),
	} {
		for _, c := range []api.Config{plain(), rounded(3, 4, 60)} {
			analyzed(t, text, c)
			if len(text) == api.MaxSource {
				wantRefused(t, text+";", c, ofText(api.ErrLong, len(text)))
			} else {
				wantRefused(t, text+";", c, ofText(api.ErrWant, len(text)))
			}
		}
	}
}

// P28.1: configurations at each limit are taken, whose lists are nil, empty, or as long as may be; what is the same is told of nil and of empty ones.
func TestConfigurationsAtTheLimits(t *testing.T) {
	t.Parallel()
	for _, f := range fields() {
		for _, v := range []int{f.least, f.most} {
			c := api.Config{Hist: 1, Cap: 3, Narrow: 1, Rounds: 1, Fuel: 9, Tries: 1}
			*f.of(&c) = v
			for _, text := range texts() {
				analyzed(t, text, c)
			}
		}
	}
	for _, list := range [][]int64{{0}, {math.MinInt64}, {math.MaxInt64}, {math.MinInt64, math.MaxInt64}, {-5, 0, 3}, {1, 2, 3, 4, 5, 6}} {
		c := plain()
		c.Thresholds = list
		analyzed(t, loop, c)
		wantRefused(t, loop, api.Config{Cap: 1, Thresholds: append(slices.Clone(list), list[len(list)-1])}, ofConfig(api.ErrThresh))
	}
	for i, text := range texts() {
		for j, c := range corners() {
			if (i+j)%3 > 0 {
				continue
			}
			c.Thresholds = nil
			want := tellResult(analyzed(t, text, c))
			for _, list := range [][]int64{{}, make([]int64, 0, 9)} {
				c.Thresholds = list
				if got := tellResult(analyzed(t, text, c)); got != want {
					t.Errorf("P28.1: Analyze of %q with an empty list of thresholds = %s, with none %s", text, got, want)
				}
			}
		}
	}
}

// faultOf is the Fault of a call that is refused.
func faultOf(t *testing.T, err error) *api.Fault {
	t.Helper()
	var fault *api.Fault
	if !errors.As(err, &fault) {
		t.Fatalf("P28.4: %v has no Fault", err)
	}
	return fault
}

// P28.4: each Fault is new memory: one that is written over changes no other, and no later answer.
func TestFaultsAreNew(t *testing.T) {
	wrong := wrongTexts()
	var faults []*api.Fault
	var want []api.Fault
	ask := func(text string, c api.Config, told api.Fault) {
		_, err := Analyze(text, c)
		_, err2 := Report(text, c)
		faults = append(faults, faultOf(t, err), faultOf(t, err2))
		want = append(want, told, told)
	}
	for range 2 {
		for _, w := range wrong {
			ask(w.text, plain(), ofText(w.code, w.at))
			ask(w.text, api.Config{}, ofText(w.code, w.at))
		}
		for _, w := range wrongConfigs() {
			ask("", w.c, ofConfig(w.code))
			ask(loop, w.c, ofConfig(w.code))
		}
	}
	for i, fault := range faults {
		if *fault != want[i] {
			t.Fatalf("P28.4: the Fault %d is %+v, want %+v", i, *fault, want[i])
		}
		*fault = api.Fault{Code: -1, At: -77, Of: errors.New("another")}
	}
	wantRefused(t, "x := 1;", api.Config{}, ofText(api.ErrNone, 0))
	wantRefused(t, "", api.Config{}, ofConfig(api.ErrCap))
}

// P28.1: the errors are those of check.Text and of config.Check, with their texts; a nil error is nil itself.
func TestErrorsGoOnAsTheyAre(t *testing.T) {
	for _, w := range wrongTexts() {
		_, want := check.Text(w.text)
		_, err := Analyze(w.text, api.Config{})
		_, err2 := Report(w.text, api.Config{})
		wantSameError(t, err, want, fmt.Sprintf("the program is refused: E%d at %d", w.code, w.at))
		wantSameError(t, err2, want, fmt.Sprintf("the program is refused: E%d at %d", w.code, w.at))
	}
	for _, w := range wrongConfigs() {
		want := config.Check(w.c)
		_, err := Analyze(loop, w.c)
		_, err2 := Report(loop, w.c)
		wantSameError(t, err, want, fmt.Sprintf("the configuration is refused: E%d at -1", w.code))
		wantSameError(t, err2, want, fmt.Sprintf("the configuration is refused: E%d at -1", w.code))
	}
	for _, text := range texts() {
		_, err := Analyze(text, plain())
		_, err2 := Report(text, plain())
		if err != nil || err2 != nil {
			t.Errorf("P28.1: the errors of %q are %v, %v", text, err, err2)
		}
	}
}

// wantSameError holds an error against one from below, which is a Fault itself, and no other error that wraps one.
func wantSameError(t *testing.T, err, below error, told string) {
	t.Helper()
	fault, ok := err.(*api.Fault)
	if !ok || below == nil || *fault != *faultOf(t, below) || err.Error() != told || err.Error() != below.Error() {
		t.Errorf("P28.1: the error is %v, want %v, %q", err, below, told)
	}
}

// outer is an error of another type that wraps one.
type outer struct{ error }

func (o outer) Unwrap() error { return o.error }

// What kind an error is of is asked of it, not told by where it stands, and it goes on as it is.
func TestTheFirstRefusal(t *testing.T) {
	_, reject := check.Text("x := 1;")
	_, another := check.Text("+")
	refused := config.Check(api.Config{})
	wrapped := outer{reject}
	for _, row := range []struct {
		said []error
		want error
	}{
		{nil, nil}, {[]error{nil}, nil}, {[]error{nil, nil}, nil}, {[]error{errors.New("no refusal"), api.ErrNone}, nil},
		{[]error{reject, refused}, reject}, {[]error{refused, reject}, reject}, {[]error{nil, refused}, refused}, {[]error{refused, nil}, refused}, {[]error{reject, nil}, reject},
		{[]error{reject, another}, reject}, {[]error{another, reject}, another}, {[]error{refused, wrapped}, wrapped}, {[]error{outer{refused}, nil, another}, another},
	} {
		if got := first(row.said...); got != row.want {
			t.Errorf("P28.4: of %v the first is %v, want %v", row.said, got, row.want)
		}
	}
}
