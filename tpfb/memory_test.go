package tpfb

import (
	"reflect"
	"slices"
	"strings"
	"testing"
	"unsafe"

	"winnow/api"
)

const mark = -987654321

// roomy is a list with marked room behind it.
func roomy(list []int64) []int64 {
	long := append(slices.Clone(list), mark, mark, mark)
	return long[:len(list)]
}

// overwrite writes over all of a list, its room too.
func overwrite[T any](list []T, marked T) {
	list = list[:cap(list)]
	for i := range list {
		list[i] = marked
	}
}

// call is what is handed in, a text that stands in bytes of its own and thresholds with marked room behind them, and a copy of both.
type call struct {
	bytes     []byte
	c         api.Config
	text      string
	list      []int64
	keptBytes []byte
	keptList  []int64
	kept      api.Config
}

func newCall(text string, c api.Config) *call {
	k := &call{bytes: []byte(text + "mark")[:len(text)], list: roomy(c.Thresholds)}
	k.text = unsafe.String(unsafe.SliceData(k.bytes), len(text))
	c.Thresholds = k.list
	k.c = c
	k.keptBytes, k.keptList, k.kept = slices.Clone(k.bytes[:len(text)+4]), slices.Clone(k.list[:cap(k.list)]), c
	k.kept.Thresholds = slices.Clone(c.Thresholds)
	return k
}

// stays holds that what was handed in is as it was, the room behind it too.
func (k *call) stays(t *testing.T, what string) {
	t.Helper()
	whole := k.bytes[:len(k.keptBytes)]
	if string(whole) != string(k.keptBytes) || !slices.Equal(k.list[:cap(k.list)], k.keptList) || !reflect.DeepEqual(append([]int64{}, k.c.Thresholds...), append([]int64{}, k.kept.Thresholds...)) {
		t.Fatalf("P28.1: %s has changed what was handed in: %q, %+v", what, whole, k.c)
	}
}

// answer is all that both calls answer.
type answer struct {
	result api.Result
	err    error
	text   string
	err2   error
}

func (k *call) ask(t *testing.T) (a answer) {
	t.Helper()
	a.result, a.err = Analyze(k.text, k.c)
	k.stays(t, "Analyze")
	a.text, a.err2 = Report(k.text, k.c)
	k.stays(t, "Report")
	return a
}

func tellError(err error) string {
	if err == nil {
		return "none"
	}
	return err.Error()
}

func (a answer) tell() []string {
	return []string{tellResult(a.result), tellError(a.err), strings.Clone(a.text), tellError(a.err2)}
}

// grow grows each list of an answer.
func (a answer) grow() {
	for _, v := range a.result.Verdicts {
		_ = append(v.Tape, mark)
	}
	_ = append(a.result.Verdicts, unknown(mark))
}

// spoil writes over all lists of an answer, their room too, and over its Faults.
func (a answer) spoil() {
	for _, v := range a.result.Verdicts {
		overwrite(v.Tape, mark)
	}
	overwrite(a.result.Verdicts, unknown(mark))
	for _, err := range []error{a.err, a.err2} {
		if fault, ok := err.(*api.Fault); ok {
			*fault = api.Fault{Code: mark, At: mark, Of: api.ErrNone}
		}
	}
}

// wantKeeps holds that both calls leave what they are handed, and tell the same behind another call and a writing over of the first answers, which stay where what was handed in is written over.
func (k *call) wantKeeps(t *testing.T, between *call) api.Result {
	t.Helper()
	first := k.ask(t)
	told := first.tell()
	first.grow()
	if !slices.Equal(first.tell(), told) {
		t.Fatalf("P28.4: who grows a list of an answer changes it")
	}
	first.spoil()
	k.stays(t, "who writes over an answer")
	if between != nil {
		between.ask(t).spoil()
	}
	second := k.ask(t)
	if !slices.Equal(second.tell(), told) {
		t.Fatalf("P28.4: the answers are others later: %q, want %q", second.tell(), told)
	}
	k.ask(t).spoil()
	overwrite(k.list, mark)
	overwrite(k.bytes, '?')
	if !slices.Equal(second.tell(), told) {
		t.Fatalf("P28.4: who writes over what was handed in, or over another answer, changes an answer: %q, want %q", second.tell(), told)
	}
	return second.result
}

// P28.4: what is handed in stays, with the room behind it; answers are new, and the same with another call between.
func TestWhatIsHandedInStays(t *testing.T) {
	t.Parallel()
	kinds := map[api.VerdictKind]int{}
	list, configs := texts(), corners()
	for i, text := range list {
		for j, c := range configs {
			if (i+j)%3 > 0 {
				continue
			}
			between := newCall(list[(i+j)%len(list)], configs[(i*j)%len(configs)])
			for _, v := range newCall(text, c).wantKeeps(t, between).Verdicts {
				kinds[v.Kind]++
			}
		}
	}
	if kinds[api.Unknown] < 50 || kinds[api.Safe] < 100 || kinds[api.Definite] < 50 {
		t.Errorf("the verdicts are too much alike: %v", kinds)
	}
}

// P28.4: likewise where the calls are refused.
func TestWhatIsRefusedStays(t *testing.T) {
	for _, w := range wrongTexts() {
		newCall(w.text, api.Config{Cap: 1, Thresholds: []int64{1, 5}}).wantKeeps(t, newCall(loop, api.Config{}))
		newCall(w.text, api.Config{}).wantKeeps(t, newCall("x := 1;", plain()))
	}
	for _, w := range wrongConfigs() {
		newCall(loop, w.c).wantKeeps(t, newCall("x := 1;", w.c))
		newCall("", w.c).wantKeeps(t, newCall("", plain()))
	}
}

// P28.4: calls by chance.
func TestWhatIsHandedInStaysByChance(t *testing.T) {
	t.Parallel()
	m := newMaker(292)
	for range 200 {
		newCall(m.anyText(), m.anyConfig()).wantKeeps(t, newCall(m.anyText(), m.anyConfig()))
	}
}

// sharing looks whether any two of the lists that it is told share memory.
type sharing struct {
	verdicts map[*api.Verdict]int
	numbers  map[*int64]int
	bytes    map[*byte]int
	kept     []any // so that no memory is given out twice
}

func newSharing() *sharing {
	return &sharing{verdicts: map[*api.Verdict]int{}, numbers: map[*int64]int{}, bytes: map[*byte]int{}}
}

// addAll counts where a list's elements stand, with those in the room behind it.
func addAll[T any](t *testing.T, seen map[*T]int, list []T) {
	t.Helper()
	list = list[:cap(list)]
	for i := range list {
		if seen[&list[i]]++; seen[&list[i]] > 1 {
			t.Fatalf("P28.4: two lists of %T share memory", list[i])
		}
	}
}

func (s *sharing) addNumbers(t *testing.T, list []int64) {
	t.Helper()
	s.kept = append(s.kept, list)
	addAll(t, s.numbers, list)
}

func (s *sharing) addText(t *testing.T, text string) {
	t.Helper()
	s.kept = append(s.kept, text)
	addAll(t, s.bytes, unsafe.Slice(unsafe.StringData(text), len(text)))
}

func (s *sharing) addResult(t *testing.T, r api.Result) {
	t.Helper()
	s.kept = append(s.kept, r.Verdicts)
	addAll(t, s.verdicts, r.Verdicts)
	for _, v := range r.Verdicts[:cap(r.Verdicts)] {
		s.addNumbers(t, v.Tape)
	}
}

// P28.4: no two lists of one answer, none of two answers, and none of an answer and of what was handed in share memory, not even in the room behind them; nor do texts.
func TestNothingIsShared(t *testing.T) {
	t.Parallel()
	s := newSharing()
	for _, text := range texts() {
		text = strings.Clone(text)
		s.addText(t, text)
		for i, c := range corners() {
			if i%2 > 0 {
				continue
			}
			c.Thresholds = append(make([]int64, 0, 9), c.Thresholds...)
			s.addNumbers(t, c.Thresholds)
			for range 2 {
				s.addResult(t, analyzed(t, text, c))
				told, _ := Report(text, c)
				s.addText(t, told)
			}
		}
	}
	if len(s.verdicts) < 800 || len(s.numbers) < 3000 || len(s.bytes) < 30000 {
		t.Errorf("only %d verdicts, %d numbers, %d bytes", len(s.verdicts), len(s.numbers), len(s.bytes))
	}
}
