package num

import (
	"testing"

	"winnow/api"
	"winnow/word"
)

// reach is how far from 0 the numbers of small Nums lie.
const reach = 6

// set is the numbers of a small Num: the bit v + reach tells of v.
type set uint32

// within tells whether v is in an interval and a class as they are written, by counting from the class' R.
func within(i api.Ival, c api.Cong, v int64) bool {
	if v < i.Lo || v > i.Hi {
		return false
	}
	if c.M == 0 {
		return v == int64(c.R)
	}
	at, step := int64(c.R), int64(c.M)
	for at > v {
		at -= step
	}
	for at < v {
		at += step
	}
	return at == v
}

func setOf(a api.Num) set {
	out := set(0)
	for v := int64(-reach); v <= reach; v++ {
		if !a.Bot && within(a.I, a.C, v) {
			out |= 1 << (v + reach)
		}
	}
	return out
}

// raws are all small Nums, each class of a small M with R below M and above it.
func raws() []api.Num {
	classes := []api.Cong{}
	for m := uint64(1); m <= 2*reach+1; m++ {
		for r := range 2 * m {
			classes = append(classes, cl(m, r))
		}
	}
	for v := int64(-reach - 1); v <= reach+1; v++ {
		classes = append(classes, cl(0, uint64(v)))
	}
	out := []api.Num{no(), {Bot: true, I: iv(0, 3), C: cl(1, 0)}}
	for lo := int64(-reach); lo <= reach; lo++ {
		for hi := int64(-reach); hi <= reach; hi++ {
			for _, c := range classes {
				out = append(out, api.Num{I: iv(lo, hi), C: c})
			}
		}
	}
	return out
}

// written tells whether a is in its normal form.
func written(a api.Num) bool {
	switch {
	case a.Bot:
		return a == no()
	case a.C.M == 0:
		return a == one(int64(a.C.R))
	}
	return a.I.Lo < a.I.Hi && a.C.R < a.C.M && in2(a.C, a.I.Lo) && in2(a.C, a.I.Hi)
}

// forms are the normal forms of all small Nums, by their numbers.
func forms(t *testing.T) map[set]api.Num {
	t.Helper()
	out := map[set]api.Num{}
	for _, a := range raws() {
		numbers := setOf(a)
		form, seen := out[numbers]
		got := Norm(a)
		if !a.Bot && got != Make(a.I, a.C) {
			t.Fatalf("P13.1: Norm(%v) = %v isn't what Make answers", a, got)
		}
		if seen && got != form {
			t.Fatalf("P13.1: %v has the numbers of %v, but the form %v", a, form, got)
		}
		if !written(got) || setOf(got) != numbers {
			t.Fatalf("P13.1: Norm(%v) = %v", a, got)
		}
		out[numbers] = got
	}
	return out
}

// P13.1, P13.2: what has the same numbers has one form, and Has tells them.
func TestFormsOfSmallNums(t *testing.T) {
	if got := len(forms(t)); got != progressions() {
		t.Fatalf("P13.1: %d forms, want %d", got, progressions())
	}
	for _, a := range raws() {
		numbers := setOf(a)
		for v := int64(-reach - 9); v <= reach+9; v++ {
			want := v >= -reach && v <= reach && numbers>>(v+reach)&1 == 1
			if got := Has(a, v); got != want {
				t.Fatalf("P13.2: Has(%v, %d) = %v", a, v, got)
			}
		}
	}
}

// progressions is how many sets of small numbers are Nums: none, one number, or two and more that are all alike far apart.
func progressions() int {
	out := 1
	for lo := -reach; lo <= reach; lo++ {
		out++
		for step := 1; lo+step <= reach; step++ {
			out += (reach - lo) / step
		}
	}
	return out
}

// P13.2: all small Nums, each with each, against the sets of their numbers.
func TestSetsOfSmallNums(t *testing.T) {
	list := forms(t)
	for as, a := range list {
		for bs, b := range list {
			if got := Leq(a, b); got != (as&^bs == 0) {
				t.Fatalf("P13.2: Leq(%v, %v) = %v", a, b, got)
			}
			if got := Meet(a, b); got != list[as&bs] || setOf(got) != as&bs {
				t.Fatalf("P13.2: Meet(%v, %v) = %v", a, b, got)
			}
			holdLeast(t, list, a, b, as|bs)
		}
	}
}

// holdLeast: Join is below every Num that has all of both.
func holdLeast(t *testing.T, list map[set]api.Num, a, b api.Num, both set) {
	t.Helper()
	join := Join(a, b)
	got := setOf(join)
	if got&both != both || list[got] != join {
		t.Fatalf("P13.2: Join(%v, %v) = %v", a, b, join)
	}
	for other, c := range list {
		if other&both == both && (got&^other != 0 || !Leq(join, c)) {
			t.Fatalf("P13.2: Join(%v, %v) = %v isn't below %v", a, b, join, c)
		}
	}
}

// P13.1 to P13.5: what is handed in otherwise than in its normal form means that form, on either side.
func TestSmallNumsMeanTheirForms(t *testing.T) {
	list := forms(t)
	all := raws()
	for i, a := range all {
		form := list[setOf(a)]
		b := all[(i*7919+13)%len(all)]
		holdSame(t, a, form, b, list[setOf(b)])
	}
}

// holdSame: calls of a and b answer what those of their forms do.
func holdSame(t *testing.T, a, aform, b, bform api.Num) {
	t.Helper()
	thresholds := []int64{3, -2}
	if Leq(a, b) != Leq(aform, bform) || Leq(b, a) != Leq(bform, aform) {
		t.Fatalf("P13.2: Leq of %v and %v isn't that of their forms", a, b)
	}
	if NonZero(a) != NonZero(aform) {
		t.Fatalf("P13.4: NonZero(%v) isn't that of its form", a)
	}
	for name, call := range map[string]func(a, b api.Num) api.Num{
		"P13.2: Meet":  Meet,
		"P13.2: Join":  Join,
		"P13.3: Widen": func(a, b api.Num) api.Num { return Widen(a, b, thresholds) },
	} {
		if call(a, b) != call(aform, bform) || call(b, a) != call(bform, aform) {
			t.Fatalf("%s of %v and %v isn't that of their forms", name, a, b)
		}
	}
	for _, op := range operators() {
		got, code := Apply(op, a, b)
		want, _ := Apply(op, aform, bform)
		if got != want || code != api.OK {
			t.Fatalf("P13.5: Apply(%d, %v, %v) = %v, %d, of their forms %v", op, a, b, got, code, want)
		}
	}
}

// P13.4: all small Nums, by their numbers.
func TestNonZeroOfSmallNums(t *testing.T) {
	list := forms(t)
	for numbers, a := range list {
		want := a
		if !a.Bot && (a.I.Lo == 0 || a.I.Hi == 0) {
			want = list[numbers&^(1<<reach)]
		}
		if got := NonZero(a); got != want {
			t.Fatalf("P13.4: NonZero(%v) = %v, want %v", a, got, want)
		}
	}
}

// resultOf is what word gives; false: there is no result.
func resultOf(op api.Op, x, y int64) (int64, bool) {
	switch op {
	case api.OpNeg:
		return word.Neg(x), true
	case api.OpAdd:
		return word.Add(x, y), true
	case api.OpSub:
		return word.Sub(x, y), true
	case api.OpMul:
		return word.Mul(x, y), true
	case api.OpDiv:
		return word.Div(x, y)
	}
	return word.Rem(x, y)
}

// P13.5: every result of a number of a and one of b is one of the answer's, and there is an answer just where there is a result.
func TestResultsOfSmallNums(t *testing.T) {
	list := forms(t)
	for as, a := range list {
		for bs, b := range list {
			for _, op := range operators() {
				holdResultsOfSmall(t, op, a, b, as, bs)
			}
		}
	}
}

func holdResultsOfSmall(t *testing.T, op api.Op, a, b api.Num, as, bs set) {
	t.Helper()
	answer, code := Apply(op, a, b)
	if op == api.OpNeg {
		bs = 1
	}
	some := false
	for x := int64(-reach); x <= reach; x++ {
		for y := int64(-reach); y <= reach; y++ {
			if as>>(x+reach)&1 == 0 || bs>>(y+reach)&1 == 0 {
				continue
			}
			v, ok := resultOf(op, x, y)
			some = some || ok
			if ok && !within(answer.I, answer.C, v) {
				t.Fatalf("P13.5: Apply(%d, %v, %v) = %v; of %d and %d it is %d", op, a, b, answer, x, y, v)
			}
		}
	}
	if code != api.OK || answer.Bot == some || !written(answer) {
		t.Fatalf("P13.5: Apply(%d, %v, %v) = %v, %d", op, a, b, answer, code)
	}
}
