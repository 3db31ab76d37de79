package proof

import (
	"math"
	"testing"

	"winnow/api"
	"winnow/num"
)

// climb has six vertices in a row; neither of its two sites can fault, whatever x is.
const climb = "var x; x := x + 1; x := x + 1; x := x + 1; x := x + 1; assert x * 4 % 2 == 0;"

// middle has six vertices in a row, and its one site on the link in the middle; no run faults there.
const middle = "var x; x := x + 1; x := x + 1; assert x != 7; x := x + 1; x := x + 1;"

// numbers is a table of one scalar.
func numbers(list ...api.Num) api.Table {
	var t api.Table
	for _, a := range list {
		t = append(t, vars(a))
	}
	return t
}

// ramp is climb's table in which x is from lo to hi at the first vertex, and what that becomes at the others.
func ramp(lo, hi int64) api.Table {
	t := numbers(in(lo, hi), in(lo+1, hi+1), in(lo+2, hi+2), in(lo+3, hi+3), in(lo+4, hi+4))
	return append(t, t[4])
}

// lessOf are the Envs that lack a little of one scalar's interval: its least number, its greatest, all that are odd, and all.
func lessOf(lo, hi int64) []api.Env {
	return []api.Env{vars(in(lo+1, hi)), vars(in(lo, hi-1)), vars(raw(lo, hi, 2, 0)), vars(is(lo)), vars(raw(lo, hi, 0, uint64(hi))), vars(num.Bot()), lost(), {Dead: true, Vars: list(every())}}
}

// P26.1: a first table into which one link isn't below, each of them; the Env at that place just great enough, and greater.
func TestLinksOfAFirstTableByHand(t *testing.T) {
	p, c := mustText(t, climb), plain()
	u := ramp(0, 10)
	number := int64(len(u))
	for site := range p.Sites {
		wantCheck(t, p, c, site, true, u)
		for v := int64(1); v < number; v++ {
			at := min(v, number-2)
			for _, e := range lessOf(at, at+10) {
				wantCheck(t, p, c, site, false, except(u, int(v), e))
				// Where all others are all stores, it is that one link alone that is broken.
				wantCheck(t, p, c, site, false, except(tops(t, p, c), int(v), e))
			}
			wantCheck(t, p, c, site, true, except(u, int(v), vars(raw(at, at+10, 1, 9))))
		}
		wantCheck(t, p, c, site, true, except(u, 5, vars(every())))
		wantCheck(t, p, c, site, true, except(u, 5, vars(in(4, 15))))
		// A greater Env needs a greater one behind it.
		wantCheck(t, p, c, site, false, except(u, 4, vars(in(4, 15))))
		wantCheck(t, p, c, site, true, except(except(u, 4, vars(in(4, 15))), 5, vars(in(4, 15))))
	}
}

// P26.1: a first table whose start lacks the zeros.
func TestStartOfAFirstTableByHand(t *testing.T) {
	p, c := mustText(t, climb), plain()
	u := ramp(-5, 5)
	for _, a := range []api.Num{is(0), in(0, 5), in(-5, 0), raw(-4, 4, 4, 0), raw(-5, 5, 0, 0)} {
		wantCheck(t, p, c, 0, true, except(u, 0, vars(a)))
		wantCheck(t, p, c, 0, true, except(tops(t, p, c), 0, vars(a)))
	}
	for _, e := range []api.Env{vars(in(1, 5)), vars(in(-5, -1)), vars(raw(-5, 5, 2, 1)), vars(is(3)), vars(num.Bot()), lost(), {Dead: true, Vars: list(is(0))}} {
		wantCheck(t, p, c, 0, false, except(u, 0, e))
		wantCheck(t, p, c, 0, false, except(tops(t, p, c), 0, e))
		wantCheck(t, p, c, 0, false, except(u, 0, e), filled(6, lost()))
	}
	// Each scalar and each array begins with 0.
	p = mustText(t, "var x; var y; array a[2]; assert x * 4 % 2 == 0;")
	z, one := is(0), in(1, 9)
	all := tops(t, p, c)
	wantCheck(t, p, c, 0, true, except(all, 0, both(list(z, z), list(z))))
	for _, e := range []api.Env{both(list(one, z), list(z)), both(list(z, one), list(z)), both(list(z, z), list(one)), both(list(every(), every()), list(one))} {
		wantCheck(t, p, c, 0, false, except(all, 0, e))
	}
}

// P26.1: two links into one vertex; a loop; links out of one vertex.
func TestSeveralLinksByHand(t *testing.T) {
	c := plain()
	p := mustText(t, "var x; input x; if x < 0 { x := 1; } else { x := 5; } assert x * 4 % 2 == 0;")
	two := raw(1, 5, 4, 1)
	u := numbers(is(0), every(), upTo(-1), from(0), two, two)
	wantCheck(t, p, c, 0, true, u)
	for v, less := range [][]api.Num{1: {from(0), upTo(0), odd()}, 2: {upTo(-2), is(-1)}, 3: {from(1), even()}, 4: {is(1), is(5), in(2, 5), in(1, 4)}, 5: {is(1), is(5), in(2, 5)}} {
		for _, a := range append(less, num.Bot()) {
			wantCheck(t, p, c, 0, false, except(u, v, vars(a)))
		}
	}
	wantCheck(t, p, c, 0, false, except(u, 4, vars(in(1, 5))))
	wantCheck(t, p, c, 0, true, except(u, 5, vars(in(1, 5))))
	p = mustText(t, "var x; while x < 5 { x := x + 1; } assert x * 4 % 2 == 0;")
	u = numbers(in(0, 5), in(0, 4), is(5), is(5))
	wantCheck(t, p, c, 0, true, u)
	for v, less := range [][]api.Num{0: {in(0, 4), in(1, 5), raw(0, 5, 5, 0), is(0)}, 1: {in(1, 4), in(0, 3), even()}, 2: {is(4), in(0, 4)}, 3: {is(6), upTo(4)}} {
		for _, a := range append(less, num.Bot()) {
			wantCheck(t, p, c, 0, false, except(u, v, vars(a)))
		}
	}
	// The way round the loop is held by greater numbers, too, if they stand on all of it; and x may be 0 at times alone.
	wantCheck(t, p, c, 0, true, numbers(in(-3, 5), in(-3, 4), is(5), every()))
	wantCheck(t, p, c, 0, true, numbers(in(-3, 7), in(-3, 4), in(5, 7), in(5, 7)))
	wantCheck(t, p, c, 0, false, numbers(in(-3, 7), in(-3, 4), in(5, 6), in(5, 7)))
	wantCheck(t, p, c, 0, false, numbers(in(-3, 5), in(-2, 4), is(5), is(5)))
}

// P26.1: a backward table of which one link lacks what Pre tells, or what Seed tells: each vertex of middle.
func TestLinksOfABackwardTableByHand(t *testing.T) {
	p, c := mustText(t, middle), plain()
	all, none := tops(t, p, c), num.Bot()
	b := numbers(is(5), is(6), is(7), none, none, none)
	wantCheck(t, p, c, 0, true, all, b)
	wantCheck(t, p, c, 0, true, all, numbers(in(1, 5), in(2, 6), in(3, 7), in(3, 6), in(4, 7), in(5, 8)))
	for v := range 3 {
		for _, e := range []api.Env{lost(), vars(none), vars(is(4 + int64(v))), vars(in(6+int64(v), 99)), vars(in(-99, 4+int64(v)))} {
			wantCheck(t, p, c, 0, false, all, except(b, v, e))
		}
	}
	// What stands behind the site counts, too: what leads to 20 at the end.
	two := func(lo, hi int64) api.Num { return raw(lo, hi, uint64(hi-lo), uint64(lo)) }
	b = numbers(two(5, 16), two(6, 17), two(7, 18), is(18), is(19), is(20))
	wantCheck(t, p, c, 0, true, all, b)
	for v, less := range [][]api.Num{{is(5), is(16)}, {is(6), is(17)}, {is(7), is(18)}, {is(17)}, {is(20)}} {
		for _, a := range append(less, none) {
			wantCheck(t, p, c, 0, false, all, except(b, v, vars(a)))
		}
	}
	// Nothing leads on from the last vertex, so that it may be anything that the others suffice for.
	wantCheck(t, p, c, 0, true, all, except(b, 5, vars(none)))
	wantCheck(t, p, c, 0, false, all, except(b, 5, vars(in(20, 21))))
}

// P26.1: the edge that holds the site is the first, a middle or the last link; the backward table has what Seed tells, more, or less.
func TestSeedsByHand(t *testing.T) {
	c, none := plain(), num.Bot()
	for _, row := range []struct {
		text string
		v    int // where the site's edge begins
		b    api.Table
	}{
		{"var x; assert x != 7; x := x + 1; x := x + 1;", 0, numbers(is(7), none, none, none)},
		{"var x; x := x + 1; assert x != 7; x := x + 1;", 1, numbers(is(6), is(7), none, none)},
		{"var x; x := x + 1; x := x + 1; assert x != 7;", 2, numbers(is(5), is(6), is(7), none)},
		{"var x; x := x + 1; x := x + 1 / (x - 7);", 1, numbers(is(6), is(7), none)},
		{"var x; x := x + 1; while 1 / (x - 7) == 0 { }", 1, numbers(is(6), is(7), none)},
	} {
		p := mustText(t, row.text)
		all, b := tops(t, p, c), row.b
		wantCheck(t, p, c, 0, true, all, b)
		for _, e := range []api.Env{lost(), vars(none), vars(is(6)), vars(is(8)), vars(upTo(6)), vars(from(8)), vars(even())} {
			wantCheck(t, p, c, 0, false, all, except(b, row.v, e))
		}
		// A greater Env needs greater ones ahead of it; as vertex 0's it needs none.
		wantCheck(t, p, c, 0, row.v == 0, all, except(b, row.v, vars(in(7, 9))))
		wantCheck(t, p, c, 0, false, all, filled(len(b), lost()))
	}
	// An edge that holds another site alone has no seed, not even where a store has no numbers to tell it apart by.
	bare := mustText(t, "assert true; assert 1 < 2; skip;")
	for site := range bare.Sites {
		wantCheck(t, bare, c, site, true, tops(t, bare, c), filled(4, lost()))
	}
	// Of the sites that a program has it is the one that is meant.
	p := mustText(t, "var x; x := x + 1; assert x != 7; assert x != 9;")
	all := tops(t, p, c)
	for site, b := range []api.Table{numbers(is(6), is(7), none, none), numbers(is(8), is(9), is(9), none)} {
		wantCheck(t, p, c, site, true, all, b)
		wantCheck(t, p, c, 1-site, false, all, b)
	}
}

// P26.1: a backward table is held to what is in the table ahead of it alone: what its Envs have beyond those leads nowhere.
func TestBackwardWithinByHand(t *testing.T) {
	p, c := mustText(t, middle), plain()
	all, none := tops(t, p, c), num.Bot()
	first := firstOf(t, p, c)
	no := filled(6, lost())
	// By the first table no run faults, so that what comes behind the empty second one may be any table.
	for _, row := range []struct {
		within, b api.Table
		want      bool
	}{
		{all, numbers(is(5), is(6), is(7), none, none, none), true},
		{all, numbers(none, is(6), is(7), none, none, none), false},
		{all, no, false},
		// Of the Env at the assert 7 isn't one: neither a Seed, nor a Pre from there.
		{except(all, 2, vars(upTo(3))), numbers(none, none, is(9), none, none, none), true},
		{except(all, 2, vars(upTo(9))), numbers(none, none, is(9), none, none, none), false},
		{except(all, 2, vars(in(8, 9))), numbers(none, none, is(9), none, none, none), false},
		{except(all, 2, vars(in(8, 9))), numbers(is(7), is(8), is(9), none, none, none), true},
		// Dead ones on the way.
		{except(all, 1, lost()), numbers(none, none, is(7), none, none, none), true},
		{except(all, 1, lost()), no, false},
		{except(all, 2, lost()), no, true},
		{except(all, 0, lost()), numbers(none, is(6), is(7), none, none, none), true},
		{except(all, 0, lost()), numbers(none, none, is(7), none, none, none), false},
		// What an Env has of the one ahead is all that it is asked for.
		{except(all, 1, vars(in(0, 5))), numbers(none, none, is(7), none, none, none), true},
		{except(all, 1, vars(in(0, 6))), numbers(none, none, is(7), none, none, none), false},
		{except(all, 1, vars(in(0, 6))), numbers(is(5), is(6), in(7, 50), none, none, none), true},
		{first, no, true}, {no, no, true}, {no, numbers(is(5), every(), every(), every(), every(), every()), true},
		// The end is told by the backward Env alone: that the zeros aren't in the one ahead counts for nothing.
		{no, all, false}, {except(no, 0, vars(is(5))), except(no, 0, vars(in(-5, 5))), false}, {no, except(no, 0, vars(is(0))), false},
		{no, except(no, 0, vars(raw(-1, 1, 2, 1))), true},
	} {
		wantCheck(t, p, c, 0, row.want, first, no, row.within, row.b)
		wantCheck(t, p, c, 0, row.want, first, no, no, no, row.within, row.b)
	}
}

// P26.1: a forward table within a backward one: its start, and each of its links, with what both tables let through.
func TestForwardWithinByHand(t *testing.T) {
	p, c := mustText(t, climb), plain()
	all, no := tops(t, p, c), filled(6, lost())
	u := ramp(0, 10)
	for site := range p.Sites {
		// Within all stores it is held as a first table is.
		for _, ahead := range [][]api.Table{{all, all}, {all, no, no, all}, {all, no, all, no, u, all}} {
			wantCheck(t, p, c, site, true, append(ahead, u)...)
			for v := range int64(6) {
				at := min(v, 4)
				for i, e := range lessOf(at, at+10) {
					// At the start one needs the zeros alone: three of these Envs have them.
					wantCheck(t, p, c, site, v == 0 && i >= 1 && i <= 3, append(ahead, except(u, int(v), e))...)
				}
			}
			wantCheck(t, p, c, site, true, append(ahead, except(u, 0, vars(is(0))))...)
		}
	}
	for _, row := range []struct {
		b, u api.Table
		want bool
	}{
		// What doesn't stand in the backward table is let go, at the start, ahead of a link, and behind it.
		{no, no, true}, {no, all, true}, {all, no, false},
		{except(all, 0, vars(from(1))), no, true}, {except(all, 0, vars(from(0))), no, false}, {except(all, 0, vars(odd())), no, true}, {except(all, 0, vars(even())), no, false},
		{except(all, 0, vars(even())), except(no, 0, vars(is(0))), false}, {except(all, 0, vars(even())), ramp(0, 0), true},
		{except(all, 1, vars(from(2))), except(no, 0, vars(is(0))), true}, {except(all, 1, vars(from(1))), except(no, 0, vars(is(0))), false},
		{except(all, 1, vars(from(2))), except(no, 0, vars(in(0, 1))), false}, {except(all, 1, vars(from(3))), except(no, 0, vars(in(0, 1))), true},
		{except(all, 1, vars(in(5, 9))), ramp(0, 99), true}, {except(all, 1, vars(in(5, 9))), except(ramp(0, 99), 1, vars(in(5, 9))), true},
		{except(all, 1, vars(in(5, 9))), except(ramp(0, 99), 1, vars(in(5, 8))), false}, {except(all, 1, vars(in(5, 9))), except(ramp(0, 99), 1, vars(in(6, 9))), false},
		{except(all, 1, vars(in(5, 9))), except(ramp(0, 99), 2, vars(in(6, 10))), true}, {except(all, 1, vars(in(5, 9))), except(ramp(0, 99), 2, vars(in(6, 9))), false},
		{except(all, 4, vars(is(9))), except(ramp(0, 99), 5, vars(is(9))), true}, {except(all, 4, vars(is(9))), except(ramp(0, 99), 5, vars(is(8))), false},
		{except(all, 5, vars(is(9))), except(ramp(0, 99), 5, vars(is(9))), true}, {except(all, 5, lost()), except(ramp(0, 99), 5, lost()), true},
		{except(all, 3, lost()), except(except(except(ramp(0, 99), 3, lost()), 4, lost()), 5, lost()), true},
		{except(all, 3, lost()), except(ramp(0, 99), 2, lost()), false},
	} {
		wantCheck(t, p, c, 1, row.want, all, no, no, row.b, row.u)
		wantCheck(t, p, c, 0, row.want, all, no, all, no, no, row.b, row.u)
	}
}

// P26.1: chains that end with a forward table in which the site is an alarm and in which it is none: what its own Envs let it be, at each link, whatever stands ahead.
func TestForwardEndsByHand(t *testing.T) {
	p, c := mustText(t, middle), plain()
	all, no, first := tops(t, p, c), filled(6, lost()), firstOf(t, p, c)
	for _, row := range []struct {
		a    api.Num
		want bool
	}{
		{is(2), true}, {in(2, 6), true}, {in(-9, 6), true}, {even(), true}, {num.Bot(), true}, {from(8), true}, {raw(0, 20, 5, 1), true},
		{is(7), false}, {in(2, 7), false}, {in(7, 9), false}, {every(), false}, {odd(), false}, {in(6, 8), false}, {raw(2, 7, 5, 2), false},
	} {
		// Within nothing any table holds.
		wantCheck(t, p, c, 0, row.want, first, no, except(no, 2, vars(row.a)))
		wantCheck(t, p, c, 0, row.want, first, no, except(all, 2, vars(row.a)))
		wantCheck(t, p, c, 0, row.want, first, no, no, no, except(all, 2, vars(row.a)))
		wantCheck(t, p, c, 0, row.want, first, no, all, all, first, no, except(all, 2, vars(row.a)))
	}
	// What the backward table ahead leaves out is an alarm still; so is what stands in the last table alone.
	wantCheck(t, p, c, 0, false, first, no, no, except(all, 2, vars(upTo(6))), except(all, 2, vars(upTo(7))))
	wantCheck(t, p, c, 0, true, first, no, no, except(all, 2, vars(upTo(6))), except(all, 2, vars(upTo(6))))
	wantCheck(t, p, c, 0, false, first, no, all)
	wantCheck(t, p, c, 0, true, first, no, all, all, first)
	// Of two vertices of the site's node one is enough.
	p = mustText(t, "var x; input x; if x < 0 { x := 1; } else { x := 5; } assert x != 7;")
	c = api.Config{Hist: 1, Cap: 2}
	first = firstOf(t, p, c)
	number := len(first)
	no = filled(number, lost())
	x := mustSplit(t, p, c)
	wantCheck(t, p, c, 0, true, first)
	wantCheck(t, p, c, 0, true, first, no, no)
	for v, vertex := range x.Verts {
		wantCheck(t, p, c, 0, vertex.Node != 4, first, no, except(no, v, vars(is(7))))
		wantCheck(t, p, c, 0, true, first, no, except(no, v, vars(is(6))))
	}
}

// P26.1: chains that end with a backward table whose Env at vertex 0, met with the zeros, is dead, and is not.
func TestBackwardEndsByHand(t *testing.T) {
	p, c := mustText(t, "var x; array a[2]; var y; assert x * 4 % 2 == 0;"), plain()
	all, no := tops(t, p, c), filled(2, lost())
	z, one, any := is(0), in(1, 9), every()
	for _, row := range []struct {
		e    api.Env
		want bool
	}{
		{lost(), true}, {both(list(z, num.Bot()), list(z)), true}, {both(list(z, z), list(num.Bot())), true}, {api.Env{Dead: true, Vars: list(z, z), Arrays: list(z)}, true},
		{both(list(one, z), list(z)), true}, {both(list(z, one), list(z)), true}, {both(list(z, z), list(one)), true}, {both(list(any, any), list(upTo(-1))), true},
		{both(list(odd(), any), list(any)), true}, {both(list(any, raw(math.MinInt64, math.MaxInt64, 5, 3)), list(any)), true}, {both(list(any, any), list(raw(-9, 9, 0, 5))), true},
		{both(list(raw(-1, 1, 2, 1), any), list(any)), true}, {both(list(any, raw(1, -1, 1, 0)), list(any)), true},
		{both(list(z, z), list(z)), false}, {both(list(any, any), list(any)), false}, {both(list(in(-1, 1), in(0, 5)), list(upTo(0))), false},
		{both(list(even(), raw(-9, 9, 3, 0)), list(raw(-1, 4, 2, 4))), false}, {both(list(raw(-9, 9, 0, 0), z), list(z)), false},
	} {
		wantCheck(t, p, c, 0, row.want, all, except(no, 0, row.e))
		wantCheck(t, p, c, 0, row.want, all, no, no, except(all, 0, row.e))
		wantCheck(t, p, c, 0, row.want, all, all, all, except(no, 0, row.e))
		wantCheck(t, p, c, 0, row.want, all, no, no, no, no, except(no, 0, row.e))
		// With a forward table behind it that lets the site be, it is shown either way.
		wantCheck(t, p, c, 0, true, all, except(no, 0, row.e), all)
	}
}
