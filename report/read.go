package report

import (
	"strings"

	"winnow/api"
	"winnow/word"
)

// reader goes over a line from its front. It is wrong from where something stands that can't stand there; what it takes then means nothing.
type reader struct {
	rest  string
	wrong bool
}

// read is the verdict that a line tells of a site; false: it isn't the line of that site and a verdict that may be.
func read(line string, site int) (api.Verdict, bool) {
	r := reader{rest: line}
	r.want(opening(site))
	r.siteWord()
	v := api.Verdict{Kind: r.kind()}
	v.Round = r.count()
	if v.Kind == api.Definite {
		r.want(aheadOfSteps)
		v.Steps = r.count()
		r.want(aheadOfTape)
		v.Tape = r.tape()
	}
	if r.wrong || r.rest != "" || mayNotBe(v) {
		return api.Verdict{}, false
	}
	return v, true
}

// takes takes a text off the front, if it stands there.
func (r *reader) takes(text string) bool {
	rest, ok := strings.CutPrefix(r.rest, text)
	r.rest = rest
	return ok
}

// want takes a text that must stand at the front.
func (r *reader) want(text string) {
	if !r.takes(text) {
		r.wrong = true
	}
}

// siteWord takes one of the words of sites.
func (r *reader) siteWord() {
	for _, w := range siteWords {
		if r.takes(w.word) {
			return
		}
	}
	r.wrong = true
}

// kind takes what stands ahead of a round, and tells the kind of verdict whose it is.
func (r *reader) kind() api.VerdictKind {
	for kind, text := range verdictWords {
		if r.takes(text) {
			return api.VerdictKind(kind)
		}
	}
	r.wrong = true
	return api.Unknown
}

// number takes a number, which must stand there as word.Print writes it.
func (r *reader) number() int64 {
	rest := strings.TrimLeft(r.rest, "-0123456789")
	text := r.rest[:len(r.rest)-len(rest)]
	r.rest = rest
	v, code, _ := word.Parse(text)
	if code != api.OK || word.Print(v) != text {
		r.wrong = true
	}
	return v
}

// count takes a number that any int holds: the fuel is the greatest of a verdict's limits.
func (r *reader) count() int {
	v := r.number()
	if v < 0 || v > api.MaxFuel {
		r.wrong = true
		return 0
	}
	return int(v)
}

// tape takes a tape's numbers and the bracket behind them. It stops as soon as there are too many for any verdict, so that a line that goes on and on isn't kept.
func (r *reader) tape() []int64 {
	var tape []int64
	for !r.takes(behindTape) && !r.wrong && len(tape) < api.MaxFuel {
		if len(tape) > 0 {
			r.want(between)
		}
		tape = append(tape, r.number())
	}
	return tape
}
