package refine

import (
	"slices"

	"winnow/api"
	"winnow/bwd"
	"winnow/env"
	"winnow/fwd"
	"winnow/replay"
	"winnow/table"
)

// rounds are those of one site, with the tables that they have made so far, and the applications of their passes. Nothing that the layers below are handed is refused: the program and the configuration are good, all tables fit them, the site is one.
type rounds struct {
	prog         api.Prog
	config       api.Config
	site         int
	tables       []api.Table
	applications int
}

// run makes the rounds from a first table on, until one tells the verdict.
func (r *rounds) run(first api.Table) api.Verdict {
	if verdict, told := r.judge(first, 0); told {
		return verdict
	}
	last := first
	for round := 1; round <= r.config.Rounds; round++ {
		start, back := r.backward(last)
		if start.Dead {
			return api.Verdict{Kind: api.Safe, Round: round}
		}
		next := r.forward(start, back)
		if verdict, told := r.judge(next, round); told {
			return verdict
		}
		if table.Same(next, last) {
			return api.Verdict{Kind: api.Unknown, Round: round}
		}
		last = next
	}
	return api.Verdict{Kind: api.Unknown, Round: r.config.Rounds}
}

// judge is the verdict that a forward table tells, if it tells one: Safe, if the site is no alarm of it; Definite, if one of its tries faults there.
func (r *rounds) judge(t api.Table, round int) (api.Verdict, bool) {
	alarms, _ := fwd.Alarms(r.prog, r.config, t)
	if !slices.Contains(alarms, r.site) {
		return api.Verdict{Kind: api.Safe, Round: round}, true
	}
	tape, steps, found, _ := replay.Find(r.prog, r.config, t, r.site)
	if found {
		return api.Verdict{Kind: api.Definite, Round: round, Tape: tape, Steps: steps}, true
	}
	return api.Verdict{}, false
}

// backward makes the backward pass within a table; it tells from where a run that faults at the site may begin, and the pass' table.
func (r *rounds) backward(within api.Table) (api.Env, api.Table) {
	back, applications, _ := bwd.Run(r.prog, r.config, within, r.site)
	r.note(back, applications)
	zeros, _ := env.Zero(r.prog)
	return env.Meet(back[0], zeros), back
}

// forward makes the forward pass from an Env within a table.
func (r *rounds) forward(start api.Env, within api.Table) api.Table {
	ahead, applications, _ := fwd.Run(r.prog, r.config, start, within)
	r.note(ahead, applications)
	return ahead
}

// note keeps what a pass has made.
func (r *rounds) note(t api.Table, applications int) {
	r.tables = append(r.tables, t)
	r.applications += applications
}
