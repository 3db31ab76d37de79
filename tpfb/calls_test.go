package tpfb

import (
	"fmt"
	"go/ast"
	"go/parser"
	"go/token"
	"maps"
	"math"
	"path/filepath"
	"reflect"
	"slices"
	"strings"
	"testing"

	"winnow/aeval"
	"winnow/api"
	"winnow/bwd"
	"winnow/cfg"
	"winnow/check"
	"winnow/config"
	"winnow/cong"
	"winnow/env"
	"winnow/eval"
	"winnow/fwd"
	"winnow/guard"
	"winnow/interp"
	"winnow/inv"
	"winnow/ival"
	"winnow/lex"
	"winnow/move"
	"winnow/num"
	"winnow/parse"
	"winnow/part"
	"winnow/print"
	"winnow/proof"
	"winnow/refine"
	"winnow/replay"
	"winnow/report"
	"winnow/table"
	"winnow/walk"
	"winnow/word"
	"winnow/wto"
)

// calls are all calls that the chapters list, by the layers' order.
func calls() map[string][]any {
	return map[string][]any{
		"word":   {word.Parse, word.Print, word.Add, word.Sub, word.Mul, word.Neg, word.Div, word.Rem, word.Wide, word.Gcd, word.Even, word.Mod},
		"lex":    {lex.Tokens},
		"parse":  {parse.Parse, parse.Shape},
		"check":  {check.Program, check.Text, check.Good, check.Same},
		"print":  {print.Text},
		"eval":   {eval.Zero, eval.Fits, eval.Int, eval.Bool, eval.Do},
		"interp": {interp.Run, interp.Moments},
		"cfg":    {cfg.Lower, cfg.At},
		"walk":   {walk.Run, walk.Path, walk.Stops},
		"wto":    {wto.Order},
		"ival":   {ival.Has, ival.Leq, ival.Join, ival.Meet, ival.Widen, ival.Neg, ival.Add, ival.Sub, ival.Mul, ival.Div, ival.Rem},
		"cong":   {cong.Norm, cong.Const, cong.Has, cong.Leq, cong.Join, cong.Meet, cong.Up, cong.Down, cong.Neg, cong.Add, cong.Sub, cong.Mul, cong.Div, cong.Rem},
		"num":    {num.Make, num.Norm, num.Const, num.Range, num.Top, num.Bot, num.Has, num.Leq, num.Meet, num.Join, num.Widen, num.NonZero, num.Apply},
		"inv":    {inv.Solve, inv.Compare, inv.Negate},
		"env":    {env.Zero, env.Top, env.Fits, env.Norm, env.Has, env.SetVar, env.SetArray, env.Leq, env.Same, env.Join, env.Widen, env.Meet},
		"aeval":  {aeval.Eval},
		"guard":  {guard.Back, guard.Filter},
		"move":   {move.Post, move.Pre, move.Seed, move.Holds},
		"config": {config.Check, config.Bound},
		"part":   {part.Split, part.Step, part.Follow},
		"table":  {table.Covers, table.Dead, table.Fits, table.Leq, table.Same, table.Meet},
		"fwd":    {fwd.Run, fwd.Alarms},
		"bwd":    {bwd.Run},
		"replay": {replay.Pick, replay.Tape, replay.Find},
		"refine": {refine.Site, refine.All},
		"proof":  {proof.Check, proof.Make},
		"report": {report.Lines, report.Parse},
		"tpfb":   {Analyze, Report},
	}
}

// exported is how many functions a package gives out, by its files.
func exported(t *testing.T, name string) int {
	t.Helper()
	files, err := filepath.Glob(filepath.Join("..", name, "*.go"))
	if err != nil {
		t.Fatal(err)
	}
	number := 0
	for _, file := range files {
		if strings.HasSuffix(file, "_test.go") {
			continue
		}
		read, err := parser.ParseFile(token.NewFileSet(), file, nil, 0)
		if err != nil {
			t.Fatal(err)
		}
		for _, d := range read.Decls {
			if f, ok := d.(*ast.FuncDecl); ok && f.Recv == nil && f.Name.IsExported() {
				number++
			}
		}
	}
	return number
}

// The list of calls has all of them.
func TestAllCallsAreListed(t *testing.T) {
	for name, list := range calls() {
		if number := exported(t, name); number != len(list) {
			t.Errorf("P0.1: %s gives out %d functions, %d are listed", name, number, len(list))
		}
	}
	if len(calls()) != 28 {
		t.Errorf("P0.1: %d layers are listed", len(calls()))
	}
}

// scene is what goes together in one call: a program, a configuration, and tables that fit them mostly; and lists of which some are wrong.
type scene struct {
	maker
	p      api.Prog
	c      api.Config
	tables []api.Table
	result api.Result
}

func newScene(t *testing.T, m maker) *scene {
	t.Helper()
	s := &scene{maker: m, p: mustText(t, m.program(m.Intn(4))), c: m.config()}
	zeros, _ := env.Zero(s.p)
	top, _ := env.Top(s.p)
	first, _, _ := fwd.Run(s.p, s.c, zeros, nil)
	back, _, _ := bwd.Run(s.p, s.c, first, m.Intn(len(s.p.Sites)))
	s.result, _ = refine.All(s.p, s.c)
	s.tables = []api.Table{first, back, slices.Repeat(api.Table{top}, len(first)), slices.Repeat(api.Table{{Dead: true}}, len(first))}
	return s
}

// edge is a number from the ends of those of 64 bits, or a small one.
func (s *scene) edge() int64 {
	return []int64{math.MinInt64, math.MinInt64 + 1, -s.Int63n(9), s.Int63n(9), s.Int63n(40), 1 << 32, math.MaxInt64 - 1, math.MaxInt64, s.Int63() - s.Int63()}[s.Intn(9)]
}

func (s *scene) ival() api.Ival { return api.Ival{Lo: s.edge(), Hi: s.edge()} }

func (s *scene) cong() api.Cong {
	if s.Intn(2) == 0 {
		return api.Cong{M: uint64(s.Intn(9)), R: uint64(s.Intn(9))}
	}
	return api.Cong{M: uint64(s.edge()), R: uint64(s.edge())}
}

func (s *scene) num() api.Num {
	return api.Num{Bot: s.Intn(9) == 0, I: s.ival(), C: s.cong()}
}

func (s *scene) nums(number int) []api.Num {
	var list []api.Num
	for range number {
		list = append(list, s.num())
	}
	return list
}

// env is one of the tables', or one of Nums that come as they come, and fits mostly.
func (s *scene) env() api.Env {
	if s.Intn(2) == 0 {
		u := s.tables[s.Intn(len(s.tables))]
		return u[s.Intn(len(u))]
	}
	e := api.Env{Dead: s.Intn(9) == 0, Vars: s.nums(3), Arrays: s.nums(1)}
	if s.Intn(6) == 0 {
		e.Vars = s.nums(s.Intn(9))
	}
	if s.Intn(6) == 0 {
		e.Arrays = s.nums(s.Intn(4))
	}
	return e
}

// table is one that fits mostly, with other Envs at some places.
func (s *scene) table() api.Table {
	u := slices.Clone(s.tables[s.Intn(len(s.tables))])
	for range s.Intn(3) {
		u[s.Intn(len(u))] = s.env()
	}
	if s.Intn(8) == 0 {
		u = u[:s.Intn(len(u)+1)]
	}
	return u
}

// nodes are those of the program, edited at times.
func (s *scene) nodes() []api.Node {
	list := slices.Clone(s.p.Nodes)
	for range s.Intn(3) {
		n := &list[s.Intn(len(list))]
		switch s.Intn(6) {
		case 0:
			n.Depth = int(s.edge())
		case 1:
			n.Kind = api.NodeKind(s.edge())
		case 2:
			n.Name = s.pick("", "x", "q", "if", "\xff", strings.Repeat("x", 1000))
		case 3:
			n.Num = s.edge()
		case 4:
			n.Op = api.Op(s.edge())
		case 5:
			list = list[:s.Intn(len(list))+1]
		}
	}
	return list
}

func (s *scene) places(number int) []int {
	var list []int
	for range number {
		list = append(list, int(s.edge()))
	}
	return list
}

// prog is the program, or one that is none.
func (s *scene) prog() api.Prog {
	if s.Intn(8) > 0 {
		return s.p
	}
	q := s.p
	switch s.Intn(7) {
	case 0:
		q.Nodes = s.nodes()
	case 1:
		q.Symbols = s.places(s.Intn(200))
	case 2:
		q.Sites = s.places(s.Intn(20))
	case 3:
		q.SiteOf = s.places(len(q.Nodes))
	case 4:
		q.Scalars = []string{"x", "x"}
	case 5:
		q.Arrays = []api.Array{{Name: "a", Len: int(s.edge())}}
	case 6:
		q = api.Prog{}
	}
	return q
}

func (s *scene) store() api.Store {
	store := api.Store{Vars: []int64{s.edge(), s.edge(), s.edge()}, Arrays: [][]int64{{s.edge(), s.edge(), s.edge()}}}
	switch s.Intn(12) {
	case 0:
		store.Vars = store.Vars[:s.Intn(3)]
	case 1:
		store.Arrays[0] = store.Arrays[0][:s.Intn(3)]
	case 2:
		store.Arrays = nil
	}
	return store
}

func (s *scene) token() api.Token {
	k := api.Token{Merged: s.Intn(9) == 0, Hist: s.places(s.Intn(5))}
	for range s.Intn(4) {
		k.Loops = append(k.Loops, api.Loop{Head: s.Intn(20), Count: int(s.edge())})
	}
	return k
}

func (s *scene) told() api.Result {
	r := s.result
	r.Verdicts = slices.Clone(r.Verdicts)
	if s.Intn(3) == 0 {
		r.Verdicts[s.Intn(len(r.Verdicts))] = api.Verdict{Kind: api.VerdictKind(s.Intn(5) - 1), Round: s.Intn(6) - 1, Tape: s.tape(), Steps: int(s.edge())}
	}
	if s.Intn(8) == 0 {
		r.Verdicts = r.Verdicts[:s.Intn(len(r.Verdicts))]
	}
	return r
}

func (s *scene) lines() []string {
	list, _ := report.Lines(s.p, s.told())
	for range s.Intn(2) {
		list = append(list, s.edited("site 0 load: definite in round 3 at step 4 with tape [1 -9223372036854775808 0]"))
	}
	return list
}

func (s *scene) arcs() []api.Arc {
	var list []api.Arc
	for range s.Intn(20) {
		list = append(list, api.Arc{From: s.Intn(6), To: s.Intn(6)})
	}
	if s.Intn(4) == 0 {
		list = append(list, api.Arc{From: int(s.edge()), To: int(s.edge())})
	}
	return list
}

// place is a number that may stand for a place, a site, an edge, a try, a fuel or a count: most of them do.
func (s *scene) place() int {
	switch s.Intn(5) {
	case 0:
		return int(s.edge())
	case 1:
		return s.special()
	}
	return s.Intn([]int{2, 4, 6, 12, len(s.p.Nodes) + 1}[s.Intn(5)])
}

// special is the place of a statement or of a condition.
func (s *scene) special() int {
	for {
		place := s.Intn(len(s.p.Nodes))
		if n := s.p.Nodes[place]; n.Kind <= api.KSkip || n.Op == api.OpNot || n.Op >= api.OpLt {
			return place
		}
	}
}

func (s *scene) text() string {
	return []string{s.anyText(), s.anyText(), fmt.Sprint(s.edge()), s.bytes(1 << s.Intn(16))}[s.Intn(4)]
}

// arguments of each type that a call takes.
func (s *scene) argument(kind reflect.Type) any {
	switch reflect.Zero(kind).Interface().(type) {
	case api.Prog:
		return s.prog()
	case api.Config:
		if s.Intn(8) == 0 {
			return s.anyConfig()
		}
		return s.c
	case api.Table:
		return s.table()
	case []api.Table:
		return s.tablesOf(s.Intn(9))
	case api.Env:
		return s.env()
	case api.Store:
		return s.store()
	case api.Num:
		return s.num()
	case api.Ival:
		return s.ival()
	case api.Cong:
		return s.cong()
	case api.Token:
		return s.token()
	case api.Result:
		return s.told()
	case api.Op:
		return api.Op([]int64{s.Int63n(16), s.Int63n(16), s.edge()}[s.Intn(3)])
	case []api.Node:
		return s.nodes()
	case []api.Arc:
		return s.arcs()
	case []string:
		return s.lines()
	case []int64:
		return s.tape()
	case []int:
		return s.places(s.Intn(9))
	case string:
		return s.text()
	case int64:
		return s.edge()
	case uint64:
		return uint64(s.edge())
	case int:
		return s.place()
	case bool:
		return s.Intn(2) == 0
	}
	return nil
}

func (s *scene) tablesOf(number int) []api.Table {
	var list []api.Table
	for range number {
		list = append(list, s.table())
	}
	return list
}

// tellAnswer is the text of what a call answers; an iterator is ranged over to its end, and left at once besides.
func tellAnswer(v reflect.Value) string {
	if err, ok := v.Interface().(error); ok && v.Kind() == reflect.Interface {
		return err.Error()
	}
	if v.Kind() != reflect.Func {
		return fmt.Sprintf("%+v", v.Interface())
	}
	var words []string
	for _, more := range []bool{true, false, true} {
		v.Call([]reflect.Value{reflect.MakeFunc(v.Type().In(0), func(told []reflect.Value) []reflect.Value {
			for _, w := range told {
				words = append(words, fmt.Sprintf("%+v", w.Interface()))
			}
			return []reflect.Value{reflect.ValueOf(more)}
		})})
	}
	return strings.Join(words, " ")
}

// made makes a call, and tells its answers and whether it is refused; a panic fails.
func made(t *testing.T, name string, call reflect.Value, in []reflect.Value) (told string, refused bool) {
	t.Helper()
	defer func() {
		if fault := recover(); fault != nil {
			t.Fatalf("P0.1: a call of %s panics: %v; it was handed %.2000s", name, fault, tellIn(in))
		}
	}()
	var words []string
	for _, v := range call.Call(in) {
		words = append(words, tellAnswer(v))
		err, ok := v.Interface().(error)
		refused = refused || ok && err != api.OK
	}
	return strings.Join(words, " "), refused
}

// mayRefuse tells whether a call answers an error or its number.
func mayRefuse(call reflect.Type) bool {
	for i := range call.NumOut() {
		if call.Out(i).Implements(reflect.TypeFor[error]()) {
			return true
		}
	}
	return false
}

func tellIn(in []reflect.Value) string {
	var words []string
	for _, v := range in {
		words = append(words, fmt.Sprintf("%+v", v.Interface()))
	}
	return strings.Join(words, ", ")
}

// P0.1: every call ends, and none panics, with arguments that go together mostly, and with wrong ones; it changes none of them, and tells the same when asked again.
func TestEveryCallEnds(t *testing.T) {
	t.Parallel()
	m := newMaker(293)
	list := calls()
	taken, refused := map[string]int{}, map[string]int{}
	for range 60 {
		s := newScene(t, m)
		for _, name := range slices.Sorted(maps.Keys(list)) {
			for i, f := range list[name] {
				for range 4 {
					what := fmt.Sprintf("%s, the function %d", name, i)
					if s.wantEnds(t, what, reflect.ValueOf(f)) {
						refused[what]++
					} else {
						taken[what]++
					}
				}
			}
		}
	}
	for name, functions := range list {
		for i, f := range functions {
			what := fmt.Sprintf("%s, the function %d", name, i)
			if mayRefuse(reflect.TypeOf(f)) && (taken[what] < 4 || refused[what] < 4) {
				t.Errorf("what %s is handed is too much alike: %d calls are taken, %d refused", what, taken[what], refused[what])
			}
		}
	}
}

// wantEnds makes a call twice with arguments of the scene, and tells whether it is refused.
func (s *scene) wantEnds(t *testing.T, what string, call reflect.Value) bool {
	t.Helper()
	var in []reflect.Value
	for k := range call.Type().NumIn() {
		in = append(in, reflect.ValueOf(s.argument(call.Type().In(k))))
	}
	before := tellIn(in)
	told, refused := made(t, what, call, in)
	if again, _ := made(t, what, call, in); again != told {
		t.Fatalf("P0.1: %s told %.1000s, and then %.1000s; it was handed %.2000s", what, told, again, before)
	}
	if tellIn(in) != before {
		t.Fatalf("P0.1: %s has changed what it was handed: %.2000s", what, before)
	}
	return refused
}

// P0.1: every call of nothing: all arguments at their zero values.
func TestEveryCallOfNothing(t *testing.T) {
	for name, list := range calls() {
		for i, f := range list {
			call := reflect.ValueOf(f)
			var in []reflect.Value
			for k := range call.Type().NumIn() {
				in = append(in, reflect.Zero(call.Type().In(k)))
			}
			made(t, fmt.Sprintf("%s, the function %d", name, i), call, in)
		}
	}
}
