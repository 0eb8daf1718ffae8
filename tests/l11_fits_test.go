package tests

import (
	"math"
	"slices"
	"testing"

	"loop.example/g00166/impl"
)

// ownCodes are those that are neither 0 nor of a run that was cut short.
var ownCodes = []int64{1, 3, 4, 5, 6, 7, 9, 10, 11, 100, -1, -2, -8, 1 << 32, 1<<32 + 8, math.MinInt64, math.MaxInt64}

// fitCase has a sign for each number of Outs: y, if these fit. They are told of a
// run that was cut short (ErrFuel, ErrMany), that came to its end (0), and that has
// another code, where c may fail; where it may not, none with such a code fits.
type fitCase struct {
	low, high       int64
	outs            []int
	cut, ended, own string
}

func fitCases() []fitCase {
	few := []int{0, 1, 2, 3, 4}
	great := []int{998, 999, 1000, 1001, 1002}
	return []fitCase{
		{0, 0, few, "ynnnn", "ynnnn", "ynnnn"}, {1, 1, few, "yynnn", "nynnn", "yynnn"}, {0, 1, few, "yynnn", "yynnn", "yynnn"}, {0, 3, few, "yyyyn", "yyyyn", "yyyyn"}, {1, 3, few, "yyyyn", "nyyyn", "yyyyn"}, {2, 3, few, "yyyyn", "nnyyn", "yyyyn"}, {3, 3, few, "yyyyn", "nnnyn", "yyyyn"},
		// Low above High, and numbers below 0.
		{3, 1, few, "yynnn", "nnnnn", "yynnn"}, {4, 3, few, "yyyyn", "nnnnn", "yyyyn"}, {1, 0, few, "ynnnn", "nnnnn", "ynnnn"}, {0, -1, few, "nnnnn", "nnnnn", "nnnnn"}, {-1, -1, few, "nnnnn", "nnnnn", "nnnnn"}, {-5, 2, few, "yyynn", "yyynn", "yyynn"}, {-1, 0, few, "ynnnn", "ynnnn", "ynnnn"}, {math.MinInt64, math.MinInt64, few, "nnnnn", "nnnnn", "nnnnn"}, {math.MinInt64, 1, few, "yynnn", "yynnn", "yynnn"}, {math.MaxInt64, 1, few, "yynnn", "nnnnn", "yynnn"}, {math.MinInt64, -1000, few, "nnnnn", "nnnnn", "nnnnn"},
		// High below Many, at it and above it: with another code it is a bound there,
		// too.
		{999, 998, great, "ynnnn", "nnnnn", "ynnnn"}, {998, 999, great, "yynnn", "yynnn", "yynnn"}, {999, 999, great, "yynnn", "nynnn", "yynnn"}, {999, 1000, great, "yyyyy", "nyyyy", "yyynn"}, {1000, 1000, great, "yyyyy", "nnyyy", "yyynn"}, {1001, 1000, great, "yyyyy", "nnnyy", "yyynn"}, {0, 1000, great, "yyyyy", "yyyyy", "yyynn"}, {0, 1001, great, "yyyyy", "yyyyy", "yyyyn"}, {1001, 1001, great, "yyyyy", "nnnyy", "yyyyn"}, {1002, 1001, great, "yyyyy", "nnnny", "yyyyn"}, {1003, 1002, great, "yyyyy", "nnnnn", "yyyyy"}, {0, math.MaxInt64, great, "yyyyy", "yyyyy", "yyyyy"}, {math.MaxInt64, math.MaxInt64, great, "yyyyy", "nnnnn", "yyyyy"}, {1000, math.MaxInt64, great, "yyyyy", "nnyyy", "yyyyy"},
		{2, 1000, few, "yyyyy", "nnyyy", "yyyyy"}, {0, 1000, few, "yyyyy", "yyyyy", "yyyyy"}, {2, 1001, few, "yyyyy", "nnyyy", "yyyyy"}, {math.MinInt64, math.MaxInt64, few, "yyyyy", "yyyyy", "yyyyy"},
		// As many Outs as there ever are, and one more.
		{299, 300, []int{298, 299, 300, 301}, "yyyn", "nyyn", "yyyn"},
	}
}

func TestFitsCount(t *testing.T) {
	for _, c := range fitCases() {
		for i, outs := range c.outs {
			run := impl.RunResult{Outs: slices.Repeat([]cells{num(1)}, outs)}
			check := func(code int64, fails bool, want bool) {
				t.Helper()
				run.Code = code
				// What else there is does not matter.
				for _, beside := range []int64{0, 3, math.MinInt64} {
					run.Spent = beside
					told := impl.CountResult{Code: beside, Low: c.low, High: c.high, Fails: fails}
					if got := impl.FitsCount(told, run); got != want {
						t.Errorf("%v of a run with code %d and %d outs: %t", told, code, outs, got)
					}
				}
			}
			for _, fails := range []bool{false, true} {
				check(impl.ErrFuel, fails, c.cut[i] == 'y')
				check(impl.ErrMany, fails, c.cut[i] == 'y')
				check(0, fails, c.ended[i] == 'y')
				for _, code := range ownCodes {
					check(code, fails, fails && c.own[i] == 'y')
				}
			}
		}
	}
}

// What the Outs are does not matter, and no Outs are nil or an empty list.
func TestFitsCountAsksHowMany(t *testing.T) {
	two := impl.CountResult{Low: 2, High: 2}
	for _, outs := range [][]cells{{nil, nil}, {num(1), nil}, {null(), null()}, {str("\n"), num(math.MaxInt64)}, {arr(), {}}, {{{Kind: 99}}, slices.Repeat(null(), 1000)}} {
		if !impl.FitsCount(two, impl.RunResult{Outs: outs}) || impl.FitsCount(two, impl.RunResult{Outs: outs[:1]}) {
			t.Error(outs)
		}
	}
	none := impl.CountResult{}
	if !impl.FitsCount(none, impl.RunResult{}) || !impl.FitsCount(none, impl.RunResult{Outs: []cells{}}) || impl.FitsCount(two, impl.RunResult{Outs: []cells{}}) {
		t.Error(none, two)
	}
}

// met is what was met on the way: how many runs made Low, High, fewer than Low with
// a code, something between, had a code of their own, were cut short.
type met struct{ low, high, fewer, between, own, cut, sure int }

func (m *met) note(c impl.CountResult, r impl.RunResult) {
	made := int64(len(r.Outs))
	isCut := r.Code == impl.ErrFuel || r.Code == impl.ErrMany
	for _, one := range []struct {
		n  *int
		is bool
	}{
		{&m.low, made == c.Low && r.Code == 0}, {&m.high, made == c.High && c.Low < c.High && r.Code == 0}, {&m.fewer, made < c.Low}, {&m.between, made > c.Low && made < c.High && r.Code == 0}, {&m.own, r.Code != 0 && !isCut}, {&m.cut, isCut},
	} {
		if one.is {
			*one.n++
		}
	}
}

// checkForetold is promise 12 of a core and a value: what it means, with every fuel
// (of more than 60 those at both ends), and what its code makes on the machine,
// where that is not full, is as it was told.
func checkForetold(t *testing.T, m *met, w *twig, v cells) {
	t.Helper()
	list := w.nodes()
	told := impl.CountCore(list)
	if want := modelCounted(w); told != want {
		t.Fatalf("%s: %s, want %s", short(w), countAs(told), countAs(want))
	}
	check := func(run impl.RunResult) {
		t.Helper()
		if !keepsTold(told, run) || !impl.FitsCount(told, run) {
			t.Fatalf("%s of %s: told %s, but %s", short(w), short(v), countAs(told), short(ranAs(run)))
		}
		m.note(told, run)
	}
	whole := impl.MeanCore(list, v, impl.MaxFuel)
	check(whole)
	for fuel := range whole.Spent {
		if fuel < 30 || fuel > whole.Spent-30 {
			check(impl.MeanCore(list, v, fuel))
		}
	}
	if sure := impl.SureCore(list); sure && whole.Code != impl.ErrFuel {
		m.sure++
		if whole.Code != 0 || len(whole.Outs) != 1 {
			t.Fatalf("%s of %s is sure, but %s", short(w), short(v), short(ranAs(whole)))
		}
	}
	compiled := impl.CompileCore(list)
	for _, steps := range []int64{0, 5, 20, 100, impl.MaxSteps} {
		if run := impl.RunCode(compiled.Ins, compiled.Regs, v, steps); run.Code != impl.ErrFull {
			check(run)
		}
	}
}

// P12 of programs.
func TestForetoldTexts(t *testing.T) {
	programs := []string{
		".", ". , 1", "empty", "error", ".a", ".a?", ".[]", ".[]?", "try .[]", "..", "type", "length", "keys?", "sort", "add", "not", "[.[]?]", "[empty]", "[.,.]", "{a:.}", "{a:(1,2),b:.[]?}", "map(.)", "map(. + 1)", "select(.)", "select(.a)", ".[]? | select(.)", "range(3)", "range(.)", "range(0,1,2)", "1 == 2", "(1,2) < (3,4,5)", "1 / .", "(1,2) + .", ".a // 1", ".[]? // (1,2)", "empty // (1,2)", "(null,false) // (1,2,3)", "(1,null) // (2,3)", "null // empty", "error // (1,2)", "1 // error", "null // error", "(1,error) // 2", "reduce .[]? as $x (1,2; 3)", "reduce .[]? as $x (0; empty)", "reduce .[] as $x (0; . + $x)", "reduce (1,2) as $x (.,.; error)", "(1,2) as $x | $x , 3", ".[]? as $x | [$x]", "if . then 1,2 else empty end", "if .[]? then 1 else 2,3 end", "(empty)[]", "(empty | error)[]", "(error | empty)[]", "try (1,2,error,3)", "try error , try 1", "(1,2,error) , 3", "[range(150)] | .[] , .[]", "range(150,150) , 1", "range(150,150,150)", "(.,.)|(.,.)|(.,.)|(.,.)|(.,.)|(.,.)|(.,.)|(.,.)", "(.,.)|(.,.)|(.,.)|(.,.)|(.,.)|(.,.)|(.,.)|(.,.)|(.,.)", "(.,.)|(.,.)|(.,.)|(.,.)|(.,.)|(.,.)|(.,.)|(.,.)|(.,.)|(.,.)|(.,.)",
	}
	inputs := []string{"null", "7", "0", "false", `"ab"`, "[]", "[3,1,2]", "[null,false]", "[[1],2]", "{}", `{"a":[1,2],"b":{"c":null}}`}
	var m met
	for _, program := range programs {
		w := twigOf(impl.LowerTree(treeOf(program)).Core)
		for _, input := range inputs {
			checkForetold(t, &m, w, val(input))
		}
	}
	for _, c := range meanTexts() {
		checkForetold(t, &m, twigOf(impl.LowerTree(treeOf(c.program)).Core), val(c.input))
	}
	if m.low < 200 || m.high < 50 || m.fewer < 200 || m.between < 50 || m.own < 200 || m.cut < 200 || m.sure < 50 {
		t.Errorf("%+v", m)
	}
}

// P12 of every op over every choice of parts: those that make nothing, one, some
// and many, that are kept by an alt and that are not, with a code and without one.
func TestForetoldParts(t *testing.T) {
	parts := []string{"self", "empty", "const=null", "const=[1,[2]]", "do:8", "do:3", "comma(self const=false)", "comma(const=1 do:8)", "comma(do:8 const=1)", "comma(const=null comma(const=2 const=3))", "each(self)", "try(each(self))", "try(comma(self do:8))", "pipe(empty do:1)", `const={"k":1}`, "list(empty)"}
	var pool []*twig
	for _, part := range parts {
		pool = append(pool, readTwig(part))
	}
	heads := append(coreHeads(), tw(impl.CoreBin).numbered(impl.OpEq), tw(impl.CoreBin).numbered(impl.OpGe), tw(impl.CoreBin).numbered(impl.OpDiv))
	for _, head := range heads {
		t.Run(head.named(), func(t *testing.T) {
			t.Parallel()
			var m met
			for _, v := range []string{"[[3],null]", "7", "[false]"} {
				everyChoice(head, pool, besideSelf, func(w *twig) { checkForetold(t, &m, w, val(v)) })
			}
			if m.low < 10 || m.cut < 50 {
				t.Errorf("%+v", m)
			}
		})
	}
}

// P12 of all small cores with these heads.
func TestForetoldSmallCores(t *testing.T) {
	sets := map[string]struct {
		heads string
		size  int
		v     string
	}{
		"each kind": {`self const=1 const=null pipe comma alt bin:1 bin:4 at each try list member="k" if reduce:0 as:0 var:0 do:1 do:3 empty`, 4, "[[1,2],0]"},
		"alts":      {"const=null const=1 do:8 comma alt try empty", 6, "null"},
		"lists":     {"self each list pipe comma empty", 6, "[[1,2],[3]]"},
		"states":    {"const=1 self empty do:8 reduce:0 var:0 comma if", 6, "5"},
	}
	for name, set := range sets {
		t.Run(name, func(t *testing.T) {
			t.Parallel()
			var m met
			smallSound(set.heads, set.size, func(w *twig) { checkForetold(t, &m, w, val(set.v)) })
			if m.low < 100 || m.cut < 100 || m.fewer < 50 {
				t.Errorf("%+v", m)
			}
		})
	}
}

// P12 of greater cores, and of what passes make of them.
func TestForetoldThrownCores(t *testing.T) {
	values := []cells{null(), num(3), val(`[[1,2],[],[[3]]]`), val(`{"a":[0,1],"k":[false]}`)}
	for part := range 4 {
		t.Run(told(made(values[part])), func(t *testing.T) {
			t.Parallel()
			d := dice(400 + part)
			var m met
			for range 1500 {
				w := d.twig(5+d.below(40), nil)
				checkForetold(t, &m, w, values[part])
				passed := impl.RunPasses(w.nodes(), manyOrders[d.below(len(manyOrders))])
				checkForetold(t, &m, twigOf(passed.Core), values[part])
			}
			if m.low < 500 || m.high < 20 || m.fewer < 500 || m.between < 20 || m.own < 500 || m.cut < 500 || m.sure < 20 {
				t.Errorf("%+v", m)
			}
		})
	}
}
