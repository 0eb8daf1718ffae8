package tests

import (
	"math"
	"reflect"
	"slices"
	"strings"
	"testing"

	"loop.example/g00166/impl"
)

// checkSameMeaning is P10: the code of a core makes, value by value and with the
// same code, what the core means. It tells whether that is promised: where neither
// is cut short by fuel, steps or room.
func checkSameMeaning(t *testing.T, list []core, v cells) bool {
	t.Helper()
	compiled := impl.CompileCore(list)
	mean, run := impl.MeanCore(list, v, impl.MaxFuel), impl.RunCode(compiled.Ins, compiled.Regs, v, impl.MaxSteps)
	if mean.Spent == impl.MaxFuel || compiled.Code != 0 || run.Code == impl.ErrFuel || run.Code == impl.ErrFull {
		return false
	}
	if mean.Code != run.Code || !slices.EqualFunc(mean.Outs, run.Outs, slices.Equal) || !impl.SameRuns(mean, run) {
		t.Fatalf("%s of %s: %s, its code makes %s", short(twigOf(list)), short(v), short(ranAs(mean)), short(ranAs(run)))
	}
	first, out := impl.FirstOf(list, v, impl.MaxFuel), impl.RunFirst(compiled.Ins, compiled.Regs, v, impl.MaxSteps)
	if first.Code != out.Code || !slices.Equal(first.Value, out.Value) {
		t.Fatalf("%s of %s: the first is %s, that of its code %s", short(twigOf(list)), short(v), short(told(first)), short(told(out)))
	}
	return true
}

// checkMoreSteps is the rest of P10: with more steps what was emitted with less is
// emitted, and perhaps more behind it; all that there was is spent, and what is
// enough stays as it is.
func checkMoreSteps(t *testing.T, ins []in, regs int64, v cells, all []int64) {
	t.Helper()
	whole := impl.RunCode(ins, regs, v, impl.MaxSteps)
	less := impl.RunResult{}
	for _, steps := range all {
		more := impl.RunCode(ins, regs, v, steps)
		if len(more.Outs) < len(less.Outs) || !slices.EqualFunc(more.Outs[:len(less.Outs)], less.Outs, slices.Equal) {
			t.Fatalf("%s of %s with %d: %s, with less %s", short(codeAs(ins)), short(v), steps, short(ranAs(more)), short(ranAs(less)))
		}
		if len(whole.Outs) < len(more.Outs) || !slices.EqualFunc(whole.Outs[:len(more.Outs)], more.Outs, slices.Equal) {
			t.Fatalf("%s of %s with %d: %s, with all %s", short(codeAs(ins)), short(v), steps, short(ranAs(more)), short(ranAs(whole)))
		}
		if steps < whole.Spent && (more.Spent != steps || more.Code != impl.ErrFuel) || steps >= whole.Spent && !sameRun(more, whole) {
			t.Fatalf("%s of %s with %d: %s, with all %s", short(codeAs(ins)), short(v), steps, short(ranAs(more)), short(ranAs(whole)))
		}
		less = more
	}
}

func TestMoreSteps(t *testing.T) {
	var all []int64
	for steps := range int64(700) {
		all = append(all, steps)
	}
	for _, c := range meanTexts() {
		compiled := impl.CompileCore(impl.LowerTree(treeOf(c.program)).Core)
		checkMoreSteps(t, compiled.Ins, compiled.Regs, val(c.input), append(slices.Clone(all), 9999, 10000, 29999, 30000))
	}
	// Those that spend all that there may be.
	doubled := strings.Repeat("(.,.)|", 20)
	for _, program := range []string{doubled + ".", doubled + "empty", "[" + doubled + "1]", "try (" + doubled + "empty , error)", "(" + doubled + "null) // 1", "reduce (" + doubled + ".) as $x (0; . + 1)", "range(199) | range(199) | empty"} {
		compiled := impl.CompileCore(impl.LowerTree(treeOf(program)).Core)
		checkMoreSteps(t, compiled.Ins, compiled.Regs, null(), []int64{0, 1, 2, 100, 1000, 1001, 10000, 29999, 30000})
	}
}

// P10 of programs: those told by hand, and those that come to a code, to many
// outs, or to a list that is full.
func TestSameTexts(t *testing.T) {
	programs := []string{
		".", "empty", "error", ".a", ".[]", "..", "[..]", ".[]?", ".a?", "(.a)?", "keys", "keys?", "[.[]?]", "length , type", "map(.)", "map(.?)", "map(length?)", "[.[] | try length]", "sort? // add? // 7", "not", "select(.)", "if . then .[] else error end", "range(3)", "range(.)?", "{a:.,b:(1,2)}", "{a:(.[],1)}?", "try error , 1", "try (1 , error , 2) , 3", "(try (1 , error)) | error", "try ((1,2) | try error | error) , 5", "(1 , error) // 2 , 3", "(null , false) // (4 , error)", "(.[]? // 1) | (. , error)", "[.[]? // (1,2)]", "(error // error) // 1", "error // error", "try (error // error)", "[limit]", "[1 , error]?", "[range(199)] + [1]", "[range(199) , 1]", "[range(199) , 1]? // 3", "try [[range(150)],[range(150)]] , 2", "reduce .[]? as $x (0; . + 1)", "reduce .[]? as $x (0; error)", "reduce (1,2,3) as $x (0,10; . + $x)", "reduce (1,2) as $x (0; empty)", "reduce (1 , error) as $x (0; . + $x)", "try (reduce (1,2) as $x (0; if $x == 2 then error else . end))", "reduce range(199) as $x ([]; . + [$x])", "reduce (1,2) as $x (0; (., try error) + $x)", "(1,2) as $x | (3,4) as $y | [$x,$y]", "(1,2) as $x | reduce (3,4) as $x (0; . + $x) | . + $x", ". as $x | [$x] | . as $x | $x , (1 as $x | $x) , $x", "(1,2) + (10,20) - (0,1)", "[(1,2) + ((10,20) // 5)]", "1 / (1,0,2)", "try (1 / (1,0,2))", "[.[]? | 1 / .]?", "range(199) , range(199)", "range(150,150)", "range(150,150) , error", "range(150,151) , error", "[range(199,199)] | length", "(range(199) | range(3)) == 1", "(.,.)|(.,.)|(.,.)|(.,.)|(.,.)|(.,.)|(.,.)|(.,.)", "[(.,.)|(.,.)|(.,.)|(.,.)|(.,.)|(.,.)|(.,.)] | length", "if (true,false,null) then 1 elif (true,false) then 2 else 3 end", "(true,false,error) or (true,false)", ".[0]? , .[0 - 1]? , .[\"a\"]?", "{} | {a:1,a:2,b:.}", "try .[] // \"none\"", "[[1,2],[3]] | .[] | .[]", "try (.[] | .[] | .[]) , 1",
	}
	inputs := []string{"null", "7", "0", "true", `"ab"`, "[]", "[3,1,2]", "[2,0,1]", `[[1,[2]],"a",null]`, "{}", `{"a":[1,2],"b":{"c":null}}`, `{"a":false}`}
	asked := 0
	for _, program := range programs {
		parsed := impl.ParseProgram(program)
		for _, input := range inputs {
			mean, run := impl.MeanText(program, input, impl.MaxFuel), impl.RunTextOf(program, input, impl.MaxSteps)
			if !impl.SameRuns(mean, run) {
				t.Errorf("%s of %s: %s, its code makes %s", program, input, short(ranAs(mean)), short(ranAs(run)))
			}
			if lowered := impl.LowerTree(parsed.Tree); lowered.Code == 0 && checkSameMeaning(t, lowered.Core, val(input)) {
				asked++
			}
		}
	}
	// One of them has a name that is not known.
	if want := (len(programs) - 1) * len(inputs); asked != want {
		t.Errorf("%d are asked of %d", asked, want)
	}
	for _, c := range meanTexts() {
		if !checkSameMeaning(t, impl.LowerTree(treeOf(c.program)).Core, val(c.input)) {
			t.Errorf("%s of %s is cut short", c.program, c.input)
		}
	}
}

// P10 of every op over every choice of parts, and the machine against the model.
func TestSamePartsAgainstModel(t *testing.T) {
	parts := []string{"self", "None", "One", "const=null", `const="k"`, "Two", "comma(const=false const=[5])", "Fails", "OneFails", "comma(const=null do:8)", "each(self)", "try(OneFails)", "alt(OneFails const=9)", "pipe(Two try(do:2))"}
	var pool []*twig
	for _, part := range parts {
		pool = append(pool, namedTwigs(meanParts, part))
	}
	values := []cells{null(), num(2), val(`[[1,2],{"k":false},null]`), val(`{"a":0,"k":[3]}`)}
	for _, head := range append(coreHeads(), tw(impl.CoreBin).numbered(impl.OpDiv), tw(impl.CoreBin).numbered(impl.OpLt)) {
		t.Run(head.named(), func(t *testing.T) {
			t.Parallel()
			everyChoice(head, pool, besideSelf, func(w *twig) {
				list := w.nodes()
				compiled := impl.CompileCore(list)
				for i, v := range values {
					if !checkSameMeaning(t, list, v) {
						t.Errorf("%s of %s is cut short", short(w), short(v))
					}
					if len(w.kids) < 3 || i == 2 {
						checkSteps(t, compiled.Ins, compiled.Regs, v)
					}
				}
			})
		})
	}
}

// P10 of all small cores with these heads, those without a fault.
func TestSameSmallCores(t *testing.T) {
	sets := map[string]struct {
		heads string
		size  int
		v     string
	}{
		"each kind": {`self const=1 const=[2,3] pipe comma alt bin:1 at each try list member="k" if reduce:0 as:0 var:0 do:1 do:8 empty`, 5, "[[1,2],0]"},
		"codes":     {"const=null const=1 do:8 comma alt try list", 7, "null"},
		"caught":    {"self do:8 each pipe try alt", 7, "[[1],2,[3,4]]"},
		"lists":     {"self each list pipe comma", 8, "[[1,2],[3]]"},
		"rounds":    {"const=1 do:1 comma bin:1 pipe if", 7, "[4]"},
		"slots":     {"const=1 self as:0 as:1 var:0 var:1 comma", 7, "5"},
		"states":    {"const=1 self reduce:0 as:0 var:0 comma bin:1", 7, "5"},
		"nothing":   {"empty self alt reduce:0 if try", 7, "false"},
	}
	for name, set := range sets {
		t.Run(name, func(t *testing.T) {
			t.Parallel()
			asked := 0
			smallSound(set.heads, set.size, func(w *twig) {
				if checkSameMeaning(t, w.nodes(), val(set.v)) {
					asked++
				}
			})
			if asked < 500 {
				t.Error(asked)
			}
		})
	}
}

// dice throws numbers, the same ones every time.
type dice uint64

func (d *dice) below(n int) int {
	*d = *d*6364136223846793005 + 1442695040888963407
	return int(*d>>33) % n
}

// twig is one of at most that many nodes, with the variables of these slots.
func (d *dice) twig(size int, slots []int64) *twig {
	leaves := []string{"self", "self", "const=1", "const=null", "const=[3,[4]]", "empty", "do:8", "do:1", "do:3", "do:2", "each(self)"}
	heads := []string{"pipe", "pipe", "comma", "comma", "alt", "try", "try", "list", "bin:1", "bin:10", "at", "each", "if", "as:0", "as:1", "reduce:0", "reduce:1", `member="k"`}
	if size < 4 {
		if len(slots) > 0 && d.below(3) == 0 {
			return tw(impl.CoreVar).numbered(slots[d.below(len(slots))])
		}
		return readTwig(leaves[d.below(len(leaves))])
	}
	w := readHead(heads[d.below(len(heads))])
	left := size - 1
	for at := range coreKids(w.op) {
		kid, inner := left-(coreKids(w.op)-1-at), slots
		if at < coreKids(w.op)-1 {
			kid = 1 + d.below(kid)
		}
		if w.binds(at) {
			inner = append(slices.Clone(slots), w.num)
		}
		w.kids = append(w.kids, d.twig(kid, inner))
		left -= kid
	}
	return w
}

// P10 of greater cores, of all kinds of nodes within one another.
func TestSameThrownCores(t *testing.T) {
	values := []cells{null(), num(3), val(`[[1,2],[],[[3]]]`), val(`{"a":[0,1],"k":[false]}`)}
	for part := range 4 {
		t.Run(told(made(values[part])), func(t *testing.T) {
			t.Parallel()
			d := dice(part)
			asked, codes := 0, map[int64]int{}
			for round := range 12000 {
				w := d.twig(5+d.below(40), nil)
				list := w.nodes()
				if !checkSameMeaning(t, list, values[part]) {
					continue
				}
				asked++
				compiled := impl.CompileCore(list)
				run := impl.RunCode(compiled.Ins, compiled.Regs, values[part], impl.MaxSteps)
				codes[run.Code]++
				if round%8 == 0 && run.Spent < 300 {
					checkSteps(t, compiled.Ins, compiled.Regs, values[part])
				}
			}
			if asked < 11000 || codes[0] < 1000 || codes[impl.ErrForm] < 500 || codes[impl.ErrKind] < 500 {
				t.Error(asked, codes)
			}
		})
	}
}

// As deep and as wide as a core may be, and the places at which there is no room.
func TestSameGreatCores(t *testing.T) {
	for _, head := range coreHeads() {
		for _, w := range grownCore(head, 120) {
			for _, v := range []cells{null(), val(`[[[]],{"k":1}]`)} {
				checkSameMeaning(t, w.nodes(), v)
				compiled := impl.CompileCore(w.nodes())
				if trace := impl.TraceCode(compiled.Ins, compiled.Regs, v, impl.MaxSteps); trace.Stack >= 200 {
					t.Errorf("%s: %s", head.named(), short(tracedAs(trace)))
				}
				checkSteps(t, compiled.Ins, compiled.Regs, v)
			}
		}
	}
	for _, leaves := range []int{299, 300, 301, 302, 450} {
		if !checkSameMeaning(t, wideCore(leaves).nodes(), num(5)) {
			t.Error(leaves)
		}
	}
	// A chain of tries leaves a point each, where no more than 400 may be.
	chain := func(tries int) *twig {
		w := tw(impl.CoreSelf)
		for range tries {
			w = tw(impl.CoreTry, w)
		}
		return w
	}
	for _, tries := range []int{99, 100, 101} {
		w := joinedBy(impl.CorePipe, slices.Repeat([]*twig{chain(tries)}, 4))
		compiled := impl.CompileCore(w.nodes())
		got := impl.RunCode(compiled.Ins, compiled.Regs, num(5), impl.MaxSteps)
		if asked := checkSameMeaning(t, w.nodes(), num(5)); asked != (tries <= 100) || !asked && got.Code != impl.ErrFull {
			t.Errorf("%d: %s", tries, short(ranAs(got)))
		}
		checkSteps(t, compiled.Ins, compiled.Regs, num(5))
	}
}

// All short code of these instructions that has no fault, against the model.
func TestRunShortCodeAgainstModel(t *testing.T) {
	sets := map[string]struct {
		words string
		size  int
	}{
		"each kind": {`dup pop push=[1,2] swap bin=1 at each do=1 member="k" jump unless fork try alt back store=0 load=0 append=0 emit`, 4},
		"points":    {"fork try alt each do=8 emit back", 5},
		"caught":    {"try alt do=8 emit", 6},
		"registers": {"each store=0 load=0 append=0 fork pop push=[] emit", 5},
		"jumps":     {"dup unless jump fork each emit", 5},
	}
	values := []cells{val("[[1,2],null,[3]]"), num(7), val("[[]]")}
	for name, set := range sets {
		t.Run(name, func(t *testing.T) {
			t.Parallel()
			ran, codes := 0, map[int64]int{}
			for size := 1; size <= set.size; size++ {
				shortCode(strings.Fields(set.words), size, nil, func(ins []in) {
					if modelCodeFault(ins, 1).code != 0 {
						return
					}
					for _, v := range values {
						checkSteps(t, ins, 1, v)
						codes[impl.RunCode(ins, 1, v, impl.MaxSteps).Code]++
					}
					ran++
				})
			}
			if ran < 400 || codes[0] < 200 || len(codes) < 2 {
				t.Error(ran, codes)
			}
		})
	}
}

// code is one of that many instructions without a fault: at each place one that
// fits the heights that are laid, so that all that is come to can be done.
func (d *dice) code(size int) []in {
	words := strings.Fields(`dup dup pop push=[1,2] push=null push=0 swap bin=1 bin=2 at each each each do=8 do=8 do=6 do=7 do=1 member="k" jump unless unless fork fork fork try try try try alt alt alt back store=0 store=1 load=0 load=1 append=0 append=1 emit emit`)
	ins := slices.Repeat([]in{{Op: impl.InBack}}, size)
	for at := range size - 1 {
		for range 20 {
			word := words[d.below(len(words))]
			one := readCode(strings.Replace(word+strings.Repeat(" 0", goesSomewhere(word)), "=", " ", 1))[0]
			if goesSomewhere(word) == 1 {
				one.Arg = int64(at + 1 + d.below(min(size-at-1, 9)))
			}
			ins[at] = one
			// What is behind goes back as yet, which fits every height.
			if _, wrong := modelHeights(ins); wrong < 0 {
				break
			}
			ins[at] = in{Op: impl.InBack}
		}
	}
	return ins
}

// Longer code, of all kinds of points within one another, against the model.
func TestRunThrownCodeAgainstModel(t *testing.T) {
	values := []cells{val("[[1,2],null,[3,[4]]]"), num(2), val(`{"k":[[],[5]]}`)}
	for part := range 4 {
		t.Run(string(rune('a'+part)), func(t *testing.T) {
			t.Parallel()
			d := dice(100 + part)
			codes, outs, met := map[int64]int{}, 0, map[int64]bool{}
			for range 4000 {
				ins := d.code(6 + d.below(40))
				v := values[d.below(3)]
				got := impl.RunCode(ins, 2, v, impl.MaxSteps)
				codes[got.Code]++
				outs += len(got.Outs)
				for _, place := range impl.TraceCode(ins, 2, v, impl.MaxSteps).Places {
					met[ins[place].Op] = true
				}
				if got.Spent < 400 {
					checkSteps(t, ins, 2, v)
				}
			}
			if codes[0] < 500 || codes[impl.ErrForm] < 50 || codes[impl.ErrKind] < 50 || outs < 1000 || len(met) != 19 {
				t.Error(codes, outs, len(met))
			}
		})
	}
}

// callAllRuns is what all functions of the chapter answer to these arguments.
func callAllRuns(ins []in, regs int64, v cells, steps int64, program, input string) []any {
	return []any{impl.RunCode(ins, regs, v, steps), impl.TraceCode(ins, regs, v, steps), impl.RunTextOf(program, input, steps), impl.RunFirst(ins, regs, v, steps)}
}

// P1 of this chapter.
func TestRunsArgumentsStayAndAnswersAreNew(t *testing.T) {
	codes := codesOfEveryKind()
	for _, text := range []string{"fork 1; emit", "fork 2; emit; emit", "fork 4; push [1,[2]]; fork 3; emit; emit", "dup; store 0; fork 3; load 0; emit", "each; fork 2; emit", "each; each; emit", "push [1]; store 0; dup; append 0; append 0; fork 7; load 0; emit", "push [1]; store 0; fork 5; append 0; back; load 0; emit", `dup; member "k"; fork 3; emit`, "push null; bin 1; fork 3; emit", "push [[1],[2]]; each; fork 3; emit", "alt 3; fork 3; do 8; emit", "do 4; emit", "do 7; each; emit"} {
		codes = append(codes, readCode(text))
	}
	// One list of cells in several instructions.
	shared := val("[1,[2]]")
	codes = append(codes, []in{{Op: impl.InFork, Arg: 3}, {Op: impl.InPush, Val: shared}, {Op: impl.InEmit}, {Op: impl.InPush, Val: shared}, {Op: impl.InEmit}})
	values := slices.Concat(sound(), faults(), []cells{val(`[[1],{"k":[2]}]`)})
	programs := []string{"", ".", ". , . , [.]", ".[] as $x | $x , $x", "(", "$x", "error", "range(199,199)", "reduce . as $x (.,.; $x)", strings.Repeat("(", 31), strings.Repeat("(.,.)|", 20) + ".", strings.Repeat(" ", 4000), strings.Repeat("(", 4001), strings.Repeat("\xff", 100000), "é", "\x00", "(.,error) // 1"}
	inputs := []string{"", "null", "[1,[2]]", `{"a":[1],"b":{}}`, "[", "1.5", strings.Repeat("[", 21), "[" + strings.Repeat("1,", 199) + "1]", strings.Repeat(" ", 4000), strings.Repeat(" ", 4001), "\xff", "7"}
	for i := range 6000 {
		ins, v, steps := codes[i%len(codes)], values[i%len(values)], append([]int64{3, 9, 50, 900, 2000}, farSteps...)[i%15]
		program, input := programs[i%len(programs)], inputs[i%len(inputs)]
		regs := []int64{2, 2, 2, 0, 1, 1000, 1001, -1, math.MinInt64, math.MaxInt64, 2}[i%11]
		keptIns, keptV := cloneIns(ins), slices.Clone(v)
		first := callAllRuns(ins, regs, v, steps, program, input)
		checkApart(t, first, ins, v)
		second := callAllRuns(ins, regs, v, steps, program, input)
		if !reflect.DeepEqual(first, second) {
			t.Errorf("%s, %d, %s, %d, %s, %s: %s, then %s", short(ins), regs, short(v), steps, short(program), short(input), short(first), short(second))
		}
		scribble(first)
		if !slices.EqualFunc(ins, keptIns, sameIn) || !slices.Equal(v, keptV) {
			t.Errorf("%s or %s is changed", short(keptIns), short(keptV))
		}
		roomy, roomyIns := append(make(cells, 0, len(v)+3), v...), roomyIns(ins)
		if third := callAllRuns(roomyIns, regs, roomy, steps, program, input); !reflect.DeepEqual(second, third) || slices.ContainsFunc(roomy[:cap(roomy)][len(roomy):], func(c impl.Cell) bool { return c != impl.Cell{} }) {
			t.Errorf("%s, %d, %s, %d, %s, %s: %s, then %s", short(ins), regs, short(v), steps, short(program), short(input), short(second), short(third))
		}
		for _, c := range roomyIns {
			if slices.ContainsFunc(c.Val[:cap(c.Val)][len(c.Val):], func(c impl.Cell) bool { return c != impl.Cell{} }) {
				t.Errorf("%s is written behind", short(ins))
			}
		}
	}
	if !reflect.DeepEqual(callAllRuns(nil, 0, nil, 0, "", ""), callAllRuns([]in{}, 0, cells{}, 0, "", "")) {
		t.Error("nil and an empty list are told apart")
	}
}
