package tests

import (
	"math"
	"reflect"
	"slices"
	"testing"

	"loop.example/g00166/impl"
)

// checkSamePassed is P11: a core that went through passes is no longer, spends no
// more, and means the same. It tells whether that is promised: where the first one
// does not run out of fuel.
func checkSamePassed(t *testing.T, w *twig, passes []int64, v cells) bool {
	t.Helper()
	list := w.nodes()
	got := impl.RunPasses(list, passes)
	if want := modelPassed(w, passes); !samePass(got, want) {
		t.Fatalf("%v of %s: %s, want %s", passes, short(w), short(passedAs(got)), short(passedAs(want)))
	}
	if impl.SizeOf(got.Core).Value > impl.SizeOf(list).Value || impl.CoreFault(got.Core) != 0 {
		t.Fatalf("%v of %s: %s", passes, short(w), short(passedAs(got)))
	}
	whole := impl.MeanCore(list, v, impl.MaxFuel)
	if whole.Spent == impl.MaxFuel {
		return false
	}
	// No more fuel than the first one spends is enough.
	less := impl.MeanCore(got.Core, v, whole.Spent)
	if less.Code != whole.Code || less.Spent > whole.Spent || !slices.EqualFunc(less.Outs, whole.Outs, slices.Equal) || !impl.SameRuns(less, whole) {
		t.Fatalf("%v of %s of %s: %s, but %s: %s", passes, short(w), short(v), short(ranAs(whole)), short(passedAs(got)), short(ranAs(less)))
	}
	return true
}

var manyOrders = [][]int64{{1}, {2}, {3}, {4}, {1, 2, 3, 4}, {4, 3, 2, 1}, {1, 2, 3, 4, 1, 2, 3}, {3, 1, 4, 2, 3, 1, 4, 2}, {1, 2, 1, 2, 1, 2, 1, 2, 1, 2, 1, 2, 1, 2, 1, 2, 3, 4, 3, 4}}

// P11 of programs.
func TestSamePassedTexts(t *testing.T) {
	programs := []string{
		"1 + 2 * 3", ". | (1 + 2 * 3)", "empty , .a", "if 1 == 1 then .a else error end", "if null then error else . end", "if (1,2) then . else empty end", "[empty]", "[1]", "[[[]]]", "[1,2]", "{a:1,b:{c:2}}", "{a:.,b:1}", "{a:empty,b:1}", "1 / 0", "try (1 / 0) , 1", "[1] | length", "3 | [range(.)]", "null // 1 , (false // empty) , (0 // error)", "(empty // 1) | . + 1", "try .", "try 1 , try empty , try try .a", ". as $x | try $x", "(1 as $x | $x) | type", "reduce empty as $x (0; . + $x)", "reduce .[]? as $x (empty; error)", "reduce .[]? as $x (1 + 1; . + 1)", "empty as $x | error", "(empty)[]", "empty.a", "empty + error", "error + empty", "[.[]? | . , empty]", "1 and 0 , (null or 1)", "not", "select(true)", "select(null)", "map(1)", "[[1,2][0],[1,2][5]]", "{a:1}.a , {a:1}[\"b\"]", `"a" + "b" | length`, "[1,2] | . | . | add", ". | error", "error | .", "1 | error", "try (1 | error) , 2", "range(2) | . , empty | 5", "..", "[..] | . | length",
	}
	inputs := []string{"null", "7", "false", `"ab"`, "[]", "[3,1,2]", `{"a":[1,2],"b":{"c":null}}`}
	done := int64(0)
	for _, program := range programs {
		w := twigOf(impl.LowerTree(treeOf(program)).Core)
		for _, input := range inputs {
			for _, passes := range manyOrders {
				if !checkSamePassed(t, w, passes, val(input)) {
					t.Errorf("%s of %s is cut short", program, input)
				}
				done += impl.RunPasses(w.nodes(), passes).Did
			}
		}
	}
	if done < 1000 {
		t.Error(done)
	}
	for _, c := range meanTexts() {
		w := twigOf(impl.LowerTree(treeOf(c.program)).Core)
		for _, passes := range manyOrders {
			if !checkSamePassed(t, w, passes, val(c.input)) {
				t.Errorf("%s of %s is cut short", c.program, c.input)
			}
		}
		compiled := impl.CompileCore(w.nodes())
		if !checkSamePeep(t, compiled.Ins, compiled.Regs, val(c.input)) {
			t.Errorf("%s of %s is cut short", c.program, c.input)
		}
	}
}

// P11 of all small cores with these heads, those without a fault, and of their code.
func TestSamePassedSmallCores(t *testing.T) {
	sets := map[string]struct {
		heads string
		size  int
		v     string
	}{
		"each kind": {`self const=1 const=null pipe comma alt bin:1 at each try list member="k" if reduce:0 as:0 var:0 do:1 empty`, 4, "[[1,2],0]"},
		"fold":      {"const=1 const=null empty bin:1 list if", 6, "null"},
		"pipe":      {"self const=2 do:1 do:8 pipe", 7, "[[1],2]"},
		"dead":      {"self const=null const=3 empty comma alt each", 6, "[[1,2],[3]]"},
		"kept":      {"self empty as:0 var:0 reduce:0 try do:8", 6, "5"},
	}
	for name, set := range sets {
		t.Run(name, func(t *testing.T) {
			t.Parallel()
			met, asked, did := 0, 0, int64(0)
			smallSound(set.heads, set.size, func(w *twig) {
				checkPasses(t, w)
				passes := manyOrders[met%len(manyOrders)]
				met++
				if checkSamePassed(t, w, passes, val(set.v)) {
					asked++
					did += impl.RunPasses(w.nodes(), passes).Did
				}
				compiled := impl.CompileCore(w.nodes())
				checkSamePeep(t, compiled.Ins, compiled.Regs, val(set.v))
			})
			if asked < 500 || did < 500 {
				t.Error(asked, did)
			}
		})
	}
}

// P11 of greater cores, with passes in orders of all kinds, and of their code. That
// of a core that went through passes does what the first one means (P10, too).
func TestSamePassedThrownCores(t *testing.T) {
	values := []cells{null(), num(3), val(`[[1,2],[],[[3]]]`), val(`{"a":[0,1],"k":[false]}`)}
	for part := range 4 {
		t.Run(told(made(values[part])), func(t *testing.T) {
			t.Parallel()
			d := dice(300 + part)
			asked, did, codes := 0, int64(0), map[int64]int{}
			for range 3000 {
				w := d.twig(5+d.below(40), nil)
				var passes []int64
				for range d.below(21) {
					passes = append(passes, int64(1+d.below(4)))
				}
				if !checkSamePassed(t, w, passes, values[part]) {
					continue
				}
				asked++
				got := impl.RunPasses(w.nodes(), passes)
				did += got.Did
				mean := impl.MeanCore(w.nodes(), values[part], impl.MaxFuel)
				codes[mean.Code]++
				compiled := impl.CompileCore(got.Core)
				checkSamePeep(t, compiled.Ins, compiled.Regs, values[part])
				kept := impl.PeepCode(compiled.Ins, compiled.Regs)
				run := impl.RunCode(kept.Ins, kept.Regs, values[part], impl.MaxSteps)
				if run.Code != impl.ErrFuel && run.Code != impl.ErrFull && !impl.SameRuns(mean, run) {
					t.Fatalf("%v of %s of %s: %s, but %s", passes, short(w), short(values[part]), short(ranAs(mean)), short(ranAs(run)))
				}
			}
			if asked < 2500 || did < 2000 || codes[0] < 500 || codes[impl.ErrForm] < 200 || codes[impl.ErrKind] < 200 {
				t.Error(asked, did, codes)
			}
		})
	}
}

// Many outs, and lists that are full.
func TestSamePassedGreatRuns(t *testing.T) {
	for _, program := range []string{"range(150,150)", "range(150,151) , error", "[range(199) , 1]", "[range(199)] + [1]", "(.,.)|(.,.)|(.,.)|(.,.)|(.,.)|(.,.)|(.,.)|(.,.)|.", "[[1,2] | .[] | range(99 + 99) | . , empty] | length", "reduce range(100 + 99) as $x ([]; . + [$x])"} {
		w := twigOf(impl.LowerTree(treeOf(program)).Core)
		for _, passes := range manyOrders {
			if !checkSamePassed(t, w, passes, null()) {
				t.Errorf("%s is cut short", program)
			}
		}
	}
}

// callAllPasses is what all functions of the chapter answer to these arguments.
func callAllPasses(list []core, passes []int64, ins []in, regs int64) []any {
	return []any{impl.FoldCore(list), impl.PipeCore(list), impl.DeadCore(list), impl.TryCore(list), impl.RunPasses(list, passes), impl.PeepCode(ins, regs), impl.SizeOf(list)}
}

// P1 of this chapter.
func TestPassesArgumentsStayAndAnswersAreNew(t *testing.T) {
	cores := coresOfEveryKind()
	for _, text := range []string{"comma(const=[1,2] const=[1,2])", "pipe(self const=[1])", "pipe(const=[1] self)", "pipe(const=[2,1] do:4)", "pipe(const=[1] do:7)", "comma(empty const=[1,[2]])", "alt(const=[1] const=[2])", "alt(const=null const=[2])", "try(const=[1])", "if(const=1 const=[2] const=[3])", "if(const=null const=[2] const=[3])", "list(const=[1])", "list(empty)", "at(const=[[1,2]] const=0)", "bin:1(const=null const=[1])", "bin:1(const=[1] const=null)", `member="k"(const={"a":[1]} const=[2])`, `member="k"(self member="k"(const={} self))`, "bin:1(const=[] const=[1])", "comma(try(const=[1]) pipe(self const=[1]))"} {
		cores = append(cores, readTwig(text).nodes())
	}
	// One list of cells in several nodes.
	shared := val("[1,[2]]")
	cores = append(cores, []core{{Op: impl.CoreConst, Val: shared}, {Op: impl.CoreConst, Val: shared}, {Op: impl.CoreComma, B: 1}}, []core{{Op: impl.CoreSelf}, {Op: impl.CoreConst, Val: shared}, {Op: impl.CorePipe, B: 1}, {Op: impl.CoreConst, Val: shared}, {Op: impl.CoreComma, A: 2, B: 3}})
	codes := codesOfEveryKind()
	for _, text := range []string{"push [1]; pop; push [1,[2]]; emit", "push [1]; push [1]; pop; emit", `dup; member "k"; dup; pop; emit`, "fork 3; dup; pop; emit"} {
		codes = append(codes, readCode(text))
	}
	codes = append(codes, []in{{Op: impl.InPush, Val: shared}, {Op: impl.InPush, Val: shared}, {Op: impl.InPop}, {Op: impl.InPush, Val: shared}, {Op: impl.InEmit}})
	lists := [][]int64{nil, {}, {1}, {2}, {3}, {4}, {0}, {5}, {1, 2, 3, 4}, slices.Repeat([]int64{1, 2, 3, 4}, 5), slices.Repeat([]int64{1, 2, 3}, 7), {math.MinInt64}, {1, math.MaxInt64}}
	for i := range 4 * max(len(cores), len(codes)) {
		list, ins, passes := cores[i%len(cores)], codes[i%len(codes)], lists[i%len(lists)]
		regs := []int64{2, 0, 1, 2, 1000, 1001, -1, math.MinInt64, math.MaxInt64}[i%9]
		keptList, keptIns, keptPasses := cloneCore(list), cloneIns(ins), slices.Clone(passes)
		first := callAllPasses(list, passes, ins, regs)
		checkApart(t, first, list, passes, ins)
		second := callAllPasses(list, passes, ins, regs)
		if !reflect.DeepEqual(first, second) {
			t.Errorf("%s, %v, %s, %d: %s, then %s", short(list), passes, short(ins), regs, short(first), short(second))
		}
		scribble(first)
		if !sameCores(list, keptList) || !slices.EqualFunc(ins, keptIns, sameIn) || !slices.Equal(passes, keptPasses) {
			t.Errorf("%s, %s or %v is changed", short(keptList), short(keptIns), keptPasses)
		}
		roomyList, roomyCode := roomyCores(list), roomyIns(ins)
		third := callAllPasses(roomyList, passes, roomyCode, regs)
		if !reflect.DeepEqual(second, third) {
			t.Errorf("%s, %v, %s, %d: %s, then %s", short(list), passes, short(ins), regs, short(second), short(third))
		}
		scribble(third)
		for _, v := range slices.Concat(valsOf(roomyList), valsOfIns(roomyCode)) {
			if slices.ContainsFunc(v[:cap(v)][len(v):], func(c impl.Cell) bool { return c != impl.Cell{} }) {
				t.Errorf("%s or %s is written behind", short(list), short(ins))
			}
		}
	}
	if !reflect.DeepEqual(callAllPasses(nil, nil, nil, 0), callAllPasses([]core{}, []int64{}, []in{}, 0)) {
		t.Error("nil and an empty list are told apart")
	}
	one := readTwig("pipe(self const=1)").nodes()
	if !reflect.DeepEqual(impl.RunPasses(one, nil), impl.RunPasses(one, []int64{})) {
		t.Error("no passes and an empty list of them are told apart")
	}
}

func valsOf(list []core) []cells {
	var vals []cells
	for _, c := range list {
		vals = append(vals, c.Val)
	}
	return vals
}

func valsOfIns(ins []in) []cells {
	var vals []cells
	for _, i := range ins {
		vals = append(vals, i.Val)
	}
	return vals
}
