package tests

import (
	"math"
	"reflect"
	"slices"
	"strings"
	"testing"

	"loop.example/g00166/impl"
)

// checkKinds holds KindsCore, SureCore and ReadsCore against the model.
func checkKinds(t *testing.T, w *twig) {
	t.Helper()
	list := w.nodes()
	if got := impl.KindsCore(list); got.Code != 0 || !slices.Equal(got.List, modelKinds(w)) {
		t.Fatalf("%s: %v, want %v", short(w), got, modelKinds(w))
	}
	if got, want := impl.SureCore(list), modelCounted(w) == (impl.CountResult{Low: 1, High: 1}); got != want {
		t.Fatalf("%s: %t, want %t", short(w), got, want)
	}
	if got := impl.ReadsCore(list); got.Code != 0 || !slices.Equal(got.Names, modelReads(w)) {
		t.Fatalf("%s: %v, want %q", short(w), got, modelReads(w))
	}
}

func TestKindsCore(t *testing.T) {
	// By hand, the Ops from 1 to 17.
	for text, want := range map[string][17]int64{
		"self":                             {1},
		"const=1":                          {1: 1},
		"empty":                            {16: 1},
		"do:3":                             {15: 1},
		"pipe(self self)":                  {0: 2, 2: 1},
		"comma(self empty)":                {0: 1, 3: 1, 16: 1},
		"alt(const=1 const=2)":             {1: 2, 4: 1},
		"bin:4(self const=4)":              {0: 1, 1: 1, 5: 1},
		"at(self const=9)":                 {0: 1, 1: 1, 6: 1},
		"each(self)":                       {0: 1, 7: 1},
		"try(each(try(self)))":             {0: 1, 7: 1, 8: 2},
		"list(list(list(empty)))":          {9: 3, 16: 1},
		`member="k"(self do:1)`:            {0: 1, 10: 1, 15: 1},
		"if(self const=1 empty)":           {0: 1, 1: 1, 11: 1, 16: 1},
		"reduce:17(self do:1 var:17)":      {0: 1, 12: 1, 14: 1, 15: 1},
		"as:5(self comma(var:5 var:5))":    {0: 1, 3: 1, 13: 1, 14: 2},
		"as:0(self as:1(var:0 var:1))":     {0: 1, 13: 2, 14: 2},
		"comma(comma(do:1 do:2) do:8)":     {3: 2, 15: 3},
		"const=[1,[2],{\"a\":null}]":       {1: 1},
		"pipe(empty pipe(empty do:1))":     {2: 2, 15: 1, 16: 2},
		"if(if(self self self) self do:1)": {0: 4, 11: 2, 15: 1},
	} {
		w := readTwig(text)
		if got := impl.KindsCore(w.nodes()); got.Code != 0 || !slices.Equal(got.List, want[:]) {
			t.Errorf("%s: %v, want %v", text, got, want)
		}
		checkKinds(t, w)
	}
	// None of an op, and as many as there may be of it.
	for _, head := range coreHeads() {
		for _, depth := range []int{2, 50, 120} {
			for _, w := range grownCore(head, depth) {
				got := impl.KindsCore(w.nodes())
				if len(got.List) != 17 || got.List[head.op-1] != int64(depth-1) || got.List[impl.CoreSelf-1] != int64(len(w.nodes())-depth+1) {
					t.Errorf("%d of op %d: %v", depth, head.op, got)
				}
				checkKinds(t, w)
			}
		}
	}
	for leaf := range slices.Values([]string{"self", "const=1", "do:1", "empty"}) {
		w := joinedBy(impl.CoreComma, slices.Repeat([]*twig{readTwig(leaf)}, 450))
		if got := impl.KindsCore(w.nodes()); got.List[readTwig(leaf).op-1] != 450 || got.List[impl.CoreComma-1] != 449 || len(got.List) != 17 {
			t.Errorf("%s: %v", leaf, got)
		}
		checkKinds(t, w)
	}
	most := tw(impl.CoreTry, wideCore(450))
	if got := impl.KindsCore(most.nodes()); !slices.Equal(got.List, []int64{450, 0, 0, 449, 0, 0, 0, 0, 1, 0, 0, 0, 0, 0, 0, 0, 0}) {
		t.Error(got)
	}
}

func TestSureCore(t *testing.T) {
	names := countNames()
	for text, want := range map[string]bool{
		"self": true, "const=1": true, "const=null": true, "do:3": true, "list(empty)": true, "try(self)": true, "as:0(self var:0)": true, "pipe(self do:3)": true, "bin:4(self const=1)": true, "comma(self empty)": true, "if(self const=1 const=2)": true, "alt(do:8 self)": true, "alt(Maybe self)": true, "alt(None self)": true, "reduce:0(Any self var:0)": true,
		// Each of the three words by itself is not so.
		"Maybe": false, "try(do:8)": false, "alt(self empty)": false, "if(self self empty)": false,
		"Some": false, "alt(Two self)": false, "alt(self Two)": false, "Least": false, "if(self self Two)": false,
		"do:1": false, "do:8": false, "at(self const=1)": false, "list(self)": false, "bin:1(const=1 const=2)": false, "pipe(self do:1)": false, `member="k"(const={} self)`: false,
		// Two of them, and all three.
		"None": false, "Two": false, "Full": false, "Any": false, "NoneF": false, "TwoF": false, "each(self)": false, "each(empty)": false, "MaybeF": false, "SomeF": false,
	} {
		w := namedTwigs(names, text)
		if got := impl.SureCore(w.nodes()); got != want {
			t.Errorf("%s: %t, want %t", text, got, want)
		}
		checkKinds(t, w)
	}
}

func TestReadsCore(t *testing.T) {
	long := strings.Repeat("x", 60)
	for text, want := range map[string][]string{
		"self": nil, `const="a"`: nil, "empty": nil,
		// B of an at.
		`at(self const="a")`: {"a"}, `at(const={} const="")`: {""}, `at(self const="` + long + `")`: {long}, `at(do:1 const=" \"\\")`: {` "\`}, `at(at(self const="b") const="a")`: {"a", "b"}, `at(at(self const="a") const="b")`: {"a", "b"}, `at(self const="b1")`: {"b1"},
		// A of it, and both.
		`at(const="a" self)`: nil, `at(const="a" const=1)`: nil, `at(const="a" const="b")`: {"b"}, `at(const="a" const="a")`: {"a"}, `at(const="a" at(const="b" const="c"))`: {"c"},
		// Parts of other nodes, also of one that is B of an at.
		`pipe(self const="a")`: nil, `pipe(const="a" self)`: nil, `comma(const="a" const="b")`: nil, `alt(self const="a")`: nil, `bin:1(self const="a")`: nil, `bin:1(const="a" const="b")`: nil, `each(const="a")`: nil, `try(const="a")`: nil, `list(const="a")`: nil, `member="k"(const={} const="a")`: nil, `if(self const="a" const="b")`: nil, `reduce:0(const="a" const="b" const="c")`: nil, `as:0(const="a" const="b")`: nil, `at(self comma(const="a" const="b"))`: nil, `at(self try(const="a"))`: nil, `at(self pipe(self const="a"))`: nil, `at(self list(const="a"))`: nil, `at(comma(const="a" const="b") self)`: nil, `at(self if(self const="a" const="b"))`: nil, `as:0(const="a" at(self var:0))`: nil, `at(self member="k"(const={} self))`: nil,
		// Constants that are no strings.
		"at(self const=1)": nil, "at(self const=null)": nil, "at(self const=true)": nil, "at(self const=false)": nil, "at(self const=[])": nil, "at(self const={})": nil, `at(self const=["a"])`: nil, `at(self const={"a":"b"})`: nil, `at(self const=-1)`: nil,
		"at(self self)": nil, "at(self empty)": nil, "at(self do:3)": nil,
		// Each once, in the order of texts.
		`comma(at(self const="a") at(self const="a"))`: {"a"}, `comma(at(self const="b") at(self const="a"))`: {"a", "b"}, `comma(at(self const="b") comma(at(self const="a") at(self const="b")))`: {"a", "b"}, `comma(at(self const="ab") comma(at(self const="b") comma(at(self const="a") at(self const=""))))`: {"", "a", "ab", "b"}, `comma(at(self const="a") comma(at(self const="B") comma(at(self const="10") at(self const="9"))))`: {"10", "9", "B", "a"}, `comma(at(self const="x") comma(at(const="w" const=1) comma(const="v" at(self const="u"))))`: {"u", "x"}, `as:0(at(self const="z") reduce:1(at(self const="y") at(self const="x") if(at(self const="w") at(self const="v") at(self const="u"))))`: {"u", "v", "w", "x", "y", "z"},
	} {
		w := readTwig(text)
		if got := impl.ReadsCore(w.nodes()); got.Code != 0 || !slices.Equal(got.Names, want) {
			t.Errorf("%s: %v, want %q", text, got, want)
		}
		checkKinds(t, w)
	}
	for program, want := range map[string]string{".b.a": "a b", ".a | .b , .a.c?": "a b c", `.["x"] , "y"[0]`: "x", `{a:.b,c:"d"}`: "b", ".": "", `map(.k) | select(.a == "q")`: "a k", `.[if . then "a" else "b" end]`: "", `"a" as $x | .[$x]`: "", `"s"["k"]`: "k"} {
		if got := impl.ReadsCore(impl.LowerTree(treeOf(program)).Core); got.Code != 0 || strings.Join(got.Names, " ") != want {
			t.Errorf("%s: %v, want %q", program, got, want)
		}
	}
	// As many as there may be.
	var list []*twig
	for at := range 225 {
		list = append(list, tw(impl.CoreAt, tw(impl.CoreSelf), tw(impl.CoreConst).valued(str(manyKeys(225)[224-at]))))
	}
	w := joinedBy(impl.CoreComma, list)
	if got := impl.ReadsCore(w.nodes()); len(got.Names) != 225 || !slices.IsSorted(got.Names) {
		t.Error(short(got))
	}
	checkKinds(t, w)
}

// All small cores with these heads, and every op over every choice of parts.
func TestKindsAgainstModel(t *testing.T) {
	for name, heads := range map[string]string{
		"each kind": `self const="a" pipe comma alt bin:1 bin:4 at each try list member="k" if reduce:0 as:0 var:0 do:1 do:3 empty`,
		"reads":     `self const="a" const="b" const=1 const=["a"] at try comma`,
	} {
		t.Run(name, func(t *testing.T) {
			t.Parallel()
			smallSound(heads, 5, func(w *twig) { checkKinds(t, w) })
		})
	}
	pool := []*twig{readTwig("self"), readTwig(`const="b"`), readTwig(`const="a"`), readTwig("const=1"), readTwig("empty"), readTwig("do:3"), readTwig(`at(const="d" const="c")`), readTwig(`at(self const="a")`), readTwig(`at(self const=[1])`), readTwig("list(empty)")}
	for _, head := range coreHeads() {
		everyChoice(head, pool, besideSelf, func(w *twig) { checkKinds(t, w) })
	}
}

// A fault of a core is what every function tells of it, and nothing else.
func TestCountCodes(t *testing.T) {
	for _, c := range faultyCores() {
		if got := impl.CountCore(c.core); got != (impl.CountResult{Code: c.code}) {
			t.Errorf("%s: %v, want %d", short(c.core), got, c.code)
		}
		if got := impl.KindsCore(c.core); !reflect.DeepEqual(got, impl.IntsResult{Code: c.code}) {
			t.Errorf("%s: %v, want %d", short(c.core), got, c.code)
		}
		if impl.SureCore(c.core) {
			t.Errorf("%s is sure", short(c.core))
		}
		if got := impl.ReadsCore(c.core); !reflect.DeepEqual(got, impl.NamesResult{Code: c.code}) {
			t.Errorf("%s: %v, want %d", short(c.core), got, c.code)
		}
	}
	// Cores that would be sure but for their fault, or that read something.
	for text, list := range map[string][]core{
		"two nodes, none of which names the other": {{Op: impl.CoreSelf}, {Op: impl.CoreSelf}},
		"no variable is bound":                     {{Op: impl.CoreVar}},
		"a field too many":                         {{Op: impl.CoreSelf, Num: 1}},
		"a do that is none":                        {{Op: impl.CoreDo, Num: 0}},
		"B of an at is the at":                     {{Op: impl.CoreSelf}, {Op: impl.CoreAt, B: 1}},
		"B of an at is far off":                    {{Op: impl.CoreSelf}, {Op: impl.CoreAt, B: math.MaxInt64}},
		"B of an at has no cells":                  {{Op: impl.CoreSelf}, {Op: impl.CoreConst}, {Op: impl.CoreAt, B: 1}},
		"too deep":                                 replacedLeaf(impl.CoreTry, impl.CoreSelf, 121).nodes(),
		"too many":                                 wideCore(451).nodes(),
	} {
		want := modelCoreFault(list)
		if got := []int64{impl.CountCore(list).Code, impl.KindsCore(list).Code, impl.ReadsCore(list).Code}; want == 0 || !slices.Equal(got, []int64{want, want, want}) || impl.SureCore(list) {
			t.Errorf("%s: %v, want %d", text, got, want)
		}
	}
	if !impl.SureCore(replacedLeaf(impl.CoreTry, impl.CoreSelf, 120).nodes()) {
		t.Error("a try of a try at the greatest depth is not sure")
	}
}

// Every field of a node changed: the fault, or what is told without one.
func TestCountChangedCores(t *testing.T) {
	for _, one := range oneCoreOfEach() {
		changedCores(one.nodes(), func(list []core) {
			if fault := modelCoreFault(list); fault == 0 {
				checkCount(t, twigOf(list))
				checkKinds(t, twigOf(list))
			} else if got := impl.CountCore(list); got != (impl.CountResult{Code: fault}) || impl.SureCore(list) {
				t.Fatalf("%v: %v, want %d", list, got, fault)
			} else if kinds, reads := impl.KindsCore(list), impl.ReadsCore(list); kinds.Code != fault || len(kinds.List) > 0 || reads.Code != fault || len(reads.Names) > 0 {
				t.Fatalf("%v: %v, %v, want %d", list, kinds, reads, fault)
			}
		})
	}
}

// callAllCounts is what all functions of the chapter answer to these arguments.
func callAllCounts(list []core, c impl.CountResult, r impl.RunResult) []any {
	return []any{impl.CountCore(list), impl.KindsCore(list), impl.KindsCore(list), impl.FitsCount(c, r), impl.SureCore(list), impl.ReadsCore(list), impl.ReadsCore(list)}
}

// P1 of this chapter.
func TestCountsArgumentsStayAndAnswersAreNew(t *testing.T) {
	lists := coresOfEveryKind()
	for _, text := range []string{`at(self const="a")`, `comma(at(self const="b") comma(at(self const="a") at(self const="b")))`, `at(const="a" const="a")`, "list(empty)", "alt(empty comma(self self))", "each(empty)", "at(self const=[1,[2]])", `member="k"(self const={"a":[1]})`} {
		lists = append(lists, readTwig(text).nodes())
	}
	shared := str("a")
	lists = append(lists, []core{{Op: impl.CoreSelf}, {Op: impl.CoreConst, Val: shared}, {Op: impl.CoreAt, B: 1}, {Op: impl.CoreConst, Val: shared}, {Op: impl.CoreAt, A: 2, B: 3}})
	numbers := []int64{0, 1, 2, 3, 999, 1000, 1001, -1, -1000, math.MinInt64, math.MaxInt64}
	codes := slices.Concat([]int64{0, impl.ErrFuel, impl.ErrMany}, ownCodes)
	many := slices.Repeat([]cells{null()}, 5000)
	for i := range 4 * len(lists) {
		list := lists[i%len(lists)]
		c := impl.CountResult{Code: codes[i%7], Low: numbers[i%11], High: numbers[i/3%11], Fails: i%2 == 0}
		r := impl.RunResult{Code: codes[i%len(codes)], Spent: numbers[i%5], Outs: [][]cells{nil, {}, {num(1), nil, {}}, many, many[:1001], {arr(num(1)), {{Kind: 77, N: -1}}}}[i%6]}
		keptList, keptRun, keptCount := cloneCore(list), cloneRun(r), c
		first := callAllCounts(list, c, r)
		checkApart(t, first, list, r)
		// Nor do two answers to the same question.
		checkApart(t, first[1:2], first[2])
		checkApart(t, first[5:6], first[6])
		second := callAllCounts(list, c, r)
		if !reflect.DeepEqual(first, second) {
			t.Errorf("%s, %v, %s: %s, then %s", short(list), c, short(r), short(first), short(second))
		}
		scribble(first)
		if !sameCores(list, keptList) || !sameRun(r, keptRun) || c != keptCount {
			t.Errorf("%s, %s or %v is changed", short(keptList), short(keptRun), keptCount)
		}
		roomyList := roomyCores(list)
		roomyRun := impl.RunResult{Code: r.Code, Spent: r.Spent, Outs: append(make([]cells, 0, len(r.Outs)+3), r.Outs...)}
		third := callAllCounts(roomyList, c, roomyRun)
		if !reflect.DeepEqual(second, third) {
			t.Errorf("%s, %v, %s: %s, then %s", short(list), c, short(r), short(second), short(third))
		}
		scribble(third)
		for _, v := range valsOf(roomyList) {
			if slices.ContainsFunc(v[:cap(v)][len(v):], func(c impl.Cell) bool { return c != impl.Cell{} }) {
				t.Errorf("%s is written behind", short(list))
			}
		}
		if slices.ContainsFunc(roomyRun.Outs[:cap(roomyRun.Outs)][len(r.Outs):], func(v cells) bool { return v != nil }) {
			t.Errorf("%s is written behind", short(r))
		}
	}
	if !reflect.DeepEqual(callAllCounts(nil, impl.CountResult{}, impl.RunResult{}), callAllCounts([]core{}, impl.CountResult{}, impl.RunResult{Outs: []cells{}})) {
		t.Error("nil and an empty list are told apart")
	}
	bare, empty := []core{{Op: impl.CoreSelf}, {Op: impl.CoreEach}}, []core{{Op: impl.CoreSelf, Val: cells{}}, {Op: impl.CoreEach, Val: cells{}}}
	if !reflect.DeepEqual(callAllCounts(bare, impl.CountResult{}, impl.RunResult{}), callAllCounts(empty, impl.CountResult{}, impl.RunResult{})) {
		t.Error("no Val and an empty one are told apart")
	}
}
