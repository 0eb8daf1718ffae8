package tests

import (
	"reflect"
	"slices"
	"strings"
	"testing"

	"loop.example/g00166/impl"
)

func TestPathsIn(t *testing.T) {
	for _, c := range []struct{ v, paths, leaves string }{
		{`null`, `[]`, `[]`}, {`false`, `[]`, `[]`}, {`true`, `[]`, `[]`}, {`7`, `[]`, `[]`}, {`"a"`, `[]`, `[]`}, {`[]`, `[]`, `[]`}, {`{}`, `[]`, `[]`},
		{`[null]`, `[] [0]`, `[0]`}, {`[1,2,3]`, `[] [0] [1] [2]`, `[0] [1] [2]`}, {`{"b":1,"a":2}`, `[] ["a"] ["b"]`, `["a"] ["b"]`}, {`{"":null}`, `[] [""]`, `[""]`},
		{`{"a":[1,2],"b":null}`, `[] ["a"] ["a",0] ["a",1] ["b"]`, `["a",0] ["a",1] ["b"]`},
		{`[[],{},[[]],{"a":{}}]`, `[] [0] [1] [2] [2,0] [3] [3,"a"]`, `[0] [1] [2,0] [3,"a"]`},
		{`[[[1],2],[3,[4]]]`, `[] [0] [0,0] [0,0,0] [0,1] [1] [1,0] [1,1] [1,1,0]`, `[0,0,0] [0,1] [1,0] [1,1,0]`},
		{`{"a":{"b":{"c":1}},"ab":[{"c":2}],"c":3}`, `[] ["a"] ["a","b"] ["a","b","c"] ["ab"] ["ab",0] ["ab",0,"c"] ["c"]`, `["a","b","c"] ["ab",0,"c"] ["c"]`},
		{`{"0":[5],"\"":{"\\":6}}`, `[] ["\""] ["\"","\\"] ["0"] ["0",0]`, `["\"","\\"] ["0",0]`},
		{`[1,2,3,4,5,6,7,8,9,10,[11]]`, `[] [0] [1] [2] [3] [4] [5] [6] [7] [8] [9] [10] [10,0]`, `[0] [1] [2] [3] [4] [5] [6] [7] [8] [9] [10,0]`},
	} {
		if got := pathsAs(impl.PathsIn(val(c.v))); got != c.paths {
			t.Errorf("%s: %s, want %s", c.v, got, c.paths)
		}
		if got := pathsAs(impl.LeavesIn(val(c.v))); got != c.leaves {
			t.Errorf("the leaves of %s: %s, want %s", c.v, got, c.leaves)
		}
	}
	for _, c := range faulty() {
		if got := impl.PathsIn(c.v); !reflect.DeepEqual(got, impl.PathsResult{Code: c.code}) {
			t.Errorf("%s: %s, want %d", short(c.v), short(got), c.code)
		}
		if got := impl.LeavesIn(c.v); !reflect.DeepEqual(got, impl.PathsResult{Code: c.code}) {
			t.Errorf("the leaves of %s: %s, want %d", short(c.v), short(got), c.code)
		}
	}
}

// wholeValues have as many cells as there may be, wide and deep.
func wholeValues() []cells {
	deep := []cells{nested(19)}
	for range 9 {
		deep = append(deep, nested(19))
	}
	return []cells{
		numbersUpTo(199), objectOf(0, 199), arr(repeat(199, arr())...), arr(deep...), arr(append(deep[1:], arr(repeat(27, null())...))...),
		obj(member("a", objectOf(0, 98)), member("b", objectOf(0, 99))), obj(member("a", numbersUpTo(197)), member("b", null())),
	}
}

func TestPathsInAgainstModel(t *testing.T) {
	for _, v := range slices.Concat(opPool(), containers(), pathValues(), wholeValues()) {
		m, _ := readModel(v)
		if modelFault(v) != 0 {
			t.Fatalf("%s has a fault", short(v))
		}
		if got, want := pathsAs(impl.PathsIn(v)), strings.Join(m.modelPaths(nil, false), " "); got != want {
			t.Errorf("%s: %s, want %s", short(v), short(got), short(want))
		}
		if got, want := pathsAs(impl.LeavesIn(v)), strings.Join(m.modelPaths(nil, true), " "); got != want {
			t.Errorf("the leaves of %s: %s, want %s", short(v), short(got), short(want))
		}
	}
	if got := impl.PathsIn(nested(20)).Paths; len(got) != 20 || !slices.Equal(got[19], stepped(19, 0)) {
		t.Errorf("as deep as can be: %s", short(got))
	}
	if got := impl.LeavesIn(nested(20)).Paths; len(got) != 1 || !slices.Equal(got[0], stepped(19, 0)) {
		t.Errorf("as deep as can be: %s", short(got))
	}
	for _, v := range wholeValues() {
		if got := impl.PathsIn(v); got.Code != 0 || len(got.Paths) != len(v) {
			t.Errorf("%s: %d, %d paths", short(v), got.Code, len(got.Paths))
		}
	}
	if len(wholeValues()[0]) != 200 || len(wholeValues()[1]) != 200 || len(wholeValues()[2]) != 200 || len(wholeValues()[4]) != 200 {
		t.Error("not as many cells as there may be")
	}
}

// P14: each value within one has its path, and no other value has it.
func TestEachValueHasItsPath(t *testing.T) {
	for _, v := range slices.Concat(opPool(), containers(), pathValues(), wholeValues()) {
		paths := impl.PathsIn(v).Paths
		if len(paths) != len(v) {
			t.Fatalf("%s: %d paths", short(v), len(paths))
		}
		var leaves []cells
		for at, p := range paths {
			part := impl.PartAt(v, int64(at)).Value
			if impl.PathFault(p) != 0 {
				t.Fatalf("%s: %s is no path", short(v), short(p))
			}
			checkAnswer(t, impl.GetPath(v, p), made(part), "get", v, p)
			checkAnswer(t, impl.SetPath(v, p, part), made(v), "set what is there", v, p)
			if part[0].N == 0 {
				leaves = append(leaves, p)
			}
			if at > 0 && slices.ContainsFunc(paths[:at], func(other cells) bool { return slices.Equal(other, p) }) {
				t.Errorf("%s: %s twice", short(v), short(p))
			}
		}
		if got := impl.LeavesIn(v).Paths; !slices.EqualFunc(got, leaves, slices.Equal[cells]) {
			t.Errorf("%s: the leaves are at %s, want %s", short(v), short(got), short(leaves))
		}
	}
}

// P14: the leaves, put one after the other at their paths, are the value again.
func TestLeavesMakeTheValue(t *testing.T) {
	for _, v := range slices.Concat(opPool(), containers(), pathValues(), wholeValues()) {
		made := null()
		for _, p := range impl.LeavesIn(v).Paths {
			set := impl.SetPath(made, p, impl.GetPath(v, p).Value)
			if set.Code != 0 {
				t.Fatalf("%s at %s: %d", short(v), short(p), set.Code)
			}
			made = set.Value
		}
		if !slices.Equal(made, v) {
			t.Errorf("%s: %s", short(v), short(made))
		}
	}
}

// beginsWith tells whether the steps of p begin with those of q.
func beginsWith(p, q cells) bool {
	return len(p) >= len(q) && slices.Equal(p[1:len(q)], q[1:])
}

// P14: what is put at a path is got there, and all that is beside it stays.
func TestWhatIsPutIsGot(t *testing.T) {
	paths := shortPaths([]cells{str("a"), str("b"), str(""), num(0), num(1), num(2), num(-1), num(-2)}, 3)
	puts := []cells{null(), num(9), val(`{"a":[5]}`), arr()}
	met := map[bool]int{}
	for _, v := range pathValues() {
		there := impl.PathsIn(v).Paths
		for i, p := range paths {
			x := puts[i%len(puts)]
			set := impl.SetPath(v, p, x)
			met[set.Code == 0]++
			if set.Code != 0 {
				continue
			}
			checkAnswer(t, impl.GetPath(set.Value, p), made(x), "got", v, p, x)
			checkAnswer(t, impl.SetPath(set.Value, p, x), set, "set again", v, p, x)
			if slices.ContainsFunc(p, func(c impl.Cell) bool { return c.Num < 0 }) {
				continue
			}
			for _, q := range there {
				if !beginsWith(p, q) && !beginsWith(q, p) {
					checkAnswer(t, impl.GetPath(set.Value, q), impl.GetPath(v, q), "beside", v, p, x, q)
				}
			}
		}
	}
	if met[true] < 2000 || met[false] < 2000 {
		t.Error(met)
	}
}

// What is dropped is not there any more: a key has nothing, and what was behind an
// element comes up to it.
func TestWhatIsDroppedIsGone(t *testing.T) {
	for _, v := range slices.Concat(containers(), pathValues()) {
		for _, p := range impl.PathsIn(v).Paths[1:] {
			left := impl.DropPath(v, p)
			last := p[len(p)-1]
			if left.Code != 0 || len(left.Value) != len(v)-len(impl.GetPath(v, p).Value) {
				t.Fatalf("%s without %s: %s", short(v), short(p), short(left))
			}
			behind := null()
			if last.Kind == impl.KindNumber {
				next := slices.Clone(p)
				next[len(p)-1].Num++
				behind = impl.GetPath(v, next).Value
			}
			checkAnswer(t, impl.GetPath(left.Value, p), made(behind), "dropped", v, p)
		}
	}
}

// coreOf is the core of a program.
func coreOf(program string) []core {
	lowered := impl.LowerTree(treeOf(program))
	if lowered.Code != 0 {
		panic(program)
	}
	return lowered.Core
}

func TestUpdateAt(t *testing.T) {
	for _, c := range []struct {
		v, p, program string
		fuel          int64
		want          string
	}{
		// One, several, none.
		{`{"a":[1,2]}`, `["a",0]`, ". + 1", 9, `{"a":[2,2]}`}, {`{"a":[1,2]}`, `["a",-1]`, ". * 10", 9, `{"a":[1,20]}`}, {`{"a":[1,2]}`, `["a"]`, "length", 9, `{"a":2}`}, {`{"a":[1,2]}`, `["a"]`, ".[]", 9, `{"a":1}`}, {`{"a":[1,2]}`, `["a"]`, "5 , 6 , error", 9, `{"a":5}`}, {`{"a":[1,2]}`, `["a"]`, "empty , 6", 9, `{"a":6}`}, {`7`, `[]`, ". , 8", 9, `7`}, {`7`, `[]`, "[.]", 9, `[7]`}, {`[1]`, `[]`, "map(. + 1)", 50, `[2]`}, {`{"a":1}`, `["a"]`, "null", 1, `{"a":null}`},
		{`{"a":1}`, `["a"]`, "empty", 9, code(impl.ErrNone)}, {`{"a":1}`, `["a"]`, "try error", 9, code(impl.ErrNone)}, {`{"a":[]}`, `["a"]`, ".[]", 9, code(impl.ErrNone)}, {`{"a":1}`, `["a"]`, "select(. > 1)", 20, code(impl.ErrNone)}, {`{"a":1}`, `["a"]`, "error", 9, errForm}, {`{"a":1}`, `["a"]`, ".b", 9, errKind}, {`{"a":1}`, `["a"]`, ". / 0", 9, errRange}, {`{"a":1}`, `["a"]`, "error , 1", 9, errForm},
		// What is not there is null.
		{`{"a":1}`, `["b"]`, "type", 9, `{"a":1,"b":"null"}`}, {`null`, `["b",1]`, "[.]", 9, `{"b":[null,[null]]}`}, {`[1]`, `[3]`, ". + 5", 9, `[1,null,null,5]`}, {`[]`, `[0,"a"]`, ".", 9, `[{"a":null}]`}, {`null`, `[]`, "1", 9, `1`},
		// Fuel is what the program spends of what is there.
		{`{"a":1}`, `["a"]`, ".", 1, `{"a":1}`}, {`{"a":1}`, `["a"]`, ".", 0, code(impl.ErrFuel)}, {`{"a":1}`, `["a"]`, ". + 1", 3, `{"a":2}`}, {`{"a":1}`, `["a"]`, ". + 1", 2, code(impl.ErrFuel)}, {`{"a":1}`, `["a"]`, ". , 2", 2, `{"a":1}`}, {`{"a":1}`, `["a"]`, "empty", 0, code(impl.ErrFuel)}, {`{"a":1}`, `["a"]`, ".", 20000, `{"a":1}`},
		// The code of GetPath, ahead of the run's, and that ahead of SetPath's.
		{`7`, `["a"]`, "1", 9, errKind}, {`7`, `["a"]`, "error", 9, errKind}, {`7`, `[0]`, ".", 0, errKind}, {`{"a":[1]}`, `["a","b"]`, "empty", 9, errKind}, {`{"a":[1]}`, `["a",0,0]`, ".", 0, errKind}, {`[]`, `[-1]`, "error", 9, errForm}, {`[]`, `[-1]`, "empty", 9, code(impl.ErrNone)}, {`[]`, `[-1]`, ".", 0, code(impl.ErrFuel)}, {`[]`, `[-1]`, ".", 9, errRange}, {`null`, `["a",-3]`, "1", 9, errRange}, {`[]`, `[200]`, "1", 9, errMany}, {`[]`, `[199]`, "1", 9, errMany}, {`[]`, `[200]`, "error", 9, errForm}, {`[5]`, `[-2]`, "1", 9, errRange}, {`{}`, `[0]`, "error", 9, errKind},
	} {
		what := c.v + " at " + c.p + " by " + c.program
		checkTold(t, what, impl.UpdateAt(val(c.v), val(c.p), coreOf(c.program), c.fuel), c.want)
		checkTold(t, "model: "+what, modelUpdateAt(sampleOf(val(c.v)), sampleOf(val(c.p)), coreOf(c.program), c.fuel), c.want)
	}
	// What comes to be too much.
	wrap := coreOf("[.]")
	checkAnswer(t, impl.UpdateAt(nested(19), stepped(18, 0), wrap, 9), made(nested(20)), "as deep as can be")
	checkAnswer(t, impl.UpdateAt(nested(20), stepped(19, 0), wrap, 9), failing(impl.ErrDeep), "too deep")
	checkAnswer(t, impl.UpdateAt(nested(20), pathOf(), wrap, 9), failing(impl.ErrDeep), "too deep in the program")
	checkAnswer(t, impl.UpdateAt(numbersUpTo(199), pathOf(0), wrap, 9), failing(impl.ErrMany), "too many")
	checkAnswer(t, impl.UpdateAt(numbersUpTo(199), pathOf(0), coreOf("[]"), 9), made(arr(append([]cells{arr()}, layMembers(numbersUpTo(199))[1:]...)...)), "as many as can be")
	checkAnswer(t, impl.UpdateAt(null(), pathOf(198), coreOf("9"), 9), made(nullsAhead(198)), "as many as can be")
	checkAnswer(t, impl.UpdateAt(null(), pathOf("a", 198), coreOf("9"), 9), failing(impl.ErrMany), "one more")
}

// The fault of v, of p, of the core, and the fuel, in this order, ahead of all else.
func TestUpdateAtCodes(t *testing.T) {
	check := func(v, p cells, list []core, fuel, want int64) {
		t.Helper()
		checkAnswer(t, impl.UpdateAt(v, p, list, fuel), failing(want), v, p, list, fuel)
	}
	fine, fails := coreOf("."), coreOf("error")
	for _, c := range faulty() {
		check(c.v, pathOf(), fine, 9, c.code)
		check(c.v, arr(null()), nil, -1, c.code)
		check(c.v, nil, fails, 9, c.code)
		check(num(7), c.v, fine, 9, c.code)
		check(num(7), c.v, nil, -1, c.code)
		check(num(7), c.v, fails, 0, c.code)
	}
	for _, other := range append(otherKinds(), num(1), str("a")) {
		if other[0].Kind == impl.KindArray && impl.PathFault(other) == 0 {
			continue
		}
		check(num(7), other, fine, 9, impl.ErrKind)
		check(num(7), other, nil, -1, impl.ErrKind)
	}
	for _, c := range faultyCores() {
		for _, fuel := range []int64{0, 9, -1, impl.MaxFuel + 1} {
			check(num(7), pathOf("a"), c.core, fuel, c.code)
			check(null(), pathOf(-1), c.core, fuel, c.code)
			check(num(7), pathOf(), c.core, fuel, c.code)
			check(nil, pathOf(), c.core, fuel, impl.ErrMany)
		}
	}
	for _, fuel := range append(slices.Clone(farFuels), farNumbers...) {
		if fuelFits(fuel) {
			checkTold(t, "fuel", impl.UpdateAt(num(7), pathOf("a"), fine, fuel), errKind)
			continue
		}
		check(num(7), pathOf("a"), fine, fuel, impl.ErrRange)
		check(num(7), pathOf(), fails, fuel, impl.ErrRange)
		check(arr(), pathOf(200), fine, fuel, impl.ErrRange)
	}
}

// P14: what is updated is what the program makes first of what was there.
func TestUpdateAtAgainstModel(t *testing.T) {
	paths := samplesOf(append(shortPaths([]cells{str("a"), str("b"), num(0), num(1), num(-1)}, 2), pathOf(0, "a", 0), pathOf(199), pathOf("a", 1, "a"), stepped(20, 0)))
	programs := []string{".", "empty", "error", "1 , 2", ".[]?", ".[]", ". + 1", "[.,.]", "{a:.}", "length", "null", "[..] | length", "try error // .", ".a // 3", "reduce .[]? as $x (0; . + 1)"}
	var lists [][]core
	for _, program := range programs {
		lists = append(lists, coreOf(program))
	}
	for i, v := range samplesOf(pathValues()) {
		for j, p := range paths {
			for k, list := range lists {
				fuel := []int64{0, 1, 2, 3, 5, 8, 40, 20000}[(i+j+k)%8]
				got := impl.UpdateAt(v.v, p.v, list, fuel)
				checkAnswer(t, got, modelUpdateAt(v, p, list, fuel), v.v, p.v, programs[k], fuel)
				if got.Code != 0 {
					continue
				}
				first := impl.FirstOf(list, impl.GetPath(v.v, p.v).Value, fuel)
				checkAnswer(t, impl.GetPath(got.Value, p.v), first, "updated", v.v, p.v, programs[k], fuel)
			}
		}
	}
}

func callAllPaths(v, p, x cells, list []core, fuel int64) []any {
	return []any{
		impl.PathsIn(v), impl.LeavesIn(v), impl.PathsIn(p), impl.LeavesIn(x),
		impl.GetPath(v, p), impl.SetPath(v, p, x), impl.DropPath(v, p), impl.UpdateAt(v, p, list, fuel), impl.PathFault(p), impl.PathText(p),
		// One list in several places, and a path that is walked itself.
		impl.SetPath(v, p, v), impl.SetPath(p, p, p), impl.GetPath(p, p), impl.DropPath(p, p), impl.UpdateAt(p, p, list, fuel), impl.PathFault(v), impl.PathText(v),
	}
}

func roomyCells(v cells) cells {
	return append(make(cells, 0, len(v)+3), v...)
}

// P1 of this chapter.
func TestPathsArgumentsStayAndAnswersAreNew(t *testing.T) {
	values := slices.Concat(pathValues(), opPool(), faults(), wholeValues())
	paths := slices.Concat([]cells{pathOf(), pathOf("a"), pathOf(0), pathOf(-1), pathOf("a", 0), pathOf(0, "a"), pathOf(0, 0), pathOf("b", "c", 2), pathOf(198), pathOf(199), pathOf(200), stepped(19, 0), stepped(20, "a"), stepped(199, -1)}, faults(), otherKinds())
	lists := append(coresOfEveryKind(), coreOf("."), coreOf("1 , 2"), coreOf("[.]"), coreOf("{a:[1]}"), coreOf("empty"), coreOf("error"))
	lists = slices.DeleteFunc(lists, func(list []core) bool { return len(list) > 300 })
	fuels := append([]int64{3, 50}, farFuels...)
	for i := range 6 * len(values) {
		v, p, x := values[i%len(values)], paths[(i*5)%len(paths)], values[(i*7)%len(values)]
		list, fuel := lists[(i*3)%len(lists)], fuels[i%len(fuels)]
		if i%2 == 0 {
			// Those that tell no code are seldom met else.
			p, x, list, fuel = paths[i/2%14], values[i/2%60], lists[len(lists)-1-i/2%6], 50
		}
		keptV, keptP, keptX, keptList := slices.Clone(v), slices.Clone(p), slices.Clone(x), cloneCore(list)
		first := callAllPaths(v, p, x, list, fuel)
		checkApart(t, first, v, p, x, list)
		// Nor do two answers.
		for n := range first[1:] {
			checkApart(t, first[n:n+1], first[n+1])
		}
		second := callAllPaths(v, p, x, list, fuel)
		if !reflect.DeepEqual(first, second) {
			t.Errorf("%s, %s, %s, %d: %s, then %s", short(v), short(p), short(x), fuel, short(first), short(second))
		}
		scribble(first)
		if !slices.Equal(v, keptV) || !slices.Equal(p, keptP) || !slices.Equal(x, keptX) || !sameCores(list, keptList) {
			t.Errorf("%s, %s or %s is changed", short(keptV), short(keptP), short(keptX))
		}
		roomyV, roomyP, roomyX, roomyList := roomyCells(v), roomyCells(p), roomyCells(x), roomyCores(list)
		third := callAllPaths(roomyV, roomyP, roomyX, roomyList, fuel)
		if !reflect.DeepEqual(second, third) {
			t.Errorf("%s, %s, %s, %d: %s, then %s", short(v), short(p), short(x), fuel, short(second), short(third))
		}
		checkApart(t, third, roomyV, roomyP, roomyX, roomyList)
		scribble(third)
		for _, roomy := range append(valsOf(roomyList), roomyV, roomyP, roomyX) {
			if slices.ContainsFunc(roomy[:cap(roomy)][len(roomy):], func(c impl.Cell) bool { return c != impl.Cell{} }) {
				t.Errorf("%s, %s or %s is written behind", short(v), short(p), short(x))
			}
		}
	}
	if !reflect.DeepEqual(callAllPaths(nil, nil, nil, nil, 0), callAllPaths(cells{}, cells{}, cells{}, []core{}, 0)) {
		t.Error("nil and an empty list are told apart")
	}
}

// What is put behind a path that was told, or over it, changes no other path.
func TestPathsHaveNoRoomBehindThem(t *testing.T) {
	for _, v := range slices.Concat(pathValues(), wholeValues()) {
		for _, told := range []func([]impl.Cell) impl.PathsResult{impl.PathsIn, impl.LeavesIn} {
			kept := told(v).Paths
			for at := range kept {
				paths := told(v).Paths
				longer := append(paths[at], impl.Cell{Kind: -77}, impl.Cell{Kind: -77})
				for i := range longer {
					longer[i].Text = "written"
				}
				for i := range paths[at] {
					paths[at][i].Num = -77
				}
				for other := range paths {
					if other != at && !slices.Equal(paths[other], kept[other]) {
						t.Fatalf("%s: path %d is changed by %d", short(v), other, at)
					}
				}
			}
		}
	}
}

// Any short list of cells in place of each argument: it is answered, as the model
// tells.
func TestPathsAnswerAtEveryArgument(t *testing.T) {
	alphabet := append(smallAlphabet(), impl.Cell{Kind: impl.KindString, Text: "a"}, impl.Cell{Kind: 7}, impl.Cell{Kind: impl.KindArray, N: 200})
	lists := samplesOf(shortLists(alphabet, 2))
	wrap := coreOf("[.]")
	for _, v := range lists {
		for _, p := range lists {
			checkPath(t, v, p, []sample{v, p})
			checkAnswer(t, impl.UpdateAt(v.v, p.v, wrap, 9), modelUpdateAt(v, p, wrap, 9), v.v, p.v)
		}
	}
}
