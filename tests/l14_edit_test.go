package tests

import (
	"slices"
	"strings"
	"testing"

	"loop.example/g00166/impl"
)

func TestEditConstants(t *testing.T) {
	if impl.EditSet != 1 || impl.EditDrop != 2 || impl.MaxEdits != 100 {
		t.Error(impl.EditSet, impl.EditDrop, impl.MaxEdits)
	}
}

func checkEditsFault(t *testing.T, list []edit, want int64) {
	t.Helper()
	if got := impl.EditsFault(list); got != want {
		t.Errorf("%s: %d, want %d", short(list), got, want)
	}
	if got := modelEditsFault(list); got != want {
		t.Errorf("%s: the model tells %d, want %d", short(list), got, want)
	}
	// Both others ask it ahead of all else, but the value's fault.
	if got := impl.FormatEdits(list); got.Code != want || want != 0 && got.Text != "" {
		t.Errorf("%s: %s, want %d", short(list), short(got), want)
	}
	if got := impl.ApplyEdits(num(7), list); want != 0 && editedAs(got) != codeAt(want, 0) {
		t.Errorf("%s: %s, want %d", short(list), short(got), want)
	}
}

func TestEditsFaultNone(t *testing.T) {
	for _, list := range [][]edit{
		nil, {}, {setAt(pathOf(), null())}, {setAt(pathOf(), num(1))}, {setAt(pathOf("a"), arr())}, {setAt(pathOf(-1, "b", impl.MaxNumber), nested(20))}, {dropAt(pathOf("a"))}, {dropAt(pathOf(0))}, {dropAt(stepped(199, -3))},
		{setAt(stepped(199, "a"), numbersUpTo(199))}, {{Op: impl.EditDrop, Path: pathOf(""), X: cells{}}}, {setAt(pathOf(), null()), dropAt(pathOf("a")), setAt(pathOf(0), str(""))},
		slices.Repeat([]edit{dropAt(pathOf(1))}, 100), slices.Repeat([]edit{setAt(pathOf(), objectOf(0, 199))}, 100),
	} {
		checkEditsFault(t, list, 0)
	}
	for _, x := range sound() {
		checkEditsFault(t, []edit{setAt(pathOf(), x)}, 0)
	}
}

// dropWith has cells that a drop must not have.
func dropWith(p, x cells) edit { return edit{Op: impl.EditDrop, Path: p, X: x} }

// editFaults are edits with each fault, and the code of each.
func editFaults() []struct {
	e    edit
	code int64
} {
	type faultyEdit = struct {
		e    edit
		code int64
	}
	var list []faultyEdit
	for _, op := range farNumbers {
		if op == impl.EditSet || op == impl.EditDrop {
			continue
		}
		// Ahead of the path's fault and of that of X.
		for _, e := range []edit{{}, {Path: pathOf("a"), X: num(1)}, {Path: pathOf("a")}, {Path: null(), X: num(1)}, {Path: pathOf(), X: faults()[0]}, {Path: pathOf()}} {
			e.Op = op
			list = append(list, faultyEdit{e, impl.ErrForm})
		}
	}
	for _, c := range faulty() {
		// The path's fault ahead of that of X.
		list = append(list, faultyEdit{setAt(c.v, num(1)), c.code}, faultyEdit{dropAt(c.v), c.code}, faultyEdit{setAt(c.v, nil), c.code}, faultyEdit{dropWith(c.v, num(1)), c.code}, faultyEdit{setAt(c.v, cells{{Kind: 7}}), c.code},
			faultyEdit{setAt(pathOf(), c.v), c.code}, faultyEdit{setAt(pathOf("a", 0), c.v), c.code})
		// What X is of a drop is not asked, but whether it is there.
		if len(c.v) > 0 {
			list = append(list, faultyEdit{dropWith(pathOf("a"), c.v), impl.ErrForm}, faultyEdit{dropWith(pathOf(), c.v), impl.ErrForm})
		}
	}
	for _, other := range otherKinds() {
		for _, path := range []cells{arr(other), arr(str("a"), other), arr(other, num(0))} {
			list = append(list, faultyEdit{setAt(path, num(1)), impl.ErrKind}, faultyEdit{dropAt(path), impl.ErrKind}, faultyEdit{setAt(path, nil), impl.ErrKind}, faultyEdit{dropWith(path, num(1)), impl.ErrKind})
		}
		if other[0].Kind != impl.KindArray {
			list = append(list, faultyEdit{setAt(other, num(1)), impl.ErrKind}, faultyEdit{dropAt(other), impl.ErrKind}, faultyEdit{dropWith(other, num(1)), impl.ErrKind})
		}
	}
	return append(list,
		faultyEdit{dropAt(pathOf()), impl.ErrForm}, faultyEdit{dropWith(pathOf(), num(1)), impl.ErrForm}, faultyEdit{dropWith(pathOf("a"), null()), impl.ErrForm}, faultyEdit{dropWith(pathOf(0), arr()), impl.ErrForm},
		faultyEdit{setAt(pathOf(), nil), impl.ErrMany}, faultyEdit{setAt(pathOf("a"), cells{}), impl.ErrMany}, faultyEdit{setAt(nil, num(1)), impl.ErrMany}, faultyEdit{dropAt(nil), impl.ErrMany}, faultyEdit{setAt(stepped(200, "a"), num(1)), impl.ErrMany},
	)
}

func TestEditsFaultCodes(t *testing.T) {
	fine := setAt(pathOf("a"), num(1))
	list := editFaults()
	for i, c := range list {
		checkEditsFault(t, []edit{c.e}, c.code)
		// The first edit that has one, whatever stands behind it.
		other := list[(i*7+3)%len(list)]
		checkEditsFault(t, []edit{c.e, fine, other.e}, c.code)
		checkEditsFault(t, []edit{fine, c.e, other.e, fine}, c.code)
		if i%5 == 0 {
			ahead := slices.Repeat([]edit{dropAt(pathOf("b"))}, 99)
			checkEditsFault(t, append(ahead, c.e), c.code)
			// Too many come ahead of all.
			checkEditsFault(t, append(ahead, c.e, fine), impl.ErrMany)
			checkEditsFault(t, append([]edit{c.e}, append(ahead, fine)...), impl.ErrMany)
		}
	}
	checkEditsFault(t, slices.Repeat([]edit{fine}, 101), impl.ErrMany)
	checkEditsFault(t, slices.Repeat([]edit{{}}, 101), impl.ErrMany)
	checkEditsFault(t, slices.Repeat([]edit{fine}, 5000), impl.ErrMany)
	checkEditsFault(t, slices.Repeat([]edit{{}}, 100), impl.ErrForm)
}

// editsOf reads edits that are told with "; " between them.
func editsOf(text string) []edit {
	var list []edit
	for _, line := range strings.Split(text, "; ") {
		e, ok := modelReadEdit(line)
		if !ok && text != "" {
			panic(text)
		}
		if ok {
			list = append(list, e)
		}
	}
	return list
}

func TestApplyEdits(t *testing.T) {
	for _, c := range []struct{ v, edits, want string }{
		{`7`, ``, `7`}, {`{"a":[1,{}]}`, ``, `{"a":[1,{}]}`},
		{`7`, `set [] [1]`, `[1]`}, {`{"a":1}`, `set ["b"] 2`, `{"a":1,"b":2}`}, {`{"a":1}`, `drop ["a"]`, `{}`}, {`[1,2,3]`, `drop [1]`, `[1,3]`}, {`[1,2,3]`, `set [-1] 9`, `[1,2,9]`}, {`[1,2,3]`, `drop [-1]`, `[1,2]`}, {`[1]`, `set [3] 9`, `[1,null,null,9]`}, {`null`, `set ["a",1,"b"] {}`, `{"a":[null,{"b":{}}]}`},
		// What is not there can be dropped.
		{`{"a":1}`, `drop ["b"]`, `{"a":1}`}, {`{"a":1}`, `drop ["b",0,"c"]`, `{"a":1}`}, {`[1]`, `drop [4]; drop [-2]`, `[1]`}, {`null`, `drop ["a"]; drop [0]`, `null`},
		// In order, each of what the ones ahead left.
		{`[1,2,3]`, `drop [0]; drop [0]`, `[3]`}, {`[1,2,3]`, `drop [0]; drop [1]`, `[2]`}, {`[1,2,3]`, `drop [2]; drop [1]; drop [0]`, `[]`}, {`[1,2,3]`, `drop [0]; set [0] 9`, `[9,3]`}, {`[1,2,3]`, `set [0] 9; drop [0]`, `[2,3]`}, {`1`, `set [] null; set ["a"] 2; set ["b",0] 3`, `{"a":2,"b":[3]}`}, {`{"a":1}`, `set ["a"] []; set ["a",1] 2; drop ["a",0]`, `{"a":[2]}`}, {`{"a":1}`, `set ["a"] 2; set ["a"] 3; set ["a"] 4`, `{"a":4}`}, {`{"a":1}`, `drop ["a"]; set ["a"] 5`, `{"a":5}`}, {`{"a":1}`, `set ["b"] {"c":1}; drop ["b","c"]; drop ["a"]`, `{"b":{}}`},
		// The code of the first, of a middle and of the last one, at its place.
		{`7`, `set ["a"] 1`, `!6 at 0`}, {`7`, `drop ["a"]`, `!6 at 0`}, {`7`, `drop [0]`, `!6 at 0`}, {`[]`, `set [-1] 1`, `!3 at 0`}, {`[]`, `set [200] 1`, `!2 at 0`}, {`[]`, `set [199] 1`, `!2 at 0`}, {`7`, `set ["a"] 1; set [0] 1; set [] 1`, `!6 at 0`}, {`7`, `drop ["a"]; set [] {}`, `!6 at 0`},
		{`{"a":1}`, `set ["a"] 2; set ["a",0] 3; set ["a"] 4`, `!6 at 1`}, {`{"a":1}`, `set ["b"] 2; drop ["a","b"]; drop [0]`, `!6 at 1`}, {`[1]`, `drop [0]; set [-1] 2; drop ["a"]`, `!3 at 1`}, {`[1]`, `set [1] 2; set [-1] 3; set [200] 4; set [] 5`, `!2 at 2`},
		{`{"a":1}`, `set ["a"] {}; set ["a","b"] 1; drop ["a",0]`, `!6 at 2`}, {`[1]`, `drop [0]; drop [0]; drop [0]; set ["a"] 1`, `!6 at 3`}, {`null`, `set ["a"] 1; set ["b"] 2; set ["c",-1] 3`, `!3 at 2`}, {`{"a":null}`, `set ["a",0] 1; set ["a",1] 2; set ["a","x"] 3`, `!6 at 2`},
	} {
		list := editsOf(c.edits)
		if got := editedAs(impl.ApplyEdits(val(c.v), list)); got != c.want {
			t.Errorf("%s, %s: %s, want %s", c.v, c.edits, got, c.want)
		}
		if got := editedAs(modelApply(sampleOf(val(c.v)), list)); got != c.want {
			t.Errorf("%s, %s: the model tells %s, want %s", c.v, c.edits, got, c.want)
		}
	}
}

// What comes to be too much, with as many edits as there may be.
func TestApplyEditsTooMuch(t *testing.T) {
	check := func(v cells, list []edit, want impl.ReadResult) {
		t.Helper()
		got := impl.ApplyEdits(v, list)
		if got.Code != want.Code || got.At != want.At || !slices.Equal(got.Value, want.Value) {
			t.Errorf("%s, %s: %s, want %s", short(v), short(list), short(got), short(want))
		}
	}
	var sets, drops []edit
	for n := range 100 {
		sets = append(sets, setAt(pathOf(99+n), num(int64(99+n))))
		drops = append(drops, dropAt(pathOf(0)))
	}
	check(numbersUpTo(99), sets, impl.ReadResult{Value: numbersUpTo(199)})
	check(arr(append(repeat(99, null()), no())...), append(sets[1:], setAt(pathOf(199), null())), impl.ReadResult{Code: impl.ErrMany, At: 99})
	check(numbersUpTo(100), drops, impl.ReadResult{Value: arr()})
	check(null(), append(sets[1:], setAt(pathOf("a"), null())), impl.ReadResult{Code: impl.ErrKind, At: 99})
	check(numbersUpTo(199), append(drops[1:], sets[99]), impl.ReadResult{Value: arr(append(layMembers(numbersUpTo(199))[99:], slices.Concat(repeat(98, null()), []cells{num(198)})...)...)})
	check(nested(19), []edit{setAt(stepped(18, 0), arr(null())), setAt(stepped(19, 0), arr()), setAt(stepped(19, 0), arr(null()))}, impl.ReadResult{Code: impl.ErrDeep, At: 2})
	check(nested(20), []edit{setAt(pathOf(), num(1)), setAt(pathOf(), nested(20))}, impl.ReadResult{Value: nested(20)})
	// Room that is made ahead, and room that is not.
	full := obj(member("a", arr(repeat(198, null())...)))
	check(full, []edit{dropAt(pathOf("a")), setAt(pathOf("b"), arr(repeat(198, null())...))}, impl.ReadResult{Value: obj(member("b", arr(repeat(198, null())...)))})
	check(full, []edit{setAt(pathOf("b"), null()), dropAt(pathOf("a"))}, impl.ReadResult{Code: impl.ErrMany})
}

// The fault of v, and then that of the edits, ahead of all else.
func TestApplyEditsCodes(t *testing.T) {
	wrong := editFaults()
	for i, c := range faulty() {
		for _, list := range [][]edit{nil, {setAt(pathOf(), num(1))}, {wrong[i%len(wrong)].e}, slices.Repeat([]edit{{}}, 101)} {
			if got := editedAs(impl.ApplyEdits(c.v, list)); got != codeAt(c.code, 0) {
				t.Errorf("%s: %s, want %d", short(c.v), got, c.code)
			}
		}
	}
	for _, c := range wrong {
		// Ahead of a code that would be met first.
		for _, list := range [][]edit{{c.e}, {setAt(pathOf("a"), num(1)), c.e}, {setAt(pathOf(), num(1)), dropAt(pathOf("a")), c.e}} {
			if got := editedAs(impl.ApplyEdits(num(7), list)); got != codeAt(c.code, 0) {
				t.Errorf("%s: %s, want %d", short(list), got, c.code)
			}
		}
	}
}

func TestDiffValues(t *testing.T) {
	for _, c := range []struct{ a, b, want string }{
		{`null`, `null`, ``}, {`1`, `1`, ``}, {`{"a":[1,{}]}`, `{"a":[1,{}]}`, ``}, {`[]`, `[]`, ``}, {`{}`, `{}`, ``},
		{`1`, `2`, `set [] 2`}, {`null`, `{"a":null}`, `set [] {"a":null}`}, {`"a"`, `"b"`, `set [] "b"`}, {`[1]`, `{"0":1}`, `set [] {"0":1}`}, {`{"a":1}`, `[1]`, `set [] [1]`}, {`[]`, `{}`, `set [] {}`}, {`true`, `false`, `set [] false`},
		// Objects: keys of either, in order.
		{`{"a":1}`, `{}`, `drop ["a"]`}, {`{}`, `{"a":1}`, `set ["a"] 1`}, {`{"a":1}`, `{"a":2}`, `set ["a"] 2`}, {`{"a":1}`, `{"b":1}`, `drop ["a"]; set ["b"] 1`}, {`{"b":1}`, `{"a":1}`, `set ["a"] 1; drop ["b"]`}, {`{"a":1,"c":3,"e":5}`, `{"b":2,"c":4,"d":null}`, `drop ["a"]; set ["b"] 2; set ["c"] 4; set ["d"] null; drop ["e"]`}, {`{"b":2,"c":4,"d":null}`, `{"a":1,"c":4,"e":5}`, `set ["a"] 1; drop ["b"]; drop ["d"]; set ["e"] 5`}, {`{"a":null}`, `{}`, `drop ["a"]`}, {`{}`, `{"a":null}`, `set ["a"] null`}, {`{"a":null}`, `{"a":0}`, `set ["a"] 0`}, {`{"a":null}`, `{"b":null}`, `drop ["a"]; set ["b"] null`}, {`{"":1,"b":2}`, `{"":2}`, `set [""] 2; drop ["b"]`}, {`{"a":1,"ab":1}`, `{"B":1,"b":1}`, `set ["B"] 1; drop ["a"]; drop ["ab"]; set ["b"] 1`},
		{`{"A":1,"a":2,"aA":3}`, `{"A":4,"AA":3,"a":5}`, `set ["A"] 4; set ["AA"] 3; set ["a"] 5; drop ["aA"]`},
		// Arrays: of one length, shorter from the end on, longer in order.
		{`[1,2,3]`, `[1,5,3]`, `set [1] 5`}, {`[1,2,3]`, `[4,2,6]`, `set [0] 4; set [2] 6`}, {`[1,2,3]`, `[1]`, `drop [2]; drop [1]`}, {`[1,2,3]`, `[]`, `drop [2]; drop [1]; drop [0]`}, {`[1]`, `[1,2,3]`, `set [1] 2; set [2] 3`}, {`[]`, `[null,null]`, `set [0] null; set [1] null`}, {`[1,2,3]`, `[2,3]`, `set [0] 2; set [1] 3; drop [2]`}, {`[2,3]`, `[1,2,3]`, `set [0] 1; set [1] 2; set [2] 3`}, {`[null,null]`, `[null]`, `drop [1]`}, {`[1,[2]]`, `[[2],1]`, `set [0] [2]; set [1] 1`},
		// Within one another.
		{`{"a":[1,2],"b":null}`, `{"a":[1],"c":0}`, `drop ["a",1]; drop ["b"]; set ["c"] 0`}, {`[[1,2],[3],4]`, `[[1],[3,5]]`, `drop [0,1]; set [1,1] 5; drop [2]`}, {`{"a":{"b":{"c":1,"d":[1]}}}`, `{"a":{"b":{"c":2,"d":[]}}}`, `set ["a","b","c"] 2; drop ["a","b","d",0]`}, {`{"a":{"b":1}}`, `{"a":{"b":[1]}}`, `set ["a","b"] [1]`}, {`{"a":{"b":1}}`, `{"a":["b",1]}`, `set ["a"] ["b",1]`}, {`[{"a":1},{"a":1}]`, `[{"a":1},{"b":1}]`, `drop [1,"a"]; set [1,"b"] 1`}, {`[[[]]]`, `[[[[]]]]`, `set [0,0,0] []`}, {`[[1],[2]]`, `[[1,[3]]]`, `set [0,1] [3]; drop [1]`}, {`[[],{}]`, `[{},[]]`, `set [0] {}; set [1] []`}, {`{"a":[{"x":1,"y":2},3],"b":5}`, `{"a":[{"y":3},3,4],"b":[5]}`, `drop ["a",0,"x"]; set ["a",0,"y"] 3; set ["a",2] 4; set ["b"] [5]`},
	} {
		if got := editsAs(impl.DiffValues(val(c.a), val(c.b))); got != c.want {
			t.Errorf("%s, %s: %s, want %s", c.a, c.b, got, c.want)
		}
		if got := editsAs(modelDiff(sampleOf(val(c.a)), sampleOf(val(c.b)))); got != c.want {
			t.Errorf("%s, %s: the model tells %s, want %s", c.a, c.b, got, c.want)
		}
	}
}

// A value of each kind beside one of each other kind, alone and within others.
func TestDiffKinds(t *testing.T) {
	kinds := []string{`null`, `false`, `true`, `0`, `""`, `[0]`, `{"":0}`}
	for i, a := range kinds {
		for j, b := range kinds {
			for _, around := range [][3]string{{`[]`, ``, ``}, {`[0]`, `[`, `]`}, {`["k"]`, `{"k":`, `}`}, {`["a",1,"b"]`, `{"a":[5,{"b":`, `}]}`}} {
				want := "set " + around[0] + " " + b
				if i == j {
					want = ""
				}
				left, right := around[1]+a+around[2], around[1]+b+around[2]
				if got := editsAs(impl.DiffValues(val(left), val(right))); got != want {
					t.Errorf("%s, %s: %s, want %s", left, right, got, want)
				}
			}
		}
	}
}

// pairsOfValues are such that come to n edits.
func pairsOfValues(n int) [][2]cells {
	changed := arr(repeat(n, yes())...)
	return [][2]cells{
		{numbersUpTo(n), changed}, {changed, numbersUpTo(n)}, {numbersUpTo(n), arr()}, {arr(), numbersUpTo(n)}, {objectOf(0, n), obj()}, {obj(), objectOf(0, n)},
		{objectOf(0, 50), objectOf(50, n-50)}, {objectOf(50, n-50), objectOf(0, 50)},
		{arr(numbersUpTo(n)), arr(changed)}, {arr(num(5), numbersUpTo(n-1)), arr(num(6), arr(repeat(n-1, yes())...))}, {arr(numbersUpTo(n-1), num(5)), arr(arr(repeat(n-1, yes())...), num(6))}, {arr(numbersUpTo(n-1), num(5)), arr(arr())}, {arr(arr()), arr(numbersUpTo(n-1), num(5))},
		{obj(member("a", numbersUpTo(n-2)), member("b", num(1)), member("c", num(2))), obj(member("a", arr()), member("c", num(3)))}, {arr(numbersUpTo(50), objectOf(0, n-50)), arr(arr(), obj())}, {numbersUpTo(n + 3), numbersUpTo(3)}, {numbersUpTo(3), numbersUpTo(n + 3)},
	}
}

func TestDiffAtMaxEdits(t *testing.T) {
	for _, n := range []int{98, 99, 100, 101, 102, 120} {
		for i, pair := range pairsOfValues(n) {
			got := impl.DiffValues(pair[0], pair[1])
			if n > 100 && editsAs(got) != codeAt(impl.ErrMany, 0) || n <= 100 && (got.Code != 0 || len(got.Edits) != n) {
				t.Errorf("%d edits of pair %d: %d, %d", n, i, got.Code, len(got.Edits))
			}
			if want := modelDiff(sampleOf(pair[0]), sampleOf(pair[1])); editsAs(got) != editsAs(want) {
				t.Errorf("%d edits of pair %d: %s, want %s", n, i, short(got), short(want))
			}
		}
	}
	// Many unlike cells may be few edits.
	for _, pair := range [][2]cells{{objectOf(0, 199), numbersUpTo(199)}, {arr(numbersUpTo(198)), arr(objectOf(0, 198))}, {null(), objectOf(0, 199)}} {
		if got := impl.DiffValues(pair[0], pair[1]); got.Code != 0 || len(got.Edits) != 1 {
			t.Errorf("%s: %s", short(pair), short(got))
		}
	}
	// As many as can be.
	for _, pair := range [][2]cells{{objectOf(0, 199), objectOf(199, 199)}, {numbersUpTo(199), arr(repeat(199, no())...)}, {arr(repeat(199, no())...), arr()}, {obj(), objectOf(0, 199)}} {
		if got := editsAs(impl.DiffValues(pair[0], pair[1])); got != codeAt(impl.ErrMany, 0) {
			t.Errorf("%s: %s", short(pair), short(got))
		}
	}
}

// The fault of a, and then that of b.
func TestTwoValuesCodes(t *testing.T) {
	check := func(a, b cells, want int64) {
		t.Helper()
		if got := editsAs(impl.DiffValues(a, b)); got != codeAt(want, 0) {
			t.Errorf("diff %s, %s: %s, want %d", short(a), short(b), got, want)
		}
		checkAnswer(t, impl.MergeValues(a, b), failing(want), "merge", a, b)
		if got := impl.CountSame(a, b); got != (impl.IntResult{Code: want}) {
			t.Errorf("count %s, %s: %v, want %d", short(a), short(b), got, want)
		}
	}
	list := faulty()
	for i, c := range list {
		for _, v := range []cells{null(), num(1), arr(), obj(), val(`{"a":1}`), c.v, list[(i*3+1)%len(list)].v, nil} {
			check(c.v, v, c.code)
			if modelFault(v) == 0 {
				check(v, c.v, c.code)
			}
		}
	}
	check(nil, cells{{Kind: 7}}, impl.ErrMany)
	check(cells{{Kind: 7}}, nil, impl.ErrKind)
	check(nested(21), cells{{Kind: 7}}, impl.ErrDeep)
	check(nested(20), nested(21), impl.ErrDeep)
}

func TestFormatEdits(t *testing.T) {
	for _, c := range []struct {
		list []edit
		want string
	}{
		{nil, ""}, {[]edit{}, ""},
		{[]edit{setAt(pathOf(), null())}, "set [] null\n"}, {[]edit{dropAt(pathOf("a"))}, "drop [\"a\"]\n"}, {[]edit{setAt(pathOf("a", 0, -1), val(`{"b":[1,"x y"],"a":true}`))}, "set [\"a\",0,-1] {\"a\":true,\"b\":[1,\"x y\"]}\n"}, {[]edit{dropAt(pathOf(0)), setAt(pathOf(""), str("")), dropAt(pathOf(`"\`))}, "drop [0]\nset [\"\"] \"\"\ndrop [\"\\\"\\\\\"]\n"},
		{[]edit{dropAt(pathOf(-impl.MaxNumber)), setAt(pathOf(" "), num(impl.MaxNumber))}, "drop [-1000000000000000]\nset [\" \"] 1000000000000000\n"}, {[]edit{{Op: impl.EditDrop, Path: pathOf(1), X: cells{}}}, "drop [1]\n"},
		{slices.Repeat([]edit{dropAt(pathOf(1))}, 100), strings.Repeat("drop [1]\n", 100)},
	} {
		if got := impl.FormatEdits(c.list); got != (impl.TextResult{Text: c.want}) {
			t.Errorf("%s: %q, want %q", short(c.list), short(got), short(c.want))
		}
		if got := modelFormatEdits(c.list); got != (impl.TextResult{Text: c.want}) {
			t.Errorf("%s: the model tells %q, want %q", short(c.list), short(got), short(c.want))
		}
	}
	// No text is too long to be told.
	long := slices.Repeat([]edit{setAt(stepped(199, strings.Repeat("k", 60)), longValue(199))}, 100)
	if got := impl.FormatEdits(long); got != modelFormatEdits(long) || len(got.Text) < 2000000 {
		t.Errorf("%d bytes, %d", len(got.Text), got.Code)
	}
}

type parseCase struct{ text, want string }

func checkParseEdits(t *testing.T, text, want string) {
	t.Helper()
	if got := editsAs(impl.ParseEdits(text)); got != want {
		t.Errorf("%q: %s, want %s", short(text), short(got), short(want))
	}
	if got := editsAs(modelParseEdits(text)); got != want {
		t.Errorf("%q: the model tells %s, want %s", short(text), short(got), short(want))
	}
}

func TestParseEdits(t *testing.T) {
	for _, c := range []parseCase{
		{"", ""}, {"set [] 1", "set [] 1"}, {"set [] 1\n", "set [] 1"}, {"drop [0]", "drop [0]"}, {"drop [0]\n", "drop [0]"}, {"drop [0]\nset [] {\"a\":[1,null]}\ndrop [\"a\",-3]\n", `drop [0]; set [] {"a":[1,null]}; drop ["a",-3]`}, {"drop [0]\nset [] 2", "drop [0]; set [] 2"},
		// What stands in a string ends neither the path nor X.
		{`set ["a b"] "c d"`, `set ["a b"] "c d"`}, {`set ["] 1","[]"] "] 2"`, `set ["] 1","[]"] "] 2"`}, {`drop [" \" ","\\"]`, `drop [" \" ","\\"]`}, {`set ["\\"] "\""`, `set ["\\"] "\""`}, {`set [" "] " "`, `set [" "] " "`}, {`drop ["drop [0]"]`, `drop ["drop [0]"]`}, {`set ["set [] 1"] "set [] 1"`, `set ["set [] 1"] "set [] 1"`},
		// Blank lines, and lines among others.
		{"\n", "!5 at 0"}, {"\n\n", "!5 at 0"}, {" ", "!5 at 0"}, {" \n", "!5 at 0"}, {"drop [0]\n\n", "!5 at 1"}, {"\ndrop [0]\n", "!5 at 0"}, {"drop [0]\n\ndrop [0]\n", "!5 at 1"}, {"drop [0]\n ", "!5 at 1"}, {"drop [0]\ndrop [0]\n\n\n", "!5 at 2"}, {"drop [0]\nx\ndrop [0]\ny\n", "!5 at 1"}, {"set [] 1\nset [] 2\nset [] 3\nset []", "!5 at 3"}, {"x", "!5 at 0"}, {"set [] 1\nx", "!5 at 1"}, {"set [] 1\n\x00", "!5 at 1"},
		// Told otherwise.
		{" set [] 1", "!5 at 0"}, {"set [] 1 ", "!5 at 0"}, {"set  [] 1", "!5 at 0"}, {"set []  1", "!5 at 0"}, {"set[] 1", "!5 at 0"}, {"set []1", "!5 at 0"}, {"set [ ] 1", "!5 at 0"}, {"set [0, 1] 1", "!5 at 0"}, {"set [0 ,1] 1", "!5 at 0"}, {"set [] [ ]", "!5 at 0"}, {"set [] [1, 2]", "!5 at 0"}, {`set [] {"a": 1}`, "!5 at 0"}, {"set\t[] 1", "!5 at 0"}, {"set []\t1", "!5 at 0"}, {"set [] 1\r\n", "!5 at 0"}, {"drop  [0]", "!5 at 0"}, {"drop [0] ", "!5 at 0"}, {"drop[0]", "!5 at 0"}, {" drop [0]", "!5 at 0"}, {"drop [ 0]", "!5 at 0"}, {"drop [0]\r\n", "!5 at 0"},
		{`set [] {"b":1,"a":2}`, "!5 at 0"}, {`set [] {"a":1,"a":1}`, "!5 at 0"}, {`set [] [{"a":1,"A":2}]`, "!5 at 0"}, {`set [] {"A":2,"a":1}`, `set [] {"A":2,"a":1}`}, {"set [] -0", "!5 at 0"}, {"set [-0] 1", "!5 at 0"}, {"set [00] 1", "!5 at 0"}, {"set [] 01", "!5 at 0"}, {"set [] +1", "!5 at 0"}, {"set [] 1.0", "!5 at 0"}, {"set [] 1e1", "!5 at 0"}, {`set [] "\/"`, "!5 at 0"}, {`set [] "\u0041"`, "!5 at 0"}, {`set ["\u0041"] 1`, "!5 at 0"}, {`drop ["\/"]`, "!5 at 0"}, {`drop ["\u0022"]`, "!5 at 0"}, {`drop ["/"]`, `drop ["/"]`},
		// Other words, and what is missing or too much.
		{"Set [] 1", "!5 at 0"}, {"SET [] 1", "!5 at 0"}, {"se [] 1", "!5 at 0"}, {"sets [] 1", "!5 at 0"}, {"put [] 1", "!5 at 0"}, {"[] 1", "!5 at 0"}, {" [] 1", "!5 at 0"}, {" [0]", "!5 at 0"}, {"[0]", "!5 at 0"}, {"Drop [0]", "!5 at 0"}, {"dro [0]", "!5 at 0"}, {"drops [0]", "!5 at 0"}, {"set", "!5 at 0"}, {"set ", "!5 at 0"}, {"set []", "!5 at 0"}, {"set [] ", "!5 at 0"}, {"set [0]", "!5 at 0"}, {"set 1", "!5 at 0"}, {"drop", "!5 at 0"}, {"drop ", "!5 at 0"}, {"drop [0] 1", "!5 at 0"}, {"drop [0] null", "!5 at 0"}, {"drop [0] [0]", "!5 at 0"}, {"drop [0]]", "!5 at 0"}, {"set [] 1 2", "!5 at 0"}, {"set [] 1]", "!5 at 0"}, {"set [ 1", "!5 at 0"}, {"set [] nul", "!5 at 0"}, {"set [] nulll", "!5 at 0"}, {"set [] [1", "!5 at 0"}, {"drop [0", "!5 at 0"}, {"set [] 1;set [] 2", "!5 at 0"}, {"set [] 1 set [] 2", "!5 at 0"},
		// What can be read, but is the line of no edit that FormatEdits tells.
		{"drop []", "!5 at 0"}, {"drop null", "!5 at 0"}, {`drop "a"`, "!5 at 0"}, {"drop {}", "!5 at 0"}, {"drop [null]", "!5 at 0"}, {"drop [[0]]", "!5 at 0"}, {`drop [0,"a",true]`, "!5 at 0"}, {"set null 1", "!5 at 0"}, {"set {} 1", "!5 at 0"}, {"set 0 1", "!5 at 0"}, {`set "a" 1`, "!5 at 0"}, {"set [[]] 1", "!5 at 0"}, {"set [0,{}] 1", "!5 at 0"}, {`set {"a":0} 1`, "!5 at 0"}, {"drop [0]\ndrop []\nx", "!5 at 1"}, {"drop [0]\nset [false] 1", "!5 at 1"},
	} {
		checkParseEdits(t, c.text, c.want)
	}
}

// At the bounds of values and of paths, and beyond them.
func TestParseEditsBounds(t *testing.T) {
	x := strings.Repeat("x", 60)
	line := func(p, v cells) string {
		m, _ := readModel(p)
		n, _ := readModel(v)
		return "set " + m.json() + " " + n.json()
	}
	for _, pair := range [][2]cells{{pathOf(), nested(20)}, {pathOf(), numbersUpTo(199)}, {stepped(199, 0), num(1)}, {stepped(199, "a"), arr()}, {pathOf(x), str(x)}, {pathOf(-impl.MaxNumber, impl.MaxNumber), num(-impl.MaxNumber)}, {pathOf(), obj(member(x, null()))}, {stepped(199, 0), numbersUpTo(199)}} {
		text := line(pair[0], pair[1])
		checkParseEdits(t, text, text)
	}
	for _, pair := range [][2]cells{{pathOf(), nested(21)}, {pathOf(), numbersUpTo(200)}, {stepped(200, 0), num(1)}, {stepped(200, "a"), arr()}, {pathOf(x + "x"), num(1)}, {pathOf(), str(x + "x")}, {pathOf(impl.MaxNumber + 1), num(1)}, {pathOf(), num(-impl.MaxNumber - 1)}, {pathOf(), obj(member(x+"x", null()))}, {nested(20), num(1)}, {nested(21), num(1)}} {
		checkParseEdits(t, line(pair[0], pair[1]), "!5 at 0")
		checkParseEdits(t, "drop [0]\n"+line(pair[0], pair[1])+"\n", "!5 at 1")
	}
	for _, p := range []cells{stepped(200, 0), pathOf(x + "x"), pathOf(impl.MaxNumber + 1), nested(20), nested(21)} {
		m, _ := readModel(p)
		checkParseEdits(t, "drop "+m.json(), "!5 at 0")
	}
}

// Texts of MaxText bytes and of one more, and as many lines as there may be.
func TestParseEditsTooMuch(t *testing.T) {
	line := `set [] "` + strings.Repeat("y", 30) + `"`
	full := strings.Repeat(line+"\n", 100)
	if len(full) != impl.MaxText {
		t.Fatal(len(full))
	}
	all := strings.Join(slices.Repeat([]string{line}, 100), "; ")
	checkParseEdits(t, full, all)
	checkParseEdits(t, full[:3999], all)
	checkParseEdits(t, full+"\n", "!2 at 0")
	checkParseEdits(t, "x"+full, "!2 at 0")
	checkParseEdits(t, full+full, "!2 at 0")
	checkParseEdits(t, strings.Repeat("\n", 4000), "!5 at 0")
	checkParseEdits(t, strings.Repeat("\n", 4001), "!2 at 0")
	checkParseEdits(t, strings.Repeat("x", 4000), "!5 at 0")
	checkParseEdits(t, strings.Repeat("x", 4001), "!2 at 0")
	checkParseEdits(t, full[:3960]+strings.Repeat(" ", 40), "!5 at 99")
	short := strings.Repeat("drop [0]\n", 100)
	checkParseEdits(t, short, strings.Join(slices.Repeat([]string{"drop [0]"}, 100), "; "))
	// Too many edits are told only where each line can be read.
	checkParseEdits(t, short+"drop [0]", "!2 at 0")
	checkParseEdits(t, short+"drop [0]\n", "!2 at 0")
	checkParseEdits(t, short+short+short+short, "!2 at 0")
	checkParseEdits(t, short+"drop []\n", "!5 at 100")
	checkParseEdits(t, short+short+"\n", "!5 at 200")
	checkParseEdits(t, short+short+short+"drop [0]\nx", "!5 at 301")
	checkParseEdits(t, "x\n"+short+short, "!5 at 0")
}

func TestMergeValues(t *testing.T) {
	for _, c := range []struct{ a, b, want string }{
		// b that is no object.
		{`{"a":1}`, `null`, `null`}, {`{"a":1}`, `2`, `2`}, {`{"a":1}`, `[1,null]`, `[1,null]`}, {`{"a":1}`, `"x"`, `"x"`}, {`null`, `false`, `false`}, {`[1]`, `[]`, `[]`}, {`{"a":1}`, `true`, `true`}, {`1`, `[{"a":null}]`, `[{"a":null}]`},
		// a that is none.
		{`null`, `{}`, `{}`}, {`7`, `{}`, `{}`}, {`[1,2]`, `{"a":1}`, `{"a":1}`}, {`"x"`, `{"a":null}`, `{}`}, {`false`, `{"b":{"c":null,"d":1}}`, `{"b":{"d":1}}`}, {`null`, `{"a":{"b":{"c":null}}}`, `{"a":{"b":{}}}`}, {`[{"a":1}]`, `{"0":{"a":2}}`, `{"0":{"a":2}}`},
		// Keys of either, and of both.
		{`{"a":1}`, `{}`, `{"a":1}`}, {`{}`, `{}`, `{}`}, {`{"a":1}`, `{"b":2}`, `{"a":1,"b":2}`}, {`{"b":1}`, `{"a":2}`, `{"a":2,"b":1}`}, {`{"a":1}`, `{"a":2}`, `{"a":2}`}, {`{"a":1,"b":2,"c":3}`, `{"b":null,"c":4,"d":5}`, `{"a":1,"c":4,"d":5}`}, {`{"a":1}`, `{"a":null}`, `{}`}, {`{"a":1}`, `{"b":null}`, `{"a":1}`}, {`{"":1}`, `{"":null,"a":""}`, `{"a":""}`}, {`{"a":[1,2],"b":null}`, `{"a":null,"c":{"d":1}}`, `{"b":null,"c":{"d":1}}`},
		{`{"A":1,"a":2}`, `{"A":null,"b":3}`, `{"a":2,"b":3}`}, {`{"A":1,"a":2}`, `{"AA":4,"a":{"A":3}}`, `{"A":1,"AA":4,"a":{"A":3}}`},
		// What a has as null stays, b's null does not come; nor in what is within.
		{`{"a":null}`, `{}`, `{"a":null}`}, {`{"a":null}`, `{"a":null}`, `{}`}, {`{"a":null}`, `{"a":{"b":null}}`, `{"a":{}}`}, {`{"a":{"b":null}}`, `{"a":{"c":1}}`, `{"a":{"b":null,"c":1}}`}, {`{"a":{"b":1,"c":{"d":2}}}`, `{"a":{"c":{"d":null,"e":3}}}`, `{"a":{"b":1,"c":{"e":3}}}`}, {`{"a":{"b":1}}`, `{"a":{"b":null}}`, `{"a":{}}`}, {`{"a":1}`, `{"a":{"b":null}}`, `{"a":{}}`}, {`{"a":{"b":1}}`, `{"a":2}`, `{"a":2}`}, {`{"a":{"b":1}}`, `{"a":[{"b":null}]}`, `{"a":[{"b":null}]}`}, {`{"a":[1]}`, `{"a":{"0":2}}`, `{"a":{"0":2}}`}, {`{"a":{"b":{"c":{"d":1,"e":2}}},"f":0}`, `{"a":{"b":{"c":{"d":null}}}}`, `{"a":{"b":{"c":{"e":2}}},"f":0}`},
	} {
		what := c.a + " with " + c.b
		checkTold(t, what, impl.MergeValues(val(c.a), val(c.b)), c.want)
		checkTold(t, "model: "+what, modelMerge(sampleOf(val(c.a)), sampleOf(val(c.b))), c.want)
	}
}

// keyNested is as deep as that, each in the member of one key.
func keyNested(depth int, key string, innermost cells) cells {
	v := innermost
	for range depth - 1 {
		v = obj(member(key, v))
	}
	return v
}

// What comes is asked its fault once all is done, not on the way.
func TestMergeValuesTooMuch(t *testing.T) {
	check := func(what string, a, b cells, want impl.ValueResult) {
		t.Helper()
		checkAnswer(t, impl.MergeValues(a, b), want, what)
		checkAnswer(t, modelMerge(sampleOf(a), sampleOf(b)), want, "model: "+what)
	}
	nulls := func(n int) cells { return arr(repeat(n, null())...) }
	check("as many as can be", objectOf(0, 100), objectOf(100, 99), made(layBoth(100, 99)))
	check("one more", objectOf(0, 100), objectOf(100, 100), failing(impl.ErrMany))
	check("many more", objectOf(0, 199), objectOf(199, 199), failing(impl.ErrMany))
	check("all the same", objectOf(0, 199), objectOf(0, 199), made(objectOf(0, 199)))
	check("as many as can be within", obj(member("a", obj(member("b", nulls(95))))), obj(member("a", obj(member("c", nulls(101))))), made(obj(member("a", obj(member("b", nulls(95)), member("c", nulls(101)))))))
	check("one more within", obj(member("a", obj(member("b", nulls(96))))), obj(member("a", obj(member("c", nulls(101))))), failing(impl.ErrMany))
	check("room that is made behind", obj(member("b", nulls(198))), obj(member("a", nulls(190)), member("b", null())), made(obj(member("a", nulls(190)))))
	check("room that is made further in", obj(member("a", obj(member("b", nulls(197))))), obj(member("a", obj(member("a", nulls(190)), member("b", null())))), made(obj(member("a", obj(member("a", nulls(190)))))))
	check("room that is made beside it", obj(member("a", obj()), member("b", nulls(197))), obj(member("a", obj(member("a", nulls(190)))), member("b", num(1))), made(obj(member("a", obj(member("a", nulls(190)))), member("b", num(1)))))
	check("too much further in", obj(member("a", objectOf(0, 150))), obj(member("a", objectOf(150, 150)), member("b", null())), failing(impl.ErrMany))
	// No deeper than both, so as deep as can be at most.
	deep, other := keyNested(20, "a", num(1)), keyNested(20, "b", num(2))
	check("as deep as can be", deep, other, made(obj(deep[1:], other[1:])))
	check("as deep as can be in one", deep, keyNested(20, "a", num(2)), made(keyNested(20, "a", num(2))))
	check("the innermost", keyNested(19, "a", obj(member("b", null()))), keyNested(19, "a", obj(member("c", arr()))), made(keyNested(19, "a", obj(member("b", null()), member("c", arr())))))
	check("the innermost goes", deep, keyNested(20, "a", null()), made(keyNested(19, "a", obj())))
	check("deep in place of no object", num(1), deep, made(deep))
}

// layBoth has n members and then m, each counted from 0 on.
func layBoth(n, m int) cells {
	first, second := objectOf(0, n), objectOf(n, m)
	v := slices.Concat(first, second[1:])
	v[0].N = int64(n + m)
	return v
}

func TestCountSame(t *testing.T) {
	for _, c := range []struct {
		a, b string
		want int64
	}{
		// Values without parts.
		{`null`, `null`, 1}, {`1`, `1`, 1}, {`1`, `2`, 0}, {`"a"`, `"a"`, 1}, {`true`, `false`, 0}, {`null`, `0`, 0}, {`0`, `null`, 0}, {`1`, `[1]`, 0}, {`null`, `[]`, 0},
		// Empty ones are leaves; those with something in them are none.
		{`[]`, `[]`, 1}, {`{}`, `{}`, 1}, {`[]`, `{}`, 0}, {`{}`, `[]`, 0}, {`[]`, `[1]`, 0}, {`[1]`, `[]`, 0}, {`[]`, `null`, 0}, {`{}`, `null`, 0}, {`[[]]`, `[[]]`, 1}, {`[[],{}]`, `[{},[]]`, 0}, {`[[],{}]`, `[[],{}]`, 2}, {`{"a":[]}`, `{"a":[],"b":1}`, 1}, {`{"a":[]}`, `{"a":[1]}`, 0}, {`{"a":[1]}`, `{"a":[]}`, 0}, {`{"a":{}}`, `{"a":{}}`, 1},
		// The same, otherwise, and not at all.
		{`[1,2,3]`, `[1,2,3]`, 3}, {`[1,2,3]`, `[1,5,3]`, 2}, {`[1,2,3]`, `[3,2,1]`, 1}, {`[1,2,3]`, `[1,2]`, 2}, {`[1,2]`, `[1,2,3]`, 2}, {`{"a":1,"b":2}`, `{"a":1,"b":3}`, 1}, {`{"a":1,"b":2}`, `{"b":2}`, 1}, {`{"a":1}`, `{"b":1}`, 0}, {`{"a":1}`, `[1]`, 0}, {`[1]`, `{"0":1}`, 0}, {`[1,2]`, `7`, 0}, {`{"a":{"b":1,"c":[2,3]},"d":4}`, `{"a":{"b":1,"c":[2,4,5]},"d":4}`, 3}, {`{"a":{"b":1,"c":[2,3]},"d":4}`, `{"a":[1],"d":4}`, 1}, {`{"a":{"b":1,"c":[2,3]},"d":4}`, `{"a":5,"d":[4]}`, 0}, {`[[1,2],[3]]`, `[[1,2,3],[4,3]]`, 2},
		// What is not there is got as null, and what may not be asked so is not.
		{`{"a":null}`, `{}`, 1}, {`{"a":null,"b":1}`, `null`, 1}, {`[null,null]`, `[]`, 2}, {`[null,null]`, `null`, 2}, {`[null,null]`, `{}`, 0}, {`{"a":null}`, `[]`, 0}, {`{"a":null}`, `7`, 0}, {`[null]`, `"x"`, 0}, {`{"a":{"b":null},"c":null}`, `{"a":5}`, 1}, {`{"a":[null,[null]]}`, `{"a":null}`, 2}, {`{"a":[null,[null]]}`, `{"a":{}}`, 0}, {`{"a":0}`, `{}`, 0}, {`[0]`, `null`, 0},
	} {
		if got := impl.CountSame(val(c.a), val(c.b)); got != (impl.IntResult{Value: c.want}) {
			t.Errorf("%s, %s: %v, want %d", c.a, c.b, got, c.want)
		}
		if got := modelCountSame(sampleOf(val(c.a)), sampleOf(val(c.b))); got != (impl.IntResult{Value: c.want}) {
			t.Errorf("%s, %s: the model tells %v, want %d", c.a, c.b, got, c.want)
		}
	}
	for _, c := range []struct {
		a, b cells
		want int64
	}{
		{numbersUpTo(199), numbersUpTo(199), 199}, {numbersUpTo(199), numbersUpTo(100), 100}, {arr(repeat(199, null())...), null(), 199}, {objectOf(0, 199), objectOf(0, 150), 150}, {nested(20), nested(20), 1}, {nested(20), nested(19), 0}, {arr(repeat(199, arr())...), arr(repeat(199, arr())...), 199},
	} {
		if got := impl.CountSame(c.a, c.b); got != (impl.IntResult{Value: c.want}) {
			t.Errorf("%s, %s: %v, want %d", short(c.a), short(c.b), got, c.want)
		}
	}
}
