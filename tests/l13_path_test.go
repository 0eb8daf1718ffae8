package tests

import (
	"slices"
	"strconv"
	"strings"
	"testing"

	"loop.example/g00166/impl"
)

// pathOf is a path of strings and of numbers.
func pathOf(steps ...any) cells {
	var list []cells
	for _, step := range steps {
		switch x := step.(type) {
		case string:
			list = append(list, str(x))
		case int:
			list = append(list, num(int64(x)))
		}
	}
	return arr(list...)
}

// stepped is a path of n steps that are alike.
func stepped(n int, step any) cells {
	return pathOf(slices.Repeat([]any{step}, n)...)
}

// otherKinds are values that are no element of a path.
func otherKinds() []cells {
	return []cells{null(), no(), yes(), arr(), obj(), arr(str("a")), arr(num(0)), obj(member("a", str("b"))), arr(arr()), nested(19)}
}

func TestPathFault(t *testing.T) {
	check := func(p cells, want int64) {
		t.Helper()
		if got := impl.PathFault(p); got != want {
			t.Errorf("%s: %d, want %d", short(p), got, want)
		}
		if got := modelPathFault(sampleOf(p)); got != want {
			t.Errorf("%s: the model tells %d, want %d", short(p), got, want)
		}
	}
	for _, p := range []cells{pathOf(), pathOf(""), pathOf(0), pathOf("a"), pathOf(-1), pathOf("a", 3), pathOf(3, "a"), pathOf("a", "a", "a"), pathOf(1, 1, 1), pathOf(impl.MaxNumber), pathOf(-impl.MaxNumber), pathOf(strings.Repeat("k", 60)), pathOf("0", `"`, `\`, " ", "~"), stepped(199, "a"), stepped(199, -7)} {
		check(p, impl.OK)
	}
	// It is no array.
	for _, p := range []cells{null(), no(), yes(), num(0), str(""), str("a"), obj(), obj(member("a", str("b"))), obj(member("a", arr())), obj(member("", num(1)))} {
		check(p, impl.ErrKind)
	}
	for _, other := range otherKinds() {
		for _, p := range []cells{arr(other), arr(other, str("a"), num(1)), arr(str("a"), other, num(1)), arr(num(1), str("a"), other), arr(other, other)} {
			check(p, impl.ErrKind)
		}
	}
	check(arr(append(repeat(198, str("a")), null())...), impl.ErrKind)
	check(nested(20), impl.ErrKind)
	// A fault as a value comes ahead of it, in a path and in what is none.
	for _, c := range faulty() {
		check(c.v, c.code)
	}
	check(stepped(200, "a"), impl.ErrMany)
	check(arr(null(), num(impl.MaxNumber+1)), impl.ErrRange)
	check(arr(str("a"), str("\n")), impl.ErrText)
	check(arr(null(), str(strings.Repeat("k", 61))), impl.ErrText)
	check(arr(null(), member("k", str("a"))), impl.ErrForm)
	check(arr(str("a"), member("k", num(1))), impl.ErrForm)
	check(arr(str("a"), cells{{Kind: 7}}), impl.ErrKind)
	check(obj(member("a", num(-impl.MaxNumber-1))), impl.ErrRange)
	check(nested(21), impl.ErrDeep)
}

type pathCase struct{ v, p, want string }

func TestGetPath(t *testing.T) {
	cases := []pathCase{
		{`null`, `[]`, `null`}, {`7`, `[]`, `7`}, {`{"a":[1,2]}`, `[]`, `{"a":[1,2]}`}, {`[]`, `[]`, `[]`},
		{`{"a":[1,2],"b":null}`, `["a"]`, `[1,2]`}, {`{"a":[1,2],"b":null}`, `["a",1]`, `2`}, {`{"a":[1,2],"b":null}`, `["a",-2]`, `1`}, {`{"a":[1,2],"b":null}`, `["b"]`, `null`}, {`{"":{"":3}}`, `["",""]`, `3`}, {`[[1,[2,{"k":"x"}]]]`, `[0,1,1,"k"]`, `"x"`}, {`[[1,[2,{"k":"x"}]]]`, `[-1,-1,-1]`, `{"k":"x"}`},
		// What is not there is null, and so is all in it.
		{`{"a":[1,2]}`, `["c"]`, `null`}, {`{"a":[1,2]}`, `["c","d",5,"e",-9]`, `null`}, {`[1]`, `[1]`, `null`}, {`[1]`, `[-2]`, `null`}, {`[1]`, `[-1]`, `1`}, {`[]`, `[0]`, `null`}, {`[]`, `[-1]`, `null`}, {`[1]`, `[199]`, `null`}, {`[1]`, `[200]`, `null`}, {`[1]`, `[1000000000000000,"a"]`, `null`}, {`[1]`, `[-1000000000000000]`, `null`}, {`null`, `["a"]`, `null`}, {`null`, `[0]`, `null`}, {`null`, `["a",0,"b",-1]`, `null`}, {`{"a":null}`, `["a",3,"b"]`, `null`}, {`{}`, `["a"]`, `null`},
		// The first, a middle and the last element that may not be asked so.
		{`7`, `["a"]`, errKind}, {`7`, `[0]`, errKind}, {`"a"`, `["a"]`, errKind}, {`"a"`, `[0]`, errKind}, {`true`, `["a"]`, errKind}, {`false`, `[0]`, errKind}, {`[1]`, `["a"]`, errKind}, {`[]`, `[""]`, errKind}, {`{"a":1}`, `[0]`, errKind}, {`{}`, `[-1]`, errKind},
		{`[{"a":1}]`, `["a",0,"a"]`, errKind}, {`[{"a":[5]}]`, `[0,0,0]`, errKind}, {`[{"a":[5]}]`, `[0,"a","a"]`, errKind}, {`[{"a":[5]}]`, `[0,"a",0,"a"]`, errKind}, {`[{"a":[5]}]`, `[0,"a",0]`, `5`}, {`[{"a":[5]}]`, `[0,"b","a"]`, `null`}, {`[{"a":[5]}]`, `["a",1,1]`, errKind},
	}
	for _, c := range cases {
		checkTold(t, c.v+" at "+c.p, impl.GetPath(val(c.v), val(c.p)), c.want)
		checkTold(t, "model: "+c.v+" at "+c.p, modelGetPath(sampleOf(val(c.v)), sampleOf(val(c.p))), c.want)
	}
	deep := nested(20)
	checkTold(t, "the innermost", impl.GetPath(deep, stepped(19, 0)), `1`)
	checkTold(t, "one from the end each", impl.GetPath(deep, stepped(19, -1)), `1`)
	checkTold(t, "one further", impl.GetPath(deep, stepped(20, 0)), errKind)
	checkTold(t, "a path as long as can be", impl.GetPath(null(), stepped(199, "a")), `null`)
	checkTold(t, "one that is too long", impl.GetPath(null(), stepped(200, "a")), errMany)
	checkTold(t, "the last of all", impl.GetPath(numbersUpTo(199), pathOf(198)), `198`)
	checkTold(t, "behind the last of all", impl.GetPath(numbersUpTo(199), pathOf(199)), `null`)
	checkTold(t, "the first from the end", impl.GetPath(numbersUpTo(199), pathOf(-199)), `0`)
	checkTold(t, "below the first", impl.GetPath(numbersUpTo(199), pathOf(-200)), `null`)
}

type setCase struct{ v, p, x, want string }

func checkSets(t *testing.T, cases []setCase) {
	t.Helper()
	for _, c := range cases {
		checkTold(t, c.v+" at "+c.p+" with "+c.x, impl.SetPath(val(c.v), val(c.p), val(c.x)), c.want)
		checkTold(t, "model: "+c.v+" at "+c.p+" with "+c.x, modelSetPath(sampleOf(val(c.v)), sampleOf(val(c.p)), sampleOf(val(c.x))), c.want)
	}
}

func TestSetPath(t *testing.T) {
	checkSets(t, []setCase{
		{`{"a":1}`, `[]`, `[2]`, `[2]`}, {`null`, `[]`, `null`, `null`}, {`7`, `[]`, `{}`, `{}`},
		// Members, of objects and of null.
		{`{"a":1}`, `["a"]`, `2`, `{"a":2}`}, {`{"b":1}`, `["a"]`, `2`, `{"a":2,"b":1}`}, {`{"b":1}`, `["c"]`, `null`, `{"b":1,"c":null}`}, {`{}`, `[""]`, `[]`, `{"":[]}`}, {`null`, `["a"]`, `2`, `{"a":2}`}, {`null`, `["a","b","c"]`, `2`, `{"a":{"b":{"c":2}}}`}, {`{"a":null}`, `["a","b"]`, `2`, `{"a":{"b":2}}`}, {`{"a":{"b":1,"d":[4]},"e":5}`, `["a","c"]`, `[{}]`, `{"a":{"b":1,"c":[{}],"d":[4]},"e":5}`}, {`{"a":{"b":1}}`, `["a"]`, `7`, `{"a":7}`}, {`{"a":[1,2],"b":null}`, `["a",3]`, `9`, `{"a":[1,2,null,9],"b":null}`},
		// Elements, of arrays and of null, and the nulls between.
		{`[1,2,3]`, `[0]`, `9`, `[9,2,3]`}, {`[1,2,3]`, `[1]`, `[9]`, `[1,[9],3]`}, {`[1,2,3]`, `[2]`, `null`, `[1,2,null]`}, {`[1,2,3]`, `[3]`, `9`, `[1,2,3,9]`}, {`[1,2,3]`, `[4]`, `9`, `[1,2,3,null,9]`}, {`[1,2,3]`, `[6]`, `null`, `[1,2,3,null,null,null,null]`}, {`[]`, `[0]`, `9`, `[9]`}, {`[]`, `[2]`, `9`, `[null,null,9]`}, {`null`, `[0]`, `9`, `[9]`}, {`null`, `[2]`, `9`, `[null,null,9]`}, {`null`, `[1,1,1]`, `9`, `[null,[null,[null,9]]]`}, {`[[1],[2]]`, `[1,2,"a"]`, `9`, `[[1],[2,null,{"a":9}]]`}, {`[null,5]`, `[0,"a",1]`, `9`, `[{"a":[null,9]},5]`}, {`[[1,[2]],3]`, `[0,1,0]`, `[]`, `[[1,[[]]],3]`},
		// Counted from the end: nothing is put there, and none is below the first.
		{`[1,2,3]`, `[-1]`, `9`, `[1,2,9]`}, {`[1,2,3]`, `[-2]`, `9`, `[1,9,3]`}, {`[1,2,3]`, `[-3]`, `9`, `[9,2,3]`}, {`[1,2,3]`, `[-4]`, `9`, errRange}, {`[1]`, `[-1000000000000000]`, `9`, errRange}, {`[]`, `[-1]`, `9`, errRange}, {`null`, `[-1]`, `9`, errRange}, {`[[1,2],[3]]`, `[-2,-1]`, `9`, `[[1,9],[3]]`}, {`[[1,2],[3]]`, `[-1,-2]`, `9`, errRange}, {`[[],[]]`, `[-1,1]`, `9`, `[[],[null,9]]`}, {`{"a":[1]}`, `["a",-1,"k"]`, `9`, errKind}, {`{"a":[null]}`, `["a",-1,"k"]`, `9`, `{"a":[{"k":9}]}`}, {`{"a":[null]}`, `["b",-1]`, `9`, errRange}, {`[5]`, `[1,-1]`, `9`, errRange}, {`{"a":[null]}`, `["a",0,-1]`, `9`, errRange},
		// Kinds that are not asked so, at the first, a middle and the last element.
		{`7`, `["a"]`, `9`, errKind}, {`7`, `[0]`, `9`, errKind}, {`7`, `[-1]`, `9`, errKind}, {`7`, `[200]`, `9`, errKind}, {`"a"`, `["a"]`, `9`, errKind}, {`"a"`, `[0]`, `9`, errKind}, {`true`, `["a"]`, `9`, errKind}, {`true`, `[0]`, `9`, errKind}, {`false`, `["a"]`, `9`, errKind}, {`false`, `[0]`, `9`, errKind}, {`[]`, `["a"]`, `9`, errKind}, {`{}`, `[0]`, `9`, errKind}, {`{}`, `[-1]`, `9`, errKind}, {`{}`, `[200]`, `9`, errKind}, {`[{"a":[5]}]`, `["a",0,0]`, `9`, errKind}, {`[{"a":[5]}]`, `[0,0,0]`, `9`, errKind}, {`[{"a":[5]}]`, `[0,"a","b"]`, `9`, errKind}, {`[{"a":[5]}]`, `[0,"a",0,"b"]`, `9`, errKind}, {`[{"a":[5]}]`, `[0,"a",0,0]`, `9`, errKind}, {`[{"a":[5]}]`, `[0,"a",0]`, `9`, `[{"a":[9]}]`},
		// Too far behind.
		{`null`, `[199]`, `9`, errMany}, {`null`, `[200]`, `9`, errMany}, {`[]`, `[1000000000000000]`, `9`, errMany}, {`{"a":[]}`, `["a",200]`, `9`, errMany}, {`{"a":[]}`, `["a",198]`, `9`, errMany}, {`[[]]`, `[0,198]`, `9`, errMany},
		// The code that is met further in comes ahead of what comes to be too much, not
		// of what is too far behind.
		{`null`, `[199,-1]`, `9`, errRange}, {`null`, `[200,-1]`, `9`, errMany}, {`null`, `["a",199,-1]`, `9`, errRange}, {`null`, `["a",200,-1]`, `9`, errMany}, {`[]`, `[-1,200]`, `9`, errRange}, {`[5]`, `[0,200]`, `9`, errKind},
	})
}

// nullsAhead is an array of n nulls and a 9 behind them.
func nullsAhead(n int) cells {
	return arr(append(repeat(n, null()), num(9))...)
}

func TestSetPathTooMuch(t *testing.T) {
	check := func(v, p, x cells, want impl.ValueResult) {
		t.Helper()
		checkAnswer(t, impl.SetPath(v, p, x), want, v, p, x)
		checkAnswer(t, modelSetPath(sampleOf(v), sampleOf(p), sampleOf(x)), want, "model", v, p, x)
	}
	many, deep := failing(impl.ErrMany), failing(impl.ErrDeep)
	nine := num(9)
	// 200 cells, and one more.
	check(null(), pathOf(198), nine, made(nullsAhead(198)))
	check(arr(), pathOf(198), nine, made(nullsAhead(198)))
	check(null(), pathOf(199), nine, many)
	check(null(), pathOf(197), nine, made(nullsAhead(197)))
	check(arr(), pathOf(197), arr(nine), made(arr(append(repeat(197, null()), arr(nine))...)))
	check(arr(), pathOf(198), arr(nine), many)
	check(null(), pathOf("a", 197), nine, made(obj(member("a", nullsAhead(197)))))
	check(null(), pathOf("a", 198), nine, many)
	check(null(), pathOf("a", 199), nine, many)
	check(null(), pathOf("a", "b", 196), nine, made(obj(member("a", obj(member("b", nullsAhead(196)))))))
	check(null(), pathOf("a", "b", 197), nine, many)
	check(null(), pathOf("a", 0, 197), nine, many)
	check(arr(nine), pathOf(1, 195), nine, made(arr(nine, nullsAhead(195))))
	check(arr(nine), pathOf(1, 196), nine, made(arr(nine, nullsAhead(196))))
	check(arr(nine), pathOf(1, 197), nine, many)
	check(arr(repeat(199, null())...), pathOf(198), nine, made(nullsAhead(198)))
	check(arr(repeat(199, null())...), pathOf(-1), nine, made(nullsAhead(198)))
	check(arr(repeat(199, null())...), pathOf(-199), nine, made(arr(append([]cells{nine}, repeat(198, null())...)...)))
	check(arr(repeat(199, null())...), pathOf(-200), nine, failing(impl.ErrRange))
	check(arr(repeat(199, null())...), pathOf(199), nine, many)
	check(arr(repeat(199, null())...), pathOf(0, "a"), nine, many)
	check(arr(repeat(199, null())...), pathOf(0), arr(), made(arr(append([]cells{arr()}, repeat(198, null())...)...)))
	check(objectOf(0, 199), pathOf("a"), nine, many)
	check(objectOf(0, 198), pathOf("a"), nine, made(obj(append([]cells{member("a", nine)}, layMembers(objectOf(0, 198))...)...)))
	check(objectOf(0, 198), pathOf("a", 0), nine, many)
	check(null(), pathOf(), arr(repeat(199, null())...), made(arr(repeat(199, null())...)))
	check(null(), pathOf(0), arr(repeat(199, null())...), many)
	check(null(), pathOf("a"), arr(repeat(199, null())...), many)
	check(null(), stepped(199, 198), nine, many)
	check(null(), stepped(199, 199), nine, many)
	// 20 deep, and one more.
	check(null(), stepped(19, 0), num(1), made(nested(20)))
	check(null(), stepped(20, 0), num(1), deep)
	check(null(), stepped(199, 0), num(1), deep)
	check(null(), stepped(199, "a"), num(1), deep)
	check(null(), stepped(20, "a"), num(1), deep)
	check(null(), pathOf(0), nested(19), made(nested(20)))
	check(null(), pathOf(0), nested(20), deep)
	check(null(), pathOf("a"), nested(20), deep)
	check(null(), pathOf("a", "b"), nested(19), deep)
	check(nested(20), stepped(19, 0), arr(), made(emptyIn(20)))
	check(nested(20), stepped(19, 0), arr(nine), deep)
	check(nested(20), stepped(18, -1), nested(2), made(nested(20)))
	// What comes on the way out is asked from within: the first that is too much.
	check(null(), append(cells{{Kind: impl.KindArray, N: 26}}, append(pathOf(199)[1:], stepped(25, "a")[1:]...)...), nine, deep)
	check(null(), append(cells{{Kind: impl.KindArray, N: 26}}, append(stepped(25, "a")[1:], pathOf(199)[1:]...)...), nine, many)
	check(null(), append(cells{{Kind: impl.KindArray, N: 26}}, append(pathOf(200)[1:], stepped(25, "a")[1:]...)...), nine, many)
	check(null(), append(cells{{Kind: impl.KindArray, N: 26}}, append(stepped(25, "a")[1:], pathOf(-1)[1:]...)...), nine, failing(impl.ErrRange))
	check(nested(20), append(cells{{Kind: impl.KindArray, N: 20}}, append(stepped(19, 0)[1:], pathOf("a")[1:]...)...), nine, failing(impl.ErrKind))
	check(arr(nested(19), arr(repeat(170, null())...)), pathOf(0, 20, 0), nine, many)
}

// layMembers are the members of an object, each by itself.
func layMembers(v cells) []cells {
	m, _ := readModel(v)
	var list []cells
	for i, kid := range m.kids {
		list = append(list, member(m.keys[i], kid.lay()))
	}
	return list
}

// emptyIn is an empty array that is depth deep.
func emptyIn(depth int) cells {
	v := arr()
	for range depth - 1 {
		v = arr(v)
	}
	return v
}

func TestDropPath(t *testing.T) {
	cases := []pathCase{
		{`null`, `[]`, `null`}, {`7`, `[]`, `null`}, {`[1]`, `[]`, `null`}, {`{"a":1}`, `[]`, `null`},
		// One element.
		{`{"a":1,"b":2}`, `["a"]`, `{"b":2}`}, {`{"a":1}`, `["a"]`, `{}`}, {`{"a":1}`, `["b"]`, `{"a":1}`}, {`{}`, `[""]`, `{}`}, {`null`, `["a"]`, `null`}, {`[1,2,3]`, `[0]`, `[2,3]`}, {`[1,2,3]`, `[1]`, `[1,3]`}, {`[1,2,3]`, `[2]`, `[1,2]`}, {`[1,2,3]`, `[3]`, `[1,2,3]`}, {`[1,2,3]`, `[-1]`, `[1,2]`}, {`[1,2,3]`, `[-2]`, `[1,3]`}, {`[1,2,3]`, `[-3]`, `[2,3]`}, {`[1,2,3]`, `[-4]`, `[1,2,3]`}, {`[1,2,3]`, `[-5]`, `[1,2,3]`}, {`[[1,2],3]`, `[0]`, `[3]`}, {`[1,[2,[3]],4]`, `[-2]`, `[1,4]`}, {`[7]`, `[0]`, `[]`}, {`[7]`, `[-1]`, `[]`}, {`[]`, `[0]`, `[]`}, {`[]`, `[-1]`, `[]`}, {`[1]`, `[199]`, `[1]`}, {`[1]`, `[200]`, `[1]`}, {`[1]`, `[1000000000000000]`, `[1]`}, {`[1]`, `[-1000000000000000]`, `[1]`}, {`null`, `[0]`, `null`}, {`null`, `[-1]`, `null`}, {`null`, `[200]`, `null`},
		{`7`, `["a"]`, errKind}, {`7`, `[0]`, errKind}, {`"a"`, `["a"]`, errKind}, {`"a"`, `[0]`, errKind}, {`true`, `["a"]`, errKind}, {`true`, `[0]`, errKind}, {`false`, `["a"]`, errKind}, {`false`, `[-1]`, errKind}, {`[]`, `["a"]`, errKind}, {`[1]`, `["0"]`, errKind}, {`{}`, `[0]`, errKind}, {`{"a":1}`, `[-1]`, errKind},
		// Several.
		{`{"a":[1,2],"b":null}`, `["a",0]`, `{"a":[2],"b":null}`}, {`{"a":[1,2],"b":null}`, `["a",-1]`, `{"a":[1],"b":null}`}, {`{"a":[1,2]}`, `["a",2]`, `{"a":[1,2]}`}, {`{"a":{"b":1,"c":2},"d":3}`, `["a","b"]`, `{"a":{"c":2},"d":3}`}, {`{"a":{"b":1}}`, `["a","b"]`, `{"a":{}}`}, {`[[1,2],[3,4]]`, `[1,0]`, `[[1,2],[4]]`}, {`[[1,2],[3,4]]`, `[-2,-1]`, `[[1],[3,4]]`}, {`[{"a":[{"b":[1,2]}]},5]`, `[0,"a",0,"b",1]`, `[{"a":[{"b":[1]}]},5]`}, {`[{"a":[{"b":[1,2]}]},5]`, `[-2,"a",-1,"b"]`, `[{"a":[{}]},5]`}, {`[{"a":[{"b":[1,2]}]},5]`, `[0,"a",0]`, `[{"a":[]},5]`},
		// Through what is not there, or null: nothing is put.
		{`{"a":1}`, `["b",0]`, `{"a":1}`}, {`{"a":1}`, `["b","c","d"]`, `{"a":1}`}, {`{"a":null}`, `["a","b"]`, `{"a":null}`}, {`{"a":null}`, `["a",0,"c"]`, `{"a":null}`}, {`[1]`, `[1,0]`, `[1]`}, {`[1]`, `[-2,"a"]`, `[1]`}, {`[1]`, `[200,0]`, `[1]`}, {`[null]`, `[0,5]`, `[null]`}, {`null`, `["a","b"]`, `null`}, {`null`, `[0,"b",-1]`, `null`}, {`[[1]]`, `[0,3,"a"]`, `[[1]]`}, {`[{"a":null},2]`, `[0,"a","b"]`, `[{"a":null},2]`}, {`[{"a":{"b":null}},2]`, `[0,"a","b"]`, `[{"a":{}},2]`}, {`[[null,1]]`, `[0,0]`, `[[1]]`}, {`[[null,1]]`, `[0,0,0]`, `[[null,1]]`},
		// Kinds at the first, a middle and the last element.
		{`7`, `["a","b"]`, errKind}, {`7`, `[0,0]`, errKind}, {`[1]`, `["a",0]`, errKind}, {`{"a":1}`, `[0,"a"]`, errKind}, {`[{"a":[5]}]`, `["a",0,0]`, errKind}, {`[{"a":[5]}]`, `[0,0,0]`, errKind}, {`[{"a":[5]}]`, `[0,"a","a"]`, errKind}, {`[{"a":[5]}]`, `[0,"a",0,0]`, errKind}, {`[{"a":[5]}]`, `[0,"a",0,"a"]`, errKind}, {`[{"a":[5]}]`, `[0,"a",0,0,0]`, errKind}, {`[{"a":[5]}]`, `[0,"a",1,0,0]`, `[{"a":[5]}]`}, {`{"a":false}`, `["a","b"]`, errKind}, {`{"a":false}`, `["a",0]`, errKind},
	}
	for _, c := range cases {
		checkTold(t, c.v+" without "+c.p, impl.DropPath(val(c.v), val(c.p)), c.want)
		checkTold(t, "model: "+c.v+" without "+c.p, modelDropPath(sampleOf(val(c.v)), sampleOf(val(c.p))), c.want)
	}
	checkAnswer(t, impl.DropPath(nested(20), stepped(19, 0)), made(emptyIn(19)), "the innermost")
	checkAnswer(t, impl.DropPath(nested(20), stepped(18, -1)), made(emptyIn(18)), "the last array")
	checkAnswer(t, impl.DropPath(nested(20), stepped(20, 0)), failing(impl.ErrKind), "one further")
	checkAnswer(t, impl.DropPath(numbersUpTo(199), pathOf(198)), made(numbersUpTo(198)), "the last of all")
	checkAnswer(t, impl.DropPath(numbersUpTo(199), pathOf(199)), made(numbersUpTo(199)), "behind the last of all")
	checkAnswer(t, impl.DropPath(objectOf(0, 199), pathOf("k1198")), made(objectOf(0, 198)), "the last member of all")
	checkAnswer(t, impl.DropPath(null(), stepped(199, "a")), made(null()), "a path as long as can be")
	checkAnswer(t, impl.DropPath(null(), stepped(200, "a")), failing(impl.ErrMany), "one that is too long")
}

func TestPathText(t *testing.T) {
	long := strings.Repeat("k", 60)
	for _, c := range []struct {
		p    cells
		want string
	}{
		{pathOf(), "."}, {pathOf("a", 3), `.["a"][3]`}, {pathOf(3, "a"), `.[3]["a"]`}, {pathOf(""), `.[""]`}, {pathOf(0), ".[0]"}, {pathOf(-1), ".[-1]"}, {pathOf(10, -10, 7), ".[10][-10][7]"}, {pathOf(impl.MaxNumber, -impl.MaxNumber), ".[1000000000000000][-1000000000000000]"}, {pathOf("0"), `.["0"]`}, {pathOf(`"`), `.["\""]`}, {pathOf(`\`), `.["\\"]`}, {pathOf(`a"b\c/d`), `.["a\"b\\c/d"]`}, {pathOf(" ", "~", "[]", "<>&"), `.[" "]["~"]["[]"]["<>&"]`}, {pathOf("a.b", "a", "b"), `.["a.b"]["a"]["b"]`}, {pathOf(long), `.["` + long + `"]`}, {stepped(199, "a"), "." + strings.Repeat(`["a"]`, 199)}, {stepped(199, -5), "." + strings.Repeat("[-5]", 199)}, {stepped(199, strings.Repeat(`\`, 60)), "." + strings.Repeat(`["`+strings.Repeat(`\`, 120)+`"]`, 199)},
	} {
		if got := impl.PathText(c.p); got.Code != 0 || got.Text != c.want {
			t.Errorf("%s: %s, want %s", short(c.p), short(got), short(c.want))
		}
	}
	for _, p := range slices.Concat(faults(), opPool(), otherKinds(), []cells{arr(str("a"), null()), arr(arr(str("a"))), stepped(200, 0), arr(null(), num(impl.MaxNumber+1))}) {
		if got, want := impl.PathText(p), modelPathText(sampleOf(p)); got != want {
			t.Errorf("%s: %s, want %s", short(p), short(got), short(want))
		}
	}
}

// The fault of v comes ahead of that of p, and that of x behind both; nothing that is
// met on the way comes ahead of them.
func TestPathCodes(t *testing.T) {
	type given struct {
		v    cells
		code int64
	}
	values := []given{{num(7), 0}, {null(), 0}, {val(`{"a":[1]}`), 0}}
	paths := []given{{pathOf(), 0}, {pathOf("a", 0), 0}, {pathOf(0), 0}, {pathOf(-1), 0}, {pathOf(200), 0}, {str("a"), impl.ErrKind}, {null(), impl.ErrKind}, {obj(), impl.ErrKind}, {arr(null()), impl.ErrKind}}
	for i, c := range faulty() {
		paths = append(paths, given{c.v, c.code})
		if i%4 == 0 || c.code == impl.ErrDeep {
			values = append(values, given{c.v, c.code})
		}
	}
	for _, v := range values {
		for _, p := range paths {
			first := v.code
			if first == 0 {
				first = p.code
			}
			for _, x := range values {
				want := first
				if want == 0 {
					want = x.code
				}
				got := impl.SetPath(v.v, p.v, x.v)
				if want != 0 {
					checkAnswer(t, got, failing(want), "set", v.v, p.v, x.v)
				} else {
					checkAnswer(t, got, modelSetPath(sampleOf(v.v), sampleOf(p.v), sampleOf(x.v)), "set", v.v, p.v, x.v)
				}
			}
			if first != 0 {
				checkAnswer(t, impl.GetPath(v.v, p.v), failing(first), "get", v.v, p.v)
				checkAnswer(t, impl.DropPath(v.v, p.v), failing(first), "drop", v.v, p.v)
			}
		}
	}
}

// checkPath holds what is got and dropped at a path, and what is put there, against
// the model.
func checkPath(t *testing.T, v, p sample, puts []sample) {
	t.Helper()
	checkAnswer(t, impl.GetPath(v.v, p.v), modelGetPath(v, p), "get", v.v, p.v)
	checkAnswer(t, impl.DropPath(v.v, p.v), modelDropPath(v, p), "drop", v.v, p.v)
	for _, x := range puts {
		checkAnswer(t, impl.SetPath(v.v, p.v, x.v), modelSetPath(v, p, x), "set", v.v, p.v, x.v)
	}
}

// shortPaths are all paths of at most n of these steps.
func shortPaths(steps []cells, n int) []cells {
	var alphabet cells
	for _, step := range steps {
		alphabet = append(alphabet, step...)
	}
	var paths []cells
	for _, list := range shortLists(alphabet, n) {
		paths = append(paths, append(cells{{Kind: impl.KindArray, N: int64(len(list))}}, list...))
	}
	return paths
}

// pathValues are values with something to be met at short paths.
func pathValues() []cells {
	var values []cells
	for _, text := range []string{`null`, `false`, `true`, `7`, `"a"`, `[]`, `{}`, `[1]`, `[null]`, `[[]]`, `[{}]`, `{"a":1}`, `{"a":null}`, `{"a":[]}`, `{"a":{}}`, `[1,2]`, `[[1],[2,3]]`, `[null,[null]]`, `[{"a":[1]},{"b":2}]`, `{"a":{"a":{"a":1}}}`, `{"a":[1,{"a":2}],"b":{"a":[3]}}`, `[[[1]]]`, `{"":{"a":1},"b":[0]}`, `[1,[2,{"a":[3]}],false]`} {
		values = append(values, val(text))
	}
	return values
}

func TestPathsAgainstModelShort(t *testing.T) {
	paths := samplesOf(shortPaths([]cells{str("a"), str("b"), num(0), num(1), num(-1), num(-2)}, 3))
	puts := samplesOf([]cells{num(9), arr(num(5))})
	for _, v := range samplesOf(pathValues()) {
		for _, p := range paths {
			checkPath(t, v, p, puts)
		}
	}
}

// Any short list of cells as a path: most have a fault, or are none.
func TestPathFaultAgainstModel(t *testing.T) {
	alphabet := append(smallAlphabet(), impl.Cell{Kind: impl.KindString, Text: "a"}, impl.Cell{Kind: impl.KindTrue}, impl.Cell{Kind: impl.KindString, Text: "\n"}, impl.Cell{Kind: impl.KindArray, N: 4})
	for _, p := range shortLists(alphabet, 4) {
		s := sampleOf(p)
		if got, want := impl.PathFault(p), modelPathFault(s); got != want {
			t.Fatalf("%v: %d, want %d", p, got, want)
		}
		if got, want := impl.PathText(p), modelPathText(s); got != want {
			t.Fatalf("%v: %v, want %v", p, got, want)
		}
		if len(p) < 4 {
			checkPath(t, sampleOf(val(`[[1],{"a":2}]`)), s, []sample{sampleOf(num(9))})
		}
	}
}

// Values at the bounds, with steps at and beyond them.
func TestPathsAgainstModelBounds(t *testing.T) {
	steps := []cells{str("a"), str("k"), str(""), str("zz"), num(0), num(-1), num(198), num(199), num(200), num(-199), num(-200), num(impl.MaxNumber), num(-impl.MaxNumber)}
	paths := samplesOf(shortPaths(steps, 1))
	for _, step := range []int{97, 98, 99, 100, 101, 102, 150, 195, 196, 197, 201} {
		paths = append(paths, sampleOf(pathOf(step)), sampleOf(pathOf(-step)), sampleOf(pathOf("a", step)), sampleOf(pathOf(0, step)), sampleOf(pathOf(step, "a")), sampleOf(pathOf(1, step, 0)))
	}
	for _, depth := range []int{2, 3, 17, 18, 19, 20, 21, 198, 199, 200} {
		paths = append(paths, sampleOf(stepped(depth, 0)), sampleOf(stepped(depth, -1)), sampleOf(stepped(depth, "a")), sampleOf(stepped(depth, 1)))
	}
	puts := samplesOf([]cells{null(), nested(2), nested(20), arr(repeat(98, no())...), arr(repeat(199, null())...)})
	for _, v := range samplesOf(opPool()) {
		for i, p := range paths {
			checkPath(t, v, p, puts[i%len(puts):][:1])
		}
	}
}

// A key that is one of the numbers' digits is a key, and a number is none.
func TestPathStepsAreNotMixed(t *testing.T) {
	for n := range 12 {
		key := strconv.Itoa(n)
		v := obj(member(key, num(5)))
		checkTold(t, key, impl.GetPath(v, pathOf(key)), "5")
		checkTold(t, key, impl.GetPath(v, pathOf(n)), errKind)
		checkTold(t, key, impl.SetPath(v, pathOf(n), num(6)), errKind)
		checkTold(t, key, impl.DropPath(v, pathOf(n)), errKind)
		checkTold(t, key, impl.SetPath(null(), pathOf(key), num(6)), `{"`+key+`":6}`)
		checkTold(t, key, impl.SetPath(null(), pathOf(n), num(6)), "["+strings.Repeat("null,", n)+"6]")
	}
}
