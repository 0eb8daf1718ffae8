package tests

import (
	"cmp"
	"fmt"
	"math"
	"reflect"
	"slices"
	"strconv"
	"strings"
	"testing"

	"loop.example/g00166/impl"
)

func TestOpConstants(t *testing.T) {
	got := []int64{impl.OpAdd, impl.OpSub, impl.OpMul, impl.OpEq, impl.OpNe, impl.OpLt, impl.OpLe, impl.OpGt, impl.OpGe, impl.OpDiv, impl.OpMod}
	if !slices.Equal(got, []int64{1, 2, 3, 4, 5, 6, 7, 8, 9, 10, 11}) {
		t.Error(got)
	}
}

// val reads a value by the library.
func val(text string) cells {
	read := modelDecode(text)
	if read.Code != 0 {
		panic(text)
	}
	return read.Value
}

// told is an answer as a text: its value, or "!" and its code.
func told(r impl.ValueResult) string {
	if r.Code != 0 {
		return code(r.Code) + strings.Repeat(" and a value", min(1, len(r.Value)))
	}
	if modelFault(r.Value) != 0 {
		return "a value with a fault"
	}
	m, _ := readModel(r.Value)
	return m.json()
}

func code(n int64) string {
	return "!" + strconv.FormatInt(n, 10)
}

// short is what an error tells of something that may be long.
func short(what any) string {
	return fmt.Sprintf("%.300s", fmt.Sprint(what))
}

func checkTold(t *testing.T, what string, got impl.ValueResult, want string) {
	t.Helper()
	if told(got) != want {
		t.Errorf("%s: %s, want %s", short(what), short(told(got)), short(want))
	}
}

func checkAnswer(t *testing.T, got, want impl.ValueResult, what ...any) {
	t.Helper()
	if got.Code != want.Code || !slices.Equal(got.Value, want.Value) {
		t.Errorf("%s: %s, want %s", short(what), short(got), short(want))
	}
}

var (
	errForm  = code(impl.ErrForm)
	errMany  = code(impl.ErrMany)
	errRange = code(impl.ErrRange)
	errText  = code(impl.ErrText)
	errKind  = code(impl.ErrKind)
	errDeep  = code(impl.ErrDeep)
)

var farNumbers = []int64{math.MinInt64, math.MinInt64 + 1, -math.MaxInt32, -1001, -201, -200, -199, -5, -4, -3, -2, -1, 0, 1, 2, 3, 4, 198, 199, 200, 201, 1001, math.MaxInt32, math.MaxInt64 - 1, math.MaxInt64}

// badKeys are no texts of a value.
func badKeys() []string {
	return []string{strings.Repeat("k", 61), "\n", "\x1f", "\x7f", "a\x00", "é", "\xff", strings.Repeat("k", 100000)}
}

func opKeys() []string {
	return append(badKeys(), "", " ", "a", "aa", "b", "c", "k", "z", "~", "0", "A", `"`, `\`, strings.Repeat("k", 60))
}

// objectOf has n members, rising from the first key on.
func objectOf(first, n int) cells {
	var members []cells
	for i := range n {
		members = append(members, member("k"+strconv.Itoa(1000+first+i), num(int64(i))))
	}
	return obj(members...)
}

func numbersUpTo(n int) cells {
	var list []cells
	for i := range n {
		list = append(list, num(int64(i)))
	}
	return arr(list...)
}

// opPool has values of every kind, those at the bounds, and those that are at
// or beyond a bound once they are added.
func opPool() []cells {
	x := strings.Repeat("x", 60)
	return slices.Concat(sound(), []cells{
		num(2), num(3), num(-3), num(7), num(-7), num(31622776), num(31622777), num(-31622777), num(impl.MaxNumber / 2), num(impl.MaxNumber/2 + 1),
		num(-impl.MaxNumber / 2), num(1 - impl.MaxNumber), num(impl.MaxNumber - 1),
		str(x[:30]), str(x[:31]), str(x[:29]), str(`"\`),
		numbersUpTo(99), numbersUpTo(100), numbersUpTo(101), arr(repeat(99, str("a"))...), arr(repeat(100, arr())...),
		objectOf(0, 99), objectOf(99, 100), objectOf(99, 101), objectOf(50, 149), objectOf(0, 199),
		obj(member("a", nested(18)), member("k", nested(19))), obj(member("k", arr(repeat(197, null())...))),
		val(`[3,1,2,3,1]`), val(`[[1,2],{"a":1},null,[1,2],true,{"a":1}]`), val(`[null,null,1,null,2]`), val(`["a","b",null,"c"]`), val(`[{"a":1},{"b":2},{"a":3}]`),
		val(`[[1],[2,3],[],[[4]]]`), val(`[1,"a"]`), val(`[true]`), val(`[null,true]`), val(`[true,null]`), val(`[false,false]`), val(`{"a":1,"b":10,"c":100}`), val(`{"a":[1],"b":null,"c":[2]}`),
		arr(num(impl.MaxNumber), num(1), num(-1)), arr(num(1), num(-1), num(impl.MaxNumber)), arr(num(-impl.MaxNumber), num(-1)),
		arr(str(x[:30]), str(x[:30])), arr(str(x), null(), str("x")), arr(str(x), num(1), str("x")), arr(str(x), str("x"), num(1)),
		arr(repeat(2, arr(repeat(98, no())...))...), arr(nested(19), nested(18)), obj(member("a", objectOf(0, 98)), member("b", objectOf(98, 99))),
	})
}

// faults are lists of cells with a fault of every kind.
func faults() []cells {
	var list []cells
	for _, c := range faulty() {
		list = append(list, c.v)
	}
	return list
}

func TestGetKey(t *testing.T) {
	cases := []struct{ v, key, want string }{
		{`{"a":[1,2],"b":null}`, "a", `[1,2]`}, {`{"a":[1,2],"b":null}`, "b", `null`}, {`{"a":[1,2],"b":null}`, "c", `null`}, {`{"a":[1,2],"b":null}`, "", `null`},
		{`{"":7}`, "", `7`}, {`{}`, "", `null`}, {`{}`, "a", `null`}, {`null`, "a", `null`}, {`null`, "", `null`},
		{`{"a":{"b":{"c":1}},"b":2,"c":3}`, "a", `{"b":{"c":1}}`}, {`{"a":{"b":{"c":1}},"b":2,"c":3}`, "b", `2`}, {`{"a":{"b":1}}`, "b", `null`}, {`{"a":[{"b":1}],"ab":5}`, "ab", `5`}, {`{"ab":5}`, "a", `null`}, {`{"A":5}`, "a", `null`},
		{`true`, "a", errKind}, {`false`, "a", errKind}, {`0`, "a", errKind}, {`"a"`, "a", errKind}, {`[]`, "a", errKind}, {`[{"a":1}]`, "a", errKind}, {`[1]`, "0", errKind},
		{`null`, "\n", errText}, {`{}`, "é", errText}, {`1`, "\x7f", errText}, {`[]`, strings.Repeat("k", 61), errText}, {`true`, "\x00", errText},
	}
	for _, c := range cases {
		checkTold(t, "GetKey "+c.v+" "+c.key, impl.GetKey(val(c.v), c.key), c.want)
	}
}

func TestGetIndex(t *testing.T) {
	cases := []struct {
		v    string
		n    int64
		want string
	}{
		{`[5,[6,7],{"a":8}]`, 0, `5`}, {`[5,[6,7],{"a":8}]`, 1, `[6,7]`}, {`[5,[6,7],{"a":8}]`, 2, `{"a":8}`}, {`[5,[6,7],{"a":8}]`, 3, `null`}, {`[5,[6,7],{"a":8}]`, 4, `null`},
		{`[5,[6,7],{"a":8}]`, -1, `{"a":8}`}, {`[5,[6,7],{"a":8}]`, -2, `[6,7]`}, {`[5,[6,7],{"a":8}]`, -3, `5`}, {`[5,[6,7],{"a":8}]`, -4, `null`},
		{`[5]`, math.MaxInt64, `null`}, {`[5]`, math.MinInt64, `null`}, {`[5]`, math.MinInt64 + 1, `null`}, {`[]`, 0, `null`}, {`[]`, -1, `null`}, {`[null]`, 0, `null`}, {`[false]`, -1, `false`},
		{`null`, 0, `null`}, {`null`, math.MinInt64, `null`}, {`null`, math.MaxInt64, `null`},
		{`{}`, 0, errKind}, {`{"0":1}`, 0, errKind}, {`"abc"`, 1, errKind}, {`7`, 0, errKind}, {`true`, -1, errKind}, {`false`, 0, errKind}, {`{}`, math.MinInt64, errKind},
	}
	for _, c := range cases {
		checkTold(t, "GetIndex "+c.v+" "+strconv.FormatInt(c.n, 10), impl.GetIndex(val(c.v), c.n), c.want)
	}
}

func TestGetAt(t *testing.T) {
	cases := []struct{ v, at, want string }{
		{`{"a":1}`, `"a"`, `1`}, {`{"a":1}`, `"b"`, `null`}, {`[4,5]`, `1`, `5`}, {`[4,5]`, `-1`, `5`}, {`[4,5]`, `2`, `null`}, {`null`, `1`, `null`}, {`null`, `""`, `null`},
		{`[4,5]`, `1000000000000000`, `null`}, {`[4,5]`, `-1000000000000000`, `null`},
		{`[4,5]`, `"a"`, errKind}, {`{"a":1}`, `0`, errKind}, {`7`, `0`, errKind}, {`"s"`, `0`, errKind}, {`true`, `"a"`, errKind},
		{`[4,5]`, `null`, errKind}, {`null`, `null`, errKind}, {`null`, `true`, errKind}, {`{"a":1}`, `["a"]`, errKind}, {`[[1]]`, `[0]`, errKind}, {`{}`, `{}`, errKind}, {`[1]`, `false`, errKind},
	}
	for _, c := range cases {
		checkTold(t, "GetAt "+c.v+" "+c.at, impl.GetAt(val(c.v), val(c.at)), c.want)
	}
}

func TestEachOf(t *testing.T) {
	cases := []struct {
		v    string
		want []string
	}{
		{`[]`, nil}, {`{}`, nil}, {`[1,[2,3],{"a":4},null]`, []string{`1`, `[2,3]`, `{"a":4}`, `null`}},
		{`{"b":1,"a":[2],"c":{"a":0}}`, []string{`[2]`, `1`, `{"a":0}`}}, {`[[]]`, []string{`[]`}},
	}
	for _, c := range cases {
		got := impl.EachOf(val(c.v))
		var parts []string
		for _, part := range got.Parts {
			parts = append(parts, told(impl.ValueResult{Value: part}))
		}
		if got.Code != impl.OK || !slices.Equal(parts, c.want) {
			t.Errorf("%s: %v, want %v", c.v, got, c.want)
		}
	}
	for _, v := range []string{`null`, `false`, `true`, `0`, `"ab"`} {
		if got := impl.EachOf(val(v)); got.Code != impl.ErrKind || got.Parts != nil {
			t.Errorf("%s: %v", v, got)
		}
	}
}

type binaryCase struct {
	op   int64
	a, b string
	want string
}

func sumCases() []binaryCase {
	x60, x30, x31 := strings.Repeat("x", 60), strings.Repeat("x", 30), strings.Repeat("x", 31)
	return []binaryCase{
		{impl.OpAdd, `1`, `2`, `3`}, {impl.OpAdd, `-5`, `2`, `-3`}, {impl.OpAdd, `0`, `0`, `0`},
		{impl.OpAdd, `1000000000000000`, `0`, `1000000000000000`}, {impl.OpAdd, `999999999999999`, `1`, `1000000000000000`}, {impl.OpAdd, `1000000000000000`, `-1000000000000000`, `0`},
		{impl.OpAdd, `1000000000000000`, `1`, errRange}, {impl.OpAdd, `-1000000000000000`, `-1`, errRange}, {impl.OpAdd, `1000000000000000`, `1000000000000000`, errRange}, {impl.OpAdd, `-1000000000000000`, `-1000000000000000`, errRange},
		{impl.OpAdd, `"ab"`, `"cd"`, `"abcd"`}, {impl.OpAdd, `""`, `""`, `""`}, {impl.OpAdd, `"` + x30 + `"`, `"` + x30 + `"`, `"` + x60 + `"`}, {impl.OpAdd, `"` + x60 + `"`, `""`, `"` + x60 + `"`},
		{impl.OpAdd, `"` + x30 + `"`, `"` + x31 + `"`, errText}, {impl.OpAdd, `"` + x60 + `"`, `"` + x60 + `"`, errText}, {impl.OpAdd, `""`, `null`, `""`},
		{impl.OpAdd, `[1,2]`, `[2,[3]]`, `[1,2,2,[3]]`}, {impl.OpAdd, `[]`, `[]`, `[]`}, {impl.OpAdd, `[1]`, `[]`, `[1]`}, {impl.OpAdd, `[]`, `[1]`, `[1]`}, {impl.OpAdd, `[null]`, `[null]`, `[null,null]`},
		{impl.OpAdd, `{"a":1,"c":3}`, `{"b":2}`, `{"a":1,"b":2,"c":3}`}, {impl.OpAdd, `{"a":1,"b":2}`, `{"a":[3,4]}`, `{"a":[3,4],"b":2}`}, {impl.OpAdd, `{"a":{"x":1}}`, `{"a":{"y":2}}`, `{"a":{"y":2}}`},
		{impl.OpAdd, `{"a":1}`, `{"a":null}`, `{"a":null}`}, {impl.OpAdd, `{}`, `{}`, `{}`}, {impl.OpAdd, `{"a":[1,2,3],"b":0}`, `{}`, `{"a":[1,2,3],"b":0}`}, {impl.OpAdd, `{}`, `{"":1}`, `{"":1}`}, {impl.OpAdd, `{"":1}`, `{"":2}`, `{"":2}`},
		{impl.OpAdd, `true`, `true`, errKind}, {impl.OpAdd, `true`, `false`, errKind}, {impl.OpAdd, `false`, `false`, errKind}, {impl.OpAdd, `1`, `"1"`, errKind}, {impl.OpAdd, `[]`, `{}`, errKind}, {impl.OpAdd, `{}`, `[]`, errKind}, {impl.OpAdd, `[1]`, `1`, errKind}, {impl.OpAdd, `1`, `[1]`, errKind}, {impl.OpAdd, `false`, `0`, errKind}, {impl.OpAdd, `"a"`, `["a"]`, errKind},
		{impl.OpSub, `1`, `2`, `-1`}, {impl.OpSub, `-1000000000000000`, `-1000000000000000`, `0`}, {impl.OpSub, `0`, `1000000000000000`, `-1000000000000000`},
		{impl.OpSub, `-1000000000000000`, `1`, errRange}, {impl.OpSub, `1000000000000000`, `-1`, errRange}, {impl.OpSub, `1000000000000000`, `-1000000000000000`, errRange}, {impl.OpSub, `-1000000000000000`, `1000000000000000`, errRange},
		{impl.OpSub, `[1,2,1,3]`, `[1]`, `[2,3]`}, {impl.OpSub, `[1,2]`, `[]`, `[1,2]`}, {impl.OpSub, `[]`, `[1]`, `[]`}, {impl.OpSub, `[1,1]`, `[1]`, `[]`}, {impl.OpSub, `[1,[1],{"a":1},"1"]`, `[[1],{"a":1}]`, `[1,"1"]`}, {impl.OpSub, `[{"a":1}]`, `[{"a":2},{"b":1}]`, `[{"a":1}]`}, {impl.OpSub, `[[1,2],[2,1]]`, `[[2,1],5]`, `[[1,2]]`}, {impl.OpSub, `[null,false]`, `[false]`, `[null]`}, {impl.OpSub, `[3,2,1]`, `[2,2,9]`, `[3,1]`},
		{impl.OpSub, `{"a":1}`, `{"a":1}`, errKind}, {impl.OpSub, `{}`, `{}`, errKind}, {impl.OpSub, `"a"`, `"a"`, errKind}, {impl.OpSub, `null`, `null`, errKind}, {impl.OpSub, `null`, `1`, errKind}, {impl.OpSub, `1`, `null`, errKind}, {impl.OpSub, `[1]`, `1`, errKind}, {impl.OpSub, `[1]`, `null`, errKind}, {impl.OpSub, `[1]`, `{}`, errKind}, {impl.OpSub, `true`, `true`, errKind},
	}
}

func productCases() []binaryCase {
	return []binaryCase{
		{impl.OpMul, `6`, `7`, `42`}, {impl.OpMul, `-6`, `7`, `-42`}, {impl.OpMul, `-6`, `-7`, `42`}, {impl.OpMul, `0`, `1000000000000000`, `0`}, {impl.OpMul, `1000000000000000`, `0`, `0`}, {impl.OpMul, `-1000000000000000`, `0`, `0`}, {impl.OpMul, `0`, `-7`, `0`},
		{impl.OpMul, `1000000000000000`, `1`, `1000000000000000`}, {impl.OpMul, `1000000000000000`, `-1`, `-1000000000000000`}, {impl.OpMul, `-1000000000000000`, `-1`, `1000000000000000`}, {impl.OpMul, `1`, `-1000000000000000`, `-1000000000000000`},
		{impl.OpMul, `500000000000000`, `2`, `1000000000000000`}, {impl.OpMul, `500000000000001`, `2`, errRange}, {impl.OpMul, `2`, `-500000000000001`, errRange}, {impl.OpMul, `-500000000000001`, `-2`, errRange}, {impl.OpMul, `333333333333333`, `3`, `999999999999999`}, {impl.OpMul, `333333333333334`, `3`, errRange},
		{impl.OpMul, `31622776`, `31622776`, `999999961946176`}, {impl.OpMul, `31622777`, `31622777`, errRange}, {impl.OpMul, `-31622777`, `31622777`, errRange}, {impl.OpMul, `1000000000000000`, `1000000000000000`, errRange}, {impl.OpMul, `-1000000000000000`, `1000000000000000`, errRange}, {impl.OpMul, `-1000000000000000`, `-1000000000000000`, errRange},
		// These wrap round to a small number: 2 to the 32nd twice, and half of it.
		{impl.OpMul, `4294967296`, `4294967296`, errRange}, {impl.OpMul, `4294967296`, `2147483648`, errRange}, {impl.OpMul, `-4294967296`, `4294967296`, errRange}, {impl.OpMul, `562949953421312`, `65536`, errRange}, {impl.OpMul, `6700417`, `549755813888`, errRange},
		{impl.OpMul, `null`, `1`, errKind}, {impl.OpMul, `1`, `null`, errKind}, {impl.OpMul, `null`, `null`, errKind}, {impl.OpMul, `"a"`, `2`, errKind}, {impl.OpMul, `2`, `"a"`, errKind}, {impl.OpMul, `[1]`, `[1]`, errKind}, {impl.OpMul, `{}`, `{}`, errKind}, {impl.OpMul, `true`, `1`, errKind}, {impl.OpMul, `1000000000000000`, `"a"`, errKind},
		{impl.OpDiv, `7`, `2`, `3`}, {impl.OpDiv, `-7`, `2`, `-3`}, {impl.OpDiv, `7`, `-2`, `-3`}, {impl.OpDiv, `-7`, `-2`, `3`}, {impl.OpDiv, `1`, `2`, `0`}, {impl.OpDiv, `-1`, `2`, `0`}, {impl.OpDiv, `0`, `-5`, `0`}, {impl.OpDiv, `6`, `3`, `2`},
		{impl.OpDiv, `-1000000000000000`, `-1`, `1000000000000000`}, {impl.OpDiv, `1000000000000000`, `-1000000000000000`, `-1`}, {impl.OpDiv, `999999999999999`, `1000000000000000`, `0`},
		{impl.OpDiv, `1`, `0`, errRange}, {impl.OpDiv, `0`, `0`, errRange}, {impl.OpDiv, `-1000000000000000`, `0`, errRange}, {impl.OpDiv, `null`, `0`, errKind}, {impl.OpDiv, `"a"`, `0`, errKind}, {impl.OpDiv, `1`, `null`, errKind}, {impl.OpDiv, `[1]`, `[1]`, errKind}, {impl.OpDiv, `{}`, `0`, errKind}, {impl.OpDiv, `null`, `null`, errKind}, {impl.OpDiv, `"a"`, `"a"`, errKind},
		{impl.OpMod, `7`, `2`, `1`}, {impl.OpMod, `-7`, `2`, `-1`}, {impl.OpMod, `7`, `-2`, `1`}, {impl.OpMod, `-7`, `-2`, `-1`}, {impl.OpMod, `-6`, `3`, `0`}, {impl.OpMod, `6`, `-3`, `0`}, {impl.OpMod, `0`, `-5`, `0`}, {impl.OpMod, `-1`, `1000000000000000`, `-1`}, {impl.OpMod, `-1000000000000000`, `-1`, `0`},
		{impl.OpMod, `1`, `0`, errRange}, {impl.OpMod, `0`, `0`, errRange}, {impl.OpMod, `true`, `0`, errKind}, {impl.OpMod, `1`, `true`, errKind}, {impl.OpMod, `[]`, `1`, errKind}, {impl.OpMod, `null`, `1`, errKind},
	}
}

func TestBinary(t *testing.T) {
	for _, c := range slices.Concat(sumCases(), productCases()) {
		checkTold(t, "Binary "+strconv.FormatInt(c.op, 10)+" "+c.a+" "+c.b, impl.Binary(c.op, val(c.a), val(c.b)), c.want)
	}
}

// null beside a value of every kind, on either side.
func TestAddNull(t *testing.T) {
	for _, v := range opPool() {
		checkAnswer(t, impl.Binary(impl.OpAdd, null(), v), impl.ValueResult{Value: v}, "null ahead of", v)
		checkAnswer(t, impl.Binary(impl.OpAdd, v, null()), impl.ValueResult{Value: v}, "null behind", v)
	}
}

// Of a list each of whose values is above the one ahead of it.
func TestBinaryCompares(t *testing.T) {
	list := rising()
	for i, a := range list {
		for j, b := range list {
			order := cmp.Compare(i, j)
			holds := map[int64]bool{impl.OpEq: order == 0, impl.OpNe: order != 0, impl.OpLt: order < 0, impl.OpLe: order <= 0, impl.OpGt: order > 0, impl.OpGe: order >= 0}
			for op, want := range holds {
				checkAnswer(t, impl.Binary(op, a, b), madeBool(want), op, a, b)
			}
		}
	}
}

// What is made has too many cells, is too deep, or has a number or a string
// too big; and what just fits.
func TestMadeAtTheBounds(t *testing.T) {
	many := func(n int) cells { return arr(repeat(n, null())...) }
	x := strings.Repeat("x", 60)
	cases := []struct {
		what string
		got  impl.ValueResult
		code int64
	}{
		{"arrays that fit", impl.Binary(impl.OpAdd, many(99), many(100)), impl.OK},
		{"arrays too many", impl.Binary(impl.OpAdd, many(100), many(100)), impl.ErrMany},
		{"arrays far too many", impl.Binary(impl.OpAdd, many(199), many(199)), impl.ErrMany},
		{"an array and an empty one", impl.Binary(impl.OpAdd, many(199), arr()), impl.OK},
		{"objects that fit", impl.Binary(impl.OpAdd, objectOf(0, 99), objectOf(99, 100)), impl.OK},
		{"objects too many", impl.Binary(impl.OpAdd, objectOf(0, 99), objectOf(99, 101)), impl.ErrMany},
		{"objects of the same keys", impl.Binary(impl.OpAdd, objectOf(0, 199), objectOf(0, 199)), impl.OK},
		{"objects far too many", impl.Binary(impl.OpAdd, objectOf(0, 199), objectOf(199, 199)), impl.ErrMany},
		{"deep arrays", impl.Binary(impl.OpAdd, nested(20), nested(20)), impl.OK},
		{"deep objects", impl.Binary(impl.OpAdd, obj(member("a", nested(19))), obj(member("b", nested(19)))), impl.OK},
		{"strings that fit", impl.Binary(impl.OpAdd, str(x[:59]), str("x")), impl.OK},
		{"strings too long", impl.Binary(impl.OpAdd, str(x), str("x")), impl.ErrText},
		{"a sum too great", impl.Binary(impl.OpAdd, num(impl.MaxNumber), num(1)), impl.ErrRange},
		{"a difference too low", impl.Binary(impl.OpSub, num(-impl.MaxNumber), num(1)), impl.ErrRange},
		{"arrays of many less nothing", impl.Binary(impl.OpSub, many(199), arr()), impl.OK},
		{"a member too deep", impl.SetKey(obj(), "a", nested(20)), impl.ErrDeep},
		{"a member too deep, of null", impl.SetKey(null(), "a", nested(20)), impl.ErrDeep},
		{"a member as deep as may be", impl.SetKey(null(), "a", nested(19)), impl.OK},
		{"a member in place of one too deep with it", impl.SetKey(obj(member("a", nested(19))), "a", null()), impl.OK},
		{"a member one too many", impl.SetKey(objectOf(0, 199), "a", null()), impl.ErrMany},
		{"a member in place of another", impl.SetKey(objectOf(0, 199), "k1000", null()), impl.OK},
		{"a greater one in place of another", impl.SetKey(objectOf(0, 199), "k1000", arr(null())), impl.ErrMany},
		{"a member of many cells", impl.SetKey(null(), "a", many(198)), impl.OK},
		{"a member of too many cells", impl.SetKey(null(), "a", many(199)), impl.ErrMany},
		{"too many ahead of too deep", impl.SetKey(objectOf(0, 199), "a", nested(20)), impl.ErrMany},
		{"the keys of an array", impl.KeysOf(many(199)), impl.OK},
		{"the keys of an object", impl.KeysOf(objectOf(0, 199)), impl.OK},
		{"the sum of arrays", impl.AddAll(arr(many(98), many(99))), impl.OK},
		{"a sum that is too great on the way", impl.AddAll(arr(num(impl.MaxNumber), num(1), num(-1))), impl.ErrRange},
		{"a string that is too long on the way", impl.AddAll(arr(str(x), str("x"), num(1))), impl.ErrText},
		{"a kind ahead of a string too long", impl.AddAll(arr(str(x), num(1), str("x"))), impl.ErrKind},
		{"a range that fits", impl.RangeOf(199), impl.OK},
		{"a range too long", impl.RangeOf(200), impl.ErrRange},
	}
	for _, c := range cases {
		if got := c.got; got.Code != c.code || c.code != impl.OK && got.Value != nil || c.code == impl.OK && modelFault(got.Value) != impl.OK {
			t.Errorf("%s: %v, want code %d", c.what, got, c.code)
		}
	}
}

func TestOneValueOps(t *testing.T) {
	cases := []struct{ v, length, keys, sorted, kind, sum string }{
		{`null`, `0`, errKind, errKind, `"null"`, errKind},
		{`false`, errKind, errKind, errKind, `"boolean"`, errKind},
		{`true`, errKind, errKind, errKind, `"boolean"`, errKind},
		{`0`, `0`, errKind, errKind, `"number"`, errKind},
		{`7`, `7`, errKind, errKind, `"number"`, errKind},
		{`-7`, `7`, errKind, errKind, `"number"`, errKind},
		{`-1000000000000000`, `1000000000000000`, errKind, errKind, `"number"`, errKind},
		{`""`, `0`, errKind, errKind, `"string"`, errKind},
		{`"a\"\\ b"`, `5`, errKind, errKind, `"string"`, errKind},
		{`[]`, `0`, `[]`, `[]`, `"array"`, `null`},
		{`[5]`, `1`, `[0]`, `[5]`, `"array"`, `5`},
		{`[[7,8],[6]]`, `2`, `[0,1]`, `[[6],[7,8]]`, `"array"`, `[7,8,6]`},
		{`[3,1,2,3]`, `4`, `[0,1,2,3]`, `[1,2,3,3]`, `"array"`, `9`},
		{`["b","a",null,"ab",""]`, `5`, `[0,1,2,3,4]`, `[null,"","a","ab","b"]`, `"array"`, `"baab"`},
		{`[{"a":2},{},[0],"x",1,true,false,null,[],{"a":1}]`, `10`, `[0,1,2,3,4,5,6,7,8,9]`, `[null,false,true,1,"x",[],[0],{},{"a":1},{"a":2}]`, `"array"`, errKind},
		{`[null]`, `1`, `[0]`, `[null]`, `"array"`, `null`},
		{`[true]`, `1`, `[0]`, `[true]`, `"array"`, `true`},
		{`[true,true]`, `2`, `[0,1]`, `[true,true]`, `"array"`, errKind},
		{`[null,true,null]`, `3`, `[0,1,2]`, `[null,null,true]`, `"array"`, `true`},
		{`{}`, `0`, `[]`, errKind, `"object"`, `null`},
		{`{"b":3,"a":[9],"":null}`, `3`, `["","a","b"]`, errKind, `"object"`, errKind},
		{`{"b":3,"a":-10,"c":null}`, `3`, `["a","b","c"]`, errKind, `"object"`, `-7`},
		{`{"x":{"a":1,"b":2},"y":{"a":3}}`, `2`, `["x","y"]`, errKind, `"object"`, `{"a":3,"b":2}`},
		{`{"z":"1","y":"2","x":"3"}`, `3`, `["x","y","z"]`, errKind, `"object"`, `"321"`},
	}
	for _, c := range cases {
		v := val(c.v)
		checkTold(t, "LengthOf "+c.v, impl.LengthOf(v), c.length)
		checkTold(t, "KeysOf "+c.v, impl.KeysOf(v), c.keys)
		checkTold(t, "SortOf "+c.v, impl.SortOf(v), c.sorted)
		checkTold(t, "TypeOf "+c.v, impl.TypeOf(v), c.kind)
		checkTold(t, "AddAll "+c.v, impl.AddAll(v), c.sum)
	}
}

func TestSetKeyAndDropKey(t *testing.T) {
	cases := []struct{ v, key, x, set, dropped string }{
		{`null`, "a", `1`, `{"a":1}`, `null`}, {`null`, "", `null`, `{"":null}`, `null`},
		{`{}`, "a", `[1,{"b":2}]`, `{"a":[1,{"b":2}]}`, `{}`},
		{`{"a":1,"c":3}`, "b", `2`, `{"a":1,"b":2,"c":3}`, `{"a":1,"c":3}`},
		{`{"a":[1,2,3],"c":3}`, "a", `{"x":0}`, `{"a":{"x":0},"c":3}`, `{"c":3}`},
		{`{"a":1,"b":{"a":5},"c":3}`, "b", `null`, `{"a":1,"b":null,"c":3}`, `{"a":1,"c":3}`},
		{`{"a":1,"b":{"a":5},"c":3}`, "a", `2`, `{"a":2,"b":{"a":5},"c":3}`, `{"b":{"a":5},"c":3}`},
		{`{"a":1,"c":3}`, "", `0`, `{"":0,"a":1,"c":3}`, `{"a":1,"c":3}`}, {`{"":1}`, "", `2`, `{"":2}`, `{}`},
		{`{"a":1}`, "z", `0`, `{"a":1,"z":0}`, `{"a":1}`}, {`{"a":1}`, "A", `0`, `{"A":0,"a":1}`, `{"a":1}`},
		{`[]`, "a", `1`, errKind, errKind}, {`[1]`, "0", `1`, errKind, errKind}, {`1`, "a", `1`, errKind, errKind}, {`"a"`, "a", `1`, errKind, errKind}, {`true`, "a", `1`, errKind, errKind}, {`false`, "a", `1`, errKind, errKind},
		{`null`, "\n", `1`, errText, errText}, {`{}`, strings.Repeat("k", 61), `1`, errText, errText}, {`[]`, "\x7f", `1`, errText, errText}, {`false`, "é", `1`, errText, errText},
		{`{}`, strings.Repeat("k", 60), `1`, `{"` + strings.Repeat("k", 60) + `":1}`, `{}`},
	}
	for _, c := range cases {
		checkTold(t, "SetKey "+c.v+" "+c.key+" "+c.x, impl.SetKey(val(c.v), c.key, val(c.x)), c.set)
		checkTold(t, "DropKey "+c.v+" "+c.key, impl.DropKey(val(c.v), c.key), c.dropped)
	}
}

func TestRangeOf(t *testing.T) {
	for _, n := range []int64{math.MinInt64, -1000, -1, 0} {
		checkTold(t, "RangeOf "+strconv.FormatInt(n, 10), impl.RangeOf(n), `[]`)
	}
	for n := range 200 {
		checkAnswer(t, impl.RangeOf(int64(n)), impl.ValueResult{Value: numbersUpTo(n)}, n)
	}
	for _, n := range []int64{200, 201, 1000000, impl.MaxNumber, impl.MaxNumber + 1, math.MaxInt64} {
		checkTold(t, "RangeOf "+strconv.FormatInt(n, 10), impl.RangeOf(n), errRange)
	}
	checkTold(t, "RangeOf 3", impl.RangeOf(3), `[0,1,2]`)
}

// Codes in their order: the faults of the values, then the op or the key, then
// the kind, then what is made.
func TestOpCodesInOrder(t *testing.T) {
	bad, worse := num(impl.MaxNumber+1), cells{{Kind: 7}}
	cases := []struct {
		what string
		got  impl.ValueResult
		want string
	}{
		{"GetKey", impl.GetKey(bad, "\n"), errRange}, {"GetKey of a kind", impl.GetKey(num(1), "\n"), errText},
		{"GetAt", impl.GetAt(bad, worse), errRange}, {"GetAt", impl.GetAt(worse, bad), errKind}, {"GetAt at", impl.GetAt(yes(), bad), errRange}, {"GetAt at deep", impl.GetAt(null(), nested(21)), errDeep}, {"GetAt without", impl.GetAt(num(1), nil), errMany},
		{"Binary", impl.Binary(0, bad, nested(21)), errRange}, {"Binary", impl.Binary(0, nested(21), bad), errDeep}, {"Binary b", impl.Binary(12, null(), bad), errRange}, {"Binary op", impl.Binary(0, yes(), num(1)), errForm}, {"Binary op", impl.Binary(12, null(), null()), errForm}, {"Binary op", impl.Binary(-1, num(1), num(0)), errForm},
		{"Binary op", impl.Binary(math.MinInt64, num(1), num(2)), errForm}, {"Binary op", impl.Binary(math.MaxInt64, num(1), num(2)), errForm},
		{"Binary null", impl.Binary(impl.OpAdd, null(), bad), errRange}, {"Binary null", impl.Binary(impl.OpAdd, bad, null()), errRange}, {"Binary compares", impl.Binary(impl.OpEq, bad, bad), errRange}, {"Binary divides", impl.Binary(impl.OpDiv, bad, num(0)), errRange}, {"Binary divides", impl.Binary(impl.OpMod, nil, num(0)), errMany},
		{"SetKey", impl.SetKey(bad, "\n", worse), errRange}, {"SetKey x", impl.SetKey(num(1), "\n", nested(21)), errDeep}, {"SetKey x", impl.SetKey(null(), "a", member("a", null())), errForm}, {"SetKey key", impl.SetKey(num(1), "\n", null()), errText}, {"SetKey key", impl.SetKey(objectOf(0, 199), "\n", nested(20)), errText}, {"SetKey kind", impl.SetKey(arr(), "a", nested(20)), errKind},
		{"DropKey", impl.DropKey(bad, "\n"), errRange}, {"DropKey key", impl.DropKey(null(), "\n"), errText}, {"DropKey kind", impl.DropKey(arr(), "a"), errKind},
		{"GetIndex", impl.GetIndex(bad, math.MinInt64), errRange}, {"LengthOf", impl.LengthOf(bad), errRange}, {"KeysOf", impl.KeysOf(nested(21)), errDeep}, {"SortOf", impl.SortOf(str("\n")), errText}, {"TypeOf", impl.TypeOf(nil), errMany}, {"AddAll", impl.AddAll(member("a", null())), errForm},
	}
	for _, c := range cases {
		checkTold(t, c.what, c.got, c.want)
	}
}

func TestBinaryAgainstModel(t *testing.T) {
	ops := []int64{math.MinInt64, -1, 0, 1, 2, 3, 4, 5, 6, 7, 8, 9, 10, 11, 12, 13, math.MaxInt64}
	good, bad := samplesOf(opPool()), samplesOf(faults())
	for _, op := range ops {
		for _, a := range good {
			for _, b := range good {
				checkAnswer(t, impl.Binary(op, a.v, b.v), modelBinary(op, a, b), op, a.v, b.v)
			}
		}
		for i, a := range bad {
			for _, b := range []sample{good[i%len(good)], good[0], bad[(i*7+3)%len(bad)], a} {
				checkAnswer(t, impl.Binary(op, a.v, b.v), modelBinary(op, a, b), op, a.v, b.v)
				checkAnswer(t, impl.Binary(op, b.v, a.v), modelBinary(op, b, a), op, b.v, a.v)
			}
		}
	}
}

func TestNumbersAgainstModel(t *testing.T) {
	var list []cells
	for n := int64(-12); n <= 12; n++ {
		list = append(list, num(n))
	}
	for n := int64(1); n <= impl.MaxNumber; n *= 10 {
		for near := int64(-1); near <= 1; near++ {
			for _, m := range []int64{n + near, n/2 + near, n/3 + near, n/7*6 + near} {
				list = append(list, num(m), num(-m))
			}
		}
	}
	for n := int64(1); n <= impl.MaxNumber; n *= 2 {
		list = append(list, num(n), num(-n), num(n-1))
	}
	samples := samplesOf(list)
	for _, op := range []int64{impl.OpAdd, impl.OpSub, impl.OpMul, impl.OpDiv, impl.OpMod, impl.OpLt, impl.OpEq} {
		for _, a := range samples {
			for _, b := range samples {
				checkAnswer(t, impl.Binary(op, a.v, b.v), modelBinary(op, a, b), op, a.v, b.v)
			}
		}
	}
}

func checkOneValue(t *testing.T, s sample) {
	t.Helper()
	checkAnswer(t, impl.LengthOf(s.v), modelLength(s), "LengthOf", s.v)
	checkAnswer(t, impl.KeysOf(s.v), modelKeys(s), "KeysOf", s.v)
	checkAnswer(t, impl.SortOf(s.v), modelSort(s), "SortOf", s.v)
	checkAnswer(t, impl.TypeOf(s.v), modelType(s), "TypeOf", s.v)
	checkAnswer(t, impl.AddAll(s.v), modelAddAll(s), "AddAll", s.v)
	each, want := impl.EachOf(s.v), modelEach(s)
	if each.Code != want.Code || !slices.EqualFunc(each.Parts, want.Parts, slices.Equal[cells]) {
		t.Errorf("EachOf %v: %v, want %v", s.v, each, want)
	}
	for _, n := range farNumbers {
		checkAnswer(t, impl.GetIndex(s.v, n), modelGetIndex(s, n), "GetIndex", s.v, n)
	}
}

func TestOpsAgainstModel(t *testing.T) {
	samples := samplesOf(slices.Concat(opPool(), faults()))
	for i, s := range samples {
		checkOneValue(t, s)
		for k, key := range opKeys() {
			checkAnswer(t, impl.GetKey(s.v, key), modelGetKey(s, key), "GetKey", s.v, key)
			checkAnswer(t, impl.DropKey(s.v, key), modelDropKey(s, key), "DropKey", s.v, key)
			for _, x := range []sample{samples[(i+k)%len(samples)], samples[(i*3+k*11)%len(samples)], samples[k]} {
				checkAnswer(t, impl.SetKey(s.v, key, x.v), modelSetKey(s, key, x), "SetKey", s.v, key, x.v)
			}
		}
		for _, at := range samples {
			checkAnswer(t, impl.GetAt(s.v, at.v), modelGetAt(s, at), "GetAt", s.v, at.v)
		}
	}
}

func TestOpsOfShortListsAgainstModel(t *testing.T) {
	for _, v := range shortLists(smallAlphabet(), 4) {
		s := sampleOf(v)
		if len(v) < 4 || s.fault == 0 {
			checkOneValue(t, s)
			for _, key := range []string{"a", "b", "", "\n"} {
				checkAnswer(t, impl.GetKey(v, key), modelGetKey(s, key), "GetKey", v, key)
				checkAnswer(t, impl.DropKey(v, key), modelDropKey(s, key), "DropKey", v, key)
				checkAnswer(t, impl.SetKey(v, key, arr(num(1))), modelSetKey(s, key, sampleOf(arr(num(1)))), "SetKey", v, key)
			}
		}
	}
}

// callAllOps is what all functions of the chapter answer to these arguments.
func callAllOps(a, b cells, key string, n int64) []any {
	return []any{
		impl.GetKey(a, key), impl.GetIndex(a, n), impl.GetAt(a, b), impl.EachOf(a),
		impl.Binary(n, a, b), impl.Binary(impl.OpAdd, a, b), impl.Binary(impl.OpSub, a, b), impl.Binary(impl.OpAdd, a, a), impl.Binary(impl.OpAdd, null(), a), impl.Binary(impl.OpAdd, a, null()), impl.Binary(impl.OpGe, a, b),
		impl.LengthOf(a), impl.KeysOf(a), impl.SortOf(a), impl.TypeOf(a), impl.AddAll(a), impl.AddAll(arr(a)),
		impl.SetKey(a, key, b), impl.SetKey(a, key, a), impl.SetKey(null(), key, a), impl.DropKey(a, key), impl.RangeOf(n),
	}
}

// P1 of this chapter.
func TestOpsArgumentsStayAndAnswersAreNew(t *testing.T) {
	pool := slices.Concat(opPool(), faults())
	keys := opKeys()
	for i, v := range pool {
		a := append(slices.Clone(v), impl.Cell{Kind: 42})
		for _, other := range []cells{pool[(i+1)%len(pool)], pool[(i+7)%len(pool)], pool[(i*5+2)%len(pool)], v} {
			b := append(slices.Clone(other), impl.Cell{Kind: 43})
			beforeA, beforeB := slices.Clone(a), slices.Clone(b)
			for j, n := range farNumbers {
				key := keys[(i+j)%len(keys)]
				first := callAllOps(a[:len(v)], b[:len(other)], key, n)
				kept := callAllOps(a[:len(v)], b[:len(other)], key, n)
				checkApart(t, first, a, b)
				scribble(first)
				again := callAllOps(a[:len(v)], b[:len(other)], key, n)
				if !reflect.DeepEqual(kept, again) {
					t.Errorf("value %d, key %.40q, n %d: %v, then %v", i, key, n, kept, again)
				}
			}
			if !slices.Equal(a, beforeA) || !slices.Equal(b, beforeB) {
				t.Errorf("value %d: an argument was changed", i)
			}
		}
	}
}

// P1: beside a code there is nothing, and what is told has no fault.
func TestOpsTellValuesOrCodes(t *testing.T) {
	pool, keys := slices.Concat(opPool(), faults()), opKeys()
	for i, a := range pool {
		for j, b := range pool {
			for _, answer := range callAllOps(a, b, keys[(i+j)%len(keys)], farNumbers[(i*3+j)%len(farNumbers)]) {
				switch r := answer.(type) {
				case impl.ValueResult:
					if r.Code != 0 && r.Value != nil || r.Code == 0 && impl.ValueFault(r.Value) != 0 {
						t.Fatalf("%v and %v: %v", a, b, r)
					}
				case impl.PartsResult:
					if r.Code != 0 && r.Parts != nil || slices.ContainsFunc(r.Parts, func(v cells) bool { return impl.ValueFault(v) != 0 }) {
						t.Fatalf("%v: %v", a, r)
					}
				}
			}
		}
	}
}

func TestOpsOfEmptyAndNil(t *testing.T) {
	for _, key := range []string{"a", "\n"} {
		for _, n := range []int64{0, 1, 12} {
			for _, v := range []cells{null(), arr(), nil} {
				if x, y := callAllOps(nil, v, key, n), callAllOps(cells{}, v, key, n); !reflect.DeepEqual(x, y) {
					t.Error(x, y)
				}
				if x, y := callAllOps(v, nil, key, n), callAllOps(v, cells{}, key, n); !reflect.DeepEqual(x, y) {
					t.Error(x, y)
				}
			}
		}
	}
}
