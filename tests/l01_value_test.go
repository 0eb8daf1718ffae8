package tests

import (
	"maps"
	"math"
	"reflect"
	"slices"
	"strings"
	"testing"

	"loop.example/g00166/impl"
)

func TestConstants(t *testing.T) {
	got := []int64{impl.OK, impl.ErrForm, impl.ErrMany, impl.ErrRange, impl.ErrNone, impl.ErrText,
		impl.ErrKind, impl.ErrDeep, impl.ErrFuel, impl.ErrCode, impl.ErrFull}
	if !slices.Equal(got, []int64{0, 1, 2, 3, 4, 5, 6, 7, 8, 9, 10}) {
		t.Error("codes", got)
	}
	kinds := []int64{impl.KindNull, impl.KindFalse, impl.KindTrue, impl.KindNumber, impl.KindString,
		impl.KindArray, impl.KindObject}
	if !slices.Equal(kinds, []int64{0, 1, 2, 3, 4, 5, 6}) {
		t.Error("kinds", kinds)
	}
	if impl.MaxCells != 200 || impl.MaxDepth != 20 || impl.MaxNumber != 1000000000000000 || impl.MaxString != 60 {
		t.Error("bounds")
	}
}

func TestValueFaultNone(t *testing.T) {
	for i, v := range sound() {
		if code := impl.ValueFault(v); code != impl.OK {
			t.Errorf("value %d, %v: code %d", i, v, code)
		}
	}
}

func TestValueFaultCodes(t *testing.T) {
	for i, c := range faulty() {
		if code := impl.ValueFault(c.v); code != c.code {
			t.Errorf("case %d, %v: code %d, want %d", i, c.v, code, c.code)
		}
	}
}

// Two faults at once: the one that the chapter names first is told, but a cell
// is asked all its codes ahead of the next cell.
func TestValueFaultFirstCode(t *testing.T) {
	long := strings.Repeat("x", 61)
	cases := []struct {
		v    cells
		code int64
	}{
		{slices.Concat(repeat(201, cells{{Kind: 9}})...), impl.ErrMany},
		{cells{{Kind: 7, Num: impl.MaxNumber + 1, Text: long, N: -1}}, impl.ErrKind},
		{cells{{Kind: impl.KindNull, Num: impl.MaxNumber + 1}}, impl.ErrForm},
		{cells{{Kind: impl.KindNull, Text: long}}, impl.ErrForm},
		{cells{{Kind: impl.KindNumber, N: 201}}, impl.ErrForm},
		{cells{{Kind: impl.KindNumber, Num: impl.MaxNumber + 1, Key: long}}, impl.ErrRange},
		{cells{{Kind: impl.KindArray, N: 201, Key: "\n"}}, impl.ErrRange},
		{cells{{Kind: impl.KindString, Text: long}, {Kind: 7}}, impl.ErrText},
		{cells{{Kind: impl.KindNumber, Num: impl.MaxNumber + 1}, {Kind: 7}}, impl.ErrRange},
		{cells{{Kind: impl.KindNull, N: 1}, {Kind: 7}}, impl.ErrForm},
		{cells{{Kind: 7}, {Kind: impl.KindString, Text: long}}, impl.ErrKind},
		{cells{{Key: "a"}, {Kind: 7}}, impl.ErrKind},
		{cells{{}, {Kind: impl.KindNumber, Num: impl.MaxNumber + 1}}, impl.ErrRange},
		{cells{{Kind: impl.KindArray, N: 3}, {Kind: impl.KindString, Text: long}}, impl.ErrText},
		{slices.Concat(nested(21), null()), impl.ErrForm},
		{arr(nested(30), member("a", null())), impl.ErrForm},
		{nested(30)[:29], impl.ErrForm},
	}
	for i, c := range cases {
		if code := impl.ValueFault(c.v); code != c.code {
			t.Errorf("case %d, %v: code %d, want %d", i, c.v, code, c.code)
		}
	}
}

func TestValueFaultOfEveryByte(t *testing.T) {
	for b := range 256 {
		want := int64(impl.ErrText)
		if b >= 32 && b <= 126 {
			want = impl.OK
		}
		s := "a" + string([]byte{byte(b)}) + "z"
		if got := impl.ValueFault(str(s)); got != want {
			t.Errorf("text with byte %d: code %d", b, got)
		}
		if got := impl.ValueFault(obj(member(s, null()))); got != want {
			t.Errorf("key with byte %d: code %d", b, got)
		}
		if got := impl.StringValue(s).Code; got != want {
			t.Errorf("StringValue with byte %d: code %d", b, got)
		}
		if got := impl.ObjectValue([]string{s}, []cells{null()}).Code; got != want {
			t.Errorf("ObjectValue with byte %d: code %d", b, got)
		}
	}
}

// smallAlphabet makes short lists that are values, and many that nearly are.
func smallAlphabet() cells {
	return cells{
		{}, {Kind: impl.KindNumber, Num: 1}, {Key: "a"}, {Key: "b"},
		{Kind: impl.KindArray}, {Kind: impl.KindArray, N: 1}, {Kind: impl.KindArray, N: 2, Key: "a"},
		{Kind: impl.KindObject, N: 1}, {Kind: impl.KindObject, N: 2}, {Kind: impl.KindObject, N: 2, Key: "b"},
		{Kind: impl.KindArray, N: 3},
	}
}

func TestShortListsAgainstModel(t *testing.T) {
	for _, v := range shortLists(smallAlphabet(), 4) {
		want := modelFault(v)
		if got := impl.ValueFault(v); got != want {
			t.Fatalf("%v: code %d, want %d", v, got, want)
		}
		checkLooksAgainstModel(t, v)
	}
	for _, v := range shortLists(cells{{}, {Key: "a"}, {Key: "b"}, {Kind: impl.KindObject, N: 2}, {Kind: impl.KindObject, N: 3}, {Kind: impl.KindArray, N: 2, Key: "a"}}, 6) {
		if got, want := impl.ValueFault(v), modelFault(v); got != want {
			t.Fatalf("%v: code %d, want %d", v, got, want)
		}
	}
}

func TestCellsAgainstModel(t *testing.T) {
	numbers := []int64{math.MinInt64, -impl.MaxNumber - 1, -impl.MaxNumber, -1, 0, 1, 200, 201, impl.MaxNumber, impl.MaxNumber + 1, math.MaxInt64}
	texts := []string{"", "a", strings.Repeat("x", 60), strings.Repeat("x", 61), "\x1f", " ", "~", "\x7f"}
	for kind := int64(-1); kind <= 7; kind++ {
		for _, n := range numbers {
			for _, many := range numbers {
				for _, text := range texts {
					for _, key := range texts {
						c := impl.Cell{Kind: kind, Num: n, Text: text, Key: key, N: many}
						for _, v := range []cells{{c}, {{Kind: impl.KindObject, N: 1}, c}, {{Kind: impl.KindArray, N: 1}, c}} {
							if got, want := impl.ValueFault(v), modelFault(v); got != want {
								t.Fatalf("%v: code %d, want %d", v, got, want)
							}
						}
					}
				}
			}
		}
	}
}

func TestValuesAgainstModel(t *testing.T) {
	for _, v := range sound() {
		checkLooksAgainstModel(t, v)
	}
	for _, c := range faulty() {
		checkLooksAgainstModel(t, c.v)
	}
}

// checkLooksAgainstModel asks the functions that look into one value.
func checkLooksAgainstModel(t *testing.T, v cells) {
	t.Helper()
	fault := modelFault(v)
	depth, truthy := int64(0), false
	if fault == impl.OK {
		m, _ := readModel(v)
		depth, truthy = m.depth(), m.kind != impl.KindNull && m.kind != impl.KindFalse
	}
	if got := impl.DepthOf(v); got != (impl.IntResult{Code: fault, Value: depth}) {
		t.Errorf("DepthOf %v: %v, want code %d and %d", v, got, fault, depth)
	}
	if got := impl.Truthy(v); got != truthy {
		t.Errorf("Truthy %v: %v", v, got)
	}
	n := int64(len(v))
	for _, at := range []int64{math.MinInt64, -n, -1, n, n + 1, 200, 201, math.MaxInt64} {
		if at < 0 || at >= n {
			want := fault
			if fault == impl.OK {
				want = impl.ErrRange
			}
			checkNoPlace(t, v, at, want)
		}
	}
	for at := range n {
		if fault != impl.OK {
			checkNoPlace(t, v, at, fault)
		} else {
			checkPlace(t, v, at)
		}
	}
}

func checkNoPlace(t *testing.T, v cells, at int64, code int64) {
	t.Helper()
	if got := impl.EndAt(v, at); got != (impl.IntResult{Code: code}) {
		t.Errorf("EndAt %v %d: %v, want code %d", v, at, got, code)
	}
	if got := impl.ChildrenAt(v, at); got.Code != code || len(got.List) != 0 {
		t.Errorf("ChildrenAt %v %d: %v, want code %d", v, at, got, code)
	}
	if got := impl.PartAt(v, at); got.Code != code || len(got.Value) != 0 {
		t.Errorf("PartAt %v %d: %v, want code %d", v, at, got, code)
	}
}

func checkPlace(t *testing.T, v cells, at int64) {
	t.Helper()
	m, _ := readModel(v[at:])
	end := at + int64(m.size)
	if got := impl.EndAt(v, at); got != (impl.IntResult{Value: end}) {
		t.Errorf("EndAt %v %d: %v, want %d", v, at, got, end)
	}
	var places []int64
	place := at + 1
	for _, kid := range m.kids {
		places = append(places, place)
		place += int64(kid.size)
	}
	if got := impl.ChildrenAt(v, at); got.Code != impl.OK || !slices.Equal(got.List, places) {
		t.Errorf("ChildrenAt %v %d: %v, want %v", v, at, got, places)
	}
	want := slices.Clone(v[at:end])
	want[0].Key = ""
	got := impl.PartAt(v, at)
	if got.Code != impl.OK || !slices.Equal(got.Value, want) {
		t.Errorf("PartAt %v %d: %v, want %v", v, at, got, want)
	}
	if code := impl.ValueFault(got.Value); code != impl.OK {
		t.Errorf("PartAt %v %d has the fault %d", v, at, code)
	}
}

func TestPlacesInAValue(t *testing.T) {
	v := obj(member("a", arr(num(1), obj(member("z", str("s"))))), member("b", null()), member("c", arr()))
	if got := impl.ChildrenAt(v, 0); got.Code != impl.OK || !slices.Equal(got.List, []int64{1, 5, 6}) {
		t.Error("ChildrenAt", got)
	}
	if got := impl.ChildrenAt(v, 6); got.Code != impl.OK || len(got.List) != 0 {
		t.Error("ChildrenAt of an empty array", got)
	}
	if got := impl.EndAt(v, 1); got != (impl.IntResult{Value: 5}) {
		t.Error("EndAt", got)
	}
	if got := impl.PartAt(v, 1); !slices.Equal(got.Value, arr(num(1), obj(member("z", str("s"))))) {
		t.Error("PartAt", got)
	}
	if got := impl.PartAt(v, 4); !slices.Equal(got.Value, str("s")) {
		t.Error("PartAt of a member", got)
	}
}

func TestDepth(t *testing.T) {
	cases := []struct {
		v     cells
		depth int64
	}{
		{null(), 1}, {str("abc"), 1}, {arr(), 1}, {obj(), 1},
		{arr(null()), 2}, {arr(arr()), 2}, {obj(member("a", obj())), 2},
		{arr(arr(arr()), null()), 3}, {arr(null(), arr(arr())), 3}, {arr(arr(num(1)), obj(member("a", arr(num(1))))), 4},
		{nested(20), 20},
	}
	for i, c := range cases {
		if got := impl.DepthOf(c.v); got != (impl.IntResult{Value: c.depth}) {
			t.Errorf("case %d: %v, want %d", i, got, c.depth)
		}
	}
}

func TestTruthy(t *testing.T) {
	for _, v := range []cells{yes(), num(0), num(1), str(""), arr(), arr(null()), obj(), obj(member("a", no()))} {
		if !impl.Truthy(v) {
			t.Errorf("%v is told false", v)
		}
	}
	for _, v := range []cells{null(), no(), nil, num(impl.MaxNumber + 1), member("a", yes()), nested(21)} {
		if impl.Truthy(v) {
			t.Errorf("%v is told true", v)
		}
	}
}

func TestCompareRisingValues(t *testing.T) {
	list := rising()
	for i, a := range list {
		for j, b := range list {
			want := int64(0)
			if i < j {
				want = -1
			}
			if i > j {
				want = 1
			}
			if got := impl.CompareValues(a, b); got != want {
				t.Errorf("CompareValues %v %v: %d, want %d", a, b, got, want)
			}
			if got := impl.SameValues(a, b); got != (i == j) {
				t.Errorf("SameValues %v %v: %v", a, b, got)
			}
		}
	}
}

// P2 over every value of at most four cells of a small alphabet.
func TestOneOrder(t *testing.T) {
	alphabet := cells{
		{}, {Key: "a"}, {Key: "b"}, {Kind: impl.KindNumber, Num: 1}, {Kind: impl.KindNumber, Num: 1, Key: "a"}, {Kind: impl.KindString, Text: "a"},
		{Kind: impl.KindArray}, {Kind: impl.KindArray, N: 1}, {Kind: impl.KindArray, N: 2}, {Kind: impl.KindArray, N: 1, Key: "b"},
		{Kind: impl.KindObject, N: 1}, {Kind: impl.KindObject, N: 2}, {Kind: impl.KindObject, N: 1, Key: "a"},
	}
	var values []cells
	var models []model
	for _, v := range shortLists(alphabet, 4) {
		if impl.ValueFault(v) == impl.OK {
			m, _ := readModel(v)
			values, models = append(values, v), append(models, m)
		}
	}
	if len(values) < 100 {
		t.Fatal("too few values", len(values))
	}
	order := make([][]int64, len(values))
	for i, a := range values {
		order[i] = make([]int64, len(values))
		for j, b := range values {
			order[i][j] = impl.CompareValues(a, b)
			if got, want := order[i][j], int64(modelOrder(models[i], models[j])); got != want {
				t.Fatalf("CompareValues %v %v: %d, want %d", a, b, got, want)
			}
			if same := impl.SameValues(a, b); same != (order[i][j] == 0) || same != slices.Equal(a, b) {
				t.Fatalf("SameValues %v %v: %v", a, b, same)
			}
		}
	}
	checkOneOrder(t, order)
}

func checkOneOrder(t *testing.T, order [][]int64) {
	t.Helper()
	for i := range order {
		for j := range order {
			if order[i][j] != -order[j][i] {
				t.Fatalf("values %d and %d: %d and %d", i, j, order[i][j], order[j][i])
			}
			for k := range order {
				if order[i][j] <= 0 && order[j][k] <= 0 && order[i][k] > 0 {
					t.Fatalf("values %d, %d and %d are not in a row", i, j, k)
				}
			}
		}
	}
}

func TestCompareFaulty(t *testing.T) {
	for i, c := range faulty() {
		for _, good := range []cells{null(), obj()} {
			if impl.CompareValues(c.v, good) != 0 || impl.CompareValues(good, c.v) != 0 {
				t.Errorf("case %d is compared: %v", i, c.v)
			}
			if impl.SameValues(c.v, good) || impl.SameValues(good, c.v) {
				t.Errorf("case %d is the same: %v", i, c.v)
			}
		}
		if impl.CompareValues(c.v, c.v) != 0 || impl.SameValues(c.v, c.v) {
			t.Errorf("case %d with itself: %v", i, c.v)
		}
	}
}

func TestNumberValue(t *testing.T) {
	for _, n := range []int64{0, 1, -1, 200, 201, impl.MaxNumber, -impl.MaxNumber} {
		if got := impl.NumberValue(n); got.Code != impl.OK || !slices.Equal(got.Value, num(n)) {
			t.Errorf("%d: %v", n, got)
		}
	}
	for _, n := range []int64{impl.MaxNumber + 1, -impl.MaxNumber - 1, math.MaxInt64, math.MinInt64} {
		if got := impl.NumberValue(n); got.Code != impl.ErrRange || got.Value != nil {
			t.Errorf("%d: %v", n, got)
		}
	}
}

func TestStringValue(t *testing.T) {
	for _, s := range []string{"", "a", " ~", "\"\\", strings.Repeat("x", 60)} {
		if got := impl.StringValue(s); got.Code != impl.OK || !slices.Equal(got.Value, str(s)) {
			t.Errorf("%q: %v", s, got)
		}
	}
	for _, s := range []string{strings.Repeat("x", 61), "\x1f", "\x7f", "\n", "é", "a\x00", strings.Repeat("x", 100000)} {
		if got := impl.StringValue(s); got.Code != impl.ErrText || got.Value != nil {
			t.Errorf("%q: %v", s, got)
		}
	}
}

func TestArrayValue(t *testing.T) {
	for _, list := range [][]cells{nil, {}, {null()}, {num(1), str("x")}, {arr(), obj(member("a", num(1))), arr(arr(yes()))}, repeat(199, null()), {nested(19)}, repeat(2, arr(repeat(98, no())...))} {
		if got := impl.ArrayValue(list); got.Code != impl.OK || !slices.Equal(got.Value, arr(list...)) {
			t.Errorf("%v: %v", list, got)
		}
	}
	cases := []struct {
		list []cells
		code int64
	}{
		{repeat(200, null()), impl.ErrMany},
		{repeat(201, null()), impl.ErrMany},
		{repeat(201, cells{{Kind: 7}}), impl.ErrMany},
		{repeat(200, cells{{Kind: 7}}), impl.ErrKind},
		{repeat(2, arr(repeat(99, null())...)), impl.ErrMany},
		{repeat(200, arr(repeat(199, null())...)), impl.ErrMany},
		{[]cells{nested(20)}, impl.ErrDeep},
		{[]cells{nested(21)}, impl.ErrDeep},
		{[]cells{nested(20), member("a", num(1))}, impl.ErrForm},
		{[]cells{nil}, impl.ErrMany},
		{[]cells{num(1), {}}, impl.ErrMany},
		{[]cells{str("\n"), num(impl.MaxNumber + 1)}, impl.ErrText},
		{[]cells{num(impl.MaxNumber + 1), str("\n")}, impl.ErrRange},
		{[]cells{member("a", num(1))}, impl.ErrForm},
		{[]cells{append(null(), null()...)}, impl.ErrForm},
		{append(repeat(199, null()), nested(20)), impl.ErrMany},
	}
	for i, c := range cases {
		if got := impl.ArrayValue(c.list); got.Code != c.code || got.Value != nil {
			t.Errorf("case %d: %v, want code %d", i, got, c.code)
		}
	}
}

func TestObjectValue(t *testing.T) {
	a := arr(num(1), str("x"))
	cases := []struct {
		keys []string
		list []cells
		want cells
	}{
		{nil, nil, obj()},
		{[]string{}, []cells{}, obj()},
		{[]string{""}, []cells{null()}, obj(null())},
		{[]string{"b", "a"}, []cells{num(1), a}, obj(member("a", a), member("b", num(1)))},
		{[]string{"a", "ab", "", "B", "b", "~", " "}, []cells{num(0), num(1), num(2), num(3), num(4), num(5), num(6)},
			obj(member("", num(2)), member(" ", num(6)), member("B", num(3)), member("a", num(0)), member("ab", num(1)), member("b", num(4)), member("~", num(5)))},
		{[]string{"b", "a", "b"}, []cells{null(), a, yes()}, obj(member("a", a), member("b", yes()))},
		{[]string{"a", "a", "a"}, []cells{num(3), num(1), num(2)}, obj(member("a", num(2)))},
		{[]string{"", "b", ""}, []cells{num(1), num(2), a}, obj(member("", a), member("b", num(2)))},
		{[]string{"o"}, []cells{nested(19)}, obj(member("o", nested(19)))},
		{[]string{"o", "o"}, []cells{nested(20), null()}, obj(member("o", null()))},
		{slices.Repeat([]string{"k"}, 200), append(repeat(199, num(1)), num(2)), obj(member("k", num(2)))},
		{[]string{"k", "k"}, repeat(2, arr(repeat(198, null())...)), obj(member("k", arr(repeat(198, null())...)))},
		{[]string{strings.Repeat("k", 60)}, []cells{no()}, obj(member(strings.Repeat("k", 60), no()))},
	}
	for i, c := range cases {
		got := impl.ObjectValue(c.keys, c.list)
		if got.Code != impl.OK || !slices.Equal(got.Value, c.want) {
			t.Errorf("case %d: %v, want %v", i, got, c.want)
		}
		if code := impl.ValueFault(got.Value); code != impl.OK {
			t.Errorf("case %d has the fault %d", i, code)
		}
	}
}

// Many members of few keys, mixed: the last one of each stands, however many
// came ahead of it.
func TestObjectValueLastStands(t *testing.T) {
	for n := 1; n <= impl.MaxCells; n++ {
		last := map[string]int64{}
		var keys []string
		var list []cells
		for i := range int64(n) {
			key := string(rune('a' + (i*i*7+i*3)%11))
			keys, list = append(keys, key), append(list, num(i))
			last[key] = i
		}
		var want []cells
		for _, key := range slices.Sorted(maps.Keys(last)) {
			want = append(want, member(key, num(last[key])))
		}
		if got := impl.ObjectValue(keys, list); got.Code != impl.OK || !slices.Equal(got.Value, obj(want...)) {
			t.Errorf("%d members: %v, want %v", n, got, want)
		}
	}
}

// manyKeys are n keys without two alike, falling.
func manyKeys(n int) []string {
	var keys []string
	for i := range n {
		keys = append(keys, string(rune('a'+(n-i)/50))+strings.Repeat("k", (n-i)%50))
	}
	return keys
}

func TestObjectValueCodes(t *testing.T) {
	if got := impl.ObjectValue(manyKeys(199), repeat(199, null())); got.Code != impl.OK || got.Value[0].N != 199 || impl.ValueFault(got.Value) != impl.OK {
		t.Error("199 members", got.Code)
	}
	cases := []struct {
		keys []string
		list []cells
		code int64
	}{
		{manyKeys(200), repeat(200, null()), impl.ErrMany},
		{manyKeys(201), repeat(201, null()), impl.ErrMany},
		{slices.Repeat([]string{"k"}, 201), repeat(201, null()), impl.ErrMany},
		{[]string{"a"}, nil, impl.ErrMany},
		{nil, []cells{null()}, impl.ErrMany},
		{[]string{"a", "b"}, []cells{null()}, impl.ErrMany},
		{[]string{"\n"}, []cells{null(), null()}, impl.ErrMany},
		{[]string{"\n"}, []cells{nil}, impl.ErrText},
		{[]string{"a", "\x7f"}, []cells{{{Kind: 7}}, null()}, impl.ErrText},
		{[]string{strings.Repeat("k", 61)}, []cells{null()}, impl.ErrText},
		{[]string{"a", "b"}, []cells{null(), {{Kind: 7}}}, impl.ErrKind},
		{[]string{"a", "b"}, []cells{num(impl.MaxNumber + 1), {{Kind: 7}}}, impl.ErrRange},
		{[]string{"a"}, []cells{member("a", null())}, impl.ErrForm},
		{[]string{"a", "a"}, []cells{{{Kind: 7}}, null()}, impl.ErrKind},
		{[]string{"a"}, []cells{nil}, impl.ErrMany},
		{[]string{"a"}, []cells{nested(20)}, impl.ErrDeep},
		{[]string{"a", "b"}, repeat(2, arr(repeat(99, null())...)), impl.ErrMany},
		{[]string{"a", "a"}, []cells{nested(20), nested(21)}, impl.ErrDeep},
	}
	for i, c := range cases {
		if got := impl.ObjectValue(c.keys, c.list); got.Code != c.code || got.Value != nil {
			t.Errorf("case %d: %v, want code %d", i, got, c.code)
		}
	}
}

// What is told of a value's parts is enough to make it again, whatever the
// order in which its members come.
func TestPartsMakeTheValue(t *testing.T) {
	for _, v := range sound() {
		var keys []string
		var list []cells
		for _, at := range impl.ChildrenAt(v, 0).List {
			keys = append(keys, v[at].Key)
			list = append(list, impl.PartAt(v, at).Value)
		}
		slices.Reverse(keys)
		var again impl.ValueResult
		switch v[0].Kind {
		case impl.KindArray:
			again = impl.ArrayValue(list)
		case impl.KindObject:
			slices.Reverse(list)
			again = impl.ObjectValue(keys, list)
		case impl.KindNumber:
			again = impl.NumberValue(v[0].Num)
		case impl.KindString:
			again = impl.StringValue(v[0].Text)
		default:
			continue
		}
		if again.Code != impl.OK || !impl.SameValues(again.Value, v) {
			t.Errorf("%v comes again as %v", v, again)
		}
	}
}

// callAll is what all functions of the chapter answer to these arguments.
func callAll(keys []string, a, b cells, at int64) []any {
	text := ""
	if len(keys) > 0 {
		text = keys[0]
	}
	return []any{
		impl.ValueFault(a), impl.EndAt(a, at), impl.ChildrenAt(a, at), impl.PartAt(a, at),
		impl.CompareValues(a, b), impl.SameValues(a, b), impl.NumberValue(at), impl.StringValue(text),
		impl.ArrayValue([]cells{a, b}), impl.ArrayValue([]cells{a}), impl.ObjectValue(keys, []cells{b, a, b}),
		impl.ObjectValue(keys[:min(1, len(keys))], []cells{a}), impl.Truthy(a), impl.DepthOf(a),
	}
}

// P1: arguments stay as they are, answers are new memory and hang on the
// arguments alone, and stand apart from one another.
func TestArgumentsStayAndAnswersAreNew(t *testing.T) {
	pool := sound()
	for _, c := range faulty() {
		pool = append(pool, c.v)
	}
	keyLists := [][]string{nil, {"a"}, {"b", "a", "b"}, {"c", "b", "a"}, {"\n", "a", "b"}}
	for i, v := range pool {
		// Room behind the list: an answer that is laid there would be seen.
		a := append(slices.Clone(v), impl.Cell{Kind: 42})[:len(v)]
		b := append(slices.Clone(pool[(i+7)%len(pool)]), impl.Cell{Kind: 43})
		keys := slices.Clone(keyLists[i%len(keyLists)])
		beforeA, beforeB, beforeKeys := slices.Clone(a[:len(a)+1]), slices.Clone(b), slices.Clone(keys)
		for _, at := range []int64{math.MinInt64, -1, 0, 1, int64(len(a)) - 1, int64(len(a)), math.MaxInt64} {
			first := callAll(keys, a, b[:len(b)-1], at)
			kept := callAll(keys, a, b[:len(b)-1], at)
			checkApart(t, first, a, b, keys)
			scribble(first)
			again := callAll(keys, a, b[:len(b)-1], at)
			if !reflect.DeepEqual(kept, again) {
				t.Errorf("value %d at %d: %v, then %v", i, at, kept, again)
			}
		}
		if !slices.Equal(a[:len(a)+1], beforeA) || !slices.Equal(b, beforeB) || !slices.Equal(keys, beforeKeys) {
			t.Errorf("value %d: an argument was changed", i)
		}
	}
}

// P1: an empty list and nil are the same argument.
func TestEmptyAndNil(t *testing.T) {
	for _, at := range []int64{-1, 0, 1} {
		if x, y := callAll(nil, nil, nil, at), callAll([]string{}, cells{}, cells{}, at); !reflect.DeepEqual(x, y) {
			t.Errorf("at %d: %v, %v", at, x, y)
		}
	}
	if x, y := impl.ArrayValue(nil), impl.ArrayValue([]cells{}); !reflect.DeepEqual(x, y) {
		t.Error(x, y)
	}
	if x, y := impl.ObjectValue(nil, []cells{}), impl.ObjectValue([]string{}, nil); !reflect.DeepEqual(x, y) {
		t.Error(x, y)
	}
}
