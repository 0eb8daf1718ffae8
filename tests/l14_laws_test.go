package tests

import (
	"encoding/json"
	"maps"
	"reflect"
	"slices"
	"strconv"
	"strings"
	"testing"

	"loop.example/g00166/impl"
)

// tree is a value of about that many cells, as the library has it.
func (d *dice) tree(size int) any {
	if size < 2 {
		return []any{nil, nil, true, false, json.Number("0"), json.Number("1"), json.Number("-7"), "", "a b", `"`, []any{}, map[string]any{}}[d.below(12)]
	}
	list, members := []any{}, map[string]any{}
	left := size - 1
	for left > 0 {
		part := 1 + d.below(left)
		if d.below(2) == 0 {
			part = 1
		}
		x := d.tree(part)
		list, members[d.key()] = append(list, x), x
		left -= part
	}
	if d.below(2) == 0 {
		return list
	}
	return members
}

// flat is an array or an object of up to n that have no parts.
func (d *dice) flat(n int) any {
	list, members := []any{}, map[string]any{}
	for i := range 20 + d.below(n-20) {
		x := d.tree(1)
		list = append(list, x)
		if d.below(3) > 0 {
			members["k"+strconv.Itoa(i)] = x
		}
	}
	if d.below(2) == 0 {
		return list
	}
	return members
}

func (d *dice) key() string {
	return []string{"a", "b", "c", "", "a b", "]", `\`, "k" + strconv.Itoa(d.below(40))}[d.below(8)]
}

// changed is a value with something in it changed, or nothing.
func (d *dice) changed(tree any) any {
	if d.below(8) == 0 {
		return d.tree(1 + d.below(6))
	}
	switch x := tree.(type) {
	case []any:
		list := slices.Clone(x)
		for i := range list {
			list[i] = d.changed(list[i])
		}
		switch d.below(4) {
		case 0:
			list = list[:d.below(len(list)+1)]
		case 1:
			list = append(list, d.tree(1+d.below(4)), d.tree(1+d.below(4)))
		}
		return list
	case map[string]any:
		members := map[string]any{}
		for _, key := range slices.Sorted(maps.Keys(x)) {
			if d.below(6) > 0 {
				members[key] = d.changed(x[key])
			}
		}
		for range d.below(3) {
			members[d.key()] = d.tree(1 + d.below(4))
		}
		return members
	}
	return tree
}

// value is one without a fault.
func (d *dice) value(size int) cells {
	for {
		if v := cellsOf(d.tree(size)); modelFault(v) == 0 {
			return v
		}
	}
}

// change is a value without a fault that is like v in much of it.
func (d *dice) change(v cells) cells {
	for tree := sampleOf(v).tree; ; {
		if w := cellsOf(d.changed(tree)); modelFault(w) == 0 {
			return w
		}
	}
}

// smallValues are all values of at most four of some cells.
func smallValues() []cells {
	alphabet := cells{{}, {Kind: impl.KindNumber, Num: 1}, {Key: "a"}, {Key: "b"}, {Kind: impl.KindNumber, Num: 1, Key: "a"}, {Kind: impl.KindArray}, {Kind: impl.KindArray, N: 1}, {Kind: impl.KindArray, N: 2}, {Kind: impl.KindArray, N: 1, Key: "a"}, {Kind: impl.KindObject}, {Kind: impl.KindObject, N: 1}, {Kind: impl.KindObject, N: 2}, {Kind: impl.KindObject, N: 1, Key: "a"}, {Kind: impl.KindObject, Key: "b"}}
	var values []cells
	for _, v := range shortLists(alphabet, 4) {
		if modelFault(v) == 0 {
			values = append(values, v)
		}
	}
	return values
}

// checkTwoValues holds all that is asked of two values against the model, and P15.
func checkTwoValues(t *testing.T, a, b sample) impl.EditsResult {
	t.Helper()
	diff := impl.DiffValues(a.v, b.v)
	if want := modelDiff(a, b); diff.Code != want.Code || diff.At != 0 || !sameEdits(diff.Edits, want.Edits) {
		t.Errorf("diff %s, %s: %s, want %s", short(a.v), short(b.v), short(diff), short(want))
	}
	merge := impl.MergeValues(a.v, b.v)
	checkAnswer(t, merge, modelMerge(a, b), "merge", a.v, b.v)
	if got, want := impl.CountSame(a.v, b.v), modelCountSame(a, b); got != want {
		t.Errorf("count %s, %s: %v, want %v", short(a.v), short(b.v), got, want)
	}
	if merge.Code == 0 {
		checkAnswer(t, impl.MergeValues(merge.Value, b.v), merge, "merge again", a.v, b.v)
	}
	if diff.Code == 0 {
		checkEditsMake(t, a.v, b.v, diff.Edits)
	}
	return diff
}

// firstWithoutRoom is the place of the first edit behind which there are too many
// cells, or -1. No two of the edits are of one place, or of one within another.
func firstWithoutRoom(a cells, edits []edit) int {
	there := impl.PathsIn(a).Paths
	count := len(a)
	for i, e := range edits {
		if at := slices.IndexFunc(there, func(p cells) bool { return slices.Equal(p, e.Path) }); at >= 0 {
			count -= len(impl.PartAt(a, int64(at)).Value)
		}
		count += len(e.X)
		if count > 200 {
			return i
		}
	}
	return -1
}

// P15: edits that were told make the other value, where there is room on the way;
// they are read back, where their text is not too long.
func checkEditsMake(t *testing.T, a, b cells, edits []edit) {
	t.Helper()
	want := impl.ReadResult{Value: b}
	if at := firstWithoutRoom(a, edits); at >= 0 {
		want = impl.ReadResult{Code: impl.ErrMany, At: int64(at)}
	}
	if got := impl.ApplyEdits(a, edits); got.Code != want.Code || got.At != want.At || !slices.Equal(got.Value, want.Value) {
		t.Errorf("%s, %s: %s, want %s", short(a), short(edits), short(got), short(want))
	}
	if code := impl.EditsFault(edits); code != 0 {
		t.Errorf("%s, %s: %d", short(a), short(b), code)
	}
	text := impl.FormatEdits(edits)
	if text != modelFormatEdits(edits) {
		t.Errorf("%s: %s", short(edits), short(text))
	}
	back := impl.ParseEdits(text.Text)
	if len(text.Text) > 4000 {
		if editsAs(back) != codeAt(impl.ErrMany, 0) {
			t.Errorf("%s: %s", short(text), short(back))
		}
		return
	}
	if back.Code != 0 || back.At != 0 || !sameEdits(back.Edits, edits) {
		t.Errorf("%s: %s, want %s", short(text), short(back), short(edits))
	}
	if again := impl.FormatEdits(back.Edits); again != text {
		t.Errorf("%s: %s", short(text), short(again))
	}
}

func TestTwoSmallValues(t *testing.T) {
	t.Parallel()
	values := samplesOf(smallValues())
	if len(values) < 100 {
		t.Fatal(len(values))
	}
	for i, a := range values {
		for j, b := range values {
			if len(a.v)+len(b.v) < 7 || (i+j)%7 == 0 {
				checkTwoValues(t, a, b)
			}
		}
	}
}

func TestTwoPoolValues(t *testing.T) {
	t.Parallel()
	values := samplesOf(slices.Concat(pathValues(), wholeValues(), opPool()))
	for i, a := range values {
		for j, b := range values {
			if i < 31 && j < 31 || (i+j)%11 == 0 {
				checkTwoValues(t, a, b)
			}
		}
	}
}

// Values of all sizes, and such that are like one another in much.
func TestTwoThrownValues(t *testing.T) {
	for part := range 4 {
		t.Run(strconv.Itoa(part), func(t *testing.T) {
			t.Parallel()
			d := dice(part)
			met := map[string]int{}
			for i := range 700 {
				a := d.value(1 + d.below([]int{5, 12, 40, 190}[part]))
				b := d.change(a)
				if i%5 == 0 {
					b = d.value(1 + d.below(40*part+4))
				}
				if part == 3 && i%5 == 1 {
					a, b = cellsOf(d.flat(150)), cellsOf(d.flat(150))
				}
				diff := checkTwoValues(t, sampleOf(a), sampleOf(b))
				switch {
				case diff.Code != 0:
					met["many"]++
				case len(diff.Edits) == 0:
					met["same"]++
				case len(diff.Edits) > 4:
					met["long"]++
				default:
					met["short"]++
				}
			}
			if met["short"] < 50 || part > 0 && met["long"] < 50 || part == 3 && met["many"] < 20 {
				t.Error(met)
			}
		})
	}
}

// Pairs that come to many cells on the way: there is room up to the last one.
func TestRoomOnTheWay(t *testing.T) {
	nulls := func(n int) cells { return arr(repeat(n, null())...) }
	none := 0
	for n := 90; n <= 110; n++ {
		for _, pair := range [][2]cells{
			{obj(member("b", nulls(98))), obj(member("a", nulls(n)))}, {obj(member("a", nulls(98))), obj(member("b", nulls(n)))}, {arr(num(1), nulls(96)), arr(nulls(n), num(1))}, {arr(nulls(96), num(1)), arr(num(1), nulls(n))},
			{obj(member("a", num(1)), member("b", arr(nulls(95)))), obj(member("a", nulls(n)), member("b", arr()))}, {arr(num(1), nulls(50), nulls(50)), arr(nulls(n))},
		} {
			diff := checkTwoValues(t, sampleOf(pair[0]), sampleOf(pair[1]))
			if diff.Code == 0 && impl.ApplyEdits(pair[0], diff.Edits).Code != 0 {
				none++
			}
		}
	}
	if none < 20 {
		t.Error(none)
	}
}

// What is told of a value and itself, of one that is merged with what it has, and of
// both that are counted.
func TestEditsOfOneValue(t *testing.T) {
	for _, v := range slices.Concat(pathValues(), wholeValues(), opPool(), containers()) {
		if got := impl.DiffValues(v, slices.Clone(v)); got.Code != 0 || len(got.Edits) != 0 {
			t.Errorf("%s: %s", short(v), short(got))
		}
		leaves := int64(len(impl.LeavesIn(v).Paths))
		if got := impl.CountSame(v, v); got != (impl.IntResult{Value: leaves}) {
			t.Errorf("%s: %v, want %d", short(v), got, leaves)
		}
		if v[0].Kind == impl.KindObject {
			checkAnswer(t, impl.MergeValues(v, obj()), made(v), "merge with none", v)
		} else {
			checkAnswer(t, impl.MergeValues(v, obj()), made(obj()), "merge with none", v)
			checkAnswer(t, impl.MergeValues(nested(3), v), made(v), "merge with no object", v)
		}
	}
}

// Lists of edits of all kinds, of values that they meet and that they do not.
func TestApplyAgainstModel(t *testing.T) {
	d := dice(5)
	steps := []any{"a", "b", "", 0, 1, 2, -1, -2, 199}
	met := map[int64]int{}
	for range 6000 {
		v := d.value(1 + d.below(12))
		paths := impl.PathsIn(v).Paths
		var list []edit
		for range d.below(6) {
			path := paths[d.below(len(paths))]
			if d.below(2) == 0 {
				path = pathOf(steps[d.below(9)])
			}
			if d.below(2) == 0 {
				path = append(slices.Clone(path), pathOf(steps[d.below(9)])[1:]...)
				path[0].N++
			}
			if d.below(2) == 0 {
				list = append(list, setAt(path, d.value(1+d.below(5))))
			} else if len(path) > 1 {
				list = append(list, dropAt(path))
			}
		}
		got, want := impl.ApplyEdits(v, list), modelApply(sampleOf(v), list)
		if got.Code != want.Code || got.At != want.At || !slices.Equal(got.Value, want.Value) {
			t.Errorf("%s, %s: %s, want %s", short(v), short(list), short(got), short(want))
		}
		if got := impl.FormatEdits(list); got != modelFormatEdits(list) {
			t.Errorf("%s: %s", short(list), short(got))
		}
		met[got.Code]++
	}
	if met[0] < 1000 || met[impl.ErrKind] < 500 || met[impl.ErrRange] < 30 || met[impl.ErrMany] < 30 {
		t.Error(met)
	}
}

func checkParseAgainstModel(t *testing.T, text string) {
	t.Helper()
	got, want := impl.ParseEdits(text), modelParseEdits(text)
	if got.Code != want.Code || got.At != want.At || !sameEdits(got.Edits, want.Edits) {
		t.Errorf("%q: %s, want %s", text, short(got), short(want))
	}
	if back := impl.FormatEdits(got.Edits); got.Code == 0 && strings.TrimSuffix(back.Text, "\n") != strings.TrimSuffix(text, "\n") {
		t.Errorf("%q: %q", text, back.Text)
	}
}

func TestParseEditsAgainstModel(t *testing.T) {
	check := func(text string) { checkParseAgainstModel(t, text) }
	shortTexts("", []string{"set", "drop", " ", "[]", "[0]", "1", "\n", "{}"}, 5, check)
	shortTexts("set [", []string{"]", "0", `"a"`, ",", " ", "null", "[", "\n"}, 5, check)
	shortTexts("drop [", []string{"]", "0", `"a"`, `"`, " ", "-1", "\n", "drop [1]"}, 4, check)
	shortTexts("set [] 1\n", strings.Split("setdrop []0\n", ""), 3, check)
	for _, text := range []string{"drop [\"a\",1]\nset [] {\"b\":[-1]}\n", `set ["a b",10] "\" "`, "set [] {\"a\":1,\"b\":2}\ndrop [0]"} {
		changedTexts(text, check)
	}
}

func callAllEdits(a, b cells, list []edit, text string) []any {
	return []any{
		impl.DiffValues(a, b), impl.ApplyEdits(a, list), impl.ParseEdits(text), impl.MergeValues(a, b), impl.CountSame(a, b), impl.EditsFault(list), impl.FormatEdits(list),
		// One list in several places.
		impl.DiffValues(a, a), impl.MergeValues(a, a), impl.MergeValues(b, a), impl.DiffValues(b, a), impl.CountSame(a, a), impl.ApplyEdits(a, []edit{setAt(pathOf(), a)}), impl.ApplyEdits(b, []edit{setAt(pathOf("a"), a), setAt(pathOf("b"), a)}), impl.ApplyEdits(a, []edit{setAt(a, a), dropAt(a)}), impl.ApplyEdits(a, nil),
	}
}

func cloneEdits(list []edit) []edit {
	clone := slices.Clone(list)
	for i, e := range clone {
		clone[i].Path, clone[i].X = slices.Clone(e.Path), slices.Clone(e.X)
	}
	return clone
}

// roomyEdits has lists that could be made longer, those without cells, too.
func roomyEdits(list []edit) []edit {
	roomy := append(make([]edit, 0, len(list)+3), list...)
	for i, e := range roomy {
		roomy[i].Path, roomy[i].X = roomyCells(e.Path), roomyCells(e.X)
	}
	return roomy
}

// cellsIn are the lists of cells of these edits.
func cellsIn(list []edit) []cells {
	var all []cells
	for _, e := range list {
		all = append(all, e.Path, e.X)
	}
	return all
}

func editLists() [][]edit {
	lists := [][]edit{nil, editsOf(`set [] {"a":1}; set ["b",1] [2]; drop ["a"]`), editsOf(`drop [0]; drop [0]`), editsOf(`set ["a"] 1`), editsOf(`set [] []`), slices.Repeat([]edit{setAt(pathOf(), numbersUpTo(199))}, 100), slices.Repeat([]edit{dropAt(pathOf("a"))}, 101)}
	for i, c := range editFaults() {
		if i%9 == 0 {
			lists = append(lists, []edit{c.e}, []edit{setAt(pathOf(), num(1)), c.e})
		}
	}
	return lists
}

// P1 of this chapter.
func TestEditsArgumentsStayAndAnswersAreNew(t *testing.T) {
	values := slices.Concat(pathValues(), opPool(), faults(), wholeValues())
	lists := editLists()
	texts := []string{"", "set [] {\"a\":[1]}\ndrop [\"a\",0]\nset [\"b\"] [{}]", "drop [0]", "x", "set [] 1\n\n", strings.Repeat("set [0] [1,2]\n", 100), strings.Repeat("drop [0]\n", 101), strings.Repeat("x", 5000)}
	for i := range 2 * len(values) {
		a, b := values[i%len(values)], values[(i*7+i/len(values))%len(values)]
		list, text := lists[i%len(lists)], texts[i%len(texts)]
		if i%2 == 0 {
			// Those that tell no code are seldom met else.
			b, list = values[i/2%60], lists[i/2%6]
		}
		keptA, keptB, keptList := slices.Clone(a), slices.Clone(b), cloneEdits(list)
		first := callAllEdits(a, b, list, text)
		checkApart(t, first, a, b, list)
		// Nor do two answers.
		for n := range first[1:] {
			checkApart(t, first[n:n+1], first[n+1])
		}
		second := callAllEdits(a, b, list, text)
		if !reflect.DeepEqual(first, second) {
			t.Errorf("%s, %s, %s: %s, then %s", short(a), short(b), short(list), short(first), short(second))
		}
		scribble(first)
		if !slices.Equal(a, keptA) || !slices.Equal(b, keptB) || !sameEdits(list, keptList) {
			t.Errorf("%s, %s or %s is changed", short(keptA), short(keptB), short(keptList))
		}
		roomyA, roomyB, roomyList := roomyCells(a), roomyCells(b), roomyEdits(list)
		third := callAllEdits(roomyA, roomyB, roomyList, text)
		if !reflect.DeepEqual(second, third) {
			t.Errorf("%s, %s, %s: %s, then %s", short(a), short(b), short(list), short(second), short(third))
		}
		checkApart(t, third, roomyA, roomyB, roomyList)
		scribble(third)
		for _, roomy := range append(cellsIn(roomyList), roomyA, roomyB) {
			if slices.ContainsFunc(roomy[:cap(roomy)][len(roomy):], func(c impl.Cell) bool { return c != impl.Cell{} }) {
				t.Errorf("%s, %s or %s is written behind", short(a), short(b), short(list))
			}
		}
		if slices.ContainsFunc(roomyList[:cap(roomyList)][len(list):], func(e edit) bool { return e.Op != 0 || e.Path != nil || e.X != nil }) {
			t.Errorf("%s is written behind", short(list))
		}
	}
	if !reflect.DeepEqual(callAllEdits(nil, nil, nil, ""), callAllEdits(cells{}, cells{}, []edit{}, "")) {
		t.Error("nil and an empty list are told apart")
	}
	if !reflect.DeepEqual(callAllEdits(null(), obj(), []edit{dropAt(pathOf("a")), {}}, ""), callAllEdits(null(), obj(), []edit{{Op: impl.EditDrop, Path: pathOf("a"), X: cells{}}, {Path: cells{}, X: cells{}}}, "")) {
		t.Error("nil and an empty list are told apart in an edit")
	}
}

// Any short list of cells in place of each argument, and in an edit of any op: it is
// answered, as the model tells.
func TestEditsAnswerAtEveryArgument(t *testing.T) {
	alphabet := append(smallAlphabet(), impl.Cell{Kind: impl.KindString, Text: "a"}, impl.Cell{Kind: 7}, impl.Cell{Kind: impl.KindArray, N: 200})
	lists := samplesOf(shortLists(alphabet, 2))
	for i, a := range lists {
		for j, b := range lists {
			checkTwoValues(t, a, b)
			e := edit{Op: int64((i + j) % 4), Path: a.v, X: b.v}
			list := []edit{e}
			if (i+j)%3 == 0 {
				list = append(list, setAt(b.v, a.v), dropAt(a.v))
			}
			if got, want := impl.EditsFault(list), modelEditsFault(list); got != want {
				t.Fatalf("%v: %d, want %d", list, got, want)
			}
			if got, want := impl.FormatEdits(list), modelFormatEdits(list); got != want {
				t.Fatalf("%v: %v, want %v", list, got, want)
			}
			got, want := impl.ApplyEdits(b.v, list), modelApply(b, list)
			if got.Code != want.Code || got.At != want.At || !slices.Equal(got.Value, want.Value) {
				t.Fatalf("%v, %v: %v, want %v", b.v, list, got, want)
			}
		}
	}
}
