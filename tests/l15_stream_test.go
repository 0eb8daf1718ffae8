package tests

import (
	"slices"
	"strings"
	"testing"

	"loop.example/g00166/impl"
)

func TestStreamConstants(t *testing.T) {
	if impl.MaxIndent != 8 || impl.MaxPrint != 60000 {
		t.Error(impl.MaxIndent, impl.MaxPrint)
	}
}

// streamCase has its events with blanks between.
type streamCase struct{ v, events string }

func streamCases() []streamCase {
	return []streamCase{
		// Leaves.
		{`null`, `[[],null]`}, {`false`, `[[],false]`}, {`true`, `[[],true]`}, {`-7`, `[[],-7]`}, {`"a"`, `[[],"a"]`}, {`""`, `[[],""]`}, {`[]`, `[[],[]]`}, {`{}`, `[[],{}]`},
		// Arrays and objects with leaves.
		{`[null]`, `[[0],null] [[0]]`}, {`[1,2,3]`, `[[0],1] [[1],2] [[2],3] [[2]]`}, {`{"a":1}`, `[["a"],1] [["a"]]`}, {`{"b":false,"a":true}`, `[["a"],true] [["b"],false] [["b"]]`}, {`{"":null}`, `[[""],null] [[""]]`}, {`[[],{}]`, `[[0],[]] [[1],{}] [[1]]`}, {`{"a":[],"b":{}}`, `[["a"],[]] [["b"],{}] [["b"]]`}, {`{"0":1}`, `[["0"],1] [["0"]]`}, {`{"\"":1,"\\":2}`, `[["\""],1] [["\\"],2] [["\\"]]`},
		// Within one another: what has ended is told behind it, by its last one.
		{`{"a":[1,2],"b":null}`, `[["a",0],1] [["a",1],2] [["a",1]] [["b"],null] [["b"]]`},
		{`[[1]]`, `[[0,0],1] [[0,0]] [[0]]`}, {`[[[1,2]]]`, `[[0,0,0],1] [[0,0,1],2] [[0,0,1]] [[0,0]] [[0]]`}, {`[[1],2]`, `[[0,0],1] [[0,0]] [[1],2] [[1]]`}, {`[1,[2]]`, `[[0],1] [[1,0],2] [[1,0]] [[1]]`}, {`[[1],[2,3]]`, `[[0,0],1] [[0,0]] [[1,0],2] [[1,1],3] [[1,1]] [[1]]`}, {`[[[]]]`, `[[0,0],[]] [[0,0]] [[0]]`}, {`{"a":{"b":{}}}`, `[["a","b"],{}] [["a","b"]] [["a"]]`}, {`[[],[[]],[]]`, `[[0],[]] [[1,0],[]] [[1,0]] [[2],[]] [[2]]`},
		{`{"a":{"c":1,"b":2},"d":[{"e":[]},3]}`, `[["a","b"],2] [["a","c"],1] [["a","c"]] [["d",0,"e"],[]] [["d",0,"e"]] [["d",1],3] [["d",1]] [["d"]]`},
		{`[{"a":[{"b":1}]},{"a":[{"b":1}]}]`, `[[0,"a",0,"b"],1] [[0,"a",0,"b"]] [[0,"a",0]] [[0,"a"]] [[1,"a",0,"b"],1] [[1,"a",0,"b"]] [[1,"a",0]] [[1,"a"]] [[1]]`},
	}
}

// eventWords reads events with blanks between; none of their texts has one.
func eventWords(text string) []cells {
	return eventList(strings.ReplaceAll(text, " ", "\n"))
}

func TestStreamOf(t *testing.T) {
	for _, c := range streamCases() {
		want := strings.ReplaceAll(c.events, " ", "\n")
		if got := eventsAs(impl.StreamOf(val(c.v))); got != want {
			t.Errorf("%s: %s, want %s", c.v, got, want)
		}
		if got := modelStreamOf(sampleOf(val(c.v))); got != want {
			t.Errorf("%s: the model tells %s, want %s", c.v, got, want)
		}
		if got := impl.FromStream(eventWords(c.events)); editedAs(got) != told(made(val(c.v))) {
			t.Errorf("%s: %s, want %s", c.events, editedAs(got), c.v)
		}
	}
	for _, c := range faulty() {
		if got := impl.StreamOf(c.v); got.Code != c.code || got.Parts != nil {
			t.Errorf("%s: %s, want %d", short(c.v), short(got), c.code)
		}
	}
}

// There are as many events as cells: MaxCells at most, the longest of them with a step
// for each of the arrays and objects around, and none with a fault.
func TestStreamOfBounds(t *testing.T) {
	key := strings.Repeat(`"`, 60)
	for _, v := range append(wholeValues(), nested(20), emptyIn(20), keyNested(20, key, str(key)), arr(repeat(198, null())...)) {
		got := impl.StreamOf(v)
		if got.Code != 0 || len(got.Parts) != len(v) || len(v) > 200 {
			t.Fatalf("%s: %d, %d events", short(v), got.Code, len(got.Parts))
		}
		for _, e := range got.Parts {
			if impl.ValueFault(e) != 0 || len(e) > 22 {
				t.Errorf("%s: %s", short(v), short(e))
			}
		}
		checkValueOf(t, v, impl.FromStream(got.Parts))
	}
	for _, v := range []cells{numbersUpTo(200), objectOf(0, 200), arr(numbersUpTo(199)), nested(21)} {
		if got := impl.StreamOf(v); got.Code != modelFault(v) || got.Code == 0 || got.Parts != nil {
			t.Errorf("%s: %s", short(v), short(got))
		}
	}
	events := impl.StreamOf(nested(20)).Parts
	if len(events) != 20 || !slices.Equal(events[0], arr(stepped(19, 0), num(1))) || !slices.Equal(events[1], arr(stepped(19, 0))) || !slices.Equal(events[19], arr(pathOf(0))) {
		t.Error(short(events))
	}
}

func checkValueOf(t *testing.T, want cells, got impl.ReadResult) {
	t.Helper()
	if got.Code != 0 || got.At != 0 || !slices.Equal(got.Value, want) {
		t.Errorf("%s, want %s", short(got), short(want))
	}
}

func checkRead(t *testing.T, what any, got, want impl.ReadResult) {
	t.Helper()
	if got.Code != want.Code || got.At != want.At || !slices.Equal(got.Value, want.Value) {
		t.Errorf("%s: %s, want %s", short(what), short(got), short(want))
	}
}

// checkStreamFault holds the fault of events, and that the others tell it.
func checkStreamFault(t *testing.T, list []cells, code, at int64) {
	t.Helper()
	want := impl.ReadResult{Code: code, At: at}
	checkRead(t, list, impl.StreamFault(list), want)
	checkRead(t, list, modelStreamFault(samplesOf(list)), want)
	if code == 0 {
		return
	}
	checkRead(t, list, impl.FromStream(list), want)
	for _, depth := range []int64{0, 20, -1, 21} {
		if got := impl.CutStream(list, depth); got.Code != code || got.Parts != nil {
			t.Errorf("%s cut at %d: %s, want %d", short(list), depth, short(got), code)
		}
	}
}

// soundEvents have no fault, whatever they tell together.
func soundEvents() []cells {
	events := eventWords(`[[],null] [[],false] [[],true] [[],7] [[],"a"] [[],[]] [[],{}] [["a"],1] [["a"]] [[0],[]] [[0]] [[-1]] [["a",0,"b"],{}] [["a",0,"b"]] [[""],""] [[5,5],null] [[200]] [["a",-1000000000000000],1]`)
	return append(events, arr(stepped(198, "a")), arr(stepped(197, -1), arr()), arr(pathOf(strings.Repeat("k", 60)), str(strings.Repeat("x", 60))), arr(pathOf(impl.MaxNumber), num(-impl.MaxNumber)))
}

type faultyEvent struct {
	v    cells
	code int64
}

// faultyEvents have each fault, the first that is asked ahead of those behind it.
func faultyEvents() []faultyEvent {
	var list []faultyEvent
	add := func(code int64, events ...cells) {
		for _, v := range events {
			list = append(list, faultyEvent{v, code})
		}
	}
	for _, c := range faulty() {
		add(c.code, c.v)
		if len(c.v) > 0 && len(c.v) < 150 && modelFault(arr(pathOf("a"), c.v)) != 0 {
			add(modelFault(arr(pathOf("a"), c.v)), arr(pathOf("a"), c.v))
		}
	}
	// The fault as a value comes ahead of the others.
	add(impl.ErrMany, arr(stepped(199, "a")), arr(stepped(198, "a"), num(1)), arr(stepped(198, "a"), null(), null()), nil, cells{}, arr(repeat(200, null())...), arr(pathOf("a"), numbersUpTo(199)))
	add(impl.ErrRange, arr(null(), num(impl.MaxNumber+1)), arr(num(impl.MaxNumber+1)), arr(arr(null()), num(-impl.MaxNumber-1), null()))
	add(impl.ErrText, str("\n"), arr(pathOf("\n")), arr(arr(null()), arr(str("\n"))), obj(member("a", str("\x7f"))))
	add(impl.ErrForm, member("a", arr(pathOf("a"))), arr(member("k", pathOf("a"))), arr(pathOf("a"), member("k", num(1))), slices.Concat(arr(pathOf("a")), null()))
	add(impl.ErrDeep, arr(pathOf("a"), nested(20)), arr(nested(20)), nested(21))
	// No array, or of none or more than two elements.
	add(impl.ErrKind, null(), no(), yes(), num(0), num(1), str("a"), str(""), obj(), obj(member("a", pathOf("a"))), obj(member("a", pathOf("a")), member("b", num(1))), obj(member("", arr())))
	add(impl.ErrKind, arr(), arr(pathOf("a"), num(1), num(2)), arr(pathOf(), num(1), num(2)), arr(pathOf("a"), arr(num(1)), num(2)), arr(repeat(199, null())...), arr(repeat(3, pathOf("a"))...), arr(null(), null(), null()))
	// The first one is no path.
	for _, other := range []cells{null(), no(), yes(), num(0), str("a"), obj(), obj(member("a", str("b"))), arr(null()), arr(str("a"), no()), arr(num(0), arr(), str("a")), arr(pathOf()), arr(pathOf("a")), arr(obj()), nested(18)} {
		add(impl.ErrKind, arr(other), arr(other, num(1)), arr(other, arr(num(1))), arr(other, obj(member("a", null()))))
	}
	// The second one is no leaf, or there is none and the path is empty.
	for _, path := range []cells{pathOf(), pathOf("a"), pathOf(0, "b")} {
		add(impl.ErrForm, arr(path, arr(null())), arr(path, arr(arr())), arr(path, pathOf("a")), arr(path, obj(member("", null()))), arr(path, nested(19)), arr(path, objectOf(0, 150)))
	}
	add(impl.ErrForm, arr(pathOf()))
	return list
}

func TestStreamFault(t *testing.T) {
	sound := soundEvents()
	for i, v := range sound {
		checkStreamFault(t, []cells{v}, 0, 0)
		checkStreamFault(t, append(slices.Clone(sound[i:]), sound[:i]...), 0, 0)
	}
	checkStreamFault(t, repeat(200, sound[0]), 0, 0)
	checkStreamFault(t, repeat(200, arr(stepped(198, "a"))), 0, 0)
	checkStreamFault(t, nil, impl.ErrMany, 0)
	checkStreamFault(t, []cells{}, impl.ErrMany, 0)
	checkStreamFault(t, repeat(201, sound[0]), impl.ErrMany, 0)
	checkStreamFault(t, repeat(5000, sound[0]), impl.ErrMany, 0)
	// Ahead of every other fault.
	checkStreamFault(t, repeat(201, null()), impl.ErrMany, 0)
	checkStreamFault(t, repeat(201, nil), impl.ErrMany, 0)
}

// The first event that has a fault, whatever stands behind it.
func TestStreamFaultPlaces(t *testing.T) {
	sound, wrong := soundEvents(), faultyEvents()
	for i, c := range wrong {
		checkStreamFault(t, []cells{c.v}, c.code, 0)
		other := wrong[(i*7+3)%len(wrong)].v
		fine := sound[i%len(sound)]
		checkStreamFault(t, []cells{c.v, fine, other}, c.code, 0)
		checkStreamFault(t, []cells{fine, c.v, other}, c.code, 1)
		checkStreamFault(t, []cells{fine, fine, fine, c.v, fine}, c.code, 3)
		if i%4 == 0 {
			ahead := repeat(199, fine)
			checkStreamFault(t, append(slices.Clone(ahead), c.v), c.code, 199)
			checkStreamFault(t, append(slices.Clone(ahead), c.v, fine), impl.ErrMany, 0)
			checkStreamFault(t, append([]cells{c.v, fine}, ahead...), impl.ErrMany, 0)
		}
	}
}

func TestFromStreamCodes(t *testing.T) {
	for _, c := range []struct {
		events   string
		code, at int64
	}{
		// What SetPath tells, at its event.
		{`[["a"],1] [["a","b"],2]`, impl.ErrKind, 1}, {`[["a"],1] [["a"]] [["a","b"],2]`, impl.ErrKind, 2}, {`[[0],1] [["a"],2]`, impl.ErrKind, 1}, {`[["a"],1] [[0],2] [[0]]`, impl.ErrKind, 1}, {`[[],1] [["a"],2]`, impl.ErrKind, 1}, {`[[],[]] [["a"],2]`, impl.ErrKind, 1}, {`[[],{}] [[0],2]`, impl.ErrKind, 1}, {`[["a"],[]] [["a","b"],2] [[-1],3]`, impl.ErrKind, 1}, {`[[0,0],1] [[0,0,0],2]`, impl.ErrKind, 1}, {`[["x"]] [["y"]] [[],7] [["a"],2]`, impl.ErrKind, 3},
		{`[[-1],1]`, impl.ErrRange, 0}, {`[["a",-1],1]`, impl.ErrRange, 0}, {`[[0],1] [[-2],1]`, impl.ErrRange, 1}, {`[["a"],[]] [["a",-1],1] [["a",200],1]`, impl.ErrRange, 1}, {`[[0]] [[-1]] [[-1],1]`, impl.ErrRange, 2},
		{`[[200],1]`, impl.ErrMany, 0}, {`[[199],1]`, impl.ErrMany, 0}, {`[["a",198],1]`, impl.ErrMany, 0}, {`[[100],1] [[100,99],2]`, impl.ErrKind, 1}, {`[[100],null] [[100,98],2]`, impl.ErrMany, 1}, {`[[1000000000000000],1]`, impl.ErrMany, 0}, {`[[198],1] [[198]] [[199],2]`, impl.ErrMany, 2},
		// The events of closing put nothing, so nothing of theirs is a code of SetPath.
		{`[["a"],1] [[0]] [["a"]]`, impl.ErrForm, 0}, {`[[],1] [["a"]]`, impl.ErrForm, 0}, {`[["a"],1] [[-5]]`, impl.ErrForm, 0}, {`[["a"]]`, impl.ErrForm, 0}, {`[[0]]`, impl.ErrForm, 0}, {`[[200]] [[0],1] [[0]]`, impl.ErrForm, 0},
		// Events that are missing.
		{`[["a"],1]`, impl.ErrForm, 0}, {`[[0],1]`, impl.ErrForm, 0}, {`[[0,0],1] [[0]]`, impl.ErrForm, 0}, {`[[0,0],1] [[0,0]]`, impl.ErrForm, 0}, {`[[0,0],1]`, impl.ErrForm, 0}, {`[[1],1] [[1]]`, impl.ErrForm, 0}, {`[["a",0],1] [["a",0]] [["b"],1]`, impl.ErrForm, 0}, {`[["a",0],1] [["b"],1] [["b"]]`, impl.ErrForm, 0}, {`[[0],1] [[2],3] [[2]]`, impl.ErrForm, 0}, {`[[198],1] [[198]]`, impl.ErrForm, 0},
		// Too many.
		{`[[],1] [[],1]`, impl.ErrForm, 0}, {`[[],1] [[],2]`, impl.ErrForm, 0}, {`[[],null] [[],7]`, impl.ErrForm, 0}, {`[[0],1] [[0]] [[0]]`, impl.ErrForm, 0}, {`[[0],1] [[0],1] [[0]]`, impl.ErrForm, 0}, {`[[0],1] [[0],2] [[0]]`, impl.ErrForm, 0}, {`[["a"],[]] [["a"]] [["a"]]`, impl.ErrForm, 0}, {`[[],null] [["a"],1] [["a"]]`, impl.ErrForm, 0}, {`[["a"],null] [["a","b"],1] [["a","b"]] [["a"]]`, impl.ErrForm, 0}, {`[[0],[]] [[0,0],1] [[0,0]] [[0]]`, impl.ErrForm, 0}, {`[[],[]] [[0],1] [[0]]`, impl.ErrForm, 0}, {`[[],{}] [["a"],1] [["a"]]`, impl.ErrForm, 0}, {`[["a"],1] [["a"]] [["b"],2] [["b"]]`, impl.ErrForm, 0}, {`[[0],1] [[0]] [[1],2] [[1]]`, impl.ErrForm, 0},
		// Out of order.
		{`[["b"],1] [["a"],2] [["b"]]`, impl.ErrForm, 0}, {`[["b"],1] [["a"],2] [["a"]]`, impl.ErrForm, 0}, {`[[1],1] [[0],2] [[1]]`, impl.ErrForm, 0}, {`[[1],1] [[0],2] [[0]]`, impl.ErrForm, 0}, {`[[0]] [[0],1]`, impl.ErrForm, 0}, {`[[0,0],1] [[0]] [[0,0]]`, impl.ErrForm, 0}, {`[["a",0],1] [["b"],1] [["a",0]] [["b"]]`, impl.ErrForm, 0}, {`[["b"],1] [["a",0],1] [["a",0]] [["b"]]`, impl.ErrForm, 0},
		// Closing events that are wrong.
		{`[[0],1] [[1]]`, impl.ErrForm, 0}, {`[[0],1] [["0"]]`, impl.ErrForm, 0}, {`[["a"],1] [["b"]]`, impl.ErrForm, 0}, {`[[0],1] [[1],2] [[0]]`, impl.ErrForm, 0}, {`[[0],1] [[-1]]`, impl.ErrForm, 0}, {`[[0],1] [[0,0]]`, impl.ErrForm, 0}, {`[[0,0],1] [[0,1]] [[0]]`, impl.ErrForm, 0}, {`[[0,0],1] [[0,0]] [[1]]`, impl.ErrForm, 0}, {`[["a"],[]] [["a",0]] [["a"]]`, impl.ErrForm, 0}, {`[[],[]] [[0]]`, impl.ErrForm, 0},
		// Paths that are told otherwise.
		{`[[0],1] [[-1],2] [[0]]`, impl.ErrForm, 0}, {`[[0],1] [[-1],1] [[0]]`, impl.ErrForm, 0}, {`[[0],null] [[-1],1] [[0]]`, impl.ErrForm, 0},
	} {
		list := eventWords(c.events)
		want := impl.ReadResult{Code: c.code, At: c.at}
		checkRead(t, c.events, impl.FromStream(list), want)
		checkRead(t, c.events, modelFromStream(samplesOf(list)), want)
	}
}

// At the bounds: as deep and as many as can be, and one more.
func TestFromStreamBounds(t *testing.T) {
	check := func(list []cells, want impl.ReadResult) {
		t.Helper()
		checkRead(t, list, impl.FromStream(list), want)
		checkRead(t, list, modelFromStream(samplesOf(list)), want)
	}
	fails := func(code, at int64) impl.ReadResult { return impl.ReadResult{Code: code, At: at} }
	closing := func(depth int) []cells {
		var list []cells
		for n := depth; n > 0; n-- {
			list = append(list, arr(stepped(n, 0)))
		}
		return list
	}
	check(append([]cells{arr(stepped(19, 0), num(1))}, closing(19)...), impl.ReadResult{Value: nested(20)})
	check(append([]cells{arr(stepped(20, 0), num(1))}, closing(20)...), fails(impl.ErrDeep, 0))
	check(append([]cells{arr(stepped(18, 0), null()), arr(stepped(20, 0), num(1))}, closing(20)...), fails(impl.ErrDeep, 1))
	check([]cells{arr(stepped(197, "a"), num(1))}, fails(impl.ErrDeep, 0))
	check([]cells{arr(stepped(198, "a"))}, fails(impl.ErrForm, 0))
	var leaves []cells
	for n := range 199 {
		leaves = append(leaves, arr(pathOf(n), num(int64(n))))
	}
	check(append(leaves, arr(pathOf(198))), impl.ReadResult{Value: numbersUpTo(199)})
	check(append(leaves, arr(pathOf(199), null())), fails(impl.ErrMany, 199))
	check(leaves, fails(impl.ErrForm, 0))
	check(append(leaves, arr(pathOf(197))), fails(impl.ErrForm, 0))
	// A fault of an event comes ahead of what SetPath tells ahead of it.
	check([]cells{arr(pathOf(-1), num(1)), null()}, fails(impl.ErrKind, 1))
	check([]cells{arr(pathOf(200), num(1)), arr(pathOf("a")), arr(pathOf())}, fails(impl.ErrForm, 2))
	check(append([]cells{arr(pathOf(-1), num(1))}, repeat(200, arr(pathOf("a")))...), fails(impl.ErrMany, 0))
}

func TestCutStream(t *testing.T) {
	all := `[["a",0],1] [["a",1],2] [["a",1]] [["b"],null] [["b"]]`
	for _, c := range []struct {
		events string
		depth  int64
		want   string
	}{
		// Shorter than depth, as long, and longer.
		{all, 0, all}, {all, 1, `[[0],1] [[1],2] [[1]]`}, {all, 2, ``}, {all, 3, ``}, {all, 20, ``},
		{`[["a","b","c"],1] [["a","b","c"]] [["a","b"]] [["a"]]`, 0, `[["a","b","c"],1] [["a","b","c"]] [["a","b"]] [["a"]]`}, {`[["a","b","c"],1] [["a","b","c"]] [["a","b"]] [["a"]]`, 1, `[["b","c"],1] [["b","c"]] [["b"]]`}, {`[["a","b","c"],1] [["a","b","c"]] [["a","b"]] [["a"]]`, 2, `[["c"],1] [["c"]]`}, {`[["a","b","c"],1] [["a","b","c"]] [["a","b"]] [["a"]]`, 3, ``},
		// A path of no element has not more than none.
		{`[[],1]`, 0, ``}, {`[[],1]`, 1, ``}, {`[[],[]]`, 0, ``}, {`[[],1] [["a"],2] [[],{}] [[0]]`, 0, `[["a"],2] [[0]]`}, {`[["a"],1]`, 0, `[["a"],1]`}, {`[["a"],1]`, 1, ``},
		// In order, whatever they tell together, and leaves stay as they are.
		{`[[1,0],{}] [[0],1] [["x","y"]] [[1,0],{}] [[5,-1,"z"],"s"]`, 1, `[[0],{}] [["y"]] [[0],{}] [[-1,"z"],"s"]`}, {`[[1,"a"],[]] [[1,"a"],null]`, 1, `[["a"],[]] [["a"],null]`}, {`[["a","a","a"],0]`, 2, `[["a"],0]`}, {`[["]","["],"]"]`, 1, `[["["],"]"]`},
	} {
		list := eventWords(c.events)
		want := strings.ReplaceAll(c.want, " ", "\n")
		if got := eventsAs(impl.CutStream(list, c.depth)); got != want {
			t.Errorf("%s cut at %d: %s, want %s", c.events, c.depth, got, want)
		}
		if got := modelCut(samplesOf(list), c.depth); got != want {
			t.Errorf("%s cut at %d: the model tells %s, want %s", c.events, c.depth, got, want)
		}
	}
}

// Each depth there may be, with paths from none of its elements to all that there may
// be, and depths that there may not be.
func TestCutStreamDepths(t *testing.T) {
	var list []cells
	for n := range 30 {
		list = append(list, arr(stepped(n, "a"), num(int64(n))), arr(pathSteps(n+1)))
	}
	list = append(list, arr(stepped(197, 3), null()), arr(stepped(198, 3)))
	for depth := range int64(21) {
		got := impl.CutStream(list, depth)
		if want := modelCut(samplesOf(list), depth); eventsAs(got) != want || len(got.Parts) != 62-int(2*depth)-1 {
			t.Errorf("%d: %d events, %s, want %s", depth, len(got.Parts), short(eventsAs(got)), short(want))
		}
		for _, e := range got.Parts {
			if modelEventFault(sampleOf(e)) != 0 {
				t.Errorf("%d: %s has a fault", depth, short(e))
			}
		}
	}
	for _, depth := range append([]int64{21, 22, 60, -1 << 32, 1 << 32, 1<<32 + 1}, farNumbers...) {
		if depth >= 0 && depth <= impl.MaxDepth {
			continue
		}
		if got := impl.CutStream(list, depth); got.Code != impl.ErrRange || got.Parts != nil {
			t.Errorf("%d: %s", depth, short(got))
		}
		if got := impl.CutStream(nil, depth); got.Code != impl.ErrMany || got.Parts != nil {
			t.Errorf("%d: %s", depth, short(got))
		}
	}
}

// pathSteps is a path of the numbers below n.
func pathSteps(n int) cells {
	var steps []any
	for i := range n {
		steps = append(steps, i)
	}
	return pathOf(steps...)
}

// What is cut of a value's events by the depth at which a part of it is are the events
// of that part.
func TestCutStreamIsOfParts(t *testing.T) {
	for _, v := range slices.Concat(containers(), pathValues(), wholeValues()) {
		events := impl.StreamOf(v).Parts
		begin := 0
		for n, part := range impl.EachOf(v).Parts {
			inner := impl.StreamOf(part).Parts
			cut := impl.CutStream(events[begin:begin+len(inner)], 1)
			if part[0].N == 0 {
				inner = nil
			}
			if cut.Code != 0 || !slices.EqualFunc(cut.Parts, inner, slices.Equal[cells]) {
				t.Errorf("%s, part %d: %s, want %s", short(v), n, short(cut), short(inner))
			}
			begin += max(1, len(inner))
		}
	}
}
