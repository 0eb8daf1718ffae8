package tests

import (
	"math"
	"reflect"
	"slices"
	"strconv"
	"strings"
	"testing"

	"loop.example/g00166/impl"
)

// checkReadPrint holds that a value is read back from a print, where that is not too
// long to be read.
func checkReadPrint(t *testing.T, v cells, text string, got impl.ReadResult) {
	t.Helper()
	want := impl.ReadResult{Value: v}
	if len(text) > impl.MaxText {
		want = impl.ReadResult{Code: impl.ErrMany}
	}
	checkRead(t, text, got, want)
}

// checkStreamed holds all that is asked of one value against the model, and P16.
func checkStreamed(t *testing.T, s sample, indents []int64) {
	t.Helper()
	stream := impl.StreamOf(s.v)
	if got, want := eventsAs(stream), modelStreamOf(s); got != want {
		t.Errorf("%s: %s, want %s", short(s.v), short(got), short(want))
	}
	flat := impl.FlatText(s.v)
	if want := modelFlat(s); flat != want {
		t.Errorf("%s: %s, want %s", short(s.v), short(flat), short(want))
	}
	for _, indent := range indents {
		pretty := impl.PrettyValue(s.v, indent)
		if want := modelPretty(s, indent); pretty != want {
			t.Errorf("%s by %d: %s, want %s", short(s.v), indent, short(pretty), short(want))
		}
		if got, want := impl.SizeText(s.v, indent), modelSize(s, indent); got != want {
			t.Errorf("%s by %d: %v, want %v", short(s.v), indent, got, want)
		}
		if pretty.Code == 0 {
			checkReadPrint(t, s.v, pretty.Text, impl.DecodeValue(pretty.Text))
		}
	}
	if s.fault == 0 {
		checkValueOf(t, s.v, impl.FromStream(stream.Parts))
		checkReadPrint(t, s.v, flat.Text, impl.UnflatText(flat.Text))
	}
}

var allIndents = []int64{0, 1, 2, 3, 4, 5, 6, 7, 8, 9, -1}

func TestStreamsOfSmallValues(t *testing.T) {
	t.Parallel()
	for i, s := range samplesOf(smallValues()) {
		checkStreamed(t, s, []int64{int64(i % 9)})
	}
}

func TestStreamsOfPoolValues(t *testing.T) {
	t.Parallel()
	for _, v := range slices.Concat(opPool(), pathValues(), wholeValues(), faults()) {
		checkStreamed(t, sampleOf(v), allIndents)
	}
	for i, v := range containers() {
		checkStreamed(t, sampleOf(v), allIndents[i%9:][:1])
	}
	for depth := 1; depth <= 20; depth++ {
		for _, v := range []cells{nested(depth), emptyIn(depth), keyNested(depth, `"\`, obj()), keyNested(depth, "", str("]"))} {
			checkStreamed(t, sampleOf(v), allIndents)
		}
	}
	for _, n := range []int{1, 50, 100, 148, 149, 150, 160, 170, 181} {
		for size := 0; size <= 60; size += 20 {
			checkStreamed(t, sampleOf(wordyValue(n, size)), allIndents)
		}
	}
}

// Values of all sizes.
func TestStreamsOfThrownValues(t *testing.T) {
	for part := range 4 {
		t.Run(strconv.Itoa(part), func(t *testing.T) {
			t.Parallel()
			d := dice(900 + part)
			for i := range 400 {
				v := d.value(1 + d.below([]int{5, 20, 80, 199}[part]))
				if part == 3 && i%4 == 0 {
					v = cellsOf(d.flat(199))
				}
				checkStreamed(t, sampleOf(v), []int64{int64(i % 9)})
			}
		})
	}
}

// checkStream holds all that is asked of a list of events against the model.
func checkStream(t *testing.T, list []sample, depth int64) impl.ReadResult {
	t.Helper()
	var given []cells
	for _, e := range list {
		given = append(given, e.v)
	}
	checkRead(t, given, impl.StreamFault(given), modelStreamFault(list))
	got := impl.FromStream(given)
	checkRead(t, given, got, modelFromStream(list))
	if cut, want := eventsAs(impl.CutStream(given, depth)), modelCut(list, depth); cut != want {
		t.Errorf("%s cut at %d: %s, want %s", short(given), depth, short(cut), short(want))
	}
	return got
}

// All short lists of some events.
func TestShortStreams(t *testing.T) {
	t.Parallel()
	for part, events := range []string{
		`[[],1] [["a"],1] [["a"]] [["b"],[]] [["b"]] [["a","a"],{}] [["a","a"]] [[],{}]`,
		`[[],[]] [[0],1] [[0]] [[1],{}] [[1]] [[0,0],null] [[0,0]] [[-1],2] [[-1]]`,
		`[["a",0],1] [["a",0]] [["a"]] [["b"],2] [["b"]] [[0]] [["a",1],3] [["a",1]]`,
		`[[0,"a"],1] [[0,"a"]] [[0]] [[1]] [[1,"b"],2] [[1,"b"]] 7 [[]] [["a"],1]`,
	} {
		alphabet := samplesOf(eventWords(events))
		lists := [][]sample{nil}
		met := map[int64]int{}
		for range 4 {
			var longer [][]sample
			for _, list := range lists {
				for _, e := range alphabet {
					longer = append(longer, append(slices.Clone(list), e))
				}
			}
			for i, list := range longer {
				met[checkStream(t, list, int64(i%4)-int64(i%61/60)).Code]++
			}
			lists = longer
		}
		if met[0] < 1 || met[impl.ErrForm] < 500 || part != 2 && met[impl.ErrKind] < 100 {
			t.Error(part, met)
		}
	}
}

// Events of values with one of them left out, doubled, put elsewhere or changed: no
// other list than that of StreamOf comes to a value.
func TestChangedStreams(t *testing.T) {
	d := dice(950)
	others := samplesOf(append(soundEvents(), null(), arr(), arr(pathOf())))
	for i := range 500 {
		s := sampleOf(d.value(1 + d.below(12)))
		events := samplesOf(impl.StreamOf(s.v).Parts)
		at, to := d.below(len(events)), d.below(len(events))
		with := func(ahead, behind int, more ...sample) []sample {
			return slices.Concat(events[:ahead:ahead], more, events[behind:])
		}
		swapped := slices.Clone(events)
		swapped[at], swapped[to] = swapped[to], swapped[at]
		other := others[d.below(len(others))]
		for _, list := range [][]sample{events, with(at, at+1), with(at, at, events[at]), with(at, at, events[to]), with(at, at+1, events[to]), swapped, with(at, at+1, other), with(at, at, other), events[:at], events[at:], append(slices.Clone(events), other), append(slices.Clone(events), events...)} {
			got := checkStream(t, list, int64(i%5))
			if got.Code == 0 && !slices.EqualFunc(list, impl.StreamOf(got.Value).Parts, func(e sample, v cells) bool { return slices.Equal(e.v, v) }) {
				t.Errorf("%s: %s", short(list), short(got))
			}
		}
	}
}

func TestUnflatAgainstModel(t *testing.T) {
	t.Parallel()
	check := func(text string) { checkRead(t, strconv.Quote(text), impl.UnflatText(text), modelUnflat(text)) }
	shortTexts("", []string{".", "[0]", `["a"]`, " = ", "1", "\n", "[]"}, 6, check)
	shortTexts(".[0] = 1\n", []string{".", "[0]", "[1]", "[-1]", " = ", "2", "\n"}, 5, check)
	shortTexts(".[", []string{`"`, `\`, "a", "]", "0", "-", " = 1", "\n"}, 5, check)
	shortTexts(". = ", []string{`"`, `\`, "a", "0", "-", "[", "]", "{", "}", " ", "\n"}, 4, check)
	shortTexts("", []string{".[0] = 1\n", ".[1] = 2\n", ".[0][0] = 1\n", ". = []\n", ".[\"a\"] = 1\n", ".[-1] = 3\n", ".[1][\"a\"] = {}\n"}, 5, check)
	shortTexts("", []string{".[\"a\"] = 1\n", ".[\"b\"] = 2\n", ".[\"a\"][\"b\"] = null\n", ". = {}\n", ". = null\n", ".[\"a\"][0] = []\n"}, 5, check)
	for _, text := range []string{".[\"a\"][10] = \"x y\"\n", ".[0] = -12\n.[1][\"\\\"\"] = {}\n", ". = true\n"} {
		changedTexts(text, check)
	}
}

// Lines of values, with some of them left out, doubled, put elsewhere or changed.
func TestChangedFlatTexts(t *testing.T) {
	d := dice(960)
	check := func(lines []string, end string) {
		text := strings.Join(lines, "\n") + end
		checkRead(t, strconv.Quote(text), impl.UnflatText(text), modelUnflat(text))
	}
	for range 400 {
		v := d.value(1 + d.below(15))
		lines := strings.Split(strings.TrimSuffix(impl.FlatText(v).Text, "\n"), "\n")
		at, to := d.below(len(lines)), d.below(len(lines))
		swapped := slices.Clone(lines)
		swapped[at], swapped[to] = swapped[to], swapped[at]
		check(lines, "\n")
		check(lines, "")
		check(lines, "\n\n")
		check(swapped, "\n")
		check(slices.Delete(slices.Clone(lines), at, at+1), "\n")
		check(slices.Insert(slices.Clone(lines), at, lines[to]), "\n")
		check(slices.Insert(slices.Clone(lines), at, lines[to]+" "), "\n")
		check(slices.Insert(slices.Clone(lines), at, ". = null"), "\n")
		check(append(slices.Clone(lines), strings.Replace(lines[at], " = ", "[0] = ", 1)), "\n")
		check(append(slices.Clone(lines), strings.Replace(lines[at], "[", "[-", 1)), "\n")
	}
}

func callAllStreams(v cells, list []cells, n int64, text string) []any {
	return []any{
		impl.StreamOf(v), impl.StreamFault(list), impl.FromStream(list), impl.CutStream(list, n), impl.PrettyValue(v, n), impl.FlatText(v), impl.UnflatText(text), impl.SizeText(v, n),
		// One list in several places.
		impl.FromStream([]cells{v}), impl.CutStream([]cells{v, v}, 0), impl.CutStream(append(slices.Clone(list), list...), 1), impl.StreamFault([]cells{v, v, v}),
	}
}

func cloneLists(list []cells) []cells {
	clone := slices.Clone(list)
	for i, v := range clone {
		clone[i] = slices.Clone(v)
	}
	return clone
}

func roomyLists(list []cells) []cells {
	roomy := append(make([]cells, 0, len(list)+3), list...)
	for i, v := range roomy {
		roomy[i] = roomyCells(v)
	}
	return roomy
}

func streamLists(values []cells) [][]cells {
	lists := [][]cells{nil, soundEvents(), repeat(200, arr(pathOf("a", 0), num(1))), repeat(201, arr(pathOf("a"))), eventWords(`[["a",0],1] [["a",0]] [["b"],[]] [["b"]]`), eventWords(`[[0],1] [["a"],2]`)}
	for i, v := range values {
		if i%3 == 0 {
			lists = append(lists, impl.StreamOf(v).Parts)
		}
	}
	for i, c := range faultyEvents() {
		if i%5 == 0 {
			lists = append(lists, []cells{arr(pathOf("a")), c.v})
		}
	}
	return lists
}

// P1 of this chapter.
func TestStreamsArgumentsStayAndAnswersAreNew(t *testing.T) {
	values := slices.Concat(pathValues(), opPool(), faults(), wholeValues())
	lists := streamLists(values)
	texts := []string{"", ".[\"a\"][0] = []\n.[\"b\"] = {}\n", ". = 1\n", "x", ".[0] = 1\n.[\"a\"] = 1\n", ".[1] = 1\n", strings.Repeat("x", 5000)}
	numbers := append([]int64{5, 8, 9, 19, 20, 21}, farNumbers...)
	for i := range 3 * len(values) {
		v, list, n, text := values[i%len(values)], lists[(i*5)%len(lists)], numbers[(i*3)%len(numbers)], texts[i%len(texts)]
		if i%3 > 0 {
			// Those that tell no code are seldom met else.
			n = int64(i % 9)
		}
		keptV, keptList := slices.Clone(v), cloneLists(list)
		first := callAllStreams(v, list, n, text)
		checkApart(t, first, v, list)
		// Nor do two answers.
		for n := range first[1:] {
			checkApart(t, first[n:n+1], first[n+1])
		}
		second := callAllStreams(v, list, n, text)
		if !reflect.DeepEqual(first, second) {
			t.Errorf("%s, %s, %d: %s, then %s", short(v), short(list), n, short(first), short(second))
		}
		scribble(first)
		if !slices.Equal(v, keptV) || !slices.EqualFunc(list, keptList, slices.Equal[cells]) {
			t.Errorf("%s or %s is changed", short(keptV), short(keptList))
		}
		roomyV, roomyList := roomyCells(v), roomyLists(list)
		third := callAllStreams(roomyV, roomyList, n, text)
		if !reflect.DeepEqual(second, third) {
			t.Errorf("%s, %s, %d: %s, then %s", short(v), short(list), n, short(second), short(third))
		}
		checkApart(t, third, roomyV, roomyList)
		scribble(third)
		for _, roomy := range append(slices.Clone(roomyList), roomyV) {
			if slices.ContainsFunc(roomy[:cap(roomy)][len(roomy):], func(c impl.Cell) bool { return c != impl.Cell{} }) {
				t.Errorf("%s or %s is written behind", short(v), short(list))
			}
		}
		if slices.ContainsFunc(roomyList[:cap(roomyList)][len(list):], func(v cells) bool { return v != nil }) {
			t.Errorf("%s is written behind", short(list))
		}
	}
	if !reflect.DeepEqual(callAllStreams(nil, nil, 0, ""), callAllStreams(cells{}, []cells{}, 0, "")) || !reflect.DeepEqual(callAllStreams(nil, []cells{nil}, 0, ""), callAllStreams(cells{}, []cells{{}}, 0, "")) {
		t.Error("nil and an empty list are told apart")
	}
}

// Any short list of cells in place of each argument, alone and in lists: it is
// answered, as the model tells.
func TestStreamsAnswerAtEveryArgument(t *testing.T) {
	t.Parallel()
	alphabet := append(smallAlphabet(), impl.Cell{Kind: impl.KindString, Text: "a"}, impl.Cell{Kind: 7}, impl.Cell{Kind: impl.KindArray, N: 200})
	numbers := []int64{0, 1, 2, 8, 9, 20, 21, -1, math.MinInt64, math.MaxInt64}
	for i, s := range samplesOf(shortLists(alphabet, 3)) {
		checkStreamed(t, s, numbers[i%len(numbers):][:1])
		checkStream(t, []sample{s}, numbers[i%len(numbers)])
	}
	lists := samplesOf(shortLists(append(smallAlphabet()[:1:1], impl.Cell{Kind: impl.KindArray}, impl.Cell{Kind: impl.KindArray, N: 1}, impl.Cell{Kind: impl.KindArray, N: 2}, impl.Cell{Kind: impl.KindString, Text: "a"}), 4))
	for i, s := range lists {
		checkStream(t, []sample{s}, int64(i%3))
		checkStream(t, []sample{s, lists[(i*7+5)%len(lists)]}, int64(i%3))
		checkStream(t, []sample{lists[i%6], s}, int64(i%3))
	}
	for _, text := range []string{strings.Repeat(".", 3000), strings.Repeat(". = ", 900), strings.Repeat("\x00", 4000), strings.Repeat(".[", 2000), strings.Repeat("é", 1000), ".[0", ".[\"", ". = \"", strings.Repeat(".[0] = 1\n", 444), strings.Repeat(".[\"a\"][0] = 1\n", 285)} {
		checkRead(t, text, impl.UnflatText(text), modelUnflat(text))
	}
}
