package tests

import (
	"maps"
	"math/big"
	"slices"
	"strconv"
	"testing"

	"loop.example/g00166/impl"
)

func TestCountConstants(t *testing.T) {
	if impl.Many != 1000 {
		t.Error(impl.Many)
	}
}

// countNames are parts whose counts are plain, and those with F behind their name,
// which may fail, too. Each is read with the names ahead of it.
func countNames() map[string]string {
	names := map[string]string{}
	for _, part := range [][2]string{
		{"None", "empty"}, {"One", "self"}, {"Two", wideCore(2).String()}, {"Three", wideCore(3).String()}, {"Five", wideCore(5).String()}, {"Ten", wideCore(10).String()},
		{"Maybe", "try(do:1)"}, {"Some", "comma(self Maybe)"}, {"Any", "try(each(self))"}, {"Least", "comma(self Any)"},
		{"Half", "pipe(Five pipe(Ten Ten))"}, {"Full", "pipe(Two Half)"}, {"Nines", "pipe(pipe(Three pipe(Three Three)) " + wideCore(37).String() + ")"}, {"Limit", "try(pipe(Nines do:1))"},
	} {
		names[part[0]] = namedTwigs(names, part[1]).String()
	}
	for name, text := range maps.Clone(names) {
		names[name+"F"] = "pipe(" + text + " do:1)"
	}
	return names
}

type countCase struct{ core, want string }

// checkCounted holds CountCore and the model against what is told by hand.
func checkCounted(t *testing.T, cases []countCase) {
	t.Helper()
	names := countNames()
	for _, c := range cases {
		w := namedTwigs(names, c.core)
		if got := countAs(impl.CountCore(w.nodes())); got != c.want {
			t.Errorf("%s: %s, want %s", c.core, got, c.want)
		}
		if got := countAs(modelCounted(w)); got != c.want {
			t.Errorf("%s: the model has %s, want %s", c.core, got, c.want)
		}
	}
}

func checkCount(t *testing.T, w *twig) {
	t.Helper()
	if got, want := impl.CountCore(w.nodes()), modelCounted(w); got != want {
		t.Fatalf("%s: %s, want %s", short(w), countAs(got), countAs(want))
	}
}

func TestCountNames(t *testing.T) {
	wants := map[string]string{"None": "0 0", "One": "1 1", "Two": "2 2", "Three": "3 3", "Five": "5 5", "Ten": "10 10", "Maybe": "0 1", "Some": "1 2", "Any": "0 1000", "Least": "1 1000", "Nines": "999 999", "Half": "500 500", "Full": "1000 1000", "Limit": "0 999"}
	for name, want := range wants {
		checkCounted(t, []countCase{{name, want}, {name + "F", want + " fails"}})
	}
	if len(countNames()) != 2*len(wants) {
		t.Error(len(countNames()))
	}
}

func TestCountLeaves(t *testing.T) {
	checkCounted(t, []countCase{
		{"self", "1 1"}, {"const=1", "1 1"}, {"const=null", "1 1"}, {"const=false", "1 1"}, {"const=[]", "1 1"}, {"const=[1,2,3]", "1 1"}, {"empty", "0 0"}, {"as:0(self var:0)", "1 1"}, {"as:59(self as:0(self var:59))", "1 1"}, {"reduce:0(self self var:0)", "1 1"},
		{"do:1", "1 1 fails"}, {"do:2", "1 1 fails"}, {"do:3", "1 1"}, {"do:4", "1 1 fails"}, {"do:5", "1 1 fails"}, {"do:6", "1 1 fails"}, {"do:7", "1 1 fails"}, {"do:8", "1 1 fails"},
	})
}

func TestCountProducts(t *testing.T) {
	for _, op := range []string{"pipe", "as:0", "bin:4"} {
		checkCounted(t, []countCase{
			{op + "(One One)", "1 1"}, {op + "(Two Three)", "6 6"}, {op + "(Three Two)", "6 6"}, {op + "(Some Three)", "3 6"}, {op + "(Three Some)", "3 6"}, {op + "(Some Some)", "1 4"}, {op + "(Maybe Three)", "0 3"}, {op + "(Three Maybe)", "0 3"}, {op + "(Maybe Maybe)", "0 1"},
			{op + "(None One)", "0 0"}, {op + "(One None)", "0 0"}, {op + "(None None)", "0 0"}, {op + "(None Full)", "0 0"}, {op + "(Full None)", "0 0"}, {op + "(None Any)", "0 0"}, {op + "(Any None)", "0 0"}, {op + "(Least None)", "0 0"},
			{op + "(Any One)", "0 1000"}, {op + "(One Any)", "0 1000"}, {op + "(Any Any)", "0 1000"}, {op + "(Least Two)", "2 1000"}, {op + "(Two Least)", "2 1000"}, {op + "(Least Maybe)", "0 1000"}, {op + "(Least Least)", "1 1000"},
			// At Many, below it and past it.
			{op + "(Nines One)", "999 999"}, {op + "(Half One)", "500 500"}, {op + "(Half Two)", "1000 1000"}, {op + "(Two Half)", "1000 1000"}, {op + "(Half Three)", "1000 1000"}, {op + "(Half Some)", "500 1000"}, {op + "(Nines Two)", "1000 1000"}, {op + "(Nines Some)", "999 1000"}, {op + "(Nines Nines)", "1000 1000"}, {op + "(Full One)", "1000 1000"}, {op + "(One Full)", "1000 1000"}, {op + "(Full Full)", "1000 1000"}, {op + "(Full Maybe)", "0 1000"}, {op + "(Limit One)", "0 999"}, {op + "(Limit Two)", "0 1000"}, {op + "(Least Full)", "1000 1000"},
			// One may.
			{op + "(OneF One)", "1 1 fails"}, {op + "(One OneF)", "1 1 fails"}, {op + "(OneF OneF)", "1 1 fails"}, {op + "(NoneF One)", "0 0 fails"}, {op + "(None OneF)", "0 0 fails"}, {op + "(OneF None)", "0 0 fails"}, {op + "(One NoneF)", "0 0 fails"}, {op + "(AnyF Two)", "0 1000 fails"}, {op + "(Two SomeF)", "2 4 fails"},
		})
	}
	// The ops that may have a code of their own, and those that may not.
	for num := int64(1); num <= 11; num++ {
		bin := "bin:" + strconv.FormatInt(num, 10)
		may := map[bool]string{true: " fails"}[num < 4 || num > 9]
		checkCounted(t, []countCase{{bin + "(One One)", "1 1" + may}, {bin + "(None None)", "0 0" + may}, {bin + "(Two Some)", "2 4" + may}, {bin + "(const=1 const=2)", "1 1" + may}, {bin + "(OneF One)", "1 1 fails"}, {bin + "(One OneF)", "1 1 fails"}, {bin + "(Full Any)", "0 1000" + may}})
	}
	for _, op := range []string{"at", `member="k"`} {
		checkCounted(t, []countCase{{op + "(One One)", "1 1 fails"}, {op + "(Two Three)", "6 6 fails"}, {op + "(Some Two)", "2 4 fails"}, {op + "(None One)", "0 0 fails"}, {op + "(One None)", "0 0 fails"}, {op + "(None None)", "0 0 fails"}, {op + "(Half Two)", "1000 1000 fails"}, {op + "(Half Three)", "1000 1000 fails"}, {op + "(Least None)", "0 0 fails"}, {op + "(OneF One)", "1 1 fails"}, {op + "(One OneF)", "1 1 fails"}, {op + "(const={} const=\"a\")", "1 1 fails"}})
	}
}

func TestCountSums(t *testing.T) {
	checkCounted(t, []countCase{
		{"comma(One One)", "2 2"}, {"comma(None One)", "1 1"}, {"comma(One None)", "1 1"}, {"comma(None None)", "0 0"}, {"comma(Two Three)", "5 5"}, {"comma(Some Maybe)", "1 3"}, {"comma(Maybe Some)", "1 3"}, {"comma(Any One)", "1 1000"}, {"comma(One Any)", "1 1000"}, {"comma(Any None)", "0 1000"}, {"comma(Any Any)", "0 1000"}, {"comma(Least Least)", "2 1000"},
		// At Many, below it and past it.
		{"comma(Half Half)", "1000 1000"}, {"comma(Half Nines)", "1000 1000"}, {"comma(Nines One)", "1000 1000"}, {"comma(One Nines)", "1000 1000"}, {"comma(Nines None)", "999 999"}, {"comma(Nines Two)", "1000 1000"}, {"comma(Nines Maybe)", "999 1000"}, {"comma(Nines Some)", "1000 1000"}, {"comma(Limit One)", "1 1000"}, {"comma(Limit Two)", "2 1000"}, {"comma(Full One)", "1000 1000"}, {"comma(Full Full)", "1000 1000"}, {"comma(Nines Nines)", "1000 1000"},
		{"comma(OneF One)", "2 2 fails"}, {"comma(One OneF)", "2 2 fails"}, {"comma(NoneF One)", "1 1 fails"}, {"comma(One NoneF)", "1 1 fails"}, {"comma(AnyF OneF)", "1 1000 fails"},
		{"comma(do:8 One)", "2 2 fails"}, {"comma(One do:3)", "2 2"},
	})
}

func TestCountIf(t *testing.T) {
	checkCounted(t, []countCase{
		{"if(One One One)", "1 1"}, {"if(One One None)", "0 1"}, {"if(One None One)", "0 1"}, {"if(One None None)", "0 0"}, {"if(None One One)", "0 0"}, {"if(None Full Any)", "0 0"}, {"if(One Two Three)", "2 3"}, {"if(One Three Two)", "2 3"}, {"if(Two Two Three)", "4 6"}, {"if(Some Two Three)", "2 6"}, {"if(Maybe Two Three)", "0 3"}, {"if(Two Some Three)", "2 6"}, {"if(Two Three Some)", "2 6"}, {"if(One Any Two)", "0 1000"}, {"if(One Least Two)", "1 1000"}, {"if(Any One One)", "0 1000"}, {"if(Any None None)", "0 0"}, {"if(Two Least Three)", "2 1000"},
		{"if(Two Half One)", "2 1000"}, {"if(Two One Half)", "2 1000"}, {"if(Two Half Nines)", "1000 1000"}, {"if(Three Half Nines)", "1000 1000"}, {"if(Full One Two)", "1000 1000"}, {"if(Half One Two)", "500 1000"}, {"if(One Nines Full)", "999 1000"}, {"if(Nines One One)", "999 999"},
		{"if(OneF One One)", "1 1 fails"}, {"if(One OneF One)", "1 1 fails"}, {"if(One One OneF)", "1 1 fails"}, {"if(NoneF One One)", "0 0 fails"}, {"if(None OneF One)", "0 0 fails"}, {"if(None One OneF)", "0 0 fails"}, {"if(const=1 One do:8)", "1 1 fails"},
	})
}

// An each of nothing has a code only where its A has.
func TestCountEach(t *testing.T) {
	checkCounted(t, []countCase{
		{"each(One)", "0 1000 fails"}, {"each(Two)", "0 1000 fails"}, {"each(Maybe)", "0 1000 fails"}, {"each(Some)", "0 1000 fails"}, {"each(Any)", "0 1000 fails"}, {"each(Full)", "0 1000 fails"}, {"each(OneF)", "0 1000 fails"}, {"each(const=[])", "0 1000 fails"}, {"each(const=[1,2])", "0 1000 fails"},
		{"each(None)", "0 0"}, {"each(NoneF)", "0 0 fails"}, {"each(each(None))", "0 0"}, {"each(each(NoneF))", "0 0 fails"}, {"each(pipe(None None))", "0 0"}, {"each(pipe(Any None))", "0 0"}, {"each(pipe(AnyF None))", "0 0 fails"}, {"each(try(NoneF))", "0 0"}, {"each(each(One))", "0 1000 fails"}, {"each(try(each(One)))", "0 1000 fails"}, {"pipe(each(One) None)", "0 0 fails"}, {"pipe(None each(One))", "0 0 fails"},
	})
}

func TestCountTry(t *testing.T) {
	checkCounted(t, []countCase{
		{"try(One)", "1 1"}, {"try(None)", "0 0"}, {"try(Two)", "2 2"}, {"try(Some)", "1 2"}, {"try(Least)", "1 1000"}, {"try(Full)", "1000 1000"}, {"try(Nines)", "999 999"},
		{"try(OneF)", "0 1"}, {"try(NoneF)", "0 0"}, {"try(TwoF)", "0 2"}, {"try(SomeF)", "0 2"}, {"try(LeastF)", "0 1000"}, {"try(FullF)", "0 1000"}, {"try(NinesF)", "0 999"}, {"try(comma(Two do:8))", "0 3"}, {"try(do:3)", "1 1"}, {"try(each(None))", "0 0"}, {"try(each(One))", "0 1000"},
		{"try(try(OneF))", "0 1"}, {"try(try(TwoF))", "0 2"}, {"comma(try(TwoF) try(Two))", "2 4"}, {"try(list(None))", "1 1"}, {"try(list(One))", "0 1"},
	})
}

// A list has a code of its own wherever something may come to it: even where its A
// makes nothing, but is no CoreEmpty.
func TestCountList(t *testing.T) {
	checkCounted(t, []countCase{
		{"list(empty)", "1 1"}, {"list(One)", "1 1 fails"}, {"list(Two)", "1 1 fails"}, {"list(Any)", "1 1 fails"}, {"list(Maybe)", "1 1 fails"}, {"list(Full)", "1 1 fails"}, {"list(OneF)", "1 1 fails"}, {"list(NoneF)", "1 1 fails"}, {"list(const=1)", "1 1 fails"},
		{"list(pipe(empty empty))", "1 1 fails"}, {"list(comma(empty empty))", "1 1 fails"}, {"list(try(empty))", "1 1 fails"}, {"list(each(empty))", "1 1 fails"}, {"list(pipe(self empty))", "1 1 fails"}, {"list(list(empty))", "1 1 fails"}, {"list(alt(empty empty))", "1 1 fails"}, {"list(self)", "1 1 fails"}, {"list(if(empty empty empty))", "1 1 fails"},
		{"comma(list(empty) empty)", "1 1"}, {"comma(list(empty) list(empty))", "2 2"}, {"pipe(list(empty) self)", "1 1"},
	})
}

func TestCountReduce(t *testing.T) {
	checkCounted(t, []countCase{
		{"reduce:0(One One One)", "1 1"}, {"reduce:0(Any One None)", "1 1"}, {"reduce:0(None Two None)", "2 2"}, {"reduce:0(Two None Two)", "0 0"}, {"reduce:0(Three Some Full)", "1 2"}, {"reduce:0(Full Maybe Any)", "0 1"}, {"reduce:0(One Any One)", "0 1000"}, {"reduce:0(None Least None)", "1 1000"}, {"reduce:0(Two Full Two)", "1000 1000"}, {"reduce:0(One Nines One)", "999 999"},
		{"reduce:0(OneF One One)", "1 1 fails"}, {"reduce:0(One OneF One)", "1 1 fails"}, {"reduce:0(One One OneF)", "1 1 fails"}, {"reduce:0(NoneF One One)", "1 1 fails"}, {"reduce:0(None None OneF)", "0 0 fails"}, {"reduce:0(None One OneF)", "1 1 fails"}, {"reduce:0(each(self) const=0 bin:1(self var:0))", "1 1 fails"},
	})
}

// What an alternative makes at least: one of A may stand for all of B; where A makes
// nothing, B does all.
func TestCountAlt(t *testing.T) {
	checkCounted(t, []countCase{
		{"alt(One One)", "1 1"}, {"alt(One Two)", "1 2"}, {"alt(One Three)", "1 3"}, {"alt(Two One)", "1 2"}, {"alt(Three Two)", "1 3"}, {"alt(Three Three)", "1 3"}, {"alt(Full Full)", "1 1000"}, {"alt(Maybe One)", "1 1"}, {"alt(Maybe Two)", "1 2"}, {"alt(Any One)", "1 1000"}, {"alt(Any Three)", "1 1000"}, {"alt(Least Two)", "1 1000"}, {"alt(Two Least)", "1 1000"}, {"alt(One Some)", "1 2"}, {"alt(One Nines)", "1 999"}, {"alt(Nines Full)", "1 1000"},
		{"alt(One None)", "0 1"}, {"alt(Two None)", "0 2"}, {"alt(Full None)", "0 1000"}, {"alt(One Maybe)", "0 1"}, {"alt(Two Maybe)", "0 2"}, {"alt(Maybe Maybe)", "0 1"}, {"alt(One Any)", "0 1000"}, {"alt(Any None)", "0 1000"}, {"alt(const=1 None)", "0 1"}, {"alt(const=null None)", "0 1"},
		{"alt(None None)", "0 0"}, {"alt(None One)", "1 1"}, {"alt(None Two)", "2 2"}, {"alt(None Three)", "3 3"}, {"alt(None Some)", "1 2"}, {"alt(None Maybe)", "0 1"}, {"alt(None Any)", "0 1000"}, {"alt(None Full)", "1000 1000"}, {"alt(NoneF Three)", "3 3"}, {"alt(pipe(Any None) Three)", "3 3"},
		// A's code is left out.
		{"alt(OneF One)", "1 1"}, {"alt(NoneF One)", "1 1"}, {"alt(NoneF None)", "0 0"}, {"alt(do:8 Two)", "1 2"}, {"alt(AnyF One)", "1 1000"}, {"alt(One OneF)", "1 1 fails"}, {"alt(None OneF)", "1 1 fails"}, {"alt(OneF OneF)", "1 1 fails"}, {"alt(const=1 do:8)", "1 1 fails"}, {"alt(One NoneF)", "0 1 fails"}, {"alt(None TwoF)", "2 2 fails"},
		{"alt(alt(One Two) Three)", "1 3"}, {"alt(alt(None None) Three)", "3 3"}, {"alt(None alt(None Three))", "3 3"}, {"alt(Maybe alt(Maybe Two))", "1 2"},
	})
}

// Every op over every choice of parts whose counts are unlike.
func TestCountPartsAgainstModel(t *testing.T) {
	names := countNames()
	var pool, few []*twig
	met := map[impl.CountResult]bool{}
	for name := range names {
		w := namedTwigs(names, name)
		met[impl.CountCore(w.nodes())] = true
		pool = append(pool, w)
		if len(w.nodes()) < 20 {
			few = append(few, w)
		}
	}
	if len(met) != 28 || len(few) < 15 {
		t.Error(len(met), len(few))
	}
	for _, head := range headsOfEveryBin() {
		t.Run(head.named()+" "+strconv.FormatInt(head.num, 10), func(t *testing.T) {
			t.Parallel()
			everyChoice(head, pool, besideSelf, func(w *twig) {
				// A core may not have more nodes.
				if len(w.nodes()) <= impl.MaxCore {
					checkCount(t, w)
				}
			})
			// Once more within each other.
			if coreKids(head.op) < 3 {
				everyChoice(head, few, besideSelf, func(w *twig) {
					for _, outer := range coreHeads() {
						kids := slices.Repeat([]*twig{w}, coreKids(outer.op))
						checkCount(t, &twig{outer.op, outer.num, outer.val, kids})
					}
				})
			}
		})
	}
}

// All small cores with these heads.
func TestCountSmallCoresAgainstModel(t *testing.T) {
	sets := map[string]struct {
		heads string
		size  int
	}{
		"each kind": {`self const=1 pipe comma alt bin:1 bin:4 at each try list member="k" if reduce:0 as:0 var:0 do:1 do:3 empty`, 5},
		"nothing":   {"self empty do:1 each try list alt", 7},
		"one":       {"self do:3 do:8 try alt comma empty", 7},
	}
	for name, set := range sets {
		t.Run(name, func(t *testing.T) {
			t.Parallel()
			met := map[impl.CountResult]int{}
			smallSound(set.heads, set.size, func(w *twig) {
				checkCount(t, w)
				met[impl.CountCore(w.nodes())]++
			})
			if len(met) < 8 {
				t.Error(met)
			}
		})
	}
}

// As deep and as wide as a core may be: numbers that no word can hold do not wrap.
func TestCountGreatCores(t *testing.T) {
	for _, head := range coreHeads() {
		for _, depth := range []int{1, 2, 119, 120} {
			for _, w := range grownCore(head, depth) {
				checkCount(t, w)
			}
		}
	}
	for leaves := 1; leaves <= 450; leaves++ {
		want := impl.CountResult{Low: int64(leaves), High: int64(leaves)}
		if got := impl.CountCore(wideCore(leaves).nodes()); got != want {
			t.Errorf("%d: %s", leaves, countAs(got))
		}
	}
	two := tw(impl.CoreComma, tw(impl.CoreSelf), tw(impl.CoreSelf))
	for twos := 1; twos <= 225; twos++ {
		for _, op := range []int64{impl.CorePipe, impl.CoreAs} {
			w := joinedBy(op, slices.Repeat([]*twig{two}, twos))
			want := int64(1000)
			if twos < 10 {
				want = 1 << twos
			}
			if got := impl.CountCore(w.nodes()); got != (impl.CountResult{Low: want, High: want}) {
				t.Errorf("2 to the %d: %s", twos, countAs(got))
			}
			if f := modelCount(w); f.low.Cmp(new(big.Int).Lsh(big.NewInt(1), uint(twos))) != 0 {
				t.Errorf("2 to the %d: the model has %v", twos, f.low)
			}
		}
	}
	// Nothing at the end of it all.
	most := joinedBy(impl.CorePipe, slices.Repeat([]*twig{two}, 220))
	if got := countAs(impl.CountCore(tw(impl.CorePipe, most, tw(impl.CoreEmpty)).nodes())); got != "0 0" {
		t.Error(got)
	}
}

// What is told of programs.
func TestCountTexts(t *testing.T) {
	for program, want := range map[string]string{
		".": "1 1", ". , 1": "2 2", "try .[]": "0 1000", ".a": "1 1 fails", ".a?": "0 1", "empty": "0 0", "error": "1 1 fails", "type": "1 1", "not": "1 1", "true or error": "1 1 fails", "1 and 2": "1 1", "select(.)": "0 1", "select(.a)": "0 1 fails", "map(.)": "1 1 fails", "[]": "1 1", "[empty]": "1 1", "[1]": "1 1 fails", "{}": "1 1", "{a:1}": "1 1 fails", "range(3)": "0 1000 fails", "..": "0 1000 fails", "1 == 2": "1 1", "(1,2) < (3,4,5)": "6 6", "1 + 2": "1 1 fails", ".[]?": "0 1000", ".a // 1": "1 1", ".[] // (1,2)": "1 1000", "empty // (1,2)": "2 2", "null // empty": "0 1", "reduce .[]? as $x (1,2; 3)": "2 2", "reduce .[] as $x (0; . + $x)": "1 1 fails", "(1,2) as $x | $x , 3": "4 4", "if . then 1,2 else empty end": "0 2", "(empty)[]": "0 0", "(empty | error)[]": "0 0 fails", "(.,.)|(.,.)|(.,.)|(.,.)|(.,.)|(.,.)|(.,.)|(.,.)|(.,.)": "512 512", "(.,.)|(.,.)|(.,.)|(.,.)|(.,.)|(.,.)|(.,.)|(.,.)|(.,.)|(.,.)": "1000 1000",
	} {
		if got := countAs(impl.CountCore(impl.LowerTree(treeOf(program)).Core)); got != want {
			t.Errorf("%s: %s, want %s", program, got, want)
		}
	}
}
