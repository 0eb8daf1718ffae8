package tests

import (
	"reflect"
	"slices"
	"strings"
	"testing"

	"loop.example/g00166/impl"
)

type badProgram struct {
	program  string
	code, at int64
}

// badPrograms are told by hand: each code of ParseProgram and of LowerTree, and its
// place.
func badPrograms() []badProgram {
	blanks, long := strings.Repeat(" ", 4000), strings.Repeat("x", 61)
	return []badProgram{
		// Tokens.
		{"#", impl.ErrText, 0}, {".a = 1", impl.ErrText, 3}, {". | $", impl.ErrText, 4}, {".abcdefghijklm", impl.ErrText, 1}, {". + \"a\nb\"", impl.ErrText, 6}, {"\x00", impl.ErrText, 0}, {"1\xff", impl.ErrText, 1},
		{"10000000000000000", impl.ErrRange, 0}, {". + 1000000000000001", impl.ErrRange, 4},
		{`"` + long + `"`, impl.ErrMany, 0}, {`. + "` + long + `"`, impl.ErrMany, 4}, {strings.Repeat("1 ", 301), impl.ErrMany, 600}, {"." + blanks, impl.ErrMany, 0}, {blanks + "f", impl.ErrMany, 0}, {strings.Repeat("(", 4001), impl.ErrMany, 0}, {strings.Repeat("\xff", 100000), impl.ErrMany, 0},
		// What cannot be read on.
		{"", impl.ErrText, 0}, {"  ", impl.ErrText, 2}, {"\n", impl.ErrText, 1}, {blanks, impl.ErrText, 4000}, {"1 +", impl.ErrText, 3}, {"1 2", impl.ErrText, 2}, {"(1", impl.ErrText, 2}, {"1)", impl.ErrText, 1}, {"$x (", impl.ErrText, 3}, {"f g", impl.ErrText, 2}, {"{if:1}", impl.ErrText, 1}, {"1 + . as $x | 2", impl.ErrText, 6}, {". as $x | $y +", impl.ErrText, 14},
		{strings.Repeat("(", 31) + "1", impl.ErrDeep, 30}, {". | " + strings.Repeat("[", 31), impl.ErrDeep, 34}, {"f , " + strings.Repeat("try ", 31) + "1", impl.ErrDeep, 124},
		// The fault of the tree.
		{"." + strings.Repeat("[]", 30), impl.ErrDeep, 0}, {"f" + strings.Repeat("[]", 30), impl.ErrDeep, 0}, {strings.Repeat("1,", 100) + "1", impl.ErrMany, 0}, {wideText(201), impl.ErrMany, 0},
		// Names that are not known, the first one in the order of the nodes.
		{"f", impl.ErrNone, 0}, {"$x", impl.ErrNone, 0}, {"  f", impl.ErrNone, 0}, {". as $x | $y", impl.ErrNone, 1}, {"1 , f", impl.ErrNone, 1}, {"f , $x", impl.ErrNone, 0}, {"1 , 2 , $x , f", impl.ErrNone, 3}, {"[1,2,3] | g(.)", impl.ErrNone, 7}, {"length(.)", impl.ErrNone, 1}, {"map", impl.ErrNone, 0}, {". + (1 as $x | $x) + $x", impl.ErrNone, 5}, {"reduce $x as $x (1;2)", impl.ErrNone, 0}, {blanks[1:] + "f", impl.ErrNone, 0}, {wideText(197) + " , f", impl.ErrNone, 197},
	}
}

// checkNewSession holds an answer against the model; what is made has no fault.
func checkNewSession(t *testing.T, program string, steps int64, plain bool) {
	t.Helper()
	got, want := impl.NewSession(program, steps, plain), modelNewSession(program, steps, plain)
	if !sameSession(got, want) {
		t.Fatalf("%s with %d, %t: %s, want %s", short(program), steps, plain, short(sessionAs(got)), short(sessionAs(want)))
	}
	if got.Code == 0 && impl.SessionFault(got.Session) != 0 {
		t.Fatalf("%s with %d, %t: %s has the fault %d", short(program), steps, plain, short(sessionAs(got)), impl.SessionFault(got.Session))
	}
}

// The core by itself, and behind the passes.
func TestNewSession(t *testing.T) {
	for _, c := range []struct{ program, tree, plain, passed string }{
		{".", ".", "self", "self"}, {" .a ", `.["a"]`, `at(self const="a")`, `at(self const="a")`}, {"empty", "empty", "empty", "empty"}, {"1", "1", "const=1", "const=1"}, {"not", "not", "if(self const=false const=true)", "if(self const=false const=true)"},
		{". as $x | reduce .[] as $y ($x; . + $y)", "(. as $x | (reduce .[] as $y ($x ; (. + $y))))", "as:0(self reduce:1(each(self) var:0 bin:1(self var:1)))", "as:0(self reduce:1(each(self) var:0 bin:1(self var:1)))"},
		// What each pass does.
		{"1 + 2 * 3", "(1 + (2 * 3))", "bin:1(const=1 bin:3(const=2 const=3))", "const=7"}, {". | .a", `(. | .["a"])`, `pipe(self at(self const="a"))`, `at(self const="a")`}, {"empty , .", "(empty , .)", "comma(empty self)", "self"}, {"try .", "(try .)", "try(self)", "self"}, {". as $x | try try $x", "(. as $x | (try (try $x)))", "as:0(self try(try(var:0)))", "as:0(self var:0)"},
		// The fold ahead of the pipe, and the one behind it; so of all of them.
		{"[1,2] | length", "([(1 , 2)] | length)", "pipe(list(comma(const=1 const=2)) do:1)", "pipe(list(comma(const=1 const=2)) do:1)"}, {"[1] | length", "([1] | length)", "pipe(list(const=1) do:1)", "const=1"}, {"([] | length) + 1", "(([] | length) + 1)", "bin:1(pipe(const=[] do:1) const=1)", "const=1"}, {"(1 // 2) | type", "((1 // 2) | type)", "pipe(alt(const=1 const=2) do:3)", `const="number"`}, {"(try 1) // 2", "((try 1) // 2)", "alt(try(const=1) const=2)", "const=1"}, {"try (1 // 2)", "(try (1 // 2))", "try(alt(const=1 const=2))", "const=1"}, {"(null | . // 3) + 4", "((null | (. // 3)) + 4)", "bin:1(pipe(const=null alt(self const=3)) const=4)", "bin:1(pipe(const=null alt(self const=3)) const=4)"}, {"((. | null) // 3) + 4", "(((. | null) // 3) + 4)", "bin:1(alt(pipe(self const=null) const=3) const=4)", "const=7"},
		// What would be done by one more is left: a try behind the second fold, a fold
		// behind the second dead.
		{"try ((1 // 2) + 3)", "(try ((1 // 2) + 3))", "try(bin:1(alt(const=1 const=2) const=3))", "try(const=4)"}, {"((try 1) // 2) + 3", "(((try 1) // 2) + 3)", "bin:1(alt(try(const=1) const=2) const=3)", "bin:1(const=1 const=3)"}, {"((try null) // 2) | type", "(((try null) // 2) | type)", "pipe(alt(try(const=null) const=2) do:3)", "pipe(const=2 do:3)"}, {"try (empty , (1 | length))", "(try (empty , (1 | length)))", "try(comma(empty pipe(const=1 do:1)))", "const=1"}, {"try ((try 1) // 2)", "(try ((try 1) // 2))", "try(alt(try(const=1) const=2))", "try(const=1)"},
		// What comes to a code is not folded.
		{"1 / 0", "(1 / 0)", "bin:10(const=1 const=0)", "bin:10(const=1 const=0)"}, {"error // 1", "(error // 1)", "alt(do:8 const=1)", "alt(do:8 const=1)"},
	} {
		for _, steps := range []int64{0, 1, 500, 30000} {
			for plain, core := range map[bool]string{true: c.plain, false: c.passed} {
				want := impl.SessionResult{Session: impl.Session{Tree: treeOf(c.program), Core: readTwig(core).nodes(), Steps: steps, Plain: plain}}
				got := impl.NewSession(c.program, steps, plain)
				if !sameSession(got, want) || branchOf(got.Session.Tree).String() != c.tree {
					t.Errorf("%s with %d, %t: %s, want %s", c.program, steps, plain, sessionAs(got), sessionAs(want))
				}
				checkNewSession(t, c.program, steps, plain)
			}
		}
	}
	for _, c := range meanTexts() {
		checkNewSession(t, c.program, 77, true)
		checkNewSession(t, c.program, 77, false)
	}
}

// The steps ahead of all else, then the program; nothing is beside a code.
func TestNewSessionCodes(t *testing.T) {
	met := map[int64]int{}
	for _, c := range badPrograms() {
		met[c.code]++
		for _, plain := range []bool{false, true} {
			for _, steps := range farSteps {
				want := impl.SessionResult{Code: c.code, At: c.at}
				if steps < 0 || steps > 30000 {
					want = impl.SessionResult{Code: impl.ErrRange}
				}
				if got := impl.NewSession(c.program, steps, plain); !reflect.DeepEqual(got, want) {
					t.Errorf("%s with %d, %t: %s, want %s", short(c.program), steps, plain, short(sessionAs(got)), sessionAs(want))
				}
			}
			checkNewSession(t, c.program, 5, plain)
		}
	}
	if len(met) != 5 || met[impl.ErrNone] < 10 {
		t.Error(met)
	}
	for _, program := range []string{".", "error", "." + strings.Repeat(" ", 3999), wideText(199)} {
		for _, steps := range farSteps {
			got := impl.NewSession(program, steps, steps%2 == 0)
			if fits := 0 <= steps && steps <= 30000; fits != (got.Code == 0) || fits && got.Session.Steps != steps || !fits && !reflect.DeepEqual(got, impl.SessionResult{Code: impl.ErrRange}) {
				t.Errorf("%s with %d: %s", short(program), steps, short(sessionAs(got)))
			}
		}
	}
}

// As great as a program may be: none of its cores is too long to be kept or compiled.
func TestNewSessionGreatPrograms(t *testing.T) {
	programs := []string{strings.Repeat(" ", 3999) + ".", "[" + wideText(197) + "]", strings.Repeat("(", 29) + "." + strings.Repeat(")", 29), strings.Repeat("(1 as $x | ", 28) + "$x" + strings.Repeat(")", 28)}
	for _, mark := range []string{",", "|", "//", "or", "and", "+"} {
		for _, leaf := range []string{"1", "not", "..", ".", "empty"} {
			programs = append(programs, strings.NewReplacer("1", leaf, ",", " "+mark+" ").Replace(wideText(199)))
		}
	}
	for _, program := range programs {
		checkNewSession(t, program, 5, true)
		checkNewSession(t, program, 5, false)
		if got := impl.NewSession(program, 5, true); got.Code != 0 || impl.CompileCore(got.Session.Core).Code != 0 {
			t.Errorf("%s: %s", short(program), short(sessionAs(got)))
		}
	}
}

func TestNewSessionAgainstModel(t *testing.T) {
	for part := range 4 {
		t.Run(string(rune('a'+part)), func(t *testing.T) {
			t.Parallel()
			d := dice(500 + part)
			made, other := 0, 0
			for range 700 {
				b := d.branch(1+d.below(25), nil)
				plain := d.below(2) == 0
				checkNewSession(t, b.String(), int64(d.below(9000)), plain)
				if r := impl.NewSession(b.String(), 1, false); r.Code == 0 {
					made++
					if !sameCores(r.Session.Core, impl.LowerTree(r.Session.Tree).Core) {
						other++
					}
				}
			}
			if made < 500 || other < 200 {
				t.Error(made, other)
			}
		})
	}
}

// checkSessionFault holds a fault, and what FeedSession tells of it, against the
// model.
func checkSessionFault(t *testing.T, s impl.Session) int64 {
	t.Helper()
	want := modelSessionFault(s)
	if got := impl.SessionFault(s); got != want {
		t.Fatalf("%s: %d, want %d", short(s), got, want)
	}
	if want != 0 {
		for _, input := range []string{"7", "[", ""} {
			if got := impl.FeedSession(s, input); got != (impl.DriveResult{Code: want}) {
				t.Fatalf("%s and %s: %s, want %d", short(s), input, short(got), want)
			}
		}
	}
	return want
}

// Each code, and each ahead of all those behind it.
func TestSessionFault(t *testing.T) {
	type partOf[T any] struct {
		part T
		code int64
	}
	self := readTwig("self").nodes()
	trees := []partOf[[]node]{{treeOf("."), 0}, {treeOf("f"), 0}, {treeOf("$x , ."), 0}}
	for i, c := range faultyTrees() {
		if i%9 == 0 || len(c.tree) < 2 {
			trees = append(trees, partOf[[]node]{c.tree, c.code})
		}
	}
	cores := []partOf[[]core]{{self, 0}, {readTwig("empty").nodes(), 0}}
	for i, c := range faultyCores() {
		if i%9 == 0 {
			cores = append(cores, partOf[[]core]{c.core, c.code})
		}
	}
	met := map[string]int{}
	for _, tree := range trees {
		for _, core := range cores {
			for _, steps := range farSteps {
				s := impl.Session{Tree: tree.part, Core: core.part, Steps: steps, Plain: steps%2 == 0}
				want, what := int64(0), "none"
				switch {
				case tree.code != 0:
					want, what = tree.code, "tree"
				case core.code != 0:
					want, what = core.code, "core"
				case steps < 0 || steps > 30000:
					want, what = impl.ErrRange, "steps"
				case len(tree.part) > 1 || tree.part[0].Op != impl.NodeSelf:
					want, what = impl.ErrNone, "names"
				case core.part[0].Op != impl.CoreSelf:
					want, what = impl.ErrForm, "another core"
				}
				met[what]++
				if got := impl.SessionFault(s); got != want {
					t.Errorf("%s: %d, want %d (%s)", short(s), got, want, what)
				}
				if what != "tree" && what != "core" || steps == 1 {
					checkSessionFault(t, s)
				}
			}
		}
	}
	if len(met) != 6 || met["none"] < 4 || met["names"] < 10 || met["another core"] < 4 {
		t.Error(met)
	}
	for _, c := range faultyTrees() {
		if got := impl.SessionFault(impl.Session{Tree: c.tree, Core: self}); got != c.code {
			t.Errorf("%s: %d, want %d", short(c.tree), got, c.code)
		}
	}
	for _, c := range faultyCores() {
		if got := impl.SessionFault(impl.Session{Tree: treeOf("f"), Core: c.core, Steps: -1}); got != c.code {
			t.Errorf("%s: %d, want %d", short(c.core), got, c.code)
		}
	}
}

// The core of the tree, behind the passes where it is not plain: which of them it is
// told by its text.
func TestSessionFaultCores(t *testing.T) {
	for _, program := range []string{"1 + 2 * 3", ". | .a", "empty , .", "try .", "[1] | length", "(try 1) // 2", "try ((1 // 2) + 3)", "((try 1) // 2) + 3"} {
		plain, passed := sessionOf(program, 9, true), sessionOf(program, 9, false)
		for core, right := range map[*impl.Session][2]int64{&plain: {impl.ErrForm, 0}, &passed: {0, impl.ErrForm}} {
			for i, isPlain := range []bool{false, true} {
				if got := checkSessionFault(t, impl.Session{Tree: plain.Tree, Core: core.Core, Steps: 9, Plain: isPlain}); got != right[i] {
					t.Errorf("%s, %s, %t: %d, want %d", program, short(twigOf(core.Core)), isPlain, got, right[i])
				}
			}
		}
		// No more passes, and no fewer, nor in another order.
		for _, passes := range [][]int64{nil, {1, 2, 3, 4}, {1, 2, 3, 4, 1, 2}, {1, 2, 3, 4, 1, 2, 3, 4}, {1, 2, 3, 4, 1, 2, 3, 4, 1, 2, 3, 4}, {4, 3, 2, 1, 4, 3, 2}, {1, 2, 3}, {2, 1, 3, 4, 2, 1, 3}} {
			checkSessionFault(t, impl.Session{Tree: plain.Tree, Core: impl.RunPasses(plain.Core, passes).Core, Steps: 9})
		}
	}
	// Where the passes do nothing, one core is both.
	for _, program := range []string{".", ".a", "1", "empty", "[.[] | select(. > 1)]", "reduce .[] as $x (0; . + $x)", "{a:.,b:(1,.)}"} {
		s := sessionOf(program, 30000, true)
		for _, isPlain := range []bool{false, true} {
			s.Plain = isPlain
			if got := checkSessionFault(t, s); got != 0 {
				t.Errorf("%s, %t: %d", program, isPlain, got)
			}
		}
	}
	// Cores that are unlike in one place alone.
	for _, pair := range [][2]string{{"1", "const=2"}, {"1", `const="1"`}, {"null", "const=false"}, {"[]", "const={}"}, {". + 1", "bin:2(self const=1)"}, {". + 1", "bin:1(const=1 self)"}, {".a", `at(self const="b")`}, {".a", `at(self const="a ")`}, {"{a:.}", `member="b"(const={} self)`}, {". as $x | $x", "as:1(self var:1)"}, {". as $x | $x", "as:0(self self)"}, {"length", "do:2"}, {". , .", "pipe(self self)"}, {". , .", "comma(self comma(self self))"}, {". , .", "self"}, {"if . then 1 else 2 end", "if(self const=2 const=1)"}, {"try .[]", "each(self)"}, {"[.[]]", "list(try(each(self)))"}, {"reduce .[] as $x (.; $x)", "reduce:0(each(self) self self)"}} {
		for _, isPlain := range []bool{false, true} {
			if got := checkSessionFault(t, impl.Session{Tree: treeOf(pair[0]), Core: readTwig(pair[1]).nodes(), Plain: isPlain}); got != impl.ErrForm {
				t.Errorf("%s as %s, %t: %d", pair[0], pair[1], isPlain, got)
			}
		}
	}
}

// What CoreText tells alike is the same core, and nil and an empty list are.
func TestSessionFaultAlike(t *testing.T) {
	for _, program := range []string{".", ".a + 1 , .b", ". as $x | [$x , {a:1}]", "empty", "[] , {} , [[]]"} {
		for _, plain := range []bool{false, true} {
			s := cloneSession(sessionOf(program, 5, plain))
			for i := range s.Core {
				if len(s.Core[i].Val) == 0 {
					s.Core[i].Val = [2]cells{nil, {}}[i%2]
				}
			}
			if got := checkSessionFault(t, s); got != 0 {
				t.Errorf("%s: %d", program, got)
			}
			for i := range s.Core {
				if s.Core[i].Val != nil && len(s.Core[i].Val) == 0 {
					s.Core[i].Val = make(cells, 0, 7)
				}
			}
			if got, fed := impl.SessionFault(s), impl.FeedSession(s, "{}"); got != 0 || fed != modelFed(s, "{}") {
				t.Errorf("%s: %d, %s", program, got, drivenAs(fed))
			}
		}
	}
	if got := impl.SessionFault(impl.Session{}); got != impl.ErrMany {
		t.Error(got)
	}
	if got := impl.SessionFault(impl.Session{Tree: []node{}, Core: []core{}, Steps: -1}); got != impl.ErrMany {
		t.Error(got)
	}
}

// Every field of a node changed, of the tree and of the core.
func TestSessionFaultChanged(t *testing.T) {
	for _, program := range []string{".", ". | .", "1 + 2", "try .a", ". as $x | $x", "[length]", "{a:1}", "if . then 1 else 2 end", "not , map(.)"} {
		t.Run(program, func(t *testing.T) {
			t.Parallel()
			codes := map[int64]int{}
			for _, plain := range []bool{false, true} {
				s := sessionOf(program, 5, plain)
				changedCores(s.Core, func(list []core) {
					codes[checkSessionFault(t, impl.Session{Tree: s.Tree, Core: list, Steps: 5, Plain: plain})]++
				})
				changedNodes(s.Tree, func(tree []node) {
					codes[checkSessionFault(t, impl.Session{Tree: tree, Core: s.Core, Steps: 5, Plain: plain})]++
				})
			}
			if codes[0] < 5 || codes[impl.ErrForm] < 5 || codes[impl.ErrKind] < 5 {
				t.Error(codes)
			}
		})
	}
}

// A session of each of two programs, with the tree of one and the core of the other.
func TestSessionFaultMixed(t *testing.T) {
	programs := []string{".", ". | .", "try .", ". , empty", "1", "0 + 1", "[1][0]", "if 1 then 1 else 2 end", ".a", ".b", "[]", "[empty]", "{}", "empty", "empty | .", "error", "(empty)[]", "true and true", "true", "not"}
	same := 0
	for _, a := range programs {
		for _, b := range programs {
			for _, plain := range []bool{false, true} {
				tree, core := sessionOf(a, 9, plain).Tree, sessionOf(b, 9, plain).Core
				fault := checkSessionFault(t, impl.Session{Tree: tree, Core: core, Steps: 9, Plain: plain})
				if fault == 0 {
					same++
				}
				if a == b && fault != 0 || fault != 0 && fault != impl.ErrForm || plain && a != b && fault == 0 {
					t.Errorf("%s and %s, %t: %d", a, b, plain, fault)
				}
			}
		}
	}
	if same <= 2*len(programs) {
		t.Error(same)
	}
}

func TestSessionFaultAgainstModel(t *testing.T) {
	d := dice(520)
	codes := map[int64]int{}
	for range 1500 {
		read := modelParse(d.branch(1+d.below(12), nil).String())
		if read.Code != 0 {
			continue
		}
		plain := d.below(2) == 0
		s := impl.Session{Tree: read.Tree, Core: modelSessionTwig(read.Tree, plain).nodes(), Steps: int64(d.below(30000)), Plain: plain}
		switch d.below(5) {
		case 0:
			s.Plain = !plain
		case 1:
			s.Core = d.twig(1+d.below(9), nil).nodes()
		case 2:
			s.Tree = slices.Clone(s.Tree[:1+d.below(len(s.Tree))])
		case 3:
			s.Steps = farSteps[d.below(len(farSteps))]
		}
		codes[checkSessionFault(t, s)]++
	}
	if codes[0] < 300 || codes[impl.ErrForm] < 100 || codes[impl.ErrRange] < 20 {
		t.Error(codes)
	}
}
