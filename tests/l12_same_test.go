package tests

import (
	"fmt"
	"math"
	"reflect"
	"slices"
	"strings"
	"testing"

	"loop.example/g00166/impl"
)

// isCut tells whether steps were not enough: the last line is that code. No line of a
// value begins so.
func isCut(r impl.DriveResult) bool {
	return strings.HasSuffix("\n"+r.Text, "\n! 8\n")
}

// checkSamePlain is P13 of one input: a plain session and one behind the passes tell
// the same. It tells whether that is promised: where steps are enough.
func checkSamePlain(t *testing.T, program, input string, steps int64) bool {
	t.Helper()
	plain, passed := impl.NewSession(program, steps, true), impl.NewSession(program, steps, false)
	if plain.Code != 0 || passed.Code != 0 || !slices.Equal(plain.Session.Tree, passed.Session.Tree) {
		t.Fatalf("%s: %s, %s", short(program), short(sessionAs(plain)), short(sessionAs(passed)))
	}
	long, less := impl.FeedSession(plain.Session, input), impl.FeedSession(passed.Session, input)
	if isCut(long) {
		return false
	}
	if long != less {
		t.Fatalf("%s of %s with %d: %s, behind the passes %s", short(program), short(input), steps, short(drivenAs(long)), short(drivenAs(less)))
	}
	if driven := impl.DriveText(program, input, steps); long.Code == 0 && input != "" && !strings.Contains(input, "\n") && driven != long {
		t.Fatalf("%s of %s with %d: %s, driven %s", short(program), short(input), steps, short(drivenAs(long)), short(drivenAs(driven)))
	}
	return true
}

// checkLineByLine is the rest of P13: what is driven is what each line is fed as, by
// itself, and wherever a line has ended the inputs may be cut in two.
func checkLineByLine(t *testing.T, program, inputs string, steps int64) {
	t.Helper()
	whole, made := impl.DriveText(program, inputs, steps), impl.NewSession(program, steps, false)
	if whole.Code != 0 || whole.At != 0 || made.Code != 0 {
		t.Fatalf("%s of %.200q: %s, %s", short(program), inputs, short(drivenAs(whole)), short(sessionAs(made)))
	}
	text, ended := "", 0
	for line := range strings.Lines(inputs) {
		fed := impl.FeedSession(made.Session, strings.TrimSuffix(line, "\n"))
		if fed.Code != 0 {
			fed.Text = fmt.Sprintf("? %d %d\n", fed.Code, fed.At)
		}
		text += fed.Text
		ended += len(line)
		ahead, behind := impl.DriveText(program, inputs[:ended], steps), impl.DriveText(program, inputs[ended:], steps)
		if ahead.Text != text || ahead.Text+behind.Text != whole.Text {
			t.Fatalf("%s of %.200q cut at %d: %s, %s, want %s", short(program), inputs, ended, short(ahead), short(behind), short(whole))
		}
	}
	if text != whole.Text {
		t.Fatalf("%s of %.200q: %s, want %s", short(program), inputs, short(whole.Text), short(text))
	}
}

var drivenInputs = []string{"null", "7", "0", "false", `"ab"`, "[]", "[3,1,2]", "[null,false]", `{"a":[1,2],"b":{"c":null}}`, "[[1],2,{}]", "", " ", "[1,", "1.5", "x"}

// P13 of programs.
func TestSameDrivenTexts(t *testing.T) {
	programs := []string{
		".", "empty", "error", ".a", ".a + 1 , .b", ".[]", ".[]?", "..", "try .", "try try error", ". | .", "1 + 2 * 3", "1 / 0", "try (1 / 0) , 1", "empty , .", ". , empty", "empty | error", "error | empty", "(empty)[]", "empty + error", "error + empty", "if 1 then . else error end", "if null then error else .a end", "if (1,null) then . else 2 end", "null // . // 1", "(1 // error) + 1", "(try 1) // 2", "try ((1 // 2) + .)", "((try 1) // 2) + 3", "[empty] + [1]", "[1] | length", "{a:1,b:{c:2}} | keys", "{a:.}.a", "[1,2,3][1] , [1][5]", "3 | range(.)", "reduce empty as $x (0; . + $x)", "reduce .[]? as $x (empty; error)", "reduce .[]? as $x (1 + 1; . + 1)", "empty as $x | error", ". as $x | try $x", "true and . , (null or .)", "not", "map(1)?", "select(true) , select(null)", "1 , error , 2", "range(199) , range(101)", "range(199) , range(102)", "range(150,151) , error", "[range(199) , 1]", "[range(199)] + [1]", "try ([range(199)] + [1]) , 3", "[[1,2] | .[] | . , empty]",
	}
	for _, program := range programs {
		for _, input := range drivenInputs {
			if !checkSamePlain(t, program, input, 30000) {
				t.Errorf("%s of %s is cut short", program, input)
			}
		}
		checkLineByLine(t, program, strings.Join(drivenInputs, "\n"), 500)
		checkLineByLine(t, program, strings.Join(drivenInputs, "\n")+"\n", 12)
		checkLineByLine(t, program, "\n"+strings.Join(drivenInputs, "\n\n"), 0)
	}
	for _, c := range meanTexts() {
		if !checkSamePlain(t, c.program, c.input, 30000) {
			t.Errorf("%s of %s is cut short", c.program, c.input)
		}
		for steps := range int64(60) {
			checkSamePlain(t, c.program, c.input, steps)
		}
		checkLineByLine(t, c.program, c.input+"\n\n[\n"+c.input, 5000)
	}
}

// P13 of small programs, all of those with these heads whose names are known.
func TestSameDrivenSmallTrees(t *testing.T) {
	sets := map[string]struct {
		heads []*branch
		size  int
	}{
		"each kind": {heads(), 4},
		"constants": {[]*branch{br(impl.NodeNumber).numbered(1), br(impl.NodeWord), br(impl.NodeAlt), br(impl.NodeTry), br(impl.NodeBin).numbered(impl.OpAdd), br(impl.NodePipe), br(impl.NodeCall).named("error")}, 6},
		"nothing":   {[]*branch{br(impl.NodeSelf), br(impl.NodeCall).named("empty"), br(impl.NodeComma), br(impl.NodeIf), br(impl.NodeEach), br(impl.NodeList), br(impl.NodeAs).named("x"), br(impl.NodeVar).named("x")}, 6},
	}
	for name, set := range sets {
		t.Run(name, func(t *testing.T) {
			t.Parallel()
			asked := 0
			for size := 1; size <= set.size; size++ {
				for i, tree := range smallTrees(set.heads, size) {
					program := tree.String()
					if impl.NewSession(program, 0, true).Code != 0 {
						continue
					}
					if checkSamePlain(t, program, "[[1],0]", 300) {
						asked++
					}
					if i%16 == 0 {
						checkLineByLine(t, program, "[[1],0]\nx\n7\n", 9)
					}
				}
			}
			if asked < 2000 {
				t.Error(asked)
			}
		})
	}
}

// P13 of greater programs.
func TestSameDrivenThrownTrees(t *testing.T) {
	for part := range 4 {
		t.Run(string(rune('a'+part)), func(t *testing.T) {
			t.Parallel()
			d := dice(560 + part)
			asked, codes := 0, 0
			for range 800 {
				program := d.branch(3+d.below(35), nil).String()
				if impl.NewSession(program, 0, true).Code != 0 {
					continue
				}
				input := drivenInputs[d.below(len(drivenInputs))]
				for _, steps := range []int64{int64(d.below(60)), 3000} {
					if checkSamePlain(t, program, input, steps) {
						asked++
					}
				}
				if strings.Contains(impl.DriveText(program, input, 3000).Text, "! ") {
					codes++
				}
				checkLineByLine(t, program, drivenInputs[d.below(10)]+"\n"+input+"\n"+drivenInputs[d.below(len(drivenInputs))], int64(d.below(200)))
			}
			if asked < 1000 || codes < 150 {
				t.Error(asked, codes)
			}
		})
	}
}

// callAllDrives is what all functions of the chapter answer to these arguments.
func callAllDrives(s impl.Session, program, input string, steps int64, plain bool) []any {
	return []any{impl.NewSession(program, steps, plain), impl.NewSession(program, steps, plain), impl.SessionFault(s), impl.FeedSession(s, input), impl.DriveText(program, input, steps), impl.ExplainText(program)}
}

// sessionsOfEveryKind have trees and cores of every kind, those of one another and of
// none.
func sessionsOfEveryKind() []impl.Session {
	var trees [][]node
	for _, c := range faultyTrees() {
		trees = append(trees, c.tree)
	}
	for _, one := range oneOfEach() {
		trees = append(trees, one.nodes())
	}
	doubled := []node{{Op: impl.NodeSelf}}
	for at := int64(0); len(doubled) < 200; at++ {
		doubled = append(doubled, node{Op: impl.NodePipe, A: at, B: at})
	}
	trees = append(trees, doubled)
	sessions := []impl.Session{{}, {Tree: []node{}, Core: []core{}, Steps: 1}}
	cores := coresOfEveryKind()
	for i := range max(len(trees), len(cores)) {
		sessions = append(sessions, impl.Session{Tree: trees[i%len(trees)], Core: cores[i%len(cores)], Steps: farSteps[i%len(farSteps)], Plain: i%2 == 0})
	}
	for i, core := range cores {
		sessions = append(sessions, impl.Session{Tree: treeOf("."), Core: core, Steps: 5, Plain: i%2 == 0})
	}
	for i, tree := range trees {
		sessions = append(sessions, impl.Session{Tree: tree, Core: readTwig("self").nodes(), Steps: 5, Plain: i%2 == 0})
		if modelScopeFault(tree).Code == 0 {
			sessions = append(sessions, impl.Session{Tree: tree, Core: modelSessionTwig(tree, i%2 == 0).nodes(), Steps: farSteps[i%len(farSteps)], Plain: i%2 == 0})
		}
	}
	// One list of cells in several nodes.
	shared := num(1)
	return append(sessions, impl.Session{Tree: treeOf("1 , 1"), Core: []core{{Op: impl.CoreConst, Val: shared}, {Op: impl.CoreConst, Val: shared}, {Op: impl.CoreComma, B: 1}}, Steps: 9})
}

func sameSessions(a, b impl.Session) bool {
	return sameSession(impl.SessionResult{Session: a}, impl.SessionResult{Session: b})
}

// P1 of this chapter.
func TestDrivesArgumentsStayAndAnswersAreNew(t *testing.T) {
	sessions := sessionsOfEveryKind()
	for _, program := range []string{". , [.]", "[1,[2]] | .[]", "{a:[1]} , {a:[1]}", "try ([1] // 2)", "1 + 2 , (3 | length)", "range(199,199)", "error", strings.Repeat("(.,.)|", 20) + "empty"} {
		sessions = append(sessions, sessionOf(program, 2000, true), sessionOf(program, 2000, false))
	}
	programs := []string{"", ".", ". , . , [.]", ".[] as $x | $x , $x", "(", "$x", "error", `{a:"x",b:"x"} , [[]] , [[]]`, "1 + 2 , [1] , {a:1}", "range(199,199)", "reduce . as $x (.,.; $x)", strings.Repeat("(", 31), strings.Repeat("(.,.)|", 20) + ".", strings.Repeat(" ", 4000), strings.Repeat("(", 4001), strings.Repeat("\xff", 100000), "é", "\x00", "(.,error) // 1", wideText(199), wideText(201)}
	inputs := []string{"", "null", "[1,[2]]", "[1]\nx\n\n{}\n", `{"a":[1],"b":{}}`, "[", "1.5", strings.Repeat("[", 21), strings.Repeat("\n", 30), strings.Repeat(" ", 4000), strings.Repeat(" ", 4001), strings.Repeat("\xff\n", 100000), "\x00", "7\n8"}
	for i := range 2 * len(sessions) {
		s, program, input := sessions[i%len(sessions)], programs[i%len(programs)], inputs[i%len(inputs)]
		steps, plain := append([]int64{3, 50, 900}, farSteps...)[i%13], i%3 == 0
		kept := cloneSession(s)
		first := callAllDrives(s, program, input, steps, plain)
		checkApart(t, first, s)
		// Nor do two answers to the same question.
		checkApart(t, first[:1], first[1])
		second := callAllDrives(s, program, input, steps, plain)
		if !reflect.DeepEqual(first, second) {
			t.Errorf("%s, %s, %s, %d: %s, then %s", short(s), short(program), short(input), steps, short(first), short(second))
		}
		scribble(first)
		if !sameSessions(s, kept) {
			t.Errorf("%s is changed", short(kept))
		}
		roomy := impl.Session{Tree: append(make([]node, 0, len(s.Tree)+3), s.Tree...), Core: roomyCores(s.Core), Steps: s.Steps, Plain: s.Plain}
		third := callAllDrives(roomy, program, input, steps, plain)
		if !reflect.DeepEqual(second, third) {
			t.Errorf("%s, %s, %s, %d: %s, then %s", short(s), short(program), short(input), steps, short(second), short(third))
		}
		scribble(third)
		for _, v := range valsOf(roomy.Core) {
			if slices.ContainsFunc(v[:cap(v)][len(v):], func(c impl.Cell) bool { return c != impl.Cell{} }) {
				t.Errorf("%s is written behind", short(s))
			}
		}
		if slices.ContainsFunc(roomy.Tree[:cap(roomy.Tree)][len(s.Tree):], func(n node) bool { return n != node{} }) {
			t.Errorf("%s is written behind", short(s))
		}
	}
	if !reflect.DeepEqual(callAllDrives(impl.Session{}, "", "", 0, false), callAllDrives(impl.Session{Tree: []node{}, Core: []core{}}, "", "", 0, false)) {
		t.Error("nil and an empty list are told apart")
	}
}

// A session that was fed tells the same again, whatever it was fed between.
func TestSessionsKeepNothing(t *testing.T) {
	for _, program := range []string{". as $x | [$x]", "reduce .[]? as $x (0; . + 1)", ".[]? // 1", "error", "1 , ."} {
		made := impl.NewSession(program, 90, false).Session
		kept := cloneSession(made)
		for _, between := range drivenInputs {
			for _, input := range drivenInputs {
				want := impl.FeedSession(kept, input)
				impl.FeedSession(made, between)
				impl.DriveText(program, between, 90)
				if got := impl.FeedSession(made, input); got != want || !sameSessions(made, kept) {
					t.Errorf("%s of %s behind %s: %s, want %s", program, input, between, drivenAs(got), drivenAs(want))
				}
			}
		}
	}
}

// Steps of all sizes, in a session and ahead of one.
func TestSessionsFarSteps(t *testing.T) {
	for _, steps := range slices.Concat(farSteps, farNumbers, []int64{29998, 30002, 1 << 32, 1<<32 + 5, -1 << 32, math.MinInt64 + 5}) {
		s := sessionOf(".", 5, true)
		s.Steps = steps
		want, told := impl.DriveResult{Code: impl.ErrRange}, impl.DriveResult{Code: impl.ErrRange}
		if 0 <= steps && steps <= 30000 {
			want = impl.DriveResult{Text: "7\n"}
			told = impl.DriveResult{Text: "7\n? 5 0\n"}
			if steps == 0 {
				want, told = impl.DriveResult{Text: "! 8\n"}, impl.DriveResult{Text: "! 8\n? 5 0\n"}
			}
		}
		if got := impl.FeedSession(s, "7"); got != want || impl.SessionFault(s) != want.Code {
			t.Errorf("%d: %s, want %s", steps, drivenAs(got), drivenAs(want))
		}
		if got := impl.DriveText(".", "7\nx", steps); got != told {
			t.Errorf("%d: %s, want %s", steps, drivenAs(got), drivenAs(told))
		}
	}
}
