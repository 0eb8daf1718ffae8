package tests

import (
	"fmt"
	"slices"
	"strconv"
	"strings"
	"testing"

	"loop.example/g00166/impl"
)

// numberLines has a line for each number from 0 on.
func numberLines(n int) string {
	var text strings.Builder
	for i := range n {
		fmt.Fprintln(&text, i)
	}
	return text.String()
}

func checkFed(t *testing.T, s impl.Session, input string) impl.DriveResult {
	t.Helper()
	got, want := impl.FeedSession(s, input), modelFed(s, input)
	if got != want {
		t.Fatalf("%s of %s with %d: %s, want %s", short(branchOf(s.Tree)), short(input), s.Steps, short(drivenAs(got)), short(drivenAs(want)))
	}
	return got
}

func TestFeedSession(t *testing.T) {
	long := strings.Repeat("x", 60)
	for _, c := range []struct{ program, input, want string }{
		{".", "7", "7\n"}, {".", " [ 1 , { } ] ", "[1,{}]\n"}, {".", "\n7\n\n", "7\n"}, {".", "1" + strings.Repeat(" ", 3999), "1\n"}, {".", `{"b":1,"a":"\"\\\u0041"}`, `{"a":"\"\\A","b":1}` + "\n"}, {".", "-0", "0\n"}, {".", "-1000000000000000", "-1000000000000000\n"}, {".", `"` + long + `"`, `"` + long + `"` + "\n"},
		// No outs, one, several.
		{"empty", "7", ""}, {".[]", "[]", ""}, {"select(.a)", "{}", ""}, {"try error", "7", ""}, {". , empty , 2", "7", "7\n2\n"}, {".[]", `[null,false,true,0,"a",[],{}]`, "null\nfalse\ntrue\n0\n\"a\"\n[]\n{}\n"}, {".a + 1 , .b", `{"a":2}`, "3\nnull\n"}, {"\"! 3\"", "0", "\"! 3\"\n"}, {"\"\"", "0", "\"\"\n"},
		// A code by itself, and behind outs; what would come behind it does not.
		{"error", "7", "! 1\n"}, {"1 / .", "0", "! 3\n"}, {".a", "7", "! 6\n"}, {"range(200)", "0", "! 3\n"}, {"1 , error , 2", "7", "1\n! 1\n"}, {".[] | 6 / .", "[2,3,0,1]", "3\n2\n! 3\n"}, {". , .a", "[1]", "[1]\n! 6\n"}, {"(1 , 2) , error // 3", "0", "1\n2\n3\n"}, {"1 , (. + .)", `"` + long + `"`, "1\n! 5\n"}, {"[.[] , 1]", "[" + strings.Repeat("1,", 198) + "1]", "! 2\n"}, {". , [.]", strings.Repeat("[", 20) + strings.Repeat("]", 20), strings.Repeat("[", 20) + strings.Repeat("]", 20) + "\n! 7\n"},
		// As many outs as there may be, more than values in an array, and too many.
		{"range(199)", "0", numberLines(199)}, {"range(199) , 199 , 200", "0", numberLines(201)}, {"range(199) , (range(101) | . + 199)", "0", numberLines(300)}, {"range(199) , (range(102) | . + 199)", "0", numberLines(300) + "! 2\n"}, {"range(199) , (range(101) | . + 199) , error", "0", numberLines(300) + "! 1\n"}, {"range(199) , (range(102) | . + 199) , error", "0", numberLines(300) + "! 2\n"},
	} {
		for _, plain := range []bool{false, true} {
			s := sessionOf(c.program, 30000, plain)
			if got := checkFed(t, s, c.input); got != (impl.DriveResult{Text: c.want}) {
				t.Errorf("%s of %s: %s, want %s", c.program, short(c.input), short(drivenAs(got)), short(c.want))
			}
			made := impl.NewSession(c.program, 30000, plain)
			if got := impl.FeedSession(made.Session, c.input); got != (impl.DriveResult{Text: c.want}) {
				t.Errorf("%s of %s: %s, want %s", c.program, short(c.input), short(drivenAs(got)), short(c.want))
			}
		}
	}
	for _, c := range meanTexts() {
		want := strings.NewReplacer(" ", "\n", "!", "! ").Replace(c.want)
		if want != "" {
			want += "\n"
		}
		for _, plain := range []bool{false, true} {
			if got := checkFed(t, sessionOf(c.program, 5000, plain), c.input); got.Text != want {
				t.Errorf("%s of %s: %s, want %s", c.program, c.input, drivenAs(got), want)
			}
		}
	}
}

// What the steps are enough for is told ahead of the code: they are those of the
// session's own core.
func TestFeedSessionSteps(t *testing.T) {
	for _, c := range []struct {
		program string
		plain   bool
		steps   int64
		want    string
	}{
		{".", true, 0, "! 8\n"}, {".", true, 1, "7\n"}, {".", true, 30000, "7\n"}, {"empty", false, 0, "! 8\n"}, {"empty", false, 1, ""}, {". , .", false, 0, "! 8\n"}, {". , .", false, 2, "! 8\n"}, {". , .", false, 3, "7\n! 8\n"}, {". , .", false, 4, "7\n7\n"}, {"error", true, 0, "! 8\n"}, {"error", true, 1, "! 1\n"}, {". , error", true, 3, "7\n! 8\n"}, {". , error", true, 4, "7\n! 1\n"},
		// pop, push, emit; and dup, two each, swap, two each, bin, emit.
		{"1 + 2", false, 2, "! 8\n"}, {"1 + 2", false, 3, "3\n"}, {"1 + 2", true, 3, "! 8\n"}, {"1 + 2", true, 7, "! 8\n"}, {"1 + 2", true, 8, "3\n"}, {"try .", true, 1, "! 8\n"}, {"try .", true, 2, "7\n"}, {"try .", false, 1, "7\n"},
		{"range(199) | range(199) | empty", false, 30000, "! 8\n"}, {strings.Repeat("(.,.)|", 20) + "empty", true, 30000, "! 8\n"},
	} {
		if got := checkFed(t, sessionOf(c.program, c.steps, c.plain), "7"); got.Text != c.want {
			t.Errorf("%s with %d, %t: %s, want %s", c.program, c.steps, c.plain, drivenAs(got), c.want)
		}
	}
	for _, c := range meanTexts()[:25] {
		for steps := range int64(40) {
			checkFed(t, sessionOf(c.program, steps, steps%2 == 0), c.input)
		}
	}
}

// An input that cannot be read is told with its place, whatever the session does; a
// fault of the session comes ahead of it.
func TestFeedSessionCodes(t *testing.T) {
	met := map[int64]int{}
	for _, c := range badTexts() {
		met[c.code]++
		for _, program := range []string{".", "error", "empty", "1"} {
			for _, steps := range []int64{0, 9, 30000} {
				s := sessionOf(program, steps, steps == 9)
				if got := checkFed(t, s, c.text); got != (impl.DriveResult{Code: c.code, At: c.at}) {
					t.Errorf("%s of %.80q: %s, want %d at %d", program, c.text, drivenAs(got), c.code, c.at)
				}
			}
		}
		wrong := sessionOf("1 + 2", 9, true)
		wrong.Plain = false
		if got := impl.FeedSession(wrong, c.text); got != (impl.DriveResult{Code: impl.ErrForm}) {
			t.Errorf("another core and %.80q: %s", c.text, drivenAs(got))
		}
		wrong = sessionOf(".", 9, true)
		wrong.Steps = -1
		if got := impl.FeedSession(wrong, c.text); got != (impl.DriveResult{Code: impl.ErrRange}) {
			t.Errorf("no steps and %.80q: %s", c.text, drivenAs(got))
		}
		wrong.Tree = treeOf("f")
		wrong.Steps = 1
		if got := impl.FeedSession(wrong, c.text); got != (impl.DriveResult{Code: impl.ErrNone}) {
			t.Errorf("no name and %.80q: %s", c.text, drivenAs(got))
		}
	}
	if len(met) != 4 {
		t.Error(met)
	}
}

func checkDriven(t *testing.T, program, inputs string, steps int64) impl.DriveResult {
	t.Helper()
	got, want := impl.DriveText(program, inputs, steps), modelDriven(program, inputs, steps)
	if got != want {
		t.Fatalf("%s of %.300q with %d: %s, want %s", short(program), inputs, steps, short(drivenAs(got)), short(drivenAs(want)))
	}
	return got
}

func TestDriveText(t *testing.T) {
	for _, c := range []struct{ program, inputs, want string }{
		{".a + 1 , .b", "{\"a\":2}\nx\n0\n", "3\nnull\n? 5 0\n! 6\n"},
		// No line, one, several; with and without the last line feed.
		{".", "", ""}, {"error", "", ""}, {".", "7", "7\n"}, {".", "7\n", "7\n"}, {".", "7\n8", "7\n8\n"}, {".", "7\n8\n", "7\n8\n"}, {". , .", "7\n8", "7\n7\n8\n8\n"}, {"empty", "7\n8\n", ""}, {".[]", "[1,2]\n[]\n[3]", "1\n2\n3\n"},
		// Lines without a value: a line feed ends each of them.
		{".", "\n", "? 5 0\n"}, {".", "\n\n\n", "? 5 0\n? 5 0\n? 5 0\n"}, {".", "7\n\n8", "7\n? 5 0\n8\n"}, {".", "\n7", "? 5 0\n7\n"}, {".", "7\n\n", "7\n? 5 0\n"}, {".", " ", "? 5 1\n"}, {".", "  \n", "? 5 2\n"}, {".", "7\n ", "7\n? 5 1\n"}, {".", "7\n\t\r\n8\n", "7\n? 5 2\n8\n"}, {"empty", "\n\n", "? 5 0\n? 5 0\n"}, {"error", "\n", "? 5 0\n"},
		// A value does not go on in the next line.
		{".", "[1,\n2]", "? 5 3\n? 5 1\n"}, {".", "[\n]\n", "? 5 1\n? 5 0\n"}, {".", "1 2", "? 5 2\n"}, {".", "1\r\n2\r\n", "1\n2\n"}, {".", "1\r2", "? 5 2\n"}, {".", " 1 \n\t2\t\n", "1\n2\n"},
		// Lines that cannot be read among others, each with its code and its place in
		// the line.
		{".", "1\n[2\n3\n", "1\n? 5 2\n3\n"}, {".", "x\n1\nx\n2\nx", "? 5 0\n1\n? 5 0\n2\n? 5 0\n"}, {".", "1.5\n1\n [ 10000000000000000]\n", "? 3 1\n1\n? 3 3\n"}, {".", strings.Repeat("[", 21) + "\n1", "? 7 20\n1\n"}, {".", "[" + strings.Repeat("1,", 199) + "1]\n  \"" + strings.Repeat("x", 61) + "\"\n1", "? 2 0\n? 2 2\n1\n"}, {"1 / .", "1\n0\nx\n2\n0", "1\n! 3\n? 5 0\n0\n! 3\n"}, {".[] | 6 / .", "[1,0,2]\n{}\n7\n[\n[3]", "6\n! 3\n! 6\n? 5 1\n2\n"}, {".", "\x00\n\xff\n1", "? 5 0\n? 5 0\n1\n"},
		// The lines know nothing of one another.
		{". as $x | [$x]", "1\n2\n3", "[1]\n[2]\n[3]\n"}, {"reduce .[] as $x (0; . + $x)", "[1,2]\n[]\n[3]", "3\n0\n3\n"},
	} {
		if got := checkDriven(t, c.program, c.inputs, 500); got != (impl.DriveResult{Text: c.want}) {
			t.Errorf("%s of %q: %s, want %s", c.program, c.inputs, drivenAs(got), c.want)
		}
	}
	for _, c := range meanTexts() {
		checkDriven(t, c.program, c.input, 5000)
		checkDriven(t, c.program, "\n"+c.input+"\n[\n"+c.input, 5000)
	}
}

// Each line may take all the steps, and the passes were run.
func TestDriveTextSteps(t *testing.T) {
	for _, c := range []struct {
		program, inputs string
		steps           int64
		want            string
	}{
		{".", "1\n2\nx\n3", 0, "! 8\n! 8\n? 5 0\n! 8\n"}, {".", "1\n2\nx\n3", 1, "1\n2\n? 5 0\n3\n"}, {". , .", "1\n2", 3, "1\n! 8\n2\n! 8\n"}, {".[]", "[1,2]\n[1]\n[]\n[1,2,3]", 3, "1\n2\n1\n1\n2\n! 8\n"},
		{"1 + 2 * 3", "0", 2, "! 8\n"}, {"1 + 2 * 3", "0", 3, "7\n"}, {". | try . | .", "5\n6", 1, "5\n6\n"}, {"try ((1 // 2) + 3)", "0", 3, "! 8\n"}, {"try ((1 // 2) + 3)", "0", 4, "4\n"}, {"(try 1) // 2", "0", 3, "1\n"},
	} {
		if got := checkDriven(t, c.program, c.inputs, c.steps); got != (impl.DriveResult{Text: c.want}) {
			t.Errorf("%s of %q with %d: %s, want %s", c.program, c.inputs, c.steps, drivenAs(got), c.want)
		}
	}
}

// The bytes of both texts, the steps, the program, in this order; then the lines have
// no code of their own.
func TestDriveTextCodes(t *testing.T) {
	blanks := strings.Repeat(" ", 4000)
	inputs := []string{"", "7", "x\n[\n", "\n", blanks, strings.Repeat("\n", 4000), strings.Repeat("[", 4000), "7" + blanks, strings.Repeat("\n", 4001), strings.Repeat("\xff", 100000)}
	programs := append(badPrograms(), badProgram{".", 0, 0}, badProgram{"empty", 0, 0}, badProgram{"." + blanks[1:], 0, 0}, badProgram{blanks[1:] + ".", 0, 0})
	for _, p := range programs {
		for _, input := range inputs {
			for _, steps := range farSteps {
				want := impl.DriveResult{}
				switch {
				case len(p.program) > 4000 || len(input) > 4000:
					want.Code = impl.ErrMany
				case steps < 0 || steps > 30000:
					want.Code = impl.ErrRange
				case p.code != 0:
					want = impl.DriveResult{Code: p.code, At: p.at}
				}
				got := impl.DriveText(p.program, input, steps)
				if want.Code == 0 {
					got.Text = ""
				}
				if got != want {
					t.Errorf("%s of %.80q with %d: %s, want %s", short(p.program), input, steps, short(drivenAs(got)), drivenAs(want))
				}
			}
		}
	}
}

// As many bytes and lines as there may be.
func TestDriveTextGreatInputs(t *testing.T) {
	full := strings.Repeat("\n", 4000)
	for _, c := range []struct{ program, inputs, want string }{
		{".", full, strings.Repeat("? 5 0\n", 4000)}, {"empty", full, strings.Repeat("? 5 0\n", 4000)}, {".", strings.Repeat("1\n", 2000), strings.Repeat("1\n", 2000)}, {".", strings.Repeat("1\n\n", 1333) + "2", strings.Repeat("1\n? 5 0\n", 1333) + "2\n"}, {".", numberLines(201), numberLines(201)}, {".", strings.Repeat(" ", 3999) + "7", "7\n"}, {".", strings.Repeat(" ", 3998) + "7\n", "7\n"}, {".", strings.Repeat(" ", 4000), "? 5 4000\n"}, {".", strings.Repeat(" ", 3999) + "\n", "? 5 3999\n"}, {"." + strings.Repeat("\n", 3999), "7\n8", "7\n8\n"}, {"range(199) , range(199)", "0\n1\n", strings.Repeat(numberLines(199)+numberLines(101)+"! 2\n", 2)},
	} {
		if got := checkDriven(t, c.program, c.inputs, 2000); got != (impl.DriveResult{Text: c.want}) {
			t.Errorf("%s of %s: %s, want %s", short(c.program), short(strconv.Quote(c.inputs)), short(drivenAs(got)), short(c.want))
		}
	}
	for _, n := range []int{199, 200, 201, 300, 301, 1000} {
		if got := checkDriven(t, ".", strings.Repeat("5\n", n), 9); strings.Count(got.Text, "5\n") != n {
			t.Error(n, short(got))
		}
	}
	// A text that is longer than what may come in.
	value := "[" + strings.TrimSuffix(strings.Repeat(`"`+strings.Repeat("x", 60)+`",`, 60), ",") + "]"
	if got := checkDriven(t, ".,.,.,.", value, 100); got.Text != strings.Repeat(value+"\n", 4) {
		t.Error(short(got))
	}
}

// All short inputs of these pieces, and inputs with a byte changed.
func TestDriveTextAgainstModel(t *testing.T) {
	for _, program := range []string{".", ".[] , 1", "1 / (.[0] - 1)"} {
		t.Run(program, func(t *testing.T) {
			t.Parallel()
			s := sessionOf(program, 60, false)
			check := func(inputs string) {
				if got, want := impl.DriveText(program, inputs, 60), modelLines(s, inputs); got != (impl.DriveResult{Text: want}) {
					t.Fatalf("%s of %q: %s, want %s", program, inputs, short(drivenAs(got)), short(want))
				}
			}
			shortTexts("", []string{"\n", "1", "[", "]", " ", "\r", ",", "x"}, 4, check)
			shortTexts("", []string{"\n", "[1]", "[2]\n", "0", "x"}, 5, check)
			changedTexts("{\"a\":2}\nx\n0\n\n[1,2]", check)
		})
	}
	changedTexts(".a|.[]?//1/0", func(program string) { checkDriven(t, program, "{\"a\":2}\n\n{\"a\":[1]}", 60) })
}

func checkExplained(t *testing.T, program string) impl.DriveResult {
	t.Helper()
	got, want := impl.ExplainText(program), modelExplained(program)
	if got != want {
		t.Fatalf("%s: %s, want %s", short(program), short(drivenAs(got)), short(drivenAs(want)))
	}
	return got
}

func TestExplainText(t *testing.T) {
	for program, want := range map[string][]string{
		".a": {`.["a"]`, "nodes 3 3", "code 6 0", "makes 1 1 1"}, ".": {".", "nodes 1 1", "code 1 0", "makes 1 1 0"}, "empty": {"empty", "nodes 1 1", "code 2 0", "makes 0 0 0"}, "error": {"error", "nodes 1 1", "code 2 0", "makes 1 1 1"}, "type": {"type", "nodes 1 1", "code 2 0", "makes 1 1 0"}, " ( 1 ) ": {"1", "nodes 1 1", "code 3 0", "makes 1 1 0"},
		".[]": {".[]", "nodes 2 2", "code 2 0", "makes 0 1000 1"}, "try .[]": {"(try .[])", "nodes 3 3", "code 3 0", "makes 0 1000 0"}, ".[]?": {"(try .[])", "nodes 3 3", "code 3 0", "makes 0 1000 0"}, ". , 1": {"(. , 1)", "nodes 3 3", "code 5 0", "makes 2 2 0"}, ".a // (1 , 2)": {`(.["a"] // (1 , 2))`, "nodes 7 7", "code 24 1", "makes 1 2 0"},
		// The core has more nodes than the tree, or the same; no passes are run.
		"..": {"..", "nodes 1 2", "code 3 0", "makes 0 1000 1"}, "not": {"not", "nodes 1 4", "code 8 0", "makes 1 1 0"}, ". or .": {"(. or .)", "nodes 3 7", "code 13 0", "makes 1 1 0"}, "map(.)": {"map(.)", "nodes 2 5", "code 9 1", "makes 1 1 1"}, "range(3)": {"range(3)", "nodes 2 4", "code 5 0", "makes 0 1000 1"}, "1 + 2 * 3": {"(1 + (2 * 3))", "nodes 5 5", "code 13 0", "makes 1 1 1"}, "try try 1": {"(try (try 1))", "nodes 3 3", "code 5 0", "makes 1 1 0"}, "empty , .": {"(empty , .)", "nodes 3 3", "code 4 0", "makes 1 1 0"},
		// Registers.
		". as $x | [$x]": {"(. as $x | [$x])", "nodes 4 4", "code 12 2", "makes 1 1 1"}, "reduce .[] as $x (0; . + $x)": {"(reduce .[] as $x (0 ; (. + $x)))", "nodes 7 7", "code 20 2", "makes 1 1 1"}, "[[.]]": {"[[.]]", "nodes 3 3", "code 15 2", "makes 1 1 1"},
		`{a:.,"b c":"\""}`: {`{"a":.,"b c":"\""}`, "nodes 5 5", "code 11 0", "makes 1 1 1"}, "if . then 1 , 2 else empty end": {"(if . then (1 , 2) else empty end)", "nodes 6 6", "code 11 0", "makes 0 2 0"}, ".a|.b+1": {`(.["a"] | (.["b"] + 1))`, "nodes 9 9", "code 16 0", "makes 1 1 1"},
	} {
		text := strings.Join(want, "\n") + "\n"
		if got := checkExplained(t, program); got != (impl.DriveResult{Text: text}) {
			t.Errorf("%s: %s, want %s", program, drivenAs(got), text)
		}
	}
	for _, c := range badPrograms() {
		if got := checkExplained(t, c.program); got != (impl.DriveResult{Code: c.code, At: c.at}) {
			t.Errorf("%s: %s, want %d at %d", short(c.program), short(drivenAs(got)), c.code, c.at)
		}
	}
}

// Each line against what the functions tell of it, for programs of all kinds.
func TestExplainTextAgainstModel(t *testing.T) {
	programs := []string{wideText(199), "[" + wideText(197) + "]", strings.ReplaceAll(wideText(199), "1", "not"), strings.NewReplacer("1", "..", ",", "//").Replace(wideText(199)), "." + strings.Repeat(" ", 3999), strings.Repeat("(.,.)|", 20) + ".", strings.Repeat("[", 29) + "1" + strings.Repeat("]", 29)}
	for text := range oneOfEach() {
		programs = append(programs, text)
	}
	for _, c := range meanTexts() {
		programs = append(programs, c.program)
	}
	d := dice(540)
	for range 1500 {
		programs = append(programs, d.branch(1+d.below(30), nil).String())
	}
	told := 0
	for _, program := range programs {
		got := checkExplained(t, program)
		if got.Code != 0 {
			continue
		}
		told++
		tree := impl.ParseProgram(program).Tree
		list := impl.LowerTree(tree).Core
		compiled, count := impl.CompileCore(list), impl.CountCore(list)
		lines := []string{impl.FormatProgram(tree).Text, fmt.Sprint("nodes ", len(tree), " ", len(list)), fmt.Sprint("code ", len(compiled.Ins), " ", compiled.Regs), fmt.Sprint("makes ", count.Low, " ", count.High, " ", map[bool]int{true: 1}[count.Fails]), ""}
		if !slices.Equal(strings.Split(got.Text, "\n"), lines) {
			t.Errorf("%s: %s, want %s", short(program), short(got.Text), short(lines))
		}
	}
	if told < 1200 {
		t.Error(told, len(programs))
	}
}
