package tests

import (
	"maps"
	"slices"
	"strconv"
	"strings"

	"loop.example/g00166/impl"
)

type in = impl.In

// modelIns has for each op of an instruction its word, what it names (V a value,
// K a key, P an op of two values, D a do, J a place behind it, R a register), how
// many values it takes and lays, and where it goes on (n at the next one, a at
// its Arg).
var modelIns = []struct {
	word, names string
	takes, lays int64
	goes        string
}{
	1: {"dup", "", 1, 2, "n"}, 2: {"pop", "", 1, 0, "n"}, 3: {"push", "V", 0, 1, "n"}, 4: {"swap", "", 2, 2, "n"}, 5: {"bin", "P", 2, 1, "n"}, 6: {"at", "", 2, 1, "n"}, 7: {"each", "", 1, 1, "n"}, 8: {"do", "D", 1, 1, "n"}, 9: {"member", "K", 2, 1, "n"},
	10: {"jump", "J", 0, 0, "a"}, 11: {"unless", "J", 1, 0, "na"}, 12: {"fork", "J", 0, 0, "na"}, 13: {"try", "J", 0, 0, "na"}, 14: {"alt", "J", 0, 0, "na"}, 15: {"back", "", 0, 0, ""}, 16: {"store", "R", 1, 0, "n"}, 17: {"load", "R", 0, 1, "n"}, 18: {"append", "R", 1, 0, "n"}, 19: {"emit", "", 1, 0, ""},
}

func inOf(word string) int64 {
	for op, row := range modelIns {
		if op > 0 && row.word == word {
			return int64(op)
		}
	}
	panic(word)
}

// inAs is an instruction as a text: its word, and behind a blank what it names.
// What it does not name, but has, is told, too.
func inAs(i in) string {
	if i.Op < 1 || int(i.Op) >= len(modelIns) {
		return "op " + strconv.FormatInt(i.Op, 10)
	}
	row := modelIns[i.Op]
	text := row.word
	if strings.ContainsAny(row.names, "PDJR") || i.Arg != 0 {
		text += " " + strconv.FormatInt(i.Arg, 10)
	}
	if strings.ContainsAny(row.names, "VK") || len(i.Val) > 0 {
		text += " " + told(impl.ValueResult{Value: i.Val})
	}
	return text
}

// codeAs is code as a text: its instructions with ";" between them.
func codeAs(ins []in) string {
	var words []string
	for _, i := range ins {
		words = append(words, inAs(i))
	}
	return strings.Join(words, "; ")
}

// readCode reads what codeAs tells.
func readCode(text string) []in {
	var ins []in
	for _, piece := range strings.Split(text, "; ") {
		word, rest, _ := strings.Cut(piece, " ")
		i := in{Op: inOf(word)}
		names := modelIns[i.Op].names
		var err error
		switch {
		case strings.ContainsAny(names, "VK"):
			i.Val = val(rest)
		case names != "":
			i.Arg, err = strconv.ParseInt(rest, 10, 64)
		case rest != "":
			panic(piece)
		}
		if err != nil {
			panic(piece)
		}
		ins = append(ins, i)
	}
	return ins
}

// modelCodes has for each op of a core its code, word by word: [A] is that of A,
// L: a place, @L what goes there, /r a register that is named by the node, /$ that
// of the variable, # the node's Num, = a value, =V the node's Val.
var modelCodes = []string{
	impl.CoreSelf: "", impl.CoreConst: "pop push=V", impl.CoreEmpty: "back", impl.CoreVar: "pop load/$", impl.CoreDo: "do#", impl.CorePipe: "[A] [B]", impl.CoreComma: "fork@L [A] jump@M L: [B] M:",
	impl.CoreBin: "dup [B] swap [A] bin#", impl.CoreAt: "dup [A] swap [B] at", impl.CoreMember: "dup [A] swap [B] member=V", impl.CoreEach: "[A] each", impl.CoreTry: "try@L [A] L:",
	impl.CoreList:   "push=[] store/r fork@L [A] append/r back L: pop load/r",
	impl.CoreIf:     "dup [A] unless@L [B] jump@M L: [C] M:",
	impl.CoreAs:     "dup [A] store/r [B]",
	impl.CoreReduce: "dup [B] store/t fork@L [A] store/r load/t push=null store/t [C] store/t back L: pop load/t",
	impl.CoreAlt:    "push=false store/f alt@L [A] dup unless@M push=true store/f jump@K M: back L: load/f unless@N back N: [B] K:",
}

// modelRegs has the registers that a node of an op names, in their order.
var modelRegs = map[int64]string{impl.CoreList: "r", impl.CoreAs: "r", impl.CoreReduce: "tr", impl.CoreAlt: "f"}

// codeLine is an instruction, perhaps with the name of the place that it goes to;
// or the name of a place alone.
type codeLine struct {
	in    in
	goes  string
	place string
}

// modelCoder has the lines of a core's code, with places by names of their own.
type modelCoder struct {
	lines []codeLine
	regs  int64
	nodes int
}

func (m *modelCoder) node(w *twig, vars map[int64]int64) {
	m.nodes++
	mark := strconv.Itoa(m.nodes)
	own := map[string]int64{"$": vars[w.num]}
	for _, name := range modelRegs[w.op] {
		own[string(name)] = m.regs
		m.regs++
	}
	for _, word := range strings.Fields(modelCodes[w.op]) {
		if part := strings.Index("[A][B][C]", word); part >= 0 {
			inner := maps.Clone(vars)
			if w.binds(part / 3) {
				inner[w.num] = own["r"]
			}
			m.node(w.kids[part/3], inner)
			continue
		}
		if place, is := strings.CutSuffix(word, ":"); is {
			m.lines = append(m.lines, codeLine{place: place + mark})
			continue
		}
		name := word[:len(word)-len(strings.TrimLeft(word, "abcdefghijklmnopqrstuvwxyz"))]
		line := codeLine{in: in{Op: inOf(name)}}
		switch sign, rest := word[len(name):], strings.TrimLeft(word[len(name):], "@/#="); {
		case strings.HasPrefix(sign, "@"):
			line.goes = rest + mark
		case strings.HasPrefix(sign, "/"):
			line.in.Arg = own[rest]
		case strings.HasPrefix(sign, "#"):
			line.in.Arg = w.num
		case sign == "=V":
			line.in.Val = w.val
		case strings.HasPrefix(sign, "="):
			line.in.Val = val(rest)
		}
		m.lines = append(m.lines, line)
	}
}

// modelCompile is the code of a twig without a fault, however long it is, and how
// many registers it has.
func modelCompile(w *twig) ([]in, int64) {
	var m modelCoder
	m.node(w, map[int64]int64{})
	places := map[string]int64{}
	count := int64(0)
	for _, line := range m.lines {
		if line.place != "" {
			places[line.place] = count
		} else {
			count++
		}
	}
	var ins []in
	for _, line := range m.lines {
		if line.goes != "" {
			line.in.Arg = places[line.goes]
		}
		if line.place == "" {
			ins = append(ins, line.in)
		}
	}
	return append(ins, in{Op: inOf("emit")}), m.regs
}

// fault is a code and a place, as CodeFault tells them.
type fault struct{ code, at int64 }

func modelCodeFault(ins []in, regs int64) fault {
	if regs < 0 || regs > 1000 {
		return fault{impl.ErrRange, 0}
	}
	if len(ins) < 1 || len(ins) > 6000 {
		return fault{impl.ErrMany, 0}
	}
	for at, i := range ins {
		if code := modelInFault(i, int64(at), int64(len(ins)), regs); code != 0 {
			return fault{code, int64(at)}
		}
	}
	_, wrong := modelHeights(ins)
	if wrong >= 0 {
		return fault{impl.ErrCode, int64(wrong)}
	}
	return fault{}
}

func modelInFault(i in, at, count, regs int64) int64 {
	if i.Op < 1 || i.Op > 19 {
		return impl.ErrKind
	}
	names := modelIns[i.Op].names
	isVal := names == "V" || names == "K"
	isArg := names != "" && !isVal
	if i.Arg != 0 && !isArg || len(i.Val) != 0 && !isVal {
		return impl.ErrForm
	}
	if isVal {
		if fault := modelFault(i.Val); fault != 0 {
			return fault
		}
	}
	if names == "K" && i.Val[0].Kind != 4 {
		return impl.ErrKind
	}
	bounds := map[string][2]int64{"P": {1, 11}, "D": {1, 8}, "J": {at + 1, count - 1}, "R": {0, regs - 1}}
	if bound := bounds[names]; isArg && (i.Arg < bound[0] || bound[1] < i.Arg) {
		return impl.ErrRange
	}
	return 0
}

// modelHeights are the heights, and the first place at which they cannot be told
// (-1 for none).
func modelHeights(ins []in) ([]int64, int) {
	heights := slices.Repeat([]int64{-1}, len(ins))
	heights[0] = 1
	for at, i := range ins {
		row := modelIns[i.Op]
		if heights[at] < 0 {
			continue
		}
		if heights[at] < row.takes || at == len(ins)-1 && row.word != "emit" && row.word != "back" {
			return nil, at
		}
		behind := heights[at] - row.takes + row.lays
		for _, way := range row.goes {
			place := i.Arg
			if way == 'n' {
				place = int64(at) + 1
			}
			if heights[place] >= 0 && heights[place] != behind {
				return nil, at
			}
			heights[place] = behind
		}
	}
	return heights, -1
}

func modelCodeText(ins []in) string {
	text := ""
	for at, i := range ins {
		text += strconv.Itoa(at) + " " + inAs(i) + "\n"
	}
	return text
}

func modelTargets(ins []in) []int64 {
	var places []int64
	for at := range int64(len(ins)) {
		if slices.ContainsFunc(ins, func(i in) bool { return i.Op >= 10 && i.Op <= 14 && i.Arg == at }) {
			places = append(places, at)
		}
	}
	return places
}
