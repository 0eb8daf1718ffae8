package tests

import (
	"fmt"
	"slices"
	"strconv"
	"strings"

	"loop.example/g00166/impl"
)

// modelSessionTwig is the core of a session of a tree whose names are known.
func modelSessionTwig(tree []node, plain bool) *twig {
	w := readTwig(modelLower(tree))
	if plain {
		return w
	}
	return twigOf(modelPassed(w, []int64{1, 2, 3, 4, 1, 2, 3}).Core)
}

func modelNewSession(program string, steps int64, plain bool) impl.SessionResult {
	if !stepsFit(steps) {
		return impl.SessionResult{Code: impl.ErrRange}
	}
	read := modelParse(program)
	if read.Code != 0 {
		return impl.SessionResult{Code: read.Code, At: read.At}
	}
	if scope := modelScopeFault(read.Tree); scope.Code != 0 {
		return impl.SessionResult{Code: scope.Code, At: scope.Value}
	}
	return impl.SessionResult{Session: impl.Session{Tree: read.Tree, Core: modelSessionTwig(read.Tree, plain).nodes(), Steps: steps, Plain: plain}}
}

func modelSessionFault(s impl.Session) int64 {
	if fault := modelTreeFault(s.Tree); fault != 0 {
		return fault
	}
	if fault := modelCoreFault(s.Core); fault != 0 {
		return fault
	}
	if !stepsFit(s.Steps) {
		return impl.ErrRange
	}
	if scope := modelScopeFault(s.Tree); scope.Code != 0 {
		return scope.Code
	}
	if !sameCores(s.Core, modelSessionTwig(s.Tree, s.Plain).nodes()) {
		return impl.ErrForm
	}
	return 0
}

func modelFed(s impl.Session, input string) impl.DriveResult {
	if fault := modelSessionFault(s); fault != 0 {
		return impl.DriveResult{Code: fault}
	}
	ins, regs := modelCompile(twigOf(s.Core))
	return modelLine(ins, regs, s.Steps, input)
}

func modelLine(ins []in, regs int64, steps int64, input string) impl.DriveResult {
	read := modelDecode(input)
	if read.Code != 0 {
		return impl.DriveResult{Code: read.Code, At: read.At}
	}
	return impl.DriveResult{Text: modelRunText(modelHistory(ins, regs, read.Value, steps).run(steps))}
}

func modelRunText(run impl.RunResult) string {
	var lines []string
	for _, out := range run.Outs {
		lines = append(lines, told(made(out))+"\n")
	}
	if run.Code != 0 {
		lines = append(lines, fmt.Sprintf("! %d\n", run.Code))
	}
	return strings.Join(lines, "")
}

func modelDriven(program, inputs string, steps int64) impl.DriveResult {
	if len(program) > 4000 || len(inputs) > 4000 {
		return impl.DriveResult{Code: impl.ErrMany}
	}
	made := modelNewSession(program, steps, false)
	if made.Code != 0 {
		return impl.DriveResult{Code: made.Code, At: made.At}
	}
	return impl.DriveResult{Text: modelLines(made.Session, inputs)}
}

// modelLines is what a session without a fault tells of each line.
func modelLines(s impl.Session, inputs string) string {
	ins, regs := modelCompile(twigOf(s.Core))
	var text strings.Builder
	for rest := inputs; rest != ""; {
		line, behind, _ := strings.Cut(rest, "\n")
		fed := modelLine(ins, regs, s.Steps, line)
		if fed.Code != 0 {
			fed.Text = fmt.Sprintf("? %d %d\n", fed.Code, fed.At)
		}
		text.WriteString(fed.Text)
		rest = behind
	}
	return text.String()
}

func modelExplained(program string) impl.DriveResult {
	made := modelNewSession(program, 0, true)
	if made.Code != 0 {
		return impl.DriveResult{Code: made.Code, At: made.At}
	}
	w := twigOf(made.Session.Core)
	ins, regs := modelCompile(w)
	count := modelCounted(w)
	fails := map[bool]int{true: 1}[count.Fails]
	return impl.DriveResult{Text: fmt.Sprintf("%v\nnodes %d %d\ncode %d %d\nmakes %d %d %d\n", branchOf(made.Session.Tree), len(made.Session.Tree), len(made.Session.Core), len(ins), regs, count.Low, count.High, fails)}
}

// sessionAs is an answer as a text: the tree's text, the core's twig, the steps and
// whether it is plain; or "!", the code and the place.
func sessionAs(r impl.SessionResult) string {
	s := r.Session
	if r.Code != 0 {
		return wrongAt(r.Code, r.At) + strings.Repeat(" and a session", min(1, len(s.Tree)+len(s.Core)+int(s.Steps)))
	}
	if r.At != 0 || modelTreeFault(s.Tree) != 0 || modelCoreFault(s.Core) != 0 {
		return "a session with a fault"
	}
	return strings.Join([]string{branchOf(s.Tree).String(), twigOf(s.Core).String(), strconv.FormatInt(s.Steps, 10), strconv.FormatBool(s.Plain)}, " ; ")
}

func sameSession(a, b impl.SessionResult) bool {
	return a.Code == b.Code && a.At == b.At && slices.Equal(a.Session.Tree, b.Session.Tree) && sameCores(a.Session.Core, b.Session.Core) && a.Session.Steps == b.Session.Steps && a.Session.Plain == b.Session.Plain
}

// drivenAs is an answer as a text: that which it has, or "!", the code and the place.
func drivenAs(r impl.DriveResult) string {
	if r.Code != 0 {
		return wrongAt(r.Code, r.At) + strings.Repeat(" and a text", min(1, len(r.Text)))
	}
	return strings.Repeat("at a place: ", int(min(1, max(r.At, -r.At)))) + r.Text
}

// sessionOf is one whose program has no fault.
func sessionOf(program string, steps int64, plain bool) impl.Session {
	made := modelNewSession(program, steps, plain)
	if made.Code != 0 {
		panic(program)
	}
	return made.Session
}

func cloneSession(s impl.Session) impl.Session {
	s.Tree, s.Core = slices.Clone(s.Tree), cloneCore(s.Core)
	return s
}

// branch is one of about that many nodes, all of whose names are known: these are
// the variables about it.
func (d *dice) branch(size int, vars []string) *branch {
	leaves := []*branch{br(impl.NodeSelf), br(impl.NodeSelf), br(impl.NodeNumber).numbered(1), br(impl.NodeNumber).numbered(3), br(impl.NodeString).named("a"), br(impl.NodeWord), br(impl.NodeWord).numbered(2), br(impl.NodeNone), br(impl.NodeBare), br(impl.NodeDeep)}
	for _, name := range strings.Fields("length keys not empty empty error error type sort add") {
		leaves = append(leaves, br(impl.NodeCall).named(name))
	}
	for range 2 {
		for _, name := range vars {
			leaves = append(leaves, br(impl.NodeVar).named(name))
		}
	}
	if size < 2 {
		return leaves[d.below(len(leaves))]
	}
	heads := []*branch{br(impl.NodePipe), br(impl.NodePipe), br(impl.NodeComma), br(impl.NodeComma), br(impl.NodeAlt), br(impl.NodeAlt), br(impl.NodeOr), br(impl.NodeAnd), br(impl.NodeBin).numbered(impl.OpAdd), br(impl.NodeBin).numbered(int64(1 + d.below(11))), br(impl.NodeAt), br(impl.NodeEach), br(impl.NodeTry), br(impl.NodeTry), br(impl.NodeList), br(impl.NodeMember).named("k"), br(impl.NodeIf), br(impl.NodeReduce).named("x"), br(impl.NodeAs).named("x"), br(impl.NodeAs).named("y"), br(impl.NodeCallOne).named("map"), br(impl.NodeCallOne).named("select"), br(impl.NodeCallOne).named("range")}
	b := heads[d.below(len(heads))]
	kids := modelKids(b.op)
	left := size - 1
	for at := range kids {
		part := max(1, left)
		if at < kids-1 {
			part = 1 + d.below(part)
		}
		left -= part
		inner := vars
		if b.op == impl.NodeAs && at == 1 || b.op == impl.NodeReduce && at == 2 {
			inner = append(slices.Clone(vars), b.text)
		}
		kid := d.branch(part, inner)
		if b.op == impl.NodeMember && at == 0 {
			kid = br(impl.NodeBare)
		}
		b.kids = append(b.kids, kid)
	}
	return b
}
