package tests

import (
	"reflect"
	"slices"
	"strconv"
	"strings"

	"loop.example/g00166/impl"
)

// twig is a node of a core with those that it names.
type twig struct {
	op   int64
	num  int64
	val  cells
	kids []*twig
}

func tw(op int64, kids ...*twig) *twig {
	return &twig{op: op, kids: kids}
}

func (w *twig) numbered(num int64) *twig {
	return &twig{w.op, num, w.val, w.kids}
}

func (w *twig) valued(val cells) *twig {
	return &twig{w.op, w.num, val, w.kids}
}

// nodes are those of a twig, each behind those that it names.
func (w *twig) nodes() []impl.Core {
	return w.behind(nil)
}

func (w *twig) behind(list []impl.Core) []impl.Core {
	var places [3]int64
	for i, kid := range w.kids {
		list = kid.behind(list)
		places[i] = int64(len(list)) - 1
	}
	return append(list, impl.Core{Op: w.op, A: places[0], B: places[1], C: places[2], Num: w.num, Val: slices.Clone(w.val)})
}

// modelCores has for each op its word and what it names: A, B and C others, V a
// value, K a key; Num is an op of two values (P), a slot (S) or a do (D).
var modelCores = [][2]string{
	1: {"self", ""}, 2: {"const", "V"}, 3: {"pipe", "AB"}, 4: {"comma", "AB"}, 5: {"alt", "AB"}, 6: {"bin", "ABP"}, 7: {"at", "AB"}, 8: {"each", "A"}, 9: {"try", "A"}, 10: {"list", "A"},
	11: {"member", "ABK"}, 12: {"if", "ABC"}, 13: {"reduce", "ABCS"}, 14: {"as", "ABS"}, 15: {"var", "S"}, 16: {"do", "D"}, 17: {"empty", ""},
}

func coreNames(op int64) string {
	return modelCores[op][1]
}

func coreKids(op int64) int {
	return len(strings.TrimRight(coreNames(op), "VKPSD"))
}

// String tells a twig as op:num=val(kids), each where it is named.
func (w *twig) String() string {
	text := modelCores[w.op][0]
	if strings.ContainsAny(coreNames(w.op), "PSD") {
		text += ":" + strconv.FormatInt(w.num, 10)
	}
	if strings.ContainsAny(coreNames(w.op), "VK") {
		m, _ := readModel(w.val)
		text += "=" + m.json()
	}
	var kids []string
	for _, kid := range w.kids {
		kids = append(kids, kid.String())
	}
	if len(kids) > 0 {
		text += "(" + strings.Join(kids, " ") + ")"
	}
	return text
}

// twigOf is the twig that has these nodes, the last of which is the whole;
// nothing, if more than as many as there are were met on the way.
func twigOf(core []impl.Core) *twig {
	met := 0
	var whole func(at int64) *twig
	whole = func(at int64) *twig {
		if met++; met > len(core) {
			return nil
		}
		c := core[at]
		w := &twig{op: c.Op, num: c.Num, val: c.Val}
		for i := range coreKids(c.Op) {
			kid := whole([]int64{c.A, c.B, c.C}[i])
			if kid == nil {
				return nil
			}
			w.kids = append(w.kids, kid)
		}
		return w
	}
	return whole(int64(len(core)) - 1)
}

func (w *twig) depth() int {
	deepest := 0
	for _, kid := range w.kids {
		deepest = max(deepest, kid.depth())
	}
	return deepest + 1
}

// unbound tells whether there is a variable whose slot nothing about it binds.
func (w *twig) unbound(bound []int64) bool {
	for i, kid := range w.kids {
		inner := bound
		if w.op == impl.CoreAs && i == 1 || w.op == impl.CoreReduce && i == 2 {
			inner = append(slices.Clone(bound), w.num)
		}
		if kid.unbound(inner) {
			return true
		}
	}
	return w.op == impl.CoreVar && !slices.Contains(bound, w.num)
}

// sameCores asks all fields; a Val without cells is the same as none.
func sameCores(a, b []impl.Core) bool {
	return slices.EqualFunc(a, b, func(x, y impl.Core) bool {
		same := slices.Equal(x.Val, y.Val)
		x.Val, y.Val = nil, nil
		return same && reflect.DeepEqual(x, y)
	})
}

func modelCoreFault(core []impl.Core) int64 {
	if len(core) < 1 || len(core) > 900 {
		return impl.ErrMany
	}
	for at, c := range core {
		if fault := modelCoreNodeFault(c, int64(at)); fault != 0 {
			return fault
		}
	}
	whole := twigOf(core)
	switch {
	case whole == nil || !sameCores(whole.nodes(), core):
		return impl.ErrForm
	case whole.unbound(nil):
		return impl.ErrNone
	case whole.depth() > 120:
		return impl.ErrDeep
	}
	return 0
}

func modelCoreNodeFault(c impl.Core, at int64) int64 {
	if c.Op < 1 || int(c.Op) >= len(modelCores) {
		return impl.ErrKind
	}
	names := coreNames(c.Op)
	for i, link := range []int64{c.A, c.B, c.C} {
		if !strings.Contains(names, "ABC"[i:i+1]) {
			if link != 0 {
				return impl.ErrForm
			}
		} else if link < 0 || at <= link {
			return impl.ErrForm
		}
	}
	if c.Num != 0 && !strings.ContainsAny(names, "PSD") || len(c.Val) != 0 && !strings.ContainsAny(names, "VK") {
		return impl.ErrForm
	}
	if strings.ContainsAny(names, "VK") {
		if fault := modelFault(c.Val); fault != 0 {
			return fault
		}
		if strings.Contains(names, "K") && c.Val[0].Kind != 4 {
			return impl.ErrKind
		}
	}
	bounds := map[string][2]int64{"P": {1, 11}, "S": {0, 59}, "D": {1, 8}}
	for sign, bound := range bounds {
		if strings.Contains(names, sign) && (c.Num < bound[0] || c.Num > bound[1]) {
			return impl.ErrRange
		}
	}
	return 0
}

// modelLowerings has for each op what it becomes, as a twig's text: A, B and C
// are what those become that it names, N its Num, Q its Text as a string, S the
// slot of its variable.
var modelLowerings = map[int64]string{
	impl.NodeSelf: "self", impl.NodeNumber: "const=N", impl.NodeString: "const=Q", impl.NodeWord: "const=N", impl.NodeNone: "const=[]", impl.NodeBare: "const={}", impl.NodeDeep: "each(do:7)",
	impl.NodePipe: "pipe(A B)", impl.NodeComma: "comma(A B)", impl.NodeAlt: "alt(A B)", impl.NodeAt: "at(A B)", impl.NodeEach: "each(A)", impl.NodeTry: "try(A)", impl.NodeList: "list(A)",
	impl.NodeBin: "bin:N(A B)", impl.NodeMember: "member=Q(A B)", impl.NodeIf: "if(A B C)", impl.NodeReduce: "reduce:S(A B C)", impl.NodeAs: "as:S(A B)", impl.NodeVar: "var:S",
	impl.NodeOr:  "if(A const=true if(B const=true const=false))",
	impl.NodeAnd: "if(A if(B const=true const=false) const=false)",
}

var modelCallLowerings = map[string]string{
	"not": "if(self const=false const=true)", "empty": "empty", "length": "do:1", "keys": "do:2", "type": "do:3", "sort": "do:4", "add": "do:5", "error": "do:8",
	"map": "list(pipe(each(self) A))", "select": "if(A self empty)", "range": "pipe(A each(do:6))",
}

// modelLower tells the core of a tree without a fault as a twig's text.
func modelLower(tree []impl.Node) string {
	texts := make([]string, len(tree))
	for at, n := range tree {
		form := modelLowerings[n.Op]
		if n.Op == impl.NodeCall || n.Op == impl.NodeCallOne {
			form = modelCallLowerings[n.Text]
		}
		for _, sign := range form {
			switch sign {
			case 'A':
				texts[at] += texts[n.A]
			case 'B':
				texts[at] += texts[n.B]
			case 'C':
				texts[at] += texts[n.C]
			case 'Q':
				texts[at] += strconv.Quote(n.Text)
			case 'N':
				texts[at] += modelNum(n)
			case 'S':
				texts[at] += strconv.Itoa(modelSlot(tree, at))
			default:
				texts[at] += string(sign)
			}
		}
	}
	return texts[len(tree)-1]
}

func modelNum(n impl.Node) string {
	if n.Op == impl.NodeWord {
		return []string{"null", "false", "true"}[n.Num]
	}
	return strconv.FormatInt(n.Num, 10)
}

// modelSlot counts the nodes that bind something in a stretch of the list in
// which the one stands that binds the variable at at.
func modelSlot(tree []impl.Node, at int) int {
	own := at
	if tree[at].Op == impl.NodeVar {
		// The stretch of the innermost one ends first.
		own = slices.IndexFunc(tree, func(n impl.Node) bool { return n.Text == tree[at].Text && bindsAt(n, at) })
	}
	slot := 0
	for _, n := range tree {
		if bindsAt(n, own) {
			slot++
		}
	}
	return slot
}

// bindsAt tells whether the place at is within what n binds its variable in: all
// that stands behind those that it names ahead of that.
func bindsAt(n impl.Node, at int) bool {
	switch n.Op {
	case impl.NodeAs:
		return int(n.A) < at && at <= int(n.B)
	case impl.NodeReduce:
		return int(n.B) < at && at <= int(n.C)
	}
	return false
}

// modelDeep lays a value ahead of those in it.
func modelDeep(m model) []cells {
	list := []cells{m.lay()}
	for _, kid := range m.kids {
		list = append(list, modelDeep(kid)...)
	}
	return list
}

func modelDeepOf(s sample) impl.ValueResult {
	if s.fault != 0 {
		return failing(s.fault)
	}
	return made(arr(modelDeep(s.model)...))
}

func modelNative(do int64, s sample) impl.ValueResult {
	if s.fault != 0 {
		return failing(s.fault)
	}
	natives := map[int64]func(sample) impl.ValueResult{1: modelLength, 2: modelKeys, 3: modelType, 4: modelSort, 5: modelAddAll, 6: modelRange, 7: modelDeepOf}
	if native := natives[do]; native != nil {
		return native(s)
	}
	if do == 8 {
		return failing(impl.ErrForm)
	}
	return failing(impl.ErrRange)
}

func modelRange(s sample) impl.ValueResult {
	if s.model.kind != impl.KindNumber {
		return failing(impl.ErrKind)
	}
	if s.model.num >= 200 {
		return failing(impl.ErrRange)
	}
	return made(numbersUpTo(max(0, int(s.model.num))))
}

// modelCoreText joins the fields line by line.
func modelCoreText(core []impl.Core) impl.TextResult {
	if fault := modelCoreFault(core); fault != 0 {
		return impl.TextResult{Code: fault}
	}
	text := ""
	for at, c := range core {
		line := []string{strconv.Itoa(at)}
		for _, field := range []int64{c.Op, c.A, c.B, c.C, c.Num} {
			line = append(line, strconv.FormatInt(field, 10))
		}
		val := "-"
		if len(c.Val) > 0 {
			m, _ := readModel(c.Val)
			val = m.json()
		}
		text += strings.Join(append(line, val), " ") + "\n"
	}
	return impl.TextResult{Text: text}
}
