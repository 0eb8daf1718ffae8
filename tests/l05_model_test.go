package tests

import (
	"slices"
	"strconv"
	"strings"

	"loop.example/g00166/impl"
)

// branch is a node of a tree with those that it names.
type branch struct {
	op   int64
	num  int64
	text string
	kids []*branch
}

func br(op int64, kids ...*branch) *branch {
	return &branch{op: op, kids: kids}
}

func (b *branch) named(text string) *branch {
	return &branch{b.op, b.num, text, b.kids}
}

func (b *branch) numbered(num int64) *branch {
	return &branch{b.op, num, b.text, b.kids}
}

// nodes are those of a branch, each behind those that it names.
func (b *branch) nodes() []impl.Node {
	return b.behind(nil)
}

func (b *branch) behind(list []impl.Node) []impl.Node {
	var places [3]int64
	for i, kid := range b.kids {
		list = kid.behind(list)
		places[i] = int64(len(list)) - 1
	}
	return append(list, impl.Node{Op: b.op, A: places[0], B: places[1], C: places[2], Num: b.num, Text: b.text})
}

// modelForms has for each op how its text is made: A, B and C are those that it
// names, T its Text, Q that between quotes, N its Num.
var modelForms = map[int64]string{
	impl.NodeSelf: ".", impl.NodeNumber: "N", impl.NodeString: "Q", impl.NodeWord: "N",
	impl.NodePipe: "(A | B)", impl.NodeComma: "(A , B)", impl.NodeAlt: "(A // B)", impl.NodeOr: "(A or B)", impl.NodeAnd: "(A and B)", impl.NodeBin: "(A N B)",
	impl.NodeAt: "A[B]", impl.NodeEach: "A[]", impl.NodeTry: "(try A)", impl.NodeList: "[A]", impl.NodeNone: "[]", impl.NodeBare: "{}",
	impl.NodeMember: "AQ:B", impl.NodeIf: "(if A then B else C end)", impl.NodeReduce: "(reduce A as $T (B ; C))", impl.NodeAs: "(A as $T | B)",
	impl.NodeVar: "$T", impl.NodeCall: "T", impl.NodeCallOne: "T(A)", impl.NodeDeep: "..",
}

var modelOpMarks = strings.Fields("+ - * == != < <= > >= / %")

func (b *branch) String() string {
	if b.op == impl.NodeMember {
		var members []string
		object := b
		for ; object.op == impl.NodeMember; object = object.kids[0] {
			members = append(members, strconv.Quote(object.text)+":"+object.kids[1].String())
		}
		slices.Reverse(members)
		return "{" + strings.Join(members, ",") + "}"
	}
	text := ""
	for _, sign := range modelForms[b.op] {
		switch sign {
		case 'A', 'B', 'C':
			text += b.kids[sign-'A'].String()
		case 'T':
			text += b.text
		case 'Q':
			text += strconv.Quote(b.text)
		case 'N':
			text += b.numText()
		default:
			text += string(sign)
		}
	}
	return text
}

func (b *branch) numText() string {
	switch b.op {
	case impl.NodeWord:
		return []string{"null", "false", "true"}[b.num]
	case impl.NodeBin:
		return modelOpMarks[b.num-1]
	}
	return strconv.FormatInt(b.num, 10)
}

// branchOf is the tree that has these nodes, the last of which is the whole;
// nothing, if more than as many as there are were met on the way.
func branchOf(tree []impl.Node) *branch {
	met := 0
	var whole func(at int64) *branch
	whole = func(at int64) *branch {
		if met++; met > len(tree) {
			return nil
		}
		n := tree[at]
		b := &branch{op: n.Op, num: n.Num, text: n.Text}
		for i := range modelKids(n.Op) {
			kid := whole([]int64{n.A, n.B, n.C}[i])
			if kid == nil {
				return nil
			}
			b.kids = append(b.kids, kid)
		}
		return b
	}
	return whole(int64(len(tree)) - 1)
}

func (b *branch) depth() int {
	deepest := 0
	for _, kid := range b.kids {
		deepest = max(deepest, kid.depth())
	}
	return deepest + 1
}

func modelKids(op int64) int {
	kids := 0
	for i, sign := range "ABC" {
		if strings.ContainsRune(modelForms[op], sign) {
			kids = i + 1
		}
	}
	return kids
}

// modelTreeFault asks the fields by the forms, and the order by making the list
// of nodes again.
func modelTreeFault(tree []impl.Node) int64 {
	if len(tree) < 1 || len(tree) > 200 {
		return impl.ErrMany
	}
	for at := range tree {
		if fault := modelNodeFault(tree, at); fault != 0 {
			return fault
		}
	}
	whole := branchOf(tree)
	if whole == nil || !slices.Equal(whole.nodes(), tree) {
		return impl.ErrForm
	}
	if whole.depth() > 30 {
		return impl.ErrDeep
	}
	return 0
}

func modelNodeFault(tree []impl.Node, at int) int64 {
	n := tree[at]
	form, known := modelForms[n.Op]
	if !known {
		return impl.ErrKind
	}
	for i, link := range []int64{n.A, n.B, n.C} {
		if i < modelKids(n.Op) {
			if link < 0 || int64(at) <= link {
				return impl.ErrForm
			}
		} else if link != 0 {
			return impl.ErrForm
		}
	}
	if n.Num != 0 && !strings.Contains(form, "N") || n.Text != "" && !strings.ContainsAny(form, "TQ") {
		return impl.ErrForm
	}
	if strings.Contains(form, "Q") && badText(n.Text) {
		return impl.ErrText
	}
	if strings.Contains(form, "T") && modelTokenText(impl.Token{Kind: impl.TokName, Text: n.Text}).Code != 0 {
		return impl.ErrText
	}
	if strings.HasPrefix(form, "T") && slices.Contains(modelWords, n.Text) {
		return impl.ErrText
	}
	least, most := int64(0), int64(0)
	switch n.Op {
	case impl.NodeNumber:
		most = 1000000000000000
	case impl.NodeWord:
		most = 2
	case impl.NodeBin:
		least, most = 1, 11
	}
	if n.Num < least || n.Num > most {
		return impl.ErrRange
	}
	if n.Op == impl.NodeMember && tree[n.A].Op != impl.NodeBare && tree[n.A].Op != impl.NodeMember {
		return impl.ErrForm
	}
	return 0
}

// unbound has the places of variables that nothing about them binds, and of
// calls that are not known; bound are the names that something binds here.
func (b *branch) unbound(bound []string, at *int64) []int64 {
	var list []int64
	for i, kid := range b.kids {
		inner := bound
		if b.op == impl.NodeAs && i == 1 || b.op == impl.NodeReduce && i == 2 {
			inner = append(slices.Clone(bound), b.text)
		}
		list = append(list, kid.unbound(inner, at)...)
	}
	known := true
	switch b.op {
	case impl.NodeVar:
		known = slices.Contains(bound, b.text)
	case impl.NodeCall:
		known = slices.Contains(strings.Fields("length keys not empty error type sort add"), b.text)
	case impl.NodeCallOne:
		known = slices.Contains(strings.Fields("map select range"), b.text)
	}
	if !known {
		list = append(list, *at)
	}
	*at++
	return list
}

func modelScopeFault(tree []impl.Node) impl.IntResult {
	if fault := modelTreeFault(tree); fault != 0 {
		return impl.IntResult{Code: fault}
	}
	var at int64
	if list := branchOf(tree).unbound(nil, &at); len(list) > 0 {
		return impl.IntResult{Code: impl.ErrNone, Value: list[0]}
	}
	return impl.IntResult{}
}

// outcome is one way in which a piece of the tokens can be read.
type outcome struct {
	end  int
	made []*branch
}

// matcher tells all ways to read something from a token on, those that take
// more first; nest is how many terms are about it.
type matcher func(m *reading, at, nest int) []outcome

type ruleAt struct {
	rule     string
	at, nest int
}

// reading is what is known of a list of tokens: far is the last of them that was
// asked for anything, deep the one with which a term begins that is too deep.
type reading struct {
	tokens []impl.Token
	rules  map[string]matcher
	known  map[ruleAt][]outcome
	far    int
	deep   int
}

func (m *reading) token(at int) impl.Token {
	m.far = max(m.far, at)
	if at < len(m.tokens) {
		return m.tokens[at]
	}
	return impl.Token{}
}

func sign(text string) matcher {
	return func(m *reading, at, nest int) []outcome {
		if t := m.token(at); t.Text == text && (t.Kind == impl.TokName || t.Kind == impl.TokMark) {
			return []outcome{{end: at + 1}}
		}
		return nil
	}
}

// joined is a sign that is told as the branch that it makes of two others.
func joined(text string, op, num int64) matcher {
	return gives(br(op).numbered(num), sign(text))
}

func gives(b *branch, what matcher) matcher {
	return builds(func([]*branch) *branch { return b }, what)
}

// token is one of a kind, as a branch of this op.
func token(kind, op int64, free bool) matcher {
	return func(m *reading, at, nest int) []outcome {
		t := m.token(at)
		if t.Kind != kind || free && slices.Contains(modelWords, t.Text) {
			return nil
		}
		return []outcome{{at + 1, []*branch{{op: op, num: t.Num, text: t.Text}}}}
	}
}

func rule(name string) matcher {
	return func(m *reading, at, nest int) []outcome {
		key := ruleAt{name, at, nest}
		list, known := m.known[key]
		if !known {
			list = onePerEnd(m.rules[name](m, at, nest))
			m.known[key] = list
		}
		return list
	}
}

// onePerEnd keeps the first of those that end at the same place.
func onePerEnd(list []outcome) []outcome {
	var kept []outcome
	for _, o := range list {
		if !slices.ContainsFunc(kept, func(k outcome) bool { return k.end == o.end }) {
			kept = append(kept, o)
		}
	}
	return kept
}

func inTurn(parts ...matcher) matcher {
	return func(m *reading, at, nest int) []outcome {
		list := []outcome{{end: at}}
		for _, part := range parts {
			var longer []outcome
			for _, o := range list {
				for _, next := range part(m, o.end, nest) {
					longer = append(longer, outcome{next.end, slices.Concat(o.made, next.made)})
				}
			}
			list = longer
		}
		return list
	}
}

func either(ways ...matcher) matcher {
	return func(m *reading, at, nest int) []outcome {
		var list []outcome
		for _, way := range ways {
			list = append(list, way(m, at, nest)...)
		}
		return list
	}
}

func nothing(m *reading, at, nest int) []outcome {
	return []outcome{{end: at}}
}

func often(part matcher) matcher {
	return func(m *reading, at, nest int) []outcome {
		var list []outcome
		for _, o := range part(m, at, nest) {
			for _, more := range often(part)(m, o.end, nest) {
				list = append(list, outcome{more.end, slices.Concat(o.made, more.made)})
			}
		}
		return append(list, outcome{end: at})
	}
}

// most is often, as often as can be: only the longest way is told.
func most(part matcher) matcher {
	return func(m *reading, at, nest int) []outcome {
		o := outcome{end: at}
		for next := part(m, at, nest); len(next) > 0; next = part(m, o.end, nest) {
			o = outcome{next[0].end, slices.Concat(o.made, next[0].made)}
		}
		return []outcome{o}
	}
}

func builds(build func(parts []*branch) *branch, what matcher) matcher {
	return func(m *reading, at, nest int) []outcome {
		var list []outcome
		for _, o := range what(m, at, nest) {
			list = append(list, outcome{o.end, []*branch{build(o.made)}})
		}
		return list
	}
}

// term is one of its ways with one more term about what is in it.
func term(ways matcher) matcher {
	return func(m *reading, at, nest int) []outcome {
		if nest < 30 {
			return ways(m, at, nest+1)
		}
		t := m.token(at)
		starts := strings.Fields(". .. ( [ { null false true if reduce try")
		if t.Kind != impl.TokMark && t.Kind != 0 && !slices.Contains(modelWords, t.Text) || slices.Contains(starts, t.Text) || t.Kind == impl.TokString || t.Kind == impl.TokField || t.Kind == impl.TokVar {
			m.deep = at
		}
		return nil
	}
}

// fold lays joints and what is behind them around the first part, from the left.
func fold(parts []*branch) *branch {
	left := parts[0]
	for i := 1; i < len(parts); i += 2 {
		left = br(parts[i].op, left, parts[i+1]).numbered(parts[i].num)
	}
	return left
}

// endings lays what is behind a term around it.
func endings(parts []*branch) *branch {
	b := parts[0]
	for _, ending := range parts[1:] {
		b = br(ending.op, append([]*branch{b}, ending.kids...)...)
	}
	return b
}

func members(parts []*branch) *branch {
	object := br(impl.NodeBare)
	for i := 0; i < len(parts); i += 2 {
		object = br(impl.NodeMember, object, parts[i+1]).named(parts[i].text)
	}
	return object
}

func choices(parts []*branch) *branch {
	last := len(parts) - 1
	choice := parts[last]
	for i := last - 2; i >= 0; i -= 2 {
		choice = br(impl.NodeIf, parts[i], parts[i+1], choice)
	}
	return choice
}

func around(op int64) func([]*branch) *branch {
	return func(parts []*branch) *branch { return br(op, parts...) }
}

func binding(op int64) func([]*branch) *branch {
	return func(parts []*branch) *branch {
		return br(op, append([]*branch{parts[0]}, parts[2:]...)...).named(parts[1].text)
	}
}

func alternating(part string, joints ...matcher) matcher {
	return builds(fold, inTurn(rule(part), often(inTurn(either(joints...), rule(part)))))
}

func bins(marks ...string) []matcher {
	var list []matcher
	for _, mark := range marks {
		list = append(list, joined(mark, impl.NodeBin, int64(slices.Index(modelOpMarks, mark))+1))
	}
	return list
}

func stringOf(kind int64) matcher {
	return token(kind, impl.NodeString, kind == impl.TokName)
}

var aVar = token(impl.TokVar, impl.NodeVar, false)

// modelRules are the document's rules, one by one.
var modelRules = map[string]matcher{
	"pipe": either(
		builds(binding(impl.NodeAs), inTurn(rule("post"), sign("as"), aVar, sign("|"), rule("pipe"))),
		builds(fold, inTurn(rule("comma"), joined("|", impl.NodePipe, 0), rule("pipe"))),
		rule("comma")),
	"comma":   alternating("alt", joined(",", impl.NodeComma, 0)),
	"alt":     builds(fold, inTurn(rule("or"), either(inTurn(joined("//", impl.NodeAlt, 0), rule("alt")), nothing))),
	"or":      alternating("and", joined("or", impl.NodeOr, 0)),
	"and":     alternating("compare", joined("and", impl.NodeAnd, 0)),
	"compare": builds(fold, inTurn(rule("sum"), either(inTurn(either(bins("==", "!=", "<", "<=", ">", ">=")...), rule("sum")), nothing))),
	"sum":     alternating("product", bins("+", "-")...),
	"product": alternating("post", bins("*", "/", "%")...),
	"post":    builds(endings, inTurn(rule("term"), most(rule("ending")))),
	"ending": either(
		builds(around(impl.NodeAt), stringOf(impl.TokField)),
		builds(around(impl.NodeEach), inTurn(sign("["), sign("]"))),
		builds(around(impl.NodeAt), inTurn(sign("["), rule("pipe"), sign("]"))),
		builds(around(impl.NodeTry), sign("?"))),
	"term":   term(either(modelTerms()...)),
	"member": inTurn(either(stringOf(impl.TokName), stringOf(impl.TokString)), sign(":"), rule("alt")),
	"branch": inTurn(rule("pipe"), sign("then"), rule("pipe")),
}

func modelTerms() []matcher {
	self := br(impl.NodeSelf)
	call := func(parts []*branch) *branch {
		return br(impl.NodeCallOne, parts[1]).named(parts[0].text)
	}
	return []matcher{
		gives(self, sign(".")),
		gives(br(impl.NodeDeep), sign("..")),
		builds(func(parts []*branch) *branch { return br(impl.NodeAt, self, parts[0]) }, stringOf(impl.TokField)),
		token(impl.TokNumber, impl.NodeNumber, false),
		stringOf(impl.TokString),
		aVar,
		gives(br(impl.NodeWord), sign("null")),
		gives(br(impl.NodeWord).numbered(1), sign("false")),
		gives(br(impl.NodeWord).numbered(2), sign("true")),
		inTurn(sign("("), rule("pipe"), sign(")")),
		gives(br(impl.NodeNone), inTurn(sign("["), sign("]"))),
		builds(around(impl.NodeList), inTurn(sign("["), rule("pipe"), sign("]"))),
		builds(members, inTurn(sign("{"), sign("}"))),
		builds(members, inTurn(sign("{"), rule("member"), often(inTurn(sign(","), rule("member"))), sign("}"))),
		builds(choices, inTurn(sign("if"), rule("branch"), often(inTurn(sign("elif"), rule("branch"))), sign("else"), rule("pipe"), sign("end"))),
		builds(binding(impl.NodeReduce), inTurn(sign("reduce"), rule("post"), sign("as"), aVar, sign("("), rule("pipe"), sign(";"), rule("pipe"), sign(")"))),
		builds(around(impl.NodeTry), inTurn(sign("try"), rule("post"))),
		builds(call, inTurn(token(impl.TokName, impl.NodeCall, true), sign("("), rule("pipe"), sign(")"))),
		token(impl.TokName, impl.NodeCall, true),
	}
}

func modelParse(text string) impl.ProgramResult {
	lexed := modelLex(text)
	if lexed.Code != 0 {
		return impl.ProgramResult{Code: lexed.Code, At: lexed.At}
	}
	m := &reading{tokens: lexed.Tokens, rules: modelRules, known: map[ruleAt][]outcome{}, deep: -1}
	for _, o := range rule("pipe")(m, 0, 0) {
		if o.end < len(m.tokens) {
			continue
		}
		tree := o.made[0].nodes()
		if fault := modelTreeFault(tree); fault != 0 {
			return impl.ProgramResult{Code: fault}
		}
		return impl.ProgramResult{Tree: tree}
	}
	wrong := impl.ProgramResult{Code: impl.ErrText, At: int64(len(text))}
	if m.far < len(m.tokens) {
		wrong.At = m.tokens[m.far].At
	}
	if m.deep == m.far {
		wrong.Code = impl.ErrDeep
	}
	return wrong
}
