package tests

import (
	"bytes"
	"encoding/json"
	"regexp"
	"slices"
	"strings"

	"loop.example/g00166/impl"
)

// Events are told here from leaf to leaf: what the steps to one leaf and those to the
// next one do not share has ended between them. Prints are those of the library.

// modelLeaf has the steps to a leaf, and the leaf, as texts.
type modelLeaf struct {
	steps []string
	text  string
}

// modelLeaves goes through a list of what is still to be looked at.
func modelLeaves(m model) []modelLeaf {
	type look struct {
		m     model
		steps []string
	}
	var leaves []modelLeaf
	for looks := []look{{m: m}}; len(looks) > 0; {
		next := looks[0]
		looks = looks[1:]
		if len(next.m.kids) == 0 {
			leaves = append(leaves, modelLeaf{next.steps, next.m.json()})
		}
		var inner []look
		for i, kid := range next.m.kids {
			step := num(int64(i))
			if next.m.kind == impl.KindObject {
				step = str(next.m.keys[i])
			}
			text, _ := readModel(step)
			inner = append(inner, look{kid, append(slices.Clone(next.steps), text.json())})
		}
		looks = append(inner, looks...)
	}
	return leaves
}

func inBrackets(list []string) string {
	return "[" + strings.Join(list, ",") + "]"
}

// sharedSteps is how many steps from the first one on are alike.
func sharedSteps(a, b []string) int {
	n := 0
	for n < min(len(a), len(b)) && a[n] == b[n] {
		n++
	}
	return n
}

// modelEvents are the events of a value without a fault, as texts.
func modelEvents(m model) []string {
	var events []string
	leaves := modelLeaves(m)
	for i, leaf := range leaves {
		events = append(events, inBrackets([]string{inBrackets(leaf.steps), leaf.text}))
		shared := 0
		if i+1 < len(leaves) {
			shared = sharedSteps(leaf.steps, leaves[i+1].steps) + 1
		}
		for n := len(leaf.steps); n > shared; n-- {
			events = append(events, inBrackets([]string{inBrackets(leaf.steps[:n])}))
		}
	}
	return events
}

// eventsAs is an answer as a text: its events, a line each, or "!" and its code.
func eventsAs(r impl.PartsResult) string {
	var lines []string
	if r.Code != 0 {
		lines = []string{code(r.Code)}
	}
	for _, e := range r.Parts {
		lines = append(lines, told(impl.ValueResult{Value: e}))
	}
	return strings.Join(lines, "\n")
}

func modelStreamOf(s sample) string {
	if s.fault != 0 {
		return code(s.fault)
	}
	return strings.Join(modelEvents(s.model), "\n")
}

func isModelLeaf(tree any) bool {
	switch x := tree.(type) {
	case []any:
		return len(x) == 0
	case map[string]any:
		return len(x) == 0
	}
	return true
}

func modelEventFault(e sample) int64 {
	if e.fault != 0 {
		return e.fault
	}
	list, ok := e.tree.([]any)
	if !ok || len(list) != 1 && len(list) != 2 {
		return impl.ErrKind
	}
	path := sampleOf(cellsOf(list[0]))
	switch {
	case modelPathFault(path) != 0:
		return modelPathFault(path)
	case len(list) == 1 && len(modelSteps(path)) == 0, len(list) == 2 && !isModelLeaf(list[1]):
		return impl.ErrForm
	}
	return 0
}

func modelStreamFault(list []sample) impl.ReadResult {
	if len(list) == 0 || len(list) > 200 {
		return impl.ReadResult{Code: impl.ErrMany}
	}
	for i, e := range list {
		if code := modelEventFault(e); code != 0 {
			return impl.ReadResult{Code: code, At: int64(i)}
		}
	}
	return impl.ReadResult{}
}

func modelFromStream(list []sample) impl.ReadResult {
	if fault := modelStreamFault(list); fault.Code != 0 {
		return fault
	}
	v := sampleOf(null())
	var texts []string
	for i, e := range list {
		texts = append(texts, e.model.json())
		if parts := e.tree.([]any); len(parts) == 2 {
			next := modelSetPath(v, sampleOf(cellsOf(parts[0])), sampleOf(cellsOf(parts[1])))
			if next.Code != 0 {
				return impl.ReadResult{Code: next.Code, At: int64(i)}
			}
			v = sampleOf(next.Value)
		}
	}
	if !slices.Equal(modelEvents(v.model), texts) {
		return impl.ReadResult{Code: impl.ErrForm}
	}
	return impl.ReadResult{Value: v.v}
}

func modelCut(list []sample, depth int64) string {
	if fault := modelStreamFault(list); fault.Code != 0 {
		return code(fault.Code)
	}
	if depth < 0 || depth > 20 {
		return errRange
	}
	var lines []string
	for _, e := range list {
		parts := e.tree.([]any)
		if path := parts[0].([]any); int64(len(path)) > depth {
			lines = append(lines, jsonOf(append([]any{path[depth:]}, parts[1:]...)))
		}
	}
	return strings.Join(lines, "\n")
}

func modelPretty(s sample, indent int64) impl.TextResult {
	switch {
	case s.fault != 0:
		return impl.TextResult{Code: s.fault}
	case indent < 0 || indent > 8:
		return impl.TextResult{Code: impl.ErrRange}
	}
	var text bytes.Buffer
	if err := json.Indent(&text, []byte(s.model.json()), "", strings.Repeat(" ", int(indent))); err != nil {
		panic(err)
	}
	if text.Len() > 60000 {
		return impl.TextResult{Code: impl.ErrMany}
	}
	return impl.TextResult{Text: text.String()}
}

func modelSize(s sample, indent int64) impl.IntResult {
	text := modelPretty(s, indent)
	return impl.IntResult{Code: text.Code, Value: int64(len(text.Text))}
}

func modelFlat(s sample) impl.TextResult {
	if s.fault != 0 {
		return impl.TextResult{Code: s.fault}
	}
	var text strings.Builder
	for _, leaf := range modelLeaves(s.model) {
		text.WriteString(".")
		for _, step := range leaf.steps {
			text.WriteString("[" + step + "]")
		}
		text.WriteString(" = " + leaf.text + "\n")
	}
	return impl.TextResult{Text: text.String()}
}

const (
	flatString = `"(?:[ !#-\[\]-~]|\\["\\])*"`
	flatNumber = `(?:0|-?[1-9][0-9]*)`
	flatStep   = `\[(?:` + flatString + `|` + flatNumber + `)\]`
)

var (
	flatPattern = regexp.MustCompile(`^\.((?:` + flatStep + `)*) = (null|false|true|` + flatNumber + `|` + flatString + `|\[\]|\{\})$`)
	stepPattern = regexp.MustCompile(flatStep)
)

// modelFlatLine reads the path and the leaf of a line.
func modelFlatLine(line string) (cells, cells, bool) {
	found := flatPattern.FindStringSubmatch(line)
	if found == nil {
		return nil, nil, false
	}
	var steps []cells
	for _, step := range stepPattern.FindAllString(found[1], -1) {
		read := modelDecode(step)
		if read.Code != 0 {
			return nil, nil, false
		}
		steps = append(steps, read.Value[1:])
	}
	leaf := modelDecode(found[2])
	return arr(steps...), leaf.Value, leaf.Code == 0 && len(steps) < 200
}

func modelUnflat(text string) impl.ReadResult {
	if len(text) > 4000 {
		return impl.ReadResult{Code: impl.ErrMany}
	}
	v := sampleOf(null())
	for i, line := range strings.SplitAfter(text, "\n") {
		if line == "" {
			continue
		}
		path, leaf, ok := modelFlatLine(strings.TrimSuffix(line, "\n"))
		if !ok {
			return impl.ReadResult{Code: impl.ErrText, At: int64(i)}
		}
		next := modelSetPath(v, sampleOf(path), sampleOf(leaf))
		if next.Code != 0 {
			return impl.ReadResult{Code: next.Code, At: int64(i)}
		}
		v = sampleOf(next.Value)
	}
	if modelFlat(v).Text != text {
		return impl.ReadResult{Code: impl.ErrForm}
	}
	return impl.ReadResult{Value: v.v}
}

// eventList reads events that are told a line each.
func eventList(text string) []cells {
	var list []cells
	for _, line := range strings.Split(text, "\n") {
		if line != "" {
			list = append(list, val(line))
		}
	}
	return list
}
