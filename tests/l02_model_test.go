package tests

import (
	"encoding/json"
	"maps"
	"slices"
	"strconv"
	"strings"

	"loop.example/g00166/impl"
)

// json is the text of a value by the tree model.
func (m model) json() string {
	switch m.kind {
	case impl.KindNull:
		return "null"
	case impl.KindFalse:
		return "false"
	case impl.KindTrue:
		return "true"
	case impl.KindNumber:
		return strconv.FormatInt(m.num, 10)
	case impl.KindString:
		return strconv.Quote(m.text)
	}
	var parts []string
	for i, kid := range m.kids {
		part := kid.json()
		if m.kind == impl.KindObject {
			part = strconv.Quote(m.keys[i]) + ":" + part
		}
		parts = append(parts, part)
	}
	inner := strings.Join(parts, ",")
	if m.kind == impl.KindArray {
		return "[" + inner + "]"
	}
	return "{" + inner + "}"
}

// What a text is read as is told by the library; where it cannot be read, by
// an automaton that looks at one byte after the other and calls nothing twice.

type automaton struct {
	state string
	open  []byte // the brackets that are not ended
	rest  string // what is to come of a word
	begin int    // where the number or string began
	count int    // the bytes of a string
	high  int    // the first digit of base 16
	key   bool   // the string is a key
	code  int64
	at    int
}

// modelRead tells the code and the place of an error of a text, but for too
// many cells.
func modelRead(text string) (int64, int64) {
	if len(text) > 4000 {
		return impl.ErrMany, 0
	}
	m := &automaton{state: "value"}
	for at := 0; at < len(text); at++ {
		for !m.step(text, at, int(text[at])) {
		}
		if m.code != 0 {
			return m.code, int64(m.at)
		}
	}
	for !m.step(text, len(text), -1) {
	}
	if m.code == 0 && (m.state != "behind" || len(m.open) > 0) {
		m.fail(impl.ErrText, len(text))
	}
	return m.code, int64(m.at)
}

func (m *automaton) fail(code int64, at int) bool {
	if m.code == 0 {
		m.code, m.at = code, at
	}
	return true
}

// step tells whether it is done with byte b (-1: the end) at this place.
func (m *automaton) step(text string, at, b int) bool {
	if b >= 0 && strings.IndexByte(" \t\n\r", byte(b)) >= 0 && slices.Contains([]string{"value", "first", "key", "firstkey", "colon", "behind"}, m.state) {
		return true
	}
	switch m.state {
	case "value":
		return m.beginValue(at, b)
	case "first":
		if b == ']' {
			return m.closeWith('[', at)
		}
		return m.beginValue(at, b)
	case "firstkey", "key":
		if b == '}' && m.state == "firstkey" {
			return m.closeWith('{', at)
		}
		if b != '"' {
			return m.fail(impl.ErrText, at)
		}
		m.state, m.begin, m.count, m.key = "string", at, 0, true
	case "colon":
		if b != ':' {
			return m.fail(impl.ErrText, at)
		}
		m.state = "value"
	case "behind":
		return m.behind(at, b)
	case "word":
		if b != int(m.rest[0]) {
			return m.fail(impl.ErrText, at)
		}
		m.rest = m.rest[1:]
		if m.rest == "" {
			m.state = "behind"
		}
	case "minus", "zero", "digits":
		return m.inNumber(text, at, b)
	default:
		return m.inString(at, b)
	}
	return true
}

func (m *automaton) beginValue(at, b int) bool {
	words := map[int]string{'n': "ull", 'f': "alse", 't': "rue"}
	m.begin = at
	switch {
	case b == -1:
		return m.fail(impl.ErrText, at)
	case len(m.open) >= 20:
		return m.fail(impl.ErrDeep, at)
	case words[b] != "":
		m.state, m.rest = "word", words[b]
	case b == '"':
		m.state, m.count, m.key = "string", 0, false
	case b == '[':
		m.state, m.open = "first", append(m.open, '[')
	case b == '{':
		m.state, m.open = "firstkey", append(m.open, '{')
	case b == '-':
		m.state = "minus"
	case b == '0':
		m.state = "zero"
	case b >= '1' && b <= '9':
		m.state = "digits"
	default:
		return m.fail(impl.ErrText, at)
	}
	return true
}

func (m *automaton) closeWith(open byte, at int) bool {
	if len(m.open) == 0 || m.open[len(m.open)-1] != open {
		return m.fail(impl.ErrText, at)
	}
	m.open = m.open[:len(m.open)-1]
	m.state = "behind"
	return true
}

func (m *automaton) behind(at, b int) bool {
	switch {
	case b == -1:
		return true
	case b == ']':
		return m.closeWith('[', at)
	case b == '}':
		return m.closeWith('{', at)
	case b == ',' && len(m.open) > 0 && m.open[len(m.open)-1] == '[':
		m.state = "value"
	case b == ',' && len(m.open) > 0:
		m.state = "key"
	default:
		return m.fail(impl.ErrText, at)
	}
	return true
}

// inNumber is done with its byte where it belongs to the number.
func (m *automaton) inNumber(text string, at, b int) bool {
	digit := b >= '0' && b <= '9'
	switch {
	case m.state == "minus" && b == '0':
		m.state = "zero"
		return true
	case m.state == "minus" && digit:
		m.state = "digits"
		return true
	case m.state == "minus":
		return m.fail(impl.ErrText, at)
	case m.state == "digits" && digit:
		return true
	}
	digits := strings.TrimPrefix(text[m.begin:at], "-")
	if len(digits) > 16 || len(digits) == 16 && digits > "1000000000000000" {
		return m.fail(impl.ErrRange, m.begin)
	}
	if b == '.' || b == 'e' || b == 'E' {
		return m.fail(impl.ErrRange, at)
	}
	m.state = "behind"
	return false
}

func (m *automaton) inString(at, b int) bool {
	hex := strings.IndexByte("0123456789abcdef", byte(b|0x20))
	if b < 32 || b > 126 || b >= '[' && b <= '`' || b < '0' {
		hex = -1
	}
	switch {
	case b < 32 || b > 126:
		return m.fail(impl.ErrText, at)
	case m.state == "string" && b == '"' && m.count > 60:
		return m.fail(impl.ErrMany, m.begin)
	case m.state == "string" && b == '"' && m.key:
		m.state = "colon"
	case m.state == "string" && b == '"':
		m.state = "behind"
	case m.state == "string" && b == '\\':
		m.state = "backslash"
	case m.state == "string":
		m.count++
	case m.state == "backslash" && (b == '"' || b == '\\' || b == '/'):
		m.state, m.count = "string", m.count+1
	case m.state == "backslash" && b == 'u':
		m.state = "u"
	case m.state == "u" && b == '0':
		m.state = "u0"
	case m.state == "u0" && b == '0':
		m.state = "u00"
	case m.state == "u00" && hex >= 0:
		m.state, m.high = "u00x", hex
	case m.state == "u00x" && hex >= 0:
		if n := 16*m.high + hex; n < 32 || n > 126 {
			return m.fail(impl.ErrText, at-1)
		}
		m.state, m.count = "string", m.count+1
	default:
		return m.fail(impl.ErrText, at)
	}
	return true
}

// modelDecode is what DecodeValue is to answer.
func modelDecode(text string) impl.ReadResult {
	if code, at := modelRead(text); code != 0 {
		return impl.ReadResult{Code: code, At: at}
	}
	d := json.NewDecoder(strings.NewReader(text))
	d.UseNumber()
	var tree any
	if err := d.Decode(&tree); err != nil {
		return impl.ReadResult{Code: -1}
	}
	v := cellsOf(tree)
	if len(v) > 200 {
		return impl.ReadResult{Code: impl.ErrMany}
	}
	return impl.ReadResult{Value: v}
}

// cellsOf lays what the library read.
func cellsOf(tree any) cells {
	switch x := tree.(type) {
	case nil:
		return null()
	case bool:
		if x {
			return yes()
		}
		return no()
	case json.Number:
		n, _ := x.Int64()
		return num(n)
	case string:
		return str(x)
	case []any:
		var list []cells
		for _, part := range x {
			list = append(list, cellsOf(part))
		}
		return arr(list...)
	case map[string]any:
		var list []cells
		for _, key := range slices.Sorted(maps.Keys(x)) {
			list = append(list, member(key, cellsOf(x[key])))
		}
		return obj(list...)
	}
	return nil
}
