package tests

import (
	"encoding/json"
	"regexp"
	"slices"
	"strconv"
	"strings"

	"loop.example/g00166/impl"
)

// The pieces of a program are told by patterns of the library, the longest one
// that begins the rest of the text being taken.

const (
	stringPattern = `"(?:[ !#-\[\]-~]|\\["\\/]|\\u00(?:[2-6][0-9a-fA-F]|7[0-9a-eA-E]))*"`
	runPattern    = `[a-z_][a-z0-9_]*`
)

var modelMarks = strings.Fields(".. // == != <= >= . [ ] { } ( ) | , : ; + - * / % < > ?")

var modelWords = strings.Fields("if then elif else end as and or reduce try null true false")

var tokenPatterns = map[int64]*regexp.Regexp{
	impl.TokNumber: longestOf(`0|[1-9][0-9]*`),
	impl.TokString: longestOf(stringPattern),
	impl.TokName:   longestOf(runPattern),
	impl.TokField:  longestOf(`\.` + runPattern),
	impl.TokVar:    longestOf(`\$` + runPattern),
	impl.TokMark:   longestOf(markPattern()),
}

func longestOf(pattern string) *regexp.Regexp {
	found := regexp.MustCompile(`^(?:` + pattern + `)`)
	found.Longest()
	return found
}

func markPattern() string {
	var quoted []string
	for _, mark := range modelMarks {
		quoted = append(quoted, regexp.QuoteMeta(mark))
	}
	return strings.Join(quoted, "|")
}

// modelPiece is the longest piece with which a text begins, and its kind.
func modelPiece(text string) (int64, string) {
	kind, piece := int64(0), ""
	for k := int64(1); k <= 6; k++ {
		found := tokenPatterns[k].FindString(text)
		if name := strings.TrimLeft(found, ".$"); (k == impl.TokName || k == impl.TokField || k == impl.TokVar) && len(name) > 12 {
			continue
		}
		if len(found) > len(piece) {
			kind, piece = k, found
		}
	}
	return kind, piece
}

func modelLex(text string) impl.TokensResult {
	if len(text) > 4000 {
		return impl.TokensResult{Code: impl.ErrMany}
	}
	var list []impl.Token
	for at := 0; ; {
		at = len(text) - len(strings.TrimLeft(text[at:], " \t\n\r"))
		if at == len(text) {
			return impl.TokensResult{Tokens: list}
		}
		kind, piece := modelPiece(text[at:])
		if wrong := modelWrong(kind, text[at:], piece); wrong.Code != 0 {
			return impl.TokensResult{Code: wrong.Code, At: int64(at) + wrong.At}
		}
		if len(list) == 300 {
			return impl.TokensResult{Code: impl.ErrMany, At: int64(at)}
		}
		list = append(list, modelToken(kind, at, piece))
		at += len(piece)
	}
}

// modelWrong tells why the piece at the beginning of rest is no token.
func modelWrong(kind int64, rest, piece string) impl.TokensResult {
	var wrong impl.TokensResult
	switch {
	case rest[0] == '"' && piece == "":
		wrong.Code, wrong.At = modelRead(rest)
	case kind == impl.TokString:
		wrong.Code, wrong.At = modelRead(piece)
	case kind == impl.TokNumber && (len(piece) > 16 || len(piece) == 16 && piece > "1000000000000000"):
		wrong.Code = impl.ErrRange
	case kind == 0:
		wrong.Code = impl.ErrText
	}
	return wrong
}

func modelToken(kind int64, at int, piece string) impl.Token {
	token := impl.Token{Kind: kind, At: int64(at), Text: piece}
	switch kind {
	case impl.TokNumber:
		token.Num, _ = strconv.ParseInt(piece, 10, 64)
		token.Text = ""
	case impl.TokString:
		json.Unmarshal([]byte(piece), &token.Text)
	case impl.TokField, impl.TokVar:
		token.Text = piece[1:]
	}
	return token
}

// modelTokenText asks all that is said of a token's fields one by one.
func modelTokenText(token impl.Token) impl.TextResult {
	text := token.Text
	named := func() bool {
		return len(text) <= 12 && text != "" && tokenPatterns[impl.TokName].FindString(text) == text
	}
	var fits bool
	switch token.Kind {
	case impl.TokNumber:
		fits = text == ""
		text = strconv.FormatInt(token.Num, 10)
	case impl.TokString:
		fits = token.Num == 0 && !badText(text)
		text = strconv.Quote(text)
	case impl.TokName:
		fits = token.Num == 0 && named()
	case impl.TokField:
		fits = token.Num == 0 && named()
		text = "." + text
	case impl.TokVar:
		fits = token.Num == 0 && named()
		text = "$" + text
	case impl.TokMark:
		fits = token.Num == 0 && slices.Contains(modelMarks, text)
	default:
		return impl.TextResult{Code: impl.ErrKind}
	}
	if !fits {
		return impl.TextResult{Code: impl.ErrForm}
	}
	if token.Num < 0 || token.Num > 1000000000000000 {
		return impl.TextResult{Code: impl.ErrRange}
	}
	return impl.TextResult{Text: text}
}

func modelJoin(list []impl.Token) impl.TextResult {
	if len(list) > 300 {
		return impl.TextResult{Code: impl.ErrMany}
	}
	joined := ""
	for i, token := range list {
		text := modelTokenText(token)
		if text.Code != 0 {
			return text
		}
		if i > 0 {
			joined += " "
		}
		joined += text.Text
	}
	return impl.TextResult{Text: joined}
}
