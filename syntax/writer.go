package syntax

import (
	"strconv"
	"strings"

	"nursery/api"
	"nursery/expr"
)

// writer writes the lines of a valid source.
type writer struct {
	text   strings.Builder
	tabs   int // at the beginning of a line
	shapes shapes
}

func textOf(src api.Source) string {
	w := &writer{shapes: allShapes()}
	for _, d := range src.Decls {
		w.line(declText(d), ";")
	}
	for _, p := range src.Procs {
		w.line(procHead(p), " {")
		w.block(p.Body)
		w.line("}")
	}
	return w.text.String()
}

// line writes a line, which is given in parts.
func (w *writer) line(parts ...string) {
	w.text.WriteString(strings.Repeat("\t", w.tabs) + strings.Join(parts, "") + "\n")
}

// block writes the lines between { and }.
func (w *writer) block(body []api.Stmt) {
	w.tabs++
	for _, s := range body {
		w.statement(s)
	}
	w.tabs--
}

func (w *writer) statement(s api.Stmt) {
	f, _ := w.shapes.of(s)
	text := spaced(f.word, f.write(s))
	if f.cases.most == 0 && !f.body {
		w.line(text, ";")
		return
	}
	w.line(text, " {")
	w.cases(s.Cases)
	w.block(s.Body)
	if len(s.Else) > 0 {
		w.line("} else {")
		w.block(s.Else)
	}
	w.line("}")
}

func (w *writer) cases(l []api.Case) {
	w.tabs++
	for _, c := range l {
		w.line(caseHead(c), " {")
		w.block(c.Body)
		w.line("}")
	}
	w.tabs--
}

// spaced joins those words that are not empty.
func spaced(words ...string) string {
	var l []string
	for _, word := range words {
		if word != "" {
			l = append(l, word)
		}
	}
	return strings.Join(l, " ")
}

func declText(d api.Decl) string {
	f, _ := declShapeOf(d)
	words := []string{f.word, d.Name}
	a, b := strconv.Itoa(d.A), strconv.Itoa(d.B)
	switch d.Kind {
	case api.VarDecl, api.AtomicDecl:
		words = append(words, "=", a)
	case api.CondKind:
		words = append(words, "on", d.Name2)
	case api.SemaphoreKind:
		words = append(words, a)
		if d.B == 1 {
			words = append(words, "any")
		}
	case api.BarrierKind, api.ChannelKind, api.TopicKind:
		words = append(words, a)
	case api.LimiterKind:
		words = append(words, a, "every", b)
	}
	return spaced(words...)
}

func procHead(p api.Proc) string {
	text := procWords[p.Kind] + " " + p.Name + "(" + strings.Join(p.Params, ", ") + ")"
	if p.Priority != 0 {
		text += " priority " + strconv.Itoa(p.Priority)
	}
	return text
}

func caseHead(c api.Case) string {
	switch c.Kind {
	case api.SendCase:
		return "send " + c.Name + ", " + exprText(c.Expr)
	case api.ReceiveCase:
		return spaced("receive", c.Name, results(c.Names))
	}
	return "default"
}

// exprText returns the text of a valid expression.
func exprText(e api.Expr) string {
	text, _ := expr.Print(e)
	return text
}

// values returns the texts of valid expressions, with commas between them.
func values(l []api.Expr) string {
	var texts []string
	for _, e := range l {
		texts = append(texts, exprText(e))
	}
	return strings.Join(texts, ", ")
}

// results returns the text of the names behind as, if there are any.
func results(names []string) string {
	if len(names) == 0 {
		return ""
	}
	return "as " + strings.Join(names, ", ")
}

func writeAssignment(s api.Stmt) string {
	return s.Name + " = " + values(s.Exprs)
}

func writeValues(s api.Stmt) string {
	return values(s.Exprs)
}

func writeScope(s api.Stmt) string {
	var words []string
	for i, word := range [...]string{"deadline", "budget"} {
		if !isZero(s.Exprs[i]) {
			words = append(words, word, exprText(s.Exprs[i]))
		}
	}
	if s.Name != "" {
		words = append(words, "as", s.Name)
	}
	return spaced(words...)
}

func writeInvocation(s api.Stmt) string {
	return spaced(s.Name+"("+values(s.Exprs)+")", results(s.Names))
}

func writeOperation(s api.Stmt) string {
	text := s.Name
	if len(s.Exprs) > 0 {
		text += ", " + values(s.Exprs)
	}
	return spaced(text, results(s.Names))
}
