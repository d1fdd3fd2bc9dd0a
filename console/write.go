package console

import (
	"strconv"
	"strings"

	"mahout/api"
	"mahout/audit"
	"mahout/world"
)

// writer gathers lines as they are written.
type writer struct {
	text strings.Builder
}

// line puts a line of these fields.
func (w *writer) line(fields ...string) {
	for i, f := range fields {
		if i > 0 {
			w.text.WriteByte(' ')
		}
		w.text.WriteString(f)
	}
	w.text.WriteByte('\n')
}

// numbers: numbers as fields.
func numbers(list ...int) []string {
	var fields []string
	for _, n := range list {
		fields = append(fields, strconv.Itoa(n))
	}
	return fields
}

// texts: texts as fields.
func texts(list ...string) []string {
	var fields []string
	for _, text := range list {
		fields = append(fields, quoted(text))
	}
	return fields
}

// settings puts what holds for all clients.
func (w *writer) settings(s world.Script) {
	w.line("nodes", strconv.Itoa(s.Nodes))
	w.line("replicas", strconv.Itoa(s.Replicas))
	w.line("block", strconv.Itoa(s.Block))
	w.line("room", strconv.Itoa(s.Room))
	w.line("rounds", strconv.Itoa(s.Rounds))
	if s.Flips {
		w.line("flips")
	}
	if len(s.Choices) > 0 {
		w.line(append([]string{"choose"}, numbers(s.Choices...)...)...)
	}
}

// act puts an Act, if its Kind has a word.
func (w *writer) act(a world.Act) {
	first, there := wordOfAct(a.Kind)
	if !there {
		return
	}
	fields := []string{first.says, quoted(a.Path)}
	switch a.Kind {
	case world.Append:
		fields = append(fields, quoted(a.Data))
	case world.Rename:
		fields = append(fields, quoted(a.To))
	case world.Limit:
		fields = append(fields, strconv.Itoa(a.Quota))
	case world.Submit:
		fields = append(fields, jobFields(a.Job)...)
	}
	w.line(fields...)
}

// jobFields: a Job as the fields behind its name.
func jobFields(j world.Job) []string {
	fields := []string{quoted(j.Output)}
	fields = append(fields, numbers(j.Parts, j.Split, j.Spill)...)
	fields = append(fields, quoted(j.Program))
	return append(fields, texts(j.Inputs...)...)
}

// call puts a call, and what came of it.
func (w *writer) call(c audit.Call) {
	fields := append(numbers(c.Client), kindFields(c)...)
	fields = append(fields, quoted(c.Op.Path), strconv.Itoa(c.Start))
	if c.Done {
		fields = append(fields, numbers(c.End, c.At, int(c.Code))...)
		fields = append(fields, toldFields(c)...)
	} else {
		fields = append(fields, "-", strconv.Itoa(c.At))
	}
	w.line(fields...)
}

// kindFields: what a call was.
func kindFields(c audit.Call) []string {
	switch c.Kind {
	case audit.Write:
		return []string{"write", strconv.Itoa(c.Op.Kind)}
	case audit.Read:
		return []string{"read"}
	case audit.List:
		return []string{"list"}
	}
	return []string{"other"}
}

// toldFields: what the client was told by a call that is done.
func toldFields(c audit.Call) []string {
	switch {
	case c.Code != api.OK:
		return nil
	case c.Kind == audit.Read:
		return texts(c.Data)
	case c.Kind == audit.List:
		return texts(c.Names...)
	}
	return nil
}
