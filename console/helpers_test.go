package console_test

import (
	"fmt"
	"math/rand"
	"reflect"
	"regexp"
	"strconv"
	"strings"
	"testing"

	"mahout/api"
	"mahout/console"
	"mahout/world"
)

// table is the document's: behind a line's word what fields it has, N numbers, others any; with .. behind it of the last one any number; then what they set.
const table = `
nodes N | Nodes
replicas N | Replicas
block N | Block
room N | Room
rounds N | Rounds
flips | Flips
choose N N .. | Choices
client | Acts
mkdir P | 1 Path
create P | 2 Path
append P D | 3 Path Data
close P | 4 Path
delete P | 5 Path
rename P Q | 6 Path To
limit P N | 7 Path Quota
read P | 8 Path
list P | 9 Path
submit P O N N N G I .. | 10 Path Output Parts Split Spill Program Inputs
status P | 11 Path
`

// row is a row of the table: without .. and what stands ahead of it; that stands in more.
type row struct {
	word   string
	fields []string
	more   string
	kind   int
	sets   []string
}

// rows are those of the table, in its order.
var rows = rowsOf(table)

func rowsOf(table string) []row {
	var all []row
	for line := range strings.Lines(strings.TrimSpace(table)) {
		left, right, _ := strings.Cut(line, "|")
		fields, sets := strings.Fields(left), strings.Fields(right)
		r := row{word: fields[0], fields: fields[1:], sets: sets}
		if last := len(fields) - 1; fields[last] == ".." {
			r.fields, r.more = fields[1:last-1], fields[last-1]
		}
		if kind, err := strconv.Atoi(sets[0]); err == nil {
			r.kind, r.sets = kind, sets[1:]
		}
		all = append(all, r)
	}
	return all
}

func rowOf(word string) (row, bool) {
	for _, r := range rows {
		if r.word == word {
			return r, true
		}
	}
	return row{}, false
}

// The chapter's words as patterns.
var (
	fieldForm  = regexp.MustCompile(`^ *("(?:[ !#-\[\]-~]|\\"|\\\\|\\x[0-9A-F][0-9A-F])*"|[^ "]+)(?: (?s:.)*)?$`)
	unitForm   = regexp.MustCompile(`\\"|\\\\|\\x[0-9A-F][0-9A-F]`)
	numberForm = regexp.MustCompile(`^(0|-?[1-9][0-9]{0,8})$`)
	shownForm  = regexp.MustCompile(`^[a-z]+( ("([ !#-\[\]-~]|\\"|\\\\|\\x([01][0-9A-F]|7F|[89A-F][0-9A-F]))*"|0|-?[1-9][0-9]*))*$`)
)

// modelField is what a field stands for, and how it is written.
type modelField struct{ written, text string }

// modelCut is a second way to cut a line.
func modelCut(line string) ([]modelField, bool) {
	var fields []modelField
	for strings.Trim(line, " ") != "" {
		found := fieldForm.FindStringSubmatchIndex(line)
		if found == nil {
			return nil, false
		}
		f := modelField{written: line[found[2]:found[3]]}
		f.text = f.written
		if f.written[0] == '"' {
			f.text = unitForm.ReplaceAllStringFunc(f.written[1:len(f.written)-1], func(unit string) string {
				if len(unit) == 2 {
					return unit[1:]
				}
				b, _ := strconv.ParseUint(unit[2:], 16, 8)
				return string([]byte{byte(b)})
			})
		}
		fields = append(fields, f)
		line = line[found[3]:]
	}
	return fields, true
}

// modelParse is a second reader, by the table.
func modelParse(text string) (world.Script, console.Fault) {
	if len(text) > api.MaxText {
		return world.Script{}, console.Fault{Code: api.ErrLong}
	}
	lines := strings.Split(text, "\n")
	if lines[len(lines)-1] == "" {
		lines = lines[:len(lines)-1]
	}
	var s world.Script
	for i, line := range lines {
		if code := modelLine(&s, line); code != api.OK {
			return world.Script{}, console.Fault{Code: code, Line: i + 1}
		}
	}
	return s, console.Fault{}
}

func modelLine(s *world.Script, line string) api.Errno {
	if line != "" && line[0] == '#' {
		return api.OK
	}
	fields, ok := modelCut(line)
	if !ok {
		return api.ErrToken
	}
	if len(fields) == 0 {
		return api.OK
	}
	r, there := rowOf(fields[0].written)
	if !there {
		return api.ErrCommand
	}
	fields = fields[1:]
	wanted := r.fields
	for r.more != "" && len(wanted) < len(fields) {
		wanted = append(wanted[:len(wanted):len(wanted)], r.more)
	}
	if len(fields) != len(wanted) {
		return api.ErrArg
	}
	for i, f := range fields {
		if wanted[i] == "N" && !numberForm.MatchString(f.written) {
			return api.ErrArg
		}
	}
	if r.kind == 0 {
		modelSet(reflect.ValueOf(s).Elem(), r, fields)
		return api.OK
	}
	if len(s.Acts) == 0 {
		return api.ErrNone
	}
	a := world.Act{Kind: r.kind}
	modelSet(reflect.ValueOf(&a).Elem(), r, fields)
	last := len(s.Acts) - 1
	s.Acts[last] = append(s.Acts[last], a)
	return api.OK
}

// modelSet sets what a row says: fields by their names, in the Job those that the Act hasn't.
func modelSet(in reflect.Value, r row, fields []modelField) {
	for i, name := range r.sets {
		to := in.FieldByName(name)
		if !to.IsValid() {
			to = in.FieldByName("Job").FieldByName(name)
		}
		switch to.Interface().(type) {
		case bool:
			to.SetBool(true)
		case int:
			n, _ := strconv.Atoi(fields[i].text)
			to.SetInt(int64(n))
		case string:
			to.SetString(fields[i].text)
		case []int:
			for _, f := range fields[i:] {
				n, _ := strconv.Atoi(f.text)
				to.Set(reflect.Append(to, reflect.ValueOf(n)))
			}
		case []string:
			for _, f := range fields[i:] {
				to.Set(reflect.Append(to, reflect.ValueOf(f.text)))
			}
		case [][]world.Act:
			to.Set(reflect.Append(to, reflect.ValueOf([]world.Act(nil))))
		}
	}
}

// same: are the scripts equal, where lists without elements count as the same?
func same(a, b world.Script) bool {
	return fmt.Sprintf("%#v", leveled(a)) == fmt.Sprintf("%#v", leveled(b))
}

// leveled is a copy whose empty lists are all nil.
func leveled(s world.Script) world.Script {
	s.Choices = append([]int(nil), s.Choices...)
	var clients [][]world.Act
	for _, acts := range s.Acts {
		acts = append([]world.Act(nil), acts...)
		for i := range acts {
			acts[i].Job.Inputs = append([]string(nil), acts[i].Job.Inputs...)
		}
		clients = append(clients, acts)
	}
	s.Acts = clients
	return s
}

// modelQuoted is a second way to quote.
func modelQuoted(text string) string {
	quoted := `"`
	for _, b := range []byte(text) {
		switch {
		case b == '"':
			quoted += `\"`
		case b == '\\':
			quoted += `\\`
		case b >= 0x20 && b <= 0x7E:
			quoted += string(rune(b))
		default:
			quoted += fmt.Sprintf(`\x%02X`, b)
		}
	}
	return quoted + `"`
}

func parsed(t *testing.T, text string) world.Script {
	t.Helper()
	s, fault := console.Parse(text)
	if fault != (console.Fault{}) {
		t.Errorf("Parse(%.200q): %v", text, fault)
	}
	return s
}

func wantScript(t *testing.T, text string, want world.Script) {
	t.Helper()
	if s := parsed(t, text); !same(s, want) {
		t.Errorf("Parse(%.200q): %.500v, not %.500v", text, s, want)
	}
}

// wantFault: Parse and Run tell this fault, and nothing else.
func wantFault(t *testing.T, text string, code api.Errno, line int) {
	t.Helper()
	want := console.Fault{Code: code, Line: line}
	if s, fault := console.Parse(text); fault != want || !reflect.ValueOf(s).IsZero() {
		t.Errorf("Parse(%.200q): %.200v, %v, not %v", text, s, fault, want)
	}
	if report, fault := console.Run(text); fault != want || report != "" {
		t.Errorf("Run(%.200q): %.200q, %v, not %v", text, report, fault, want)
	}
}

// anyText is a text of any bytes, or of those that mean something.
func anyText(r *rand.Rand) string {
	const meant = "a/ \"\\x41\n\x00\x1f~\x7f\x80\xff#-"
	text := make([]byte, r.Intn(8))
	for i := range text {
		text[i] = byte(r.Intn(256))
		if r.Intn(3) > 0 {
			text[i] = meant[r.Intn(len(meant))]
		}
	}
	return string(text)
}

// anyPath is a path, or any text.
func anyPath(r *rand.Rand) string {
	if r.Intn(3) == 0 {
		return anyText(r)
	}
	return []string{"/", "/a", "/a/b", "/f", "/g", "w", "/jobs/w"}[r.Intn(7)]
}

// anyNumber is a number of at most nine digits.
func anyNumber(r *rand.Rand) int {
	switch r.Intn(4) {
	case 0:
		return r.Intn(3) - 1
	case 1:
		return []int{999999999, -999999999, 100000000, -1, 10}[r.Intn(5)]
	}
	return r.Intn(2e9-1) - 999999999
}

// anyAct is an Act of one of the Kinds, whose fields that its Kind doesn't have are zero.
func anyAct(r *rand.Rand) world.Act {
	a := world.Act{Kind: 1 + r.Intn(11), Path: anyPath(r)}
	switch a.Kind {
	case world.Append:
		a.Data = anyText(r)
	case world.Rename:
		a.To = anyPath(r)
	case world.Limit:
		a.Quota = anyNumber(r)
	case world.Submit:
		a.Job = world.Job{Program: anyText(r), Output: anyPath(r), Parts: anyNumber(r), Split: anyNumber(r), Spill: anyNumber(r)}
		for range r.Intn(4) {
			a.Job.Inputs = append(a.Job.Inputs, anyPath(r))
		}
	}
	return a
}

// anyScript is a script that Show writes whole.
func anyScript(r *rand.Rand) world.Script {
	s := world.Script{Nodes: anyNumber(r), Replicas: anyNumber(r), Block: anyNumber(r), Room: anyNumber(r), Rounds: anyNumber(r), Flips: r.Intn(2) == 0}
	for range r.Intn(4) {
		s.Choices = append(s.Choices, anyNumber(r))
	}
	for range r.Intn(6) {
		var acts []world.Act
		for range r.Intn(5) {
			acts = append(acts, anyAct(r))
		}
		s.Acts = append(s.Acts, acts)
	}
	return s
}
