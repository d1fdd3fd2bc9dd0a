package console

import (
	"strconv"
	"strings"

	"mahout/api"
	"mahout/world"
)

// lineError is a line's fault.
type lineError struct {
	Fault
}

func (e lineError) Error() string {
	return "line " + strconv.Itoa(e.Line) + ": error " + strconv.Itoa(int(e.Code))
}

// reader reads a script's text: it is the script so far, and knows the number of the line that it reads.
type reader struct {
	world.Script
	number int
}

// read reads all lines, up to the first that is wrong.
func (r *reader) read(text string) error {
	for text != "" {
		line, rest, _ := strings.Cut(text, "\n")
		r.number++
		if err := r.line(line); err != nil {
			return err
		}
		text = rest
	}
	return nil
}

// wrong: the fault of the line that is read.
func (r *reader) wrong(code api.Errno) error {
	return lineError{Fault{code, r.number}}
}

func (r *reader) line(line string) error {
	if strings.HasPrefix(line, "#") {
		return nil
	}
	fields, ok := cut(line)
	if !ok {
		return r.wrong(api.ErrToken)
	}
	if len(fields) == 0 {
		return nil
	}
	first, there := wordOf(fields[0])
	switch {
	case !there:
		return r.wrong(api.ErrCommand)
	case !first.fits(fields[1:]):
		return r.wrong(api.ErrArg)
	case first.act != noAct && len(r.Acts) == 0:
		return r.wrong(api.ErrNone)
	}
	r.fill(first, fields[1:])
	return nil
}

// fill sets what a line says.
func (r *reader) fill(first word, fields []field) {
	switch first.says {
	case "nodes":
		r.Nodes = fields[0].number
	case "replicas":
		r.Replicas = fields[0].number
	case "block":
		r.Block = fields[0].number
	case "room":
		r.Room = fields[0].number
	case "rounds":
		r.Rounds = fields[0].number
	case "flips":
		r.Flips = true
	case "choose":
		for _, f := range fields {
			r.Choices = append(r.Choices, f.number)
		}
	case "client":
		r.Acts = append(r.Acts, nil)
	default:
		last := len(r.Acts) - 1
		r.Acts[last] = append(r.Acts[last], actOf(first.act, fields))
	}
}

// actOf: the Act of this Kind that fields tell.
func actOf(kind int, fields []field) world.Act {
	a := world.Act{Kind: kind, Path: fields[0].text}
	switch kind {
	case world.Append:
		a.Data = fields[1].text
	case world.Rename:
		a.To = fields[1].text
	case world.Limit:
		a.Quota = fields[1].number
	case world.Submit:
		a.Job = jobOf(fields[1:])
	}
	return a
}

// jobOf: the Job that the fields behind its name tell.
func jobOf(fields []field) world.Job {
	j := world.Job{
		Output:  fields[0].text,
		Parts:   fields[1].number,
		Split:   fields[2].number,
		Spill:   fields[3].number,
		Program: fields[4].text,
	}
	for _, f := range fields[5:] {
		j.Inputs = append(j.Inputs, f.text)
	}
	return j
}
