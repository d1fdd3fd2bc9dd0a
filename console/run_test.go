package console_test

import (
	"math/rand"
	"os"
	"slices"
	"strings"
	"testing"

	"mahout/api"
	"mahout/audit"
	"mahout/console"
	"mahout/tree"
	"mahout/world"
)

// counting is the program of chapter 21's example, as a field.
const counting = `"map { each w in value by \" \" { emit w, \"1\"; } } reduce { emit key, text(sum(values)); }"`

// quiet is the text of a script of one client without choices, with three data nodes, two replicas and rounds enough.
func quiet(acts string) string {
	return "nodes 3\nreplicas 2\nblock 64\nroom 1000000\nrounds 2000\nclient\n" + acts
}

// wantTold: Run reports these lines of the calls, but for the steps and the moments (those have a _).
func wantTold(t *testing.T, acts string, lines ...string) {
	t.Helper()
	report, fault := console.Run(quiet(acts))
	if fault != (console.Fault{}) {
		t.Fatalf("Run(%q): %v", acts, fault)
	}
	told := strings.Split(report, "\n")
	if len(told) != len(lines)+4 {
		t.Fatalf("Run(%q): %q", acts, report)
	}
	for i, line := range lines {
		if got, ok := without(told[i], strings.Fields(line)); !ok {
			t.Errorf("call %d of %q: %s, not %s", i, acts, got, line)
		}
	}
	if told[len(lines)+1] != "steps 2000" || told[len(lines)+2] != "serving" {
		t.Errorf("Run(%q): %q", acts, told[len(lines):])
	}
}

// without: a line whose fields count only where those of a pattern aren't _; are they equal?
func without(line string, pattern []string) (string, bool) {
	fields := strings.Fields(line)
	for i := range min(len(fields), len(pattern)) {
		if pattern[i] == "_" {
			fields[i] = "_"
		}
	}
	return strings.Join(fields, " "), strings.Join(fields, " ") == strings.Join(pattern, " ")
}

// P26.5: the report of layer 25's Run.
func TestRun(t *testing.T) {
	for _, text := range []string{"", "client", "nodes 1\nrounds 30\nclient\nmkdir /a\n", quiet("create /f\nappend /f \"a b\"\nread /f\nlist /\n") + "flips\nclient\nmkdir /a\nlist /\nchoose 1 2 3 62 63 100 1000"} {
		report, fault := console.Run(text)
		if want := console.Report(world.Run(parsed(t, text))); fault != (console.Fault{}) || report != want {
			t.Errorf("Run(%q): %q, %v, not %q", text, report, fault, want)
		}
	}
	report, _ := console.Run("")
	if report != "changes 0\nsteps 0\nserving\n" {
		t.Errorf("nothing: %q", report)
	}
}

// README.md's example: behind the script in it stands its report.
func TestReadme(t *testing.T) {
	readme, err := os.ReadFile("../README.md")
	if err != nil {
		t.Fatal(err)
	}
	_, script, _ := strings.Cut(string(readme), "This script\n\n```\n")
	script, rest, _ := strings.Cut(script, "```\n")
	_, want, _ := strings.Cut(rest, "```\n")
	want, _, found := strings.Cut(want, "```\n")
	if report, fault := console.Run(script); !found || report != want || fault != (console.Fault{}) {
		t.Errorf("%q: %q, %v, not %q", script, report, fault, want)
	}
}

// P26.5: any scripts, twice each; what comes of it stands the auditor.
func TestAnyRuns(t *testing.T) {
	r := rand.New(rand.NewSource(5))
	for range 300 {
		s := anyScript(r)
		s.Rounds = r.Intn(200)
		for range r.Intn(100) {
			s.Choices = append(s.Choices, r.Intn(1e9))
		}
		text := console.Show(s)
		report, fault := console.Run(text)
		again, _ := console.Run(text)
		o := world.Run(s)
		if fault != (console.Fault{}) || report != again || report != modelReport(o) {
			t.Fatalf("Run(%q): %q, %v, then %q, not %q", text, report, fault, again, modelReport(o))
		}
		if v := audit.Check(o.Changes, o.Calls); !o.Serving || !s.Flips && v != (audit.Verdict{}) {
			t.Errorf("Run(%q): serving %v, the auditor: %v", text, o.Serving, v)
		}
	}
}

// DOC.md, examples 1 to 5, and 10.
func TestExamplesOfFiles(t *testing.T) {
	wantTold(t, "mkdir /a\nlist /\n", `1 write 1 "/a" _ _ _ 0`, `1 list "/" _ _ _ 0 "a" "jobs"`)
	wantTold(t, "create /f\nappend /f \"ab\"\nappend /f \"c\"\nread /f\n", `1 write 2 "/f" _ _ _ 0`, `1 write 3 "/f" _ _ _ 0`, `1 write 3 "/f" _ _ _ 0`, `1 read "/f" _ _ _ 0 "abc"`)
	wantTold(t, "create /f\nappend /f ab\nappend /f c\nclose /f\nread /f\n", `1 write 2 "/f" _ _ _ 0`, `1 write 3 "/f" _ _ _ 0`, `1 write 3 "/f" _ _ _ 0`, `1 write 4 "/f" _ _ _ 0`, `1 read "/f" _ _ _ 0 "abc"`)
	wantTold(t, "create /f\ncreate /f\nappend /g \"x\"\n", `1 write 2 "/f" _ _ _ 0`, `1 write 2 "/f" _ _ _ 71`, `1 write 3 "/g" _ _ _ 70`)
	wantTold(t, "create /f\nclose /f\nappend /f \"x\"\n", `1 write 2 "/f" _ _ _ 0`, `1 write 4 "/f" _ _ _ 0`, `1 write 3 "/f" _ _ _ 75`)
	wantTold(t, "limit / 2\nmkdir /a\nmkdir /b\n", `1 write 7 "/" _ _ _ 0`, `1 write 1 "/a" _ _ _ 0`, `1 write 1 "/b" _ _ _ 74`)
	wantTold(t, "mkdir /a\nrename /a /a/b\ncreate /f\nrename /f /g\n", `1 write 1 "/a" _ _ _ 0`, `1 write 6 "/a" _ _ _ 77`, `1 write 2 "/f" _ _ _ 0`, `1 write 6 "/f" _ _ _ 76`)
}

// jobText is a script that makes the input /f, and /g, and submits the job w.
func jobText(output, program, input string) string {
	return quiet("create /f\nappend /f \"a b\\x0Ab\\x0A\"\nclose /f\ncreate /g\nclose /g\nsubmit w " + output + " 1 4 2 " + program + " " + input + "\n")
}

// wantJob: at the end of a script the directory of the job w holds this name, and tells this state.
func wantJob(t *testing.T, text, name string, state int, code api.Errno) world.Outcome {
	t.Helper()
	o := world.Run(parsed(t, text))
	namespace := tree.New()
	for i, c := range o.Changes {
		if code := namespace.Apply(c.Op); code != api.OK {
			t.Fatalf("change %d: %d", i, code)
		}
	}
	there, _ := namespace.List("/jobs/w")
	if !slices.Contains(there, name) {
		t.Errorf("%q: no %s in %q", text, name, there)
	}
	if got, why := world.StateOf(there); got != state || why != code {
		t.Errorf("%q: the state %d, %d: %q", text, got, why, there)
	}
	return o
}

// DOC.md, examples 6 to 9.
func TestExamplesOfJobs(t *testing.T) {
	o := wantJob(t, jobText("/out", counting, "/f"), "ready", world.Succeeded, api.OK)
	names, data := audit.Files(o.Changes)
	files := map[string]string{}
	for i, name := range names {
		files[name] = data[i]
	}
	if part, marker := files["/out/part-0"], files["/out/_SUCCESS"]; part != "a\t1\nb\t2\n" || marker != "" {
		t.Errorf("the output: %q, %q", part, marker)
	}
	if _, there := files["/out/_SUCCESS"]; !there {
		t.Errorf("no marker: %q", names)
	}
	wantJob(t, jobText("/g", counting, "/f"), "failed-212", world.Failed, api.ErrOutput)
	wantJob(t, jobText("/f", counting, "/f"), "failed-212", world.Failed, api.ErrOutput)
	wantJob(t, jobText("/out", `"map {"`, "/f"), "failed-210", world.Failed, api.ErrProgram)
	wantJob(t, jobText("/out", counting, "/h"), "failed-214", world.Failed, api.ErrInput)
}

// DOC.md, example 6, as a report: what a client finds that waits till the job is done.
func TestExampleOfAJobAsReport(t *testing.T) {
	const waits = 400
	report, fault := console.Run(jobText("/out", counting, "/f") + strings.Repeat("list /\n", waits) + "status w\nlist /out\nread /out/part-0\nread /out/_SUCCESS\n")
	if fault != (console.Fault{}) {
		t.Fatal(fault)
	}
	lines := strings.Split(report, "\n")
	if len(lines) != 6+waits+4+4 {
		t.Fatalf("%d lines", len(lines))
	}
	lines = lines[6+waits:]
	if names := strings.Fields(lines[0])[6:]; !slices.Contains(names, `"ready"`) || slices.Contains(names, `"out"`) {
		t.Errorf("the job's directory: %s", lines[0])
	}
	for i, want := range []string{`1 list "/out" _ _ _ 0 "_SUCCESS" "part-0"`, `1 read "/out/part-0" _ _ _ 0 "a\x091\x0Ab\x092\x0A"`, `1 read "/out/_SUCCESS" _ _ _ 0 ""`} {
		if got, ok := without(lines[1+i], strings.Fields(want)); !ok {
			t.Errorf("%s, not %s", got, want)
		}
	}
}
