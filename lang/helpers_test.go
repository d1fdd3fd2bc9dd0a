package lang_test

import (
	"strings"
	"testing"

	"mahout/api"
	"mahout/lang"
)

// table is the document's: a function's name, its arguments' kinds, a stroke, its answer's kind.
const table = `
add n n | n
sub n n | n
mul n n | n
div n n | n
len t | n
num t | n
text n | t
cat t t | t
cut t n n | t
upper t | t
lower t | t
eq t t | n
less t t | n
lt n n | n
not n | n
and n n | n
or n n | n
sum l | n
count l | n
first l | t
last l | t
join l t | t
max l | n
min l | n
`

// signature is the kinds of a function's arguments, and of its answer.
type signature struct {
	takes []string
	gives string
}

// functions are those of the table, by their names.
var functions = signatures()

func signatures() map[string]signature {
	all := map[string]signature{}
	for line := range strings.Lines(strings.TrimSpace(table)) {
		f := strings.Fields(line)
		all[f[0]] = signature{f[1 : len(f)-2], f[len(f)-1]}
	}
	return all
}

// reserved are the words that are no names.
const reserved = "map combine reduce part emit let if else each in by for"

func parsed(t *testing.T, text string) *lang.Program {
	t.Helper()
	p, fault := lang.Parse(text)
	if p == nil || fault != (lang.Fault{}) {
		t.Fatalf("Parse(%q): %v, %v", text, p, fault)
	}
	return p
}

// takes: Parse takes these.
func takes(t *testing.T, texts ...string) {
	t.Helper()
	for _, text := range texts {
		if p, fault := lang.Parse(text); p == nil || fault != (lang.Fault{}) {
			t.Errorf("Parse(%q): %v, %v", text, p, fault)
		}
	}
}

func wantFault(t *testing.T, text string, code api.Errno, at int) {
	t.Helper()
	if p, fault := lang.Parse(text); p != nil || fault != (lang.Fault{Code: code, At: at}) {
		t.Errorf("Parse(%q): %v, %v, not %d at %d", text, p, fault, code, at)
	}
}

// refuses: Parse finds this fault in these texts, at the place where a @ stands in each, which is taken out.
func refuses(t *testing.T, code api.Errno, texts ...string) {
	t.Helper()
	for _, text := range texts {
		ahead, behind, found := strings.Cut(text, "@")
		if !found {
			t.Fatalf("no @ in %q", text)
		}
		wantFault(t, ahead+behind, code, len(ahead))
	}
}

// inMap is a program with these statements in its map; inReduce in its reduce.
func inMap(body string) string {
	return "map { " + body + " } reduce { }"
}

func inReduce(body string) string {
	return "map { } reduce { " + body + " }"
}
