package eval_test

import (
	"strconv"
	"strings"
	"testing"

	"mahout/api"
)

const most = api.MaxNum

// highest: the expression of most, which is 2^40; and of the other bound.
const (
	highest = "mul(1048576, 1048576)"
	lowest  = "sub(0, " + highest + ")"
)

// P17.1: numbers are added, taken off, multiplied and divided, and cut to the bounds.
func TestArithmetic(t *testing.T) {
	for expr, want := range map[string]int{
		"7":                                      7,
		"999999999":                              999999999,
		"add(2, 3)":                              5,
		"sub(2, 3)":                              -1,
		"mul(sub(0, 4), 3)":                      -12,
		"mul(sub(0, 4), sub(0, 3))":              12,
		"mul(0, " + lowest + ")":                 0,
		"mul(" + lowest + ", 0)":                 0,
		"div(7, 2)":                              3,
		"div(sub(0, 7), 2)":                      -3,
		"div(7, sub(0, 2))":                      -3,
		"div(sub(0, 7), sub(0, 2))":              3,
		"div(7, 0)":                              0,
		"div(0, 0)":                              0,
		"div(" + lowest + ", sub(0, 1))":         most,
		highest:                                  most,
		lowest:                                   -most,
		"add(" + highest + ", 1)":                most,
		"add(" + highest + ", sub(0, 1))":        most - 1,
		"add(" + lowest + ", sub(0, 1))":         -most,
		"sub(" + lowest + ", 1)":                 -most,
		"sub(" + highest + ", " + lowest + ")":   most,
		"mul(1048577, 1048576)":                  most,
		"mul(1048575, 1048576)":                  most - 1048576,
		"mul(sub(0, 1048577), 1048576)":          -most,
		"mul(1048576, sub(0, 1048577))":          -most,
		"mul(" + highest + ", " + highest + ")":  most,
		"mul(" + lowest + ", " + lowest + ")":    most,
		"mul(" + highest + ", " + lowest + ")":   -most,
		"mul(" + lowest + ", " + highest + ")":   -most,
		"mul(" + lowest + ", 16777216)":          -most,
		"mul(" + highest + ", 1)":                most,
		"mul(sub(0, 1), " + highest + ")":        -most,
		"sub(add(" + highest + ", 5), 1)":        most - 1,
		"lt(1, 2)":                               1,
		"lt(2, 2)":                               0,
		"lt(3, 2)":                               0,
		"lt(" + lowest + ", " + highest + ")":    1,
		"not(0)":                                 1,
		"not(1)":                                 0,
		"not(sub(0, 5))":                         0,
		"and(2, sub(0, 1))":                      1,
		"and(2, 0)":                              0,
		"and(0, 2)":                              0,
		"and(0, 0)":                              0,
		"or(0, 0)":                               0,
		"or(0, 7)":                               1,
		"or(sub(0, 7), 0)":                       1,
		"or(3, 4)":                               1,
		"add(mul(2, 3), div(9, add(1, 2)))":      9,
		"len(text(sub(0, 120)))":                 4,
		"len(text(" + lowest + "))":              14,
		"num(text(" + lowest + "))":              -most,
		"num(cat(\"-\", text(sub(20, 3))))":      -17,
		"len(cat(text(0), text(sub(1, 1))))":     2,
		"not(not(not(lt(0, len(\"\")))))":        1,
		"eq(text(div(" + highest + ", 3)), key)": 0,
		"len(upper(text(mul(99999, 99999))))":    10,
		"sub(mul(99999, 99999), 999999999)":      9999800001 - 999999999,
		"mul(mul(99999, 99999), 99999)":          most,
		"div(mul(mul(9999, 9999), 9999), 9999)":  99980001,
	} {
		wantNum(t, expr, "", "", want)
	}
}

// P17.1: num is what a text writes, or 0; so many digits or noughts as there are.
func TestNum(t *testing.T) {
	for text, want := range map[string]int{
		"":                                       0,
		"-":                                      0,
		"0":                                      0,
		"-0":                                     0,
		"7":                                      7,
		"-7":                                     -7,
		"-007":                                   -7,
		"0010":                                   10,
		"1x":                                     0,
		"x1":                                     0,
		"1-":                                     0,
		"--1":                                    0,
		"-1-":                                    0,
		"+1":                                     0,
		" 1":                                     0,
		"1 ":                                     0,
		"1\n":                                    0,
		"1.5":                                    0,
		"1_0":                                    0,
		"0x10":                                   0,
		"1e3":                                    0,
		"/":                                      0,
		":":                                      0,
		"1/":                                     0,
		"1:":                                     0,
		"\xb2":                                   0,
		"\uff11":                                 0,
		strconv.Itoa(most):                       most,
		strconv.Itoa(most - 1):                   most - 1,
		strconv.Itoa(most + 1):                   most,
		strconv.Itoa(-most):                      -most,
		strconv.Itoa(-most - 1):                  -most,
		"9223372036854775807":                    most,
		"9223372036854775808":                    most,
		"-9223372036854775809":                   -most,
		"18446744073709551617":                   most,
		strings.Repeat("9", 10000):               most,
		"-" + strings.Repeat("9", 10000):         -most,
		strings.Repeat("0", 10000) + "12":        12,
		"-" + strings.Repeat("0", 10000) + "12":  -12,
		strings.Repeat("9", 10000) + "x":         0,
		strings.Repeat("1", api.MaxCell+1) + "-": 0,
	} {
		wantNum(t, "num(value)", "", text, want)
	}
}

// P17.1: text writes a number in decimal.
func TestText(t *testing.T) {
	for expr, want := range map[string]string{
		"text(0)":                      "0",
		"text(120)":                    "120",
		"text(sub(0, 5))":              "-5",
		"text(" + highest + ")":        "1099511627776",
		"text(" + lowest + ")":         "-1099511627776",
		"text(num(\"-0\"))":            "0",
		"text(num(\"000\"))":           "0",
		"text(mul(0, " + lowest + "))": "0",
	} {
		wantText(t, expr, "", "", want)
	}
}

// P17.1: len counts bytes, of what is handed in all of them.
func TestLen(t *testing.T) {
	long := strings.Repeat("é", 3000)
	wantNum(t, "len(value)", "", "", 0)
	wantNum(t, "len(value)", "", "aé\x00\xff", 5)
	wantNum(t, "len(value)", "", long, 6000)
	wantNum(t, "len(cat(value, value))", "", long, api.MaxCell)
	wantNum(t, "len(key)", strings.Repeat("k", 1<<20), "", 1<<20)
}

// P17.1: cat puts a text behind another one, and cuts.
func TestCat(t *testing.T) {
	full, over := strings.Repeat("a", api.MaxCell), strings.Repeat("b", api.MaxCell+7)
	wantText(t, "cat(key, value)", "ab", "cd", "abcd")
	wantText(t, "cat(key, value)", "", "cd", "cd")
	wantText(t, "cat(key, value)", "ab", "", "ab")
	wantText(t, "cat(key, value)", "\xff\x00", "é", "\xff\x00é")
	wantText(t, "cat(key, value)", full, "x", full)
	wantText(t, "cat(key, value)", full[1:], "xy", full[1:]+"x")
	wantText(t, "cat(key, value)", "x", full, "x"+full[1:])
	wantText(t, "cat(key, value)", over, "x", over[:api.MaxCell])
	wantText(t, "cat(key, value)", "", over, over[:api.MaxCell])
	wantText(t, "cat(key, value)", full[1:]+"é", over, full[1:]+"\xc3")
}

// P17.1: cut takes a piece of a text, as far as there is one.
func TestCut(t *testing.T) {
	for expr, want := range map[string]string{
		`cut("abc", 1, 9)`:                             "bc",
		`cut("abc", 0, 2)`:                             "ab",
		`cut("abc", 1, 1)`:                             "b",
		`cut("abc", 2, 1)`:                             "c",
		`cut("abc", 3, 1)`:                             "",
		`cut("abc", 4, 1)`:                             "",
		`cut("abc", sub(0, 1), 2)`:                     "ab",
		`cut("abc", 1, 0)`:                             "",
		`cut("abc", 1, sub(0, 1))`:                     "",
		`cut("abc", sub(0, 9), sub(0, 9))`:             "",
		`cut("", 0, 1)`:                                "",
		`cut("abc", ` + lowest + `, ` + highest + `)`:  "abc",
		`cut("abc", ` + highest + `, ` + highest + `)`: "",
		`cut("abc", 1, ` + highest + `)`:               "bc",
		`cut("abc", ` + highest + `, ` + lowest + `)`:  "",
		`cut(cut("abcdef", 1, 4), 1, 2)`:               "cd",
		`cat(cut("abc", 0, 1), cut("abc", 2, 1))`:      "ac",
	} {
		wantText(t, expr, "", "", want)
	}
	long := strings.Repeat("abcdefg", 1000)
	wantText(t, "cut(value, 0, 9999)", "", long, long[:api.MaxCell])
	wantText(t, "cut(value, 3, 9999)", "", long, long[3:3+api.MaxCell])
	wantText(t, "cut(value, 3, 4096)", "", long, long[3:3+api.MaxCell])
	wantText(t, "cut(value, 6990, 9999)", "", long, long[6990:])
	wantText(t, "cut(value, 7000, 1)", "", long, "")
	wantText(t, "cut(value, 0, 1)", "", "é", "\xc3")
}

// P17.1: upper and lower change the 26 letters alone, and cut.
func TestUpperLower(t *testing.T) {
	all := make([]byte, 256)
	raised, lowered := make([]byte, 256), make([]byte, 256)
	for i := range all {
		c := byte(i)
		all[i], raised[i], lowered[i] = c, c, c
		if strings.IndexByte("abcdefghijklmnopqrstuvwxyz", c) >= 0 {
			raised[i] = c - 32
		}
		if strings.IndexByte("ABCDEFGHIJKLMNOPQRSTUVWXYZ", c) >= 0 {
			lowered[i] = c + 32
		}
	}
	wantText(t, "upper(value)", "", string(all), string(raised))
	wantText(t, "lower(value)", "", string(all), string(lowered))
	wantText(t, "upper(value)", "", "", "")
	wantText(t, "lower(value)", "", "", "")
	wantText(t, "upper(value)", "", "éßaſ", "éßAſ")
	wantText(t, "lower(value)", "", "ÉA\u212a", "Éa\u212a")
	wantText(t, "upper(value)", "", strings.Repeat("xY", 5000), strings.Repeat("XY", api.MaxCell/2))
	wantText(t, "lower(value)", "", strings.Repeat("xY", 5000), strings.Repeat("xy", api.MaxCell/2))
}

// P17.1: eq and less hold whole texts against each other, byte by byte.
func TestTextsCompared(t *testing.T) {
	long := strings.Repeat("a", 5000)
	for _, c := range []struct {
		s, t     string
		eq, less int
	}{
		{"", "", 1, 0},
		{"", "a", 0, 1},
		{"a", "", 0, 0},
		{"a", "a", 1, 0},
		{"a", "A", 0, 0},
		{"A", "a", 0, 1},
		{"a", "b", 0, 1},
		{"a", "ab", 0, 1},
		{"ab", "a", 0, 0},
		{"b", "ab", 0, 0},
		{"10", "9", 0, 1},
		{"\x7f", "\x80", 0, 1},
		{"z", "\xff", 0, 1},
		{long + "x", long + "y", 0, 1},
		{long + "y", long + "x", 0, 0},
		{long + "x", long + "x", 1, 0},
	} {
		wantNum(t, "eq(key, value)", c.s, c.t, c.eq)
		wantNum(t, "less(key, value)", c.s, c.t, c.less)
	}
}

// P17.1: sum, max, min and count of the values.
func TestNumbersOfLists(t *testing.T) {
	top, bottom := strconv.Itoa(most), strconv.Itoa(-most)
	for _, c := range []struct {
		values               string
		sum, max, min, count int
	}{
		{"1", 1, 1, 1, 1},
		{"1 2 3", 6, 3, 1, 3},
		{"3 1 2", 6, 3, 1, 3},
		{"-3 -1 -2", -6, -1, -3, 3},
		{"-3", -3, -3, -3, 1},
		{"3", 3, 3, 3, 1},
		{"x 5 -4 1x", 1, 5, -4, 4},
		{"x -4", -4, 0, -4, 2},
		{"4 x", 4, 4, 0, 2},
		{"-007 010", 3, 10, -7, 2},
		{top + " 1 -1", most - 1, most, -1, 3},
		{bottom + " -1 1", -most + 1, 1, -most, 3},
		{"1 " + top + " -1", most - 1, most, -1, 3},
		{top + " " + top + " " + bottom, 0, most, -most, 3},
		{bottom + " " + bottom + " " + top, 0, most, -most, 3},
		{top + "0 -5", most - 5, most, -5, 2},
		{"-" + strings.Repeat("9", 100) + " 5", 5 - most, 5, -most, 2},
	} {
		values := strings.Fields(c.values)
		wantOfList(t, "text(sum(values))", "", values, strconv.Itoa(c.sum))
		wantOfList(t, "text(max(values))", "", values, strconv.Itoa(c.max))
		wantOfList(t, "text(min(values))", "", values, strconv.Itoa(c.min))
		wantOfList(t, "text(count(values))", "", values, strconv.Itoa(c.count))
	}
	for _, none := range [][]string{nil, {}} {
		for _, f := range []string{"sum", "max", "min", "count"} {
			wantOfList(t, "text("+f+"(values))", "", none, "0")
		}
	}
	many := make([]string, 3000) // functions look at all of them, loops don't
	for i := range many {
		many[i] = strconv.Itoa(i + 1)
	}
	wantOfList(t, "text(sum(values))", "", many, "4501500")
	wantOfList(t, "text(max(values))", "", many, "3000")
	wantOfList(t, "text(min(values))", "", many, "1")
	wantOfList(t, "text(count(values))", "", many, "3000")
}

// P17.1: first, last and join of the values.
func TestTextsOfLists(t *testing.T) {
	long := strings.Repeat("x", api.MaxCell) + "yz"
	for _, c := range []struct {
		values            []string
		first, last, join string
	}{
		{nil, "", "", ""},
		{[]string{""}, "", "", ""},
		{[]string{"a"}, "a", "a", "a"},
		{[]string{"a", "b"}, "a", "b", "a, b"},
		{[]string{"b", "", "a"}, "b", "a", "b, , a"},
		{[]string{"", ""}, "", "", ", "},
		{[]string{long}, long[:api.MaxCell], long[:api.MaxCell], long[:api.MaxCell]},
		{[]string{"a", long}, "a", long[:api.MaxCell], "a, " + long[:api.MaxCell-3]},
		{[]string{long, "a"}, long[:api.MaxCell], "a", long[:api.MaxCell]},
		{[]string{long[1:api.MaxCell], "a"}, long[1:api.MaxCell], "a", long[1:api.MaxCell] + ","},
		{[]string{long[2:api.MaxCell], "a"}, long[2:api.MaxCell], "a", long[2:api.MaxCell] + ", "},
		{[]string{long[3:api.MaxCell], "ab"}, long[3:api.MaxCell], "ab", long[3:api.MaxCell] + ", a"},
	} {
		wantOfList(t, "first(values)", "k", c.values, c.first)
		wantOfList(t, "last(values)", "k", c.values, c.last)
		wantOfList(t, `join(values, ", ")`, "k", c.values, c.join)
	}
	wantOfList(t, `join(values, "")`, "", []string{"a", "b", "", "c"}, "abc")
	wantOfList(t, `join(values, key)`, long, []string{"a", "b"}, "a"+long[:api.MaxCell-1])
	wantOfList(t, `join(values, key)`, long, []string{"a"}, "a")
	many := strings.Split(strings.Repeat("a", 2100), "")
	wantOfList(t, `join(values, "-")`, "", many, strings.Repeat("a-", api.MaxCell/2))
	wantOfList(t, `join(values, "")`, "", many, strings.Repeat("a", 2100))
	empty := make([]string, 5000)
	wantOfList(t, `join(values, "-")`, "", empty, strings.Repeat("-", api.MaxCell))
	wantOfList(t, `join(values, "-")`, "", empty[:4000], strings.Repeat("-", 3999))
}
