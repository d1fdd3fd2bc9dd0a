package eval

import (
	"strconv"
	"strings"

	"mahout/api"
	"mahout/lang"
)

// mostArgs: no function takes more.
const mostArgs = 3

func (c *call) value(e *lang.Expr) worth {
	switch e.Op {
	case "number":
		return worth{num: e.Num}
	case "string":
		return worth{text: e.Text}
	case "var":
		return c.bound[e.Text]
	}
	var args [mostArgs]worth
	for i := range min(len(e.Args), mostArgs) {
		args[i] = c.value(&e.Args[i])
	}
	switch e.Op {
	case "add", "sub", "mul", "div", "lt", "not", "and", "or":
		return worth{num: number(ofNumbers(e.Op, args[0].num, args[1].num))}
	case "len", "num", "eq", "less":
		return worth{num: number(ofTexts(e.Op, args[0].text, args[1].text))}
	case "sum", "max", "min", "count":
		return worth{num: number(ofList(e.Op, args[0].list))}
	}
	return worth{text: cell(text(e.Op, args))}
}

// number cuts a number to the bounds of the language's.
func number(n int) int {
	return min(max(n, -api.MaxNum), api.MaxNum)
}

// cell cuts a text that a function made.
func cell(t string) string {
	return t[:min(len(t), api.MaxCell)]
}

// truth is what the language has for true and false.
func truth(yes bool) int {
	if yes {
		return 1
	}
	return 0
}

// ofNumbers: a function of numbers that answers one.
func ofNumbers(name string, a, b int) int {
	switch name {
	case "add":
		return a + b
	case "sub":
		return a - b
	case "mul":
		return product(a, b)
	case "div":
		return quotient(a, b)
	case "lt":
		return truth(a < b)
	case "not":
		return truth(a == 0)
	case "and":
		return truth(a != 0 && b != 0)
	}
	return truth(a != 0 || b != 0)
}

// product: a·b itself may be more than a word holds.
func product(a, b int) int {
	switch {
	case b == 0 || size(a) <= api.MaxNum/size(b):
		return a * b
	case (a < 0) == (b < 0):
		return api.MaxNum
	}
	return -api.MaxNum
}

func size(n int) int {
	return max(n, -n)
}

func quotient(a, b int) int {
	if b == 0 {
		return 0
	}
	return a / b
}

// ofTexts: a function of texts that answers a number.
func ofTexts(name, s, t string) int {
	switch name {
	case "len":
		return len(s)
	case "num":
		return written(s)
	case "eq":
		return truth(s == t)
	}
	return truth(s < t)
}

// written: the number that a text writes, cut; 0, where it writes none.
func written(t string) int {
	digits := strings.TrimPrefix(t, "-")
	n := 0
	for i := range len(digits) {
		c := digits[i]
		if c < '0' || c > '9' {
			return 0
		}
		n = number(n*10 + int(c-'0'))
	}
	if len(digits) < len(t) {
		return -n
	}
	return n
}

// ofList: a function of a list that answers a number.
func ofList(name string, list []string) int {
	if name == "count" {
		return len(list)
	}
	n := 0
	for i, t := range list {
		m := written(t)
		switch {
		case name == "sum":
			n = number(n + m)
		case i == 0:
			n = m
		case name == "max":
			n = max(n, m)
		default:
			n = min(n, m)
		}
	}
	return n
}

// text: a function that answers a text, which isn't cut yet.
func text(name string, a [mostArgs]worth) string {
	switch name {
	case "text":
		return strconv.Itoa(a[0].num)
	case "cat":
		return cell(a[0].text) + cell(a[1].text)
	case "cut":
		return part(a[0].text, a[1].num, a[2].num)
	case "upper":
		return shifted(cell(a[0].text), 'a', 'A')
	case "lower":
		return shifted(cell(a[0].text), 'A', 'a')
	case "join":
		return joined(a[0].list, a[1].text)
	case "first":
		return valueAt(a[0].list, 0)
	case "last":
		return valueAt(a[0].list, len(a[0].list)-1)
	}
	return ""
}

// part: of a text the bytes from place from on, n of them, as far as there are so many.
func part(t string, from, n int) string {
	rest := t[min(max(from, 0), len(t)):]
	return rest[:min(max(n, 0), len(rest))]
}

// shifted: the 26 letters from one on are taken for those from the other on.
func shifted(t string, from, to byte) string {
	made := []byte(t)
	for i, c := range made {
		if c >= from && c < from+26 {
			made[i] = c - from + to
		}
	}
	return string(made)
}

// joined: the values with t between each two, as far as they aren't cut off.
func joined(list []string, t string) string {
	var made strings.Builder
	for i, v := range list {
		if i > 0 {
			made.WriteString(cell(t))
		}
		made.WriteString(cell(v))
		if made.Len() > api.MaxCell {
			break
		}
	}
	return made.String()
}

// valueAt: the first or last value of a list; the empty text, where it has none.
func valueAt(list []string, i int) string {
	if len(list) == 0 {
		return ""
	}
	return list[i]
}
