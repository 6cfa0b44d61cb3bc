package asm_test

import (
	"math"
	"math/rand"
	"slices"
	"strings"
	"testing"

	"seizin/api"
	"seizin/asm"
	"seizin/code"
)

// names are those of the chapter, by the instructions' numbers.
var names = []string{
	"halt", "movi", "mov", "add", "sub", "mul", "div", "lt", "eq", "jmp", "jz", "ldb", "stb", "ldw", "stw", "ldc", "stc", "inc", "bnd", "prm",
	"sel", "uns", "ent", "call", "ret", "len", "off", "tag", "addr", "sys",
}

// written are instructions, with their texts.
var written = []struct {
	x    api.Ins
	text string
}{
	{api.Ins{Op: api.Halt}, "halt"},
	{api.Ins{Op: api.Movi, A: 1, B: -1}, "movi r1 -1"},
	{api.Ins{Op: api.Movi, A: 0, B: 0}, "movi r0 0"},
	{api.Ins{Op: api.Movi, A: 7, B: -32768}, "movi r7 -32768"},
	{api.Ins{Op: api.Movi, A: 7, B: 32767}, "movi r7 32767"},
	{api.Ins{Op: api.Mov, A: 2, B: 3}, "mov r2 r3"},
	{api.Ins{Op: api.Add, A: 1, B: 2, C: 3}, "add r1 r2 r3"},
	{api.Ins{Op: api.Sub, A: 4, B: 5, C: 6}, "sub r4 r5 r6"},
	{api.Ins{Op: api.Mul, A: 7, B: 0, C: 1}, "mul r7 r0 r1"},
	{api.Ins{Op: api.Div, A: 2, B: 3, C: 4}, "div r2 r3 r4"},
	{api.Ins{Op: api.Lt}, "lt r0 r0 r0"},
	{api.Ins{Op: api.Eq, C: 1}, "eq r0 r0 r1"},
	{api.Ins{Op: api.Jmp, B: -3}, "jmp -3"},
	{api.Ins{Op: api.Jz, A: 5, B: 12}, "jz r5 12"},
	{api.Ins{Op: api.Ldb, A: 1, B: 2, C: 255}, "ldb r1 r2 255"},
	{api.Ins{Op: api.Stb, A: 1, B: 2}, "stb r1 r2 0"},
	{api.Ins{Op: api.Ldw, A: 3, B: 4, C: 10}, "ldw r3 r4 10"},
	{api.Ins{Op: api.Stw, A: 3, B: 4, C: 100}, "stw r3 r4 100"},
	{api.Ins{Op: api.Ldc, A: 5, B: 6, C: 7}, "ldc r5 r6 7"},
	{api.Ins{Op: api.Stc, A: 5, B: 6, C: 7}, "stc r5 r6 7"},
	{api.Ins{Op: api.Inc, A: 1, B: 1, C: 2}, "inc r1 r1 r2"},
	{api.Ins{Op: api.Bnd, A: 1, B: 1, C: 2}, "bnd r1 r1 r2"},
	{api.Ins{Op: api.Prm, A: 1, B: 1, C: 11}, "prm r1 r1 11"},
	{api.Ins{Op: api.Sel, A: 1, B: 2, C: 5}, "sel r1 r2 r5"},
	{api.Ins{Op: api.Uns, A: 1, B: 2, C: 5}, "uns r1 r2 r5"},
	{api.Ins{Op: api.Ent, A: 6, B: 7}, "ent r6 r7"},
	{api.Ins{Op: api.Call, A: 6, B: 7}, "call r6 r7"},
	{api.Ins{Op: api.Ret}, "ret"},
	{api.Ins{Op: api.Len, A: 0, B: 1}, "len r0 r1"},
	{api.Ins{Op: api.Off, A: 0, B: 1}, "off r0 r1"},
	{api.Ins{Op: api.Tag, A: 0, B: 1}, "tag r0 r1"},
	{api.Ins{Op: api.Addr, A: 0, B: 1}, "addr r0 r1"},
	{api.Ins{Op: api.Sys, A: 6}, "sys 6"},
	{api.Ins{Op: api.Sys, A: 255}, "sys 255"},
}

// wrong are instructions that are not right.
var wrong = []api.Ins{
	{Op: -1}, {Op: 30}, {Op: math.MinInt}, {Op: math.MaxInt}, {Op: api.Halt, A: 1}, {Op: api.Movi, A: 8}, {Op: api.Movi, A: -1}, {Op: api.Movi, B: 32768},
	{Op: api.Movi, C: 1}, {Op: api.Jmp, A: 1}, {Op: api.Sys, A: 256}, {Op: api.Sys, B: 1}, {Op: api.Mov, C: 1}, {Op: api.Ldb, C: -1},
}

// noTexts are no instruction's texts.
var noTexts = []string{
	"", " ", "\n", "halt ", " halt", "halt\n", "Halt", "HALT", "halt 0", "halt r0", "hal", "haltt", "jmp", "jmp ", "jmp r1", "jmp +3", "jmp 03", "jmp -0", "jmp 3 ",
	"jmp  3", "jmp 3 0", "jmp 32768", "jmp -32769", "jmp 0x3", "jmp 3.0", "jmp 1_0", "jmp 99999999999999999999", "movi r1", "movi 1 1", "movi r8 1", "movi r-1 1",
	"movi r01 1", "movi R1 1", "movi rr1 1", "movi r1 r1", "movi r1, 1", "movi r1\t1", "movi r1 1 0", "mov r1", "mov r1 2", "mov r1 r2 r3", "mov r1 r2 0", "add r1 r2",
	"add r1 r2 3", "ldb r1 r2 256", "ldb r1 r2 -1", "ldb r1 r2 r3", "sys", "sys r1", "sys 256", "sys -1", "nop", "30", "movi  r1 1", "halt\x00", "\xff", "hal\xff",
	"halt halt", "ret ret", "r1", "-1", "jz r1", "jz r1 ", "jz 1 r1",
}

func TestP161Name(t *testing.T) {
	for op, want := range names {
		if got := asm.Name(op); got != want {
			t.Error(op, got)
		}
	}
	for _, op := range []int{math.MinInt, -1, 30, 31, 255, math.MaxInt} {
		if got := asm.Name(op); got != "" {
			t.Error(op, got)
		}
	}
}

func TestP161TextAndParse(t *testing.T) {
	for _, row := range written {
		if got := asm.Text(row.x); got != row.text {
			t.Error(row, got)
		}
		if got, is := asm.Parse(row.text); got != row.x || !is {
			t.Error(row, got, is)
		}
	}
	for _, x := range wrong {
		if got := asm.Text(x); got != "" {
			t.Error(x, got)
		}
	}
	for _, s := range noTexts {
		if x, is := asm.Parse(s); x != (api.Ins{}) || is {
			t.Errorf("%q: %v", s, x)
		}
	}
}

func TestP161Lines(t *testing.T) {
	var l []api.Ins
	want := ""
	for i, row := range written {
		l = append(l, row.x, wrong[i%len(wrong)])
		want += row.text + "\n"
	}
	before := slices.Clone(l)
	if got := asm.Lines(l); got != want || !slices.Equal(l, before) {
		t.Error(got)
	}
	if asm.Lines(nil) != "" || asm.Lines(wrong) != "" {
		t.Error("of none")
	}
}

func TestP161Read(t *testing.T) {
	halt, jump := api.Ins{Op: api.Halt}, api.Ins{Op: api.Jmp, B: 3}
	for _, row := range []struct {
		s  string
		l  []api.Ins
		n  int
		is bool
	}{
		{"", nil, 0, true},
		{"halt\n", []api.Ins{halt}, 1, true},
		{"halt\njmp 3\nhalt\n", []api.Ins{halt, jump, halt}, 3, true},
		{"halt", nil, 0, false},
		{"halt\njmp 3", nil, 1, false},
		{"halt\njmp 3\n ", nil, 2, false},
		{"\n", nil, 0, false},
		{"halt\n\n", nil, 1, false},
		{"halt\n\nhalt\n", nil, 1, false},
		{"halt\nhalt\nnop\nhalt\nnop\n", nil, 2, false},
		{"nop\nhalt", nil, 0, false},
		{"halt\r\n", nil, 0, false},
		{"halt\nnop", nil, 1, false},
		{"halt\n\x00", nil, 1, false},
	} {
		if l, n, is := asm.Read(row.s); !slices.Equal(l, row.l) || n != row.n || is != row.is {
			t.Errorf("%q: %v %d %v", row.s, l, n, is)
		}
	}
}

// rights are right ones of all kinds.
func rights() []api.Ins {
	numbers := []int{-32768, -1, 0, 1, 7, 9, 10, 255, 32767}
	var l []api.Ins
	for op := range names {
		for _, a := range numbers {
			for _, b := range numbers {
				for _, c := range numbers {
					if x := (api.Ins{Op: op, A: a, B: b, C: c}); code.Right(x) {
						l = append(l, x)
					}
				}
			}
		}
	}
	return l
}

func TestP162ARightOneIsToldByItsText(t *testing.T) {
	seen := map[string]bool{}
	for _, x := range rights() {
		text := asm.Text(x)
		if seen[text] || text == "" {
			t.Fatal(x, text)
		}
		seen[text] = true
		if got, is := asm.Parse(text); got != x || !is {
			t.Fatal(x, text, got)
		}
	}
}

func TestP162NothingElseIs(t *testing.T) {
	r := rand.New(rand.NewSource(31))
	l := rights()
	pieces := []string{" ", "r", "-", "0", "1", "9", "+", "\n", "x", "halt", ""}
	for range 40000 {
		s := asm.Text(l[r.Intn(len(l))])
		from := r.Intn(len(s) + 1)
		to := from + r.Intn(len(s)+1-from)
		if r.Intn(2) == 0 {
			to = from
		}
		s = s[:from] + pieces[r.Intn(len(pieces))] + s[to:]
		want, right := simple(s)
		if !right {
			want = api.Ins{}
		}
		if x, is := asm.Parse(s); x != want || is != right || is && (!code.Right(x) || asm.Text(x) != s) {
			t.Fatal(s, x, is)
		}
	}
}

// simple looks for a text among those that an instruction of its name, and its numbers, may have.
func simple(s string) (api.Ins, bool) {
	words := strings.Split(s, " ")
	op := slices.Index(names, words[0])
	if op < 0 {
		return api.Ins{}, false
	}
	var parts [3]int
	i := 1
	for place, kind := range code.Kinds(op) {
		if kind == '-' || kind == 'v' {
			continue
		}
		if i >= len(words) {
			return api.Ins{}, false
		}
		word := words[i]
		i++
		if kind == 'r' {
			if !strings.HasPrefix(word, "r") {
				return api.Ins{}, false
			}
			word = word[1:]
		}
		n, is := decimal(word)
		if !is {
			return api.Ins{}, false
		}
		parts[place] = n
	}
	x := api.Ins{Op: op, A: parts[0], B: parts[1], C: parts[2]}
	return x, i == len(words) && code.Right(x)
}

// decimal is a number that is written as short as may be.
func decimal(word string) (int, bool) {
	below := strings.HasPrefix(word, "-")
	if below {
		word = word[1:]
	}
	if word == "" || len(word) > 6 || word[0] == '0' && (below || len(word) > 1) {
		return 0, false
	}
	n := 0
	for _, digit := range word {
		if digit < '0' || digit > '9' {
			return 0, false
		}
		n = 10*n + int(digit-'0')
	}
	if below {
		n = -n
	}
	return n, true
}

func TestP162LinesAreReadAsTheyWereWritten(t *testing.T) {
	l := rights()
	got, n, is := asm.Read(asm.Lines(l))
	if !slices.Equal(got, l) || n != len(l) || !is {
		t.Error(n, is)
	}
	some := append(slices.Clone(wrong), l[:9]...)
	if got, n, is := asm.Read(asm.Lines(some)); !slices.Equal(got, l[:9]) || n != 9 || !is {
		t.Error(got, n, is)
	}
}
