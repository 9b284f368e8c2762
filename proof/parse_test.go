package proof_test

import (
	"fmt"
	"math/rand"
	"slices"
	"strings"
	"testing"

	"insolvency/api"
	"insolvency/proof"
)

func checkParse(t *testing.T, name, text string, want []api.Proof, wantLine int, wantError api.Errno) {
	t.Helper()
	if got, line, e := proof.Parse(text); !slices.Equal(got, want) || line != wantLine || e != wantError {
		t.Errorf("P9.3: Parse of %s: %#v, %d, %d, want %#v, %d, %d\n%q", name, got, line, e, want, wantLine, wantError, text)
	}
}

// checkAgainstModel compares Parse with what P9.3 says.
func checkAgainstModel(t *testing.T, name, text string) {
	t.Helper()
	want, line, e := modelParse(text)
	checkParse(t, name, text, want, line, e)
}

func TestParseOfGoodTexts(t *testing.T) {
	checkParse(t, "no text", "", nil, 0, api.OK)
	checkParse(t, "good documents", goodText(), good(), 0, api.OK)
	lines := strings.SplitAfter(goodText(), "\n")
	checkParse(t, "the first document", strings.Join(lines[:6], ""), good()[:1], 0, api.OK)
	checkParse(t, "the second document", strings.Join(lines[6:14], ""), good()[1:2], 0, api.OK)
	short := good()[1]
	short.Secured = -1
	checkParse(t, "a document without security", strings.Join(lines[6:13], ""), []api.Proof{short}, 0, api.OK)
	short.Rate, short.RateFrom = api.Rat{}, 0
	checkParse(t, "a document of six lines", strings.Join(lines[6:12], ""), []api.Proof{short}, 0, api.OK)
	short.Secured = 7
	checkParse(t, "a document without interest", strings.Join(slices.Concat(lines[6:12], lines[13:14]), ""), []api.Proof{short}, 0, api.OK)
}

func TestFormsOfNumbers(t *testing.T) {
	for word, want := range map[string]api.Rat{
		"3.50": fraction(7, 2), "7/2": fraction(7, 2), "14/4": fraction(7, 2), "0": {}, "-0": {}, "0.000": {}, "-0/5": {}, "0.05": fraction(1, 20), "8/4": fraction(2, 1),
		strings.Repeat("9", 2000): nines(2000), "0." + strings.Repeat("0", 1999) + "0": {},
	} {
		p := good()[0]
		p.Amount = want
		checkParse(t, "the amount "+word, strings.Replace(goodText(), "EUR 7/2", "EUR "+word, 1), append([]api.Proof{p}, good()[1:]...), 0, api.OK)
	}
	for word, want := range map[string]api.Rat{"0.05": fraction(1, 20), "1/20": fraction(1, 20), "2": fraction(2, 1), "0.0000001": fraction(1, 10000000)} {
		list := good()
		list[1].Rate = want
		checkParse(t, "the rate "+word, strings.Replace(goodText(), "1/20 from", word+" from", 1), list, 0, api.OK)
	}
}

// wrong is a line that takes the place of one of the lines of a document.
type wrong struct {
	at   int // from 0 on
	line string
	want api.Errno
}

// wrongLines returns lines with errors that take the place of those of the
// second good document.
func wrongLines() []wrong {
	long := strings.Repeat("7", 2001)
	return []wrong{
		{0, "proof", api.ErrSyntax}, {0, "", api.ErrSyntax}, {0, "proof a b", api.ErrSyntax}, {0, "Proof q", api.ErrSyntax}, {0, "proofs q", api.ErrSyntax}, {0, "proof\tq", api.ErrSyntax}, {0, "q proof", api.ErrSyntax}, {0, "proof q ", api.ErrSyntax}, {0, " proof q", api.ErrSyntax}, {0, "proof  q", api.ErrSyntax},
		{0, "proof ", api.ErrName}, {0, "proof 1", api.ErrName}, {0, "proof q\r", api.ErrName}, {0, "proof q\xff", api.ErrName}, {0, "proof " + strings.Repeat("q", 33), api.ErrName}, {0, "proof a-1_B", api.ErrTwice},
		{1, "estate", api.ErrSyntax}, {1, "estate ", api.ErrSyntax}, {1, "estate 00", api.ErrSyntax}, {1, "estate 07", api.ErrSyntax}, {1, "estate -1", api.ErrSyntax}, {1, "estate +1", api.ErrSyntax}, {1, "estate 1.0", api.ErrSyntax}, {1, "estate 1/1", api.ErrSyntax}, {1, "estate 0x1", api.ErrSyntax}, {1, "estate 1_0", api.ErrSyntax}, {1, "estate 1000000000", api.ErrSyntax}, {1, "estate \u0661", api.ErrSyntax}, {1, "estate 1 2", api.ErrSyntax}, {1, "estate 1\r", api.ErrSyntax}, {1, "creditor 1", api.ErrSyntax}, {1, "estate 18446744073709551616", api.ErrSyntax},
		{1, "estate 8", api.ErrRange}, {1, "estate 10", api.ErrRange}, {1, "estate 999999999", api.ErrRange},
		{2, "creditor x", api.ErrSyntax}, {2, "creditors 1", api.ErrSyntax}, {2, "creditor 0000000001", api.ErrSyntax}, {2, "creditor 32", api.ErrRange}, {2, "creditor 100000000", api.ErrRange},
		{3, "amount", api.ErrSyntax}, {3, "amount EUR", api.ErrSyntax}, {3, "amount EUR 1 ", api.ErrSyntax}, {3, "amount EUR 1 / 2", api.ErrSyntax}, {3, "amount  EUR 1", api.ErrSyntax}, {3, "amount 1", api.ErrSyntax},
		{3, "amount  1", api.ErrCode}, {3, "amount  ", api.ErrCode}, {3, "amount eur 1", api.ErrCode}, {3, "amount EURO 1", api.ErrCode}, {3, "amount EU -1", api.ErrCode}, {3, "amount 1 EUR", api.ErrCode}, {3, "amount EU x", api.ErrCode}, {3, "amount EU " + long, api.ErrCode}, {3, "amount EU 1/0", api.ErrCode},
		{3, "amount EUR ", api.ErrNumber}, {3, "amount EUR x", api.ErrNumber}, {3, "amount EUR +1", api.ErrNumber}, {3, "amount EUR 01", api.ErrNumber}, {3, "amount EUR 1.", api.ErrNumber}, {3, "amount EUR .5", api.ErrNumber}, {3, "amount EUR 1/02", api.ErrNumber}, {3, "amount EUR 1,5", api.ErrNumber}, {3, "amount EUR 1\r", api.ErrNumber}, {3, "amount EUR --1", api.ErrNumber}, {3, "amount EUR -x", api.ErrNumber}, {3, "amount EUR 1e3", api.ErrNumber}, {3, "amount EUR x" + long, api.ErrNumber}, {3, "amount EUR 1/-2", api.ErrNumber},
		{3, "amount EUR " + long, api.ErrLong}, {3, "amount EUR -" + long, api.ErrLong}, {3, "amount EUR 1." + long, api.ErrLong}, {3, "amount EUR " + long + "/0", api.ErrLong}, {3, "amount EUR 1/0", api.ErrRange}, {3, "amount EUR -1/0", api.ErrRange}, {3, "amount EUR 0/0", api.ErrRange},
		{3, "amount EUR -1", api.ErrNegative}, {3, "amount EUR -0.01", api.ErrNegative}, {3, "amount EUR -1/999", api.ErrNegative},
		{4, "incurred", api.ErrSyntax}, {4, "incurred 1.5", api.ErrSyntax}, {4, "incurred 1048577", api.ErrRange}, {4, "incurred 999999999", api.ErrRange}, {4, "incurred 4294967296", api.ErrSyntax},
		{5, "rank -1", api.ErrSyntax}, {5, "rank 8", api.ErrRange}, {5, "interest 1/20 from 12", api.ErrSyntax}, {5, "secured 7", api.ErrSyntax}, {5, "proof q", api.ErrSyntax},
		{6, "interest", api.ErrSyntax}, {6, "interest 1/20", api.ErrSyntax}, {6, "interest 1/20 from", api.ErrSyntax}, {6, "interest 1/20 From 12", api.ErrSyntax}, {6, "interest 1/20 at 12", api.ErrSyntax}, {6, "interest 1/20  12", api.ErrSyntax}, {6, "interest 1/20 from 012", api.ErrSyntax}, {6, "interest x from 1234567890", api.ErrSyntax}, {6, "interest x from y", api.ErrSyntax}, {6, "interest 1/20 from 12 13", api.ErrSyntax}, {6, "interest 1/20 from -1", api.ErrSyntax}, {6, "interest from 1/20 12", api.ErrSyntax}, {6, "rank 1", api.ErrSyntax},
		{6, "interest  from 12", api.ErrNumber}, {6, "interest x from 1048577", api.ErrNumber}, {6, "interest 5% from 12", api.ErrNumber}, {6, "interest " + long + " from 1048577", api.ErrLong}, {6, "interest 1/0 from 12", api.ErrRange}, {6, "interest -1 from 1048577", api.ErrNegative}, {6, "interest -0.5 from 12", api.ErrNegative},
		{6, "interest 0 from 0", api.ErrRange}, {6, "interest 0 from 12", api.ErrRange}, {6, "interest -0 from 12", api.ErrRange}, {6, "interest 0.0 from 12", api.ErrRange}, {6, "interest 0/7 from 12", api.ErrRange}, {6, "interest 1 from 1048577", api.ErrRange}, {6, "interest 1 from 999999999", api.ErrRange},
		{7, "secured -1", api.ErrSyntax}, {7, "secured", api.ErrSyntax}, {7, "secured 8", api.ErrRange}, {7, "interest 1/20 from 12", api.ErrSyntax}, {7, "estate 1", api.ErrSyntax}, {7, "end", api.ErrSyntax}, {7, "", api.ErrSyntax},
	}
}

func TestWrongLines(t *testing.T) {
	lines := strings.SplitAfter(goodText(), "\n")
	for _, x := range wrongLines() {
		bent := slices.Clone(lines)
		at := 6 + x.at
		bent[at] = x.line + "\n"
		checkParse(t, fmt.Sprintf("the line %q", x.line), strings.Join(bent, ""), nil, at+1, x.want)
		checkParse(t, fmt.Sprintf("the line %q at the end", x.line), strings.Join(bent[:at+1], ""), nil, at+1, x.want)
		if x.line != "" {
			bent[at] = x.line
			checkParse(t, fmt.Sprintf("the line %q that does not end", x.line), strings.Join(bent[:at+1], ""), nil, at+1, api.ErrSyntax)
		}
		for later := at + 1; later < len(lines); later++ {
			bent[at], bent[later] = x.line+"\n", "wrong\n"
			checkParse(t, fmt.Sprintf("the line %q before a wrong one", x.line), strings.Join(bent, ""), nil, at+1, x.want)
			bent[later] = lines[later]
		}
	}
}

func TestTextsThatEnd(t *testing.T) {
	lines := strings.SplitAfter(goodText(), "\n")
	ends := []int{6, 12, 13, 14, 20, 21, 27, 28}
	for size := range len(lines) {
		text := strings.Join(lines[:size], "")
		if size == 0 || slices.Contains(ends, size) {
			if _, line, e := proof.Parse(text); line != 0 || e != api.OK {
				t.Errorf("P9.3: Parse of %d lines: %d, %d", size, line, e)
			}
		} else {
			checkParse(t, fmt.Sprintf("%d lines", size), text, nil, size+1, api.ErrSyntax)
		}
		if size > 0 {
			checkParse(t, "a line that does not end", strings.TrimSuffix(text, "\n"), nil, size, api.ErrSyntax)
			checkParse(t, "an empty line", text+"\n"+strings.Join(lines[size:], ""), nil, size+1, api.ErrSyntax)
			checkParse(t, "a byte at the end", text+" ", nil, size+1, api.ErrSyntax)
		}
	}
}

// vocabulary returns lines, good ones and wrong ones.
func vocabulary() []string {
	list := strings.SplitAfter(goodText(), "\n")
	for _, x := range wrongLines() {
		list = append(list, x.line+"\n")
	}
	return append(list, "\n", "proof q\n", "proof b\n", "proof\nestate 1\n", "secured 0\n", "secured 1\nsecured 2\n", "interest 2 from 3\n", "interest 2 from 3\nsecured 1\n", "x", " ", "\r\n", "\x00", "proof c\nestate 1\ncreditor 1\namount GBP 5\nincurred 5\nrank 5\n", "proof c\nestate 1\ncreditor 1\namount GBP 5\nincurred 5\n")
}

// Every line of a good text is replaced by every line of the vocabulary, and
// every line of the vocabulary is inserted everywhere.
func TestParseAgainstModel(t *testing.T) {
	lines := strings.SplitAfter(goodText(), "\n")
	for at := range lines {
		before, after := strings.Join(lines[:at], ""), strings.Join(lines[at:], "")
		checkAgainstModel(t, "a text without its end", before)
		checkAgainstModel(t, "a text without its beginning", after)
		for _, x := range vocabulary() {
			checkAgainstModel(t, "a text with a line more", before+x+after)
			checkAgainstModel(t, "a text with another line", before+x+strings.TrimPrefix(after, lines[at]))
		}
	}
}

// Single bytes of a good text are replaced, inserted and left out.
func TestBytesAgainstModel(t *testing.T) {
	text := goodText()
	for at := range len(text) {
		checkAgainstModel(t, "a text without a byte", text[:at]+text[at+1:])
		for _, b := range []byte("\n 0159/.-+_azAZ\x00\t\r\x80\xff") {
			checkAgainstModel(t, "a text with a byte more", text[:at]+string([]byte{b})+text[at:])
			checkAgainstModel(t, "a text with another byte", text[:at]+string([]byte{b})+text[at+1:])
		}
	}
}

func TestRandomTextsAgainstModel(t *testing.T) {
	source := rand.New(rand.NewSource(9))
	words := vocabulary()
	for range 3000 {
		lines := strings.SplitAfter(modelFormat(randomList(source, 1+source.Intn(5))), "\n")
		for range source.Intn(4) {
			at := source.Intn(len(lines))
			switch source.Intn(4) {
			case 0:
				lines = slices.Insert(lines, at, pick(source, words...))
			case 1:
				lines = slices.Delete(lines, at, at+1)
			case 2:
				other := source.Intn(len(lines))
				lines[at], lines[other] = lines[other], lines[at]
			case 3:
				lines[at] = lines[source.Intn(len(lines))]
			}
			if len(lines) == 0 {
				break
			}
		}
		checkAgainstModel(t, "a random text", strings.Join(lines, ""))
	}
}

// documents returns the text of so many documents of six or eight lines.
func documents(from, size int, full bool) string {
	b := strings.Builder{}
	for i := range size {
		fmt.Fprintf(&b, "proof p%d\nestate 0\ncreditor 0\namount EUR 1\nincurred 0\nrank 2\n", from+i)
		if full {
			b.WriteString("interest 1 from 0\nsecured 0\n")
		}
	}
	return b.String()
}

func TestLimitsOfLines(t *testing.T) {
	full := documents(0, 64, true)
	if list, line, e := proof.Parse(full); len(list) != 64 || line != 0 || e != api.OK {
		t.Errorf("P9.3: Parse of 512 lines: %d, %d, %d", len(list), line, e)
	}
	for _, more := range []string{"\n", "x", " ", "proof q\n", "secured 0\n", documents(0, 1, false)} {
		checkParse(t, fmt.Sprintf("512 lines and %q", more), full+more, nil, 0, api.ErrLong)
		checkAgainstModel(t, "more than 512 lines", full+more)
	}
	checkParse(t, "65 documents", documents(0, 65, false), nil, 385, api.ErrLong)
	checkParse(t, "66 documents", documents(0, 66, false), nil, 385, api.ErrLong)
	checkParse(t, "the beginning of document 65", documents(0, 64, false)+"proof q\n", nil, 385, api.ErrLong)
	checkParse(t, "document 65 without an end", documents(0, 64, false)+"proof q", nil, 385, api.ErrSyntax)
	checkParse(t, "document 65 without a name", documents(0, 64, false)+"proof 7\n", nil, 385, api.ErrName)
	checkParse(t, "document 65 of a name twice", documents(0, 64, false)+documents(63, 1, false), nil, 385, api.ErrTwice)
	checkParse(t, "document 64 of a name twice", documents(0, 63, false)+documents(0, 2, false), nil, 379, api.ErrTwice)
	checkParse(t, "an incomplete document 64", documents(0, 63, true)+"proof q\nestate 0\ncreditor 0\namount EUR 1\nincurred 0\n", nil, 510, api.ErrSyntax)
	checkParse(t, "an error before 512 lines", "x\n"+strings.Repeat("\n", 511), nil, 1, api.ErrSyntax)
	checkParse(t, "512 lines, the last without an end", strings.Repeat("\n", 511)+"x", nil, 1, api.ErrSyntax)
	checkParse(t, "513 lines, the last without an end", strings.Repeat("\n", 512)+"x", nil, 0, api.ErrLong)
	checkParse(t, "many lines", strings.Repeat("\n", 8192), nil, 0, api.ErrLong)
}

// filled returns documents whose text has so many bytes.
func filled(bytes int) []api.Proof {
	list := []api.Proof{}
	for i := range 5 {
		list = append(list, api.Proof{ID: fmt.Sprintf("p%d", i), Code: "EUR", Amount: nines(1500), Secured: -1})
	}
	list[4].Amount = nines(1500 + bytes - len(modelFormat(list)))
	return list
}

func TestLimitOfBytes(t *testing.T) {
	list := filled(api.MaxText)
	checkParse(t, "8,192 bytes", modelFormat(list), list, 0, api.OK)
	checkParse(t, "8,193 bytes", modelFormat(filled(api.MaxText+1)), nil, 0, api.ErrLong)
	checkParse(t, "8,192 wrong bytes", strings.Repeat("x", 8192), nil, 1, api.ErrSyntax)
	checkParse(t, "8,193 wrong bytes", strings.Repeat("x", 8193), nil, 0, api.ErrLong)
	checkParse(t, "8,192 spaces", strings.Repeat(" ", 8192), nil, 1, api.ErrSyntax)
	checkParse(t, "very many bytes", strings.Repeat("proof a\n", 1<<20), nil, 0, api.ErrLong)
}
