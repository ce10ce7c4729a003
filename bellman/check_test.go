package bellman_test

import (
	"fmt"
	"math/rand"
	"regexp"
	"strconv"
	"strings"
	"testing"

	"bellman/api"
	"bellman/bellman"
)

const rightLine = "* * * * * xa1 >hi\n"

// bounds are the least and greatest values of the five fields.
var bounds = [5][2]int{{0, 59}, {0, 23}, {1, 31}, {1, 12}, {0, 6}}

func wantCheck(t *testing.T, tab string, line int, errno api.Errno) {
	t.Helper()
	if n, e := bellman.Check(tab); n != line || e != errno {
		t.Errorf("P4: Check(%.90q) = %d, %d, want %d, %d", tab, n, e, line, errno)
	}
}

// wantLine looks at a line alone, and behind and before other ones.
func wantLine(t *testing.T, text string, right bool) {
	t.Helper()
	if right {
		wantCheck(t, text+"\n", 0, api.OK)
		wantCheck(t, rightLine+rightLine+text+"\n", 0, api.OK)
		wantCheck(t, text+"\n"+rightLine, 0, api.OK)
		return
	}
	wantCheck(t, text+"\n", 1, api.ErrLine)
	wantCheck(t, rightLine+rightLine+text+"\n", 3, api.ErrLine)
	wantCheck(t, text+"\nx\n", 1, api.ErrLine)
}

// withField is a right line but for the field of that place.
func withField(place int, text string) string {
	fields := []string{"*", "*", "*", "*", "*"}
	fields[place] = text
	return strings.Join(fields, " ") + " xa1 >hi"
}

func TestExample2(t *testing.T) {
	wantCheck(t, "", 0, api.OK)
	wantCheck(t, "* * * * * xa1 >hi\n", 0, api.OK)
	wantCheck(t, "* * * * * xa1 >hi", 1, api.ErrLine)
	for _, text := range []string{"60 * * * * xa1 >hi", "5-3 * * * * xa1 >hi", "*/0 * * * * xa1 >hi", "* * * * * xa0 >hi", "* * * * * xa1", "* * * * * xa1 hi", "*  * * * * xa1 >hi", "1-5,*/7 * * * * xa1 >123456789"} {
		wantLine(t, text, false)
	}
}

func TestBoundsOfFields(t *testing.T) {
	for place, bound := range bounds {
		least, greatest := bound[0], bound[1]
		for n := 0; n <= 99; n++ {
			right := n >= least && n <= greatest
			for _, text := range []string{strconv.Itoa(n), fmt.Sprintf("%02d", n)} {
				wantLine(t, withField(place, text), right)
				wantLine(t, withField(place, "*,"+text), right)
				wantLine(t, withField(place, text+",*"), right)
				wantLine(t, withField(place, fmt.Sprintf("%d-%s", least, text)), right)
				wantLine(t, withField(place, fmt.Sprintf("%s-%d", text, greatest)), right)
				wantLine(t, withField(place, fmt.Sprintf("%s-%s", text, text)), right)
				wantLine(t, withField(place, fmt.Sprintf("%s-%d/2", text, greatest)), right)
				wantLine(t, withField(place, "*/"+text), n >= 1)
				wantLine(t, withField(place, fmt.Sprintf("%d-%d/%s", least, greatest, text)), n >= 1)
				wantLine(t, withField(place, text+"/1"), false)
			}
		}
		wantLine(t, withField(place, fmt.Sprintf("%d-%d", least+1, least)), false)
		wantLine(t, withField(place, fmt.Sprintf("%d-%d/1", greatest, greatest-1)), false)
	}
}

func TestFieldsThatAreNone(t *testing.T) {
	for place := range bounds {
		for _, text := range []string{"", ",", "1,", ",1", "1,,2", "*,", ",*", "**", "*1", "1*", "*-5", "1-*", "-", "1-", "-1", "--1", "1--2", "1-2-3", "/", "/1", "1/", "1/2", "*/", "*//1", "*/*", "*/1/1", "*/-1", "*/+1", "*/100", "*/001", "1-2/", "1-2/0", "1-2/00", "1-2/100", "1-2/1/1", "1-2/1-2", "001", "+1", "1.", "a", "0x1", "1 ", " 1", "1;2", "1\t", "\t", "1\r", "1\x00", "\x00", "\xb1", "1\xff", "１", "?", "L", "SUN", "99999999999999999999", strings.Repeat("1", 200), strings.Repeat("*", 200), strings.Repeat(",", 200)} {
			wantLine(t, withField(place, text), false)
		}
	}
}

func TestFieldsOfManyParts(t *testing.T) {
	for place := range bounds {
		for _, text := range []string{"1,2", "2,1", "1,1", "1,2-3,*/4,1-5/6,*", "*,*,*", "*/99", "1-1", "1-1/99", "01-02/03"} {
			wantLine(t, withField(place, text), true)
		}
		wantLine(t, withField(place, strings.Repeat("1,", 100)+"1"), true)
	}
}

func TestOptions(t *testing.T) {
	for _, a := range "xo" {
		for _, b := range "aln" {
			for _, c := range "12345" {
				wantLine(t, "* * * * * "+string([]rune{a, b, c})+" >hi", true)
			}
		}
	}
	allowed := []string{"xo", "aln", "12345"}
	for place, set := range allowed {
		for b := 0; b < 256; b++ {
			options := []byte("xa1")
			options[place] = byte(b)
			if strings.IndexByte(set, byte(b)) < 0 && b != '\n' {
				wantLine(t, "* * * * * "+string(options)+" >hi", false)
			}
		}
	}
	for _, options := range []string{"", "x", "a", "1", "xa", "a1", "x1", "1ax", "ax1", "xa11", "xxa1", "xal1", "xa10", "x a1", "xa 1", "XA1", "Xa1", "xA1"} {
		wantLine(t, "* * * * * "+options+" >hi", false)
	}
}

func TestSteps(t *testing.T) {
	for count := 0; count <= 8; count++ {
		wantLine(t, "* * * * * xa1"+strings.Repeat(" >hi", count), count >= 1 && count <= 5)
		wantLine(t, "* * * * * xa1"+strings.Repeat(" <a", count), count >= 1 && count <= 5)
	}
	for length := 0; length <= 20; length++ {
		right := length >= 1 && length <= 8
		wantLine(t, "* * * * * xa1 >"+strings.Repeat("a", length), right)
		wantLine(t, "* * * * * xa1 <"+strings.Repeat("9", length), right)
		wantLine(t, "* * * * * xa1 >b <"+strings.Repeat("Z", length), right)
	}
	letters := regexp.MustCompile(`^[a-zA-Z0-9]$`)
	for b := 0; b < 256; b++ {
		if b == '\n' {
			continue
		}
		one := string([]byte{byte(b)})
		right := letters.MatchString(one)
		wantLine(t, "* * * * * xa1 >"+one, right)
		wantLine(t, "* * * * * xa1 <a"+one+"b", right)
		wantLine(t, "* * * * * xa1 >1234567"+one, right)
		wantLine(t, "* * * * * xa1 "+one+"hi", b == '<' || b == '>')
	}
}

func TestOneSpaceBetween(t *testing.T) {
	line := "* * * * * xa1 >hi <ok"
	wantLine(t, line, true)
	wantLine(t, " "+line, false)
	wantLine(t, line+" ", false)
	wantLine(t, line+"\r", false)
	for i := range line {
		if line[i] != ' ' {
			continue
		}
		for _, other := range []string{"", "  ", "\t", "\x00", "\r", "\u00a0", " \t"} {
			wantLine(t, line[:i]+other+line[i+1:], false)
		}
	}
	for _, text := range []string{"", " ", "xa1 >hi", "* * * * xa1 >hi", "* * * * * * xa1 >hi", "* * * * * >hi", "* * * * * >hi xa1", "* * * * *", "#", "# * * * * * xa1 >hi"} {
		wantLine(t, text, false)
	}
}

func TestLongTabs(t *testing.T) {
	padded := "*" + strings.Repeat(",1", (api.MaxTab-len(rightLine))/2) + rightLine[1:]
	if len(padded) != 300 {
		t.Fatalf("the padded crontab has %d bytes", len(padded))
	}
	wantCheck(t, padded, 0, api.OK)
	wantCheck(t, padded+"\n", 0, api.ErrLong)
	wantCheck(t, "*"+padded[:298]+"\n", 1, api.ErrLine)
	for _, size := range []int{301, 302, 4096, 65536 + 10, 20000000} {
		for _, unit := range []string{"x", "\n", " ", "*", "1", ",", "\x00", "\xff"} {
			wantCheck(t, strings.Repeat(unit, size), 0, api.ErrLong)
		}
	}
	wantCheck(t, strings.Repeat(rightLine, 17), 0, api.ErrLong)
	wantCheck(t, strings.Repeat("x", 300), 1, api.ErrLine)
}

func TestManyLines(t *testing.T) {
	for count := 0; count <= 4; count++ {
		wantCheck(t, strings.Repeat(rightLine, count), 0, api.OK)
	}
	for _, tab := range []string{strings.Repeat(rightLine, 5), strings.Repeat(rightLine, 16), strings.Repeat(rightLine, 4) + "x", strings.Repeat(rightLine, 4) + " ", strings.Repeat(rightLine, 4) + "\n", strings.Repeat(rightLine, 4) + rightLine[:17], "\n\n\n\n\n", "\n\n\n\nx", strings.Repeat("\n", 300), "x\n" + strings.Repeat(rightLine, 4)} {
		wantCheck(t, tab, 0, api.ErrMany)
	}
}

func TestFirstWrongLine(t *testing.T) {
	for count := 0; count <= 3; count++ {
		before := strings.Repeat(rightLine, count)
		for _, rest := range []string{rightLine[:17], "x", "\n", " ", "x\n", "\n" + rightLine[:17], rightLine[:16]} {
			if count+strings.Count(rest, "\n") <= 3 {
				wantCheck(t, before+rest, count+1, api.ErrLine)
			}
		}
	}
	wantCheck(t, "\n\n\n\n", 1, api.ErrLine)
	wantCheck(t, rightLine+"x\ny\nz", 2, api.ErrLine)
	wantCheck(t, rightLine+rightLine+"x\n"+rightLine, 3, api.ErrLine)
	wantCheck(t, rightLine+rightLine+rightLine+"x\n", 4, api.ErrLine)
	wantCheck(t, "x\n"+rightLine[:17], 1, api.ErrLine)
}

// linePattern is the form of a line; the bounds of its numbers are looked at
// apart.
var linePattern = func() *regexp.Regexp {
	part := `(\*(/\d\d?)?|\d\d?|\d\d?-\d\d?(/\d\d?)?)`
	field := part + `(,` + part + `)*`
	return regexp.MustCompile(`^(` + field + ` ){5}[xo][aln][1-5]( [<>][a-zA-Z0-9]{1,8}){1,5}$`)
}()

// modelPart is the least, the greatest and the step of a part of that form.
func modelPart(text string, bound [2]int) (int, int, int) {
	values, step, stepped := strings.Cut(text, "/")
	every := 1
	if stepped {
		every, _ = strconv.Atoi(step)
	}
	if values == "*" {
		return bound[0], bound[1], every
	}
	first, last, ranged := strings.Cut(values, "-")
	if !ranged {
		last = first
	}
	a, _ := strconv.Atoi(first)
	b, _ := strconv.Atoi(last)
	return a, b, every
}

func modelLine(text string) bool {
	if !linePattern.MatchString(text) {
		return false
	}
	for place, field := range strings.Split(text, " ")[:5] {
		for _, part := range strings.Split(field, ",") {
			a, b, every := modelPart(part, bounds[place])
			if a < bounds[place][0] || b > bounds[place][1] || a > b || every < 1 {
				return false
			}
		}
	}
	return true
}

// modelCheck is P4 said once more, by other means.
func modelCheck(tab string) (int, api.Errno) {
	if len(tab) > 300 {
		return 0, api.ErrLong
	}
	lines := strings.SplitAfter(tab, "\n")
	if lines[len(lines)-1] == "" {
		lines = lines[:len(lines)-1]
	}
	if len(lines) > 4 {
		return 0, api.ErrMany
	}
	for i, line := range lines {
		text, ended := strings.CutSuffix(line, "\n")
		if !ended || !modelLine(text) {
			return i + 1, api.ErrLine
		}
	}
	return 0, api.OK
}

func TestSpoiltTabs(t *testing.T) {
	random := rand.New(rand.NewSource(1))
	seeds := []string{rightLine, rightLine + rightLine, "0-59/20 00 1,15-20/2,*/9 12 0-6 ol5 <A >b <12345678 >Zz9 <x\n", "1 2 3 4 5 xn2 >a\n9 9 9 9 6 ol3 <b >c\n*/5 1-2 3,4 5-6/2 *,0 xa4 >d\n", "59 23 31 12 6 oa5 >z <y >x <w >v\n" + rightLine + rightLine + rightLine}
	alphabet := "*/-,0123456789 \n<>xoalnhi\x00\xffAZ"
	right := 0
	for round := 0; round < 200000; round++ {
		tab := []byte(seeds[random.Intn(len(seeds))])
		for change := random.Intn(3); change >= 0; change-- {
			at := random.Intn(len(tab))
			b := alphabet[random.Intn(len(alphabet))]
			switch random.Intn(3) {
			case 0:
				tab[at] = b
			case 1:
				tab = append(tab[:at], append([]byte{b}, tab[at:]...)...)
			case 2:
				tab = append(tab[:at], tab[at+1:]...)
			}
		}
		line, errno := modelCheck(string(tab))
		wantCheck(t, string(tab), line, errno)
		if errno == api.OK {
			right++
		}
		if t.Failed() {
			return
		}
	}
	if right < 1000 {
		t.Errorf("only %d of the texts were crontabs: the test says too little", right)
	}
}
