package pick

import (
	"fmt"
	"math"
	"math/rand/v2"
	"slices"
	"strconv"
	"strings"
	"testing"

	"marlstone/api"
)

// tables is a list out of a short text: of each table the level, the first and the last key, and behind "#" the count (else 1); ahead of "*" stands how many there are of it (else one). No two roots are the same.
func tables(s string) []api.Table {
	var l []api.Table
	for _, word := range strings.Fields(s) {
		times, x, several := strings.Cut(word, "*")
		if !several {
			times, x = "1", word
		}
		n, _ := strconv.Atoi(times)
		for range min(n, 100) {
			l = append(l, one(x, len(l)))
		}
	}
	return l
}

// one is a table out of such a text, with a root out of a number.
func one(s string, root int) api.Table {
	level, rest, _ := strings.Cut(s, ":")
	ends, count, _ := strings.Cut(rest, "#")
	x := api.Table{Count: 1, Root: api.Digest{byte(root), byte(root >> 8)}}
	x.Level, _ = strconv.Atoi(level)
	x.First, x.Last, _ = strings.Cut(ends, "-")
	if count != "" {
		x.Count, _ = strconv.Atoi(count)
	}
	return x
}

// brief tells the first tables of l as a text of this kind.
func brief(l []api.Table) string {
	var b strings.Builder
	fmt.Fprintf(&b, "%d tables:", len(l))
	for _, x := range l[:min(len(l), 60)] {
		fmt.Fprintf(&b, " %d:%.20q-%.20q#%d", x.Level, x.First, x.Last, x.Count)
	}
	return b.String()
}

// span is the numbers from from to to - 1.
func span(from, to int) []int {
	var l []int
	for i := from; i < to; i++ {
		l = append(l, i)
	}
	return l
}

// tells holds Pick of l against what is wanted (to 0: that nothing is picked), and that l, and what stands behind it, stays as it was.
func tells(t *testing.T, l []api.Table, want []int, to int) {
	t.Helper()
	room := append(slices.Clone(l), tables("0:a-z 1:a-z 2:a-z")...)
	ahead := slices.Clone(room)
	at, level, is := Pick(room[:len(l)])
	if !slices.Equal(at, want) || level != to || is != (to != 0) {
		t.Fatalf("Pick of %s: %.600s, %d, %v, not %.600s, %d", brief(l), fmt.Sprint(at), level, is, fmt.Sprint(want), to)
	}
	if !slices.Equal(room, ahead) {
		t.Fatalf("Pick of %s: it is %s now", brief(ahead), brief(room))
	}
}

// held holds Pick of l against the model; it tells whether something is picked.
func held(t *testing.T, l []api.Table) bool {
	t.Helper()
	want, to, is := modelPick(l)
	tells(t, l, want, to)
	return is
}

// told holds Pick of the list that s tells against what is wanted, and the model against that, too.
func told(t *testing.T, s string, want []int, to int) {
	t.Helper()
	tells(t, tables(s), want, to)
	held(t, tables(s))
}

// O2: the chapter's examples.
func TestExamples(t *testing.T) {
	told(t, "5*0:a-b 1:b-c 1:d-e", []int{0, 1, 2, 3, 4, 5}, 1)
	told(t, "4*0:a-b 1:b-c 1:d-e", nil, 0)
	told(t, "4*0:a-b", nil, 0)
}

// O2: of nothing nothing is picked.
func TestPickOfNothing(t *testing.T) {
	for _, l := range [][]api.Table{nil, {}} {
		tells(t, l, nil, 0)
	}
}

// O2: each level with fewer tables than its Cap, just as many, one more, and many more, alone.
func TestEachLevelAlone(t *testing.T) {
	for level, most := range []int{4, 8, 32} {
		for n := range 3 * most {
			s := fmt.Sprintf("%d*%d:a-b", n, level)
			switch {
			case n <= most:
				told(t, s, nil, 0)
			case level == 0:
				told(t, s, span(0, n), 1)
			default:
				told(t, s, []int{0}, level+1)
			}
		}
	}
	for n := range 101 {
		told(t, fmt.Sprintf("%d*3:a-b", n), nil, 0)
		told(t, strings.Repeat(fmt.Sprintf("%d*3:a-b ", n), 30), nil, 0)
	}
}

// O2: each level with as many as its Cap, and with one more, in all ways at once: the least such level goes.
func TestSeveralLevels(t *testing.T) {
	for _, c := range []struct {
		n    [4]int
		want []int
		to   int
	}{
		{[4]int{4, 8, 32, 100}, nil, 0},
		{[4]int{5, 8, 32, 100}, span(0, 13), 1},
		{[4]int{4, 9, 32, 100}, append([]int{4}, span(13, 45)...), 2},
		{[4]int{5, 9, 32, 100}, span(0, 14), 1},
		{[4]int{4, 8, 33, 100}, append([]int{12}, span(45, 145)...), 3},
		{[4]int{5, 8, 33, 100}, span(0, 13), 1},
		{[4]int{4, 9, 33, 100}, append([]int{4}, span(13, 46)...), 2},
		{[4]int{5, 9, 33, 100}, span(0, 14), 1},
		{[4]int{0, 9, 33, 0}, append([]int{0}, span(9, 42)...), 2},
		{[4]int{0, 0, 33, 2}, []int{0, 33, 34}, 3},
		{[4]int{6, 0, 99, 2}, span(0, 6), 1},
		{[4]int{4, 0, 99, 0}, []int{4}, 3},
		{[4]int{0, 8, 0, 9}, nil, 0},
	} {
		told(t, fmt.Sprintf("%d*0:a-b %d*1:a-b %d*2:a-b %d*3:a-b", c.n[0], c.n[1], c.n[2], c.n[3]), c.want, c.to)
	}
}

// O2: the table that goes is alone, or has just the next level's with it: those of other levels stay, though they have the same keys.
func TestOtherLevelsStay(t *testing.T) {
	told(t, "5*0:a-b 2:a-b 3:a-b", span(0, 5), 1)
	told(t, "5*0:a-b 1:a-b 2:a-b 3:a-b", span(0, 6), 1)
	told(t, "4*0:a-b 9*1:a-b 3:a-b", []int{4}, 2)
	told(t, "4*0:a-b 9*1:a-b 2:a-b 3:a-b", []int{4, 13}, 2)
	told(t, "4*0:a-b 8*1:a-b 33*2:a-b", []int{12}, 3)
	told(t, "4*0:a-b 8*1:a-b 33*2:a-b 3:a-b", []int{12, 45}, 3)
}

// O2: tables whose level is not from 0 to 3 are not counted and not picked, wherever they stand.
func TestOtherLevels(t *testing.T) {
	strange := []int{-1, -2, -3, 4, 5, 8, 32, 255, 256, 257, 258, 259, -256, -255, 1 << 32, 1<<32 + 1, 1<<32 + 2, 1<<32 + 3, math.MinInt, math.MinInt + 1, math.MinInt + 2, math.MaxInt}
	for _, level := range strange {
		told(t, fmt.Sprintf("100*%d:a-b", level), nil, 0)
		for _, s := range []string{
			"4*0:a-b 8*1:a-b 32*2:a-b 3:a-b",
			"5*0:a-b 1:b-c 1:d-e",
			"9*1:a-b 2:b-c 2:d-e 2:a-a",
			"33*2:a-b 3:b-c 3:d-e 3:a-a",
		} {
			l := tables(s)
			want, to, _ := Pick(l)
			for at := range len(l) + 1 {
				x := one("0:a-z", 1000)
				x.Level = level
				moved := slices.Clone(want)
				for i := range moved {
					if moved[i] >= at {
						moved[i]++
					}
				}
				more := slices.Insert(slices.Clone(l), at, x)
				tells(t, more, moved, to)
				held(t, more)
			}
		}
	}
	told(t, "-1:a-b 0:a-b -1:a-b 0:a-b 4:a-b 0:a-b 4:a-b 0:a-b", nil, 0)
	told(t, "-1:a-b 0:a-b -1:a-b 0:a-b 4:a-b 0:a-b 4:a-b 0:a-b 7:a-b 0:b-c 4:a-b 1:c-d 9:a-b", []int{1, 3, 5, 7, 9, 11}, 1)
	told(t, "-1:a-b 9*1:a-b 4:a-b 2:b-c", []int{1, 11}, 2)
	told(t, "-1:a-b 4:a-b 33*2:a-b 4:a-b 3:b-c 4:a-b", []int{2, 36}, 3)
	told(t, "33*3:a-b 33*4:a-b 33*5:a-b", nil, 0)
}

// upper is tables of a level, one more than its Cap, of which the keys from f to k go down.
func upper(level int) string {
	return []string{"0:g-h 0:f-g 0:i-i 0:j-k 0:h-i", "1:f-k 8*1:x-y", "2:f-k 32*2:x-y"}[level]
}

// O2: which tables of the next level overlap the range from f to k, one at a time and all at once.
func TestWhichOverlap(t *testing.T) {
	lower := []struct {
		ends string
		is   bool
	}{
		{"a-b", false}, {"a-e", false}, {"e-e", false}, {"a-e\xff", false}, {"e\xff\xff-e\xff\xff", false},
		{"a-f", true}, {"f-f", true}, {"a-f\x00", true}, {"f\x00-f\x01", true}, {"e\xff-f", true},
		{"f-g", true}, {"f-k", true}, {"f-k\x00", true}, {"e-k", true}, {"e-l", true}, {"a-z", true}, {"-\xff", true}, {"\x00-\xff\xff", true},
		{"g-j", true}, {"h-h", true}, {"f\x00-j\xff", true}, {"i-k", true}, {"h-z", true},
		{"k-k", true}, {"k-z", true}, {"j\xff-k", true}, {"j\xff-k\x00", true}, {"k-k\x00", true},
		{"k\x00-k\x00", false}, {"k\x00-z", false}, {"ka-kb", false}, {"l-l", false}, {"l-z", false}, {"k\xff-l", false}, {"\xff-\xff", false},
		{"-", false}, {"-e", false}, {"-f", true}, {"F-K", false}, {"A-Z", false}, {"\x80-\xff", false}, {"ff-fg", true}, {"fa-fb", true}, {"e-ff", true},
	}
	for from := range 3 {
		n := len(tables(upper(from)))
		goes := span(0, n)
		if from > 0 {
			goes = goes[:1]
		}
		all, wanted := upper(from), goes
		for i, c := range lower {
			want := goes
			if c.is {
				want = append(slices.Clone(goes), n)
				wanted = append(slices.Clone(wanted), n+i)
			}
			told(t, fmt.Sprintf("%s %d:%s", upper(from), from+1, c.ends), want, from+1)
			all += fmt.Sprintf(" %d:%s", from+1, c.ends)
		}
		if from == 1 {
			// So many are more than the next level's Cap, which does not matter as long as the level above is full.
			all += strings.Repeat(" 2:a-b", 40)
		}
		told(t, all, wanted, from+1)
	}
}

// O2: the range that goes may be a key alone, or have bytes of any kind.
func TestRangesOfAnyBytes(t *testing.T) {
	for _, c := range []struct {
		goes, lower string
		want        []int
	}{
		{"1:c-c", "2:a-b 2:a-c 2:c-c 2:c-d 2:c\x00-d 2:a-z 2:b-b\xff", []int{0, 10, 11, 12, 14}},
		{"1:-", "2:- 2:-a 2:\x00-a 2:a-b", []int{0, 9, 10}},
		{"1:\x7f-\x80", "2:\x00-\x7f 2:\x7f-\x80 2:\x80-\xff 2:\x80\x00-\xff 2:\x81-\xff 2:a-~ 2:a-\x7e\xff", []int{0, 9, 10, 11}},
		{"1:a-\xff", "2:\xff-\xff 2:\xff\x00-\xff\xff 2:\xfe-\xfe 2:Z-a", []int{0, 9, 11, 12}},
		{"1:a-ab", "2:a-a 2:aa-aa 2:ab-ab 2:ab\x00-b 2:abc-b 2:ac-b 2:A-Z 2:a\x00-aa", []int{0, 9, 10, 11, 16}},
		{"1:a\x00b-a\x00d", "2:a-a 2:a\x00-a\x00a 2:a\x00c-a\x00c 2:a\x00-b 2:a\x00e-b", []int{0, 11, 12}},
	} {
		told(t, c.goes+" 8*1:x-y "+c.lower, c.want, 2)
	}
	long := strings.Repeat("k", 128)
	told(t, fmt.Sprintf("1:%s-%sl 8*1:x-y 2:a-%s 2:%s-z 2:a-%s 2:%sm-z", long, long, long, long, long[1:], long), []int{0, 9, 10}, 2)
}

// O2: tables that may not be, of which the first key is above the last, are asked like all others.
func TestTurnedRanges(t *testing.T) {
	told(t, "1:d-b 8*1:x-y 2:a-z 2:c-c 2:b-d 2:e-a 2:c-a 2:a-b 2:d-e 2:d-d", []int{0, 9, 11}, 2)
	told(t, "1:b-d 8*1:x-y 2:d-b 2:e-a 2:d-a 2:c-c 2:d-d 2:e-b", []int{0, 9, 12, 13}, 2)
	told(t, "0:d-b 0:e-c 3*0:f-a 1:c-c 1:d-c 1:c-d 1:a-d 1:a-e", []int{0, 1, 2, 3, 4, 7, 8, 9}, 1)
	l := []string{"a", "b", "c", "d"}
	// Each range from one of four keys to another, turned or not, beside each other one.
	for i := range 256 {
		goes, lower := l[i%4]+"-"+l[i/4%4], l[i/16%4]+"-"+l[i/64]
		for from := range 3 {
			held(t, tables(fmt.Sprintf("%s:%s %s %d:%s", strconv.Itoa(from), goes, upper(from), from+1, lower)))
			held(t, tables(fmt.Sprintf("5*0:%s 9*1:%s 33*2:%s 3:%s", goes, lower, goes, lower)))
		}
	}
}

// orders are all orders of n things.
func orders(n int) [][]int {
	if n == 0 {
		return [][]int{nil}
	}
	var all [][]int
	for _, o := range orders(n - 1) {
		for at := range n {
			all = append(all, slices.Insert(slices.Clone(o), at, n-1))
		}
	}
	return all
}

// O2: of the level 0 the least First and the greatest Last count, of whichever tables, in whatever order these stand; what lies between them is picked, though it overlaps none of them.
func TestRangeOfLevelZero(t *testing.T) {
	lower := "1:a-c 1:c-d 1:d-d 1:e\x00-f 1:g-g 1:i-i 1:j-k 1:k-k 1:k\x00-l 1:l-m 1:a-z 1:a-c\xff"
	want := append(span(0, 5), 6, 7, 8, 9, 10, 11, 12, 15)
	for _, l := range [][]string{
		{"0:f-f", "0:d-e", "0:j-k", "0:g-g", "0:h-h"},
		{"0:d-k", "0:e-f", "0:e-j", "0:f-g", "0:j-k"},
		{"0:d-d", "0:k-k", "0:k-k", "0:d-d", "0:d-d"},
		{"0:d-i", "0:e-j", "0:f-k", "0:d-e", "0:j-k"},
		{"0:d-k", "0:d-k", "0:d-k", "0:d-k", "0:d-k"},
		{"0:j-k", "0:h-i", "0:f-g", "0:e-e", "0:d-d"},
	} {
		for _, o := range orders(5) {
			var s []string
			for _, i := range o {
				s = append(s, l[i])
			}
			told(t, strings.Join(s, " ")+" "+lower, want, 1)
		}
	}
}

// O2: of the levels 1 and 2 the first table of the list goes, whatever its keys are; none of the others matters.
func TestFirstByPlace(t *testing.T) {
	told(t, "1:x-y 8*1:a-b 2:a-b 2:y-z", []int{0, 10}, 2)
	told(t, "1:a-b 8*1:x-y 2:a-b 2:y-z", []int{0, 9}, 2)
	told(t, "1:m-n 4*1:a-b 4*1:x-y 2:a-b 2:n-o 2:y-z", []int{0, 10}, 2)
	told(t, "2:x-y 32*2:a-b 3:a-b 3:y-z", []int{0, 34}, 3)
	told(t, "2:a-b 32*2:x-y 3:a-b 3:y-z", []int{0, 33}, 3)
	for level, n := range map[int]int{1: 9, 2: 33} {
		for first := range n {
			var l []api.Table
			for i := range n {
				key := string([]byte{byte('0' + (first+i)%n)})
				l = append(l, api.Table{Level: level, Count: 1 + i, First: key, Last: key})
			}
			for i := range n {
				key := string([]byte{byte('0' + i)})
				l = append(l, api.Table{Level: level + 1, Count: 1 + i, First: key, Last: key})
			}
			tells(t, l, []int{0, n + first}, level+1)
			held(t, l)
		}
	}
}

// O2: places rise, in whatever order the tables stand.
func TestPlacesRise(t *testing.T) {
	told(t, "2:a-b 9*1:a-b", []int{0, 1}, 2)
	told(t, "2:a-b 2:c-d 1:b-c 8*1:a-b 2:b-b", []int{0, 1, 2, 11}, 2)
	told(t, "3:a-b 33*2:a-b 3:a-b", []int{0, 1, 34}, 3)
	told(t, "1:a-b 5*0:a-b", span(0, 6), 1)
	told(t, "1:c-d 0:a-b 1:b-b 0:a-b 1:x-z 0:a-b 1:a-a 0:a-b 1:a-z 0:a-b", []int{1, 2, 3, 5, 6, 7, 8, 9}, 1)
	told(t, "3:a-z 2:a-z 1:a-z 3:a-z 5*0:m-m 2:a-z 1:n-n 1:m-n", []int{2, 4, 5, 6, 7, 8, 11}, 1)
	told(t, "0:a-b 1:a-b 0:a-b 1:a-b 0:a-b 1:a-b 0:a-b 1:a-b 4*1:x-y", nil, 0)
	told(t, "2:b-c 0:a-b 1:a-b 0:a-b 1:c-d 0:a-b 1:a-b 0:a-b 2:a-a 1:a-b 5*1:x-y 2:c-d", []int{0, 2, 8}, 2)
	told(t, "8*0:a-b 1:a-b 5*2:x-y", span(0, 9), 1)
}

// drawn is a list by chance, in order or not, of few or of many tables of each level, and of such levels as there are not.
func drawn(next func(n int) int) []api.Table {
	most := []int{0, 4, 5, 8, 9, 32, 33, 40}
	wide := 1 + next(30)
	var l []api.Table
	for level := -1; level <= 4; level++ {
		n := most[next(len(most))]
		for range n + next(3) - min(n, 1) {
			x := one(fmt.Sprintf("%d:%c-%c#%d", level, 'A'+next(wide), 'A'+next(wide), 1+next(64)), len(l))
			if next(20) > 0 {
				x.First, x.Last = min(x.First, x.Last), max(x.First, x.Last)
			}
			l = append(l, x)
		}
	}
	return l
}

// O2: lists by chance, in order, and then in any other.
func TestPickDrawn(t *testing.T) {
	r := rand.New(rand.NewPCG(15, 2))
	times := map[int]int{}
	for range 20000 {
		l := drawn(r.IntN)
		for range 3 {
			held(t, l)
			_, to, _ := Pick(l)
			times[to]++
			r.Shuffle(len(l), func(i, j int) { l[i], l[j] = l[j], l[i] })
		}
	}
	for to := range 4 {
		if times[to] < 1000 {
			t.Errorf("to %d only %d times", to, times[to])
		}
	}
}

// O2: which tables are of the level 0, and which of the level 1 overlap them, does not hang on their order.
func TestOrderOfLevelZero(t *testing.T) {
	r := rand.New(rand.NewPCG(15, 3))
	roots := func(l []api.Table, at []int) []api.Digest {
		var d []api.Digest
		for _, i := range at {
			d = append(d, l[i].Root)
		}
		slices.SortFunc(d, func(a, b api.Digest) int { return slices.Compare(a[:], b[:]) })
		return d
	}
	for range 2000 {
		l := append(tables("0:m-m 0:l-m 3*0:m-n"), drawn(r.IntN)...)
		for i := range l {
			l[i].Root = api.Digest{byte(i), byte(i >> 8)}
		}
		at, _, _ := Pick(l)
		want := roots(l, at)
		r.Shuffle(len(l), func(i, j int) { l[i], l[j] = l[j], l[i] })
		at, to, is := Pick(l)
		if to != 1 || !is || !slices.Equal(roots(l, at), want) {
			t.Fatalf("%s: %v, %d, %v", brief(l), at, to, is)
		}
	}
}

// O2: counts and roots do not matter.
func TestCountsDoNotMatter(t *testing.T) {
	r := rand.New(rand.NewPCG(15, 4))
	for range 2000 {
		l := drawn(r.IntN)
		want, to, _ := Pick(l)
		for i := range l {
			l[i].Count = []int{math.MinInt, -1, 0, 64, 65, math.MaxInt}[r.IntN(6)]
			l[i].Root = api.Digest{byte(r.IntN(2))}
		}
		tells(t, l, want, to)
	}
}

// R1, R4: what comes out is its owner's: written over, nothing else is another one, and the same call has the same answer.
func TestAnswersAreTheCallers(t *testing.T) {
	for _, s := range []string{"5*0:a-b 1:b-c 1:d-e", "9*1:a-b 2:a-b 2:b-c", "33*2:a-b 3:a-b 3:b-c", "1:a-b 7*0:a-b 1:a-b", "9*1:a-b", "100*1:a-b 100*2:a-b"} {
		l := tables(s)
		want, to, _ := modelPick(l)
		a, _, _ := Pick(l)
		b, _, _ := Pick(l)
		a = a[:cap(a)]
		for i := range a {
			a[i] = -7
		}
		_ = append(a, 1, 2, 3)
		if !slices.Equal(b, want) || !slices.Equal(l, tables(s)) {
			t.Errorf("%s: %v behind writing over another answer", s, b)
		}
		tells(t, l, want, to)
		c, _, _ := Pick(l)
		for i := range l {
			l[i] = one("3:q-q", 0)
		}
		if !slices.Equal(c, want) {
			t.Errorf("%s: %v behind writing over what was handed in", s, c)
		}
		tells(t, l, nil, 0)
	}
}

// O1, O2: very long lists.
func TestVeryMany(t *testing.T) {
	const n = 1000000
	l := make([]api.Table, n)
	for i := range l {
		key := fmt.Sprintf("%07d", i)
		l[i] = api.Table{Count: 1, First: key, Last: key}
	}
	tells(t, l, span(0, n), 1)
	if s := Score(l); s != 3*n {
		t.Errorf("%d", s)
	}
	for level := 1; level <= 3; level++ {
		for i := range l {
			l[i].Level = level
		}
		switch level {
		case 3:
			tells(t, l, nil, 0)
		default:
			tells(t, l, []int{0}, level+1)
		}
		if s := Score(l); s != (3-level)*n {
			t.Errorf("%d", s)
		}
	}
	for i := range l {
		l[i].Level = 1
		if i >= n/2 {
			l[i].Level = 2
		}
	}
	l[0].Last = l[n-1].Last
	tells(t, l, append([]int{0}, span(n/2, n)...), 2)
}

// R2: no call panics, and each answer is the model's, whatever the tables are.
func FuzzPick(f *testing.F) {
	f.Add("5*0:a-b 1:b-c 1:d-e")
	f.Add("9*1:a-b#10 2:b-c#5 2:d-e -1:a-z 4:a-z")
	f.Add("3:a-b 33*2:c-d 3:\xff-\x00 3:-")
	f.Add("4*0:a-b 8*1:a-b 32*2:a-b 1000*3:a-b")
	f.Fuzz(func(t *testing.T, s string) {
		l := tables(s[:min(len(s), 2000)])
		heldScore(t, l)
		held(t, l)
		slices.Reverse(l)
		held(t, l)
		for i := range l {
			if n := Cap(l[i].Level); n != modelCap(l[i].Level) {
				t.Fatalf("Cap of %d: %d", l[i].Level, n)
			}
		}
	})
}
