package merge

import (
	"fmt"
	"math"
	"math/rand/v2"
	"slices"
	"strings"
	"testing"

	"marlstone/api"
)

func long(n int) string { return strings.Repeat("k", n) }

// e is an entry out of a short text: the key, and behind ":" the value; without ":" it is a Del.
func e(s string) api.Entry {
	key, value, put := strings.Cut(s, ":")
	return api.Entry{Key: key, Value: value, Del: !put, Seq: 1}
}

// list is of such texts, with blanks between them.
func list(s string) []api.Entry {
	var l []api.Entry
	for _, x := range strings.Fields(s) {
		l = append(l, e(x))
	}
	return l
}

// lists are such lists, the newest first, with bars between them.
func lists(s string) [][]api.Entry {
	var all [][]api.Entry
	for _, x := range strings.Split(s, "|") {
		all = append(all, list(x))
	}
	return all
}

// copied is a deep copy.
func copied(all [][]api.Entry) [][]api.Entry {
	c := slices.Clone(all)
	for i := range c {
		c[i] = slices.Clone(c[i])
	}
	return c
}

// tells holds Merge of all against what is wanted, and that all stay as they were.
func tells(t *testing.T, all [][]api.Entry, bottom bool, want []api.Entry) {
	t.Helper()
	ahead := toldAll(all)
	got := Merge(all, bottom)
	if told(got) != told(want) {
		t.Fatalf("Merge of%.900s, %v:\n%.900s\nnot\n%.900s", ahead, bottom, told(got), told(want))
	}
	if toldAll(all) != ahead {
		t.Fatalf("Merge of%.900s, %v: they are%.900s now", ahead, bottom, toldAll(all))
	}
}

// held holds Merge of all against the model, with bottom and without.
func held(t *testing.T, all [][]api.Entry) {
	t.Helper()
	for _, bottom := range []bool{false, true} {
		tells(t, all, bottom, modelMerge(all, bottom))
	}
}

// M1: the chapter's example.
func TestMergeExample(t *testing.T) {
	all := lists("b:2 | a:1 b:1 c")
	tells(t, all, false, list("a:1 b:2 c"))
	tells(t, all, true, list("a:1 b:2"))
}

// M1: of what has no heads nothing is merged.
func TestMergeOfNothing(t *testing.T) {
	for _, all := range [][][]api.Entry{nil, {}, {nil}, {{}}, {nil, {}, nil}, make([][]api.Entry, 1000)} {
		tells(t, all, false, nil)
		tells(t, all, true, nil)
	}
}

// M1: one list is told as it is, whatever its keys are; with bottom without Dels. Empty ones beside it do not matter.
func TestMergeOfOne(t *testing.T) {
	for _, x := range []struct{ all, bottom string }{
		{"a:1", "a:1"},
		{"a", ""},
		{"a b c", ""},
		{"a:1 b c:3", "a:1 c:3"},
		{"a b:2 c", "b:2"},
		{"c:1 b:2 a:3", "c:1 b:2 a:3"},
		{"c:1 b a:3", "c:1 a:3"},
		{"a:1 a:2 a:3", "a:1 a:2 a:3"},
		{"a:1 a a:3 a", "a:1 a:3"},
		{"a:1 b:2 a:3 b:4", "a:1 b:2 a:3 b:4"},
	} {
		for _, all := range []string{x.all, "|" + x.all, x.all + "|", "||" + x.all + "||"} {
			tells(t, lists(all), false, list(x.all))
			tells(t, lists(all), true, list(x.bottom))
		}
	}
}

// M1: which lists have the key, and which of them with Del, in all ways, with one to six lists: the first one's is told.
func TestMergeOfOneKey(t *testing.T) {
	const none, put, del = 0, 1, 2
	for n := 1; n <= 6; n++ {
		ways := int(math.Pow(3, float64(n)))
		for way := range ways {
			var all [][]api.Entry
			var want, bottom []api.Entry
			for i, rest := 0, way; i < n; i, rest = i+1, rest/3 {
				x := api.Entry{Key: "k", Seq: i + 1}
				switch rest % 3 {
				case none:
					all = append(all, nil)
					continue
				case put:
					x.Value = fmt.Sprint("v", i)
				case del:
					x.Del = true
				}
				all = append(all, []api.Entry{x})
				if want == nil {
					want = []api.Entry{x}
					if !x.Del {
						bottom = want
					}
				}
			}
			tells(t, all, false, want)
			tells(t, all, true, bottom)
		}
	}
}

// M1: several lists have one key, the newest first and the newest last, a Del in any of them, with others around.
func TestMergeOfLikeKeys(t *testing.T) {
	for _, x := range []struct{ all, want, bottom string }{
		{"a:1 | a:2 | a:3", "a:1", "a:1"},
		{"a:3 | a:2 | a:1", "a:3", "a:3"},
		{"a | a:2 | a:3", "a", ""},
		{"a:1 | a | a:3", "a:1", "a:1"},
		{"a:1 | a:2 | a", "a:1", "a:1"},
		{"a | a | a", "a", ""},
		{"| a:2 | a:3", "a:2", "a:2"},
		{"b:1 | a:2 | a:3", "a:2 b:1", "a:2 b:1"},
		{"a:1 | a b:2 | b c:3 | c d:4", "a:1 b:2 c:3 d:4", "a:1 b:2 c:3 d:4"},
		{"a b c | a:1 b:1 c:1", "a b c", ""},
		{"a:1 c:1 e:1 | b:2 c:2 d:2 | a:3 b:3 c:3 d:3 e:3 f:3", "a:1 b:2 c:1 d:2 e:1 f:3", "a:1 b:2 c:1 d:2 e:1 f:3"},
		{"a c e | b:2 c:2 d | a:3 b:3 c:3 d:3 e:3 f:3", "a b:2 c d e f:3", "b:2 f:3"},
		{"z:1 | a:2 z:2", "a:2 z:1", "a:2 z:1"},
		{"a:1 z:1 | z:2", "a:1 z:1", "a:1 z:1"},
		{"b:1 | | a:2 b:2 | | b:3 c:3 |", "a:2 b:1 c:3", "a:2 b:1 c:3"},
	} {
		tells(t, lists(x.all), false, list(x.want))
		tells(t, lists(x.all), true, list(x.bottom))
	}
}

// M1: lists whose keys do not rise, or that have one key more than once: by heads, and one of each list is passed at a time.
func TestMergeByHeads(t *testing.T) {
	for _, x := range []struct{ all, want, bottom string }{
		{"a:1 a:2 | a:3", "a:1 a:2", "a:1 a:2"},
		{"a:1 | a:2 a:3", "a:1 a:3", "a:1 a:3"},
		{"a:1 | a:2 a:3 | a:4 a:5 a:6", "a:1 a:3 a:6", "a:1 a:3 a:6"},
		{"a:1 a:2 a:3 | a:4 a:5 | a:6", "a:1 a:2 a:3", "a:1 a:2 a:3"},
		{"a a:2 | a:3 a:4 a:5", "a a:2 a:5", "a:2 a:5"},
		{"a | a:2 a | a:3 a:4 a:5", "a a a:5", "a:5"},
		{"b:1 a:2 | b:3 c:4", "b:1 a:2 c:4", "b:1 a:2 c:4"},
		{"b:1 a:2 | a:3 b:4", "a:3 b:1 a:2", "a:3 b:1 a:2"},
		{"a:1 b:2 | b:3 a:4", "a:1 b:2 a:4", "a:1 b:2 a:4"},
		{"c:1 b:2 a:3 | c:4 b:5 a:6", "c:1 b:2 a:3", "c:1 b:2 a:3"},
		{"c:1 a:2 | b:3", "b:3 c:1 a:2", "b:3 c:1 a:2"},
		{"b a:2 | a b:4", "a b a:2", "a:2"},
		{"c:1 a:2 c:3 | b:4 c:5 a:6", "b:4 c:1 a:2 c:3", "b:4 c:1 a:2 c:3"},
		{"a:1 c:2 b:3 c:4 | b:5 c:6 c:7", "a:1 b:5 c:2 b:3 c:4", "a:1 b:5 c:2 b:3 c:4"},
	} {
		tells(t, lists(x.all), false, list(x.want))
		tells(t, lists(x.all), true, list(x.bottom))
	}
}

// wrong are entries that are not right (3), each with a key of its own.
func wrong() []api.Entry {
	return []api.Entry{
		{},
		{Key: "a", Seq: 0},
		{Key: "b", Value: "v", Seq: -1},
		{Key: "c", Value: "v", Seq: math.MinInt},
		{Key: "d", Value: "v", Seq: math.MaxInt},
		{Key: "e", Value: "v", Seq: api.MaxSeq + 1},
		{Key: "f", Value: "v", Del: true, Seq: 1},
		{Key: "g", Del: true, Seq: 0},
		{Key: "h", Value: long(1025), Seq: 1},
		{Key: long(129), Value: "v", Seq: 1},
		{Key: long(130), Del: true, Seq: 1},
		{Key: long(100000), Value: long(100000), Seq: 1},
		{Key: "\xff", Seq: -5},
	}
}

// M1: entries that are not right are merged as any others.
func TestMergeOfWhatIsNotRight(t *testing.T) {
	l := wrong()
	var kept []api.Entry
	for _, x := range l {
		if !x.Del {
			kept = append(kept, x)
		}
	}
	var other []api.Entry
	for _, x := range l {
		other = append(other, api.Entry{Key: x.Key, Value: "right", Seq: 7})
	}
	for _, all := range [][][]api.Entry{{l}, {l, other}, {l, other, l}, {nil, l, nil}, {l[:5], l[5:], other}, {l[5:], l[:5], other}} {
		tells(t, all, false, l)
		tells(t, all, true, kept)
	}
	tells(t, [][]api.Entry{other, l}, true, other)
	// One by one, whatever list each is in.
	var each [][]api.Entry
	for _, x := range l {
		each = append(each, []api.Entry{x})
	}
	slices.Reverse(each)
	tells(t, each, false, l)
	tells(t, each, true, kept)
}

// M1: the empty key is the least one, and a key like any other.
func TestMergeOfTheEmptyKey(t *testing.T) {
	tells(t, lists("a:1 | :2 b:2 | :3"), false, list(":2 a:1 b:2"))
	empty := api.Entry{Del: true}
	tells(t, [][]api.Entry{list("a:1"), {empty}, list(":3")}, false, append([]api.Entry{empty}, list("a:1")...))
	tells(t, [][]api.Entry{list("a:1"), {empty}, list(":3")}, true, list("a:1"))
}

// M1: which list is newer is told by its place alone, not by Seq, not by the value.
func TestMergeDoesNotAskSeq(t *testing.T) {
	for _, older := range []int{-3, 0, 1, 5, 6, api.MaxSeq, math.MaxInt} {
		a := api.Entry{Key: "k", Value: "m", Seq: 5}
		for _, value := range []string{"", "a", "m", "z"} {
			b := api.Entry{Key: "k", Value: value, Seq: older}
			tells(t, [][]api.Entry{{a}, {b}}, true, []api.Entry{a})
			tells(t, [][]api.Entry{{b}, {a}}, true, []api.Entry{b})
			tells(t, [][]api.Entry{{a, b}}, true, []api.Entry{a, b})
		}
	}
}

// risingKeys are texts that are near each other, byte by byte; a beginning of a text is less.
func risingKeys() []string {
	return []string{"", "\x00", "\x00\x00", "\x00\xff", "\x01", "A", "Z", "a", "a\x00", "aa", "ab", "b", "k", long(127), long(128), long(129), "z", "\x7f", "\x80", "ä", "世", "\xfe", "\xff", "\xff\x00", "\xff\xff"}
}

// M1: keys are held against each other byte by byte.
func TestMergeComparesBytes(t *testing.T) {
	keys := risingKeys()
	for i, x := range keys {
		for j, y := range keys {
			a, b := api.Entry{Key: x, Value: "a", Seq: 1}, api.Entry{Key: y, Value: "b", Seq: 2}
			want := []api.Entry{a, b}
			switch {
			case i > j:
				want = []api.Entry{b, a}
			case i == j:
				want = []api.Entry{a}
			}
			tells(t, [][]api.Entry{{a}, {b}}, false, want)
		}
	}
	var all [][]api.Entry
	var want []api.Entry
	for i, key := range keys {
		x := api.Entry{Key: key, Seq: i}
		want = append(want, x)
		all = append([][]api.Entry{{x}}, all...)
	}
	tells(t, all, false, want)
}

// shortLists are all lists of up to length of these entries.
func shortLists(length int, entries ...api.Entry) [][]api.Entry {
	all := [][]api.Entry{nil}
	for from := 0; length > 0; length-- {
		to := len(all)
		for _, l := range all[from:to] {
			for _, x := range entries {
				all = append(all, append(slices.Clone(l), x))
			}
		}
		from = to
	}
	return all
}

// marked is all, each entry with a Seq that tells where it stands, so that no two are alike.
func marked(all ...[]api.Entry) [][]api.Entry {
	c := copied(all)
	for i := range c {
		for j := range c[i] {
			c[i][j].Seq = 100*(i+1) + j
		}
	}
	return c
}

// M1: all lists of up to four entries, two at a time; and of up to two entries, three at a time.
func TestMergeOfAllShortLists(t *testing.T) {
	four := shortLists(4, e("a:"), e("b:"), e("c:"))
	for _, x := range four {
		for _, y := range four {
			all := marked(x, y)
			tells(t, all, false, modelMerge(all, false))
		}
	}
	two := shortLists(2, e("a:"), e("a"), e("b:"), e("b"))
	for _, x := range two {
		for _, y := range two {
			for _, z := range two {
				held(t, marked(x, y, z))
			}
		}
	}
}

// shapes is how lists are drawn.
type shapes struct {
	lists, length, keys int
	rising              bool
}

// drawn are lists by chance, the entries all unlike.
func drawn(s shapes, next func(n int) int) [][]api.Entry {
	all := make([][]api.Entry, next(s.lists+1))
	for i := range all {
		for range next(s.length + 1) {
			x := api.Entry{Key: fmt.Sprint("k", next(s.keys)), Value: "v", Seq: next(9)}
			if next(3) == 0 {
				x.Del, x.Value = true, ""
			}
			all[i] = append(all[i], x)
		}
		if s.rising {
			all[i] = modelNewest([][]api.Entry{all[i]}, false)
		}
	}
	return marked(all...)
}

// many are shapes of which each is drawn some times.
func many(rising bool) []shapes {
	return []shapes{
		{1, 200, 20, rising},
		{2, 90, 5, rising},
		{3, 64, 90, rising},
		{5, 10, 2, rising},
		{7, 64, 200, rising},
		{16, 20, 1, rising},
		{33, 9, 12, rising},
		{100, 4, 40, rising},
		{300, 1, 30, rising},
	}
}

// each calls held with lists of all shapes, drawn some times.
func each(rising bool, times int, held func(all [][]api.Entry, next func(n int) int)) {
	for i, s := range many(rising) {
		r := rand.New(rand.NewPCG(13, uint64(i)))
		for range times {
			held(drawn(s, r.IntN), r.IntN)
		}
	}
}

// M1: lists by chance, in any order, against the model.
func TestMergeOfManyLists(t *testing.T) {
	each(false, 60, func(all [][]api.Entry, _ func(n int) int) { held(t, all) })
}

// M1: of lists whose keys rise: of each key the newest entry, by rising keys.
func TestMergeOfRisingLists(t *testing.T) {
	each(true, 60, func(all [][]api.Entry, _ func(n int) int) {
		for _, bottom := range []bool{false, true} {
			tells(t, all, bottom, modelNewest(all, bottom))
			l := Merge(all, bottom)
			for i := 1; i < len(l); i++ {
				if l[i-1].Key >= l[i].Key {
					t.Fatalf("%q is ahead of %q", l[i-1].Key, l[i].Key)
				}
			}
		}
	})
}

// inTwo holds that some lists, neighbours, merged ahead and laid into their place, come to what all come to.
func inTwo(t *testing.T, all [][]api.Entry, from, to int) {
	t.Helper()
	some := slices.Concat(all[:from], [][]api.Entry{Merge(all[from:to], false)}, all[to:])
	for _, bottom := range []bool{false, true} {
		tells(t, some, bottom, Merge(all, bottom))
	}
}

// M1: what is merged of some, and then with others, is what is merged of all, if no Del is left out in between.
func TestMergeInTwo(t *testing.T) {
	two := shortLists(2, e("a:"), e("a"), e("b:"))
	for _, x := range two {
		for _, y := range two {
			for _, z := range two {
				all := marked(x, y, z)
				inTwo(t, all, 0, 2)
				inTwo(t, all, 1, 3)
				inTwo(t, all, 0, 3)
				inTwo(t, all, 1, 1)
			}
		}
	}
	for _, rising := range []bool{false, true} {
		each(rising, 30, func(all [][]api.Entry, next func(n int) int) {
			from := next(len(all) + 1)
			inTwo(t, all, from, from+next(len(all)-from+1))
			inTwo(t, all, 0, from)
			inTwo(t, all, from, len(all))
		})
	}
}

// M1: a Del that is left out in between lets an older entry be seen: so it is taken where bottom is false, though nothing is below it.
func TestMergeWithADelLeftOut(t *testing.T) {
	all := lists("a | a:1 | a:2")
	tells(t, [][]api.Entry{Merge(all[:2], true), all[2]}, true, list("a:2"))
	tells(t, [][]api.Entry{Merge(all[:2], false), all[2]}, true, nil)
	tells(t, lists("a b"), false, list("a b"))
}

// numbered is n entries with rising keys.
func numbered(n int) []api.Entry {
	l := make([]api.Entry, n)
	for i := range l {
		l[i] = api.Entry{Key: fmt.Sprintf("%07d", i), Value: "v", Seq: i + 1}
	}
	return l
}

// M1: very many lists, and very long ones.
func TestMergeOfVeryMany(t *testing.T) {
	l := numbered(200000)
	var ones, like, gone [][]api.Entry
	for i := range l {
		ones = append(ones, l[len(l)-1-i:len(l)-i])
		like = append(like, []api.Entry{{Key: "k", Seq: i}})
		gone = append(gone, []api.Entry{{Key: l[i].Key, Del: true}})
	}
	for _, x := range []struct {
		all  [][]api.Entry
		want []api.Entry
	}{
		{ones, l},
		{like, like[0]},
		{gone, nil},
		{[][]api.Entry{l, l, l}, l},
		{[][]api.Entry{l[100000:], l[:100000]}, l},
		{[][]api.Entry{l[:100000], l[50000:]}, l},
	} {
		if got := Merge(x.all, true); !slices.Equal(got, x.want) {
			t.Errorf("%d entries, not %d, or others", len(got), len(x.want))
		}
	}
}

// R1: neither what is merged nor the lists that are handed in know of each other behind the call.
func TestMergeSharesNothing(t *testing.T) {
	for _, s := range []string{"a:1", "a:1 b:2 c:3", "a:1 b:2 | c:3 d:4", "c:3 d:4 | a:1 b:2", "a:1 | a:2 b:3 | c", "b:2 a:1 a:3", "| a:1 b:2 |"} {
		for _, bottom := range []bool{false, true} {
			all := lists(s)
			want := modelMerge(lists(s), bottom)
			got := Merge(all, bottom)
			for i := range all {
				for j := range all[i] {
					all[i][j] = e("other:")
				}
				all[i] = nil
			}
			if told(got) != told(want) {
				t.Errorf("%s: %s behind writing over what was handed in", s, told(got))
			}
			all = lists(s)
			got = Merge(all, bottom)
			for i := range got {
				got[i] = e("other:")
			}
			_ = append(got[:0:cap(got)], list("x y z x y z x y z")...)
			if toldAll(all) != toldAll(lists(s)) {
				t.Errorf("%s: %s behind writing over the answer", s, toldAll(all))
			}
			tells(t, all, bottom, want)
		}
	}
}

// R1: what stands behind the lists, in the same memory, stays as it was.
func TestMergeLeavesTheRoom(t *testing.T) {
	room := numbered(40)
	all := [][]api.Entry{room[0:5], room[20:25], room[10:15], room[30:30], room[3:8]}
	outer := append(all, numbered(1))
	Merge(outer[:5], false)
	Merge(outer[:5], true)
	if told(room) != told(numbered(40)) || toldAll(outer[5:]) != toldAll([][]api.Entry{numbered(1)}) {
		t.Errorf("%s; %s", told(room), toldAll(outer))
	}
}

// R4: the same calls have the same answers.
func TestAgain(t *testing.T) {
	each(false, 10, func(all [][]api.Entry, _ func(n int) int) {
		a := Merge(all, false)
		for range 3 {
			tells(t, copied(all), false, a)
			if x, y := toldAll(Split(a)), toldAll(Split(slices.Clone(a))); x != y {
				t.Fatalf("%.600s, not %.600s", x, y)
			}
		}
	})
}

// R2: no call panics, and each answer is the model's, whatever is merged and split.
func FuzzMerge(f *testing.F) {
	f.Add("", 1)
	f.Add("b:2|a:1 b:1 c", 3)
	f.Add("a a a|a a|a|||b:1 a:2|c b a", 65)
	f.Add("\xff:\x00|\x00|:|k:v k", 200)
	f.Fuzz(func(t *testing.T, s string, times int) {
		all := marked(lists(s)...)
		held(t, all)
		if len(all) > 2 {
			inTwo(t, all, 1, len(all)-1)
		}
		l := slices.Concat(all...)
		for len(l) > 0 && len(l) < times%1000 {
			l = append(l, l...)
		}
		heldSplit(t, l)
	})
}
