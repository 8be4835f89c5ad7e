package proof

import (
	"bytes"
	"fmt"
	"slices"
	"strings"
	"testing"

	"marlstone/api"
	"marlstone/tree"
)

// Sums that were reckoned elsewhere: of the leaves of the store written below, of the node above a and b, of both roots, and of the summary's text.
const (
	sumNewB    = "f37ebde8507f750428b3bd3799c76a9fb9a27fe3319dfe71a0214ff6b8c351c5"
	sumNewD    = "026a1decdb5ebde1c440931c18c93b62a0956ac2f2d7f37caea56e50c3cd866f"
	sumA       = "d8f38aff651beb30c1f734f7718c2a6bc15e91e366548d81d29b9dfaa492a76a"
	sumB       = "225b760f9cc9196a07fd82ff98c0ba4c15f9889f99f3ab7ac2579242861678d8"
	sumD       = "67ae3c5fa65bf79b0cff33678789978ebeee688b5f48986dbd6a15006dcdc1b9"
	sumAB      = "a87294f37fbf9fcbb8423aaa1eb2afbcc1a9b0b91eb7f5d1f3d55ad846600dc7"
	rootNew    = "7c12f742e3b969ae769885abc945253c0ffb531146ecf32431db1216caf0ebfa"
	rootOld    = "c8ff31b3295780fc2a4a98b4a7918a82e67387f7abb8c6d46eec36df160d03c9"
	sumBoth    = "d72c99aaa63ea4c159d491f9dc5d568b1d447581ac9b33db4552e3dddbb6afb0"
	sumNothing = "9b4fb24edd6d1d8830e272398263cdbf026b97392cc35387b991dc0248a628f9"
)

// whole keeps all bits: no two unlike texts of a test have one sum there.
var whole = tree.Tree{Bits: 256}

// written is a store of two tables, and its summary, written out.
func written() (store, []byte) {
	s := store{
		w: whole,
		l: []api.Table{{Level: 0, Count: 2, Root: digest(rootNew), First: "b", Last: "d"}, {Level: 1, Count: 3, Root: digest(rootOld), First: "a", Last: "d"}},
		rows: [][]api.Entry{
			{{Key: "b", Del: true, Seq: 5}, {Key: "d", Value: "new", Seq: 6}},
			{{Key: "a", Value: "1", Seq: 1}, {Key: "b", Value: "2", Seq: 2}, {Key: "d", Value: "4", Seq: 3}},
		},
	}
	one, two := digest(rootNew), digest(rootOld)
	return s, []byte("\x02" + "\x00\x02" + string(one[:]) + "\x01b\x01d" + "\x01\x03" + string(two[:]) + "\x01a\x01d")
}

func opening(at int, leaf string, path ...string) api.Opening {
	o := api.Opening{At: at, Leaf: []byte(leaf)}
	for _, s := range path {
		o.Path = append(o.Path, digest(s))
	}
	return o
}

// Q2: the chapter's example.
func TestExample(t *testing.T) {
	for _, l := range [][]api.Table{nil, {}} {
		for _, rows := range [][][]api.Entry{nil, {}} {
			for _, key := range []string{"a", "", "\xff", long(500)} {
				p, err := Prove(whole, l, rows, key)
				if err != api.OK || string(p.Summary) != "\x00" || len(p.Points) != 0 {
					t.Errorf("Prove of %.9q: %v, %v", key, p, err)
				}
			}
		}
	}
	p := api.Proof{Summary: []byte{0}}
	for _, key := range []string{"a", "", "\xff", long(500)} {
		if e, is, err := Check(whole, digest(sumNothing), key, p); e != (api.Entry{}) || is || err != api.OK {
			t.Errorf("Check of %.9q: %v, %v, %v", key, e, is, err)
		}
		refused(t, whole, api.Digest{}, key, p, api.ErrDigest, "another digest")
		p := api.Proof{Summary: []byte{0}, Points: []api.Point{{}}}
		refused(t, whole, digest(sumNothing), key, p, api.ErrProof, "a point of no table")
	}
}

// Q2: a store written out: all bytes of its proofs, and what they tell.
func TestWrittenOut(t *testing.T) {
	s, b := written()
	newB, newD := opening(0, "\x01\x05\x01b", sumNewD), opening(1, "\x00\x06\x01d\x03new", sumNewB)
	a, oldB := opening(0, "\x00\x01\x01a\x011", sumB, sumD), opening(1, "\x00\x02\x01b\x012", sumA, sumD)
	oldD := opening(2, "\x00\x03\x01d\x014", sumAB)
	for _, w := range []struct {
		key    string
		points []api.Point
		e      api.Entry
		is     bool
	}{
		{"", nil, api.Entry{}, false},
		{"A", nil, api.Entry{}, false},
		{"a", []api.Point{{A: a}}, s.rows[1][0], true},
		{"aa", []api.Point{{Between: true, A: a, B: oldB}}, api.Entry{}, false},
		{"b", []api.Point{{A: newB}}, api.Entry{}, false},
		{"c", []api.Point{{Between: true, A: newB, B: newD}, {Between: true, A: oldB, B: oldD}}, api.Entry{}, false},
		{"d", []api.Point{{A: newD}}, s.rows[0][1], true},
		{"d\x00", nil, api.Entry{}, false},
		{"z", nil, api.Entry{}, false},
	} {
		want := api.Proof{Summary: b, Points: w.points}
		if p, err := Prove(whole, s.l, s.rows, w.key); err != api.OK || !sameProof(p, want) {
			t.Errorf("Prove of %q: %v, %v", w.key, p, err)
		}
		if e, is, err := Check(whole, digest(sumBoth), w.key, want); e != w.e || is != w.is || err != api.OK {
			t.Errorf("Check of %q: %v, %v, %v", w.key, e, is, err)
		}
	}
	// What the older table has of b and d is proved, but not asked for.
	for key, o := range map[string]api.Opening{"b": oldB, "d": oldD} {
		refused(t, whole, digest(sumBoth), key, api.Proof{Summary: b, Points: []api.Point{{A: o}}}, api.ErrProof, "of the older table")
	}
	for key, p := range map[string][]api.Point{"b": {{A: newB}, {A: oldB}}, "d": {{A: newD}, {A: oldD}}} {
		refused(t, whole, digest(sumBoth), key, api.Proof{Summary: b, Points: p}, api.ErrProof, "of both tables")
	}
}

// Q2: of keys that no table covers, that several do, that the first, a later one or none of them has, and the newest with Del: the points end with the first that is not Between.
func TestPointsEnd(t *testing.T) {
	for _, w := range []struct {
		store, key, between, want string // between: of each point
	}{
		{"0:b=1,d=1", "a", "", ""},
		{"0:b=1,d=1", "e", "", ""},
		{"1:a=1,b=1 1:d=1,e=1", "c", "", ""},
		{"0:b=1,d=1", "c", "+", ""},
		{"0:b=1,d=1", "b", "-", "1"},
		{"0:b=1,d=1", "d", "-", "1"},
		{"0:c=2 0:b=1,d=1", "c", "-", "2"},
		{"0:b=2,d=2 0:c=1", "c", "+-", "1"},
		{"0:c- 0:b=1,c=1,d=1", "c", "-", ""},
		{"0:b=1,d=1 0:c- 0:a=1,c=1,e=1", "c", "+-", ""},
		{"0:b=2,d- 0:b=1,d=1", "d", "-", ""},
		{"0:b=4,d=4 0:a=3,e=3 0:c=2 0:c=1 1:a=0,c=0,e=0", "c", "++-", "2"},
		{"0:b=4,d=4 0:a=3,e=3 1:a=2,b=2,d=2,e=2 2:a=1,e=1 3:c=0", "c", "++++-", "0"},
		{"0:b=4,d=4 0:a=3,e=3 1:a=2,b=2,d=2,e=2 2:a=1,e=1 3:b=0,d=0", "c", "+++++", ""},
		{"0:a=9,z=9 1:a=8,b=8 1:k=8,m=8 2:a=7,y=7", "l", "+++", ""},
		{"0:a=9,z=9 1:a=8,b=8 1:k=8,l-,m=8 2:a=7,l=7,y=7", "l", "+-", ""},
		{"0:a=9,z=9 1:a=8,b=8 1:k=8,m=8 2:a=7,l=7,y=7 3:l=6", "l", "++-", "7"},
		{"0:a- 0:a- 0:a- 1:a=1", "a", "-", ""},
		{"3:a=1", "a", "-", "1"},
		{"3:a-", "a", "-", ""},
	} {
		s := made(256, w.store)
		p := s.proof(t, w.key)
		between := ""
		for _, point := range p.Points {
			between += map[bool]string{true: "+", false: "-"}[point.Between]
		}
		e, is, err := held(t, s.w, s.digest(), w.key, p, w.store)
		if between != w.between || e.Value != w.want || is != (w.want != "") || err != api.OK || is && e.Key != w.key {
			t.Errorf("%s: %s: %s, %v, %v, %v", w.store, w.key, between, e, is, err)
		}
	}
}

// Q2: every key of stores of many kinds, with many numbers of bits.
func TestProveAndCheck(t *testing.T) {
	for _, keep := range keeps {
		for _, s := range stores(keep) {
			for _, key := range s.asked() {
				heldKey(t, s, key)
			}
		}
	}
}

// heldKey holds what is proved and checked of key against the model, and against what the store has.
func heldKey(t *testing.T, s store, key string) {
	t.Helper()
	p, err := Prove(s.w, s.l, s.rows, key)
	if want, wantErr := modelProve(s.w, s.l, s.rows, key); err != wantErr || err != api.OK || !sameProof(p, want) {
		t.Errorf("Prove of %.20q, %d bits: %.300v, %v, not %.300v, %v", key, s.w.Bits, p, err, want, wantErr)
	}
	e, is, err := held(t, s.w, s.digest(), key, p, "its own proof")
	if wantE, wantIs := modelHas(s.rows, key); e != wantE || is != wantIs || err != api.OK {
		t.Errorf("Check of %.20q, %d bits: %.90v, %v, %v, not %.90v, %v", key, s.w.Bits, e, is, err, wantE, wantIs)
	}
}

// Q2, Q3: all that three tables may have of two keys, and some table behind them.
func TestAllSmallStores(t *testing.T) {
	rows := []string{"", "b=#", "b-", "d=#", "d-", "b=#,d=#", "b-,d=#", "b=#,d-", "b-,d-"}
	of := func(places ...int) store {
		s := store{w: whole}
		for i, n := range places {
			if rows[n] != "" {
				// The two first ones are of the level 0.
				s = s.with(max(i-1, 0), entries(strings.ReplaceAll(rows[n], "#", fmt.Sprint(4-i)), 90-10*i))
			}
		}
		return s
	}
	for i := range rows {
		for j := range rows {
			for k := range rows {
				s := of(i, j, k, (i+2*j+3*k)%len(rows))
				for _, key := range []string{"a", "b", "c", "d", "e"} {
					heldKey(t, s, key)
				}
				for _, lo := range []string{"", "b", "c", "e"} {
					for _, hi := range []string{"", "a", "b", "c", "d", "e"} {
						heldKeys(t, s, lo, hi)
					}
				}
			}
		}
	}
}

// Q2, P4: as many tables as there may be, and as many entries; a store at rest has few points of a key, and each opening has few digests.
func TestGreatStores(t *testing.T) {
	s := great(256, 512, 64)
	d := s.digest()
	for _, key := range []string{"", "k00001", "k00380", "k00381", "k00400", "k09999", "k20000", "z"} {
		p := s.proof(t, key)
		e, is, err := held(t, s.w, d, key, p, "512 tables")
		if wantE, wantIs := modelHas(s.rows, key); e != wantE || is != wantIs || err != api.OK {
			t.Errorf("Check of %q: %v, %v, %v", key, e, is, err)
		}
	}
	// No table of the level 0 has the key, and each covers it.
	s = store{w: whole}
	for i := range 512 {
		s = s.with(0, entries(fmt.Sprintf("a=%d,z=%d", i, i), 2000-2*i))
	}
	if p := s.proof(t, "m"); len(p.Points) != 512 {
		t.Errorf("512 tables that cover the key: %d points", len(p.Points))
	} else if e, is, err := Check(s.w, s.digest(), "m", p); is || err != api.OK || e != (api.Entry{}) {
		t.Errorf("512 points: %v, %v, %v", e, is, err)
	} else {
		p.Points = p.Points[:511]
		refused(t, s.w, s.digest(), "m", p, api.ErrProof, "511 of 512 points")
	}
	rest := great(256, 16, 64)
	most := 0
	for _, row := range rest.rows {
		for i := 0; i < len(row); i += 9 {
			key := row[i].Key + "\x00"
			p := rest.proof(t, key)
			most = max(most, len(p.Points))
			for _, point := range p.Points {
				if len(point.A.Path) > 6 || len(point.B.Path) > 6 {
					t.Errorf("paths of %d and %d digests of %q", len(point.A.Path), len(point.B.Path), key)
				}
			}
		}
	}
	if most != 7 {
		t.Errorf("%d points of a key at most", most)
	}
}

// unfit are stores that do not fit, each by one fault, told by what that is.
func unfit() map[string]store {
	of := func(change func(s *store)) store {
		s := made(256, "0:b=9,d=9 0:a-,d=8 1:a=7,b=7,c=7 1:d=7,e- 3:a=5,e=5").clone()
		change(&s)
		return s
	}
	all := map[string]store{
		"no rows":              of(func(s *store) { s.rows = nil }),
		"too few rows":         of(func(s *store) { s.rows = s.rows[:4] }),
		"the first row less":   of(func(s *store) { s.rows = s.rows[1:] }),
		"too many rows":        of(func(s *store) { s.rows = append(s.rows, s.rows[4]) }),
		"an empty row more":    of(func(s *store) { s.rows = append(s.rows, nil) }),
		"a row in between":     of(func(s *store) { s.rows = slices.Insert(s.rows, 2, s.rows[2]) }),
		"no tables":            of(func(s *store) { s.l = nil }),
		"too few tables":       of(func(s *store) { s.l = s.l[:4] }),
		"too many tables":      of(func(s *store) { s.l = append(s.l, s.l[4]); s.l[5].First, s.l[5].Last = "f", "g" }),
		"rows exchanged":       of(func(s *store) { s.rows[0], s.rows[1] = s.rows[1], s.rows[0] }),
		"levels that fall":     of(func(s *store) { slices.Reverse(s.l); slices.Reverse(s.rows) }),
		"neighbours exchanged": of(func(s *store) { s.l[2], s.l[3] = s.l[3], s.l[2]; s.rows[2], s.rows[3] = s.rows[3], s.rows[2] }),
	}
	for i := range 5 {
		for what, change := range map[string]func(x *api.Table){
			"level below":      func(x *api.Table) { x.Level-- },
			"level above":      func(x *api.Table) { x.Level++ },
			"level far":        func(x *api.Table) { x.Level += 1 << 40 },
			"count":            func(x *api.Table) { x.Count++ },
			"root":             func(x *api.Table) { x.Root[31] ^= 1 },
			"root, first byte": func(x *api.Table) { x.Root[0] ^= 0x80 },
			"first":            func(x *api.Table) { x.First += "\x00" },
			"last":             func(x *api.Table) { x.Last += "\x00" },
			"zero":             func(x *api.Table) { *x = api.Table{} },
		} {
			s := of(func(s *store) { change(&s.l[i]) })
			// Some tables may stand on the next level as well: then there is no fault.
			if !modelFits(256, s.l, s.rows) {
				all[fmt.Sprint(what, " of the table ", i)] = s
			}
		}
		for what, change := range map[string]func(row []api.Entry) []api.Entry{
			"empty":         func(row []api.Entry) []api.Entry { return nil },
			"the last less": func(row []api.Entry) []api.Entry { return row[:len(row)-1] },
			"one more":      func(row []api.Entry) []api.Entry { return append(row, api.Entry{Key: "zz", Seq: 1}) },
			"another value": func(row []api.Entry) []api.Entry { row[0].Value, row[0].Del = "x", false; return row },
			"another Seq":   func(row []api.Entry) []api.Entry { row[1].Seq++; return row },
			"another key":   func(row []api.Entry) []api.Entry { row[1].Key += "\x00"; return row },
			"Del": func(row []api.Entry) []api.Entry {
				row[len(row)-1].Value, row[len(row)-1].Del = "", !row[len(row)-1].Del
				return row
			},
			"turned": func(row []api.Entry) []api.Entry { slices.Reverse(row); return row },
			"twice":  func(row []api.Entry) []api.Entry { return append(row, row[0]) },
			"no Seq": func(row []api.Entry) []api.Entry { row[0].Seq = 0; return row },
		} {
			all[fmt.Sprint("row ", i, ": ", what)] = of(func(s *store) { s.rows[i] = change(s.rows[i]) })
		}
	}
	more := store{w: whole}
	for i := range 513 {
		more = more.with(0, entries("a=1", 1000-i))
	}
	all["513 tables"] = more
	all["tables of one level that touch"] = made(256, "1:a=1,b=1 1:b=2,c=2")
	all["a table of the level 4"] = made(256, "4:a=1")
	wideRow := store{w: whole}
	all["a table of 65 entries"] = wideRow.with(0, wide(65, 0, 1, 1))
	return all
}

// Q2, Q3: stores that do not fit.
func TestProveOfWhatDoesNotFit(t *testing.T) {
	all := unfit()
	if len(all) < 100 {
		t.Errorf("only %d", len(all))
	}
	for what, s := range all {
		for _, key := range []string{"", "a", "b", "c", "d", "zz"} {
			if p, err := Prove(s.w, s.l, s.rows, key); err != api.ErrArg || !sameProof(p, api.Proof{}) {
				t.Errorf("Prove of %q, %s: %.300v, %v", key, what, p, err)
			}
			for _, hi := range []string{"", "a", "c"} {
				if w, err := ProveSweep(s.w, s.l, s.rows, key, hi); err != api.ErrArg || !sameSweep(w, api.Sweep{}) {
					t.Errorf("ProveSweep from %q to %q, %s: %.300v, %v", key, hi, what, w, err)
				}
			}
		}
	}
	// Of the same stores without the fault there is none.
	for _, s := range []store{made(256, "0:b=9,d=9 0:a-,d=8 1:a=7,b=7,c=7 1:d=7,e- 3:a=5,e=5"), made(256, "1:a=1,b=1 1:c=2,d=2"), made(256, "3:a=1"), store{w: whole}.with(0, wide(64, 0, 1, 1))} {
		for _, key := range s.asked() {
			heldKey(t, s, key)
			heldKeys(t, s, key, "")
		}
	}
}

// Q2: a store fits by the tree's bits: of its tables as another tree has them it does not, unless all roots come out the same.
func TestFitByBits(t *testing.T) {
	for _, s := range stores(256) {
		for _, keep := range keeps {
			w := tree.Tree{Bits: keep}
			p, err := Prove(w, s.l, s.rows, "c")
			want, wantErr := modelProve(w, s.l, s.rows, "c")
			if err != wantErr || !sameProof(p, want) {
				t.Errorf("Prove with %d bits: %v, %v", keep, p, err)
			}
			if fits := keep >= 256 || len(s.l) == 0; keep != 255 && fits != (err == api.OK) {
				t.Errorf("Prove of %.300v with %d bits: %v", s.l, keep, err)
			}
		}
	}
	// With no bits rows fit that have the same ends and as many entries.
	s, other := made(0, "0:a=1,b=1,c=1"), made(0, "0:a=1,bb=2,c=3")
	if _, err := Prove(s.w, s.l, other.rows, "b"); err != api.OK {
		t.Errorf("Prove of another row with no bits: %v", err)
	}
}

// Q2: with any other digest the answer is ErrDigest.
func TestCheckOfAnotherDigest(t *testing.T) {
	all := stores(256)
	for _, s := range all {
		d := s.digest()
		for _, key := range s.asked()[:9] {
			p := s.proof(t, key)
			for bit := range 256 {
				other := d
				other[bit/8] ^= 0x80 >> (bit % 8)
				refused(t, s.w, other, key, p, api.ErrDigest, "a bit turned")
			}
			refused(t, s.w, api.Digest{}, key, p, api.ErrDigest, "the digest zero")
			refused(t, s.w, kept(string(p.Summary), 256), key, p, api.ErrDigest, "the sum of the summary, not of its text")
			for _, o := range all {
				if o.digest() != d {
					refused(t, s.w, o.digest(), key, p, api.ErrDigest, "another store's digest")
				}
			}
		}
	}
}

// Q2: as many bits as the tree has are asked for, in the digest and in the points.
func TestCheckWithOtherBits(t *testing.T) {
	for _, keep := range keeps {
		for _, s := range stores(keep) {
			for _, key := range []string{"a", "b", "c", "zz"} {
				p := s.proof(t, key)
				for _, other := range keeps {
					w := tree.Tree{Bits: other}
					_, _, err := held(t, w, s.digest(), key, p, "other bits")
					if same := min(max(keep, 0), 256) == min(max(other, 0), 256); same && err != api.OK {
						t.Errorf("Check of %q, %d bits for %d: %v", key, other, keep, err)
					}
					// The digest as this tree has it: the points are another tree's still.
					_, _, err = held(t, w, modelDigest(other, s.l), key, p, "other bits of the points")
					if err == api.ErrDigest || len(p.Points) == 0 && err != api.OK {
						t.Errorf("Check of %q, %d bits for %d: %v", key, other, keep, err)
					}
				}
			}
		}
	}
	// 255 bits and 256: where the last one is 1, they are not the same.
	s := made(256, "0:a=1")
	for i := 0; s.digest()[31]&1 == 0 || s.l[0].Root[31]&1 == 0; i++ {
		s = made(256, fmt.Sprint("0:a=", i))
	}
	p := s.proof(t, "a")
	refused(t, tree.Tree{Bits: 255}, s.digest(), "a", p, api.ErrDigest, "255 bits for 256")
	refused(t, tree.Tree{Bits: 255}, modelDigest(255, s.l), "a", p, api.ErrProof, "255 bits for a root of 256")
	refused(t, tree.Tree{Bits: 256}, modelDigest(255, s.l), "a", p, api.ErrDigest, "256 bits for 255")
	if _, is, err := Check(tree.Tree{Bits: 257}, s.digest(), "a", p); !is || err != api.OK {
		t.Errorf("257 bits for 256: %v, %v", is, err)
	}
}

// Q2: a proof shows its own key, and other ones only as far as it tells what the store has of them.
func TestCheckOfAnotherKey(t *testing.T) {
	taken, not := 0, 0
	for _, s := range stores(256) {
		keys := s.asked()
		for _, mine := range keys {
			p := s.proof(t, mine)
			for _, key := range keys {
				e, is, err := held(t, s.w, s.digest(), key, p, "the proof of another key")
				if err != api.OK {
					not++
					continue
				}
				taken++
				if wantE, wantIs := modelHas(s.rows, key); e != wantE || is != wantIs {
					t.Errorf("Check of %.20q with the proof of %.20q: %v, %v", key, mine, e, is)
				}
				if len(p.Points) > 0 && !p.Points[len(p.Points)-1].Between && key != mine {
					t.Errorf("Check of %.20q with the entry of %.20q", key, mine)
				}
			}
		}
	}
	if taken < 100 || not < 1000 {
		t.Errorf("%d taken, %d not", taken, not)
	}
}

// otherSummaries are bytes that are not b.
func otherSummaries(b []byte) [][]byte {
	all := [][]byte{append(bytes.Clone(b), 0), append(bytes.Clone(b), b...), append([]byte{0}, b...), append([]byte{3}, b...)}
	for n := range b {
		all = append(all, b[:n])
		for bit := range 8 {
			c := bytes.Clone(b)
			c[n] ^= 1 << bit
			all = append(all, c)
		}
	}
	return all
}

// Q2: a summary that is none's, whatever digest is held against it, or another store's.
func TestCheckOfAnotherSummary(t *testing.T) {
	was := map[api.Errno]int{}
	for _, s := range stores(256) {
		d := s.digest()
		for _, key := range []string{"a", "c", "zz"} {
			p := s.proof(t, key)
			for _, b := range otherSummaries(p.Summary) {
				q := api.Proof{Summary: b, Points: p.Points}
				_, _, err := held(t, s.w, d, key, q, "another summary")
				was[err]++
				if err == api.ErrForm {
					refused(t, s.w, kept("\x03"+string(b), 256), key, q, api.ErrForm, "a summary that is none's, with its sum")
				}
			}
			for _, o := range stores(256) {
				if q := o.proof(t, key); o.digest() != d {
					refused(t, s.w, d, key, q, api.ErrDigest, "another store's proof")
					q.Points = p.Points
					refused(t, s.w, d, key, q, api.ErrDigest, "another store's summary")
					// The right summary, with the other store's points: there is nothing to them, if they are other ones.
					q = api.Proof{Summary: p.Summary, Points: o.proof(t, key).Points}
					if !sameProof(p, q) {
						held(t, s.w, d, key, q, "another store's points")
					}
				}
			}
			refused(t, s.w, d, key, api.Proof{Points: p.Points}, api.ErrForm, "no summary")
			refused(t, s.w, kept("\x03", 256), key, api.Proof{Points: p.Points}, api.ErrForm, "no summary, with its sum")
		}
	}
	if was[api.ErrForm] < 100 || was[api.ErrDigest] < 100 || was[api.OK]+was[api.ErrProof] > 0 {
		t.Errorf("other summaries: %v", was)
	}
}

// Q2: points too few, more behind, ahead or in between, and in another order.
func TestCheckOfOtherRowsOfPoints(t *testing.T) {
	for _, s := range stores(256) {
		d := s.digest()
		var some []api.Point
		for _, key := range s.asked() {
			some = append(some, s.proof(t, key).Points...)
		}
		some = append(some, api.Point{})
		for _, key := range s.asked() {
			p := s.proof(t, key)
			n := len(p.Points)
			bad := func(what string, points ...api.Point) {
				t.Helper()
				refused(t, s.w, d, key, api.Proof{Summary: p.Summary, Points: points}, api.ErrProof, what)
			}
			for i, point := range p.Points {
				bad("the last ones left out", p.Points[:i]...)
				bad("one left out", slices.Concat(p.Points[:i], p.Points[i+1:])...)
				bad("one twice", slices.Insert(slices.Clone(p.Points), i, point)...)
				for k := range i {
					turned := slices.Clone(p.Points)
					turned[i], turned[k] = turned[k], turned[i]
					bad("another order", turned...)
				}
			}
			for _, more := range some {
				bad("one more behind", slices.Concat(p.Points, []api.Point{more})...)
				bad("two more behind", slices.Concat(p.Points, []api.Point{more, more})...)
				bad("one more ahead", slices.Concat([]api.Point{more}, p.Points)...)
			}
			if n > 0 {
				bad("as many zero points", make([]api.Point, n)...)
				bad("no points")
			}
		}
	}
	// Tables that are alike have like points: these may stand for one another.
	row := entries("a=1,c=1", 1)
	s := store{w: whole}.with(0, row).with(0, row)
	p := s.proof(t, "b")
	p.Points[0], p.Points[1] = p.Points[1], p.Points[0]
	if _, is, err := held(t, s.w, s.digest(), "b", p, "of like tables"); is || err != api.OK {
		t.Errorf("points of like tables: %v, %v", is, err)
	}
}

// otherOpenings are openings that differ from o in one thing.
func otherOpenings(o api.Opening) []api.Opening {
	var all []api.Opening
	add := func(change func(c *api.Opening)) {
		c := cloneOpening(o)
		change(&c)
		all = append(all, c)
	}
	for _, at := range []int{-1, o.At - 1, o.At + 1, o.At + 64, o.At - 1<<62, o.At + 1<<62} {
		if at != o.At {
			add(func(c *api.Opening) { c.At = at })
		}
	}
	for i := range min(len(o.Leaf), 40) {
		add(func(c *api.Opening) { c.Leaf[i] ^= 1 })
		add(func(c *api.Opening) { c.Leaf[i] ^= 0x80 })
		add(func(c *api.Opening) { c.Leaf = c.Leaf[:i] })
	}
	add(func(c *api.Opening) { c.Leaf = append(c.Leaf, 0) })
	for i := range o.Path {
		add(func(c *api.Opening) { c.Path[i][0] ^= 0x80 })
		add(func(c *api.Opening) { c.Path[i][31] ^= 1 })
		add(func(c *api.Opening) { c.Path = slices.Delete(c.Path, i, i+1) })
		add(func(c *api.Opening) { c.Path = slices.Insert(c.Path, i, c.Path[i]) })
	}
	add(func(c *api.Opening) { c.Path = append(c.Path, api.Digest{}) })
	if len(o.Leaf) > 0 {
		add(func(c *api.Opening) { *c = api.Opening{} })
	}
	return all
}

// otherPoints are points that differ from p in one thing.
func otherPoints(p api.Point) []api.Point {
	all := []api.Point{{}, {Between: !p.Between, A: p.A, B: p.B}, {Between: p.Between, A: p.B, B: p.A}, {Between: p.Between, A: p.A, B: p.A}}
	for _, o := range otherOpenings(p.A) {
		all = append(all, api.Point{Between: p.Between, A: o, B: p.B})
	}
	for _, o := range otherOpenings(p.B) {
		all = append(all, api.Point{Between: p.Between, A: p.A, B: o})
	}
	return all
}

// Q2: one of the points changed.
func TestCheckOfAChangedPoint(t *testing.T) {
	changed := 0
	for _, s := range stores(256) {
		d := s.digest()
		for _, key := range s.asked() {
			p := s.proof(t, key)
			for i, point := range p.Points {
				for _, other := range otherPoints(point) {
					q := api.Proof{Summary: p.Summary, Points: slices.Clone(p.Points)}
					q.Points[i] = other
					refused(t, s.w, d, key, q, api.ErrProof, "a point changed")
					changed++
				}
			}
		}
	}
	if changed < 5000 {
		t.Errorf("only %d", changed)
	}
}

// Q2: of several errors the first in the chapter's order: no summary, another digest, no proof.
func TestErrorsInOrder(t *testing.T) {
	s, b := written()
	none, d, other := []byte("\x01"), digest(sumBoth), digest(sumNothing)
	right := s.proof(t, "c").Points
	for _, w := range []struct {
		summary []byte
		d       api.Digest
		points  []api.Point
		want    api.Errno
	}{
		{b, d, right, api.OK},
		{b, d, right[:1], api.ErrProof},
		{b, d, nil, api.ErrProof},
		{b, other, right, api.ErrDigest},
		{b, other, right[:1], api.ErrDigest},
		{b, other, make([]api.Point, 9), api.ErrDigest},
		{none, d, right, api.ErrForm},
		{none, d, nil, api.ErrForm},
		{none, other, right, api.ErrForm},
		{none, other, right[:1], api.ErrForm},
		{nil, other, right[:1], api.ErrForm},
		{none, kept("\x03\x01", 256), right, api.ErrForm},
	} {
		if e, is, err := Check(whole, w.d, "c", api.Proof{Summary: w.summary, Points: w.points}); err != w.want || is || e != (api.Entry{}) {
			t.Errorf("Check: %v, %v, %v, not %v", e, is, err, w.want)
		}
	}
	// Told as there is, no error stands beside it.
	if e, is, err := Check(whole, d, "d", s.proof(t, "d")); err != api.OK || !is || e != s.rows[0][1] {
		t.Errorf("Check of d: %v, %v, %v", e, is, err)
	}
}
