package proof

import (
	"fmt"
	"slices"
	"testing"

	"marlstone/api"
	"marlstone/tree"
)

// heldKeys holds what is proved and checked of the keys from lo on and below hi against the model, and against what the store has.
func heldKeys(t *testing.T, s store, lo, hi string) {
	t.Helper()
	w, err := ProveSweep(s.w, s.l, s.rows, lo, hi)
	if want, wantErr := modelProveSweep(s.w, s.l, s.rows, lo, hi); err != wantErr || err != api.OK || !sameSweep(w, want) {
		t.Errorf("ProveSweep from %.20q to %.20q, %d bits: %.300v, %v, not %.300v, %v", lo, hi, s.w.Bits, w, err, want, wantErr)
	}
	l, err := heldSweep(t, s.w, s.digest(), lo, hi, w, "its own sweep")
	if want := modelWithin(modelWhole(s.rows), lo, hi); err != api.OK || !slices.Equal(l, want) {
		t.Errorf("CheckSweep from %.20q to %.20q, %d bits: %.300v, %v, not %.300v", lo, hi, s.w.Bits, l, err, want)
	}
}

// Q3: a store without tables.
func TestSweepOfNothing(t *testing.T) {
	for _, lo := range []string{"", "a", "c"} {
		for _, hi := range []string{"", "a", "b", "c"} {
			if w, err := ProveSweep(whole, nil, nil, lo, hi); err != api.OK || string(w.Summary) != "\x00" || len(w.Spans) != 0 {
				t.Errorf("ProveSweep from %q to %q: %v, %v", lo, hi, w, err)
			}
			if l, err := CheckSweep(whole, digest(sumNothing), lo, hi, api.Sweep{Summary: []byte{0}}); err != api.OK || len(l) != 0 {
				t.Errorf("CheckSweep from %q to %q: %v, %v", lo, hi, l, err)
			}
			refusedSweep(t, whole, api.Digest{}, lo, hi, api.Sweep{Summary: []byte{0}}, api.ErrDigest, "another digest")
			refusedSweep(t, whole, digest(sumNothing), lo, hi, api.Sweep{Summary: []byte{0}, Spans: []api.Span{{}}}, api.ErrProof, "a span of no table")
		}
	}
}

// Q3: the store written out: which spans there are, all of their bytes, and what they tell.
func TestSweepWrittenOut(t *testing.T) {
	s, b := written()
	newB, newD := []byte("\x01\x05\x01b"), []byte("\x00\x06\x01d\x03new")
	a, oldB, oldD := []byte("\x00\x01\x01a\x011"), []byte("\x00\x02\x01b\x012"), []byte("\x00\x03\x01d\x014")
	// Of a table of two entries each span has both: one is asked for, or stands ahead or behind.
	all, allOld := api.Span{Leaves: [][]byte{newB, newD}}, api.Span{Leaves: [][]byte{a, oldB, oldD}}
	ahead := api.Span{Leaves: [][]byte{a, oldB}, Path: []api.Digest{digest(sumD)}}
	behind := api.Span{From: 1, Leaves: [][]byte{oldB, oldD}, Path: []api.Digest{digest(sumA)}}
	hasA, hasD := s.rows[1][0], s.rows[0][1]
	for _, w := range []struct {
		lo, hi string
		spans  []api.Span
		want   []api.Entry
	}{
		{"", "", []api.Span{all, allOld}, []api.Entry{hasA, hasD}},
		{"a", "z", []api.Span{all, allOld}, []api.Entry{hasA, hasD}},
		{"a", "d", []api.Span{all, allOld}, []api.Entry{hasA}},
		{"b", "", []api.Span{all, allOld}, []api.Entry{hasD}},
		{"a", "b", []api.Span{ahead}, []api.Entry{hasA}},
		{"", "aa", []api.Span{ahead}, []api.Entry{hasA}},
		{"aa", "b", []api.Span{ahead}, nil},
		{"c", "d", []api.Span{all, behind}, nil},
		{"c", "", []api.Span{all, behind}, []api.Entry{hasD}},
		{"d", "d\x00", []api.Span{all, behind}, []api.Entry{hasD}},
		{"d", "", []api.Span{all, behind}, []api.Entry{hasD}},
		{"", "a", nil, nil},
		{"d\x00", "", nil, nil},
		{"z", "", nil, nil},
		{"c", "c", nil, nil},
		{"d", "b", nil, nil},
		{"z", "a", nil, nil},
	} {
		want := api.Sweep{Summary: b, Spans: w.spans}
		if got, err := ProveSweep(whole, s.l, s.rows, w.lo, w.hi); err != api.OK || !sameSweep(got, want) {
			t.Errorf("ProveSweep from %q to %q: %v, %v", w.lo, w.hi, got, err)
		}
		if l, err := CheckSweep(whole, digest(sumBoth), w.lo, w.hi, want); err != api.OK || !slices.Equal(l, w.want) {
			t.Errorf("CheckSweep from %q to %q: %v, %v", w.lo, w.hi, l, err)
		}
	}
}

// Q3: ranges that no table overlaps, that all do, with an empty hi, with lo at or above hi, and that touch a table's ends.
func TestSweepRanges(t *testing.T) {
	s := made(256, "0:c=9,g=9 0:e=8 1:b=7,d- 1:f=7,h=7 2:c=6,e- 3:a=5,e=5,i=5")
	for _, w := range []struct {
		lo, hi string
		spans  int
		want   string
	}{
		{"", "", 6, "a=5,b=7,c=9,e=8,f=7,g=9,h=7,i=5"},
		{"a", "", 6, "a=5,b=7,c=9,e=8,f=7,g=9,h=7,i=5"},
		{"a", "j", 6, "a=5,b=7,c=9,e=8,f=7,g=9,h=7,i=5"},
		{"d", "f\x00", 6, "e=8,f=7"},
		{"", "a", 0, ""}, {"j", "", 0, ""}, {"j", "k", 0, ""}, {"A", "Z", 0, ""}, {"i\x00", "", 0, ""},
		{"e", "e", 0, ""}, {"e", "d", 0, ""}, {"z", "a", 0, ""}, {"b", "a", 0, ""}, {"e\x00", "e", 0, ""},
		{"", "a\x00", 1, "a=5"}, {"a", "b", 1, "a=5"}, {"i", "", 1, "i=5"}, {"h\x00", "i", 1, ""}, {"h\x00", "", 1, "i=5"}, {"h\x00", "i\x00", 1, "i=5"},
		{"b", "b\x00", 2, "b=7"}, {"a\x00", "b", 1, ""}, {"b", "c", 2, "b=7"},
		{"c", "c\x00", 4, "c=9"}, {"c\x00", "d", 4, ""}, {"d", "d\x00", 4, ""}, {"d\x00", "e", 3, ""},
		{"e", "e\x00", 4, "e=8"}, {"e\x00", "f", 2, ""}, {"f", "g", 3, "f=7"},
		{"g", "g\x00", 3, "g=9"}, {"g\x00", "h", 2, ""}, {"h", "i", 2, "h=7"}, {"h", "", 2, "h=7,i=5"},
		{"", "e", 4, "a=5,b=7,c=9"}, {"", "e\x00", 5, "a=5,b=7,c=9,e=8"}, {"", "f\x00", 6, "a=5,b=7,c=9,e=8,f=7"},
	} {
		sweep := s.sweep(t, w.lo, w.hi)
		l, err := CheckSweep(s.w, s.digest(), w.lo, w.hi, sweep)
		told := ""
		for _, e := range l {
			told += "," + e.Key + "=" + e.Value
		}
		if len(sweep.Spans) != w.spans || err != api.OK || told != "" && told[1:] != w.want || told == "" && w.want != "" {
			t.Errorf("from %q to %q: %d spans, %s, %v", w.lo, w.hi, len(sweep.Spans), told, err)
		}
		heldKeys(t, s, w.lo, w.hi)
	}
}

// Q3: all pairs of keys of stores of many kinds.
func TestSweepAndCheck(t *testing.T) {
	for _, keep := range []int{0, 8, 256} {
		for _, s := range stores(keep) {
			keys := s.asked()
			for _, lo := range keys {
				for _, hi := range keys {
					heldKeys(t, s, lo, hi)
				}
			}
		}
	}
	for _, keep := range keeps {
		for _, s := range stores(keep) {
			for _, lo := range s.asked() {
				heldKeys(t, s, lo, "")
				heldKeys(t, s, "", lo)
				heldKeys(t, s, lo, lo+"\x00")
			}
		}
	}
}

// Q3: what is told of a key alone is what Check tells of it.
func TestSweepOfOneKey(t *testing.T) {
	for _, s := range stores(256) {
		for _, key := range s.asked() {
			e, is, _ := Check(s.w, s.digest(), key, s.proof(t, key))
			l, err := CheckSweep(s.w, s.digest(), key, key+"\x00", s.sweep(t, key, key+"\x00"))
			if err != api.OK || is != (len(l) == 1) || len(l) > 1 || is && l[0] != e {
				t.Errorf("%.20q: %v, %v, and %v, %v", key, e, is, l, err)
			}
		}
	}
}

// Q3: as many tables as there may be.
func TestGreatSweeps(t *testing.T) {
	s := great(256, 512, 64)
	for _, w := range [][2]string{{"", ""}, {"k00100", "k00500"}, {"k10000", "k10001"}, {"z", ""}} {
		heldKeys(t, s, w[0], w[1])
	}
	w := s.sweep(t, "", "")
	if len(w.Spans) != 512 {
		t.Errorf("%d spans", len(w.Spans))
	}
	w.Spans = w.Spans[:511]
	refusedSweep(t, s.w, s.digest(), "", "", w, api.ErrProof, "511 of 512 spans")
}

// Q3: with any other digest the answer is ErrDigest; other bits.
func TestCheckSweepOfAnotherDigest(t *testing.T) {
	all := stores(256)
	for _, s := range all {
		d := s.digest()
		w := s.sweep(t, "b", "")
		for bit := range 256 {
			other := d
			other[bit/8] ^= 0x80 >> (bit % 8)
			refusedSweep(t, s.w, other, "b", "", w, api.ErrDigest, "a bit turned")
		}
		refusedSweep(t, s.w, api.Digest{}, "b", "", w, api.ErrDigest, "the digest zero")
		for _, o := range all {
			if o.digest() != d {
				refusedSweep(t, s.w, o.digest(), "b", "", w, api.ErrDigest, "another store's digest")
				refusedSweep(t, s.w, d, "b", "", o.sweep(t, "b", ""), api.ErrDigest, "another store's sweep")
				other := api.Sweep{Summary: w.Summary, Spans: o.sweep(t, "b", "").Spans}
				if !sameSweep(other, w) {
					heldSweep(t, s.w, d, "b", "", other, "another store's spans")
				}
			}
		}
	}
	for _, keep := range keeps {
		for _, s := range stores(keep) {
			w := s.sweep(t, "b", "")
			for _, other := range keeps {
				v := tree.Tree{Bits: other}
				_, err := heldSweep(t, v, s.digest(), "b", "", w, "other bits")
				if same := min(max(keep, 0), 256) == min(max(other, 0), 256); same && err != api.OK {
					t.Errorf("CheckSweep, %d bits for %d: %v", other, keep, err)
				}
				if _, err = heldSweep(t, v, modelDigest(other, s.l), "b", "", w, "other bits of the spans"); err == api.ErrDigest {
					t.Errorf("CheckSweep, %d bits for %d: %v", other, keep, err)
				}
			}
		}
	}
}

// Q3: a summary that is none's, or another store's.
func TestCheckSweepOfAnotherSummary(t *testing.T) {
	was := map[api.Errno]int{}
	for _, s := range stores(256) {
		w := s.sweep(t, "a", "d")
		for _, b := range otherSummaries(w.Summary) {
			v := api.Sweep{Summary: b, Spans: w.Spans}
			_, err := heldSweep(t, s.w, s.digest(), "a", "d", v, "another summary")
			was[err]++
			if err == api.ErrForm {
				refusedSweep(t, s.w, kept("\x03"+string(b), 256), "a", "d", v, api.ErrForm, "a summary that is none's, with its sum")
			}
		}
		refusedSweep(t, s.w, s.digest(), "a", "d", api.Sweep{Spans: w.Spans}, api.ErrForm, "no summary")
		refusedSweep(t, s.w, kept("\x03", 256), "a", "d", api.Sweep{Spans: w.Spans}, api.ErrForm, "no summary, with its sum")
	}
	if was[api.ErrForm] < 100 || was[api.ErrDigest] < 100 || was[api.OK]+was[api.ErrProof] > 0 {
		t.Errorf("other summaries: %v", was)
	}
}

// Q3: a sweep of other keys tells what the store has of these, or nothing.
func TestCheckSweepOfOtherKeys(t *testing.T) {
	taken, not := 0, 0
	for _, s := range stores(256) {
		keys := []string{"", "a", "aa", "b", "c", "d", "e", "g", "z", "\xff"}
		for i, lo := range keys {
			for _, hi := range append(keys[i:], "") {
				w := s.sweep(t, lo, hi)
				for k, from := range keys {
					for _, to := range append(keys[k:], "") {
						l, err := heldSweep(t, s.w, s.digest(), from, to, w, "the sweep of other keys")
						if err != api.OK {
							not++
							continue
						}
						taken++
						if want := modelWithin(modelWhole(s.rows), from, to); !slices.Equal(l, want) {
							t.Errorf("CheckSweep from %q to %q with that from %q to %q: %v", from, to, lo, hi, l)
						}
					}
				}
			}
		}
	}
	if taken < 1000 || not < 1000 {
		t.Errorf("%d taken, %d not", taken, not)
	}
}

// Q3: spans too few, more, and in another order.
func TestCheckSweepOfOtherRowsOfSpans(t *testing.T) {
	for _, s := range stores(256) {
		d := s.digest()
		some := append(s.sweep(t, "", "").Spans, api.Span{})
		for _, lo := range s.asked() {
			w := s.sweep(t, lo, "")
			bad := func(what string, spans ...api.Span) {
				t.Helper()
				refusedSweep(t, s.w, d, lo, "", api.Sweep{Summary: w.Summary, Spans: spans}, api.ErrProof, what)
			}
			for i, span := range w.Spans {
				bad("the last ones left out", w.Spans[:i]...)
				bad("one left out", slices.Concat(w.Spans[:i], w.Spans[i+1:])...)
				bad("one twice", slices.Insert(slices.Clone(w.Spans), i, span)...)
				for k := range i {
					turned := slices.Clone(w.Spans)
					turned[i], turned[k] = turned[k], turned[i]
					bad("another order", turned...)
				}
			}
			for _, more := range some {
				bad("one more behind", slices.Concat(w.Spans, []api.Span{more})...)
				bad("one more ahead", slices.Concat([]api.Span{more}, w.Spans)...)
			}
			if n := len(w.Spans); n > 0 {
				bad("as many zero spans", make([]api.Span, n)...)
			}
		}
	}
}

// otherSpans are spans that differ from s in one thing.
func otherSpans(s api.Span) []api.Span {
	var all []api.Span
	add := func(change func(c *api.Span)) {
		c := cloneSpan(s)
		change(&c)
		all = append(all, c)
	}
	for _, from := range []int{-1, s.From - 1, s.From + 1, s.From + 64, s.From + 1<<62} {
		add(func(c *api.Span) { c.From = from })
	}
	for i, leaf := range s.Leaves {
		for k := range min(len(leaf), 20) {
			add(func(c *api.Span) { c.Leaves[i][k] ^= 1 })
			add(func(c *api.Span) { c.Leaves[i][k] ^= 0x80 })
		}
		add(func(c *api.Span) { c.Leaves[i] = c.Leaves[i][1:] })
		add(func(c *api.Span) { c.Leaves[i] = append(c.Leaves[i], 0) })
		add(func(c *api.Span) { c.Leaves[i] = nil })
		add(func(c *api.Span) { c.Leaves = slices.Delete(c.Leaves, i, i+1) })
		add(func(c *api.Span) { c.Leaves = slices.Insert(c.Leaves, i, c.Leaves[i]) })
		for k := range i {
			add(func(c *api.Span) { c.Leaves[i], c.Leaves[k] = c.Leaves[k], c.Leaves[i] })
		}
	}
	for i := range s.Path {
		add(func(c *api.Span) { c.Path[i][0] ^= 0x80 })
		add(func(c *api.Span) { c.Path[i][31] ^= 1 })
		add(func(c *api.Span) { c.Path = slices.Delete(c.Path, i, i+1) })
		add(func(c *api.Span) { c.Path = slices.Insert(c.Path, i, c.Path[i]) })
	}
	add(func(c *api.Span) { c.Path = append(c.Path, api.Digest{}) })
	add(func(c *api.Span) { *c = api.Span{} })
	add(func(c *api.Span) { c.Leaves = nil })
	return all
}

// Q3: one of the spans changed.
func TestCheckSweepOfAChangedSpan(t *testing.T) {
	changed := 0
	for _, s := range stores(256) {
		d := s.digest()
		for _, r := range [][2]string{{"", ""}, {"b", "e"}, {"c", "c\x00"}, {"a", "c"}} {
			w := s.sweep(t, r[0], r[1])
			for i, span := range w.Spans {
				for _, other := range otherSpans(span) {
					v := api.Sweep{Summary: w.Summary, Spans: slices.Clone(w.Spans)}
					v.Spans[i] = other
					refusedSweep(t, s.w, d, r[0], r[1], v, api.ErrProof, "a span changed")
					changed++
				}
			}
		}
	}
	if changed < 5000 {
		t.Errorf("only %d", changed)
	}
}

// Q3: spans that hold, but leave out what is asked for at an end.
func TestCheckSweepOfNarrowSpans(t *testing.T) {
	s := store{w: whole}.with(0, wide(16, 0, 2, 500)).with(1, wide(33, 0, 1, 1))
	narrow := 0
	for i := 0; i < 32; i += 3 {
		lo, hi := fmt.Sprintf("k%05d", i), fmt.Sprintf("k%05d", i+4)
		w := s.sweep(t, lo, hi)
		for _, less := range [][2]string{{lo + "\x00", hi}, {fmt.Sprintf("k%05d", i+2), hi}, {lo, fmt.Sprintf("k%05d", i+2)}} {
			v := s.sweep(t, less[0], less[1])
			for k := range w.Spans {
				q := api.Sweep{Summary: w.Summary, Spans: slices.Clone(w.Spans)}
				if k >= len(v.Spans) || sameSpan(q.Spans[k], v.Spans[k]) {
					continue
				}
				q.Spans[k] = v.Spans[k]
				if l, err := heldSweep(t, s.w, s.digest(), lo, hi, q, "a narrower span"); err == api.OK && !slices.Equal(l, modelWithin(modelWhole(s.rows), lo, hi)) {
					t.Errorf("CheckSweep from %q to %q: %v", lo, hi, l)
				} else if err == api.ErrProof {
					narrow++
				}
			}
		}
	}
	if narrow < 10 {
		t.Errorf("only %d", narrow)
	}
}

// Q3: of several errors the first in the chapter's order.
func TestSweepErrorsInOrder(t *testing.T) {
	s, b := written()
	none, d, other := []byte("\x01"), digest(sumBoth), digest(sumNothing)
	right := s.sweep(t, "", "").Spans
	for _, w := range []struct {
		summary []byte
		d       api.Digest
		spans   []api.Span
		want    api.Errno
	}{
		{b, d, right, api.OK},
		{b, d, right[:1], api.ErrProof},
		{b, d, make([]api.Span, 2), api.ErrProof},
		{b, d, make([]api.Span, 3), api.ErrProof},
		{b, other, right, api.ErrDigest},
		{b, other, right[:1], api.ErrDigest},
		{b, other, make([]api.Span, 2), api.ErrDigest},
		{none, d, right, api.ErrForm},
		{none, other, right, api.ErrForm},
		{none, other, nil, api.ErrForm},
		{nil, other, right[:1], api.ErrForm},
		{none, kept("\x03\x01", 256), right, api.ErrForm},
	} {
		if l, err := CheckSweep(whole, w.d, "", "", api.Sweep{Summary: w.summary, Spans: w.spans}); err != w.want || (len(l) > 0) != (err == api.OK) {
			t.Errorf("CheckSweep: %v, %v, not %v", l, err, w.want)
		}
	}
}
