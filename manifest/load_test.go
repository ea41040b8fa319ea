package manifest_test

import (
	"maps"
	"testing"

	"staddle/api"
	"staddle/manifest"
	"staddle/simfs"
)

// dels is an edit of files that are gone.
func dels(l ...api.Gone) api.Edit { return api.Edit{Dels: l} }

// adds is an edit of files that are added.
func adds(l ...api.File) api.Edit { return api.Edit{Adds: l} }

// gone is a file that is not there any more.
func gone(level int, num uint64) api.Gone { return api.Gone{Level: level, Num: num} }

// P15.2: without CURRENT there is no state, whatever else is there.
func TestNoCurrent(t *testing.T) {
	refuses(t, "no files", fresh(t, 0), api.ErrManifestNone)
	whole := edits(adds(file(1, 3, "a", "b")))
	refuses(t, "others", laid(t, files{"MANIFEST-000005": whole, "CURRENT.tmp": "MANIFEST-000005\n", "current": "MANIFEST-000005\n", "000001.log": ""}), api.ErrManifestNone)
	f := counts(t, whole)
	ok(t, f.Remove("CURRENT"))
	refuses(t, "taken away", f, api.ErrManifestNone)
}

// P15.2: what CURRENT may not have; manifests that it could mean are there.
func TestWrongCurrent(t *testing.T) {
	whole := edits(api.Edit{Last: 1})
	there := files{"MANIFEST-000005": whole, "000005.log": whole, "000005.tab": whole, "CURRENT.tmp": whole, "MANIFEST-5": whole, "MANIFEST-000000": whole, "MANIFEST-0000005": whole, "manifest-000005": whole, "MANIFEST-1099511627777": whole, "MANIFEST-": whole, "MANIFEST-000005 ": whole, "MANIFEST-00000x": whole}
	for _, line := range []string{
		"", "\n", "\n\n", "x", "x\n", "5", "5\n", "\x00", "MANIFEST-000005", "MANIFEST-000005\n\n", "MANIFEST-000005\n\n\n", "\nMANIFEST-000005\n", "\nMANIFEST-000005", "MANIFEST-000005\r\n", "MANIFEST-000005\r", "MANIFEST-000005 \n", " MANIFEST-000005\n", "MANIFEST-000005\n ", "MANIFEST-000005\n\x00", "MANIFEST-000005\x00\n", "MANIFEST-000005\x00",
		"MANIFEST-000005\nMANIFEST-000005\n", "MANIFEST-000005\nx", "000005.log\n", "000005.tab\n", "CURRENT\n", "CURRENT.tmp\n", "CURRENT", "MANIFEST-5\n", "MANIFEST-000000\n", "MANIFEST-0000005\n", "manifest-000005\n", "MANIFEST-1099511627777\n", "MANIFEST-\n", "MANIFEST-00000x\n", "MANIFEST-18446744073709551621\n", "MANIFEST-00005\n",
	} {
		there["CURRENT"] = line
		refuses(t, line, laid(t, there), api.ErrManifestForm)
	}
	there["CURRENT"] = "MANIFEST-000005\n"
	tells(t, "its name and a line feed", laid(t, there), api.State{Num: 5, Last: 1})
}

// P15.2: a manifest that is not there, has no bytes, or no record.
func TestNoManifest(t *testing.T) {
	refuses(t, "it is not there", laid(t, files{"CURRENT": "MANIFEST-000005\n", "MANIFEST-000004": edits(api.Edit{})}), api.ErrManifestForm)
	refuses(t, "no bytes", counts(t, ""), api.ErrManifestForm)
	f := counts(t, edits(api.Edit{}))
	ok(t, f.Rename("MANIFEST-000005", "MANIFEST-000006"))
	refuses(t, "it has another name", f, api.ErrManifestForm)
	for n := range 300 {
		refuses(t, "noughts", counts(t, string(make([]byte, n))), api.ErrManifestForm)
	}
	tells(t, "a record of nothing", counts(t, edits(api.Edit{})), api.State{Num: 5})
}

// P15.2: Num is the name's, of each number that a manifest may have.
func TestNum(t *testing.T) {
	for num, s := range digits() {
		f := laid(t, files{"CURRENT": "MANIFEST-" + s + "\n", "MANIFEST-" + s: edits(api.Edit{Log: 7})})
		tells(t, s, f, api.State{Num: num, Log: 7})
	}
}

// P15.2: Log, Next and Last are each the last one told, and 0 where none is.
func TestNumbersTold(t *testing.T) {
	for what, c := range map[string]struct {
		l    []api.Edit
		want api.State
	}{
		"none":                        {[]api.Edit{{}, {}, adds(file(0, 1, "a", "b"))}, api.State{V: stand(file(0, 1, "a", "b"))}},
		"all at once":                 {[]api.Edit{{Log: 1, Next: 2, Last: 3}}, api.State{Log: 1, Next: 2, Last: 3}},
		"each by itself":              {[]api.Edit{{Last: 3}, {Next: 2}, {Log: 1}}, api.State{Log: 1, Next: 2, Last: 3}},
		"the last one, if less":       {[]api.Edit{{Log: 10, Next: 20, Last: 30}, {Log: 9, Next: 19, Last: 29}}, api.State{Log: 9, Next: 19, Last: 29}},
		"the last one, if more":       {[]api.Edit{{Log: 10, Next: 20, Last: 30}, {Log: 11, Next: 21, Last: 31}}, api.State{Log: 11, Next: 21, Last: 31}},
		"not told anew":               {[]api.Edit{{Log: 10, Next: 20, Last: 30}, {}}, api.State{Log: 10, Next: 20, Last: 30}},
		"Log anew":                    {[]api.Edit{{Log: 10, Next: 20, Last: 30}, {Log: 1}}, api.State{Log: 1, Next: 20, Last: 30}},
		"Next anew":                   {[]api.Edit{{Log: 10, Next: 20, Last: 30}, {Next: 1}}, api.State{Log: 10, Next: 1, Last: 30}},
		"Last anew":                   {[]api.Edit{{Log: 10, Next: 20, Last: 30}, {Last: 1}}, api.State{Log: 10, Next: 20, Last: 1}},
		"the greatest":                {[]api.Edit{{Log: topNum, Next: topNum, Last: topSeq}}, api.State{Log: topNum, Next: topNum, Last: topSeq}},
		"three times, with a gap":     {[]api.Edit{{Log: 5}, {Next: 6}, {Log: 7}, {Last: 8}, {}, {Next: 9}}, api.State{Log: 7, Next: 9, Last: 8}},
		"Log above Next, Next like 5": {[]api.Edit{{Log: 9, Next: 5}}, api.State{Log: 9, Next: 5}},
	} {
		c.want.Num = 5
		tells(t, what, counts(t, edits(c.l...)), c.want)
	}
}

// P15.2: the files are what all edits make of none, in order.
func TestFilesTold(t *testing.T) {
	a, b, c := file(1, 3, "a", "c"), file(1, 4, "d", "f"), file(0, 5, "a", "z")
	for what, x := range map[string]struct {
		l    []api.Edit
		want api.Version
	}{
		"in places":               {[]api.Edit{adds(b), adds(c, a)}, stand(a, b, c)},
		"taken away":              {[]api.Edit{adds(a, b, c), dels(gone(1, 3))}, stand(b, c)},
		"all taken away":          {[]api.Edit{adds(a, b), dels(gone(1, 3)), dels(gone(1, 4))}, api.Version{}},
		"and laid again":          {[]api.Edit{adds(a, b), dels(gone(1, 3)), adds(file(2, 3, "a", "c"))}, stand(b, file(2, 3, "a", "c"))},
		"moved by one edit":       {[]api.Edit{adds(a, c), {Dels: []api.Gone{gone(0, 5), gone(1, 3)}, Adds: []api.File{file(1, 5, "a", "z")}}}, stand(file(1, 5, "a", "z"))},
		"in all levels":           {[]api.Edit{{Adds: some().L[3]}, {Adds: some().L[0]}, {Adds: some().L[2]}, {Adds: some().L[1]}}, some()},
		"a hundred, the greatest": {[]api.Edit{{Adds: greatest().L[3]}}, greatest()},
		"four hundred":            {[]api.Edit{{Adds: many(100, 0).L[0]}, {Adds: many(100, 1).L[1]}, {Adds: many(100, 2).L[2]}, {Adds: many(100, 3).L[3]}}, many(100, 0, 1, 2, 3)},
	} {
		tells(t, what, counts(t, edits(x.l...)), api.State{Num: 5, V: x.want})
	}
}

// wrongRecords are no edits.
func wrongRecords() map[string]string {
	whole := encoded(api.Edit{Log: 3, Dels: []api.Gone{gone(1, 300)}, Adds: []api.File{file(0, 6, "a", "b")}})[0]
	out := map[string]string{"of no bytes": "", "a byte behind": whole + "\x00", "a byte less": whole[:len(whole)-1], "a text": "MANIFEST-000005\n", "more bytes than are needed": "\x80\x00\x00\x00\x00\x00", "Log above": "\x81\x80\x80\x80\x80\x20\x00\x00\x00\x00", "level 4": "\x00\x00\x00\x01\x04\x01\x00", "number 0": "\x00\x00\x00\x01\x01\x00\x00"}
	for n := range len(whole) {
		out["cut at "+string(rune('A'+n))] = whole[:n]
	}
	return out
}

// P15.2: each record is an edit, wherever it stands.
func TestWrongRecords(t *testing.T) {
	for what, record := range wrongRecords() {
		good := encoded(adds(file(0, 6, "a", "b")), api.Edit{Last: 7})
		refuses(t, what+", alone", counts(t, records(record)), api.ErrManifestForm)
		refuses(t, what+", first", counts(t, records(record, good[0])), api.ErrManifestForm)
		refuses(t, what+", in the midst", counts(t, records(good[0], record, good[1])), api.ErrManifestForm)
		refuses(t, what+", last", counts(t, records(good[0], good[1], record)), api.ErrManifestForm)
		refuses(t, what+", a torn one behind", counts(t, records(good[0], record)+"\x00"), api.ErrManifestForm)
	}
}

// P15.2: each edit can be applied to what the ones ahead made.
func TestEditsThatCannotBe(t *testing.T) {
	first := adds(file(1, 3, "a", "c"), file(0, 5, "a", "z"))
	for what, x := range map[string]api.Edit{
		"no such file":              dels(gone(1, 4)),
		"in another level":          dels(gone(0, 3)),
		"gone twice":                dels(gone(1, 3), gone(1, 3)),
		"the same number":           adds(file(1, 3, "x", "y")),
		"in another level the same": adds(file(2, 5, "x", "y")),
		"added twice":               adds(file(2, 9, "x", "y"), file(3, 9, "x", "y")),
		"over another one":          adds(file(1, 9, "c", "d")),
		"the second over the first": adds(file(2, 9, "c", "d"), file(2, 10, "d", "e")),
		"with numbers too":          {Log: 1, Next: 2, Last: 3, Dels: []api.Gone{gone(3, 3)}},
	} {
		good := dels(gone(1, 3))
		tells(t, "without it", counts(t, edits(first, good)), api.State{Num: 5, V: stand(file(0, 5, "a", "z"))})
		refuses(t, what+", last", counts(t, edits(first, x)), api.ErrManifestForm)
		refuses(t, what+", in the midst", counts(t, edits(first, x, good)), api.ErrManifestForm)
		refuses(t, what+", a torn one behind", counts(t, edits(first, x)+"\x01\x02"), api.ErrManifestForm)
	}
	for _, x := range []api.Edit{dels(gone(1, 3)), {Dels: []api.Gone{gone(0, 1)}, Adds: []api.File{file(0, 1, "a", "b")}}, adds(file(1, 9, "c", "d"), file(1, 10, "d", "e"))} {
		refuses(t, "of no files", counts(t, edits(x)), api.ErrManifestForm)
		refuses(t, "of no files, others behind", counts(t, edits(x, first)), api.ErrManifestForm)
	}
}

// P15.2: a manifest that is cut at any byte tells what its whole records tell.
func TestTornManifest(t *testing.T) {
	l := []api.Edit{{Log: 1}, adds(some().L[1]...), {Next: 2, Last: 3, Dels: []api.Gone{gone(1, 25)}}, adds(some().L[0]...), {Last: 9}}
	told := []api.State{
		{Num: 5, Log: 1},
		{Num: 5, Log: 1, V: stand(some().L[1]...)},
		{Num: 5, Log: 1, Next: 2, Last: 3, V: stand(some().L[1][0], some().L[1][2])},
		{Num: 5, Log: 1, Next: 2, Last: 3, V: stand(append(some().L[0], some().L[1][0], some().L[1][2])...)},
		{Num: 5, Log: 1, Next: 2, Last: 9, V: stand(append(some().L[0], some().L[1][0], some().L[1][2])...)},
	}
	b := edits(l...)
	for n := range len(b) + 1 {
		whole := 0
		for whole < len(l) && len(edits(l[:whole+1]...)) <= n {
			whole++
		}
		f := counts(t, b[:n])
		if whole == 0 {
			refuses(t, "cut ahead of the first record's end", f, api.ErrManifestForm)
			continue
		}
		tells(t, "cut", f, told[whole-1])
	}
	f := counts(t, b)
	ok(t, f.Damage("MANIFEST-000005", len(b)-1, 1))
	tells(t, "its last byte is another one", f, told[len(l)-2])
}

// P15.2: a manifest with bytes of which none can be read is refused, though records ahead of them can.
func TestCorruptManifest(t *testing.T) {
	b := edits(api.Edit{Log: 1}, adds(some().L[1]...), api.Edit{Last: 9})
	end := len(edits(api.Edit{Log: 1}, adds(some().L[1]...)))
	for at := range end {
		f := counts(t, b)
		ok(t, f.Damage("MANIFEST-000005", at, 0x40))
		// The length of a piece may tell that it has more bytes than are left; none of these does.
		refuses(t, "a byte is another one", f, api.ErrManifestForm)
	}
	for at := end; at < len(b); at++ {
		f := counts(t, b)
		ok(t, f.Damage("MANIFEST-000005", at, 0x01))
		if at-end == 4 || at-end == 5 {
			continue
		}
		tells(t, "a byte of the last piece is another one", f, api.State{Num: 5, Log: 1, V: stand(some().L[1]...)})
	}
	refuses(t, "behind the records", counts(t, b+"\x00\x00\x00\x00\x00\x00\x00"+"\x00"), api.ErrManifestForm)
	tells(t, "few behind the records", counts(t, b+"\x00\x00\x00\x00\x00\x00"), api.State{Num: 5, Log: 1, Last: 9, V: stand(some().L[1]...)})
}

// P15.2: simfs' error of reading: with the power off nothing is told, whatever is there.
func TestLoadOff(t *testing.T) {
	for what, f := range map[string]*simfs.FS{
		"no files":     fresh(t, 10),
		"no manifest":  laid(t, files{"CURRENT": "MANIFEST-000005\n"}),
		"no name":      laid(t, files{"CURRENT": "x"}),
		"all is there": counts(t, edits(api.Edit{Last: 9})),
	} {
		_, was := manifest.Load(f)
		f.Fuse(0)
		refuses(t, what, f, api.ErrFsDown)
		f.Fuse(1)
		f.Fail(0)
		if _, err := manifest.Load(f); err != was {
			t.Errorf("%s: %d; want %d", what, err, was)
		}
	}
}

// P15.2, R3: Load changes nothing, and is no change.
func TestLoadChangesNothing(t *testing.T) {
	for what, f := range map[string]*simfs.FS{
		"no files":   fresh(t, 10),
		"a state":    begun(t),
		"a torn one": counts(t, edits(api.Edit{Last: 9})+"x"),
		"faulty":     counts(t, edits(dels(gone(1, 1)))),
	} {
		was, ops := look(t, f), f.Ops()
		f.Fail(0)
		s, err := manifest.Load(f)
		for range 3 {
			if again, wrong := manifest.Load(f); wrong != err || !same(again, s) {
				t.Errorf("%s: %d, %+v; and first %d, %+v", what, wrong, again, err, s)
			}
		}
		if !maps.Equal(look(t, f), was) || f.Ops() != ops {
			t.Errorf("%s: something is changed", what)
		}
		wrong(t, what, f.Create("y"), api.ErrFsIo)
	}
}
