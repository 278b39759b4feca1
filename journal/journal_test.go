package journal

import (
	"fmt"
	"hash/adler32"
	"math/rand"
	"slices"
	"strings"
	"testing"

	"dowel/api"
	"dowel/disk"
)

func newDisk(t *testing.T, capacity int) *disk.Disk {
	d, e := disk.New(capacity)
	if e != api.OK {
		t.Fatalf("New: %d", e)
	}
	return d
}

func open(t *testing.T, d *disk.Disk) *Journal {
	t.Helper()
	j, e := Open(d, "j")
	if e != api.OK {
		t.Fatalf("Open: %d", e)
	}
	return j
}

func must(t *testing.T, l ...api.Errno) {
	t.Helper()
	for i, e := range l {
		if e != api.OK {
			t.Fatalf("%d: error %d", i, e)
		}
	}
}

// commit appends records, and commits them.
func commit(t *testing.T, j *Journal, records ...string) {
	t.Helper()
	for _, r := range records {
		if _, e := j.Append(r); e != api.OK {
			t.Fatalf("Append: %d", e)
		}
	}
	if n, e := j.Commit(); e != api.OK || n != j.Last() {
		t.Fatalf("Commit: %d, %d", n, e)
	}
}

// state returns what a journal has.
func state(j *Journal) string {
	l, e := j.Records(j.First())
	return fmt.Sprint(j.First(), j.Last(), j.Pending(), l, e)
}

func frame(record string) string {
	s, _ := Frame(record)
	return s
}

// P52.1
func TestCheckAndFrame(t *testing.T) {
	r := rand.New(rand.NewSource(1))
	if n := Check("a"); n != 6422626 {
		t.Errorf("Check = %d", n)
	}
	for _, size := range []int{0, 1, 5, 300, 70000, 200000} {
		b := make([]byte, size)
		r.Read(b)
		if n := Check(string(b)); n != int(adler32.Checksum(b)) {
			t.Errorf("Check = %d", n)
		}
	}
	if n := Check(strings.Repeat("\xff", 100000)); n != int(adler32.Checksum([]byte(strings.Repeat("\xff", 100000)))) {
		t.Errorf("Check = %d", n)
	}
	for i, c := range []struct {
		record, want string
		e            api.Errno
	}{{"", "\x00\x00\x00\x00\x00\x00\x00\x01", 0}, {"a", "\x00\x00\x00\x01\x00\x62\x00\x62a", 0}, {strings.Repeat("x", MaxRecord+1), "", api.ErrLong}} {
		if s, e := Frame(c.record); s != c.want || e != c.e {
			t.Errorf("%d: Frame = %q, %d", i, s, e)
		}
	}
	if s, e := Frame(strings.Repeat("x", MaxRecord)); len(s) != MaxRecord+8 || s[:4] != "\x00\x00\x10\x00" || e != api.OK {
		t.Errorf("Frame = %q, %d", s[:4], e)
	}
}

// P52.1
func TestScan(t *testing.T) {
	long := "\x00\x00\x10\x01" + word(Check(strings.Repeat("x", MaxRecord+1))) + strings.Repeat("x", MaxRecord+1)
	for i, c := range []struct {
		data    string
		first   int
		records string
		length  int
	}{
		{"", 1, "[]", 0}, {frame("1"), 1, "[]", 9}, {frame("1099511627776"), MaxFirst, "[]", 21}, {frame("7") + frame("x") + frame(""), 7, "[x ]", 26}, {frame("7") + frame("x") + frame("y")[:8], 7, "[x]", 18}, {frame("7") + frame("x") + "junk", 7, "[x]", 18}, {frame("7") + frame("x")[:8] + "y" + frame("z"), 7, "[]", 9}, {frame("7") + long, 7, "[]", 9}, {frame("7") + frame(strings.Repeat("x", MaxRecord)), 7, "[" + strings.Repeat("x", MaxRecord) + "]", 17 + MaxRecord}, {frame("7") + "\xff\xff\xff\xff\x00\x00\x00\x01", 7, "[]", 9},
		{frame("0"), 1, "[]", 0}, {frame("01"), 1, "[]", 0}, {frame("-1"), 1, "[]", 0}, {frame("+1"), 1, "[]", 0}, {frame("1099511627777"), 1, "[]", 0}, {frame("99999999999999999999"), 1, "[]", 0}, {frame("") + frame("x"), 1, "[]", 0}, {frame("x") + frame("x"), 1, "[]", 0}, {frame("1")[:8], 1, "[]", 0}, {frame("1")[:8] + "2", 1, "[]", 0}, {"1", 1, "[]", 0},
	} {
		first, records, length := Scan(c.data)
		if first != c.first || fmt.Sprint(records) != c.records || length != c.length {
			t.Errorf("%d: Scan = %d, %v, %d", i, first, records, length)
		}
	}
}

// P52.2
func TestOpen(t *testing.T) {
	down := newDisk(t, 100)
	down.Crash()
	for i, c := range []struct {
		d    *disk.Disk
		name string
		want api.Errno
	}{{nil, "?", api.ErrArgument}, {down, "?", api.ErrName}, {down, "", api.ErrName}, {down, strings.Repeat("x", 37), api.ErrName}, {down, "j", api.ErrState}, {newDisk(t, 100), strings.Repeat("x", 36), api.OK}} {
		if j, e := Open(c.d, c.name); e != c.want || (j == nil) != (e != api.OK) {
			t.Errorf("%d: Open: %d", i, e)
		}
	}
	whole := frame("5") + frame("x") + frame("y")
	for i, c := range []struct {
		log, new string // - is no file
		want     string // the state
		left     string // the file
		count    int    // operations
	}{
		{"-", "-", "1 0 0 [] 0", "-", 0}, {whole, "-", "5 6 0 [x y] 0", whole, 0}, {frame("5"), "-", "5 4 0 [] 0", frame("5"), 0}, {whole + "junk", "-", "5 6 0 [x y] 0", whole, 4}, {whole[:len(whole)-1], "-", "5 5 0 [x] 0", whole[:18], 4}, {"", "-", "1 0 0 [] 0", "-", 2}, {"junk", "-", "1 0 0 [] 0", "-", 2}, {whole, "", "5 6 0 [x y] 0", whole, 1}, {"-", whole, "1 0 0 [] 0", "-", 1}, {whole + "j", whole, "5 6 0 [x y] 0", whole, 5}, {"", "x", "1 0 0 [] 0", "-", 3},
	} {
		for limit := range c.count + 1 {
			d := newDisk(t, 1000)
			for name, data := range map[string]string{"j.log": c.log, "j.new": c.new} {
				if data != "-" {
					must(t, d.Append(name, data), d.Sync(name))
				}
			}
			must(t, d.Publish(), d.Limit(limit))
			j, e := Open(d, "j")
			if limit < c.count {
				if j != nil || e != api.ErrCrash {
					t.Errorf("%d: Open: %d", i, e)
				}
				d.Start([]int{limit, limit, limit})
				if j, e := Open(d, "j"); e != api.OK || state(j) != c.want {
					t.Errorf("%d: Open: %s, %d", i, state(j), e)
				}
				continue
			}
			left, e2 := d.Read("j.log")
			if e2 == api.ErrNotFound {
				left = "-"
			}
			if _, e3 := d.Read("j.new"); e != api.OK || state(j) != c.want || left != c.left || e3 != api.ErrNotFound {
				t.Errorf("%d: Open: %s, %d, and the file is %q", i, state(j), e, left)
			}
			if again, e := Open(d, "j"); e != api.OK || state(again) != c.want {
				t.Errorf("%d: Open: %s, %d", i, state(again), e)
			}
			if c.new == "-" && e == api.OK && d.Publish() != api.ErrCrash {
				t.Errorf("%d: there were fewer operations", i)
			}
		}
	}
	full := newDisk(t, 20)
	must(t, full.Append("j.log", frame("1")+frame("x")+"!"))
	if j, e := Open(full, "j"); j != nil || e != api.ErrFull {
		t.Errorf("Open: %d", e)
	}
}

// P52.3, P52.4
func TestRecords(t *testing.T) {
	d := newDisk(t, 100000)
	j := open(t, d)
	if n, e := j.Commit(); n != 0 || e != api.OK || len(d.Names()) > 0 {
		t.Errorf("Commit: %d, %d", n, e)
	}
	for i, r := range []string{"x", "", "z"} {
		if n, e := j.Append(r); n != i+1 || e != api.OK || j.Last() != 0 || j.Pending() != i+1 {
			t.Errorf("Append: %d, %d", n, e)
		}
	}
	if l, e := j.Records(1); len(l) != 0 || e != api.OK {
		t.Errorf("Records: %v, %d", l, e)
	}
	if n, e := j.Commit(); n != 3 || e != api.OK || state(j) != "1 3 0 [x  z] 0" {
		t.Errorf("Commit: %d, %d, %s", n, e, state(j))
	}
	if data, _ := d.Read("j.log"); data != frame("1")+frame("x")+frame("")+frame("z") || !slices.Equal(d.Names(), []string{"j.log"}) {
		t.Errorf("the file is %q", data)
	}
	j.Append("lost")
	if e := j.Discard(); e != api.OK || j.Pending() != 0 {
		t.Errorf("Discard: %d", e)
	}
	if n, e := j.Commit(); n != 3 || e != api.OK {
		t.Errorf("Commit: %d, %d", n, e)
	}
	if n, e := j.Append(strings.Repeat("x", MaxRecord+1)); n != 0 || e != api.ErrLong {
		t.Errorf("Append: %d, %d", n, e)
	}
	for i := range MaxPending {
		if n, e := j.Append("p"); n != 4+i || e != api.OK {
			t.Errorf("Append: %d, %d", n, e)
		}
	}
	if n, e := j.Append("p"); n != 0 || e != api.ErrLimit || j.Pending() != MaxPending {
		t.Errorf("Append: %d, %d", n, e)
	}
	if n, e := j.Append(strings.Repeat("x", MaxRecord+1)); n != 0 || e != api.ErrLong {
		t.Errorf("Append: %d, %d", n, e)
	}
	j.Discard()
	for i, c := range []struct {
		from int
		want string
		e    api.Errno
	}{{1, "[x  z]", 0}, {3, "[z]", 0}, {4, "[]", 0}, {0, "[]", api.ErrNotFound}, {5, "[]", api.ErrNotFound}, {-1, "[]", api.ErrNotFound}} {
		if l, e := j.Records(c.from); fmt.Sprint(l) != c.want || e != c.e {
			t.Errorf("%d: Records: %v, %d", i, l, e)
		}
	}
	l, _ := j.Records(1)
	l[0] = "changed"
	if state(j) != "1 3 0 [x  z] 0" || state(open(t, d)) != state(j) {
		t.Errorf("the journal has %s", state(j))
	}
}

// P52.3: the operations of Commit.
func TestCommitOperations(t *testing.T) {
	for i, c := range []struct {
		records []string
		count   int
	}{{nil, 3}, {[]string{"old"}, 2}} {
		for limit := range c.count + 1 {
			d := newDisk(t, 1000)
			j := open(t, d)
			commit(t, j, c.records...)
			j.Append("x")
			j.Append("y")
			must(t, d.Limit(limit))
			n, e := j.Commit()
			if want := limit == c.count; (e == api.OK) != want || want && n != len(c.records)+2 || !want && (n != 0 || e != api.ErrCrash || j.Last() != 0) {
				t.Errorf("%d: Commit behind %d operations: %d, %d", i, limit, n, e)
			}
		}
	}
	d := newDisk(t, 30)
	j := open(t, d)
	j.Append(strings.Repeat("x", 14))
	if n, e := j.Commit(); n != 0 || e != api.ErrFull || state(j) != "1 0 1 [] 0" {
		t.Errorf("Commit: %d, %d, %s", n, e, state(j))
	}
	must(t, j.Discard())
	commit(t, j, strings.Repeat("x", 13))
	many := newDisk(t, 1000)
	for i := range disk.MaxFiles {
		must(t, many.Append(fmt.Sprint(i), ""))
	}
	j = open(t, many)
	j.Append("x")
	if n, e := j.Commit(); n != 0 || e != api.ErrLimit || state(j) != "1 0 1 [] 0" {
		t.Errorf("Commit: %d, %d, %s", n, e, state(j))
	}
	must(t, many.Remove("0"))
	if n, e := j.Commit(); n != 1 || e != api.OK {
		t.Errorf("Commit: %d, %d", n, e)
	}
	many.Append("z", "")
	if e := j.Cut(2); e != api.ErrLimit || state(j) != "1 1 0 [x] 0" {
		t.Errorf("Cut: %d, %s", e, state(j))
	}
}

// P52.5
func TestCut(t *testing.T) {
	d := newDisk(t, 1000)
	j := open(t, d)
	commit(t, j, "1", "2", "3", "4", "5")
	must(t, j.Cut(1), d.Limit(4), j.Cut(4), d.Limit(-1))
	if state(j) != "4 5 0 [4 5] 0" || state(open(t, d)) != state(j) || !slices.Equal(d.Names(), []string{"j.log"}) {
		t.Errorf("the journal has %s", state(j))
	}
	if n, e := j.Append("6"); n != 6 || e != api.OK {
		t.Errorf("Append: %d, %d", n, e)
	}
	if e := j.Cut(99); e != api.ErrConflict {
		t.Errorf("Cut: %d", e)
	}
	commit(t, j)
	for _, first := range []int{3, 8, -1, 0} {
		if e := j.Cut(first); e != api.ErrNotFound {
			t.Errorf("Cut(%d): %d", first, e)
		}
	}
	must(t, d.Limit(0), j.Cut(4), d.Limit(-1), j.Cut(7))
	if state(j) != "7 6 0 [] 0" || state(open(t, d)) != state(j) {
		t.Errorf("the journal has %s", state(j))
	}
	commit(t, j, "7")
	if data, _ := d.Read("j.log"); data != frame("7")+frame("7") {
		t.Errorf("the file is %q", data)
	}
	last := newDisk(t, 1000)
	must(t, last.Append("j.log", frame("1099511627775")+frame("x")+frame("y")))
	j = open(t, last)
	if e := j.Cut(MaxFirst + 1); e != api.ErrRange {
		t.Errorf("Cut: %d", e)
	}
	if e := j.Cut(MaxFirst + 2); e != api.ErrNotFound {
		t.Errorf("Cut: %d", e)
	}
	must(t, j.Cut(MaxFirst))
	small := newDisk(t, 40)
	j = open(t, small)
	commit(t, j, "abcdefgh", "x")
	if e := j.Cut(2); e != api.ErrFull || state(j) != "1 2 0 [abcdefgh x] 0" || len(small.Names()) != 1 {
		t.Errorf("Cut: %d, %s", e, state(j))
	}
}

// Nil journals, and broken ones.
func TestNilAndBroken(t *testing.T) {
	crash := func(break1 func(d *disk.Disk, j *Journal)) *Journal {
		d := newDisk(t, 1000)
		j := open(t, d)
		commit(t, j, "x", "y")
		break1(d, j)
		d.Start(nil)
		return j
	}
	committing := func(limit int) func(d *disk.Disk, j *Journal) {
		return func(d *disk.Disk, j *Journal) {
			must(t, d.Limit(limit))
			j.Append("z")
			if n, e := j.Commit(); n != 0 || e != api.ErrCrash {
				t.Errorf("Commit: %d, %d", n, e)
			}
		}
	}
	cutting := func(d *disk.Disk, j *Journal) {
		must(t, d.Limit(3))
		if e := j.Cut(2); e != api.ErrCrash {
			t.Errorf("Cut: %d", e)
		}
	}
	down := func(d *disk.Disk, j *Journal) {
		d.Crash()
		j.Append("z")
		if n, e := j.Commit(); n != 0 || e != api.ErrState {
			t.Errorf("Commit: %d, %d", n, e)
		}
	}
	for i, c := range []struct {
		j    *Journal
		want api.Errno
	}{{nil, api.ErrArgument}, {crash(committing(0)), api.ErrState}, {crash(committing(1)), api.ErrState}, {crash(cutting), api.ErrState}, {crash(down), api.ErrState}} {
		n, e1 := c.j.Append(strings.Repeat("x", MaxRecord+1))
		m, e2 := c.j.Commit()
		l, e3 := c.j.Records(1)
		got := []api.Errno{e1, e2, e3, c.j.Discard(), c.j.Cut(99)}
		if n+m != 0 || l != nil || c.j.First()+c.j.Last()+c.j.Pending() != 0 || !slices.Equal(got, slices.Repeat([]api.Errno{c.want}, 5)) {
			t.Errorf("%d: %d", i, got)
		}
	}
	// A disk that is down and up again, with nothing in between, breaks nothing.
	d := newDisk(t, 1000)
	j := open(t, d)
	commit(t, j, "x")
	d.Crash()
	if state(j) != "1 1 0 [x] 0" {
		t.Errorf("the journal has %s", state(j))
	}
	d.Start(nil)
	commit(t, j, "y")
	if state(open(t, d)) != "1 2 0 [x y] 0" {
		t.Errorf("the journal has %s", state(j))
	}
}

// P52.6
func TestFailures(t *testing.T) {
	r := rand.New(rand.NewSource(1))
	for range 3000 {
		d := newDisk(t, 2000)
		j := open(t, d)
		var known []string // that were acknowledged
		first := 1
		for range 12 {
			must(t, d.Limit(r.Intn(8)))
			var added []string
			cut := 0
			var e api.Errno
			if r.Intn(4) == 0 && len(known) > 0 {
				cut = 1 + r.Intn(len(known))
				e = j.Cut(first + cut)
			} else {
				for i := range r.Intn(4) {
					added = append(added, strings.Repeat(string(rune('a'+i)), r.Intn(9)))
					j.Append(added[i])
				}
				_, e = j.Commit()
			}
			if e == api.OK {
				known, first = append(known[cut:], added...), first+cut
				d.Limit(-1)
				continue
			}
			if e != api.ErrCrash {
				t.Fatalf("error %d", e)
			}
			j = restart(t, r, d)
			l, _ := j.Records(j.First())
			if !isLeft(known, added, first, cut, l, j.First()) {
				t.Fatalf("behind a failure there are %v from %d on; known were %v from %d on, with %v, and cut %d", l, j.First(), known, first, added, cut)
			}
			known, first = l, j.First()
		}
	}
}

// restart starts a disk, and opens the journal, in which power can fail again.
func restart(t *testing.T, r *rand.Rand, d *disk.Disk) *Journal {
	for {
		d.Start([]int{r.Intn(9), r.Intn(99), r.Intn(2), r.Intn(99), r.Intn(2)})
		must(t, d.Limit(r.Intn(12)))
		j, e := Open(d, "j")
		if e == api.OK {
			d.Limit(-1)
			if again := open(t, d); state(again) != state(j) {
				t.Fatalf("opened again, the journal has %s, not %s", state(again), state(j))
			}
			return j
		}
	}
}

// isLeft reports whether records can be what is left.
func isLeft(known, added []string, first, cut int, l []string, at int) bool {
	if cut > 0 {
		return at == first && slices.Equal(l, known) || at == first+cut && slices.Equal(l, known[cut:])
	}
	// Without known records, the file can be gone.
	if at != first && (len(known) > 0 || first != 1) {
		return false
	}
	return len(l) >= len(known) && slices.Equal(l[:len(known)], known) && len(l) <= len(known)+len(added) && slices.Equal(l[len(known):], added[:len(l)-len(known)])
}

// P52.6: what is right of cut and damaged bytes is a beginning.
func TestDamage(t *testing.T) {
	records := []string{"first", "", "third", strings.Repeat("x", 40)}
	data := head(9) + frames(records)
	for n := range len(data) + 1 {
		for _, damage := range []byte{0, 255} {
			b := []byte(data[:n])
			if n > 0 {
				b[n-1] ^= damage
			}
			first, l, length := Scan(string(b))
			if length > n || len(l) > len(records) || !slices.Equal(l, records[:len(l)]) || len(l) > 0 && first != 9 {
				t.Errorf("Scan = %d, %v, %d", first, l, length)
			}
		}
	}
	if first, l, length := Scan(data); first != 9 || !slices.Equal(l, records) || length != len(data) {
		t.Errorf("Scan = %d, %v, %d", first, l, length)
	}
}
