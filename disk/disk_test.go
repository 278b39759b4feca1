package disk

import (
	"fmt"
	"maps"
	"math/rand"
	"slices"
	"strings"
	"testing"

	"dowel/api"
)

func empty(t *testing.T, capacity int) *Disk {
	d, e := New(capacity)
	if e != api.OK {
		t.Fatalf("New: %d", e)
	}
	return d
}

// must fails if one of some operations has returned an error.
func must(t *testing.T, l ...api.Errno) {
	t.Helper()
	for i, e := range l {
		if e != api.OK {
			t.Fatalf("%d: error %d", i, e)
		}
	}
}

// contents returns all names with the bytes of their files.
func contents(d *Disk) string {
	var l []string
	for _, name := range d.Names() {
		data, _ := d.Read(name)
		l = append(l, name+"="+data)
	}
	return strings.Join(l, " ")
}

// P51.1
func TestNew(t *testing.T) {
	for capacity, want := range map[int]api.Errno{0: api.OK, 1: api.OK, MaxCapacity: api.OK, -1: api.ErrRange, MaxCapacity + 1: api.ErrRange} {
		d, e := New(capacity)
		if e != want || (d == nil) != (e != api.OK) || d.Free() != max(0, capacity)*int(1-min(1, want)) || d.Down() || len(d.Names()) != 0 {
			t.Errorf("New(%d) = %v, %d", capacity, d, e)
		}
	}
}

// P51.2, P51.3, P51.5
func TestOperations(t *testing.T) {
	d := empty(t, 10)
	must(t, d.Append("b", "xyz"), d.Append("a", ""), d.Append("b", "12"), d.Sync("b"), d.Append("c.d-0", "q"))
	if s := contents(d); s != "a= b=xyz12 c.d-0=q" || d.Free() != 4 {
		t.Errorf("the files are %s, Free is %d", s, d.Free())
	}
	for i, c := range []struct {
		e, want api.Errno
	}{
		{d.Append("A", strings.Repeat("x", 11)), api.ErrName}, {d.Append("", ""), api.ErrName}, {d.Append(strings.Repeat("x", 41), ""), api.ErrName}, {d.Append("a_b", ""), api.ErrName}, {d.Append("a", "12345"), api.ErrFull}, {d.Append("new", "12345"), api.ErrFull}, {d.Sync("x"), api.ErrNotFound}, {d.Sync("?"), api.ErrNotFound}, {d.Rename("x", "?"), api.ErrNotFound}, {d.Rename("a", "?"), api.ErrName}, {d.Rename("a", ""), api.ErrName}, {d.Remove("x"), api.ErrNotFound},
	} {
		if c.e != c.want {
			t.Errorf("%d: error %d, not %d", i, c.e, c.want)
		}
	}
	if data, e := d.Read("x"); data != "" || e != api.ErrNotFound {
		t.Errorf("Read = %q, %d", data, e)
	}
	if n, e := d.Size("x"); n != 0 || e != api.ErrNotFound {
		t.Errorf("Size = %d, %d", n, e)
	}
	if n, e := d.Size("b"); n != 5 || e != api.OK {
		t.Errorf("Size = %d, %d", n, e)
	}
	must(t, d.Append("a", "1234"), d.Rename("b", "a"), d.Rename("c.d-0", "c.d-0"))
	if s := contents(d); s != "a=xyz12 c.d-0=q" || d.Free() != 4 {
		t.Errorf("the files are %s, Free is %d", s, d.Free())
	}
	must(t, d.Remove("a"), d.Append("a", "n"), d.Publish())
	if s := contents(d); s != "a=n c.d-0=q" || d.Free() != 8 {
		t.Errorf("the files are %s, Free is %d", s, d.Free())
	}
	full := empty(t, 0)
	for i := range MaxFiles {
		must(t, full.Append(fmt.Sprint(i), ""))
	}
	if e := full.Append("x", "1"); e != api.ErrLimit {
		t.Errorf("Append = %d", e)
	}
	if e := full.Append("0", "1"); e != api.ErrFull {
		t.Errorf("Append = %d", e)
	}
	must(t, full.Append("0", ""), full.Remove("0"), full.Append("x", ""))
}

// Methods of a nil disk, and of one that is down.
func TestNilAndDown(t *testing.T) {
	down := empty(t, 10)
	must(t, down.Append("a", "x"), down.Sync("a"), down.Publish())
	down.Crash()
	for i, c := range []struct {
		d    *Disk
		want api.Errno
	}{{nil, api.ErrArgument}, {down, api.ErrState}} {
		data, e1 := c.d.Read("a")
		n, e2 := c.d.Size("a")
		got := []api.Errno{c.d.Append("?", strings.Repeat("x", 11)), c.d.Sync("x"), c.d.Rename("x", "?"), c.d.Remove("x"), c.d.Publish(), e1, e2, c.d.Limit(1)}
		if data != "" || n != 0 || len(c.d.Names()) != 0 || c.d.Free() != 0 || c.d.Down() != (c.d != nil) || !slices.Equal(got, slices.Repeat([]api.Errno{c.want}, 8)) {
			t.Errorf("%d: %d", i, got)
		}
	}
	var none *Disk
	none.Crash()
	none.Start([]int{1})
	if none.Clone() != nil {
		t.Error("Clone")
	}
	down.Crash()
	down.Start(nil)
	if contents(down) != "a=x" || down.Down() || down.Free() != 9 {
		t.Errorf("the files are %s", contents(down))
	}
}

// P51.6
func TestStart(t *testing.T) {
	for i, c := range []struct {
		script []int
		want   string
	}{
		// The first number chooses among the five pending operations, the others for the names a, b and so on.
		{nil, "a=abc"}, {[]int{0, 1, 1}, "a=abc\x9b"}, {[]int{0, 1}, "a=abcd"}, {[]int{0, 2}, "a=abcde"}, {[]int{0, 2, 1}, "a=abcd\x9a"}, {[]int{0, 3}, "a=abc"}, {[]int{0, 5, 3}, "a=abcd\x9a"}, {[]int{0, -1, 1}, "a=abc"}, {[]int{-5, 1, -1}, "a=abcd"},
		{[]int{1}, "a=abc b="}, {[]int{1, 0, 3, 1}, "a=abc b=xy\x85"}, {[]int{1, 2, 0, 3}, "a=abcde b=xyz"}, {[]int{2, 0, 2}, "a=abc c=xy"}, {[]int{3, 3}, "c=xyz"}, {[]int{3, 3, 9}, "c=xy\x85"}, {[]int{3, 4}, "c="}, {[]int{4, 1}, "c=x d="}, {[]int{4, 0, 2, 1}, "c= d=1\xcd"}, {[]int{5, 1}, "c=1"}, {[]int{6, 1, 1}, "a=abc\x9b"}, {[]int{11, 2, 1}, "c=1\xcd"},
	} {
		d := empty(t, 100)
		must(t, d.Append("a", "abc"), d.Sync("a"), d.Publish(), d.Append("a", "de"))
		must(t, d.Append("b", "xyz"), d.Rename("b", "c"), d.Remove("a"), d.Append("d", "12"), d.Rename("d", "c"), d.Limit(9))
		d.Start([]int{1})
		if contents(d) != "c=12" {
			t.Fatal("a disk is started that is not down")
		}
		d.Crash()
		d.Start(c.script)
		if s := contents(d); s != c.want {
			t.Errorf("%d: the files are %q", i, s)
		}
		// Everything is durable then, and there is no limit.
		for range 20 {
			must(t, d.Publish())
		}
		d.Crash()
		d.Start([]int{1, 1, 1, 1})
		if s := contents(d); s != c.want {
			t.Errorf("%d: the files are %q", i, s)
		}
	}
	// The choices for names without anything to lose take a number of the script, too.
	d := empty(t, 100)
	must(t, d.Append("a", "x"), d.Sync("a"), d.Append("b", "yz"), d.Publish())
	d.Crash()
	d.Start([]int{7, 7, 1, 1})
	if s := contents(d); s != "a=x b=\x86" {
		t.Errorf("the files are %q", s)
	}
	unnamed := empty(t, 100)
	must(t, unnamed.Append("a", "x"), unnamed.Sync("a"))
	unnamed.Crash()
	unnamed.Start(nil)
	if len(unnamed.Names()) > 0 {
		t.Errorf("the files are %q", contents(unnamed))
	}
}

// P51.6
func TestLimit(t *testing.T) {
	d := empty(t, 100)
	must(t, d.Limit(1), d.Append("a", "abc"))
	if e := d.Sync("a"); e != api.ErrCrash || !d.Down() {
		t.Errorf("Sync = %d", e)
	}
	if e := d.Sync("a"); e != api.ErrState {
		t.Errorf("Sync = %d", e)
	}
	for i, c := range []struct {
		operation func(d *Disk) api.Errno
		script    []int
		want      string
	}{
		// Append, Rename and Remove have their effects, which are not durable.
		{func(d *Disk) api.Errno { return d.Append("a", "y") }, []int{0, 1}, "a=xy"}, {func(d *Disk) api.Errno { return d.Append("b", "y") }, []int{1, 0, 1}, "a=x b=y"}, {func(d *Disk) api.Errno { return d.Rename("a", "b") }, []int{1}, "b=x"}, {func(d *Disk) api.Errno { return d.Rename("a", "b") }, nil, "a=x"}, {func(d *Disk) api.Errno { return d.Remove("a") }, []int{1}, ""}, {func(d *Disk) api.Errno { return d.Remove("a") }, nil, "a=x"},
	} {
		d := empty(t, 100)
		must(t, d.Append("a", "x"), d.Sync("a"), d.Publish(), d.Limit(0))
		if e := c.operation(d); e != api.ErrCrash || !d.Down() {
			t.Errorf("%d: error %d", i, e)
		}
		d.Start(c.script)
		if s := contents(d); s != c.want {
			t.Errorf("%d: the files are %q", i, s)
		}
	}
	// Sync and Publish have none.
	d = empty(t, 100)
	must(t, d.Append("a", "x"), d.Publish(), d.Limit(0), d.Limit(-1), d.Limit(0))
	if e := d.Sync("a"); e != api.ErrCrash {
		t.Errorf("Sync = %d", e)
	}
	d.Start(nil)
	must(t, d.Append("b", ""), d.Limit(0))
	if e := d.Publish(); e != api.ErrCrash {
		t.Errorf("Publish = %d", e)
	}
	d.Start(nil)
	if s := contents(d); s != "a=" {
		t.Errorf("the files are %q", s)
	}
	// What is refused does not count, nor what only looks.
	must(t, d.Limit(1))
	d.Append("?", "")
	d.Sync("x")
	d.Rename("x", "y")
	d.Remove("x")
	d.Read("a")
	d.Size("a")
	d.Names()
	must(t, d.Append("a", ""), d.Limit(-3), d.Append("a", "y"), d.Append("a", "z"))
	if d.Down() {
		t.Error("the disk is down")
	}
}

// P51.6
func TestClone(t *testing.T) {
	d := empty(t, 100)
	must(t, d.Append("a", "abc"), d.Publish(), d.Append("b", "xyz"), d.Rename("b", "c"), d.Append("n", "new"), d.Remove("n"), d.Limit(5))
	c := d.Clone()
	must(t, d.Append("a", "1"), d.Append("c", "2"), d.Sync("c"))
	if s := contents(c); s != "a=abc c=xyz" {
		t.Errorf("the files are %q", s)
	}
	d.Crash()
	// The new file that was removed is there again, without its bytes.
	d.Start([]int{3, 0, 3, 0})
	if s := contents(d); s != "a= c=xyz2 n=" {
		t.Errorf("the files are %q", s)
	}
	twice := c.Clone()
	if c.Down() {
		t.Error("the clone is down")
	}
	must(t, c.Append("c", "3"), c.Publish(), c.Publish(), c.Publish(), c.Publish())
	if e := c.Publish(); e != api.ErrCrash {
		t.Errorf("Publish = %d", e)
	}
	twice.Crash()
	down := twice.Clone()
	for _, x := range []*Disk{twice, down} {
		x.Start([]int{3, 3, 0, 3, 0, 2})
		if s := contents(x); s != "a=abc c=xyz n=ne" {
			t.Errorf("the files are %q", s)
		}
	}
}

// model is a disk that keeps all names that it had since they were durable last.
type model struct {
	history []map[string]*[2]string // the bytes that are durable, and the others
}

func (m *model) now() map[string]*[2]string { return m.history[len(m.history)-1] }

// change adds names that a function has changed.
func (m *model) change(f func(names map[string]*[2]string)) {
	next := maps.Clone(m.now())
	f(next)
	m.history = append(m.history, next)
}

// start returns what is there behind a failure.
func (m *model) start(script []int) string {
	choose := func(most int) int {
		if len(script) == 0 {
			return 0
		}
		n := script[0] % (most + 1)
		script = script[1:]
		return n
	}
	names := m.history[choose(len(m.history)-1)]
	var l []string
	for _, name := range slices.Sorted(maps.Keys(names)) {
		f := names[name]
		kept := []byte(f[1][:choose(len(f[1]))])
		if len(kept) > 0 && choose(1) == 1 {
			kept[len(kept)-1] ^= 255
		}
		l = append(l, name+"="+f[0]+string(kept))
	}
	return strings.Join(l, " ")
}

// act performs the same random operation on both.
func act(r *rand.Rand, d *Disk, m *model) {
	name, other := string(rune('a'+r.Intn(4))), string(rune('a'+r.Intn(4)))
	f := m.now()[name]
	switch r.Intn(6) {
	case 0, 1:
		data := strings.Repeat(string(rune('0'+r.Intn(10))), r.Intn(4))
		d.Append(name, data)
		if f != nil {
			f[1] += data
		} else {
			m.change(func(names map[string]*[2]string) { names[name] = &[2]string{"", data} })
		}
	case 2:
		if d.Sync(name) == api.OK {
			*f = [2]string{f[0] + f[1]}
		}
	case 3:
		if d.Rename(name, other) == api.OK {
			m.change(func(names map[string]*[2]string) { delete(names, name); names[other] = f })
		}
	case 4:
		if d.Remove(name) == api.OK {
			m.change(func(names map[string]*[2]string) { delete(names, name) })
		}
	case 5:
		d.Publish()
		m.history = m.history[len(m.history)-1:]
	}
}

// P51.7
func TestFailures(t *testing.T) {
	r := rand.New(rand.NewSource(1))
	for range 2000 {
		d := empty(t, 1000)
		m := &model{[]map[string]*[2]string{{}}}
		for range r.Intn(20) {
			act(r, d, m)
		}
		for range 3 {
			script := []int{r.Intn(9), r.Intn(9), r.Intn(9), r.Intn(9), r.Intn(9), r.Intn(9)}
			c := d.Clone()
			c.Crash()
			c.Start(script)
			if s, want := contents(c), m.start(script); s != want {
				t.Fatalf("the files are %q, not %q", s, want)
			}
		}
	}
}

// P51.7: a file is replaced by another one.
func TestReplacement(t *testing.T) {
	for limit := range 5 {
		for first := range 4 {
			for second := range 4 {
				d := empty(t, 100)
				must(t, d.Append("a", "old"), d.Sync("a"), d.Publish(), d.Limit(limit))
				for _, step := range []func() api.Errno{func() api.Errno { return d.Append("n", "new") }, func() api.Errno { return d.Sync("n") }, func() api.Errno { return d.Rename("n", "a") }, d.Publish} {
					if step() != api.OK {
						break
					}
				}
				d.Crash()
				d.Start([]int{first, second, second, second})
				if data, _ := d.Read("a"); data != "new" && (data != "old" || limit == 4) {
					t.Errorf("%d, %d, %d: the file is %q", limit, first, second, data)
				}
			}
		}
	}
}

// Behind a failure, files can have more bytes than the capacity.
func TestMoreThanCapacity(t *testing.T) {
	d := empty(t, 4)
	must(t, d.Append("a", "abc"), d.Sync("a"), d.Publish(), d.Remove("a"), d.Append("b", "defg"), d.Sync("b"))
	d.Crash()
	d.Start([]int{2})
	if s := contents(d); s != "b=defg" {
		t.Errorf("the files are %q", s)
	}
	must(t, d.Append("c", ""), d.Remove("b"), d.Append("c", "hijk"), d.Sync("c"))
	d.Crash()
	d.Start([]int{1})
	if s := contents(d); s != "b=defg c=hijk" || d.Free() != 0 {
		t.Errorf("the files are %q, Free is %d", s, d.Free())
	}
	if e := d.Append("c", ""); e != api.ErrFull {
		t.Errorf("Append = %d", e)
	}
	must(t, d.Remove("b"), d.Append("c", ""))
}
