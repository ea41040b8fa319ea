package simfs_test

import (
	"fmt"
	"maps"
	"math/rand"
	"slices"
	"testing"

	"staddle/api"
	"staddle/simfs"
)

// model is a file system that keeps all it ever had: each file by its number, and the names as they were behind each change of names, from when they last lasted on.
type model struct {
	quota, ops, fuse, fail int
	bytes                  [][]byte
	lasting                []int
	was                    []map[string]int
}

func newModel(quota int) *model {
	return &model{quota: quota, fuse: -1, fail: -1, was: []map[string]int{{}}}
}

func (m *model) now() map[string]int { return m.was[len(m.was)-1] }

func (m *model) begin() api.Errno {
	m.ops++
	if m.fuse == 0 {
		return api.ErrFsDown
	}
	m.fuse = max(m.fuse-1, -1)
	fails := m.fail == 0
	m.fail = max(m.fail-1, -1)
	if fails {
		return api.ErrFsIo
	}
	return api.OK
}

func (m *model) rename(change func(names map[string]int)) {
	names := maps.Clone(m.now())
	change(names)
	m.was = append(m.was, names)
}

func (m *model) create(name string) api.Errno {
	if err := m.begin(); err != api.OK {
		return err
	}
	if len(name) == 0 || len(name) > 32 {
		return api.ErrFsName
	}
	if _, there := m.now()[name]; there {
		return api.ErrFsExists
	}
	m.bytes, m.lasting = append(m.bytes, nil), append(m.lasting, 0)
	m.rename(func(names map[string]int) { names[name] = len(m.bytes) - 1 })
	return api.OK
}

func (m *model) of(name string, do func(file int) api.Errno) api.Errno {
	if err := m.begin(); err != api.OK {
		return err
	}
	file, there := m.now()[name]
	if !there {
		return api.ErrFsNone
	}
	return do(file)
}

func (m *model) append(name string, b []byte) api.Errno {
	return m.of(name, func(file int) api.Errno {
		all := len(b)
		for _, other := range m.now() {
			all += len(m.bytes[other])
		}
		if all > m.quota {
			return api.ErrFsFull
		}
		m.bytes[file] = slices.Concat(m.bytes[file], b)
		return api.OK
	})
}

func (m *model) sync(name string) api.Errno {
	return m.of(name, func(file int) api.Errno {
		m.lasting[file] = len(m.bytes[file])
		return api.OK
	})
}

func (m *model) renameTo(from, to string) api.Errno {
	return m.of(from, func(file int) api.Errno {
		if len(to) == 0 || len(to) > 32 {
			return api.ErrFsName
		}
		m.rename(func(names map[string]int) {
			delete(names, from)
			names[to] = file
		})
		return api.OK
	})
}

func (m *model) remove(name string) api.Errno {
	return m.of(name, func(int) api.Errno {
		m.rename(func(names map[string]int) { delete(names, name) })
		return api.OK
	})
}

func (m *model) syncDir() api.Errno {
	err := m.begin()
	if err == api.OK {
		m.was = m.was[len(m.was)-1:]
	}
	return err
}

func (m *model) crash(picks []int) {
	pick := func(among int) int {
		p := 0
		if len(picks) > 0 {
			p, picks = picks[0], picks[1:]
		}
		if p < 0 {
			p = -(p + 1)
		}
		return p % among
	}
	stays := pick(len(m.was))
	m.was = m.was[stays : stays+1]
	for _, name := range slices.Sorted(maps.Keys(m.now())) {
		file := m.now()[name]
		m.lasting[file] += pick(len(m.bytes[file]) - m.lasting[file] + 1)
		m.bytes[file] = m.bytes[file][:m.lasting[file]]
	}
	m.fuse, m.fail = -1, -1
}

func (m *model) copy() *model {
	c := *m
	c.bytes, c.lasting, c.was = nil, slices.Clone(m.lasting), slices.Clone(m.was)
	for _, b := range m.bytes {
		c.bytes = append(c.bytes, slices.Clone(b))
	}
	return &c
}

func (m *model) files() files {
	all := files{}
	for name, file := range m.now() {
		all[name] = string(m.bytes[file])
	}
	return all
}

// step does one change, picked by chance, to both, and tells what each answered.
func step(r *rand.Rand, f *simfs.FS, m *model) (call string, got, want api.Errno) {
	pool := []string{"a", "b", "c", "d", "", text(32), text(33)}
	some := func() string { return pool[min(r.Intn(len(pool)), r.Intn(len(pool)))] }
	name, to := some(), some()
	switch r.Intn(10) {
	case 0, 1:
		return "Create " + name, f.Create(name), m.create(name)
	case 2, 3, 4:
		b := make([]byte, r.Intn(8))
		r.Read(b)
		return fmt.Sprintf("Append %s % x", name, b), f.Append(name, b), m.append(name, b)
	case 5:
		return "Sync " + name, f.Sync(name), m.sync(name)
	case 6, 7:
		return "Rename " + name + " " + to, f.Rename(name, to), m.renameTo(name, to)
	case 8:
		return "Remove " + name, f.Remove(name), m.remove(name)
	}
	return "SyncDir", f.SyncDir(), m.syncDir()
}

// chance does now and then something that is no change, to both.
func chance(r *rand.Rand, f *simfs.FS, m *model) (*simfs.FS, *model, string) {
	switch r.Intn(40) {
	case 0:
		n := r.Intn(8) - 1
		f.Fuse(n)
		m.fuse = n
		return f, m, fmt.Sprint("Fuse ", n)
	case 1:
		n := r.Intn(6) - 1
		f.Fail(n)
		m.fail = n
		return f, m, fmt.Sprint("Fail ", n)
	case 2, 3:
		picks := make([]int, r.Intn(8))
		for i := range picks {
			picks[i] = int(r.Uint64()) >> r.Intn(64)
		}
		f.Crash(picks)
		m.crash(picks)
		return f, m, fmt.Sprint("Crash ", picks)
	case 4:
		// The original goes on for a while, which its copy is not to tell.
		g, c := f.Copy(), m.copy()
		for range r.Intn(10) {
			step(r, f, m)
		}
		return g, c, "Copy"
	case 5:
		return f, m, damage(r, f, m)
	}
	return f, m, ""
}

func damage(r *rand.Rand, f *simfs.FS, m *model) string {
	for _, name := range slices.Sorted(maps.Keys(m.now())) {
		if b := m.bytes[m.now()[name]]; len(b) > 0 {
			at := r.Intn(len(b))
			turn := byte(r.Intn(256))
			b[at] ^= turn
			return fmt.Sprint("Damage ", name, at, turn, f.Damage(name, at, turn))
		}
	}
	return ""
}

// P4.2 to P4.6: long runs by chance answer what a plain model does, which never forgets a file.
func TestAgainstModel(t *testing.T) {
	for seed := range int64(3000) {
		r := rand.New(rand.NewSource(seed))
		quota := []int{0, 5, 20, 60}[r.Intn(4)]
		f, m := fresh(t, quota), newModel(quota)
		var script []string
		for range 60 {
			var did string
			if f, m, did = chance(r, f, m); did != "" {
				script = append(script, did)
			}
			call, got, want := step(r, f, m)
			script = append(script, call)
			if got != want || f.Ops() != m.ops {
				t.Fatalf("%q: %d, not %d; Ops %d, not %d", script, got, want, f.Ops(), m.ops)
			}
			if m.fuse != 0 {
				holds(t, f, m.files())
			}
			if t.Failed() {
				t.Fatalf("%q", script)
			}
		}
	}
}

// P4.6: whatever is done behind a Sync and a SyncDir, but to take the file away, its bytes are there behind any crash, and all that was laid is read in order.
func TestWhatLastsIsNotLost(t *testing.T) {
	for seed := range int64(500) {
		r := rand.New(rand.NewSource(seed))
		f, m := fresh(t, 1000), newModel(1000)
		ok(t, f.Create("kept"), f.Append("kept", []byte("some bytes")), f.Sync("kept"), f.SyncDir())
		laid := "some bytes"
		for range 30 {
			step(r, f, m)
			more := fmt.Sprint(r.Intn(1000))
			ok(t, f.Append("kept", []byte(more)))
			laid += more
			if b, err := f.Read("kept"); string(b) != laid || err != api.OK {
				t.Fatalf("%q, %d, not %q", b, err, laid)
			}
		}
		f.Crash([]int{r.Intn(100), r.Intn(100), r.Intn(100), r.Intn(100), r.Intn(100), r.Intn(100), r.Intn(100)})
		b, err := f.Read("kept")
		if len(b) < len("some bytes") || string(b) != laid[:len(b)] || err != api.OK {
			t.Fatalf("%q, %d, of %q", b, err, laid)
		}
	}
}
