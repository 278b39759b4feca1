package journal

import (
	"strings"

	"dowel/api"
	"dowel/disk"
)

// The ends of the names of the files of a journal.
const (
	logEnd = ".log"
	newEnd = ".new"
)

// store is the durable records of a journal, on its disk.
type store struct {
	*disk.Disk
	name    string
	first   int
	records []string
}

func (s *store) log() string { return s.name + logEnd }

func (s *store) last() int { return s.first + len(s.records) - 1 }

// step is an operation of the disk.
type step struct {
	perform func() api.Errno
}

// perform performs steps until one of them returns an error, which it returns.
func perform(steps ...step) api.Errno {
	for _, x := range steps {
		if e := x.perform(); e != api.OK {
			return e
		}
	}
	return api.OK
}

// replace replaces the file by some bytes.
func (s *store) replace(data string) api.Errno {
	other := s.name + newEnd
	return perform(
		step{func() api.Errno { return s.Append(other, data) }},
		step{func() api.Errno { return s.Sync(other) }},
		step{func() api.Errno { return s.Rename(other, s.log()) }},
		step{s.Publish},
	)
}

// load reads the records, and repairs the file.
func (s *store) load() api.Errno {
	if _, e := s.Size(s.name + newEnd); e == api.OK {
		if e := s.Remove(s.name + newEnd); e != api.OK {
			return e
		}
	}
	s.first = 1
	data, e := s.Read(s.log())
	if e != api.OK {
		return api.OK
	}
	var length int
	s.first, s.records, length = Scan(data)
	switch length {
	case 0:
		return perform(step{func() api.Errno { return s.Remove(s.log()) }}, step{s.Publish})
	case len(data):
		return api.OK
	}
	return s.replace(data[:length])
}

// add appends records to the file.
func (s *store) add(records []string) api.Errno {
	_, e := s.Size(s.log())
	if e == api.ErrState {
		return e
	}
	isNew := e != api.OK
	data := frames(records)
	if isNew {
		data = head(s.first) + data
	}
	steps := []step{{func() api.Errno { return s.Append(s.log(), data) }}, {func() api.Errno { return s.Sync(s.log()) }}}
	if isNew {
		steps = append(steps, step{s.Publish})
	}
	if e := perform(steps...); e != api.OK {
		return e
	}
	s.records = append(s.records, records...)
	return api.OK
}

// cut removes the records before a number, of which there is at least one.
func (s *store) cut(first int) api.Errno {
	left := s.records[first-s.first:]
	if e := s.replace(head(first) + frames(left)); e != api.OK {
		return e
	}
	s.first, s.records = first, left
	return api.OK
}

// frames returns the frames of records that are not too long.
func frames(records []string) string {
	var b strings.Builder
	for _, r := range records {
		frame, _ := Frame(r)
		b.WriteString(frame)
	}
	return b.String()
}
