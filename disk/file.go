package disk

// file is bytes, of which a beginning is durable.
type file struct {
	data    []byte
	durable int // number of bytes
}

// operation is an operation on names. Its files are replaced by what a function returns for them, as they can be those of another disk.
type operation func(names map[string]*file, replaced func(*file) *file)

func itself(f *file) *file { return f }

// creation is a new file.
type creation struct {
	name string
	file *file
}

func (c creation) perform(names map[string]*file, replaced func(*file) *file) {
	names[c.name] = replaced(c.file)
}

// change is another name of a file.
type change struct{ from, to string }

func (c change) perform(names map[string]*file, _ func(*file) *file) {
	f := names[c.from]
	delete(names, c.from)
	names[c.to] = f
}

// removal is a name that is removed.
type removal struct{ name string }

func (r removal) perform(names map[string]*file, _ func(*file) *file) { delete(names, r.name) }
