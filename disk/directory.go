package disk

// file is what a name leads to. One that is written anew is another file, so the one that was there stays as it is, and a restart can lead back to it.
type file struct {
	bytes      []byte
	sure, time int
}

// directory tells what file a path leads to.
type directory map[string]*file

// change lets a name, from, lead to no file any more, and another one, to, to a file; either one is empty where there is nothing of it.
type change struct {
	from, to string
	file     *file
}

// turn makes changes, one behind the other.
func (dir directory) turn(changes ...change) {
	for _, c := range changes {
		// In this order a file that is renamed onto itself is still there.
		delete(dir, c.from)
		if c.file != nil {
			dir[c.to] = c.file
		}
	}
}
