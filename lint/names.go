package lint

// index tells what has a name: its number in a list.
type index map[string]int

// add reports whether the name is a new one. One that is there already stays with what had it first.
func (x index) add(name string, i int) bool {
	if x.has(name) {
		return false
	}
	x[name] = i
	return true
}

func (x index) has(name string) bool {
	_, ok := x[name]
	return ok
}

// names is what a chart declares. A variable and a node may share a name.
type names struct{ variables, places index }
