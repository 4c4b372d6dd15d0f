package arena

// chains is lists of values, linked by index: all their nodes stand in one slice. Each list goes in a ring by a node without a value, whose index is the list's number.
type chains[T any] struct {
	nodes []node[T]
	spare int // the first node that is in no list, 0 if there is none; the others follow by next
}

// A node has its neighbours' indices.
type node[T any] struct {
	value      T
	last, next int
}

// newChains is so many lists with nothing in them.
func newChains[T any](lists int) chains[T] {
	c := chains[T]{nodes: make([]node[T], lists)}
	for i := range c.nodes {
		c.link(i, i)
	}
	return c
}

// link puts two nodes side by side.
func (c *chains[T]) link(one, two int) {
	c.nodes[one].next, c.nodes[two].last = two, one
}

// push puts a value first, and answers the index of its node.
func (c *chains[T]) push(list int, value T) int {
	at := c.spare
	if at == 0 {
		at = len(c.nodes)
		c.nodes = append(c.nodes, node[T]{})
	} else {
		c.spare = c.nodes[at].next
	}
	c.nodes[at].value = value
	c.link(at, c.nodes[list].next)
	c.link(list, at)
	return at
}

// drop takes a node out of its list.
func (c *chains[T]) drop(at int) {
	n := c.nodes[at]
	c.link(n.last, n.next)
	c.nodes[at] = node[T]{next: c.spare}
	c.spare = at
}

// first is a list's first value, if there is one.
func (c *chains[T]) first(list int) (T, bool) {
	at := c.nodes[list].next
	return c.nodes[at].value, at != list
}
