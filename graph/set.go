package graph

// Set is states of a graph, each once.
type Set struct {
	list []int
	has  []bool
}

// Set answers an empty set for this graph's states.
func (g *Graph) Set() *Set {
	return &Set{has: make([]bool, len(g.states))}
}

// add adds states.
func (s *Set) add(states ...int) {
	for _, i := range states {
		if !s.has[i] {
			s.has[i] = true
			s.list = append(s.list, i)
		}
	}
}

// clear takes all states out, and costs no more than putting them in did.
func (s *Set) clear() {
	for _, i := range s.list {
		s.has[i] = false
	}
	s.list = s.list[:0]
}
