package syntax

// scope has, by variables, the numbers of the bindings in whose scopes a place is, that of the innermost one last.
type scope[V comparable] struct {
	bindings map[V][]int
	last     int
}

func newScope[V comparable]() scope[V] { return scope[V]{bindings: map[V][]int{}} }

// enter binds variables, each with the number that follows the last one.
func (s *scope[V]) enter(l ...V) {
	for _, v := range l {
		s.last++
		s.bindings[v] = append(s.bindings[v], s.last)
	}
}

// leave ends the innermost bindings of variables.
func (s *scope[V]) leave(l ...V) {
	for _, v := range l {
		numbers := s.bindings[v]
		s.bindings[v] = numbers[:len(numbers)-1]
	}
}

// binding returns the number of the innermost binding of a variable; 0 if it is in no scope of one.
func (s *scope[V]) binding(v V) int {
	numbers := s.bindings[v]
	if len(numbers) == 0 {
		return 0
	}
	return numbers[len(numbers)-1]
}
