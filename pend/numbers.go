package pend

// numbers are a heap: the least one comes first.
type numbers []int

// Len is the heap's.
func (l numbers) Len() int { return len(l) }

// Less is the heap's.
func (l numbers) Less(i, k int) bool { return l[i] < l[k] }

// Swap is the heap's.
func (l numbers) Swap(i, k int) { l[i], l[k] = l[k], l[i] }

// Push is the heap's.
func (l *numbers) Push(n any) {
	if number, ok := n.(int); ok {
		*l = append(*l, number)
	}
}

// Pop is the heap's.
func (l *numbers) Pop() any {
	end := len(*l) - 1
	n := (*l)[end]
	*l = (*l)[:end]
	return n
}
