package timer

// heap is a binary heap: the alarms at 2i+1 and 2i+2 are due after the one at i, so the foremost is at 0.
type heap []alarm

// push adds an alarm.
func (h *heap) push(a alarm) {
	*h = append(*h, a)
	h.rise(len(*h) - 1)
}

// remove takes out the alarm at a place.
func (h *heap) remove(place int) {
	last := len(*h) - 1
	(*h)[place] = (*h)[last]
	*h = (*h)[:last]
	if place == last {
		return
	}
	// The alarm that came from the end may stem from another branch, so it may have to move either way.
	h.sink(place)
	h.rise(place)
}

// rise moves the alarm at a place towards the front until its parent is due ahead of it.
func (h heap) rise(place int) {
	for place > 0 {
		parent := (place - 1) / 2
		if h[parent].before(h[place]) {
			return
		}
		h[parent], h[place] = h[place], h[parent]
		place = parent
	}
}

// sink moves the alarm at a place towards the end until it is due ahead of its children.
func (h heap) sink(place int) {
	for {
		first := place
		for child := 2*place + 1; child <= 2*place+2 && child < len(h); child++ {
			if h[child].before(h[first]) {
				first = child
			}
		}
		if first == place {
			return
		}
		h[place], h[first] = h[first], h[place]
		place = first
	}
}
