package fleet

// level is a level as one whole number over another. In 64 bits nothing here
// comes near the end: tasks, demands, pools and weights are small.
type level struct {
	top    int64
	bottom int64
}

// levelOf gives the level that so many tasks of u have. Where tasks run, the
// pool has something of all that u wants: the bottom is never 0.
func levelOf(u userState, tasks int, pool amounts) level {
	if tasks == 0 {
		return level{0, 1}
	}
	greatest := level{0, 1}
	for kind, demand := range u.demand {
		part := level{int64(demand), int64(pool[kind])}
		if demand > 0 && isBelow(greatest, part) {
			greatest = part
		}
	}
	greatest.top *= int64(tasks)
	greatest.bottom *= int64(u.weight)
	return greatest
}

func isBelow(a level, b level) bool {
	return a.top*b.bottom < b.top*a.bottom
}
