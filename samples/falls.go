package samples

import "staddle/api"

// Fall is one way in which the power goes off and on: what a device's Restart is told.
type Fall struct {
	Keep []bool
	Torn int
	Cut  int
}

// cuts: where a write is torn: at the ends of the parts of a piece's head, and anywhere.
var cuts = []int{0, 1, 3, 4, 5, 11, 12, 13, 31, 32, 33, 64, 100, 200, 255}

// Sets: which of n writes are kept: all sets of few, some of many.
func Sets(n int) [][]bool {
	var l [][]bool
	dice := Dice(n)
	for k := range min(1<<min(n, 20), 20+2*n) {
		keep := make([]bool, n)
		for i := range keep {
			switch {
			case n <= 4:
				keep[i] = k>>i&1 == 1
			case k < n:
				keep[i] = i == k
			case k < 2*n:
				keep[i] = i != k-n
			case k < 2*n+2:
				keep[i] = k == 2*n
			default:
				keep[i] = dice.Roll(2) == 0
			}
		}
		l = append(l, keep)
	}
	return l
}

// Falls of n writes that are on their way: any are done, and any one torn besides.
func Falls(n int) []Fall {
	var l []Fall
	for k, keep := range Sets(n) {
		l = append(l, Fall{keep, -1, 0})
		for torn := range n {
			l = append(l, Fall{keep, torn, cuts[(k+torn)%len(cuts)]}, Fall{keep, torn, cuts[(k*7+torn*3+5)%len(cuts)]})
		}
	}
	return l
}

// Fall: any fall of n writes that are on their way.
func (d *Dice) Fall(n int) Fall {
	keep := make([]bool, d.Roll(n+2))
	for i := range keep {
		keep[i] = d.Roll(3) > 0
	}
	return Fall{keep, d.Roll(n+2) - 1, d.Roll(api.Sector + 1)}
}
