package catalogue

import (
	"iter"
	"strconv"

	"dowel/api"
)

// span is from where to where something reaches.
type span [2]int

// box is a cell whose edges are parallel to the axes.
type box struct{ x, y, z span }

// cell returns a box, enlarged.
func (b box) cell(scale int) api.Cell {
	var c api.Cell
	for _, x := range b.x {
		for _, y := range b.y {
			for _, z := range b.z {
				c.Vertices = append(c.Vertices, api.Vector{x * scale, y * scale, z * scale})
			}
		}
	}
	return c
}

// boxes yields boxes, each with the name of the instance to which it belongs; those of an instance follow one another.
type boxes = iter.Seq2[string, box]

// named returns the name of the instance with an index of its own kind.
func named(letter string, index int) string { return letter + strconv.Itoa(index) }

// give yields the boxes of an instance; false if this shall end.
func give(yield func(string, box) bool, name string, l ...box) bool {
	for _, b := range l {
		if !yield(name, b) {
			return false
		}
	}
	return true
}

// each yields the boxes of the things with the numbers from 1 to n; false if this shall end.
func each(yield func(string, box) bool, n int, letter string, of func(k int) []box) bool {
	for k := 1; k <= n; k++ {
		if !give(yield, named(letter, k), of(k)...) {
			return false
		}
	}
	return true
}

func stackBoxes(n int) boxes {
	return func(yield func(string, box) bool) {
		for i := range n {
			if !give(yield, named("c", i), box{span{0, 1}, span{0, 1}, span{i, i + 1}}) {
				return
			}
		}
	}
}

func pegBoxes(n int) boxes {
	return func(yield func(string, box) bool) {
		var plate []box
		for j := range n + 1 {
			plate = append(plate, box{span{2 * j, 2*j + 1}, span{1, 2}, span{0, 1}})
		}
		whole := span{0, 2*n + 1}
		plate = append(plate, box{whole, span{0, 1}, span{0, 1}}, box{whole, span{2, 3}, span{0, 1}})
		if give(yield, "plate", plate...) {
			each(yield, n, "p", func(k int) []box { return []box{{span{2*k - 1, 2 * k}, span{1, 2}, span{-1, 2}}} })
		}
	}
}

func slideBoxes(n int) boxes {
	return func(yield func(string, box) bool) {
		long := span{0, n}
		base := []box{{span{0, 5}, long, span{0, 1}}, {span{0, 1}, long, span{1, 2}}, {span{4, 5}, long, span{1, 2}}, {span{0, 2}, long, span{2, 3}}, {span{3, 5}, long, span{2, 3}}}
		if give(yield, "base", base...) {
			each(yield, n, "s", func(k int) []box {
				y := span{k - 1, k}
				return []box{{span{1, 4}, y, span{1, 2}}, {span{2, 3}, y, span{2, 4}}}
			})
		}
	}
}

func linkBoxes(n int) boxes {
	return func(yield func(string, box) bool) {
		for i := range n {
			a := 4 * i
			left, right, middle := span{a, a + 1}, span{a + 6, a + 7}, span{a + 1, a + 6}
			flat, upright := span{0, 1}, span{2, 3}
			l := []box{{left, span{0, 5}, flat}, {right, span{0, 5}, flat}, {middle, span{0, 1}, flat}, {middle, span{4, 5}, flat}}
			if i%2 == 1 {
				l = []box{{left, upright, span{-2, 3}}, {right, upright, span{-2, 3}}, {middle, upright, span{-2, -1}}, {middle, upright, span{2, 3}}}
			}
			if !give(yield, named("r", i), l...) {
				return
			}
		}
	}
}

// cubes returns the boxes of the things in a nest or a tunnel.
func cubes(k int) []box { return []box{{span{k, k + 1}, span{1, 2}, span{1, 2}}} }

func nestBoxes(n int) boxes {
	return func(yield func(string, box) bool) {
		whole, inner, wide, middle := span{0, n + 2}, span{1, n + 1}, span{0, 3}, span{1, 2}
		l := []box{{whole, wide, span{0, 1}}, {span{0, 1}, wide, middle}, {span{n + 1, n + 2}, wide, middle}, {inner, span{0, 1}, middle}, {inner, span{2, 3}, middle}}
		if give(yield, "box", l...) && each(yield, n, "c", cubes) {
			give(yield, "lid", box{whole, wide, span{2, 3}})
		}
	}
}

func tunnelBoxes(n int) boxes {
	return func(yield func(string, box) bool) {
		inner, wide, middle := span{1, n + 1}, span{0, 3}, span{1, 2}
		l := []box{{span{0, 1}, wide, wide}, {inner, wide, span{0, 1}}, {inner, wide, span{2, 3}}, {inner, span{0, 1}, middle}, {inner, span{2, 3}, middle}}
		if give(yield, "tunnel", l...) {
			each(yield, n, "c", cubes)
		}
	}
}
