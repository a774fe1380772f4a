package exact

import (
	"math"
	"slices"

	"kurgan/api"
	"kurgan/set"
)

// market gives rows to columns. No entry is below the prices of its row and its column together, and it is just these if the row has the column: so no way to give these rows their columns costs less.
type market struct {
	cost        [][]int
	row, column []int // prices
	owner       []int // of a column: its row; -1: none
}

// Assignment: the best answer, and what it costs.
func Assignment(i api.Instance) ([]int, int, api.Errno) {
	if e := refuse(i, api.Assignment); e != api.OK {
		return nil, 0, e
	}
	m := market{i.Cost, make([]int, i.N), make([]int, i.N), slices.Repeat([]int{-1}, i.N)}
	for row := range i.N {
		m.admit(row)
	}
	x := make([]int, i.N)
	for column, row := range m.owner {
		x[row] = column
	}
	return priced(i, x)
}

// admit gives a row a column too: along a cheapest way to a free one, each row on the way gives its column to the row before it and takes the next.
func (m *market) admit(row int) {
	w := m.seek(row)
	for column := range w.reached.All() {
		rise := w.far[w.end] - w.far[column]
		m.column[column] -= rise
		if owner := m.owner[column]; owner >= 0 { // all but the end have one
			m.row[owner] += rise
		}
	}
	m.row[row] += w.far[w.end]
	for column := w.end; column >= 0; column = w.before[column] {
		m.owner[column] = row
		if before := w.before[column]; before >= 0 {
			m.owner[column] = m.owner[before]
		}
	}
}

// ways are the cheapest ones from a row to columns, where an entry costs what it is above its prices.
type ways struct {
	far     []int // what it costs to come to a column
	before  []int // the column before it on the way; -1: it is the first
	reached set.Set
	end     int // the free column that was reached
}

// seek goes on from the nearest column to the row that has it, until that column is free.
func (m *market) seek(row int) ways {
	n := len(m.cost)
	w := ways{far: slices.Repeat([]int{math.MaxInt}, n), before: make([]int, n), end: -1}
	for way := 0; row >= 0; row = m.owner[w.end] {
		rest := set.Full(n).Minus(w.reached)
		for column := range rest.All() {
			far := way + m.cost[row][column] - m.row[row] - m.column[column]
			if far < w.far[column] {
				w.far[column], w.before[column] = far, w.end
			}
		}
		w.end = w.nearest(rest)
		w.reached = w.reached.With(w.end)
		way = w.far[w.end]
	}
	return w
}

func (w ways) nearest(columns set.Set) int {
	best := columns.First()
	for column := range columns.All() {
		if w.far[column] < w.far[best] {
			best = column
		}
	}
	return best
}
