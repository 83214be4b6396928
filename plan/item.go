package plan

import (
	"sakia/api"
	"sakia/part"
)

// round returns the number of actions of a worker in a round for a bucket.
func (p *Plan) round(j, w, phase, round int) int {
	job := p.job(0, j)
	sent, _ := job.Segment(w, phase, round, true)
	received, _ := job.Segment(w, phase, round, false)
	chunks := p.chunks[min(j, 1)]
	return chunks[sent] + chunks[received]
}

// each returns the number of items of a worker in a step for a bucket.
func (p *Plan) each(j, w int) int {
	n := 2
	for phase := api.Scatter; phase <= api.Gather; phase++ {
		for round := range p.workers - 1 {
			n += p.round(j, w, phase, round)
		}
	}
	return n
}

// sizes returns the numbers of items of a worker in a step for the bucket 0 and for each other one.
func (p *Plan) sizes(w int) (first, other int) {
	return p.each(0, w), p.each(len(p.buckets)-1, w)
}

// Len returns the number of items of a worker in a step; 0, if there is no such worker.
func (p *Plan) Len(w int) int {
	if !p.has(w) {
		return 0
	}
	first, other := p.sizes(w)
	return p.micros + first + (len(p.buckets)-1)*other + 1
}

// Item returns an item of a worker, and true; or a zero Item and false, if there is none.
func (p *Plan) Item(w, i int) (Item, bool) {
	n := p.Len(w)
	if i < 0 || n == 0 || i >= n*p.steps {
		return Item{}, false
	}
	t, k := i/n, i%n
	switch {
	case k < p.micros:
		return Item{Kind: Compute, Step: t, N: k}, true
	case k == n-1:
		return Item{Kind: Record, Step: t}, true
	}
	g, k := p.find(w, k-p.micros)
	return p.inside(g, w, t, k), true
}

// find returns the group that has the item k of those of all groups, and the number of the item in it.
func (p *Plan) find(w, k int) (part.Range, int) {
	first, other := p.sizes(w)
	g := p.groups[0]
	before := first + (g.Hi-g.Lo-1)*other
	if k < before {
		return g, k
	}
	// All groups behind the first one have as many items, but for the last one, which may have fewer.
	size := p.window * other
	return p.groups[1+(k-before)/size], (k - before) % size
}

// inside returns the item k of a worker for a group in a step.
func (p *Plan) inside(g part.Range, w, t, k int) Item {
	buckets := g.Hi - g.Lo
	if k < buckets {
		return Item{Kind: Launch, Step: t, N: g.Lo + k}
	}
	k -= buckets
	for phase := api.Scatter; phase <= api.Gather; phase++ {
		for round := range p.workers - 1 {
			first, other := p.round(g.Lo, w, phase, round), p.round(g.Hi-1, w, phase, round)
			if k >= first+(buckets-1)*other {
				k -= first + (buckets-1)*other
				continue
			}
			j := g.Lo
			if k >= first {
				j += 1 + (k-first)/other
				k = (k - first) % other
			}
			return exchange(t, p.job(t, j).Round(w, phase, round)[k])
		}
	}
	return Item{Kind: Update, Step: t, N: g.Lo + k}
}
