package queries

// Link gives every spread the part of its fragment: none if there is no such fragment. It tells false if two fragments have one name, or one names itself.
func (q *Query) Link() bool {
	places := make(map[string]int, len(q.Fragments))
	for i, f := range q.Fragments {
		places[f.Name] = i
	}
	if len(places) != len(q.Fragments) {
		return false
	}
	for _, p := range q.Parts {
		q.linkPart(p, places)
	}
	return !q.circular()
}

func (q *Query) linkPart(p *Part, places map[string]int) {
	for i := range p.Selections {
		s := &p.Selections[i]
		if s.Kind != SpreadKind {
			continue
		}
		if place, ok := places[s.Name]; ok {
			s.Part = q.Fragments[place].Part
		}
	}
}

// state says how far the search for a circle has come with a part.
type state int

const (
	untouched state = iota
	entered
	left
)

// circular tells whether a part has itself in it: only spreads can bring that about.
func (q *Query) circular() bool {
	states := make([]state, len(q.Parts))
	for _, f := range q.Fragments {
		if f.Part.inCircle(states) {
			return true
		}
	}
	return false
}

func (p *Part) inCircle(states []state) bool {
	if states[p.Number] != untouched {
		return states[p.Number] == entered
	}
	states[p.Number] = entered
	for _, s := range p.Selections {
		if s.Part != nil && s.Part.inCircle(states) {
			return true
		}
	}
	states[p.Number] = left
	return false
}
