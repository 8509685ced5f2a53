// Package stores reads rows: whether they are a store, and what their cells tell.
package stores

import (
	"slices"

	"veil/api"
	"veil/schemas"
)

// Cell is a cell of a row: Text is how it is written, Content what that tells.
type Cell struct {
	Field   *schemas.Field
	Text    string
	Content Content
}

// Row is a row of a store.
type Row struct {
	Object *schemas.Object
	ID     string
	Cells  []Cell
}

// Store has rows, in their order.
type Store struct {
	Rows   []Row
	schema *schemas.Schema
	places map[string]int // of the rows, by their ids
}

// Read makes a store of rows. The error is ErrStore if they are none.
func Read(schema *schemas.Schema, rows []api.Row) (*Store, api.Errno) {
	s := &Store{schema: schema, places: map[string]int{}}
	if len(rows) > api.MaxRows || !s.addAll(rows) || !s.fillAll(rows) {
		return nil, api.ErrStore
	}
	return s, api.OK
}

// Row tells the row that has this id, or nil.
func (s *Store) Row(id string) *Row {
	place, ok := s.places[id]
	if !ok {
		return nil
	}
	return &s.Rows[place]
}

// Content tells what the row has at this field: a cell that is not there is null.
func (r *Row) Content(field string) Content {
	place := r.place(field)
	if place < 0 {
		return Content{}
	}
	return r.Cells[place].Content
}

// place tells where the cell of a field is, or -1.
func (r *Row) place(field string) int {
	return slices.IndexFunc(r.Cells, func(c Cell) bool { return c.Field.Name == field })
}

// addAll takes the rows without their cells. The cells come later, since one may refer to any row.
func (s *Store) addAll(rows []api.Row) bool {
	for _, r := range rows {
		if !s.add(r) {
			return false
		}
	}
	return true
}

func (s *Store) add(r api.Row) bool {
	o := s.schema.Object(r.Type)
	if o == nil || s.Row(r.ID) != nil || (r.ID == "") != (r.Type == schemas.Query) {
		return false
	}
	s.places[r.ID] = len(s.Rows)
	s.Rows = append(s.Rows, Row{Object: o, ID: r.ID})
	return true
}

func (s *Store) fillAll(rows []api.Row) bool {
	for i, r := range rows {
		for _, c := range r.Cells {
			if !s.fill(&s.Rows[i], c) {
				return false
			}
		}
	}
	return true
}

// fill takes a cell into a row.
func (s *Store) fill(r *Row, c api.Cell) bool {
	f := r.Object.Field(c.Name)
	if f == nil || f.TakesID() || r.place(c.Name) >= 0 {
		return false
	}
	content, ok := readContent(c.Text)
	if !ok || !s.fits(content, f.Type) {
		return false
	}
	r.Cells = append(r.Cells, Cell{Field: f, Text: c.Text, Content: content})
	return true
}
