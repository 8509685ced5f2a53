// Package stores reads rows: whether they are a store, and what their cells tell.
package stores

import (
	"slices"
	"strings"

	"veil/api"
	"veil/schemas"
)

// Cell is a cell of a row: Text is how it is written, Content what that tells.
type Cell struct {
	Field   *schemas.Field
	Text    string
	Content Content
}

// Row is a row of a store.
type Row struct {
	Object *schemas.Object
	ID     string
	Cells  []Cell
}

// Store has rows, in their order. Once it is read it is not changed any more, so that many may look at it at once.
type Store struct {
	Rows   []Row
	Schema *schemas.Schema
	places map[string]int // of the rows, by their ids
}

// Read makes a store of rows. The error is ErrStore if they are none.
func Read(schema *schemas.Schema, rows []api.Row) (*Store, api.Errno) {
	s := &Store{Schema: schema, places: map[string]int{}}
	if len(rows) > api.MaxRows || !s.addAll(rows) || !s.fillAll(rows) {
		return nil, api.ErrStore
	}
	return s, api.OK
}

// Row tells the row that has this id, or nil.
func (s *Store) Row(id string) *Row {
	place, ok := s.places[id]
	if !ok {
		return nil
	}
	return &s.Rows[place]
}

// Put makes a store in which this row has the place of the one with its id, or the last one. The error is ErrStore if that is none.
func (s *Store) Put(row api.Row) (*Store, api.Errno) {
	rows := s.told()
	if place, ok := s.places[row.ID]; ok {
		rows[place] = row
	} else {
		rows = append(rows, row)
	}
	return Read(s.Schema, rows)
}

// Drop makes a store without the row that has this id. The error is ErrNone if there is no such row.
func (s *Store) Drop(id string) (*Store, api.Errno) {
	place, ok := s.places[id]
	if !ok {
		return nil, api.ErrNone
	}
	return Read(s.Schema, slices.Delete(s.told(), place, place+1))
}

// told tells the rows as they are handed in.
func (s *Store) told() []api.Row {
	rows := make([]api.Row, len(s.Rows))
	for i := range s.Rows {
		rows[i] = s.Rows[i].Told(func(*schemas.Field) bool { return true })
	}
	return rows
}

// Told tells a row as it is handed in, with the cells of just those fields.
func (r *Row) Told(has func(*schemas.Field) bool) api.Row {
	row := api.Row{Type: r.Object.Name, ID: r.ID}
	for _, c := range r.Cells {
		if has(c.Field) {
			row.Cells = append(row.Cells, api.Cell{Name: c.Field.Name, Text: c.Text})
		}
	}
	return row
}

// Content tells what the row has at this field: a cell that is not there is null.
func (r *Row) Content(field string) Content {
	place := r.place(field)
	if place < 0 {
		return Content{}
	}
	return r.Cells[place].Content
}

// place tells where the cell of a field is, or -1.
func (r *Row) place(field string) int {
	return slices.IndexFunc(r.Cells, func(c Cell) bool { return c.Field.Name == field })
}

// addAll takes the rows without their cells. The cells come later, since one may refer to any row.
func (s *Store) addAll(rows []api.Row) bool {
	for _, r := range rows {
		if !s.add(r) {
			return false
		}
	}
	return true
}

func (s *Store) add(r api.Row) bool {
	o := s.Schema.Object(r.Type)
	if o == nil || s.Row(r.ID) != nil || (r.ID == "") != (r.Type == schemas.Query) {
		return false
	}
	id := strings.Clone(r.ID)
	s.places[id] = len(s.Rows)
	s.Rows = append(s.Rows, Row{Object: o, ID: id})
	return true
}

func (s *Store) fillAll(rows []api.Row) bool {
	for i, r := range rows {
		for _, c := range r.Cells {
			if !s.fill(&s.Rows[i], c) {
				return false
			}
		}
	}
	return true
}

// fill takes a cell into a row.
func (s *Store) fill(r *Row, c api.Cell) bool {
	f := r.Object.Field(c.Name)
	if f == nil || f.TakesID() || r.place(c.Name) >= 0 {
		return false
	}
	content, ok := readContent(c.Text)
	if !ok || !s.fits(content, f.Type) {
		return false
	}
	r.Cells = append(r.Cells, Cell{Field: f, Text: strings.Clone(c.Text), Content: content})
	return true
}
