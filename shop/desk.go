package shop

import (
	"slices"

	"tympan/api"
)

// Desk keeps the log of a shop. Where everything is, is found from it.
type Desk struct {
	setup api.ShopSetup
	log   []string
}

// New: see the chapter.
func New(s api.ShopSetup) (*Desk, api.Errno) {
	if e := CheckSetup(s); e != api.OK {
		return nil, e
	}
	s.Fount.Sorts = slices.Clone(s.Fount.Sorts)
	s.Text.Patterns = slices.Clone(s.Text.Patterns)
	s.Text.Exceptions = slices.Clone(s.Text.Exceptions)
	s.Text.Bars = slices.Clone(s.Text.Bars)
	return &Desk{setup: s}, api.OK
}

// Enter: see the chapter.
func (d *Desk) Enter(entry string) (int, api.Errno) {
	if d == nil {
		return 0, api.ErrNil
	}
	log, e := Accept(d.setup, d.log, entry)
	if e != api.OK {
		return 0, e
	}
	d.log = log
	return len(log), api.OK
}

// Log: see the chapter.
func (d *Desk) Log() []string {
	if d == nil {
		return nil
	}
	return slices.Clone(d.log)
}
