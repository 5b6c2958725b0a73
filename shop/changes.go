package shop

import (
	"slices"

	"tympan/api"
	"tympan/fount"
	"tympan/proof"
)

func (c casting) enter(s *shop) api.Errno {
	metal, e := fount.MetalOf(s.Fount, c)
	if e != api.OK {
		return e
	}
	if metal > s.ShopState.Metal {
		return api.ErrStock
	}
	// No more of a sort than a case takes is in the shop, so that all of them have room in the case.
	if _, e := fount.Joined(s.Fount, s.total(), c); e != api.OK {
		return e
	}
	counts, e := fount.Joined(s.Fount, s.Case, c)
	if e != api.OK {
		return e
	}
	s.Case = counts
	s.ShopState.Metal -= metal
	return api.OK
}

func (w wearing) enter(s *shop) api.Errno {
	left, _, e := fount.Taken(s.Fount, s.Case, w)
	if e != api.OK {
		return e
	}
	dead, e := fount.Joined(s.Fount, s.Dead, w)
	if e != api.OK {
		return e
	}
	s.Case, s.Dead = left, dead
	return api.OK
}

func (m melting) enter(s *shop) api.Errno {
	left, _, e := fount.Taken(s.Fount, s.Dead, m)
	if e != api.OK {
		return e
	}
	metal, e := fount.MetalOf(s.Fount, m)
	if e != api.OK {
		return e
	}
	s.Dead = left
	s.ShopState.Metal += metal
	return api.OK
}

func (x setting) enter(s *shop) api.Errno {
	if _, e := s.pageNamed(x.page); e == api.OK {
		return api.ErrExists
	}
	p := api.ShopPage{Name: x.page}
	if e := s.set(&p, s.Case, x.words); e != api.OK {
		return e
	}
	s.Pages = append(s.Pages, p)
	return api.OK
}

func (c correction) enter(s *shop) api.Errno {
	p, e := s.loosePage(c.page)
	if e != api.OK {
		return e
	}
	parts, e := proof.Applied(asCopy(p.Words), c.mark)
	if e != api.OK {
		return e
	}
	if len(parts) != 1 || parts[0].Kind != api.CopyBody {
		return api.ErrKind
	}
	counts, e := s.caseWith(p.Lines)
	if e != api.OK {
		return e
	}
	return s.set(p, counts, parts[0].Words)
}

func (d distribution) enter(s *shop) api.Errno {
	p, e := s.loosePage(string(d))
	if e != api.OK {
		return e
	}
	counts, e := s.caseWith(p.Lines)
	if e != api.OK {
		return e
	}
	s.Case = counts
	p.Standing, p.Lines, p.Broken = false, nil, nil
	return api.OK
}

func (r resetting) enter(s *shop) api.Errno {
	p, e := s.pageNamed(string(r))
	if e != api.OK {
		return e
	}
	if p.Standing {
		return api.ErrState
	}
	return s.set(p, s.Case, p.Words)
}

func (l locking) enter(s *shop) api.Errno {
	if slices.Contains(s.Formes, l.forme) {
		return api.ErrExists
	}
	var pages []*api.ShopPage
	for _, name := range l.pages {
		p, e := s.loosePage(name)
		if e != api.OK {
			return e
		}
		if slices.Contains(pages, p) {
			return api.ErrBusy
		}
		pages = append(pages, p)
	}
	for _, p := range pages {
		p.Forme = l.forme
	}
	s.Formes = append(s.Formes, l.forme)
	return api.OK
}

func (x printing) enter(s *shop) api.Errno {
	if !slices.Contains(s.Formes, x.forme) {
		return api.ErrMissing
	}
	for i := range s.Pages {
		if p := &s.Pages[i]; p.Forme == x.forme {
			p.Printed += x.sheets
		}
	}
	return api.OK
}

func (u unlocking) enter(s *shop) api.Errno {
	at := slices.Index(s.Formes, string(u))
	if at < 0 {
		return api.ErrMissing
	}
	for i := range s.Pages {
		if p := &s.Pages[i]; p.Forme == string(u) {
			p.Forme = ""
		}
	}
	s.Formes = slices.Delete(s.Formes, at, at+1)
	return api.OK
}
