package object

import (
	"turnkey/api"
	"turnkey/sys"
)

// needs is how many objects a domain is made of: two pages, a node, itself.
const needs = 4

// Needs is how many objects Build takes.
func Needs() int { return needs }

func (c call) bank() api.Note {
	id := c.key.ID
	switch c.note.Order {
	case 0:
		return c.bought(api.Node, func() (int, int, error) { return c.Banks.Node(id) })
	case 1:
		return c.bought(api.Page, func() (int, int, error) { return c.Banks.Page(id) })
	case 2:
		return c.bought(api.Bank, func() (int, int, error) { return c.Banks.Sub(id, c.place()) })
	case 3:
		return c.giveBack()
	case 4:
		return c.endBank()
	case 5:
		return words(uint32(c.Banks.Used(id)), uint32(c.Banks.Limit(id)))
	case 6:
		return c.bought(api.Domain, func() (int, int, error) { return c.Banks.Domain(id) })
	}
	return fails(api.BadOrder)
}

func (c call) bought(kind int, buy func() (int, int, error)) api.Note {
	made, _, err := buy()
	return told(keyed(c.Key(kind, made)), err)
}

func (c call) giveBack() api.Note {
	var gone []int
	if k := c.sent(); k.Kind == api.Domain {
		gone = []int{k.ID}
	}
	err := c.without(gone, func() error { return c.Banks.Give(c.key.ID, c.sent()) })
	return told(words(), err)
}

func (c call) endBank() api.Note {
	var gone []int
	for id := range c.Banks.Cap() {
		if c.Banks.Within(id, c.key.ID) {
			gone = append(gone, c.ownedDomains(id)...)
		}
	}
	given := 0
	err := c.without(gone, func() error {
		n, err := c.Banks.End(c.key.ID)
		given = n
		return err
	})
	return told(words(uint32(given)), err)
}

func (c call) ownedDomains(bank int) []int {
	var domains []int
	for _, k := range c.Banks.Owned(bank) {
		if k.Kind == api.Domain {
			domains = append(domains, k.ID)
		}
	}
	return domains
}

// without does what makes these domains go: they are not ready any more, and those that waited for them are,
// for nobody else would wake them.
func (c call) without(gone []int, do func() error) error {
	var callers []int
	for _, id := range gone {
		callers = append(callers, c.Domains.Callers(id)...)
	}
	if err := do(); err != nil {
		return err
	}
	for _, id := range gone {
		c.Ready.Drop(id)
	}
	for _, id := range callers {
		if d, ok := c.Domains.Get(id); ok && d.State == api.Running {
			c.Ready.Put(id)
		}
	}
	return nil
}

// Build makes a domain of the factory's parts, by a bank and a meter: its Start key, or the number of what is amiss.
func Build(s *sys.System, id int, room, ticks api.Key) (api.Key, int) {
	room, ticks = s.Seen(room), s.Seen(ticks)
	if !s.Makers.There(id) || room.Kind != api.Bank || ticks.Kind != api.Meter {
		return api.Key{}, api.BadArg
	}
	parts := s.Makers.Parts(id)
	for i, k := range parts {
		parts[i] = s.Seen(k)
	}
	if parts[0].Kind != api.Page {
		return api.Key{}, api.BadArg
	}
	if s.Pages.Left() < 2 || s.Nodes.Left() < 1 || s.Domains.Left() < 1 {
		return api.Key{}, api.NoRoom
	}
	if !hasRoom(s, room.ID) {
		return api.Key{}, api.AtLimit
	}
	return assemble(s, parts, room, ticks), api.OK
}

// hasRoom tells whether the bank, and each that it is within, may have all objects of a domain.
func hasRoom(s *sys.System, bank int) bool {
	for id := bank; id >= 0; id = s.Banks.Parent(id) {
		if s.Banks.Limit(id)-s.Banks.Used(id) < needs {
			return false
		}
	}
	return true
}

// assemble makes the domain, where nothing can be amiss any more: its Start key.
func assemble(s *sys.System, parts []api.Key, room, ticks api.Key) api.Key {
	code, _, _ := s.Banks.Page(room.ID, s.Pages.Words(parts[0].ID)...)
	data, _, _ := s.Banks.Page(room.ID)
	memory, _, _ := s.Banks.Node(room.ID, s.PageKey(code), s.PageKey(data))
	id, _, _ := s.Banks.Domain(room.ID)
	d, _ := s.Domains.Get(id)
	d.Mem, d.Meter = s.NodeKey(memory, 1), ticks
	d.Keys[0], d.Keys[1] = room, ticks
	copy(d.Keys[2:], parts[1:])
	s.Domains.Put(id, d)
	return s.Domains.Door(id, 0)
}
