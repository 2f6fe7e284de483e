package object

import (
	"turnkey/api"
	"turnkey/dom"
)

func (c call) domain() api.Note {
	d, _ := c.Domains.Get(c.key.ID)
	switch c.note.Order {
	case 0:
		if c.word() > api.MaxData {
			return fails(api.BadArg)
		}
		return keyed(c.Domains.Door(c.key.ID, c.word()))
	case 1, 2:
		return c.register(d)
	case 3, 4, 5, 6:
		return c.part(d)
	case 7:
		return c.start(d)
	case 8:
		return words(uint32(d.State), d.PC, uint32(d.Fault))
	case 9:
		return c.halt(d)
	}
	return fails(api.BadOrder)
}

// register lays a key into a key register, or tells it.
func (c call) register(d dom.Domain) api.Note {
	at := c.word()
	if at >= api.KeyRegs {
		return fails(api.BadArg)
	}
	if c.note.Order == 2 {
		return keyed(c.Seen(d.Keys[at]))
	}
	d.Keys[at] = c.sent()
	return c.put(d)
}

// part lays what a domain has beside its registers.
func (c call) part(d dom.Domain) api.Note {
	switch c.note.Order {
	case 3:
		d.Mem = c.sent()
	case 4:
		d.Meter = c.sent()
	case 5:
		d.Keeper = c.sent()
	default:
		d.PC = c.word()
	}
	return c.put(d)
}

func (c call) start(d dom.Domain) api.Note {
	if d.State != api.Available && d.State != api.Halted {
		return fails(api.BadArg)
	}
	d.State, d.Fault = api.Running, api.FaultNone
	c.Ready.Put(c.key.ID)
	return c.put(d)
}

func (c call) halt(d dom.Domain) api.Note {
	if d.State != api.Running && d.State != api.Available {
		return fails(api.BadArg)
	}
	d.State = api.Halted
	c.Ready.Drop(c.key.ID)
	return c.put(d)
}

func (c call) put(d dom.Domain) api.Note { return told(words(), c.Domains.Put(c.key.ID, d)) }
