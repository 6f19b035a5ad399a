package wire

import "outcry/api"

// The kinds of commands: their first bytes.
const (
	New    = 1
	Cancel = 2
	Reduce = 3
	Tick   = 4
)

// Command is what its bytes say; what is not of its kind is 0.
type Command struct {
	Kind       int
	Id         int
	Side, Type int
	Qty, Price int
	Time       int
}

// Command reads a command that takes up all bytes, or gives up.
func (r *Reader) Command() Command {
	c := Command{Kind: r.choice(Tick)}
	switch c.Kind {
	case New:
		c.Id = r.number()
		c.Side = r.choice(api.Sell)
		c.Type = r.choice(api.Loc)
		c.Qty = r.number()
		c.Price = r.number()
	case Cancel:
		c.Id = r.number()
	case Reduce:
		c.Id = r.number()
		c.Qty = r.number()
	case Tick:
		c.Time = r.number()
	}
	if r.More() {
		r.giveUp(api.ErrForm)
	}
	return c
}
