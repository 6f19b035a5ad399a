package outcry

import (
	"outcry/api"
	"outcry/wire"
)

const noReason api.Reason = 0

// reason tells what a command that is one is rejected for.
func (m *Market) reason(c wire.Command) api.Reason {
	switch c.Kind {
	case wire.New:
		return m.reasonOfNew(c)
	case wire.Cancel:
		return m.reasonOfCancel(c)
	case wire.Reduce:
		return m.reasonOfReduce(c)
	}
	return noReason
}

func (m *Market) reasonOfNew(c wire.Command) api.Reason {
	switch {
	case m.book.WasAccepted(c.Id):
		return api.Duplicate
	case c.Qty == 0:
		return api.Quantity
	case !isPriceOf(c.Type, c.Price):
		return api.Price
	case !m.rules().admits(c.Type):
		return api.Phase
	case m.book.Count() >= m.config.Orders:
		return api.Full
	case m.book.Total(c.Side)+c.Qty > m.config.Total:
		return api.Total
	}
	return noReason
}

func (m *Market) reasonOfCancel(c wire.Command) api.Reason {
	if m.book.Find(c.Id) == nil {
		return api.Unknown
	}
	return noReason
}

func (m *Market) reasonOfReduce(c wire.Command) api.Reason {
	switch {
	case m.book.Find(c.Id) == nil:
		return api.Unknown
	case c.Qty == 0:
		return api.Quantity
	}
	return noReason
}

func isPriceOf(orderType, price int) bool {
	if hasPrice(orderType) {
		return isFromOneTo(api.MaxPrice, price)
	}
	return price == 0
}

func hasPrice(orderType int) bool {
	return orderType == api.Limit || orderType == api.Loc
}
