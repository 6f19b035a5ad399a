package outcry

import "outcry/api"

func isConfig(c api.Config) bool {
	return isFromOneTo(api.MaxPrice, c.Reference) &&
		0 < c.Open && c.Open < c.Close && c.Close < c.End && c.End <= api.MaxTime &&
		isFromOneTo(api.MaxOrders, c.Orders) &&
		isFromOneTo(api.MaxTotal, c.Total)
}

func isFromOneTo(most, n int) bool {
	return 1 <= n && n <= most
}
