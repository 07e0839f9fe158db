package message

import "parlour/api"

// row is what stands behind the kind in a payload, in order.
type row struct {
	kind   int
	places []place
}

// rows is each kind's one row.
func rows() []row {
	return []row{
		{api.Disconnect, []place{(*letter).code, (*letter).text, (*letter).lang}},
		{api.GlobalRequest, []place{(*letter).name, (*letter).want, (*letter).rest}},
		{api.RequestSuccess, []place{(*letter).rest}},
		{api.RequestFailure, nil},
		{api.Open, []place{(*letter).name, (*letter).sender, (*letter).window, (*letter).packet, (*letter).rest}},
		{api.OpenConfirm, []place{(*letter).channel, (*letter).sender, (*letter).window, (*letter).packet, (*letter).rest}},
		{api.OpenFailure, []place{(*letter).channel, (*letter).code, (*letter).text, (*letter).lang}},
		{api.WindowAdjust, []place{(*letter).channel, (*letter).window}},
		{api.Data, []place{(*letter).channel, (*letter).text}},
		{api.ExtendedData, []place{(*letter).channel, (*letter).code, (*letter).text}},
		{api.Eof, []place{(*letter).channel}},
		{api.Close, []place{(*letter).channel}},
		{api.ChanRequest, []place{(*letter).channel, (*letter).name, (*letter).want, (*letter).rest}},
		{api.ChanSuccess, []place{(*letter).channel}},
		{api.ChanFailure, []place{(*letter).channel}},
	}
}

// placesOf is a kind's row, if there is such a kind.
func placesOf(kind int) ([]place, bool) {
	for _, r := range rows() {
		if r.kind == kind {
			return r.places, true
		}
	}
	return nil, false
}
