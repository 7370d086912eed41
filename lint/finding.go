package lint

import "pavane/api"

// finding is the first error of a check.
type finding struct{ api.Fault }

// require records an error where something does not hold; one that was recorded earlier stays.
func (f *finding) require(holds bool, code api.Errno, at int) {
	if !holds && f.Code == api.OK {
		f.Fault = api.Fault{Code: code, At: at}
	}
}
