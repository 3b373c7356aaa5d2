package rules_test

import (
	"testing"

	"shuttlecock/api"
)

func TestErrorsNumbers(t *testing.T) {
	for want, e := range []api.Errno{
		api.OK, api.ErrShort, api.ErrForm, api.ErrSum, api.ErrRange, api.ErrDeep, api.ErrName,
		api.ErrType, api.ErrArity, api.ErrCycle, api.ErrDefine, api.ErrArg, api.ErrState,
	} {
		if int(e) != want {
			t.Errorf("the error %d has the number %d", want, e)
		}
	}
}
