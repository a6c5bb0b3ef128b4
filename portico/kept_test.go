package portico

import (
	"testing"

	"portico/api"
)

// What a rule that is gone did with packets is kept no longer.
func TestNoVerdictStaysBehind(t *testing.T) {
	s, _ := New(1)
	for id := range 50 {
		s.Insert(api.Rule{ID: id, Action: api.Deny})
		s.Insert(api.Rule{ID: id, Action: api.Send, Port: 0})
		s.Insert(api.Rule{ID: 100 + id, Action: api.Send, Port: 1})
		s.Delete(200 + id)
	}
	if len(s.verdicts) != 50 {
		t.Errorf("%d verdicts of 50 rules", len(s.verdicts))
	}
	for id := range 50 {
		s.Delete(id)
	}
	if len(s.verdicts) != 0 {
		t.Errorf("%d verdicts without rules", len(s.verdicts))
	}
}
