package portico_test

import (
	"testing"

	"portico/api"
)

// query is a packet with ports.
var query = header{ttl: 9, protocol: 17, from: 10<<24 | 7, to: 10<<24 | 1}

// ports are 513 and 53.
const ports = "\x02\x01\x00\x35"

// exactly makes a rule that matches one number of a field.
func exactly(id, field, n, action int) api.Rule {
	r := api.Rule{ID: id, Action: action}
	r.Match[field] = api.Match{Kind: api.Range, V: n, M: n}
	return r
}

// Each field of a rule is asked of its part of the packet.
func TestDeniedByEachField(t *testing.T) {
	data := b + a + ip + query.packet(ports+"data")
	for field, n := range []int{10<<24 | 7, 10<<24 | 1, 17, 513, 53} {
		s := fresh(t, 2)
		wantInsert(t, s, exactly(1, field, n, api.Deny), api.OK)
		wantFate(t, s, 0, data, api.Denied)
		wantDelete(t, s, 1, api.OK)
		wantInsert(t, s, exactly(1, field, n-1, api.Deny), api.OK)
		wantInsert(t, s, exactly(2, field, n+1, api.Deny), api.OK)
		wantSent(t, s, 0, data, out(1, data))
	}
}

func TestRulesAskRightPacketsAlone(t *testing.T) {
	s := fresh(t, 2)
	wantInsert(t, s, api.Rule{ID: 1, Action: api.Deny}, api.OK)
	right := query.packet(ports)
	for _, data := range []string{
		b + a + "\x08\x06" + right,
		b + a + text,
		b + a + ip,
		b + a + ip + right[:len(right)-1],
		b + a + ip + right[:4] + "xx" + right[6:],
	} {
		wantSent(t, s, 0, data, out(1, data))
	}
	wantFate(t, s, 0, b+a+ip+right, api.Denied)
	wantFate(t, s, 0, every+a+ip+right, api.Denied)
	wantFate(t, s, 0, b+a+ip+right+"behind", api.Denied)
	wantPort(t, s, 0, 1, []int{2}, api.OK)
	wantFate(t, s, 0, b+a+tag(2, 0)+ip+right, api.Denied)
}

// The port's own fates come ahead of a rule's, and what is denied is learned.
func TestWhatComesAheadOfRules(t *testing.T) {
	s := fresh(t, 2)
	wantInsert(t, s, api.Rule{ID: 1, Action: api.Deny}, api.OK)
	right := query.packet(ports)
	wantFate(t, s, 2, b+a+ip+right, api.Unknown)
	wantFate(t, s, 0, b+group+ip+right, api.Source)
	wantFate(t, s, 0, b+a+tag(2, 0)+ip+right, api.Barred)
	wantMacs(t, s)
	wantFate(t, s, 0, b+a+ip+right, api.Denied)
	wantMacs(t, s, api.Mac{VLAN: 1, MAC: a})
}

// P7: the first rule of the list decides, whatever was inserted, deleted and inserted again.
func TestTheFirstRuleDecides(t *testing.T) {
	s := fresh(t, 3)
	data := b + a + ip + query.packet(ports)
	for range 2 {
		wantSent(t, s, 0, data, out(1, data), out(2, data))
		wantInsert(t, s, api.Rule{ID: 5, Priority: 3, Action: api.Deny}, api.OK)
		wantFate(t, s, 0, data, api.Denied)
		wantInsert(t, s, api.Rule{ID: 4, Priority: 3}, api.OK)
		wantSent(t, s, 0, data, out(1, data), out(2, data))
		wantInsert(t, s, api.Rule{ID: 9, Priority: 4, Action: api.Send, Port: 2}, api.OK)
		wantSent(t, s, 0, data, out(2, data))
		wantInsert(t, s, api.Rule{ID: 0, Priority: 0, Action: api.Deny}, api.OK)
		wantSent(t, s, 0, data, out(2, data))
		wantDelete(t, s, 9, api.OK)
		wantSent(t, s, 0, data, out(1, data), out(2, data))
		wantDelete(t, s, 4, api.OK)
		wantFate(t, s, 0, data, api.Denied)
		// The same ID, another action.
		wantDelete(t, s, 5, api.OK)
		wantInsert(t, s, api.Rule{ID: 5, Priority: 3, Action: api.Send, Port: 1}, api.OK)
		wantSent(t, s, 0, data, out(1, data))
		wantDelete(t, s, 5, api.OK)
		wantFate(t, s, 0, data, api.Denied)
		wantDelete(t, s, 0, api.OK)
	}
}

// Rule 0 is a rule as any other: where none matches, it does not decide.
func TestNoRuleMatches(t *testing.T) {
	s := fresh(t, 2)
	wantInsert(t, s, exactly(0, 2, 6, api.Deny), api.OK)
	data := b + a + ip + query.packet(ports)
	wantSent(t, s, 0, data, out(1, data))
}

// Send is to the rule's port, though the destination is known elsewhere, and though it came in there.
func TestSend(t *testing.T) {
	s := fresh(t, 3)
	wantInsert(t, s, api.Rule{ID: 1, Action: api.Send, Port: 0}, api.OK)
	data := b + a + ip + query.packet(ports)
	wantSent(t, s, 2, every+b+text, out(0, every+b+text), out(1, every+b+text))
	for port := range 3 {
		wantSent(t, s, port, data, out(0, data))
	}
	wantSent(t, s, 1, every+data[6:], out(0, every+data[6:]))
	wantMacs(t, s, api.Mac{VLAN: 1, MAC: a, Port: 1}, api.Mac{VLAN: 1, MAC: b, Port: 2})
}

func TestSendOfTags(t *testing.T) {
	s := fresh(t, 2)
	wantInsert(t, s, api.Rule{ID: 1, Action: api.Send, Port: 1}, api.OK)
	wantPort(t, s, 0, 1, []int{2, 3}, api.OK)
	wantPort(t, s, 1, 2, []int{3}, api.OK)
	right := ip + query.packet(ports)
	wantSent(t, s, 0, b+a+tag(2, 7)+right, out(1, b+a+right))
	wantSent(t, s, 0, b+a+tag(3, 7)+right, out(1, b+a+tag(3, 7)+right))
	wantFate(t, s, 0, b+a+right, api.Nowhere)
	wantPort(t, s, 1, 0, []int{1}, api.OK)
	wantSent(t, s, 0, b+a+right, out(1, b+a+tag(1, 0)+right))
	wantFate(t, s, 0, b+a+tag(2, 7)+right, api.Nowhere)
}

// What a rule sends is not routed; what it permits is, by the key that it came with.
func TestRulesComeAheadOfRoutes(t *testing.T) {
	s := crossing(t)
	wantRoute(t, s, 0, 0, 2, c, api.OK)
	right, hopped := query.packet(ports), query.hop().packet(ports)
	data, routed := face1+a+ip+right, c+face2+ip+hopped
	wantInsert(t, s, api.Rule{ID: 1}, api.OK)
	wantSent(t, s, 0, data, out(1, routed))
	wantInsert(t, s, api.Rule{ID: 2, Priority: 1, Action: api.Send, Port: 0}, api.OK)
	wantSent(t, s, 0, data, out(0, data))
	wantInsert(t, s, api.Rule{ID: 3, Priority: 2, Action: api.Send, Port: 1}, api.OK)
	// Port 1 is none of VLAN 1.
	wantFate(t, s, 0, data, api.Nowhere)
	wantInsert(t, s, api.Rule{ID: 4, Priority: 3, Action: api.Deny}, api.OK)
	wantFate(t, s, 0, data, api.Denied)
	old := query
	old.ttl = 0
	wantFate(t, s, 0, face1+a+ip+old.packet(ports), api.Denied)
	wantDelete(t, s, 4, api.OK)
	wantDelete(t, s, 3, api.OK)
	// A TTL is asked of what is routed alone.
	wantSent(t, s, 0, face1+a+ip+old.packet(ports), out(0, face1+a+ip+old.packet(ports)))
	wantDelete(t, s, 2, api.OK)
	wantFate(t, s, 0, face1+a+ip+old.packet(ports), api.Expired)
}
