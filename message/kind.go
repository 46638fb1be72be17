package message

import (
	"slices"

	"lineside/api"
)

// firstUp is the smallest number of the messages that are sent up.
const firstUp = 129

// kind is a row of the table of messages.
type kind struct {
	own      []int // the variables of its own
	first    []int // the numbers of which the first packet has one, if it must be there
	optional []int
}

// kindOf returns the row of the message with the number id, or false if there
// is no such message.
func kindOf(id int) (kind, bool) {
	switch id {
	case 2:
		return kind{own: []int{api.VQScale, api.VDSr}}, true
	case 3:
		return authority([]int{3, 5, 21, 27, 57, 58, 80}), true
	case 9:
		return authority([]int{5, 80}), true
	case 33:
		return authority([]int{5, 21, 27, 80}, api.VQScale, api.VDRef), true
	case 15:
		return kind{own: []int{api.VNidEm, api.VQScale, api.VQDir, api.VDRef, api.VDEmergencystop}}, true
	case 16, 18:
		return kind{own: []int{api.VNidEm}}, true
	case 24:
		return kind{optional: []int{3, 5, 21, 27, 42, 57, 58}}, true
	case 32:
		return kind{own: []int{api.VMVersion}}, true
	case 34:
		return kind{own: []int{api.VQScale, api.VDRef, api.VQDir, api.VDLoc, api.VLSection}}, true
	case 8, 137, 138, 146:
		return kind{own: []int{api.VTTrain}}, true
	case 38, 39, 40, 41, 43, 155, 156, 159:
		return kind{}, true
	case 129:
		return report([]int{11}), true
	case 130, 136, 149, 150:
		return report(nil), true
	case 132:
		return report(nil, api.VQMarqstreason), true
	case 147:
		return report(nil, api.VNidEm, api.VQEmergencystop), true
	case 157:
		return report(nil, api.VQStatus), true
	}
	return kind{}, false
}

// authority returns the kind of a message that gives a movement authority.
func authority(optional []int, own ...int) kind {
	return kind{own: own, first: []int{15}, optional: optional}
}

// report returns the kind of a message in which a train says where it is.
func report(optional []int, own ...int) kind {
	return kind{own: own, first: []int{0, 1}, optional: optional}
}

// allows reports whether a message of the kind may consist of the packets.
func (k kind) allows(packets []api.Packet) bool {
	if len(k.first) > 0 {
		if len(packets) == 0 || !slices.Contains(k.first, packets[0].ID) {
			return false
		}
		packets = packets[1:]
	}
	var seen []int
	for _, p := range packets {
		if !slices.Contains(k.optional, p.ID) || slices.Contains(seen, p.ID) {
			return false
		}
		seen = append(seen, p.ID)
	}
	return true
}

// variables returns the variables of the message with the number id that stand
// between L_MESSAGE and the packets.
func (k kind) variables(id int) []int {
	if id >= firstUp {
		return slices.Concat([]int{api.VTTrain, api.VNidEngine}, k.own)
	}
	return slices.Concat([]int{api.VTTrain, api.VMAck, api.VNidLrbg}, k.own)
}
