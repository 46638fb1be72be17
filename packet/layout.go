package packet

import (
	"slices"

	"lineside/api"
)

// part is a variable of a packet, and the parts that follow it depending on its
// value: as many times as the value says (repeated), or once if it is one of
// only.
type part struct {
	variable int
	repeated bool
	only     []int
	follow   []part
}

// times returns how many times the parts that depend on the variable follow it.
func (p part) times(value int) int {
	switch {
	case p.repeated:
		return value
	case slices.Contains(p.only, value):
		return 1
	}
	return 0
}

// layout returns the variables of the packet with the number id after
// NID_PACKET, or nil if there is no such packet.
func layout(id int) []part {
	switch id {
	case 0:
		return report(api.VNidLrbg)
	case 1:
		return report(api.VNidLrbg, api.VNidPrvlrbg)
	case 3:
		return slices.Concat(
			plain(api.VQDir, api.VLPacket, api.VQScale, api.VDValidnv),
			iter(plain(api.VNidC)),
			plain(api.VVNvshunt, api.VMNvcontact, api.VTNvcontact))
	case 5:
		return oneOrMore(
			plain(api.VDLink),
			ifOne(api.VQNewcountry, api.VNidC),
			plain(api.VNidBg, api.VQLinkorientation, api.VQLinkreaction, api.VQLocacc))
	case 11:
		return slices.Concat(
			plain(api.VLPacket, api.VNidOperational, api.VNcTrain, api.VLTrain, api.VVMaxtrain,
				api.VMLoadinggauge, api.VMAxleload, api.VMAirtight),
			iter(plain(api.VMTraction)),
			iter(plain(api.VNidStm)))
	case 15:
		return authority()
	case 21:
		return oneOrMore(plain(api.VDGradient, api.VQGdir, api.VGA))
	case 27:
		return oneOrMore(
			plain(api.VDStatic, api.VVStatic, api.VQFront),
			iter(plain(api.VNcDiff, api.VVDiff)))
	case 42:
		return plain(api.VQDir, api.VLPacket, api.VQRbc, api.VNidC, api.VNidRbc,
			api.VNidRadio, api.VNidRadio, api.VQSleepsession)
	case 57:
		return plain(api.VQDir, api.VLPacket, api.VTMar, api.VTTimeoutrqst, api.VTCycrqst)
	case 58:
		return slices.Concat(
			plain(api.VQDir, api.VLPacket, api.VQScale, api.VTCycloc, api.VDCycloc, api.VMLoc),
			iter(plain(api.VDLoc, api.VQLgtloc)))
	case 80:
		return oneOrMore(plain(api.VDMamode, api.VMMamode, api.VVMamode, api.VLMamode,
			api.VLAckmamode, api.VQMamode))
	}
	return nil
}

// report returns the variables of a position report, which is packet 0 or 1
// depending on the balise groups that it names.
func report(groups ...int) []part {
	return slices.Concat(
		plain(api.VLPacket, api.VQScale),
		plain(groups...),
		plain(api.VDLrbg, api.VQDirlrbg, api.VQDlrbg, api.VLDoubtover, api.VLDoubtunder),
		ifAny(api.VQLength, []int{1, 2}, api.VLTrainint),
		plain(api.VVTrain, api.VQDirtrain, api.VMMode),
		ifOne(api.VMLevel, api.VNidNtc))
}

// authority returns the variables of packet 15.
func authority() []part {
	timer := ifOne(api.VQSectiontimer, api.VTSectiontimer, api.VDSectiontimerstoploc)
	return slices.Concat(
		plain(api.VQDir, api.VLPacket, api.VQScale, api.VVEma, api.VTEma),
		iter(plain(api.VLSection), timer),
		plain(api.VLEndsection), timer,
		ifOne(api.VQEndtimer, api.VTEndtimer, api.VDEndtimerstartloc),
		ifOne(api.VQDangerpoint, api.VDDp, api.VVReleasedp),
		ifOne(api.VQOverlap, api.VDStartol, api.VTOl, api.VDOl, api.VVReleaseol))
}

// oneOrMore returns the variables of a packet that is a list of entries of
// which the first one is always there.
func oneOrMore(lists ...[]part) []part {
	entry := slices.Concat(lists...)
	return slices.Concat(plain(api.VQDir, api.VLPacket, api.VQScale), entry, iter(entry))
}

// plain returns variables on which no other ones depend.
func plain(variables ...int) []part {
	var out []part
	for _, v := range variables {
		out = append(out, part{variable: v})
	}
	return out
}

// iter returns N_ITER with the parts that it repeats.
func iter(lists ...[]part) []part {
	return []part{{variable: api.VNIter, repeated: true, follow: slices.Concat(lists...)}}
}

// ifOne returns a variable with those that are present if its value is 1.
func ifOne(variable int, present ...int) []part {
	return ifAny(variable, []int{1}, present...)
}

// ifAny returns a variable with those that are present if its value is one of
// values.
func ifAny(variable int, values []int, present ...int) []part {
	return []part{{variable: variable, only: values, follow: plain(present...)}}
}
