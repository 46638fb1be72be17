package vars

import (
	"math"
	"slices"
	"strings"
	"testing"

	"lineside/api"
	"lineside/bits"
)

// row is a row of the chapter's table; special is 0 where the column is empty.
type row struct {
	number, constant int
	name             string
	width            int
	most, special    int
}

var table = []row{
	{0, api.VNidMessage, "NID_MESSAGE", 8, 255, 0},
	{1, api.VLMessage, "L_MESSAGE", 10, 1023, 0},
	{2, api.VTTrain, "T_TRAIN", 32, 4294967295, 0},
	{3, api.VMAck, "M_ACK", 1, 1, 0},
	{4, api.VNidLrbg, "NID_LRBG", 24, 16777215, 0},
	{5, api.VNidPacket, "NID_PACKET", 8, 255, 0},
	{6, api.VQDir, "Q_DIR", 2, 2, 0},
	{7, api.VLPacket, "L_PACKET", 13, 8191, 0},
	{8, api.VQScale, "Q_SCALE", 2, 2, 0},
	{9, api.VNidEngine, "NID_ENGINE", 24, 16777215, 0},
	{10, api.VNidC, "NID_C", 10, 1023, 0},
	{11, api.VNidBg, "NID_BG", 14, 16383, 0},
	{12, api.VQNewcountry, "Q_NEWCOUNTRY", 1, 1, 0},
	{13, api.VDLrbg, "D_LRBG", 15, 32767, 0},
	{14, api.VQDirlrbg, "Q_DIRLRBG", 2, 2, 0},
	{15, api.VQDlrbg, "Q_DLRBG", 2, 2, 0},
	{16, api.VLDoubtover, "L_DOUBTOVER", 15, 32767, 0},
	{17, api.VLDoubtunder, "L_DOUBTUNDER", 15, 32767, 0},
	{18, api.VQLength, "Q_LENGTH", 2, 3, 0},
	{19, api.VLTrainint, "L_TRAININT", 15, 32767, 0},
	{20, api.VVTrain, "V_TRAIN", 7, 120, 127},
	{21, api.VQDirtrain, "Q_DIRTRAIN", 2, 2, 0},
	{22, api.VMMode, "M_MODE", 4, 14, 0},
	{23, api.VMLevel, "M_LEVEL", 3, 4, 0},
	{24, api.VNidNtc, "NID_NTC", 8, 255, 0},
	{25, api.VVEma, "V_EMA", 7, 120, 0},
	{26, api.VTEma, "T_EMA", 10, 1023, 0},
	{27, api.VNIter, "N_ITER", 5, 31, 0},
	{28, api.VLSection, "L_SECTION", 15, 32767, 0},
	{29, api.VQSectiontimer, "Q_SECTIONTIMER", 1, 1, 0},
	{30, api.VTSectiontimer, "T_SECTIONTIMER", 10, 1023, 0},
	{31, api.VDSectiontimerstoploc, "D_SECTIONTIMERSTOPLOC", 15, 32767, 0},
	{32, api.VLEndsection, "L_ENDSECTION", 15, 32767, 0},
	{33, api.VQEndtimer, "Q_ENDTIMER", 1, 1, 0},
	{34, api.VTEndtimer, "T_ENDTIMER", 10, 1023, 0},
	{35, api.VDEndtimerstartloc, "D_ENDTIMERSTARTLOC", 15, 32767, 0},
	{36, api.VQDangerpoint, "Q_DANGERPOINT", 1, 1, 0},
	{37, api.VDDp, "D_DP", 15, 32767, 0},
	{38, api.VVReleasedp, "V_RELEASEDP", 7, 120, 126},
	{39, api.VQOverlap, "Q_OVERLAP", 1, 1, 0},
	{40, api.VDStartol, "D_STARTOL", 15, 32767, 0},
	{41, api.VTOl, "T_OL", 10, 1023, 0},
	{42, api.VDOl, "D_OL", 15, 32767, 0},
	{43, api.VVReleaseol, "V_RELEASEOL", 7, 120, 126},
	{44, api.VDLink, "D_LINK", 15, 32767, 0},
	{45, api.VQLinkorientation, "Q_LINKORIENTATION", 1, 1, 0},
	{46, api.VQLinkreaction, "Q_LINKREACTION", 2, 2, 0},
	{47, api.VQLocacc, "Q_LOCACC", 6, 63, 0},
	{48, api.VDGradient, "D_GRADIENT", 15, 32767, 0},
	{49, api.VQGdir, "Q_GDIR", 1, 1, 0},
	{50, api.VGA, "G_A", 8, 255, 0},
	{51, api.VDStatic, "D_STATIC", 15, 32767, 0},
	{52, api.VVStatic, "V_STATIC", 7, 120, 127},
	{53, api.VQFront, "Q_FRONT", 1, 1, 0},
	{54, api.VNcDiff, "NC_DIFF", 4, 15, 0},
	{55, api.VVDiff, "V_DIFF", 7, 120, 0},
	{56, api.VDMamode, "D_MAMODE", 15, 32767, 0},
	{57, api.VMMamode, "M_MAMODE", 2, 2, 0},
	{58, api.VVMamode, "V_MAMODE", 7, 120, 127},
	{59, api.VLMamode, "L_MAMODE", 15, 32767, 0},
	{60, api.VLAckmamode, "L_ACKMAMODE", 15, 32767, 0},
	{61, api.VQMamode, "Q_MAMODE", 1, 1, 0},
	{62, api.VQRbc, "Q_RBC", 1, 1, 0},
	{63, api.VNidRbc, "NID_RBC", 14, 16383, 0},
	{64, api.VNidRadio, "NID_RADIO", 32, 4294967295, 0},
	{65, api.VQSleepsession, "Q_SLEEPSESSION", 1, 1, 0},
	{66, api.VTMar, "T_MAR", 8, 255, 0},
	{67, api.VTTimeoutrqst, "T_TIMEOUTRQST", 10, 1023, 0},
	{68, api.VTCycrqst, "T_CYCRQST", 8, 255, 0},
	{69, api.VTCycloc, "T_CYCLOC", 8, 255, 0},
	{70, api.VDCycloc, "D_CYCLOC", 15, 32767, 0},
	{71, api.VMLoc, "M_LOC", 3, 2, 0},
	{72, api.VDLoc, "D_LOC", 15, 32767, 0},
	{73, api.VQLgtloc, "Q_LGTLOC", 1, 1, 0},
	{74, api.VNidPrvlrbg, "NID_PRVLRBG", 24, 16777215, 0},
	{75, api.VNidOperational, "NID_OPERATIONAL", 32, 4294967295, 0},
	{76, api.VNcTrain, "NC_TRAIN", 15, 32767, 0},
	{77, api.VLTrain, "L_TRAIN", 12, 4095, 0},
	{78, api.VVMaxtrain, "V_MAXTRAIN", 7, 120, 0},
	{79, api.VMLoadinggauge, "M_LOADINGGAUGE", 8, 255, 0},
	{80, api.VMAxleload, "M_AXLELOAD", 7, 127, 0},
	{81, api.VMAirtight, "M_AIRTIGHT", 2, 1, 0},
	{82, api.VMTraction, "M_TRACTION", 8, 255, 0},
	{83, api.VNidStm, "NID_STM", 8, 255, 0},
	{84, api.VDValidnv, "D_VALIDNV", 15, 32767, 0},
	{85, api.VVNvshunt, "V_NVSHUNT", 7, 120, 0},
	{86, api.VTNvcontact, "T_NVCONTACT", 8, 255, 0},
	{87, api.VMNvcontact, "M_NVCONTACT", 2, 2, 0},
	{88, api.VNidEm, "NID_EM", 4, 15, 0},
	{89, api.VDRef, "D_REF", 16, 65535, 0},
	{90, api.VDEmergencystop, "D_EMERGENCYSTOP", 15, 32767, 0},
	{91, api.VQEmergencystop, "Q_EMERGENCYSTOP", 2, 3, 0},
	{92, api.VMVersion, "M_VERSION", 7, 127, 0},
	{93, api.VQStatus, "Q_STATUS", 2, 3, 0},
	{94, api.VQMarqstreason, "Q_MARQSTREASON", 5, 31, 0},
	{95, api.VDSr, "D_SR", 15, 32767, 0},
}

// noVariables are numbers that no variable has; some of them are those of
// variables in their low-order bits.
var noVariables = []int{
	math.MinInt, math.MinInt + 1, -1 << 32, 4 - 1<<32, -256, -api.Vars, -1,
	api.Vars, api.Vars + 1, 99, 127, 128, 255, 256, 260, 1 << 16, 1 << 32, 1<<32 + 4, math.MaxInt - 1, math.MaxInt,
}

// valid tells by the table alone whether n is a valid value.
func (r row) valid(n int) bool {
	plain := 0 <= n && n <= r.most
	special := r.special > 0 && r.special <= n && n < 1<<r.width
	return plain || special
}

// edges returns numbers around those that bound the values of r, and some far
// away from them.
func (r row) edges() []int {
	out := []int{
		math.MinInt, math.MinInt + 1, -1 << 40, -1 << 32, -1 << 31, -r.most, -256, -128,
		1 << 31, 1<<32 - 1, 1 << 32, 1<<32 + 1, 1<<32 + r.most, 1 << 40, 1 << 62, math.MaxInt - 1, math.MaxInt,
	}
	for _, n := range []int{0, r.most / 2, r.most, r.special, (r.most + r.special) / 2, 1 << r.width, 2 << r.width} {
		out = append(out, n-2, n-1, n, n+1, n+2)
	}
	return out
}

func TestTableIsThatOfTheChapter(t *testing.T) {
	if len(table) != 96 || api.Vars != 96 {
		t.Fatalf("%d rows, %d variables", len(table), api.Vars)
	}
	for i, r := range table {
		if r.number != i || r.constant != i {
			t.Errorf("row %d has the number %d and the constant %d", i, r.number, r.constant)
		}
	}
}

// P2.1

func TestWidthMostSpecial(t *testing.T) {
	for _, r := range table {
		if w, m, s := Width(r.number), Most(r.number), Special(r.number); w != r.width || m != r.most || s != r.special {
			t.Errorf("%s: %d, %d, %d, want %d, %d, %d", r.name, w, m, s, r.width, r.most, r.special)
		}
	}
}

func TestWidthMostSpecialExamples(t *testing.T) {
	if n := Width(api.VTTrain); n != 32 {
		t.Errorf("Width(VTTrain) = %d, want 32", n)
	}
	if n := Most(api.VVTrain); n != 120 {
		t.Errorf("Most(VVTrain) = %d, want 120", n)
	}
	if n := Special(api.VVTrain); n != 127 {
		t.Errorf("Special(VVTrain) = %d, want 127", n)
	}
}

func TestNoVariableHasNoWidth(t *testing.T) {
	for _, v := range noVariables {
		if w, m, s := Width(v), Most(v), Special(v); w != 0 || m != 0 || s != 0 {
			t.Errorf("%d: %d, %d, %d, want 0, 0, 0", v, w, m, s)
		}
	}
}

// P2.2

func TestMayOfEachValue(t *testing.T) {
	for _, r := range table {
		if r.width > 16 {
			continue
		}
		for n := -2 << r.width; n <= 4<<r.width; n++ {
			if May(r.number, n) != r.valid(n) {
				t.Errorf("May(%s, %d) = %t", r.name, n, !r.valid(n))
			}
		}
	}
}

func TestMayAtTheEdges(t *testing.T) {
	for _, r := range table {
		for _, n := range r.edges() {
			if May(r.number, n) != r.valid(n) {
				t.Errorf("May(%s, %d) = %t", r.name, n, !r.valid(n))
			}
		}
	}
}

func TestMayExamples(t *testing.T) {
	cases := []struct {
		v, n int
		want bool
	}{
		{api.VQScale, 2, true}, {api.VQScale, 3, false},
		{api.VVReleasedp, 120, true}, {api.VVReleasedp, 121, false}, {api.VVReleasedp, 125, false},
		{api.VVReleasedp, 126, true}, {api.VVReleasedp, 127, true}, {api.VVReleasedp, 128, false},
		{api.VVTrain, 120, true}, {api.VVTrain, 121, false}, {api.VVTrain, 126, false},
		{api.VVTrain, 127, true}, {api.VVTrain, 128, false},
		{api.VVEma, 120, true}, {api.VVEma, 127, false},
		{api.VMAirtight, 1, true}, {api.VMAirtight, 2, false}, {api.VMLoc, 2, true}, {api.VMLoc, 3, false},
		{api.VNidMessage, 0, true}, {api.VNidMessage, 255, true}, {api.VNidMessage, 256, false}, {api.VNidMessage, -1, false},
		{api.VDSr, 0, true}, {api.VDSr, 32767, true}, {api.VDSr, 32768, false}, {api.VDSr, -1, false},
		{api.VTTrain, 1<<32 - 1, true}, {api.VTTrain, 1 << 32, false},
	}
	for _, c := range cases {
		if got := May(c.v, c.n); got != c.want {
			t.Errorf("May(%d, %d) = %t", c.v, c.n, got)
		}
	}
}

func TestNoVariableMayBeAnything(t *testing.T) {
	for _, v := range noVariables {
		for _, n := range []int{math.MinInt, -1, 0, 1, 2, 120, 126, 127, 255, 32767, math.MaxInt} {
			if May(v, n) {
				t.Errorf("May(%d, %d) = true", v, n)
			}
		}
	}
}

// P2.3

func TestNameAndFind(t *testing.T) {
	for _, r := range table {
		if name := Name(r.number); name != r.name {
			t.Errorf("Name(%d) = %q, want %q", r.number, name, r.name)
		}
		if v := Find(r.name); v != r.number {
			t.Errorf("Find(%q) = %d, want %d", r.name, v, r.number)
		}
	}
}

func TestNoVariableHasNoName(t *testing.T) {
	for _, v := range noVariables {
		if name := Name(v); name != "" {
			t.Errorf("Name(%d) = %q", v, name)
		}
	}
}

// numberOf returns the number that the table has for name, or -1.
func numberOf(name string) int {
	return slices.IndexFunc(table, func(r row) bool { return r.name == name })
}

func TestFindTakesExactNamesOnly(t *testing.T) {
	for _, r := range table {
		for _, name := range []string{
			strings.ToLower(r.name), strings.ToLower(r.name[:1]) + r.name[1:], r.name[:1] + strings.ToLower(r.name[1:]),
			" " + r.name, r.name + " ", r.name + "\x00", r.name + "\n", r.name + "_", r.name + r.name,
			strings.ReplaceAll(r.name, "_", ""), strings.ReplaceAll(r.name, "_", " "), strings.ReplaceAll(r.name, "_", "-"),
			r.name[1:], r.name[:len(r.name)-1], r.name[:2], r.name + "S",
		} {
			if v := Find(name); v != numberOf(name) {
				t.Errorf("Find(%q) = %d, want %d", name, v, numberOf(name))
			}
		}
	}
}

func TestFindOfNoName(t *testing.T) {
	for _, name := range []string{
		"", " ", "_", "0", "1", "-1", "VDSr", "d_sr", "D_SR D_REF", "D_SR,D_REF", "Q_DIR\xff", "\xff\xfe",
		"Ｄ_SR", strings.Repeat("D_SR", 1<<16),
	} {
		if v := Find(name); v != -1 {
			t.Errorf("Find of %d bytes %.20q = %d, want -1", len(name), name, v)
		}
	}
}

// P2.4

func TestValidValuesFitIntoTheirWidths(t *testing.T) {
	for v := range api.Vars {
		ns := []int{0, Most(v), Special(v), 1<<Width(v) - 1, 1 << Width(v)}
		for _, n := range append(ns, table[v].edges()...) {
			w := &bits.Writer{}
			if May(v, n) && w.Put(n, Width(v)) != api.OK {
				t.Errorf("%s: %d is valid, but does not fit into %d bits", Name(v), n, Width(v))
			}
		}
		if !May(v, 0) || !May(v, Most(v)) {
			t.Errorf("%s: its least or its largest plain value is not valid", Name(v))
		}
	}
}

func TestFindOfNameIsTheVariable(t *testing.T) {
	for v := range api.Vars {
		if got := Find(Name(v)); got != v {
			t.Errorf("Find(Name(%d)) = %d", v, got)
		}
	}
}
