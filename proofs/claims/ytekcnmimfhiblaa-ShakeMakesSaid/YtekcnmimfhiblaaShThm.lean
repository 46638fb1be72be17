/-
  What follows for two ends: a connection is made; what one sends the other takes.
-/
import Derived.Test.YtekcnmimfhiblaaMgA
namespace Go.Proofs.Ytekcnmimfhiblaa

theorem seal_as {k : Key4} {p : Pdu} (h : pdMay p) (h2 : 1 < p.kind) : pdSeal k p = { p with mac := macF k (pdText p) } := by
  unfold pdSeal; rw [if_pos ⟨h, h2⟩]
theorem seal_may {k : Key4} {p : Pdu} (h : pdMay p) (h2 : 1 < p.kind) : pdMay (pdSeal k p) := (seal_right (k := k) h h2).1
theorem seal_kind (k : Key4) (p : Pdu) : (pdSeal k p).kind = p.kind := by unfold pdSeal; split <;> rfl
theorem seal_dir (k : Key4) (p : Pdu) : (pdSeal k p).dir = p.dir := by unfold pdSeal; split <;> rfl
theorem seal_train (k : Key4) (p : Pdu) : (pdSeal k p).train = p.train := by unfold pdSeal; split <;> rfl
theorem seal_a (k : Key4) (p : Pdu) : (pdSeal k p).a = p.a := by unfold pdSeal; split <;> rfl
theorem seal_b (k : Key4) (p : Pdu) : (pdSeal k p).b = p.b := by unfold pdSeal; split <;> rfl
theorem seal_bd (k : Key4) (p : Pdu) : (pdSeal k p).body = p.body := by unfold pdSeal; split <;> rfl

section
variable {base : Key4} {train : Int} {a b : Nat}
def askX (base : Key4) (train : Int) (a : Nat) : Peer := { half0 base train with state := 1, a := a }
def askP (train : Int) (a : Nat) : Pdu := ⟨1, 0, train, a, 0, [], 0⟩
def ansY (base : Key4) (train : Int) (a b : Nat) : Peer := { half1 base train with half := true, a2 := a, b2 := b }
def ansP (base : Key4) (train : Int) (a b : Nat) : Pdu := pdSeal base ⟨2, 1, train, a, b, [], 0⟩
def conP (base : Key4) (train : Int) (a b : Nat) : Pdu := pdSeal base ⟨3, 0, train, a, b, [], 0⟩
theorem may1 (h0 : 0 ≤ train) (h1 : train ≤ 16777215) : pdMay (askP train a) := ⟨h0, h1, .inl ⟨rfl, rfl, rfl, rfl, rfl⟩⟩
theorem may2 (h0 : 0 ≤ train) (h1 : train ≤ 16777215) : pdMay ⟨2, 1, train, a, b, [], 0⟩ := ⟨h0, h1, .inr (.inl ⟨rfl, rfl, rfl⟩)⟩
theorem may3 (h0 : 0 ≤ train) (h1 : train ≤ 16777215) : pdMay ⟨3, 0, train, a, b, [], 0⟩ := ⟨h0, h1, .inr (.inr (.inl ⟨rfl, rfl, rfl⟩))⟩
theorem ask_up (h0 : 0 ≤ train) (h1 : train ≤ 16777215) : shAsk (half0 base train) a = (askX base train a, askP train a, 0) := by
  unfold shAsk
  rw [if_pos ⟨rfl, h0, h1⟩]
  rfl
theorem ans_up (h0 : 0 ≤ train) (h1 : train ≤ 16777215) : shAnswer (half1 base train) (askP train a) b = (ansY base train a b, ansP base train a b, 0) := by
  unfold shAnswer
  rw [if_pos ⟨show (1 : Int) ≠ 0 by decide, may1 h0 h1, rfl, by unfold fromD; rw [if_neg (show ¬ (half1 base train).side = 0 from (by decide : ¬ (1 : Int) = 0))]; rfl, rfl⟩]
  rfl
theorem con_up (h0 : 0 ≤ train) (h1 : train ≤ 16777215) : shConfirm (askX base train a) (ansP base train a b) = (upX base train a b, conP base train a b, 0) := by
  have hm := seal_may (k := base) (may2 (a := a) (b := b) h0 h1) (show (1 : Int) < 2 by decide)
  have hr := seal_right (k := base) (may2 (a := a) (b := b) h0 h1) (show (1 : Int) < 2 by decide)
  have hf : shFits (askX base train a) (ansP base train a b) 2 := ⟨hm, seal_kind _ _, by
    show (pdSeal base _).dir = _
    rw [seal_dir]
    unfold fromD
    rw [if_pos (show (askX base train a).side = 0 from rfl)], by
    show (pdSeal base _).train = _
    rw [seal_train]
    rfl⟩
  unfold shConfirm
  rw [if_pos ⟨rfl, hf⟩, if_pos (show (askX base train a).state = 1 from rfl), if_pos (show (ansP base train a b).a = (askX base train a).a from seal_a _ _), if_pos (show pdRight (askX base train a).base (ansP base train a b) from hr)]
  rw [show (ansP base train a b).b = b from seal_b _ _]
  rfl
theorem don_up (h0 : 0 ≤ train) (h1 : train ≤ 16777215) : shDone (ansY base train a b) (conP base train a b) = (upY base train a b, 0) := by
  have hm := seal_may (k := base) (may3 (a := a) (b := b) h0 h1) (show (1 : Int) < 3 by decide)
  have hr := seal_right (k := base) (may3 (a := a) (b := b) h0 h1) (show (1 : Int) < 3 by decide)
  have hf : shFits (ansY base train a b) (conP base train a b) 3 := ⟨hm, seal_kind _ _, by
    show (pdSeal base _).dir = _
    rw [seal_dir]
    unfold fromD
    rw [if_neg (show ¬ (ansY base train a b).side = 0 from (by decide : ¬ (1 : Int) = 0))], by
    show (pdSeal base _).train = _
    rw [seal_train]
    rfl⟩
  unfold shDone
  rw [if_pos ⟨(show (1 : Int) ≠ 0 by decide), hf⟩, if_pos (show (ansY base train a b).half = true from rfl), if_pos (show (conP base train a b).a = (ansY base train a b).a2 ∧ (conP base train a b).b = (ansY base train a b).b2 from ⟨seal_a _ _, seal_b _ _⟩), if_pos (show pdRight (ansY base train a b).base (conP base train a b) from hr)]
  rfl

/-! What is sent over a connection. -/
/-- An end that is up. -/
def upE (side : Bool) (base : Key4) (train : Int) (a b : Nat) : Peer := if side then upY base train a b else upX base train a b
def sideD (side : Bool) : Int := if side then 1 else 0
def datP (key : Key4) (side : Bool) (train : Int) (b : Nat) (body : List Nat) : Pdu := pdSeal key ⟨5, sideD side, train, 0, b, body, 0⟩
def endP (key : Key4) (side : Bool) (train : Int) (b y : Nat) : Pdu := pdSeal key ⟨6, sideD side, train, 0, b, [y], 0⟩
theorem up_state (s : Bool) : (upE s base train a b).state = 2 := by cases s <;> rfl
theorem up_key (s : Bool) : (upE s base train a b).key = deriveF base a b := by cases s <;> rfl
theorem up_train (s : Bool) : (upE s base train a b).train = train := by cases s <;> rfl
theorem up_b (s : Bool) : (upE s base train a b).b = b := by cases s <;> rfl
theorem up_own (s : Bool) : ownD (upE s base train a b) = sideD s := by cases s <;> rfl
theorem up_from (s : Bool) : fromD (upE s base train a b) = sideD (!s) := by cases s <;> rfl
theorem may5 (h0 : 0 ≤ train) (h1 : train ≤ 16777215) (s : Bool) {body : List Nat} (hb1 : 1 ≤ body.length) (hb2 : body.length ≤ 1023) : pdMay ⟨5, sideD s, train, 0, b, body, 0⟩ :=
  ⟨h0, h1, .inr (.inr (.inr (.inl ⟨rfl, by cases s <;> simp [sideD], rfl, hb1, hb2⟩)))⟩
theorem may6 (h0 : 0 ≤ train) (h1 : train ≤ 16777215) (s : Bool) (y : Nat) : pdMay ⟨6, sideD s, train, 0, b, [y], 0⟩ :=
  ⟨h0, h1, .inr (.inr (.inr (.inr ⟨rfl, by cases s <;> simp [sideD], rfl, rfl⟩)))⟩
theorem data_up (h0 : 0 ≤ train) (h1 : train ≤ 16777215) (s : Bool) {body : List Nat} (hb1 : 1 ≤ body.length) (hb2 : body.length ≤ 1023) : shData (upE s base train a b) body = (datP (deriveF base a b) s train b body, 0) := by
  unfold shData
  rw [if_pos (up_state s), if_pos ⟨⟨by rw [up_train]; exact h0, by rw [up_train]; exact h1⟩, hb1, hb2⟩, up_key, up_own, up_train, up_b]
  rfl
theorem fits_up (s : Bool) {q : Pdu} (k : Int) (hm : pdMay q) (hk : q.kind = k) (hd : q.dir = sideD (!s)) (ht : q.train = train) : shFits (upE s base train a b) q k :=
  ⟨hm, hk, by rw [up_from, hd], by rw [up_train, ht]⟩
theorem came_up (s : Bool) {q : Pdu} (k : Int) (hm : pdMay q) (hk : q.kind = k) (hd : q.dir = sideD (!s)) (ht : q.train = train) (hb : q.b = b) (hr : pdRight (deriveF base a b) q) : shCame (upE s base train a b) q k = 0 := by
  unfold shCame
  rw [if_pos (fits_up s k hm hk hd ht), if_pos (up_state s), if_pos (by rw [up_b, hb]), if_pos (by rw [up_key]; exact hr)]
theorem take_up (h0 : 0 ≤ train) (h1 : train ≤ 16777215) (s : Bool) {body : List Nat} (hb1 : 1 ≤ body.length) (hb2 : body.length ≤ 1023) : shTake (upE (!s) base train a b) (datP (deriveF base a b) s train b body) = (body, 0) := by
  have hm := may5 (b := b) h0 h1 s hb1 hb2
  have hc := came_up (base := base) (a := a) (b := b) (!s) 5 (seal_may (k := deriveF base a b) hm (show (1 : Int) < 5 by decide)) (seal_kind _ _) (by rw [seal_dir, Bool.not_not]) (seal_train _ _) (seal_b _ _) (seal_right hm (show (1 : Int) < 5 by decide))
  unfold shTake
  rw [if_pos (show shCame (upE (!s) base train a b) (datP (deriveF base a b) s train b body) 5 = 0 from hc)]
  show ((pdSeal _ _).body, (0 : Int)) = _
  rw [seal_bd]
theorem side_ne (s : Bool) : sideD s ≠ sideD (!s) := by cases s <;> simp [sideD]
theorem take_own (s : Bool) {body : List Nat} : shTake (upE s base train a b) (datP (deriveF base a b) s train b body) = ([], 1) := by
  have hc : shCame (upE s base train a b) (datP (deriveF base a b) s train b body) 5 = 1 := by
    unfold shCame
    rw [if_neg (fun h => side_ne s (by
      have h2 := h.2.2.1
      rw [up_from] at h2
      rw [← h2]
      exact (show (datP (deriveF base a b) s train b body).dir = sideD s from seal_dir _ _).symm))]
  unfold shTake
  rw [hc, if_neg (by decide)]
theorem end_up (h0 : 0 ≤ train) (h1 : train ≤ 16777215) (s : Bool) (y : Nat) : shEnd (upE s base train a b) y = (shClosed (upE s base train a b), endP (deriveF base a b) s train b y, 0) := by
  unfold shEnd
  rw [if_pos (up_state s), if_pos ⟨by rw [up_train]; exact h0, by rw [up_train]; exact h1⟩, up_key, up_own, up_train, up_b]
  rfl
theorem close_up (h0 : 0 ≤ train) (h1 : train ≤ 16777215) (s : Bool) (y : Nat) : shClose (upE (!s) base train a b) (endP (deriveF base a b) s train b y) = (shClosed (upE (!s) base train a b), 0) := by
  have hm := may6 (b := b) h0 h1 s y
  have hc := came_up (base := base) (a := a) (b := b) (!s) 6 (seal_may (k := deriveF base a b) hm (show (1 : Int) < 6 by decide)) (seal_kind _ _) (by rw [seal_dir, Bool.not_not]) (seal_train _ _) (seal_b _ _) (seal_right hm (show (1 : Int) < 6 by decide))
  unfold shClose
  rw [if_pos (show shCame (upE (!s) base train a b) (endP (deriveF base a b) s train b y) 6 = 0 from hc)]
theorem data_closed (p : Peer) (body : List Nat) : shData (shClosed p) body = (pdZero, 6) := by
  unfold shData
  rw [if_neg (show ¬ (shClosed p).state = 2 from (by decide : ¬ (0 : Int) = 2))]
/-- Another number: not taken. -/
theorem take_stale (s : Bool) {q : Pdu} (hb : q.b ≠ b) (hf : shFits (upE s base train a b) q 5) : shTake (upE s base train a b) q = ([], 110) := by
  have hc : shCame (upE s base train a b) q 5 = 110 := by
    unfold shCame
    rw [if_pos hf, if_pos (up_state s), if_neg (by rw [up_b]; exact hb)]
  unfold shTake
  rw [hc, if_neg (by decide)]
end

/-- A question that comes anew. -/
def agaY (base : Key4) (train : Int) (a b c d : Nat) : Peer := { upY base train a b with half := true, a2 := c, b2 := d }
theorem ans_again {base : Key4} {train : Int} {a b c d : Nat} (h0 : 0 ≤ train) (h1 : train ≤ 16777215) : shAnswer (upY base train a b) (askP train c) d = (agaY base train a b c d, ansP base train c d, 0) := by
  unfold shAnswer
  rw [if_pos ⟨show (1 : Int) ≠ 0 by decide, may1 h0 h1, rfl, by unfold fromD; rw [if_neg (show ¬ (upY base train a b).side = 0 from (by decide : ¬ (1 : Int) = 0))]; rfl, rfl⟩]
  rfl
theorem take_again {base : Key4} {train : Int} {a b c d : Nat} (h0 : 0 ≤ train) (h1 : train ≤ 16777215) {body : List Nat} (hb1 : 1 ≤ body.length) (hb2 : body.length ≤ 1023) : shTake (agaY base train a b c d) (datP (deriveF base a b) false train b body) = (body, 0) :=
  (show shTake (agaY base train a b c d) (datP (deriveF base a b) false train b body) = shTake (upE true base train a b) (datP (deriveF base a b) false train b body) from rfl).trans (take_up h0 h1 false hb1 hb2)
theorem agaY_ok {base : Key4} (h : base.ok) (train : Int) {a b c d : Nat} (ha : a < 4294967296) (hb : b < 4294967296) (hc : c < 4294967296) (hd : d < 4294967296) : (agaY base train a b c d).ok := ⟨h, ha, hb, deriveF_ok h ha hb, hc, hd⟩

/-! All of these may be. -/
theorem half0_ok {base : Key4} (h : base.ok) (train : Int) : (half0 base train).ok := ⟨h, show 0 < 4294967296 by decide, show 0 < 4294967296 by decide, key0_ok, show 0 < 4294967296 by decide, show 0 < 4294967296 by decide⟩
theorem half1_ok {base : Key4} (h : base.ok) (train : Int) : (half1 base train).ok := ⟨h, show 0 < 4294967296 by decide, show 0 < 4294967296 by decide, key0_ok, show 0 < 4294967296 by decide, show 0 < 4294967296 by decide⟩
theorem askX_ok {base : Key4} (h : base.ok) (train : Int) {a : Nat} (ha : a < 4294967296) : (askX base train a).ok := ⟨h, ha, show 0 < 4294967296 by decide, key0_ok, show 0 < 4294967296 by decide, show 0 < 4294967296 by decide⟩
theorem ansY_ok {base : Key4} (h : base.ok) (train : Int) {a b : Nat} (ha : a < 4294967296) (hb : b < 4294967296) : (ansY base train a b).ok := ⟨h, show 0 < 4294967296 by decide, show 0 < 4294967296 by decide, key0_ok, ha, hb⟩
theorem upE_ok {base : Key4} (h : base.ok) (s : Bool) (train : Int) {a b : Nat} (ha : a < 4294967296) (hb : b < 4294967296) : (upE s base train a b).ok := by
  cases s <;> exact ⟨h, ha, hb, deriveF_ok h ha hb, show 0 < 4294967296 by decide, show 0 < 4294967296 by decide⟩
theorem closed_ok {p : Peer} (h : p.ok) : (shClosed p).ok := ⟨h.1, show 0 < 4294967296 by decide, show 0 < 4294967296 by decide, key0_ok, h.2.2.2.2.1, h.2.2.2.2.2⟩
end Go.Proofs.Ytekcnmimfhiblaa
