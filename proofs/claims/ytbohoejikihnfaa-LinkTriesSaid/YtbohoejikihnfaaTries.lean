/-
  LinkTries, pure: what a call makes of a session, how often a body is told. A call (Kind, T, Now, Body) is kept as a W0: t, due, tries, body.
-/
import Derived.Test.YtbohoejikihnfaaLawLinkAcked

namespace Go.Proofs.Ytbohoejikihnfaa

open Go.RowKit

def done0 (l : L0) (o : W0) : L0 × List (List Nat) × Bool :=
  if o.t = 0 then (if sentE l o.due o.tries o.body = 0 then (sentL l o.due o.tries o.body, [], false) else (l, [], false))
  else if o.t = 1 then (if ackedE l o.due = 0 then (ackedL l o.due, [], false) else (l, [], false))
  else if o.t = 2 then (if heardE l o.tries = 0 then (heardL l o.tries, [], false) else (l, [], false))
  else if o.t = 3 then (if tickE l o.tries = 0 then (tickL l o.tries, tickA l o.tries, tickLost l o.tries) else (l, [], false))
  else (l, [], false)
def oneB (b : List Nat) (ws : List W0) : List W0 := ws.filter fun y => decide (y.body = b)
def cntB (b : List Nat) (yss : List (List Nat)) : Nat := (yss.filter fun z => decide (z = b)).length
def TriesI (most : Int) (b : List Nat) (l : L0) (told : Int) : Prop :=
  mayL l = true ∧ l.most = most ∧ 0 ≤ told ∧ told ≤ most ∧ (oneB b l.ws).length ≤ 1 ∧ ∀ y ∈ oneB b l.ws, y.tries = told

theorem ins_filter (F : W0 → Bool) (x : W0) (hx : F x = false) (ws : List W0) : (insW x ws).filter F = ws.filter F := by
  induction ws with
  | nil => simp [insW, hx]
  | cons y r ih =>
    rw [insW]
    by_cases h : x.t < y.t
    · rw [if_pos h, List.filter_cons_of_neg (by rw [hx]; decide)]
    · rw [if_neg h]
      simp only [List.filter_cons, ih]
theorem ins_mem {x z : W0} {ws : List W0} (h : z ∈ insW x ws) : z = x ∨ z ∈ ws := by
  induction ws with
  | nil => simp [insW] at h; exact .inl h
  | cons y r ih =>
    rw [insW] at h
    by_cases hl : x.t < y.t
    · rw [if_pos hl] at h
      exact List.mem_cons.1 h
    · rw [if_neg hl] at h
      rcases List.mem_cons.1 h with h | h
      · exact .inr (by rw [h]; exact List.mem_cons_self ..)
      · exact (ih h).imp id fun h => List.mem_cons_of_mem _ h
theorem ins_sort {x : W0} {ws : List W0} (hs : ws.Pairwise fun a b => a.t < b.t) (hh : hasT ws x.t = false) : (insW x ws).Pairwise fun a b => a.t < b.t := by
  induction ws with
  | nil => simp [insW]
  | cons y r ih =>
    obtain ⟨h1, h2⟩ := List.pairwise_cons.1 hs
    unfold hasT at hh
    rw [List.any_cons, Bool.or_eq_false_iff] at hh
    have hy : y.t ≠ x.t := by simpa using hh.1
    rw [insW]
    by_cases h : x.t < y.t
    · rw [if_pos h]
      refine List.pairwise_cons.2 ⟨fun z hz => ?_, hs⟩
      rcases List.mem_cons.1 hz with rfl | hz
      · exact h
      · have := h1 z hz
        omega
    · rw [if_neg h]
      refine List.pairwise_cons.2 ⟨fun z hz => ?_, ih h2 hh.2⟩
      rcases ins_mem hz with rfl | hz
      · omega
      · exact h1 z hz
theorem sent_zero {l : L0} {t now : Int} {xs : List Nat} (h : sentE l t now xs = 0) : fitS l t now xs = true ∧ hasT l.ws t = false ∧ ¬ 8 ≤ l.ws.length ∧ sentL l t now xs = { l with ws := insW ⟨t, now + l.period, 0, xs⟩ l.ws } := by
  have hl : sentL l t now xs = { l with ws := insW ⟨t, now + l.period, 0, xs⟩ l.ws } := by unfold sentL; rw [if_pos h]
  unfold sentE at h
  by_cases hf : fitS l t now xs = true
  · rw [if_pos hf] at h
    by_cases hh : hasT l.ws t = true
    · rw [if_pos hh] at h; exact absurd h (by decide)
    · rw [if_neg hh] at h
      by_cases h8 : 8 ≤ l.ws.length
      · rw [if_pos h8] at h; exact absurd h (by decide)
      · exact ⟨hf, by simpa using hh, h8, hl⟩
  · rw [if_neg hf] at h; exact absurd h (by decide)
theorem sent_may {l : L0} {t now : Int} {xs : List Nat} (h : sentE l t now xs = 0) : mayL (sentL l t now xs) = true := by
  obtain ⟨hf, hh, h8, e⟩ := sent_zero h
  rw [e]
  unfold fitS at hf
  simp only [Bool.and_eq_true] at hf
  obtain ⟨hm, ht, hn, hb⟩ := hf
  have hp : (1 ≤ l.period ∧ l.period ≤ 1048576) ∧ 0 ≤ l.most := by
    unfold mayL headOk at hm
    simp only [Bool.and_eq_true, decide_eq_true_eq] at hm
    omega
  unfold mayL at hm ⊢
  simp only [Bool.and_eq_true, decide_eq_true_eq, List.all_eq_true] at hm ⊢
  refine ⟨hm.1, by rw [insW_len]; omega, fun x hx => ?_, ins_sort hm.2.2.2 hh⟩
  rcases ins_mem hx with rfl | hx
  · unfold okW
    simp only [Bool.and_eq_true, decide_eq_true_eq]
    rw [isT_iff] at hn
    exact ⟨⟨ht, hb⟩, by omega, by omega, by omega, hp.2⟩
  · exact hm.2.2.1 x hx
theorem heard_may {l : L0} {now : Int} (h : mayL l = true) (he : heardE l now = 0) : mayL (heardL l now) = true ∧ (heardL l now).most = l.most ∧ (heardL l now).ws = l.ws := by
  have e : heardL l now = { l with heard := if l.heard < now then now else l.heard } := by unfold heardL; rw [if_pos he]
  have hn : isT now = true := by
    unfold heardE at he
    rw [h, Bool.true_and] at he
    cases hn : isT now with
    | true => rfl
    | false => rw [hn, if_neg (by decide)] at he; exact absurd he (by decide)
  rw [e]
  refine ⟨?_, rfl, rfl⟩
  unfold mayL headOk at h ⊢
  simp only [Bool.and_eq_true] at h ⊢
  refine ⟨⟨h.1.1, h.1.2.1, h.1.2.2.1, h.1.2.2.2.1, h.1.2.2.2.2.1, h.1.2.2.2.2.2.1, ?_⟩, h.2⟩
  show isT (if l.heard < now then now else l.heard) = true
  split
  · exact hn
  · exact h.1.2.2.2.2.2.2
theorem tell_may {l : L0} {now : Int} (h : mayL l = true) (hn : isT now = true) (hl : lostB l now = false) {x : W0} (hx : x ∈ l.ws) : okW l.most (tellW l now x) = true ∧ (x.due ≤ now → x.tries + 1 ≤ l.most) := by
  have hov : overB l now x = false := by
    unfold lostB at hl
    rw [Bool.or_eq_false_iff] at hl
    have := List.any_eq_false.1 hl.2 x hx
    simpa using this
  have hp : (1 ≤ l.period ∧ l.period ≤ 1048576) := by
    unfold mayL headOk at h
    simp only [Bool.and_eq_true, decide_eq_true_eq] at h
    omega
  have hk : okW l.most x = true := by
    unfold mayL at h
    simp only [Bool.and_eq_true, List.all_eq_true] at h
    exact h.2.2.1 x hx
  have hd : x.due ≤ now → x.tries + 1 ≤ l.most := fun hd => by
    unfold overB at hov
    rw [decide_eq_true hd, Bool.true_and] at hov
    have h1 : x.tries ≠ l.most := by simpa using hov
    unfold okW at hk
    simp only [Bool.and_eq_true, decide_eq_true_eq] at hk
    omega
  refine ⟨?_, hd⟩
  unfold tellW
  split
  · rename_i hdue
    have hd := hd hdue
    rw [isT_iff] at hn
    unfold okW at hk ⊢
    simp only [Bool.and_eq_true, decide_eq_true_eq] at hk ⊢
    exact ⟨hk.1, by omega, by omega, by omega, by omega⟩
  · exact hk
theorem tell_t (l : L0) (now : Int) (x : W0) : (tellW l now x).t = x.t ∧ (tellW l now x).body = x.body ∧ (tellW l now x).tries = if x.due ≤ now then x.tries + 1 else x.tries := by
  unfold tellW
  split <;> exact ⟨rfl, rfl, rfl⟩
theorem tick_may {l : L0} {now : Int} (h : mayL l = true) (he : tickE l now = 0) : isT now = true ∧ mayL (tickL l now) = true ∧ (tickL l now).most = l.most := by
  have hn : isT now = true := by
    unfold tickE at he
    rw [h, Bool.true_and] at he
    cases hn : isT now with
    | true => rfl
    | false => rw [hn, if_neg (by decide)] at he; exact absurd he (by decide)
  refine ⟨hn, ?_⟩
  unfold tickL
  rw [h, hn, Bool.and_self, if_pos rfl]
  cases hl : lostB l now with
  | true => rw [if_pos rfl]; exact ⟨h, rfl⟩
  | false =>
    rw [if_neg (by decide)]
    refine ⟨?_, rfl⟩
    have h' := h
    unfold mayL at h ⊢
    simp only [Bool.and_eq_true, decide_eq_true_eq, List.all_eq_true] at h ⊢
    refine ⟨h.1, by rw [List.length_map]; exact h.2.1, fun y hy => ?_, ?_⟩
    · obtain ⟨x, hx, rfl⟩ := List.mem_map.1 hy
      exact (tell_may h' hn hl hx).1
    · rw [List.pairwise_map]
      refine h.2.2.2.imp fun {a b} hab => ?_
      rw [(tell_t l now a).1, (tell_t l now b).1]
      exact hab
theorem one_map (b : List Nat) (l : L0) (now : Int) (ws : List W0) : oneB b (ws.map (tellW l now)) = (oneB b ws).map (tellW l now) := by
  unfold oneB
  rw [List.filter_map]
  congr 1
  refine List.filter_congr fun x _ => ?_
  show decide ((tellW l now x).body = b) = decide (x.body = b)
  rw [(tell_t l now x).2.1]
theorem cnt_due (b : List Nat) (ws : List W0) (now : Int) : cntB b ((ws.filter fun x => decide (x.due ≤ now)).map (·.body)) = ((oneB b ws).filter fun x => decide (x.due ≤ now)).length := by
  unfold cntB oneB
  rw [List.filter_map, List.length_map, List.filter_filter, List.filter_filter]
  congr 1
  refine List.filter_congr fun x _ => ?_
  show (decide (x.body = b) && decide (x.due ≤ now)) = (decide (x.due ≤ now) && decide (x.body = b))
  exact Bool.and_comm ..
theorem tries_step {most : Int} {b : List Nat} {l : L0} {told : Int} (h : TriesI most b l told) (o : W0) (ho : ¬ (o.t = 0 ∧ o.body = b)) :
    TriesI most b (done0 l o).1 (told + (cntB b (done0 l o).2.1 : Nat)) ∧ ((done0 l o).2.2 = true → (done0 l o).2.1.length = 0) ∧ (done0 l o).2.1.length ≤ 8 := by
  have h0 : TriesI most b l (told + (cntB b [] : Nat)) := by
    have e : told + (cntB b [] : Nat) = told := by simp [cntB]
    rw [e]; exact h
  have stay : ∀ r : L0 × List (List Nat) × Bool, r = (l, [], false) → TriesI most b r.1 (told + (cntB b r.2.1 : Nat)) ∧ (r.2.2 = true → r.2.1.length = 0) ∧ r.2.1.length ≤ 8 := fun r e => by
    subst e
    exact ⟨h0, fun h => (by cases h), by simp⟩
  obtain ⟨h1, h2, h3, h4, h5, h6⟩ := h
  unfold done0
  split
  · rename_i hk
    split
    · rename_i he
      obtain ⟨_, _, _, e⟩ := sent_zero he
      have hm := sent_may he
      have hf : oneB b (sentL l o.due o.tries o.body).ws = oneB b l.ws := by
        rw [e]
        exact ins_filter _ _ (by simpa using fun hb => ho ⟨hk, hb⟩) _
      refine ⟨⟨hm, by rw [e]; exact h2, by simpa [cntB] using h3, by simpa [cntB] using h4, by rw [hf]; exact h5, fun y hy => ?_⟩, fun h => (by cases h), by simp⟩
      rw [hf] at hy
      have := h6 y hy
      simpa [cntB] using this
    · exact stay _ rfl
  · split
    · split
      · rename_i he
        have e : ackedL l o.due = { l with ws := l.ws.filter fun x => x.t != o.due } := by unfold ackedL; rw [if_pos he]
        have hf : oneB b (ackedL l o.due).ws = (oneB b l.ws).filter fun x => x.t != o.due := by
          rw [e]
          unfold oneB
          rw [List.filter_filter, List.filter_filter]
          exact List.filter_congr fun x _ => Bool.and_comm ..
        refine ⟨⟨by rw [e]; exact may_filter h1 _, by rw [e]; exact h2, by simpa [cntB] using h3, by simpa [cntB] using h4, ?_, fun y hy => ?_⟩, fun h => (by cases h), by simp⟩
        · rw [hf]
          exact Nat.le_trans (List.length_filter_le _ _) h5
        · rw [hf] at hy
          have := h6 y (List.mem_filter.1 hy).1
          simpa [cntB] using this
      · exact stay _ rfl
    · split
      · split
        · rename_i he
          obtain ⟨a1, a2, a3⟩ := heard_may h1 he
          refine ⟨⟨a1, by rw [a2]; exact h2, by simpa [cntB] using h3, by simpa [cntB] using h4, by rw [a3]; exact h5, fun y hy => ?_⟩, fun h => (by cases h), by simp⟩
          rw [a3] at hy
          have := h6 y hy
          simpa [cntB] using this
        · exact stay _ rfl
      · split
        · split
          · rename_i he
            obtain ⟨hn, a1, a2⟩ := tick_may h1 he
            have hag := tick_again (l := l) (now := o.tries)
            have h8 : l.ws.length ≤ 8 := by
              unfold mayL at h1
              simp only [Bool.and_eq_true, decide_eq_true_eq] at h1
              exact h1.2.1
            refine ⟨?_, hag.2, Nat.le_trans hag.1 h8⟩
            have hfit : (mayL l && isT o.tries) = true := by rw [h1, hn]; rfl
            cases hl : lostB l o.tries with
            | true =>
              have e1 : tickL l o.tries = l := by unfold tickL; rw [hfit, hl]; rfl
              have e2 : tickA l o.tries = [] := by unfold tickA; rw [hfit, hl]; rfl
              show TriesI most b (tickL l o.tries) (told + (cntB b (tickA l o.tries) : Nat))
              rw [e1, e2]
              exact h0
            | false =>
              have e1 : tickL l o.tries = { l with ws := l.ws.map (tellW l o.tries) } := by unfold tickL; rw [hfit, hl]; rfl
              have e2 : tickA l o.tries = (l.ws.filter fun x => decide (x.due ≤ o.tries)).map (·.body) := by unfold tickA; rw [hfit, hl]; rfl
              show TriesI most b (tickL l o.tries) (told + (cntB b (tickA l o.tries) : Nat))
              have hone : oneB b (tickL l o.tries).ws = (oneB b l.ws).map (tellW l o.tries) := by rw [e1]; exact one_map b l o.tries l.ws
              rw [e2, cnt_due]
              match hob : oneB b l.ws, h5, h6 with
              | [], _, _ =>
                rw [hob] at hone
                refine ⟨a1, by rw [a2]; exact h2, by simp; omega, by simp; omega, by rw [hone]; simp, fun y hy => ?_⟩
                rw [hone] at hy
                simp at hy
              | [x], _, h6 =>
                rw [hob] at hone
                have hxm : x ∈ l.ws := (List.mem_filter.1 (show x ∈ oneB b l.ws by rw [hob]; simp)).1
                have hxt := h6 x (by simp)
                have htm := (tell_may h1 hn hl hxm).2
                have htl := (tell_t l o.tries x).2.2
                by_cases hd : x.due ≤ o.tries
                · have := htm hd
                  rw [if_pos hd] at htl
                  have ec : (([x] : List W0).filter fun x => decide (x.due ≤ o.tries)).length = 1 := by simp [hd]
                  rw [ec]
                  refine ⟨a1, by rw [a2]; exact h2, by omega, by rw [← h2]; omega, by rw [hone]; simp, fun y hy => ?_⟩
                  rw [hone] at hy
                  simp at hy
                  rw [hy, htl, hxt]
                  rfl
                · rw [if_neg hd] at htl
                  have ec : (([x] : List W0).filter fun x => decide (x.due ≤ o.tries)).length = 0 := by simp [hd]
                  rw [ec]
                  refine ⟨a1, by rw [a2]; exact h2, by omega, by omega, by rw [hone]; simp, fun y hy => ?_⟩
                  rw [hone] at hy
                  simp at hy
                  rw [hy, htl, hxt]
                  simp
              | _ :: _ :: _, h5, _ => simp at h5
          · exact stay _ rfl
        · exact stay _ rfl
theorem tries_start {most t : Int} {b : List Nat} (hn : newE12 10 most 1000 0 = 0) (hs : sentE (newL 10 most 1000 0) t 0 b = 0) : TriesI most b (sentL (newL 10 most 1000 0) t 0 b) 0 := by
  have hm : mayL ⟨10, most, 1000, 0, []⟩ = true := by
    unfold newE12 at hn
    cases h : mayL ⟨10, most, 1000, 0, []⟩ with
    | true => rfl
    | false => rw [h, if_neg (by decide)] at hn; exact absurd hn (by decide)
  have en : newL 10 most 1000 0 = ⟨10, most, 1000, 0, []⟩ := by unfold newL; rw [if_pos hm]
  have hmay := sent_may hs
  obtain ⟨_, _, _, e⟩ := sent_zero hs
  rw [e] at hmay ⊢
  rw [en] at hmay ⊢
  refine ⟨hmay, rfl, Int.le_refl _, ?_, ?_, fun y hy => ?_⟩
  · unfold mayL headOk at hm
    simp only [Bool.and_eq_true, decide_eq_true_eq] at hm
    omega
  · unfold oneB insW
    exact List.length_filter_le _ _
  · have := (List.mem_filter.1 hy).1
    simp [insW] at this
    rw [this]
theorem new_may {most : Int} (hn : newE12 10 most 1000 0 = 0) : mayL (newL 10 most 1000 0) = true ∧ (newL 10 most 1000 0).ws = [] ∧ 0 ≤ most ∧ most ≤ 20 := by
  have hm : mayL ⟨10, most, 1000, 0, []⟩ = true := by
    unfold newE12 at hn
    cases h : mayL ⟨10, most, 1000, 0, []⟩ with
    | true => rfl
    | false => rw [h, if_neg (by decide)] at hn; exact absurd hn (by decide)
  have en : newL 10 most 1000 0 = ⟨10, most, 1000, 0, []⟩ := by unfold newL; rw [if_pos hm]
  rw [en]
  refine ⟨hm, rfl, ?_⟩
  unfold mayL headOk at hm
  simp only [Bool.and_eq_true, decide_eq_true_eq] at hm
  omega
theorem sent_none {l : L0} {t now : Int} {xs : List Nat} (h : sentE l t now xs ≠ 0) : (sentL l t now xs).ws = [] := by
  unfold sentL
  rw [if_neg h]
  rfl
/-- How many of the first k bodies are b. -/
theorem cnt_step {b x : List Nat} {yss : List (List Nat)} {k : Nat} (hx : yss[k]? = some x) : cntB b (yss.take (k + 1)) = cntB b (yss.take k) + (if x = b then 1 else 0) := by
  obtain ⟨h, e⟩ := List.getElem?_eq_some_iff.1 hx
  unfold cntB
  rw [List.take_succ_eq_append_getElem h, List.filter_append, List.length_append, e]
  by_cases hb : x = b
  · rw [if_pos hb]; simp [hb]
  · rw [if_neg hb]; simp [hb]
theorem cnt_le (b : List Nat) (yss : List (List Nat)) : cntB b yss ≤ yss.length := List.length_filter_le _ _
end Go.Proofs.Ytbohoejikihnfaa
