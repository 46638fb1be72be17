/-
  link, pure: a session's waits as plain lists.
-/
import Derived.Test.YtbohoejikihnfaaSpA

namespace Go.Proofs.Ytbohoejikihnfaa

structure W0 where
  t : Int
  due : Int
  tries : Int
  body : List Nat
structure L0 where
  period : Int
  most : Int
  quiet : Int
  heard : Int
  ws : List W0
def l0z : L0 := ⟨0, 0, 0, 0, []⟩
def okB (xs : List Nat) : Bool := decide (0 < xs.length) && decide (xs.length < 1024)
def okW (most : Int) (x : W0) : Bool := isT x.t && okB x.body && (decide (0 ≤ x.due) && (decide (x.due ≤ 8589934592) && (decide (0 ≤ x.tries) && decide (x.tries ≤ most))))
def headOk (l : L0) : Bool := decide (1 ≤ l.period) && (decide (l.period ≤ 1048576) && (decide (0 ≤ l.most) && (decide (l.most ≤ 20) && (decide (1 ≤ l.quiet) && (decide (l.quiet ≤ 1048576) && isT l.heard)))))
def mayL (l : L0) : Bool := headOk l && (decide (l.ws.length ≤ 8) && (l.ws.all (okW l.most) && decide (l.ws.Pairwise fun a b => a.t < b.t)))
def hasT (ws : List W0) (t : Int) : Bool := ws.any fun x => x.t == t
def insW (x : W0) : List W0 → List W0
  | [] => [x]
  | y :: r => if x.t < y.t then x :: y :: r else y :: insW x r
def fitS (l : L0) (t now : Int) (xs : List Nat) : Bool := mayL l && (isT t && (isT now && okB xs))
def sentE (l : L0) (t now : Int) (xs : List Nat) : Int := if fitS l t now xs = true then (if hasT l.ws t = true then 5 else if 8 ≤ l.ws.length then 3 else 0) else 1
def sentL (l : L0) (t now : Int) (xs : List Nat) : L0 := if sentE l t now xs = 0 then { l with ws := insW ⟨t, now + l.period, 0, xs⟩ l.ws } else l0z
def ackedE (l : L0) (t : Int) : Int := if mayL l = true then (if hasT l.ws t = true then 0 else 4) else 1
def ackedL (l : L0) (t : Int) : L0 := if ackedE l t = 0 then { l with ws := l.ws.filter fun x => x.t != t } else l0z
def heardE (l : L0) (now : Int) : Int := if (mayL l && isT now) = true then 0 else 1
def heardL (l : L0) (now : Int) : L0 := if heardE l now = 0 then { l with heard := if l.heard < now then now else l.heard } else l0z
def overB (l : L0) (now : Int) (x : W0) : Bool := decide (x.due ≤ now) && (x.tries == l.most)
def lostB (l : L0) (now : Int) : Bool := decide (l.heard + l.quiet < now) || l.ws.any (overB l now)
def tellW (l : L0) (now : Int) (x : W0) : W0 := if x.due ≤ now then { x with tries := x.tries + 1, due := now + l.period } else x
def tickE (l : L0) (now : Int) : Int := if (mayL l && isT now) = true then 0 else 1
def tickLost (l : L0) (now : Int) : Bool := (mayL l && isT now) && lostB l now
def tickL (l : L0) (now : Int) : L0 := if (mayL l && isT now) = true then (if lostB l now = true then l else { l with ws := l.ws.map (tellW l now) }) else l0z
def tickA (l : L0) (now : Int) : List (List Nat) := if (mayL l && isT now) = true then (if lostB l now = true then [] else (l.ws.filter fun x => decide (x.due ≤ now)).map (·.body)) else []
def newL (p m q now : Int) : L0 := if mayL ⟨p, m, q, now, []⟩ = true then ⟨p, m, q, now, []⟩ else l0z
def newE12 (p m q now : Int) : Int := if mayL ⟨p, m, q, now, []⟩ = true then 0 else 1
def lightL (l : L0) : Bool := decide (l.ws.length ≤ 50) && l.ws.all fun x => decide (x.body.length ≤ 2000)
end Go.Proofs.Ytbohoejikihnfaa
