import PyProof.Rows.All
import Wide.All
import OpenK.AllK
import Wide.FinOn
import HandS.ForMost
import HandS.ForExc
import HandS.ExcInit
import HandS.ExcField
import HandS.ExcIs
import HandS.TupAny
import HandS.TupMul
import HandS.Codes
import HandS.Style
import HandS.Wide
import HandS.FStr
import HandS.StrMore
import HandS.IsInst
import HandS.Flow
import HandS.Zip
import HandS.Defaults
import HandS.Small
import HandS.TupLe
import HandS.RaiseMore
import HandS.WideBits
import HandS.ExcValue
import PyProof.ListRange
import HandS.Sort
import HandS.Strs
import HandS.SetFor
import PySem.Challenge.RW_freightrights_k39_levels_and_what_is_ove
section
set_option Elab.async false
set_option linter.all false
set_option maxRecDepth 100000
set_option maxHeartbeats 4000001
namespace FRT
open PySem L2
/-! ### values as data -/
/-- at a: an own exception that was in the air -/
def exq (a : Addr) (cls : Value) (d : Option Addr) : HO := .ext fun h => ∃ (oe : Obj) (vs : Array Value), h.get? a = some oe ∧ Zc cls d oe ∧ oe.data = .fields vs
inductive D where
  | non
  | bl (b : Bool)
  | int (i : Int)
  | str (x : Str)
  | tup (l : List D)
  | lst (l : List D)
  | scr (l : List D)
  | dct (l : List (D × D))
  | exn (c : Addr) (l : List (Str × D))
mutual
inductive Rp (K : PySem.W.Frag) (G : Hp) : V → D → Prop
  | non : Rp K G .non .non
  | bl (b : Bool) : Rp K G (.bl b) (.bl b)
  | int (i : Int) : Rp K G (.int i) (.int i)
  | str (x : Str) : Rp K G (.str x) (.str x)
  | tup {a : Addr} {xs : List V} {ds : List D} : SqT K G a xs → Rps K G xs ds → Rp K G (.ref a) (.tup ds)
  | lst {a : Addr} {xs : List V} {ds : List D} : G a = some (.lst xs) → Rps K G xs ds → Rp K G (.ref a) (.lst ds)
  | scr {a : Addr} {xs : List V} {ds : List D} : SqL K G a xs → Rps K G xs ds → Rp K G (.ref a) (.scr ds)
  | exn0 {a C : Addr} : G a = some (exo a C none) → Rp K G (.ref a) (.exn C [])
  | exn1 {a C dx : Addr} {f : Str} {v : V} {d : D} : G a = some (exo a C (some dx)) → G dx = some (exd dx [(f, v)]) → Rp K G v d → Rp K G (.ref a) (.exn C [(f, d)])
  | exnk {a C dx : Addr} {f : Str} {v : V} {d : D} : G a = some (exq a (.ref C) (some dx)) → G dx = some (.xd [(f, v)]) → Rp K G v d → Rp K G (.ref a) (.exn C [(f, d)])
inductive Rps (K : PySem.W.Frag) (G : Hp) : List V → List D → Prop
  | nil : Rps K G [] []
  | cons {v : V} {vs : List V} {d : D} {ds : List D} : Rp K G v d → Rps K G vs ds → Rps K G (v :: vs) (d :: ds)
end
theorem seqT_same {K : PySem.W.Frag} {H H' : Hp} {a : Addr} {xs : List V} (e : Same H H') (h : SqT K H a xs) : SqT K H' a xs := by
  rcases h with (h | ⟨o, h⟩) | h
  · exact .inl (.inl (e _ _ h))
  · exact .inl (.inr ⟨o, e _ _ h⟩)
  · exact .inr h
mutual
theorem Rp.mono {K : PySem.W.Frag} {G G' : Hp} (e : Same G G') : ∀ {v : V} {d : D}, Rp K G v d → Rp K G' v d
  | _, _, .non => .non
  | _, _, .bl b => .bl b
  | _, _, .int i => .int i
  | _, _, .str x => .str x
  | _, _, .tup h r => .tup (seqT_same e h) (Rps.mono e r)
  | _, _, .lst h r => .lst (e _ _ h) (Rps.mono e r)
  | _, _, .scr h r => .scr (e.seq h) (Rps.mono e r)
  | _, _, .exn0 h => .exn0 (e _ _ h)
  | _, _, .exn1 h k r => .exn1 (e _ _ h) (e _ _ k) (Rp.mono e r)
  | _, _, .exnk h k r => .exnk (e _ _ h) (e _ _ k) (Rp.mono e r)
theorem Rps.mono {K : PySem.W.Frag} {G G' : Hp} (e : Same G G') : ∀ {v : List V} {d : List D}, Rps K G v d → Rps K G' v d
  | _, _, .nil => .nil
  | _, _, .cons h r => .cons (Rp.mono e h) (Rps.mono e r)
end
theorem Rps.length {K : PySem.W.Frag} {G : Hp} : ∀ {vs : List V} {ds : List D}, Rps K G vs ds → vs.length = ds.length
  | _, _, .nil => rfl
  | _, _, .cons _ r => congrArg (· + 1) (Rps.length r)
theorem Rps.append {K : PySem.W.Frag} {G : Hp} : ∀ {vs ws : List V} {ds es : List D}, Rps K G vs ds → Rps K G ws es → Rps K G (vs ++ ws) (ds ++ es)
  | _, _, _, _, .nil, s => s
  | _, _, _, _, .cons h r, s => .cons h (Rps.append r s)
theorem Rps.get {K : PySem.W.Frag} {G : Hp} : ∀ {vs : List V} {ds : List D} {i : Nat} {v : V}, Rps K G vs ds → vs[i]? = some v → ∃ d, ds[i]? = some d ∧ Rp K G v d
  | _, _, _, _, .nil, h => by simp at h
  | _, _, 0, _, .cons h _, e => by simp at e; subst e; exact ⟨_, rfl, h⟩
  | _, _, i + 1, _, .cons _ r, e => by
    obtain ⟨d, h1, h2⟩ := Rps.get (i := i) r (by simpa using e)
    exact ⟨d, by simpa using h1, h2⟩
theorem Rps.get' {K : PySem.W.Frag} {G : Hp} {vs : List V} {ds : List D} {i : Nat} {d : D} (r : Rps K G vs ds) (h : ds[i]? = some d) : ∃ v, vs[i]? = some v ∧ Rp K G v d := by
  have hl := r.length
  obtain ⟨hi, _⟩ := List.getElem?_eq_some_iff.mp h
  have hv : vs[i]? = some vs[i] := List.getElem?_eq_getElem (by omega)
  obtain ⟨d', h1, h2⟩ := r.get hv
  rw [h] at h1
  cases h1
  exact ⟨_, hv, h2⟩
theorem Rps.take {K : PySem.W.Frag} {G : Hp} : ∀ {vs : List V} {ds : List D} (n : Nat), Rps K G vs ds → Rps K G (vs.take n) (ds.take n)
  | _, _, 0, _ => by simpa using Rps.nil
  | _, _, _ + 1, .nil => .nil
  | _, _, n + 1, .cons h r => .cons h (Rps.take n r)
theorem Rps.drop {K : PySem.W.Frag} {G : Hp} : ∀ {vs : List V} {ds : List D} (n : Nat), Rps K G vs ds → Rps K G (vs.drop n) (ds.drop n)
  | _, _, 0, r => r
  | _, _, _ + 1, .nil => .nil
  | _, _, n + 1, .cons _ r => Rps.drop n r
theorem Rps.set {K : PySem.W.Frag} {G : Hp} {v : V} {d : D} (h : Rp K G v d) : ∀ {vs : List V} {ds : List D} (i : Nat), Rps K G vs ds → Rps K G (vs.set i v) (ds.set i d)
  | _, _, _, .nil => .nil
  | _, _, 0, .cons _ t => .cons h t
  | _, _, i + 1, .cons q t => .cons q (Rps.set h i t)
theorem Rps.erase {K : PySem.W.Frag} {G : Hp} : ∀ {vs : List V} {ds : List D} (i : Nat), Rps K G vs ds → Rps K G (vs.eraseIdx i) (ds.eraseIdx i)
  | _, _, _, .nil => .nil
  | _, _, 0, .cons _ t => t
  | _, _, i + 1, .cons q t => .cons q (Rps.erase i t)
theorem Rps.rev {K : PySem.W.Frag} {G : Hp} : ∀ {vs : List V} {ds : List D}, Rps K G vs ds → Rps K G vs.reverse ds.reverse
  | _, _, .nil => .nil
  | _, _, .cons h r => by
    rw [List.reverse_cons, List.reverse_cons]
    exact (Rps.rev r).append (.cons h .nil)
theorem Rps.flat {K : PySem.W.Frag} {G : Hp} {vs : List V} {ds : List D} (h : Rps K G vs ds) : ∀ k : Nat, Rps K G (List.replicate k vs).flatten (List.replicate k ds).flatten
  | 0 => .nil
  | k + 1 => by
    rw [List.replicate_succ, List.replicate_succ, List.flatten_cons, List.flatten_cons]
    exact h.append (Rps.flat h k)
theorem Rps.isEmpty {K : PySem.W.Frag} {G : Hp} {vs : List V} {ds : List D} (h : Rps K G vs ds) : vs.isEmpty = ds.isEmpty := by
  cases h <;> rfl
/-! ### slots -/
inductive Sl where
  | un
  | sh (d : D)
  | own (l : List D)
  | bor (l : List D)
abbrev Ro := List Sl
inductive Vd where
  | sh (d : D)
  | fr (l : List D)
def Vd.d : Vd → D
  | .sh d => d
  | .fr l => .lst l
/-- the content of a slot that holds a list of its own -/
def Sl.owned : Sl → Option (List D)
  | .own l => some l
  | .bor l => some l
  | _ => none
inductive SlR (K : PySem.W.Frag) (G H : Hp) : Option V → Sl → Prop
  | un {v : Option V} : SlR K G H v .un
  | sh {v : V} {d : D} : Rp K G v d → SlR K G H (some v) (.sh d)
  | own {a : Addr} {vs : List V} {l : List D} : G a = none → H a = some (.lst vs) → Rps K G vs l → SlR K G H (some (.ref a)) (.own l)
  | bor {a : Addr} {vs : List V} {l : List D} : G a = none → H a = some (.lst vs) → Rps K G vs l → SlR K G H (some (.ref a)) (.bor l)
/-- a is the list of a slot's own -/
def OwnA (σ : St) (ρ : Ro) (a : Addr) : Prop := ∃ (i : Nat) (s : Sl) (l : List D), σ[i]? = some (some (.ref a)) ∧ ρ[i]? = some s ∧ s.owned = some l
structure EnvR (K : PySem.W.Frag) (G H : Hp) (σ : St) (ρ : Ro) : Prop where
  same : Same G H
  len : σ.length = ρ.length
  sl : ∀ (i : Nat) (v : Option V) (s : Sl), σ[i]? = some v → ρ[i]? = some s → SlR K G H v s
  dis : ∀ (i j : Nat) (a : Addr) (s t : Sl) (l m : List D), σ[i]? = some (some (.ref a)) → σ[j]? = some (some (.ref a)) → ρ[i]? = some s → ρ[j]? = some t → s.owned = some l → t.owned = some m → i = j
structure Step (G H : Hp) (O : Addr → Prop) (G' H' : Hp) : Prop where
  g : Same G G'
  new : ∀ x o, G' x = some o → G x = none → H x = none ∨ O x
  fr : ∀ x o, H x = some o → ¬ O x → H' x = some o
  th : ∀ x, H' x = none → H x = none
theorem Step.refl {G H : Hp} {O : Addr → Prop} : Step G H O G H := ⟨Same.refl _, fun x o h n => (by rw [h] at n; cases n), fun _ _ h _ => h, fun _ h => h⟩
theorem Step.trans {G H G1 H1 G2 H2 : Hp} {O O1 : Addr → Prop} (a : Step G H O G1 H1) (b : Step G1 H1 O1 G2 H2) (ho : ∀ x, O1 x → O x ∨ H x = none) : Step G H O G2 H2 where
  g := a.g.trans b.g
  new := fun x o h n => by
    cases q : G1 x with
    | some u => exact a.new x u q n
    | none =>
      rcases b.new x o h q with h1 | h1
      · exact .inl (a.th x h1)
      · exact (ho x h1).symm
  fr := fun x o h n => b.fr x o (a.fr x o h n) fun h1 => by
    rcases ho x h1 with z | z
    · exact n z
    · rw [h] at z; cases z
  th := fun x h => a.th x (b.th x h)
/-- the slots between two states: the borrowed ones stay, the own ones are of before or new -/
structure Mv (H : Hp) (σ : St) (ρ : Ro) (σ' : St) (ρ' : Ro) : Prop where
  len : ρ'.length = ρ.length
  own : ∀ x, OwnA σ' ρ' x → OwnA σ ρ x ∨ H x = none
  bor : ∀ (i : Nat) (l : List D), ρ[i]? = some (.bor l) → σ'[i]? = σ[i]? ∧ ∃ l', ρ'[i]? = some (.bor l')
theorem Mv.refl {H : Hp} {σ : St} {ρ : Ro} : Mv H σ ρ σ ρ := ⟨rfl, fun _ h => .inl h, fun _ l h => ⟨rfl, l, h⟩⟩
theorem Mv.trans {H H1 : Hp} {σ σ1 σ2 : St} {ρ ρ1 ρ2 : Ro} (a : Mv H σ ρ σ1 ρ1) (b : Mv H1 σ1 ρ1 σ2 ρ2) (th : ∀ x, H1 x = none → H x = none) : Mv H σ ρ σ2 ρ2 where
  len := b.len.trans a.len
  own := fun x h => by
    rcases b.own x h with q | q
    · exact a.own x q
    · exact .inr (th x q)
  bor := fun i l h => by
    obtain ⟨e1, l1, q1⟩ := a.bor i l h
    obtain ⟨e2, l2, q2⟩ := b.bor i l1 q1
    exact ⟨e2.trans e1, l2, q2⟩
/-- a way from one state to a later one -/
structure Way (K : PySem.W.Frag) (G H : Hp) (σ : St) (ρ : Ro) (G' H' : Hp) (σ' : St) (ρ' : Ro) : Prop where
  st : Step G H (OwnA σ ρ) G' H'
  mv : Mv H σ ρ σ' ρ'
  env : EnvR K G' H' σ' ρ'
section
variable {K : PySem.W.Frag} {G H G1 H1 G2 H2 : Hp} {σ σ1 σ2 : St} {ρ ρ1 ρ2 : Ro}
theorem Way.refl (e : EnvR K G H σ ρ) : Way K G H σ ρ G H σ ρ := ⟨.refl, .refl, e⟩
theorem Way.trans (a : Way K G H σ ρ G1 H1 σ1 ρ1) (b : Way K G1 H1 σ1 ρ1 G2 H2 σ2 ρ2) : Way K G H σ ρ G2 H2 σ2 ρ2 :=
  ⟨a.st.trans b.st a.mv.own, a.mv.trans b.mv a.st.th, b.env⟩
end
def VdR (K : PySem.W.Frag) (H : Hp) (σ : St) (ρ : Ro) (G' H' : Hp) (σ' : St) (ρ' : Ro) (v : V) : Vd → Prop
  | .sh d => Rp K G' v d
  | .fr l => ∃ (a : Addr) (vs : List V), v = .ref a ∧ (H a = none ∨ OwnA σ ρ a) ∧ G' a = none ∧ H' a = some (.lst vs) ∧ Rps K G' vs l ∧ ¬ OwnA σ' ρ' a
section
variable {K : PySem.W.Frag} {G H G1 H1 G2 H2 : Hp} {σ σ1 σ2 : St} {ρ ρ1 ρ2 : Ro} {v : V} {d : Vd}
theorem EnvR.ownH (e : EnvR K G H σ ρ) {a : Addr} (h : OwnA σ ρ a) : G a = none ∧ ∃ vs, H a = some (.lst vs) := by
  obtain ⟨i, s, l, h1, h2, h3⟩ := h
  have q := e.sl i _ s h1 h2
  cases q with
  | un => cases h3
  | sh _ => cases h3
  | own g x r => exact ⟨g, _, x⟩
  | bor g x r => exact ⟨g, _, x⟩
/-- G grows at an address that is nobody's -/
theorem EnvR.grow {o : HO} {a : Addr} (e : EnvR K G H σ ρ) (hH : H a = some o) (hn : G a = none) (ho : ¬ OwnA σ ρ a) : EnvR K (upd G a o) H σ ρ := by
  have sm : Same G (upd G a o) := fun b u q => by rw [upd_ne (ne_of_none q hn)]; exact q
  refine ⟨fun b u q => ?_, e.len, fun i w s h1 h2 => ?_, e.dis⟩
  · by_cases hb : b = a
    · subst hb; rw [upd_same] at q; cases q; exact hH
    · rw [upd_ne hb] at q; exact e.same b u q
  · have q := e.sl i w s h1 h2
    cases q with
    | un => exact .un
    | sh r => exact .sh (r.mono sm)
    | own g x r => exact .own (by rw [upd_ne (fun z => ho (by subst z; exact ⟨i, _, _, h1, h2, rfl⟩))]; exact g) x (r.mono sm)
    | bor g x r => exact .bor (by rw [upd_ne (fun z => ho (by subst z; exact ⟨i, _, _, h1, h2, rfl⟩))]; exact g) x (r.mono sm)
theorem same_new {o : HO} {a : Addr} (hn : G a = none) : Same G (upd G a o) := fun b u q => by rw [upd_ne (ne_of_none q hn)]; exact q
/-- what is new may be shared -/
theorem share (w : Way K G H σ ρ G1 H1 σ1 ρ1) (r : VdR K H σ ρ G1 H1 σ1 ρ1 v d) : ∃ G', Way K G H σ ρ G' H1 σ1 ρ1 ∧ Same G1 G' ∧ Rp K G' v d.d := by
  cases d with
  | sh d => exact ⟨G1, w, Same.refl _, r⟩
  | fr l =>
    obtain ⟨a, vs, rfl, h0, hg, h1, rs, no⟩ := r
    refine ⟨upd G1 a (.lst vs), ⟨⟨w.st.g.trans (same_new hg), fun x o q n => ?_, w.st.fr, w.st.th⟩, w.mv, w.env.grow h1 hg no⟩, same_new hg, .lst upd_same (rs.mono (same_new hg))⟩
    by_cases hx : x = a
    · subst hx; exact h0
    · rw [upd_ne hx] at q; exact w.st.new x o q n
/-- an object is laid: shared from now on -/
theorem Way.laid {o : HO} {p : Addr} (w : Way K G H σ ρ G1 H1 σ1 ρ1) (n : H1 p = none) : Way K G H σ ρ (upd G1 p o) (upd H1 p o) σ1 ρ1 ∧ Same G1 (upd G1 p o) := by
  have gn : G1 p = none := w.env.same.free n
  have no : ¬ OwnA σ1 ρ1 p := fun h => by
    obtain ⟨_, vs, z⟩ := w.env.ownH h
    rw [n] at z; cases z
  have sm : Same H1 (upd H1 p o) := same_new n
  have e2 : EnvR K G1 (upd H1 p o) σ1 ρ1 := ⟨w.env.same.trans sm, w.env.len, fun i v s h1 h2 => by
    have q := w.env.sl i v s h1 h2
    cases q with
    | un => exact .un
    | sh r => exact .sh r
    | own g x r => exact .own g (sm _ _ x) r
    | bor g x r => exact .bor g (sm _ _ x) r, w.env.dis⟩
  refine ⟨⟨⟨w.st.g.trans (same_new gn), fun x u q k => ?_, fun x u q k => sm _ _ (w.st.fr x u q k), fun x q => w.st.th x (sm.free q)⟩, w.mv, e2.grow upd_same gn no⟩, same_new gn⟩
  by_cases hx : x = p
  · subst hx; exact .inl (w.st.th _ n)
  · rw [upd_ne hx] at q; exact w.st.new x u q k
/-- an object is laid: nobody's as yet -/
theorem Way.laidF {o : HO} {p : Addr} (w : Way K G H σ ρ G1 H1 σ1 ρ1) (n : H1 p = none) : Way K G H σ ρ G1 (upd H1 p o) σ1 ρ1 ∧ H p = none ∧ G1 p = none ∧ ¬ OwnA σ1 ρ1 p := by
  have gn : G1 p = none := w.env.same.free n
  have no : ¬ OwnA σ1 ρ1 p := fun h => by
    obtain ⟨_, vs, z⟩ := w.env.ownH h
    rw [n] at z; cases z
  have sm : Same H1 (upd H1 p o) := same_new n
  have e2 : EnvR K G1 (upd H1 p o) σ1 ρ1 := ⟨w.env.same.trans sm, w.env.len, fun i v s h1 h2 => by
    have q := w.env.sl i v s h1 h2
    cases q with
    | un => exact .un
    | sh r => exact .sh r
    | own g x r => exact .own g (sm _ _ x) r
    | bor g x r => exact .bor g (sm _ _ x) r, w.env.dis⟩
  exact ⟨⟨⟨w.st.g, w.st.new, fun x u q k => sm _ _ (w.st.fr x u q k), fun x q => w.st.th x (sm.free q)⟩, w.mv, e2⟩, w.st.th _ n, gn, no⟩
end
end FRT
end
section
set_option Elab.async false
set_option linter.all false
set_option maxRecDepth 100000
set_option maxHeartbeats 4000001
namespace FRT
open PySem L2
structure Xn where
  c : Nat
  fs : List (Str × D)
inductive Rs (α : Type) where
  | bad
  | ok (a : α) (ρ : Ro)
  | exc (x : Xn) (ρ : Ro)
abbrev M (α : Type) := Ro → Rs α
def Rs.bind {α β : Type} (r : Rs α) (k : α → M β) : Rs β := match r with
  | .bad => .bad
  | .ok a ρ => k a ρ
  | .exc x ρ => .exc x ρ
inductive FsR (K : PySem.W.Frag) (G : Hp) : List (Str × V) → List (Str × D) → Prop
  | nil : FsR K G [] []
  | cons {n : Str} {v : V} {d : D} {vs : List (Str × V)} {ds : List (Str × D)} : Rp K G v d → FsR K G vs ds → FsR K G ((n, v) :: vs) ((n, d) :: ds)
/-- an exception in the air: cs are the classes' addresses -/
def XnR (cs : List Addr) (K : PySem.W.Frag) (G H : Hp) (cls : Value) (dd : Option Addr) (x : Xn) : Prop :=
  ∃ C, cs[x.c]? = some C ∧ cls = .ref C ∧ ((x.fs = [] ∧ dd = none) ∨ ∃ d fv, dd = some d ∧ G d = some (.xd fv) ∧ FsR K G fv x.fs)
/-- what is wanted behind a piece of an expression -/
def Pg (cs : List Addr) (K : PySem.W.Frag) (W : WX) (σ : St) {α β : Type} (R : Hp → Ro → Hp → Hp → Ro → β → α → Prop) (G H : Hp) (ρ : Ro) (r : Rs α) (Q : β → Hp → Prop) : Prop := match r with
  | .bad => False
  | .ok a ρ' => ∀ v G' H', Way K G H σ ρ G' H' σ ρ' → R H ρ G' H' ρ' v a → Q v H'
  | .exc x ρ' => ∀ cls dd G' H', Way K G H σ ρ G' H' σ ρ' → XnR cs K G' H' cls dd x → W cls dd σ H'
def Anti (σ : St) {α β : Type} (R : Hp → Ro → Hp → Hp → Ro → β → α → Prop) : Prop := ∀ H ρ H1 ρ1 G' H' ρ' v a, (∀ x, H1 x = none → H x = none) → (∀ x, OwnA σ ρ1 x → OwnA σ ρ x ∨ H x = none) → R H1 ρ1 G' H' ρ' v a → R H ρ G' H' ρ' v a
section
variable {cs : List Addr} {K : PySem.W.Frag} {W : WX} {σ : St} {α β γ δ : Type} {R1 : Hp → Ro → Hp → Hp → Ro → γ → α → Prop} {R2 : Hp → Ro → Hp → Hp → Ro → δ → β → Prop} {G H G1 H1 : Hp} {ρ ρ1 : Ro}
theorem Pg.shift (an : Anti σ R2) {r : Rs β} {Q : δ → Hp → Prop} (h : Pg cs K W σ R2 G H ρ r Q) (w : Way K G H σ ρ G1 H1 σ ρ1) : Pg cs K W σ R2 G1 H1 ρ1 r Q := by
  cases r with
  | bad => exact h
  | ok a ρ' => exact fun v G' H' w' q => h v G' H' (w.trans w') (an _ _ _ _ _ _ _ _ _ w.st.th w.mv.own q)
  | exc x ρ' => exact fun cls dd G' H' w' q => h cls dd G' H' (w.trans w') q
theorem Pg.bind (an : Anti σ R2) {r : Rs α} {k : α → M β} {Q : δ → Hp → Prop} {Q1 : γ → Hp → Prop} (h : Pg cs K W σ R2 G H ρ (r.bind k) Q)
    (hk : ∀ a ρ1 v G1 H1, Way K G H σ ρ G1 H1 σ ρ1 → R1 H ρ G1 H1 ρ1 v a → (∀ G2, Way K G H σ ρ G2 H1 σ ρ1 → Pg cs K W σ R2 G2 H1 ρ1 (k a ρ1) Q) → Q1 v H1) : Pg cs K W σ R1 G H ρ r Q1 := by
  cases r with
  | bad => exact h
  | ok a ρ' => exact fun v G' H' w q => hk a ρ' v G' H' w q fun G2 w2 => Pg.shift an h w2
  | exc x ρ' => exact h
theorem Pg.mono {r : Rs β} {Q Q' : δ → Hp → Prop} (h : Pg cs K W σ R2 G H ρ r Q) (hq : ∀ v H', Q v H' → Q' v H') : Pg cs K W σ R2 G H ρ r Q' := by
  cases r with
  | bad => exact h
  | ok a ρ' => exact fun v G' H' w q => hq _ _ (h v G' H' w q)
  | exc x ρ' => exact h
end
/-- an expression's value -/
def rE (K : PySem.W.Frag) (σ : St) : Hp → Ro → Hp → Hp → Ro → V → Vd → Prop := fun H ρ G' H' ρ' v d => VdR K H σ ρ G' H' σ ρ' v d
/-- shared values -/
def rS (K : PySem.W.Frag) : Hp → Ro → Hp → Hp → Ro → V → D → Prop := fun _ _ G' _ _ v d => Rp K G' v d
def rA (K : PySem.W.Frag) : Hp → Ro → Hp → Hp → Ro → List V → List D → Prop := fun _ _ G' _ _ v d => Rps K G' v d
def rB : Hp → Ro → Hp → Hp → Ro → Bool → Bool → Prop := fun _ _ _ _ _ b c => b = c
/-- an operand: a value, or the slot that is read when the operation runs -/
inductive Pr where
  | d (x : D)
  | s (i : Nat)
def Sl.d : Sl → Option D
  | .un => none
  | .sh d => some d
  | .own l => some (.lst l)
  | .bor l => some (.lst l)
def Pr.get (ρ : Ro) : Pr → Option D
  | .d x => some x
  | .s i => (ρ[i]?).bind Sl.d
def PrR (K : PySem.W.Frag) (σ : St) (G : Hp) (v : V) : Pr → Prop
  | .d x => Rp K G v x
  | .s i => σ[i]? = some (some v)
def rP (K : PySem.W.Frag) (σ : St) : Hp → Ro → Hp → Hp → Ro → V → Pr → Prop := fun _ _ G' _ _ v p => PrR K σ G' v p
theorem VdR.back {K : PySem.W.Frag} {H H1 G' H' : Hp} {σ σ1 σ' : St} {ρ ρ1 ρ' : Ro} {v : V} {d : Vd} (th : ∀ x, H1 x = none → H x = none) (ow : ∀ x, OwnA σ1 ρ1 x → OwnA σ ρ x ∨ H x = none) (r : VdR K H1 σ1 ρ1 G' H' σ' ρ' v d) : VdR K H σ ρ G' H' σ' ρ' v d := by
  cases d with
  | sh d => exact r
  | fr l =>
    obtain ⟨a, vs, e, n, q⟩ := r
    exact ⟨a, vs, e, n.elim (fun z => .inl (th a z)) (fun z => (ow a z).symm), q⟩
theorem anE {K : PySem.W.Frag} {σ : St} : Anti σ (rE K σ) := fun _ _ _ _ _ _ _ _ _ th ow h => VdR.back th ow h
theorem anS {σ : St} {K : PySem.W.Frag} : Anti σ (rS K) := fun _ _ _ _ _ _ _ _ _ _ _ h => h
theorem anA {σ : St} {K : PySem.W.Frag} : Anti σ (rA K) := fun _ _ _ _ _ _ _ _ _ _ _ h => h
theorem anB {σ : St} : Anti σ rB := fun _ _ _ _ _ _ _ _ _ _ _ h => h
theorem anP {K : PySem.W.Frag} {σ : St} : Anti σ (rP K σ) := fun _ _ _ _ _ _ _ _ _ _ _ h => h
def tD (cs : List Addr) (K : PySem.W.Frag) (W : WX) (m : M Vd) : TE := fun σ H Q => ∃ G ρ, EnvR K G H σ ρ ∧ Pg cs K W σ (rE K σ) G H ρ (m ρ) Q
def tP (cs : List Addr) (K : PySem.W.Frag) (W : WX) (m : M Pr) : TE := fun σ H Q => ∃ G ρ, EnvR K G H σ ρ ∧ Pg cs K W σ (rP K σ) G H ρ (m ρ) Q
def tAs (cs : List Addr) (K : PySem.W.Frag) (W : WX) (m : M (List D)) : TA := fun σ H Q => ∃ G ρ, EnvR K G H σ ρ ∧ Pg cs K W σ (rA K) G H ρ (m ρ) Q
def tBl (cs : List Addr) (K : PySem.W.Frag) (W : WX) (m : M Bool) : TT := fun σ H Q => ∃ G ρ, EnvR K G H σ ρ ∧ Pg cs K W σ rB G H ρ (m ρ) Q
/-- what an operand is when the operation runs -/
def VwR (K : PySem.W.Frag) (G H : Hp) (v : V) (d : D) : Prop := Rp K G v d ∨ ∃ a vs l, v = .ref a ∧ d = .lst l ∧ H a = some (.lst vs) ∧ Rps K G vs l
theorem PrR.view {K : PySem.W.Frag} {G H : Hp} {σ : St} {ρ : Ro} {v : V} {p : Pr} {d : D} (e : EnvR K G H σ ρ) (r : PrR K σ G v p) (h : p.get ρ = some d) : VwR K G H v d := by
  cases p with
  | d x => cases h; exact .inl r
  | s i =>
    have r' : σ[i]? = some (some v) := r
    cases q : ρ[i]? with
    | none => rw [Pr.get, q] at h; cases h
    | some s =>
      have h' : s.d = some d := by rw [Pr.get, q] at h; exact h
      have z := e.sl i _ s r' q
      cases z with
      | un => cases h'
      | sh r => cases h'; exact .inl r
      | own g x rr => cases h'; exact .inr ⟨_, _, _, rfl, rfl, x, by assumption⟩
      | bor g x rr => cases h'; exact .inr ⟨_, _, _, rfl, rfl, x, by assumption⟩
theorem PrR.mono {K : PySem.W.Frag} {G G' : Hp} {σ : St} {v : V} {p : Pr} (s : Same G G') (r : PrR K σ G v p) : PrR K σ G' v p := by
  cases p with
  | d x => exact Rp.mono s r
  | s i => exact r
section
variable {K : PySem.W.Frag} {G H : Hp} {v : V} {l : List D}
theorem VwR.lst (e : Same G H) (h : VwR K G H v (.lst l)) : ∃ a vs, v = .ref a ∧ H a = some (.lst vs) ∧ Rps K G vs l := by
  rcases h with h | ⟨a, vs, l', rfl, el, h, r⟩
  · cases h with
    | lst s r => exact ⟨_, _, rfl, e _ _ s, r⟩
  · cases el; exact ⟨a, vs, rfl, h, r⟩
theorem VwR.scr (e : Same G H) (h : VwR K G H v (.scr l)) : ∃ a vs, v = .ref a ∧ SqL K H a vs ∧ Rps K G vs l := by
  rcases h with h | ⟨a, vs, l', rfl, el, h, r⟩
  · cases h with
    | scr s r => exact ⟨_, _, rfl, e.seq s, r⟩
  · cases el
theorem VwR.tup (e : Same G H) (h : VwR K G H v (.tup l)) : ∃ a vs, v = .ref a ∧ SqT K H a vs ∧ Rps K G vs l := by
  rcases h with h | ⟨a, vs, l', rfl, el, h, r⟩
  · cases h with
    | tup s r => exact ⟨_, _, rfl, seqT_same e s, r⟩
  · cases el
theorem VwR.int {i : Int} (h : VwR K G H v (.int i)) : v = .int i := by
  rcases h with h | ⟨a, vs, l', rfl, el, h, r⟩
  · cases h; rfl
  · cases el
theorem VwR.str {i : Str} (h : VwR K G H v (.str i)) : v = .str i := by
  rcases h with h | ⟨a, vs, l', rfl, el, h, r⟩
  · cases h; rfl
  · cases el
theorem VwR.bl {i : Bool} (h : VwR K G H v (.bl i)) : v = .bl i := by
  rcases h with h | ⟨a, vs, l', rfl, el, h, r⟩
  · cases h; rfl
  · cases el
theorem VwR.non (h : VwR K G H v .non) : v = .non := by
  rcases h with h | ⟨a, vs, l', rfl, el, h, r⟩
  · cases h; rfl
  · cases el
end
/-! ### one expression -/
theorem pe_imp {X : Cx} {e : Expr} {t t' : TE} (h : PE X e t) (i : ∀ σ H Q, t' σ H Q → t σ H Q) : PE X e t' := ⟨fun pins s σ H Q I q => h.run pins s σ H Q I (i σ H Q q)⟩
theorem pt_imp {X : Cx} {e : Expr} {t t' : TT} (h : PT X e t) (i : ∀ σ H Q, t' σ H Q → t σ H Q) : PT X e t' := ⟨fun pins s σ H Q I q => h.run pins s σ H Q I (i σ H Q q)⟩
theorem pa_imp {X : Cx} {e : List Expr} {t t' : TA} (h : PA X e t) (i : ∀ σ H Q, t' σ H Q → t σ H Q) : PA X e t' := ⟨fun p pins s σ H Q I q => h.run p pins s σ H Q I (i σ H Q q)⟩
theorem ps_imp {X : Cx} {e : Stmt} {t t' : TS} (h : PS X e t) (i : ∀ D σ H, t' D σ H → t D σ H) : PS X e t' := ⟨fun pins s σ H D I q => h.run pins s σ H D I (i D σ H q)⟩
theorem pss_imp {X : Cx} {e : List Stmt} {t t' : TS} (h : PSs X e t) (i : ∀ D σ H, t' D σ H → t D σ H) : PSs X e t' := ⟨fun pins s σ H D I q => h.run pins s σ H D I (i D σ H q)⟩
section
variable {X : Cx} {cs : List Addr} {W : WX}
/-- the short forms that carry the context -/
abbrev PD (cs : List Addr) (W : WX) (X : Cx) (e : Expr) (m : M Vd) : Prop := PE X e (tD cs X.K W m)
abbrev PO2 (cs : List Addr) (W : WX) (X : Cx) (e : Expr) (m : M Pr) : Prop := PE X e (tP cs X.K W m)
abbrev PL (cs : List Addr) (W : WX) (X : Cx) (e : List Expr) (m : M (List D)) : Prop := PA X e (tAs cs X.K W m)
abbrev PB (cs : List Addr) (W : WX) (X : Cx) (e : Expr) (m : M Bool) : Prop := PT X e (tBl cs X.K W m)
/-- literals -/
def mlit (d : D) : M Vd := fun ρ => .ok (.sh d) ρ
theorem pd_lit {e : Expr} {v : V} {d : D} (h : PE X e (tC v)) (r : ∀ G, Rp X.K G v d) : PD cs W X e (mlit d) :=
  pe_imp h fun σ H Q ⟨G, ρ, e, q⟩ => q v G H (.refl e) (r G)
/-- a name's slot: a list of its own is given away -/
def mslot (i : Nat) : M Vd := fun ρ => match ρ[i]? with
  | some (.sh d) => .ok (.sh d) ρ
  | some (.own l) => .ok (.sh (.lst l)) (ρ.set i (.sh (.lst l)))
  | _ => .bad
/-- .. moved out: the name is not read again -/
def mmove (i : Nat) : M Vd := fun ρ => match ρ[i]? with
  | some (.sh d) => .ok (.sh d) ρ
  | some (.own l) => .ok (.fr l) (ρ.set i .un)
  | _ => .bad
def mps (i : Nat) : M Pr := fun ρ => match ρ[i]? with
  | some .un => .bad
  | some _ => .ok (.s i) ρ
  | none => .bad
def mpe (m : M Vd) : M Pr := fun ρ => (m ρ).bind fun d ρ1 => .ok (.d d.d) ρ1
end
section
variable {K : PySem.W.Frag} {G H : Hp} {σ : St} {ρ : Ro}
theorem own_set {i : Nat} {s : Sl} (hs : s.owned = none) {x : Addr} (h : OwnA σ (ρ.set i s) x) : OwnA σ ρ x := by
  obtain ⟨j, t, l, h1, h2, h3⟩ := h
  by_cases e : i = j
  · subst e
    rw [List.getElem?_set] at h2
    split at h2
    · split at h2
      · cases h2; rw [hs] at h3; cases h3
      · cases h2
    · exact ⟨_, t, l, h1, h2, h3⟩
  · rw [List.getElem?_set_ne e] at h2
    exact ⟨j, t, l, h1, h2, h3⟩
theorem own_set_not {i : Nat} {s : Sl} {a : Addr} {t : Sl} {l : List D} (e : EnvR K G H σ ρ) (h1 : σ[i]? = some (some (.ref a))) (h2 : ρ[i]? = some t) (h3 : t.owned = some l) (hs : s.owned = none) : ¬ OwnA σ (ρ.set i s) a := fun h => by
  obtain ⟨j, u, m, q1, q2, q3⟩ := h
  by_cases ij : i = j
  · subst ij
    rw [List.getElem?_set] at q2
    split at q2
    · split at q2
      · cases q2; rw [hs] at q3; cases q3
      · cases q2
    · rename_i z; exact z rfl
  · rw [List.getElem?_set_ne ij] at q2
    exact ij (e.dis i j a t u l m h1 q1 h2 q2 h3 q3)
theorem EnvR.setSh {i : Nat} {s : Sl} (e : EnvR K G H σ ρ) (hs : s.owned = none) (h : ∀ v, σ[i]? = some v → SlR K G H v s) : EnvR K G H σ (ρ.set i s) := by
  refine ⟨e.same, by rw [List.length_set]; exact e.len, fun j v t h1 h2 => ?_, fun j k a t u l m h1 h2 h3 h4 h5 h6 => ?_⟩
  · by_cases ij : i = j
    · subst ij
      rw [List.getElem?_set] at h2
      split at h2
      · split at h2
        · cases h2; exact h v h1
        · cases h2
      · rename_i z; exact absurd rfl z
    · rw [List.getElem?_set_ne ij] at h2
      exact e.sl j v t h1 h2
  · have n1 : i ≠ j := fun z => by
      subst z
      rw [List.getElem?_set] at h3
      split at h3
      · split at h3
        · cases h3; rw [hs] at h5; cases h5
        · cases h3
      · rename_i z; exact z rfl
    have n2 : i ≠ k := fun z => by
      subst z
      rw [List.getElem?_set] at h4
      split at h4
      · split at h4
        · cases h4; rw [hs] at h6; cases h6
        · cases h4
      · rename_i z; exact z rfl
    rw [List.getElem?_set_ne n1] at h3
    rw [List.getElem?_set_ne n2] at h4
    exact e.dis j k a t u l m h1 h2 h3 h4 h5 h6
end
end FRT
end
section
set_option Elab.async false
set_option linter.all false
set_option maxRecDepth 100000
set_option maxHeartbeats 4000001
namespace FRT
open PySem L2
/-! ### operations of two operands -/
structure P2 (K : PySem.W.Frag) (r : R2) (pr : D → D → Option Vd) : Prop where
  ok : ∀ {G H : Hp} {σ : St} {ρ : Ro} {v1 v2 : V} {d1 d2 : D} {d : Vd} {Q : VK}, EnvR K G H σ ρ → VwR K G H v1 d1 → VwR K G H v2 d2 → pr d1 d2 = some d →
    (∀ v G' H', Way K G H σ ρ G' H' σ ρ → VdR K H σ ρ G' H' σ ρ v d → Q v H') → r v1 v2 H Q
def ofO {α : Type} (o : Option α) : M α := fun ρ => match o with
  | some d => .ok d ρ
  | none => .bad
def m2 (pr : D → D → Option Vd) (ma mb : M Pr) : M Vd := fun ρ => (ma ρ).bind fun p1 ρ1 => (mb ρ1).bind fun p2 ρ2 => match p1.get ρ2, p2.get ρ2 with
  | some x, some y => ofO (pr x y) ρ2
  | _, _ => .bad
section
variable {X : Cx} {cs : List Addr} {W : WX} {a b : Expr} {ma mb : M Pr}
theorem op2_imp {K : PySem.W.Frag} {r : R2} {pr : D → D → Option Vd} (P : P2 K r pr) {σ : St} {H : Hp} {Q : VK} (h : tD cs K W (m2 pr ma mb) σ H Q) : tOp r (tP cs K W ma) (tP cs K W mb) σ H Q := by
  obtain ⟨G, ρ, e, h⟩ := h
  refine ⟨G, ρ, e, Pg.bind anE h fun p1 ρ1 v1 G1 H1 w1 r1 h1 => ?_⟩
  refine ⟨G1, ρ1, w1.env, Pg.bind anE (h1 G1 w1) fun p2 ρ2 v2 G2 H2 w2 r2 h2 => ?_⟩
  have h3 := h2 G2 w2
  cases g1 : p1.get ρ2 with
  | none => rw [g1] at h3; exact h3.elim
  | some x =>
    cases g2 : p2.get ρ2 with
    | none => rw [g1, g2] at h3; exact h3.elim
    | some y =>
      rw [g1, g2] at h3
      dsimp only [ofO] at h3
      cases g3 : pr x y with
      | none => rw [g3] at h3; exact h3.elim
      | some d =>
        rw [g3] at h3
        exact P.ok w2.env ((PrR.mono w2.st.g r1).view w2.env g1) (PrR.view w2.env r2 g2) g3 fun v G' H' w q => h3 v G' H' w q
theorem pd_op {op : Operator} {r : R2} {pr : D → D → Option Vd} {pos : Pos} (ho : OpR X (binaryOp op) r) (P : P2 X.K r pr) (ha : PO2 cs W X a ma) (hb : PO2 cs W X b mb) : PD cs W X (.BinOp a op b pos) (m2 pr ma mb) :=
  pe_imp (pe_op ho ha hb) fun _ _ _ h => op2_imp P h
theorem pd_cmp {op : CmpOp} {r : R2} {pr : D → D → Option Vd} {pos : Pos} (ho : OpR X (compareOp op) r) (P : P2 X.K r pr) (ha : PO2 cs W X a ma) (hb : PO2 cs W X b mb) (hm : behindInMarks op b = false) : PD cs W X (.Compare a [op] [b] pos) (m2 pr ma mb) :=
  pe_imp (pe_cmpR ho ha hb hm) fun _ _ _ h => op2_imp P h
/-- operands -/
theorem po_e {e : Expr} {m : M Vd} (h : PD cs W X e m) : PO2 cs W X e (mpe m) := pe_imp h fun σ H Q ⟨G, ρ, e, q⟩ =>
  ⟨G, ρ, e, Pg.bind anP q fun d ρ1 v G1 H1 w r h1 => by
    obtain ⟨G2, w2, _, r2⟩ := share w r
    exact h1 G2 w2 v G2 H1 (.refl w2.env) r2⟩
theorem po_s (i : Nat) {x : Str} {pos : Pos} (hN : X.N[i]? = some x := by rfl) (hv : Vis X.env.scope x := by first | exact Or.inl rfl | exact Or.inr (Or.inl rfl) | exact Or.inr (Or.inr rfl)) (hd : (x == ("__debug__" : Str)) = false := by decide)
    (hcd : (x == ("__classdict__" : Str)) = false := by decide) : PO2 cs W X (.Name x pos) (mps i) := pe_imp (pe_var hN hv hd hcd) fun σ H Q ⟨G, ρ, e, q⟩ => by
  dsimp only [mps] at q
  cases g : ρ[i]? with
  | none => rw [g] at q; exact q.elim
  | some s =>
    have hi : i < σ.length := by rw [e.len]; exact (List.getElem?_eq_some_iff.mp g).1
    have hs : σ[i]? = some σ[i] := List.getElem?_eq_getElem hi
    have z := e.sl i _ s hs g
    cases s with
    | un => rw [g] at q; exact q.elim
    | sh d =>
      rw [g] at q
      generalize hw : σ[i] = o at hs z
      cases z with
      | sh r => exact ⟨_, hs, q _ G H (.refl e) hs⟩
    | own d =>
      rw [g] at q
      generalize hw : σ[i] = o at hs z
      cases z with
      | own _ _ r => exact ⟨_, hs, q _ G H (.refl e) hs⟩
    | bor d =>
      rw [g] at q
      generalize hw : σ[i] = o at hs z
      cases z with
      | bor _ _ r => exact ⟨_, hs, q _ G H (.refl e) hs⟩
theorem pd_s (i : Nat) {x : Str} {pos : Pos} (hN : X.N[i]? = some x := by rfl) (hv : Vis X.env.scope x := by first | exact Or.inl rfl | exact Or.inr (Or.inl rfl) | exact Or.inr (Or.inr rfl)) (hd : (x == ("__debug__" : Str)) = false := by decide)
    (hcd : (x == ("__classdict__" : Str)) = false := by decide) : PD cs W X (.Name x pos) (mslot i) := pe_imp (pe_var hN hv hd hcd) fun σ H Q ⟨G, ρ, e, q⟩ => by
  dsimp only [mslot] at q
  cases g : ρ[i]? with
  | none => rw [g] at q; exact q.elim
  | some s =>
    have hi : i < σ.length := by rw [e.len]; exact (List.getElem?_eq_some_iff.mp g).1
    have hs : σ[i]? = some σ[i] := List.getElem?_eq_getElem hi
    have z := e.sl i _ s hs g
    cases s with
    | un => rw [g] at q; exact q.elim
    | bor d => rw [g] at q; exact q.elim
    | sh d =>
      rw [g] at q
      generalize hw : σ[i] = o at hs z
      cases z with
      | sh r => exact ⟨_, hs, q _ G H (.refl e) r⟩
    | own d =>
      rw [g] at q
      generalize hw : σ[i] = o at hs z
      cases z with
      | @own a vs _ hg hh r =>
        refine ⟨_, hs, q _ (upd G a (.lst vs)) H ?_ (.lst upd_same (r.mono (same_new hg)))⟩
        have no : ¬ OwnA σ (ρ.set i (.sh (.lst d))) a := own_set_not e hs g rfl rfl
        have e0 : EnvR X.K G H σ (ρ.set i .un) := e.setSh rfl fun v _ => .un
        have n1 : ¬ OwnA σ (ρ.set i .un) a := own_set_not e hs g rfl rfl
        have e1 := e0.grow hh hg n1
        have e2 := e1.setSh (i := i) (s := .sh (.lst d)) rfl fun v hv => by
          rw [hs] at hv
          cases hv
          exact .sh (.lst upd_same (r.mono (same_new hg)))
        rw [List.set_set] at e2
        refine ⟨⟨same_new hg, fun x o h1 h2 => ?_, fun _ _ h _ => h, fun _ h => h⟩, ⟨List.length_set, fun x h => .inl (own_set rfl h), fun j l h => ⟨rfl, l, ?_⟩⟩, e2⟩
        · by_cases hx : x = a
          · subst hx; exact .inr ⟨i, _, _, hs, g, rfl⟩
          · rw [upd_ne hx, h2] at h1; cases h1
        · have : i ≠ j := fun z => by subst z; rw [g] at h; cases h
          rw [List.getElem?_set_ne this]; exact h
end
end FRT
end
section
set_option Elab.async false
set_option linter.all false
set_option maxRecDepth 100000
set_option maxHeartbeats 4000001
namespace FRT
open PySem L2
section
variable {K : PySem.W.Frag} {G H : Hp} {σ : St} {ρ : Ro} {Q : VK}
/-- an end without a new object -/
theorem fin_int (e : EnvR K G H σ ρ) {i : Int} (h : ∀ v G' H', Way K G H σ ρ G' H' σ ρ → VdR K H σ ρ G' H' σ ρ v (.sh (.int i)) → Q v H') : Q (.int i) H := h _ G H (.refl e) (.int i)
theorem fin_bl (e : EnvR K G H σ ρ) {i : Bool} (h : ∀ v G' H', Way K G H σ ρ G' H' σ ρ → VdR K H σ ρ G' H' σ ρ v (.sh (.bl i)) → Q v H') : Q (.bl i) H := h _ G H (.refl e) (.bl i)
theorem fin_str (e : EnvR K G H σ ρ) {i : Str} (h : ∀ v G' H', Way K G H σ ρ G' H' σ ρ → VdR K H σ ρ G' H' σ ρ v (.sh (.str i)) → Q v H') : Q (.str i) H := h _ G H (.refl e) (.str i)
theorem fin_tup (e : EnvR K G H σ ρ) {vs : List V} {ds : List D} (r : Rps K G vs ds) (h : ∀ v G' H', Way K G H σ ρ G' H' σ ρ → VdR K H σ ρ G' H' σ ρ v (.sh (.tup ds)) → Q v H') : ∀ p, H p = none → Q (.ref p) (upd H p (.tup vs)) := fun p n => by
  obtain ⟨w, s⟩ := (Way.refl e).laid (o := .tup vs) n
  exact h _ _ _ w (.tup (.inl (.inl upd_same)) (r.mono s))
theorem fin_lst (e : EnvR K G H σ ρ) {vs : List V} {ds : List D} (r : Rps K G vs ds) (h : ∀ v G' H', Way K G H σ ρ G' H' σ ρ → VdR K H σ ρ G' H' σ ρ v (.fr ds) → Q v H') : ∀ p, H p = none → Q (.ref p) (upd H p (.lst vs)) := fun p n => by
  obtain ⟨w, a, b, c⟩ := (Way.refl e).laidF (o := .lst vs) n
  exact h _ _ _ w ⟨p, vs, rfl, .inl n, b, upd_same, r, c⟩
end
/-! ### arithmetic -/
def vi (i : Int) : Option Vd := some (.sh (.int i))
def vb (i : Bool) : Option Vd := some (.sh (.bl i))
def vs (i : Str) : Option Vd := some (.sh (.str i))
def prAdd : D → D → Option Vd
  | .int i, .int j => vi (i + j)
  | .str x, .str y => if x.length + y.length ≤ sizeLine then vs (x ++ y) else none
  | .lst x, .lst y => if x.length + y.length ≤ sizeLine then some (.fr (x ++ y)) else none
  | .tup x, .tup y => if x.length + y.length ≤ sizeLine then some (.sh (.tup (x ++ y))) else none
  | _, _ => none
def prSub : D → D → Option Vd
  | .int i, .int j => vi (i - j)
  | _, _ => none
def prMul : D → D → Option Vd
  | .int i, .int j => if i.natAbs.log2 + j.natAbs.log2 < 1000000 ∨ (-(2 ^ 64) < i ∧ i < 2 ^ 64) ∨ (-(2 ^ 64) < j ∧ j < 2 ^ 64) then vi (i * j) else none
  | .lst x, .int k => if -(2 ^ 63) ≤ k ∧ k < 2 ^ 63 ∧ x.length * k.toNat ≤ sizeLine then some (.fr (List.replicate k.toNat x).flatten) else none
  | .tup x, .int k => if x ≠ [] ∧ 2 ≤ k ∧ k ≤ 1000 ∧ x.length ≤ 1000 then some (.sh (.tup (List.replicate k.toNat x).flatten)) else none
  | _, _ => none
def prDiv : D → D → Option Vd
  | .int i, .int j => if 0 < j ∧ j.natAbs.log2 < 9000 then vi (i / j) else none
  | _, _ => none
def prMod : D → D → Option Vd
  | .int i, .int j => if 0 < j then vi (i % j) else none
  | _, _ => none
def prPow : D → D → Option Vd
  | .int i, .int j => if 0 ≤ j ∧ j ≤ 1000000 ∧ i.natAbs < 2 ^ 64 then vi (i ^ j.toNat) else none
  | _, _ => none
section
variable {K : PySem.W.Frag}
abbrev rAddI : R2 := rI0 fun i j => .int (i + j)
abbrev rAddS : R2 := fun x y H Q => ∃ i j, x = .str i ∧ y = .str j ∧ i.length + j.length ≤ sizeLine ∧ Q (.str (i ++ j)) H
abbrev rOr (r r' : R2) : R2 := fun x y H Q => r x y H Q ∨ r' x y H Q
theorem nil_iff {G : Hp} {vs : List V} {ds : List D} (r : Rps K G vs ds) : vs = [] ↔ ds = [] := by
  cases r <;> simp
theorem P2.add : P2 K (rOr rAddI (rOr rAddS (rOr rCat (rCatA K)))) prAdd := ⟨fun {G H σ ρ v1 v2 d1 d2 d Q} e r1 r2 h q => by
  unfold prAdd at h
  split at h
  · cases h
    rw [r1.int, r2.int]
    exact .inl ⟨_, _, rfl, rfl, fin_int e q⟩
  · split at h
    · cases h
      rename_i hz
      rw [r1.str, r2.str]
      exact .inr (.inl ⟨_, _, rfl, rfl, hz, fin_str e q⟩)
    · cases h
  · split at h
    · cases h
      rename_i hz
      obtain ⟨a, vs, rfl, ha, ra⟩ := r1.lst e.same
      obtain ⟨b, ws, rfl, hb, rb⟩ := r2.lst e.same
      exact .inr (.inr (.inl ⟨a, b, vs, ws, rfl, rfl, ha, hb, by rw [ra.length, rb.length]; exact hz, fin_lst e (ra.append rb) q⟩))
    · cases h
  · split at h
    · cases h
      rename_i x y hz
      obtain ⟨a, vs, rfl, ha, ra⟩ := r1.tup e.same
      obtain ⟨b, ws, rfl, hb, rb⟩ := r2.tup e.same
      refine .inr (.inr (.inr ⟨a, b, vs, ws, rfl, rfl, ha, hb, by rw [ra.length, rb.length]; exact hz, fun z => ?_, fun _ z => ?_, fun _ _ => fin_tup e (ra.append rb) q⟩))
      · have zx := (nil_iff ra).mp z
        subst zx
        rw [List.nil_append] at q
        rcases r2 with r2 | ⟨_, _, _, _, z, _⟩
        · exact q _ G H (.refl e) r2
        · cases z
      · have zx := (nil_iff rb).mp z
        subst zx
        rw [List.append_nil] at q
        rcases r1 with r1 | ⟨_, _, _, _, z, _⟩
        · exact q _ G H (.refl e) r1
        · cases z
    · cases h
  · cases h⟩
theorem op_addA {X : Cx} : OpR X (binaryOp .Add) (rOr rAddI (rOr rAddS (rOr rCat (rCatA X.K)))) := op_add.or (op_add_str.or (op_cat.or op_catA))
theorem P2.sub : P2 K (rI0 fun i j => .int (i - j)) prSub := ⟨fun {G H σ ρ v1 v2 d1 d2 d Q} e r1 r2 h q => by
  unfold prSub at h
  split at h
  · cases h
    rw [r1.int, r2.int]
    exact ⟨_, _, rfl, rfl, fin_int e q⟩
  · cases h⟩
abbrev rMulA (K : PySem.W.Frag) : R2 := rOr (rI CMulW fun i j => .int (i * j)) (rOr (rI CMul fun i j => .int (i * j)) (rOr rRep (rRepT K)))
theorem op_mulA {X : Cx} : OpR X (binaryOp .Mult) (rMulA X.K) := op_mulW.or (op_mul.or (op_rep.or op_repT))
theorem P2.mul : P2 K (rMulA K) prMul := ⟨fun {G H σ ρ v1 v2 d1 d2 d Q} e r1 r2 h q => by
  unfold prMul at h
  split at h
  · split at h
    · cases h
      rename_i hc
      rw [r1.int, r2.int]
      rcases hc with hc | hc
      · exact .inl ⟨_, _, rfl, rfl, hc, fin_int e q⟩
      · exact .inr (.inl ⟨_, _, rfl, rfl, hc, fin_int e q⟩)
    · cases h
  · split at h
    · cases h
      rename_i hz
      obtain ⟨a, vs, rfl, ha, ra⟩ := r1.lst e.same
      rw [r2.int]
      exact .inr (.inr (.inl ⟨a, _, vs, rfl, rfl, ha, hz.1, hz.2.1, by rw [ra.length]; exact hz.2.2, fin_lst e (ra.flat _) q⟩))
    · cases h
  · split at h
    · cases h
      rename_i hz
      obtain ⟨a, vs, rfl, ha, ra⟩ := r1.tup e.same
      rw [r2.int]
      exact .inr (.inr (.inr ⟨a, _, vs, rfl, rfl, ha, fun z => hz.1 ((nil_iff ra).mp z), hz.2.1, hz.2.2.1, by rw [ra.length]; exact hz.2.2.2, fin_tup e (ra.flat _) q⟩))
    · cases h
  · cases h⟩
theorem P2.div : P2 K (rI CDivW fun i j => .int (i / j)) prDiv := ⟨fun {G H σ ρ v1 v2 d1 d2 d Q} e r1 r2 h q => by
  unfold prDiv at h
  split at h
  · split at h
    · cases h
      rename_i hc
      rw [r1.int, r2.int]
      exact ⟨_, _, rfl, rfl, hc, fin_int e q⟩
    · cases h
  · cases h⟩
theorem P2.mod : P2 K (rI (fun _ j => 0 < j) fun i j => .int (i % j)) prMod := ⟨fun {G H σ ρ v1 v2 d1 d2 d Q} e r1 r2 h q => by
  unfold prMod at h
  split at h
  · split at h
    · cases h
      rename_i hc
      rw [r1.int, r2.int]
      exact ⟨_, _, rfl, rfl, hc, fin_int e q⟩
    · cases h
  · cases h⟩
theorem P2.pow : P2 K (rI CPow fun i j => .int (i ^ j.toNat)) prPow := ⟨fun {G H σ ρ v1 v2 d1 d2 d Q} e r1 r2 h q => by
  unfold prPow at h
  split at h
  · split at h
    · cases h
      rename_i hc
      rw [r1.int, r2.int]
      exact ⟨_, _, rfl, rfl, hc, fin_int e q⟩
    · cases h
  · cases h⟩
end
/-! ### order -/
def ltS (x y : Str) : Bool := decide (x.cps.toList < y.cps.toList)
def prLt : D → D → Option Vd
  | .int i, .int j => vb (decide (i < j))
  | .str x, .str y => vb (ltS x y)
  | _, _ => none
def prLe : D → D → Option Vd
  | .int i, .int j => vb (decide (i ≤ j))
  | .str x, .str y => vb (!ltS y x)
  | _, _ => none
def prGt : D → D → Option Vd
  | .int i, .int j => vb (decide (j < i))
  | _, _ => none
def prGe : D → D → Option Vd
  | .int i, .int j => vb (decide (j ≤ i))
  | _, _ => none
section
variable {K : PySem.W.Frag}
abbrev rLtS : R2 := fun x y H Q => ∃ i j, x = .str i ∧ y = .str j ∧ Q (.bl (decide (i.cps.toList < j.cps.toList))) H
abbrev rLeS : R2 := fun x y H Q => ∃ i j, x = .str i ∧ y = .str j ∧ Q (.bl (!decide (j.cps.toList < i.cps.toList))) H
abbrev rLtI : R2 := rI0 fun i j => .bl (decide (i < j))
abbrev rLeI : R2 := rI0 fun i j => .bl (decide (i ≤ j))
theorem op_ltA {X : Cx} : OpR X (compareOp .Lt) (rOr rLtI rLtS) := op_lt.or op_lt_str
theorem op_leA {X : Cx} : OpR X (compareOp .LtE) (rOr rLeI rLeS) := op_le.or op_le_str
theorem P2.lt : P2 K (rOr rLtI rLtS) prLt := ⟨fun {G H σ ρ v1 v2 d1 d2 d Q} e r1 r2 h q => by
  unfold prLt at h
  split at h
  · cases h
    rw [r1.int, r2.int]
    exact .inl ⟨_, _, rfl, rfl, fin_bl e q⟩
  · cases h
    rw [r1.str, r2.str]
    exact .inr ⟨_, _, rfl, rfl, fin_bl e q⟩
  · cases h⟩
theorem P2.le : P2 K (rOr rLeI rLeS) prLe := ⟨fun {G H σ ρ v1 v2 d1 d2 d Q} e r1 r2 h q => by
  unfold prLe at h
  split at h
  · cases h
    rw [r1.int, r2.int]
    exact .inl ⟨_, _, rfl, rfl, fin_bl e q⟩
  · cases h
    rw [r1.str, r2.str]
    exact .inr ⟨_, _, rfl, rfl, fin_bl e q⟩
  · cases h⟩
theorem P2.gt : P2 K (rI0 fun i j => .bl (decide (j < i))) prGt := ⟨fun {G H σ ρ v1 v2 d1 d2 d Q} e r1 r2 h q => by
  unfold prGt at h
  split at h
  · cases h
    rw [r1.int, r2.int]
    exact ⟨_, _, rfl, rfl, fin_bl e q⟩
  · cases h⟩
theorem P2.ge : P2 K (rI0 fun i j => .bl (decide (j ≤ i))) prGe := ⟨fun {G H σ ρ v1 v2 d1 d2 d Q} e r1 r2 h q => by
  unfold prGe at h
  split at h
  · cases h
    rw [r1.int, r2.int]
    exact ⟨_, _, rfl, rfl, fin_bl e q⟩
  · cases h⟩
end
/-! ### == -/
mutual
def py : D → Option PyData
  | .non => some .none
  | .bl b => some (.bool b)
  | .int i => some (.int i)
  | .str x => some (.str x)
  | .tup l => (pys l).map .tuple
  | .lst l => (pys l).map .list
  | .scr _ => none
  | .dct _ => none
  | .exn _ _ => none
def pys : List D → Option (List PyData)
  | [] => some []
  | d :: l => match py d, pys l with
    | some x, some y => some (x :: y)
    | _, _ => none
end
mutual
theorem Rp.dp {K : PySem.W.Frag} {G H : Hp} (e : Same G H) : ∀ {v : V} {d : D} {x : PyData}, Rp K G v d → py d = some x → Dp K H v x
  | _, _, _, .non, h => by cases h; exact .non
  | _, _, _, .bl b, h => by cases h; exact .bl b
  | _, _, _, .int i, h => by cases h; exact .int i
  | _, _, _, .str z, h => by cases h; exact .str z
  | _, _, _, @Rp.tup _ _ a xs ds s r, h => by
    unfold py at h
    cases q : pys ds with
    | none => rw [q] at h; cases h
    | some l => rw [q] at h; cases h; exact .tup (seqT_same e s) (Rps.dp e r q)
  | _, _, _, @Rp.lst _ _ a xs ds s r, h => by
    unfold py at h
    cases q : pys ds with
    | none => rw [q] at h; cases h
    | some l => rw [q] at h; cases h; exact .lst (.inl (.inl (e _ _ s))) (Rps.dp e r q)
  | _, _, _, .scr _ _, h => by unfold py at h; cases h
theorem Rps.dp {K : PySem.W.Frag} {G H : Hp} (e : Same G H) : ∀ {v : List V} {d : List D} {x : List PyData}, Rps K G v d → pys d = some x → DpAll K H v x
  | _, _, _, .nil, h => by cases h; exact .nil
  | _, _, _, @Rps.cons _ _ v vs d ds s r, h => by
    unfold pys at h
    cases q : py d with
    | none => rw [q] at h; cases h
    | some y =>
      cases q2 : pys ds with
      | none => rw [q, q2] at h; cases h
      | some l => rw [q, q2] at h; cases h; exact .cons (Rp.dp e s q) (Rps.dp e r q2)
end
theorem VwR.dp {K : PySem.W.Frag} {G H : Hp} {v : V} {d : D} {x : PyData} (e : Same G H) (r : VwR K G H v d) (h : py d = some x) : Dp K H v x := by
  rcases r with r | ⟨a, vs, l, rfl, rfl, ha, r⟩
  · exact r.dp e h
  · unfold py at h
    cases q : pys l with
    | none => rw [q] at h; cases h
    | some y => rw [q] at h; cases h; exact .lst (.inl (.inl ha)) (r.dp e q)
/-- equality of data, where the model tells it -/
def eqD (x y : D) : Option Bool := match x, y with
  | .int i, .int j => some (i == j)
  | .str i, .str j => some (i == j)
  | .bl i, .bl j => some (i == j)
  | _, _ => match py x, py y with
    | some a, some b => if SeqAt.shaped a && SeqAt.shaped b then some (PyData.eqv a b) else none
    | _, _ => none
def prEq (x y : D) : Option Vd := (eqD x y).bind vb
def prNe (x y : D) : Option Vd := (eqD x y).bind fun b => vb (!b)
section
variable {K : PySem.W.Frag}
theorem P2.eq : P2 K (rOr rEq (rEqD K)) prEq := ⟨fun {G H σ ρ v1 v2 d1 d2 d Q} e r1 r2 h q => by
  unfold prEq at h
  cases hb : eqD d1 d2 with
  | none => rw [hb] at h; cases h
  | some b =>
    rw [hb] at h
    cases h
    unfold eqD at hb
    split at hb
    · cases hb
      rw [r1.int, r2.int]
      exact .inl ⟨rfl, by rw [dec_int]; exact fin_bl e q⟩
    · cases hb
      rw [r1.str, r2.str]
      exact .inl ⟨rfl, by rw [dec_str]; exact fin_bl e q⟩
    · cases hb
      rw [r1.bl, r2.bl]
      exact .inl ⟨rfl, by rw [dec_bl]; exact fin_bl e q⟩
    · split at hb
      · rename_i a c ha hc
        split at hb
        · rename_i hs
          cases hb
          rw [Bool.and_eq_true] at hs
          exact .inr ⟨a, c, r1.dp e.same ha, r2.dp e.same hc, hs.1, hs.2, fin_bl e q⟩
        · cases hb
      · cases hb⟩
theorem P2.ne : P2 K (rOr rNe (rNeD K)) prNe := ⟨fun {G H σ ρ v1 v2 d1 d2 d Q} e r1 r2 h q => by
  unfold prNe at h
  cases hb : eqD d1 d2 with
  | none => rw [hb] at h; cases h
  | some b =>
    rw [hb] at h
    cases h
    unfold eqD at hb
    split at hb
    · cases hb
      rw [r1.int, r2.int]
      exact .inl ⟨rfl, by rw [dec_int]; exact fin_bl e q⟩
    · cases hb
      rw [r1.str, r2.str]
      exact .inl ⟨rfl, by rw [dec_str]; exact fin_bl e q⟩
    · cases hb
      rw [r1.bl, r2.bl]
      exact .inl ⟨rfl, by rw [dec_bl]; exact fin_bl e q⟩
    · split at hb
      · rename_i a c ha hc
        split at hb
        · rename_i hs
          cases hb
          rw [Bool.and_eq_true] at hs
          exact .inr ⟨a, c, r1.dp e.same ha, r2.dp e.same hc, hs.1, hs.2, fin_bl e q⟩
        · cases hb
      · cases hb⟩
theorem op_eqA {X : Cx} (hu : X.A.units + 64 < cLine) : OpR X (compareOp .Eq) (rOr rEq (rEqD X.K)) := op_eq.or (op_eqD hu)
theorem op_neA {X : Cx} (hu : X.A.units + 64 < cLine) : OpR X (compareOp .NotEq) (rOr rNe (rNeD X.K)) := op_ne.or (op_neD hu)
/-- is None -/
def isNon : D → Bool
  | .non => true
  | _ => false
def prIsN (x y : D) : Option Vd := match y with
  | .non => vb (isNon x)
  | _ => none
def prNotN (x y : D) : Option Vd := match y with
  | .non => vb (!isNon x)
  | _ => none
theorem VwR.isN {G H : Hp} {v : V} {d : D} (r : VwR K G H v d) : decide (v = .non) = isNon d := by
  rcases r with r | ⟨a, vs, l, rfl, rfl, ha, r⟩
  · cases r <;> rfl
  · rfl
theorem P2.isN : P2 K (fun x y H Q => y = .non ∧ Q (.bl (decide (x = .non))) H) prIsN := ⟨fun {G H σ ρ v1 v2 d1 d2 d Q} e r1 r2 h q => by
  unfold prIsN at h
  split at h
  · cases h
    exact ⟨r2.non, by rw [r1.isN]; exact fin_bl e q⟩
  · cases h⟩
theorem P2.notN : P2 K (fun x y H Q => y = .non ∧ Q (.bl (!decide (x = .non))) H) prNotN := ⟨fun {G H σ ρ v1 v2 d1 d2 d Q} e r1 r2 h q => by
  unfold prNotN at h
  split at h
  · cases h
    exact ⟨r2.non, by rw [r1.isN]; exact fin_bl e q⟩
  · cases h⟩
end
end FRT
end
section
set_option Elab.async false
set_option linter.all false
set_option maxRecDepth 100000
set_option maxHeartbeats 4000001
namespace FRT
open PySem L2
/-! ### operations of one operand -/
structure P1 (K : PySem.W.Frag) (r : V → Hp → VK → Prop) (pr : D → Option Vd) : Prop where
  ok : ∀ {G H : Hp} {σ : St} {ρ : Ro} {v1 : V} {d1 : D} {d : Vd} {Q : VK}, EnvR K G H σ ρ → VwR K G H v1 d1 → pr d1 = some d →
    (∀ v G' H', Way K G H σ ρ G' H' σ ρ → VdR K H σ ρ G' H' σ ρ v d → Q v H') → r v1 H Q
def m1 (pr : D → Option Vd) (ma : M Pr) : M Vd := fun ρ => (ma ρ).bind fun p1 ρ1 => match p1.get ρ1 with
  | some x => ofO (pr x) ρ1
  | none => .bad
section
variable {X : Cx} {cs : List Addr} {W : WX} {a b : Expr} {ma mb : M Pr}
theorem op1_imp {K : PySem.W.Frag} {r : V → Hp → VK → Prop} {pr : D → Option Vd} (P : P1 K r pr) {σ : St} {H : Hp} {Q : VK} (h : tD cs K W (m1 pr ma) σ H Q) : tP cs K W ma σ H (fun x H1 => r x H1 Q) := by
  obtain ⟨G, ρ, e, h⟩ := h
  refine ⟨G, ρ, e, Pg.bind anE h fun p1 ρ1 v1 G1 H1 w1 r1 h1 => ?_⟩
  have h3 := h1 G1 w1
  cases g1 : p1.get ρ1 with
  | none => rw [g1] at h3; exact h3.elim
  | some x =>
    rw [g1] at h3
    dsimp only [ofO] at h3
    cases g3 : pr x with
    | none => rw [g3] at h3; exact h3.elim
    | some d =>
      rw [g3] at h3
      exact P.ok w1.env (PrR.view w1.env r1 g1) g3 fun v G' H' w q => h3 v G' H' w q
theorem pd_un {op : UnaryOp} {r : V → Hp → VK → Prop} {pr : D → Option Vd} {pos : Pos} (ho : UnR X (unaryOp op) r) (P : P1 X.K r pr) (ha : PO2 cs W X a ma) : PD cs W X (.UnaryOp op a pos) (m1 pr ma) :=
  pe_imp (pe_un ho ha) fun _ _ _ h => op1_imp P h
end
def prNeg : D → Option Vd
  | .int i => vi (-i)
  | _ => none
theorem P1.neg {K : PySem.W.Frag} : P1 K (rU fun i => .int (-i)) prNeg := ⟨fun {G H σ ρ v1 d1 d Q} e r1 h q => by
  unfold prNeg at h
  split at h
  · cases h
    rw [r1.int]
    exact ⟨_, rfl, fin_int e q⟩
  · cases h⟩
/-! ### arguments -/
def mnil : M (List D) := fun ρ => .ok [] ρ
def mcons (m : M Vd) (ms : M (List D)) : M (List D) := fun ρ => (m ρ).bind fun d ρ1 => (ms ρ1).bind fun ds ρ2 => .ok (d.d :: ds) ρ2
section
variable {X : Cx} {cs : List Addr} {W : WX} {a b e : Expr} {es : List Expr} {ma mb : M Pr} {m : M Vd} {ms : M (List D)}
theorem pl_nil : PL cs W X [] mnil := pa_imp pa_nil fun σ H Q ⟨G, ρ, e, q⟩ => q [] G H (.refl e) .nil
theorem pl_cons (ha : PD cs W X e m) (hr : PL cs W X es ms) (hs : starEach (e :: es) X.env = (false, eval e X.env) :: starEach es X.env := by rfl) : PL cs W X (e :: es) (mcons m ms) :=
  pa_imp (pa_cons ha hr hs) fun σ H Q ⟨G, ρ, e0, h⟩ => ⟨G, ρ, e0, Pg.bind anA h fun d ρ1 v G1 H1 w1 r1 h1 => by
    obtain ⟨G2, w2, _, r2⟩ := share w1 r1
    exact ⟨G2, ρ1, w2.env, Pg.bind anA (h1 G2 w2) fun ds ρ2 vs G3 H3 w3 r3 h3 => h3 G3 w3 _ G3 H3 (.refl w3.env) (.cons (r2.mono w3.st.g) r3)⟩⟩
/-- displays -/
def mtup (ms : M (List D)) : M Vd := fun ρ => (ms ρ).bind fun ds ρ1 => if ds.length ≤ sizeLine then .ok (.sh (.tup ds)) ρ1 else .bad
def mlst (ms : M (List D)) : M Vd := fun ρ => (ms ρ).bind fun ds ρ1 => if ds.length ≤ sizeLine then .ok (.fr ds) ρ1 else .bad
theorem pd_tup {x1 : Nat} {pos : Pos} (h : PL cs W X es ms) : PD cs W X (.Tuple es x1 pos) (mtup ms) :=
  pe_imp (pe_tup h) fun σ H Q ⟨G, ρ, e0, q⟩ => ⟨G, ρ, e0, Pg.bind anE q fun ds ρ1 vs G1 H1 w1 r1 h1 => by
    have h2 := h1 G1 w1
    split at h2
    · rename_i hz
      refine ⟨by rw [r1.length]; exact hz, fun p n => ?_⟩
      exact fin_tup (Q := Q) w1.env r1 h2 p n
    · exact h2.elim⟩
theorem pd_lst {pos : Pos} (h : PL cs W X es ms) : PD cs W X (.List es pos) (mlst ms) :=
  pe_imp (pe_lst h) fun σ H Q ⟨G, ρ, e0, q⟩ => ⟨G, ρ, e0, Pg.bind anE q fun ds ρ1 vs G1 H1 w1 r1 h1 => by
    have h2 := h1 G1 w1
    split at h2
    · rename_i hz
      refine ⟨by rw [r1.length]; exact hz, fun p n => ?_⟩
      exact fin_lst (Q := Q) w1.env r1 h2 p n
    · exact h2.elim⟩
end
/-! ### truth -/
def truD : D → Option Bool
  | .non => some false
  | .bl b => some b
  | .int i => some (i != 0)
  | .str x => if x.length ≤ sizeLine then some ((x.length : Int) != 0) else none
  | .tup l => some (!l.isEmpty)
  | .lst l => some (!l.isEmpty)
  | .scr l => some (!l.isEmpty)
  | _ => none
theorem VwR.tru {K : PySem.W.Frag} {G H : Hp} {v : V} {d : D} {k : Bool} (e : Same G H) (r : VwR K G H v d) (h : truD d = some k) : TruV K v H k := by
  cases d with
  | non => cases h; rw [r.non]; rfl
  | bl b => cases h; rw [r.bl]; rfl
  | int i => cases h; rw [r.int]; rfl
  | str x =>
    have h' : (if x.length ≤ sizeLine then some ((x.length : Int) != 0) else none) = some k := h
    by_cases hz : x.length ≤ sizeLine
    · rw [if_pos hz] at h'; cases h'; rw [r.str]; exact ⟨hz, rfl⟩
    · rw [if_neg hz] at h'; cases h'
  | tup l =>
    cases h
    obtain ⟨a, vs, rfl, ha, ra⟩ := r.tup e
    exact .inr (.inl ⟨vs, ha, by rw [ra.isEmpty]⟩)
  | lst l =>
    cases h
    obtain ⟨a, vs, rfl, ha, ra⟩ := r.lst e
    exact .inl ⟨vs, .inl (.inl ha), by rw [ra.isEmpty]⟩
  | scr l =>
    cases h
    obtain ⟨a, vs, rfl, ha, ra⟩ := r.scr e
    exact .inl ⟨vs, ha, by rw [ra.isEmpty]⟩
  | dct _ => cases h
  | exn _ _ => cases h
def mtru (ma : M Pr) : M Bool := fun ρ => (ma ρ).bind fun p1 ρ1 => match p1.get ρ1 with
  | some x => ofO (truD x) ρ1
  | none => .bad
def mand (ma mb : M Bool) : M Bool := fun ρ => (ma ρ).bind fun b ρ1 => if b = true then mb ρ1 else .ok false ρ1
def mor (ma mb : M Bool) : M Bool := fun ρ => (ma ρ).bind fun b ρ1 => if b = true then .ok true ρ1 else mb ρ1
def mnot (ma : M Bool) : M Bool := fun ρ => (ma ρ).bind fun b ρ1 => .ok (!b) ρ1
section
variable {X : Cx} {cs : List Addr} {W : WX} {a b e : Expr} {es : List Expr} {ma mb : M Pr} {m n : M Vd} {ms : M (List D)} {mt mu : M Bool} {pos : Pos} {rest : List Expr}
/-- a test by truth; h: the form of e has no test of its own -/
theorem pb_tru (ha : PO2 cs W X a ma) (he : ∀ whole, isTrue a X.env whole = (do let v ← whole; standAt a.pos; holding [v] (truthy v)) := by intro _; rfl) : PB cs W X a (mtru ma) :=
  pt_imp (pt_truth ha he) fun σ H Q ⟨G, ρ, e0, q⟩ => ⟨G, ρ, e0, Pg.bind anB q fun p ρ1 v G1 H1 w1 r1 h1 => by
    have h3 := h1 G1 w1
    cases g1 : p.get ρ1 with
    | none => rw [g1] at h3; exact h3.elim
    | some x =>
      rw [g1] at h3
      dsimp only [ofO] at h3
      cases g3 : truD x with
      | none => rw [g3] at h3; exact h3.elim
      | some d =>
        rw [g3] at h3
        exact ⟨d, (PrR.view w1.env r1 g1).tru w1.env.same g3, h3 d G1 H1 (.refl w1.env) rfl⟩⟩
def mbl (m : M Vd) : M Bool := fun ρ => (m ρ).bind fun d ρ1 => match d with
  | .sh (.bl b) => .ok b ρ1
  | _ => .bad
/-- a value that is a bool, as a test -/
theorem bl_imp {K : PySem.W.Frag} {te : TE} (i : ∀ σ H (Q : VK), tD cs K W m σ H Q → te σ H Q) {σ : St} {H : Hp} {Q : Bool → Hp → Prop} (h : tBl cs K W (mbl m) σ H Q) : tTest te σ H Q := by
  obtain ⟨G, ρ, e0, q⟩ := h
  refine i σ H _ ⟨G, ρ, e0, Pg.bind anB q fun d ρ1 v G1 H1 w1 r1 h1 => ?_⟩
  have h2 := h1 G1 w1
  split at h2
  · cases (show Rp K G1 v (.bl _) from r1)
    exact ⟨_, rfl, h2 _ G1 H1 (.refl w1.env) rfl⟩
  · exact h2.elim
theorem pb_cmp {op : CmpOp} {r : R2} {pr : D → D → Option Vd} (ho : OpR X (compareOp op) r) (P : P2 X.K r pr) (ha : PO2 cs W X a ma) (hb : PO2 cs W X b mb) (hm : behindInMarks op b = false) : PB cs W X (.Compare a [op] [b] pos) (mbl (m2 pr ma mb)) :=
  pt_imp (pt_cmpR ho ha hb hm) fun _ _ _ h => bl_imp (fun _ _ _ z => op2_imp P z) h
theorem pb_not (ha : PB cs W X a mt) : PB cs W X (.UnaryOp .Not a pos) (mnot mt) :=
  pt_imp (pt_not ha) fun σ H Q ⟨G, ρ, e0, q⟩ => ⟨G, ρ, e0, Pg.bind anB q fun d ρ1 v G1 H1 w1 r1 h1 => by
    cases r1
    exact h1 G1 w1 _ G1 H1 (.refl w1.env) rfl⟩
/-- and, or in a test -/
abbrev PBw (cs : List Addr) (W : WX) (X : Cx) (e : Expr) (m : M Bool) : Prop := PW X e (tBl cs X.K W m)
theorem pw_imp {e : Expr} {t t' : TT} (h : PW X e t) (i : ∀ σ H Q, t' σ H Q → t σ H Q) : PW X e t' := ⟨fun wh pins s σ H Q I q => h.run wh pins s σ H Q I (i σ H Q q)⟩
theorem pb_and1 (ha : PB cs W X a mt) : PBw cs W X (.BoolOp .And [a] pos) mt := pw_and1 ha
theorem pb_or1 (ha : PB cs W X a mt) : PBw cs W X (.BoolOp .Or [a] pos) mt := pw_or1 ha
theorem pb_and (ha : PB cs W X a mt) (hb : PBw cs W X (.BoolOp .And (b :: rest) pos) mu) : PBw cs W X (.BoolOp .And (a :: b :: rest) pos) (mand mt mu) :=
  pw_imp (pw_and ha hb) fun σ H Q ⟨G, ρ, e0, q⟩ => ⟨G, ρ, e0, Pg.bind anB q fun d ρ1 v G1 H1 w1 r1 h1 => by
    cases r1
    have h2 := h1 G1 w1
    cases d with
    | true => exact ⟨G1, ρ1, w1.env, h2⟩
    | false => exact h2 _ G1 H1 (.refl w1.env) rfl⟩
theorem pb_or (ha : PB cs W X a mt) (hb : PBw cs W X (.BoolOp .Or (b :: rest) pos) mu) : PBw cs W X (.BoolOp .Or (a :: b :: rest) pos) (mor mt mu) :=
  pw_imp (pw_or ha hb) fun σ H Q ⟨G, ρ, e0, q⟩ => ⟨G, ρ, e0, Pg.bind anB q fun d ρ1 v G1 H1 w1 r1 h1 => by
    cases r1
    have h2 := h1 G1 w1
    cases d with
    | true => exact h2 _ G1 H1 (.refl w1.env) rfl
    | false => exact ⟨G1, ρ1, w1.env, h2⟩⟩
theorem pb_w (h : PBw cs W X e mt) : PB cs W X e mt := h.pt
/-- and, or, not as values -/
def mandv (m n : M Vd) : M Vd := fun ρ => (m ρ).bind fun d ρ1 => (ofO (truD d.d) ρ1).bind fun k ρ2 => if k = true then n ρ2 else .ok (.sh d.d) ρ2
def morv (m n : M Vd) : M Vd := fun ρ => (m ρ).bind fun d ρ1 => (ofO (truD d.d) ρ1).bind fun k ρ2 => if k = true then .ok d ρ2 else n ρ2
def mnotv (ma : M Pr) : M Vd := fun ρ => (mtru ma ρ).bind fun b ρ1 => .ok (.sh (.bl (!b))) ρ1
theorem pd_andv (ha : PD cs W X a m) (hb : PD cs W X (.BoolOp .And (b :: rest) pos) n) : PD cs W X (.BoolOp .And (a :: b :: rest) pos) (mandv m n) :=
  pe_imp (pe_andT ha hb) fun σ H Q ⟨G, ρ, e0, q⟩ => ⟨G, ρ, e0, Pg.bind anE q fun d ρ1 v G1 H1 w1 r1 h1 => by
    obtain ⟨G2, w2, _, r2⟩ := share w1 r1
    have h2 := h1 G2 w2
    dsimp only [ofO] at h2
    cases g : truD d.d with
    | none => rw [g] at h2; exact h2.elim
    | some k =>
      rw [g] at h2
      refine ⟨k, VwR.tru w2.env.same (.inl r2) g, ?_⟩
      cases k with
      | true => exact ⟨G2, ρ1, w2.env, h2⟩
      | false => exact h2 v G2 H1 (.refl w2.env) r2⟩
theorem pd_orv (ha : PD cs W X a m) (hb : PD cs W X (.BoolOp .Or (b :: rest) pos) n) : PD cs W X (.BoolOp .Or (a :: b :: rest) pos) (morv m n) :=
  pe_imp (pe_orT ha hb) fun σ H Q ⟨G, ρ, e0, q⟩ => ⟨G, ρ, e0, by
    dsimp only [morv] at q
    cases hm : m ρ with
    | bad => rw [hm] at q; exact q
    | exc x ρ' => rw [hm] at q; exact q
    | ok d ρ1 =>
      rw [hm] at q
      intro v G1 H1 w1 r1
      obtain ⟨G2, w2, s2, r2⟩ := share w1 r1
      dsimp only [ofO, Rs.bind] at q
      cases g : truD d.d with
      | none => rw [g] at q; exact q.elim
      | some k =>
        rw [g] at q
        refine ⟨k, VwR.tru w2.env.same (.inl r2) g, ?_⟩
        cases k with
        | true => exact q v G1 H1 w1 r1
        | false => exact ⟨G2, ρ1, w2.env, Pg.shift anE q w2⟩⟩
theorem pd_one {op : BoolOp} (h : PD cs W X a m) : PD cs W X (.BoolOp op [a] pos) m := pe_one h
theorem pd_not (ha : PO2 cs W X a ma) : PD cs W X (.UnaryOp .Not a pos) (mnotv ma) :=
  pe_imp (pe_notT ha) fun σ H Q ⟨G, ρ, e0, q⟩ => ⟨G, ρ, e0, by
    dsimp only [mnotv, mtru] at q
    cases hm : ma ρ with
    | bad => rw [hm] at q; exact q
    | exc x ρ' => rw [hm] at q; exact q
    | ok p ρ1 =>
      rw [hm] at q
      intro v G1 H1 w1 r1
      dsimp only [Rs.bind] at q
      cases g1 : p.get ρ1 with
      | none => rw [g1] at q; exact q.elim
      | some x =>
        rw [g1] at q
        dsimp only [ofO] at q
        cases g3 : truD x with
        | none => rw [g3] at q; exact q.elim
        | some k =>
          rw [g3] at q
          exact ⟨k, (PrR.view w1.env r1 g1).tru w1.env.same g3, q _ G1 H1 w1 (.bl _)⟩⟩
/-- x if c else y -/
def mif {α : Type} (c : M Bool) (m n : M α) : M α := fun ρ => (c ρ).bind fun b ρ1 => if b = true then m ρ1 else n ρ1
theorem pd_if {c : Expr} (hc : PB cs W X c mt) (ha : PD cs W X a m) (hb : PD cs W X b n) : PD cs W X (.IfExp c a b pos) (mif mt m n) :=
  pe_imp (pe_ifExp hc ha hb) fun σ H Q ⟨G, ρ, e0, q⟩ => ⟨G, ρ, e0, Pg.bind anE q fun d ρ1 v G1 H1 w1 r1 h1 => by
    cases r1
    have h2 := h1 G1 w1
    cases d with
    | true => exact ⟨G1, ρ1, w1.env, h2⟩
    | false => exact ⟨G1, ρ1, w1.env, h2⟩⟩
/-- a chain of two comparisons -/
def mchain (p q : D → D → Option Vd) (ma mb mc : M Pr) : M Vd := fun ρ => (ma ρ).bind fun x ρ1 => (mb ρ1).bind fun y ρ2 => match x.get ρ2, y.get ρ2 with
  | some x', some y' => (match p x' y' with
    | some (.sh (.bl true)) => (mc ρ2).bind fun z ρ3 => (match y.get ρ3, z.get ρ3 with
      | some y2, some z' => ofO (q y2 z') ρ3
      | _, _ => .bad)
    | some (.sh (.bl false)) => .ok (.sh (.bl false)) ρ2
    | _ => .bad)
  | _, _ => .bad
theorem chain_imp {K : PySem.W.Frag} {r r' : R2} {p q : D → D → Option Vd} {mc : M Pr} (P : P2 K r p) (P' : P2 K r' q) {σ : St} {H : Hp} {Q : VK} (h : tD cs K W (mchain p q ma mb mc) σ H Q) :
    tChain r r' (tP cs K W ma) (tP cs K W mb) (tP cs K W mc) σ H Q := by
  obtain ⟨G, ρ, e, h⟩ := h
  refine ⟨G, ρ, e, Pg.bind anE h fun p1 ρ1 v1 G1 H1 w1 r1 h1 => ?_⟩
  refine ⟨G1, ρ1, w1.env, Pg.bind anE (h1 G1 w1) fun p2 ρ2 v2 G2 H2 w2 r2 h2 => ?_⟩
  have h3 := h2 G2 w2
  cases g1 : p1.get ρ2 with
  | none => rw [g1] at h3; exact h3.elim
  | some x =>
    cases g2 : p2.get ρ2 with
    | none => rw [g1, g2] at h3; exact h3.elim
    | some y =>
      rw [g1, g2] at h3
      dsimp only at h3
      cases g3 : p x y with
      | none => rw [g3] at h3; exact h3.elim
      | some d =>
        rw [g3] at h3
        refine P.ok w2.env ((PrR.mono w2.st.g r1).view w2.env g1) (PrR.view w2.env r2 g2) g3 fun v G' H' w z => ?_
        cases d with
        | fr _ => exact h3.elim
        | sh d =>
          cases d with
          | bl b =>
            cases (show Rp K G' v (.bl b) from z)
            refine ⟨b, rfl, ?_⟩
            cases b with
            | false => exact h3 _ G' H' w (.bl _)
            | true =>
              refine ⟨G', ρ2, w.env, Pg.bind anE (Pg.shift anE h3 w) fun p3 ρ3 v3 G4 H4 w4 r4 h4 => ?_⟩
              have h5 := h4 G4 w4
              cases g4 : p2.get ρ3 with
              | none => rw [g4] at h5; exact h5.elim
              | some y2 =>
                cases g5 : p3.get ρ3 with
                | none => rw [g4, g5] at h5; exact h5.elim
                | some z' =>
                  rw [g4, g5] at h5
                  dsimp only [ofO] at h5
                  cases g6 : q y2 z' with
                  | none => rw [g6] at h5; exact h5.elim
                  | some d' =>
                    rw [g6] at h5
                    exact P'.ok w4.env ((PrR.mono (w.st.g.trans w4.st.g) r2).view w4.env g4) (PrR.view w4.env r4 g5) g6 fun v G' H' w q => h5 v G' H' w q
          | _ => exact h3.elim
theorem pd_chain {op op' : CmpOp} {c : Expr} {r r' : R2} {p q : D → D → Option Vd} {mc : M Pr} (ho : OpR X (compareOp op) r) (ho' : OpR X (compareOp op') r') (P : P2 X.K r p) (P' : P2 X.K r' q) (ha : PO2 cs W X a ma) (hb : PO2 cs W X b mb) (hc : PO2 cs W X c mc)
    (hm : lastMarks [op, op'] [b, c] = false := by rfl) : PD cs W X (.Compare a [op, op'] [b, c] pos) (mchain p q ma mb mc) :=
  pe_imp (pe_chain ho ho' ha hb hc hm) fun _ _ _ h => chain_imp P P' h
theorem pb_chain {op op' : CmpOp} {c : Expr} {r r' : R2} {p q : D → D → Option Vd} {mc : M Pr} (ho : OpR X (compareOp op) r) (ho' : OpR X (compareOp op') r') (P : P2 X.K r p) (P' : P2 X.K r' q) (ha : PO2 cs W X a ma) (hb : PO2 cs W X b mb) (hc : PO2 cs W X c mc)
    (hm : lastMarks [op, op'] [b, c] = false := by rfl) : PB cs W X (.Compare a [op, op'] [b, c] pos) (mbl (mchain p q ma mb mc)) :=
  pt_imp (pt_chain ho ho' ha hb hc hm) fun _ _ _ h => bl_imp (fun _ _ _ z => chain_imp P P' z) h
end
end FRT
end
section
set_option Elab.async false
set_option linter.all false
set_option maxRecDepth 100000
set_option maxHeartbeats 4000001
namespace FRT
open PySem L2
/-! ### items -/
def prIx : D → D → Option Vd
  | .lst l, .int i => (atI l i).map .sh
  | .tup l, .int i => (atI l i).map .sh
  | .scr l, .int i => (atI l i).map .sh
  | .str z, .int i => if z.length ≤ sizeLine then (atI z.cps.toList i).map fun c => .sh (.str ⟨#[c]⟩) else none
  | _, _ => none
theorem Rps.at {K : PySem.W.Frag} {G : Hp} {vs : List V} {ds : List D} {i : Int} {d : D} (r : Rps K G vs ds) (h : atI ds i = some d) : ∃ v, atI vs i = some v ∧ Rp K G v d := by
  unfold atI at h ⊢
  rw [r.length]
  cases q : ixN ds.length i with
  | none => rw [q] at h; cases h
  | some j =>
    rw [q] at h
    exact r.get' h
theorem P2.ix {K : PySem.W.Frag} : P2 K (rIx K) prIx := ⟨fun {G H σ ρ v1 v2 d1 d2 d Q} e r1 r2 h q => by
  unfold prIx at h
  split at h
  · rename_i l i
    cases g : atI l i with
    | none => rw [g] at h; cases h
    | some x =>
      rw [g] at h
      cases h
      obtain ⟨a, vs, rfl, ha, ra⟩ := r1.lst e.same
      obtain ⟨v, h1, h2⟩ := ra.at g
      rw [r2.int]
      exact .inl ⟨a, vs, _, v, rfl, rfl, .inl (.inl ha), h1, q v G H (.refl e) h2⟩
  · rename_i l i
    cases g : atI l i with
    | none => rw [g] at h; cases h
    | some x =>
      rw [g] at h
      cases h
      obtain ⟨a, vs, rfl, ha, ra⟩ := r1.tup e.same
      obtain ⟨v, h1, h2⟩ := ra.at g
      rw [r2.int]
      exact .inr (.inl ⟨a, vs, _, v, rfl, rfl, ha, h1, q v G H (.refl e) h2⟩)
  · rename_i l i
    cases g : atI l i with
    | none => rw [g] at h; cases h
    | some x =>
      rw [g] at h
      cases h
      obtain ⟨a, vs, rfl, ha, ra⟩ := r1.scr e.same
      obtain ⟨v, h1, h2⟩ := ra.at g
      rw [r2.int]
      exact .inl ⟨a, vs, _, v, rfl, rfl, ha, h1, q v G H (.refl e) h2⟩
  · split at h
    · rename_i z i hz
      cases g : atI z.cps.toList i with
      | none => rw [g] at h; cases h
      | some x =>
        rw [g] at h
        cases h
        rw [r1.str, r2.int]
        exact .inr (.inr ⟨z, i, x, rfl, rfl, hz, g, fin_str e q⟩)
    · cases h
  · cases h⟩
section
variable {X : Cx} {cs : List Addr} {W : WX} {a b e : Expr} {es : List Expr} {ma mb : M Pr} {m n : M Vd} {pos p2 : Pos}
theorem pd_ix (ha : PO2 cs W X a ma) (hb : PO2 cs W X b mb) (hs : PlainIx b := by exact fun _ _ => rfl) : PD cs W X (.Subscript a b pos) (m2 prIx ma mb) :=
  pe_imp (pe_ix ix_seq ha hb hs) fun _ _ _ h => op2_imp P2.ix h
/-- an optional part of a slice -/
def tOi (cs : List Addr) (K : PySem.W.Frag) (W : WX) (m : M (Option Int)) : TO := fun σ H Q => ∃ G ρ, EnvR K G H σ ρ ∧ Pg cs K W σ (fun _ _ _ _ _ (x y : Option Int) => x = y) G H ρ (m ρ) Q
abbrev PI2 (cs : List Addr) (W : WX) (X : Cx) (e : Option Expr) (m : M (Option Int)) : Prop := PO X e (tOi cs X.K W m)
def mno : M (Option Int) := fun ρ => .ok none ρ
def msome (m : M Vd) : M (Option Int) := fun ρ => (m ρ).bind fun d ρ1 => match d with
  | .sh (.int i) => .ok (some i) ρ1
  | _ => .bad
theorem po_imp {e : Option Expr} {t t' : TO} (h : PO X e t) (i : ∀ σ H Q, t' σ H Q → t σ H Q) : PO X e t' := ⟨fun pins s σ H Q I q => h.run pins s σ H Q I (i σ H Q q)⟩
theorem pi_no : PI2 cs W X none mno := po_imp po_none fun σ H Q ⟨G, ρ, e0, q⟩ => q none G H (.refl e0) rfl
theorem pi_some (h : PD cs W X e m) : PI2 cs W X (some e) (msome m) := po_imp (po_some h) fun σ H Q ⟨G, ρ, e0, q⟩ => ⟨G, ρ, e0, Pg.bind (R2 := fun _ _ _ _ _ (x y : Option Int) => x = y) (fun _ _ _ _ _ _ _ _ _ _ _ h => h) q fun d ρ1 v G1 H1 w1 r1 h1 => by
  have h2 := h1 G1 w1
  split at h2
  · cases (show Rp X.K G1 v (.int _) from r1)
    exact ⟨_, rfl, h2 _ G1 H1 (.refl w1.env) rfl⟩
  · exact h2.elim⟩
/-- the slice of data -/
def cutD (xs : List D) (lo hi : Option Int) : List D := (xs.drop (HT.sIx xs.length 0 lo)).take (HT.sIx xs.length xs.length hi - HT.sIx xs.length 0 lo)
def prSl (lo hi : Option Int) : D → Option Vd
  | .lst l => some (.fr (cutD l lo hi))
  | .scr l => some (.fr (cutD l lo hi))
  | .tup l => some (.sh (.tup (cutD l lo hi)))
  | .str z => if z.length ≤ sizeLine then vs (Txt.slice z lo hi) else none
  | _ => none
abbrev rSlAll (K : PySem.W.Frag) : V → Option Int → Option Int → Hp → VK → Prop := fun x lo hi H Q => rSlL K x lo hi H Q ∨ (rSlA K x lo hi H Q ∨ C8.rSlX x lo hi H Q)
theorem sl_all {X : Cx} : L2.SlR X (rSlAll X.K) := L2.SlR.or sl_list (L2.SlR.or sl_tupA C8.sl_txt)
theorem Rps.cut {K : PySem.W.Frag} {G : Hp} {vs : List V} {ds : List D} (r : Rps K G vs ds) (lo hi : Option Int) : Rps K G (cutV vs lo hi) (cutD ds lo hi) := by
  unfold cutV cutD
  rw [r.length]
  exact (r.drop _).take _
theorem sl_ok {K : PySem.W.Frag} {G H : Hp} {σ : St} {ρ : Ro} {v1 : V} {d1 : D} {d : Vd} {Q : VK} {lo hi : Option Int} (e : EnvR K G H σ ρ) (r1 : VwR K G H v1 d1) (h : prSl lo hi d1 = some d)
    (q : ∀ v G' H', Way K G H σ ρ G' H' σ ρ → VdR K H σ ρ G' H' σ ρ v d → Q v H') : rSlAll K v1 lo hi H Q := by
  unfold prSl at h
  split at h
  · cases h
    obtain ⟨a, vs, rfl, ha, ra⟩ := r1.lst e.same
    exact .inl ⟨a, vs, rfl, .inl (.inl ha), fin_lst e (ra.cut lo hi) q⟩
  · cases h
    obtain ⟨a, vs, rfl, ha, ra⟩ := r1.scr e.same
    exact .inl ⟨a, vs, rfl, ha, fin_lst e (ra.cut lo hi) q⟩
  · cases h
    rename_i l
    obtain ⟨a, vs, rfl, ha, ra⟩ := r1.tup e.same
    refine .inr (.inl ⟨a, vs, rfl, ha, fun z => ?_, fun _ => fin_tup e (ra.cut lo hi) q⟩)
    have ec : cutD l lo hi = l := by
      unfold cutD
      rw [ra.length] at z
      rw [z.1, z.2]
      simp
    rw [ec] at q
    rcases r1 with r1 | ⟨_, _, _, _, z, _⟩
    · exact q _ G H (.refl e) r1
    · cases z
  · split at h
    · rename_i z hz
      cases h
      rw [r1.str]
      exact .inr (.inr ⟨z, rfl, hz, fin_str e q⟩)
    · cases h
  · cases h
def msl (ma : M Pr) (ml mh : M (Option Int)) : M Vd := fun ρ => (ma ρ).bind fun p1 ρ1 => (ml ρ1).bind fun lo ρ2 => (mh ρ2).bind fun hi ρ3 => match p1.get ρ3 with
  | some x => ofO (prSl lo hi x) ρ3
  | none => .bad
theorem pd_sl {lo hi : Option Expr} {ml mh : M (Option Int)} (ha : PO2 cs W X a ma) (hl : PI2 cs W X lo ml) (hh : PI2 cs W X hi mh) : PD cs W X (.Subscript a (.Slice lo hi none p2) pos) (msl ma ml mh) :=
  pe_imp (pe_slice sl_all ha hl hh) fun σ H Q ⟨G, ρ, e0, q⟩ => ⟨G, ρ, e0, Pg.bind anE q fun p1 ρ1 v1 G1 H1 w1 r1 h1 => ⟨G1, ρ1, w1.env, Pg.bind anE (h1 G1 w1) fun lo' ρ2 l G2 H2 w2 r2 h2 =>
    ⟨G2, ρ2, w2.env, Pg.bind anE (h2 G2 w2) fun hi' ρ3 u G3 H3 w3 r3 h3 => by
      have h4 := h3 G3 w3
      subst r2 r3
      cases g : p1.get ρ3 with
      | none => rw [g] at h4; exact h4.elim
      | some x =>
        rw [g] at h4
        dsimp only [ofO] at h4
        cases g3 : prSl l u x with
        | none => rw [g3] at h4; exact h4.elim
        | some d =>
          rw [g3] at h4
          exact sl_ok w3.env ((PrR.mono (w2.st.g.trans w3.st.g) r1).view w3.env g) g3 h4⟩⟩⟩
/-- xs[::-1] of a list -/
def prRev : D → Option Vd
  | .lst l => some (.fr l.reverse)
  | .scr l => some (.fr l.reverse)
  | _ => none
theorem pd_rev {k : Nat} {p1 p3 p4 : Pos} (ha : PO2 cs W X a ma) : PD cs W X (.Subscript a (.Slice none none (some (.UnaryOp .USub (.Constant (.int 1) k p1) p2)) p3) p4) (m1 prRev ma) :=
  pe_imp (pe_revL ha) fun σ H Q h => op1_imp (r := fun x H1 Q => ∃ a xs, x = .ref a ∧ SqL X.K H1 a xs ∧ ∀ p, H1 p = none → Q (.ref p) (upd H1 p (.lst xs.reverse))) ⟨fun {G H σ ρ v1 d1 d Q} e r1 h q => by
    unfold prRev at h
    split at h
    · cases h
      obtain ⟨a, vs, rfl, ha, ra⟩ := r1.lst e.same
      exact ⟨a, vs, rfl, .inl (.inl ha), fin_lst e ra.rev q⟩
    · cases h
      obtain ⟨a, vs, rfl, ha, ra⟩ := r1.scr e.same
      exact ⟨a, vs, rfl, ha, fin_lst e ra.rev q⟩
    · cases h⟩ h
end
/-! ### built-in functions of one value -/
structure C1 (K : PySem.W.Frag) (r : List V → Hp → VK → Prop) (pr : D → Option Vd) : Prop where
  ok : ∀ {G H : Hp} {σ : St} {ρ : Ro} {v1 : V} {d1 : D} {d : Vd} {Q : VK}, EnvR K G H σ ρ → VwR K G H v1 d1 → pr d1 = some d →
    (∀ v G' H', Way K G H σ ρ G' H' σ ρ → VdR K H σ ρ G' H' σ ρ v d → Q v H') → r [v1] H Q
/-- operands in a row -/
def mpn : M (List Pr) := fun ρ => .ok [] ρ
def mpc (m : M Pr) (ms : M (List Pr)) : M (List Pr) := fun ρ => (m ρ).bind fun d ρ1 => (ms ρ1).bind fun ds ρ2 => .ok (d :: ds) ρ2
inductive PrsR (K : PySem.W.Frag) (σ : St) (G : Hp) : List V → List Pr → Prop
  | nil : PrsR K σ G [] []
  | cons {v : V} {vs : List V} {p : Pr} {ps : List Pr} : PrR K σ G v p → PrsR K σ G vs ps → PrsR K σ G (v :: vs) (p :: ps)
theorem PrsR.mono {K : PySem.W.Frag} {G G' : Hp} {σ : St} (s : Same G G') : ∀ {v : List V} {p : List Pr}, PrsR K σ G v p → PrsR K σ G' v p
  | _, _, .nil => .nil
  | _, _, .cons h r => .cons (PrR.mono s h) (PrsR.mono s r)
def rPs (K : PySem.W.Frag) (σ : St) : Hp → Ro → Hp → Hp → Ro → List V → List Pr → Prop := fun _ _ G' _ _ v p => PrsR K σ G' v p
theorem anPs {K : PySem.W.Frag} {σ : St} : Anti σ (rPs K σ) := fun _ _ _ _ _ _ _ _ _ _ _ h => h
def tPs (cs : List Addr) (K : PySem.W.Frag) (W : WX) (m : M (List Pr)) : TA := fun σ H Q => ∃ G ρ, EnvR K G H σ ρ ∧ Pg cs K W σ (rPs K σ) G H ρ (m ρ) Q
abbrev PR (cs : List Addr) (W : WX) (X : Cx) (e : List Expr) (m : M (List Pr)) : Prop := PA X e (tPs cs X.K W m)
section
variable {X : Cx} {cs : List Addr} {W : WX} {a b e : Expr} {es : List Expr} {ma mb : M Pr} {m n : M Vd} {ms : M (List Pr)} {pos p2 p : Pos}
theorem pr_nil : PR cs W X [] mpn := pa_imp pa_nil fun σ H Q ⟨G, ρ, e, q⟩ => q [] G H (.refl e) .nil
theorem pr_cons (ha : PO2 cs W X e ma) (hr : PR cs W X es ms) (hs : starEach (e :: es) X.env = (false, eval e X.env) :: starEach es X.env := by rfl) : PR cs W X (e :: es) (mpc ma ms) :=
  pa_imp (pa_cons ha hr hs) fun σ H Q ⟨G, ρ, e0, h⟩ => ⟨G, ρ, e0, Pg.bind anPs h fun d ρ1 v G1 H1 w1 r1 h1 =>
    ⟨G1, ρ1, w1.env, Pg.bind anPs (h1 G1 w1) fun ds ρ2 vs G3 H3 w3 r3 h3 => h3 G3 w3 _ G3 H3 (.refl w3.env) (.cons (PrR.mono w3.st.g r1) r3)⟩⟩
theorem c1_imp {K : PySem.W.Frag} {r : List V → Hp → VK → Prop} {pr : D → Option Vd} (C : C1 K r pr) {σ : St} {H : Hp} {Q : VK} (h : tD cs K W (m1 pr ma) σ H Q) : tPs cs K W (mpc ma mpn) σ H (fun xs H1 => r xs H1 Q) := by
  obtain ⟨G, ρ, e, h⟩ := h
  dsimp only [m1] at h
  refine ⟨G, ρ, e, ?_⟩
  dsimp only [mpc, mpn]
  cases hm : ma ρ with
  | bad => rw [hm] at h; exact h
  | exc x ρ' => rw [hm] at h; exact h
  | ok p1 ρ1 =>
    rw [hm] at h
    intro vs G1 H1 w1 r1
    dsimp only [Rs.bind] at h
    cases r1 with
    | cons r0 rn =>
      cases rn
      cases g1 : p1.get ρ1 with
      | none => rw [g1] at h; exact h.elim
      | some x =>
        rw [g1] at h
        dsimp only [ofO] at h
        cases g3 : pr x with
        | none => rw [g3] at h; exact h.elim
        | some d =>
          rw [g3] at h
          exact C.ok w1.env (PrR.view w1.env r0 g1) g3 fun v G' H' w q => Pg.shift (R2 := rE K σ) (r := .ok d ρ1) anE h w1 v G' H' w q
/-- f(e), f a built-in function or type -/
theorem pd_b1 {x : Str} {id : String} {r : List V → Hp → VK → Prop} {pr : D → Option Vd} (hc : CallR X (.builtin id) r) (C : C1 X.K r pr) (hg : Gl X x) (hm : X.mg x = none) (hv : bootBuiltins x = some (.builtin id)) (ha : PO2 cs W X a ma)
    (hn : x ≠ "__name__" := by decide) (hdb : (x == ("__debug__" : Str)) = false := by decide)
    (he : starEach (a :: []) X.env = (false, eval a X.env) :: starEach [] X.env := by rfl) : PD cs W X (.Call (.Name x p) (a :: []) [] pos) (m1 pr ma) :=
  pe_imp (pe_callB hc hg hm hv (pr_cons ha pr_nil he) hn hdb he) fun _ _ _ h => c1_imp C h
theorem pd_t1 {x : Str} {T : String} {r : List V → Hp → VK → Prop} {pr : D → Option Vd} (hc : CallR X (.type T) r) (C : C1 X.K r pr) (hg : Gl X x) (hm : X.mg x = none) (hv : bootBuiltins x = some (.type T)) (ha : PO2 cs W X a ma)
    (hn : x ≠ "__name__" := by decide) (hdb : (x == ("__debug__" : Str)) = false := by decide)
    (he : starEach (a :: []) X.env = (false, eval a X.env) :: starEach [] X.env := by rfl) : PD cs W X (.Call (.Name x p) (a :: []) [] pos) (m1 pr ma) :=
  pe_imp (pe_callTy hc hg hm hv (pr_cons ha pr_nil he) hn hdb he) fun _ _ _ h => c1_imp C h
end
def prLen : D → Option Vd
  | .str x => if x.length ≤ sizeLine then vi x.length else none
  | .tup l => vi l.length
  | .lst l => vi l.length
  | .scr l => vi l.length
  | _ => none
def prAbs : D → Option Vd
  | .int i => vi (if i < 0 then -i else i)
  | _ => none
def prInt : D → Option Vd
  | .int i => vi i
  | .bl b => vi (if b then 1 else 0)
  | .str a => match PySem.intText? a with
    | some n => if a.length ≤ 640 then vi n else none
    | none => none
  | _ => none
def prStr : D → Option Vd
  | .int i => if i.natAbs.log2 < 1920 then vs (Str.ofString (toString i)) else none
  | .str a => vs a
  | _ => none
def prList : D → Option Vd
  | .tup l => some (.fr l)
  | .lst l => some (.fr l)
  | .scr l => some (.fr l)
  | _ => none
def prTuple : D → Option Vd
  | .tup l => some (.sh (.tup l))
  | .lst l => some (.sh (.tup l))
  | .scr l => some (.sh (.tup l))
  | _ => none
def blsOf : List D → Option (List Bool)
  | [] => some []
  | .bl b :: l => (blsOf l).map (b :: ·)
  | _ :: _ => none
def prAll : D → Option Vd
  | .lst l => (blsOf l).bind fun bs => vb (bs.all id)
  | _ => none
def prAny : D → Option Vd
  | .lst l => (blsOf l).bind fun bs => vb (bs.any id)
  | _ => none
def intsOf : List D → Option (List Int)
  | [] => some []
  | .int b :: l => (intsOf l).map (b :: ·)
  | _ :: _ => none
def prSum : D → Option Vd
  | .lst l => (intsOf l).bind fun bs => vi bs.sum
  | _ => none
section
variable {K : PySem.W.Frag} {G : Hp}
theorem Rps.bls : ∀ {ds : List D} {vs : List V} {bs : List Bool}, Rps K G vs ds → blsOf ds = some bs → vs = bs.map V.bl
  | [], _, _, .nil, h => by cases h; rfl
  | .bl b :: l, _, bs, .cons r rs, h => by
    unfold blsOf at h
    cases g : blsOf l with
    | none => rw [g] at h; cases h
    | some bs' =>
      rw [g] at h
      cases h
      cases r
      rw [Rps.bls rs g]
      rfl
  | .non :: _, _, _, _, h => by cases h
  | .int _ :: _, _, _, _, h => by cases h
  | .str _ :: _, _, _, _, h => by cases h
  | .tup _ :: _, _, _, _, h => by cases h
  | .lst _ :: _, _, _, _, h => by cases h
  | .scr _ :: _, _, _, _, h => by cases h
  | .dct _ :: _, _, _, _, h => by cases h
  | .exn _ _ :: _, _, _, _, h => by cases h
theorem Rps.ints : ∀ {ds : List D} {vs : List V} {bs : List Int}, Rps K G vs ds → intsOf ds = some bs → vs = bs.map V.int
  | [], _, _, .nil, h => by cases h; rfl
  | .int b :: l, _, bs, .cons r rs, h => by
    unfold intsOf at h
    cases g : intsOf l with
    | none => rw [g] at h; cases h
    | some bs' =>
      rw [g] at h
      cases h
      cases r
      rw [Rps.ints rs g]
      rfl
  | .non :: _, _, _, _, h => by cases h
  | .bl _ :: _, _, _, _, h => by cases h
  | .str _ :: _, _, _, _, h => by cases h
  | .tup _ :: _, _, _, _, h => by cases h
  | .lst _ :: _, _, _, _, h => by cases h
  | .scr _ :: _, _, _, _, h => by cases h
  | .dct _ :: _, _, _, _, h => by cases h
  | .exn _ _ :: _, _, _, _, h => by cases h
theorem C1.len : C1 K (fun xs H Q => ∃ x n, xs = [x] ∧ LenV K x H n ∧ Q (.int n) H) prLen := ⟨fun {G H σ ρ v1 d1 d Q} e r1 h q => by
  unfold prLen at h
  split at h
  · split at h
    · rename_i x hz
      cases h
      rw [r1.str]
      exact ⟨_, _, rfl, ⟨hz, rfl⟩, fin_int e q⟩
    · cases h
  · cases h
    obtain ⟨a, vs, rfl, ha, ra⟩ := r1.tup e.same
    exact ⟨_, _, rfl, .inr ⟨vs, ha, rfl⟩, by rw [ra.length]; exact fin_int e q⟩
  · cases h
    obtain ⟨a, vs, rfl, ha, ra⟩ := r1.lst e.same
    exact ⟨_, _, rfl, .inl ⟨vs, .inl (.inl ha), rfl⟩, by rw [ra.length]; exact fin_int e q⟩
  · cases h
    obtain ⟨a, vs, rfl, ha, ra⟩ := r1.scr e.same
    exact ⟨_, _, rfl, .inl ⟨vs, ha, rfl⟩, by rw [ra.length]; exact fin_int e q⟩
  · cases h⟩
theorem C1.abs : C1 K (fun xs H Q => ∃ i, xs = [.int i] ∧ Q (.int (if i < 0 then -i else i)) H) prAbs := ⟨fun {G H σ ρ v1 d1 d Q} e r1 h q => by
  unfold prAbs at h
  split at h
  · cases h
    rw [r1.int]
    exact ⟨_, rfl, fin_int e q⟩
  · cases h⟩
abbrev rIntA : List V → Hp → VK → Prop := fun xs H Q => ((∃ i, xs = [.int i] ∧ Q (.int i) H) ∨ ∃ k, xs = [.bl k] ∧ Q (.int (if k then 1 else 0)) H) ∨ ∃ a n, xs = [.str a] ∧ PySem.intText? a = some n ∧ a.length ≤ 640 ∧ Q (.int n) H
theorem call_intA {X : Cx} : CallR X (.type "int") rIntA := CallR.or call_int1 call_int_str
theorem C1.int : C1 K rIntA prInt := ⟨fun {G H σ ρ v1 d1 d Q} e r1 h q => by
  unfold prInt at h
  split at h
  · cases h
    rw [r1.int]
    exact .inl (.inl ⟨_, rfl, fin_int e q⟩)
  · cases h
    rw [r1.bl]
    exact .inl (.inr ⟨_, rfl, fin_int e q⟩)
  · split at h
    · split at h
      · rename_i hz
        cases h
        rw [r1.str]
        exact .inr ⟨_, _, rfl, by assumption, hz, fin_int e q⟩
      · cases h
    · cases h
  · cases h⟩
theorem C1.list : C1 K (fun xs H Q => ∃ p ys, xs = [.ref p] ∧ (SqL K H p ys ∨ SqT K H p ys) ∧ ∀ l, H l = none → Q (.ref l) (upd H l (.lst ys))) prList := ⟨fun {G H σ ρ v1 d1 d Q} e r1 h q => by
  unfold prList at h
  split at h
  · cases h
    obtain ⟨a, vs, rfl, ha, ra⟩ := r1.tup e.same
    exact ⟨a, vs, rfl, .inr ha, fin_lst e ra q⟩
  · cases h
    obtain ⟨a, vs, rfl, ha, ra⟩ := r1.lst e.same
    exact ⟨a, vs, rfl, .inl (.inl (.inl ha)), fin_lst e ra q⟩
  · cases h
    obtain ⟨a, vs, rfl, ha, ra⟩ := r1.scr e.same
    exact ⟨a, vs, rfl, .inl ha, fin_lst e ra q⟩
  · cases h⟩
theorem C1.tuple : C1 K (fun xs H Q => ∃ p ys, xs = [.ref p] ∧ ((SqL K H p ys ∧ ∀ l, H l = none → Q (.ref l) (upd H l (.tup ys))) ∨ (SqT K H p ys ∧ Q (.ref p) H))) prTuple := ⟨fun {G H σ ρ v1 d1 d Q} e r1 h q => by
  unfold prTuple at h
  split at h
  · cases h
    obtain ⟨a, vs, rfl, ha, ra⟩ := r1.tup e.same
    rcases r1 with r1 | ⟨_, _, _, _, z, _⟩
    · exact ⟨a, vs, rfl, .inr ⟨ha, q _ G H (.refl e) r1⟩⟩
    · cases z
  · cases h
    obtain ⟨a, vs, rfl, ha, ra⟩ := r1.lst e.same
    exact ⟨a, vs, rfl, .inl ⟨.inl (.inl ha), fin_tup e ra q⟩⟩
  · cases h
    obtain ⟨a, vs, rfl, ha, ra⟩ := r1.scr e.same
    exact ⟨a, vs, rfl, .inl ⟨ha, fin_tup e ra q⟩⟩
  · cases h⟩
theorem C1.all : C1 K (rAll K) prAll := ⟨fun {G H σ ρ v1 d1 d Q} e r1 h q => by
  unfold prAll at h
  split at h
  · rename_i l
    cases g : blsOf l with
    | none => rw [g] at h; cases h
    | some bs =>
      rw [g] at h
      cases h
      obtain ⟨a, vs, rfl, ha, ra⟩ := r1.lst e.same
      have := ra.bls g
      subst this
      exact ⟨a, bs, rfl, .inl (.inl ha), fin_bl e q⟩
  · cases h⟩
theorem C1.any : C1 K (rAny K) prAny := ⟨fun {G H σ ρ v1 d1 d Q} e r1 h q => by
  unfold prAny at h
  split at h
  · rename_i l
    cases g : blsOf l with
    | none => rw [g] at h; cases h
    | some bs =>
      rw [g] at h
      cases h
      obtain ⟨a, vs, rfl, ha, ra⟩ := r1.lst e.same
      have := ra.bls g
      subst this
      exact ⟨a, bs, rfl, .inl (.inl ha), fin_bl e q⟩
  · cases h⟩
theorem C1.sum : C1 K (rSum K) prSum := ⟨fun {G H σ ρ v1 d1 d Q} e r1 h q => by
  unfold prSum at h
  split at h
  · rename_i l
    cases g : intsOf l with
    | none => rw [g] at h; cases h
    | some bs =>
      rw [g] at h
      cases h
      obtain ⟨a, vs, rfl, ha, ra⟩ := r1.lst e.same
      have := ra.ints g
      subst this
      exact ⟨a, bs, rfl, .inl (.inl ha), fin_int e q⟩
  · cases h⟩
abbrev rStrA : List V → Hp → VK → Prop := fun xs H Q => ∃ i, xs = [.int i] ∧ i.natAbs.log2 < 1920 ∧ Q (.str (toString i)) H
theorem C1.str : C1 K rStrA (fun d => match d with | .int i => if i.natAbs.log2 < 1920 then vs (Str.ofString (toString i)) else none | _ => none) := ⟨fun {G H σ ρ v1 d1 d Q} e r1 h q => by
  split at h
  · split at h
    · rename_i hz
      cases h
      rw [r1.int]
      exact ⟨_, rfl, hz, fin_str e q⟩
    · cases h
  · cases h⟩
end
end FRT
end
section
set_option Elab.async false
set_option linter.all false
set_option maxRecDepth 100000
set_option maxHeartbeats 4000001
namespace FRT
open PySem L2
/-! ### what a for walks -/
structure ItOk (K : PySem.W.Frag) (G0 : Hp) (J : It) (ds : List D) : Prop where
  go : ∀ i H, Same G0 H → i < ds.length → J.go i H
  stop : ∀ H, Same G0 H → J.stop ds.length H
  yld : ∀ i H x H', Same G0 H → J.yld i H x H' → i < ds.length →
    (H' = H ∧ ∃ d, ds[i]? = some d ∧ ∀ G, Same G0 G → Same G H → Rp K G x d) ∨
    (∃ T xs l, x = .ref T ∧ H T = none ∧ H' = upd H T (.tup xs) ∧ ds[i]? = some (.tup l) ∧ ∀ G, Same G0 G → Same G H → Rps K G xs l)
def rIt (K : PySem.W.Frag) : Hp → Ro → Hp → Hp → Ro → It → List D → Prop := fun _ _ G' _ _ J ds => ItOk K G' J ds
theorem anIt {σ : St} {K : PySem.W.Frag} : Anti σ (rIt K) := fun _ _ _ _ _ _ _ _ _ _ _ h => h
def tIt (cs : List Addr) (K : PySem.W.Frag) (W : WX) (m : M (List D)) : TI := fun σ H R => ∃ G ρ, EnvR K G H σ ρ ∧ Pg cs K W σ (rIt K) G H ρ (m ρ) R
abbrev PIt (cs : List Addr) (W : WX) (X : Cx) (tg e : Expr) (m : M (List D)) : Prop := PI X tg e (tIt cs X.K W m)
theorem pit_imp {X : Cx} {tg e : Expr} {t t' : TI} (h : PI X tg e t) (i : ∀ σ H R, t' σ H R → t σ H R) : PI X tg e t' := ⟨fun pins s σ H R I q => h.run pins s σ H R I (i σ H R q)⟩
section
variable {K : PySem.W.Frag} {G : Hp} {a : Addr} {xs : List V} {ds : List D}
theorem sql_one {H : Hp} (h : H a = some (.lst xs)) : ∀ {ys}, SqL K H a ys → H a = some (.lst ys) ∨ ∃ o : Obj, K.lookup a = some o := fun {ys} q => by
  rcases q with (q | ⟨o, q⟩) | ⟨o, its, n, e, _⟩
  · exact .inl q
  · rw [h] at q; cases q
  · exact .inr ⟨o, e⟩
/-- over a list that is shared -/
theorem it_lst (h : SqL K G a xs) (r : Rps K G xs ds) : ItOk K G (Itl K a) ds where
  go := fun i H s hi => by
    have hx : i < xs.length := by rw [r.length]; exact hi
    exact ⟨xs, xs[i], s.seq h, List.getElem?_eq_getElem hx⟩
  stop := fun H s => ⟨xs, s.seq h, by rw [r.length]; exact Nat.le_refl _⟩
  yld := fun i H x H' s y hi => by
    obtain ⟨e, y⟩ := y
    have q := y xs (s.seq h)
    obtain ⟨d, h1, h2⟩ := r.get q
    exact .inl ⟨e, d, h1, fun G' s1 _ => h2.mono s1⟩
theorem it_tup (h : SqT K G a xs) (r : Rps K G xs ds) : ItOk K G (Itt K a) ds where
  go := fun i H s hi => by
    have hx : i < xs.length := by rw [r.length]; exact hi
    exact ⟨xs, xs[i], seqT_same s h, List.getElem?_eq_getElem hx⟩
  stop := fun H s => ⟨xs, seqT_same s h, by rw [r.length]; exact Nat.le_refl _⟩
  yld := fun i H x H' s y hi => by
    obtain ⟨e, y⟩ := y
    have q := y xs (seqT_same s h)
    obtain ⟨d, h1, h2⟩ := r.get q
    exact .inl ⟨e, d, h1, fun G' s1 _ => h2.mono s1⟩
def enumD : Nat → List D → List D
  | _, [] => []
  | n, d :: l => .tup [.int (n : Int), d] :: enumD (n + 1) l
theorem enumD_len : ∀ (l : List D) (n : Nat), (enumD n l).length = l.length
  | [], _ => rfl
  | _ :: l, n => congrArg (· + 1) (enumD_len l (n + 1))
theorem enumD_get : ∀ (l : List D) (n i : Nat) (d : D), l[i]? = some d → (enumD n l)[i]? = some (.tup [.int ((n + i : Nat) : Int), d])
  | [], _, _, _, h => by simp at h
  | x :: l, n, 0, d, h => by
    simp at h
    subst h
    rfl
  | x :: l, n, i + 1, d, h => by
    have q := enumD_get l (n + 1) i d (by simpa using h)
    have e : n + 1 + i = n + (i + 1) := by omega
    rw [e] at q
    exact q
theorem it_enum (h : SqL K G a xs) (r : Rps K G xs ds) : ItOk K G (Ite K a) (enumD 0 ds) where
  go := fun i H s hi => by
    have hx : i < xs.length := by rw [r.length]; rw [enumD_len] at hi; exact hi
    exact ⟨xs, xs[i], s.seq h, List.getElem?_eq_getElem hx⟩
  stop := fun H s => ⟨xs, s.seq h, by rw [r.length, enumD_len]; exact Nat.le_refl _⟩
  yld := fun i H x H' s y hi => by
    obtain ⟨T, x', e1, n, e2, y⟩ := y
    have q := y xs (s.seq h)
    obtain ⟨d, h1, h2⟩ := r.get q
    have h3 := enumD_get ds 0 i d h1
    rw [Nat.zero_add] at h3
    exact .inr ⟨T, _, _, e1, n, e2, h3, fun G' s1 _ => .cons (.int _) (.cons (h2.mono s1) .nil)⟩
def zipD : List D → List D → List D
  | x :: l, y :: m => .tup [x, y] :: zipD l m
  | _, _ => []
theorem zipD_len : ∀ (l m : List D), (zipD l m).length = min l.length m.length
  | [], m => by simp [zipD]
  | x :: l, [] => by simp [zipD]
  | x :: l, y :: m => by
    show (zipD l m).length + 1 = _
    rw [zipD_len l m]
    simp only [List.length_cons]
    omega
theorem zipD_get : ∀ (l m : List D) (i : Nat) (x y : D), l[i]? = some x → m[i]? = some y → (zipD l m)[i]? = some (.tup [x, y])
  | [], _, _, _, _, h, _ => by simp at h
  | _ :: _, [], _, _, _, _, h => by simp at h
  | a :: l, b :: m, 0, x, y, h1, h2 => by
    simp at h1 h2
    subst h1 h2
    rfl
  | a :: l, b :: m, i + 1, x, y, h1, h2 => zipD_get l m i x y (by simpa using h1) (by simpa using h2)
theorem it_zip {b : Addr} {ys : List V} {es : List D} (h : SqL K G a xs) (r : Rps K G xs ds) (h' : SqL K G b ys) (r' : Rps K G ys es) : ItOk K G (Itz K a b) (zipD ds es) where
  go := fun i H s hi => by
    rw [zipD_len] at hi
    have hx : i < xs.length := by rw [r.length]; omega
    have hy : i < ys.length := by rw [r'.length]; omega
    exact ⟨xs, ys, xs[i], ys[i], s.seq h, s.seq h', List.getElem?_eq_getElem hx, List.getElem?_eq_getElem hy⟩
  stop := fun H s => ⟨xs, ys, s.seq h, s.seq h', by rw [zipD_len, r.length, r'.length]; omega⟩
  yld := fun i H x H' s y hi => by
    obtain ⟨T, x', y', e1, n, e2, y1, y2⟩ := y
    obtain ⟨d, h1, h2⟩ := r.get (y1 xs (s.seq h))
    obtain ⟨e, h3, h4⟩ := r'.get (y2 ys (s.seq h'))
    exact .inr ⟨T, _, _, e1, n, e2, zipD_get ds es i d e h1 h3, fun G' s1 _ => .cons (h2.mono s1) (.cons (h4.mono s1) .nil)⟩
theorem it_zipT {b : Addr} {ys : List V} {es : List D} (h : SqT K G a xs) (r : Rps K G xs ds) (h' : SqT K G b ys) (r' : Rps K G ys es) : ItOk K G (RZ.ItzT K a b) (zipD ds es) where
  go := fun i H s hi => by
    rw [zipD_len] at hi
    have hx : i < xs.length := by rw [r.length]; omega
    have hy : i < ys.length := by rw [r'.length]; omega
    exact ⟨xs, ys, xs[i], ys[i], seqT_same s h, seqT_same s h', List.getElem?_eq_getElem hx, List.getElem?_eq_getElem hy⟩
  stop := fun H s => ⟨xs, ys, seqT_same s h, seqT_same s h', by rw [zipD_len, r.length, r'.length]; omega⟩
  yld := fun i H x H' s y hi => by
    obtain ⟨T, x', y', e1, n, e2, y1, y2⟩ := y
    obtain ⟨d, h1, h2⟩ := r.get (y1 xs (seqT_same s h))
    obtain ⟨e, h3, h4⟩ := r'.get (y2 ys (seqT_same s h'))
    exact .inr ⟨T, _, _, e1, n, e2, zipD_get ds es i d e h1 h3, fun G' s1 _ => .cons (h2.mono s1) (.cons (h4.mono s1) .nil)⟩
def strD (z : Str) : List D := z.cps.toList.map fun c => .str ⟨#[c]⟩
theorem it_str (z : Str) : ItOk K G (Its z) (strD z) where
  go := fun i H s hi => by
    have : i < z.cps.size := by simpa [strD] using hi
    exact this
  stop := fun H s => by
    show z.cps.size ≤ (strD z).length
    simp [strD]
  yld := fun i H x H' s y hi => by
    obtain ⟨e, c, e1, e2⟩ := y
    refine .inl ⟨e, .str ⟨#[c]⟩, ?_, fun _ _ _ => by rw [e2]; exact .str _⟩
    unfold strD
    rw [List.getElem?_map, Array.getElem?_toList, e1]
    rfl
def rngD (lo : Int) (n : Nat) : List D := (List.range n).map fun i => .int (lo + (i : Nat))
theorem it_rng (lo : Int) (n : Nat) : ItOk K G (Itr lo n) (rngD lo n) where
  go := fun i H s hi => by
    have q : i < n := by simpa [rngD] using hi
    exact q
  stop := fun H s => by
    show n ≤ (rngD lo n).length
    simp [rngD]
  yld := fun i H x H' s y hi => by
    obtain ⟨e, e2⟩ := y
    have hi' : i < n := by simpa [rngD] using hi
    refine .inl ⟨e, .int (lo + (i : Nat)), ?_, fun _ _ _ => by rw [e2]; exact .int _⟩
    unfold rngD
    rw [List.getElem?_map, List.getElem?_range hi']
    rfl
def rngC (lo c : Int) (n : Nat) : List D := (List.range n).map fun i => .int (lo + (i : Nat) * c)
theorem it_rngC (lo c : Int) (n : Nat) : ItOk K G (Itc lo c n) (rngC lo c n) where
  go := fun i H s hi => by
    have q : i < n := by simpa [rngC] using hi
    exact q
  stop := fun H s => by
    show n ≤ (rngC lo c n).length
    simp [rngC]
  yld := fun i H x H' s y hi => by
    obtain ⟨e, e2⟩ := y
    have hi' : i < n := by simpa [rngC] using hi
    refine .inl ⟨e, .int (lo + (i : Nat) * c), ?_, fun _ _ _ => by rw [e2]; exact .int _⟩
    unfold rngC
    rw [List.getElem?_map, List.getElem?_range hi']
    rfl
end
/-- how the items of data are told -/
def mitL (m : M Vd) : M (List D) := fun ρ => (m ρ).bind fun d ρ1 => match d.d with
  | .lst l => .ok l ρ1
  | .scr l => .ok l ρ1
  | _ => .bad
def mitT (m : M Vd) : M (List D) := fun ρ => (m ρ).bind fun d ρ1 => match d.d with
  | .tup l => .ok l ρ1
  | _ => .bad
def mitS (m : M Vd) : M (List D) := fun ρ => (m ρ).bind fun d ρ1 => match d with
  | .sh (.str z) => .ok (strD z) ρ1
  | _ => .bad
def mitE (m : M Vd) : M (List D) := fun ρ => (m ρ).bind fun d ρ1 => match d.d with
  | .lst l => .ok (enumD 0 l) ρ1
  | .scr l => .ok (enumD 0 l) ρ1
  | _ => .bad
def mitZ (ms : M (List D)) : M (List D) := fun ρ => (ms ρ).bind fun ds ρ1 => match ds with
  | [.lst l, .lst k] => .ok (zipD l k) ρ1
  | [.tup l, .tup k] => .ok (zipD l k) ρ1
  | _ => .bad
def mit1 (ms : M (List D)) : M (List D) := fun ρ => (ms ρ).bind fun ds ρ1 => match ds with
  | [.int j] => if -(2 ^ 62) ≤ j ∧ j < 2 ^ 62 then .ok (rngD 0 j.toNat) ρ1 else .bad
  | _ => .bad
def mit2 (ms : M (List D)) : M (List D) := fun ρ => (ms ρ).bind fun ds ρ1 => match ds with
  | [.int i, .int j] => if -(2 ^ 62) ≤ i ∧ i < 2 ^ 62 ∧ -(2 ^ 62) ≤ j ∧ j < 2 ^ 62 then .ok (rngD i (j - i).toNat) ρ1 else .bad
  | _ => .bad
def mit3 (ms : M (List D)) : M (List D) := fun ρ => (ms ρ).bind fun ds ρ1 => match ds with
  | [.int i, .int j, .int c] => if c ≠ 0 ∧ c.natAbs < 1073741824 ∧ Builtin.Range.small i j c = true ∧ 0 ≤ Builtin.Range.rangeSize i j c then .ok (rngC i c (Builtin.Range.rangeSize i j c).toNat) ρ1 else .bad
  | _ => .bad
section
variable {X : Cx} {cs : List Addr} {W : WX} {tg a b c e : Expr} {m : M Vd} {ms : M (List D)} {p pos tpos : Pos} {elts : List Expr} {kk : Nat}
theorem Rp.lst' {K : PySem.W.Frag} {G : Hp} {v : V} {l : List D} (r : Rp K G v (.lst l)) : ∃ a xs, v = .ref a ∧ SqL K G a xs ∧ Rps K G xs l := by
  cases r with
  | lst h r => exact ⟨_, _, rfl, .inl (.inl h), r⟩
theorem Rp.scr' {K : PySem.W.Frag} {G : Hp} {v : V} {l : List D} (r : Rp K G v (.scr l)) : ∃ a xs, v = .ref a ∧ SqL K G a xs ∧ Rps K G xs l := by
  cases r with
  | scr h r => exact ⟨_, _, rfl, h, r⟩
theorem Rp.tup' {K : PySem.W.Frag} {G : Hp} {v : V} {l : List D} (r : Rp K G v (.tup l)) : ∃ a xs, v = .ref a ∧ SqT K G a xs ∧ Rps K G xs l := by
  cases r with
  | tup h r => exact ⟨_, _, rfl, h, r⟩
theorem pit_L (h : PD cs W X e m) : PIt cs W X tg e (mitL m) := pit_imp (pi_list h) fun σ H R ⟨G, ρ, e0, q⟩ => ⟨G, ρ, e0, Pg.bind anIt q fun d ρ1 v G1 H1 w1 r1 h1 => by
  obtain ⟨G2, w2, _, r2⟩ := share w1 r1
  have h2 := h1 G2 w2
  split at h2
  · rename_i l hl
    rw [hl] at r2
    obtain ⟨a, xs, rfl, ha, ra⟩ := r2.lst'
    exact ⟨a, rfl, ⟨xs, w2.env.same.seq ha⟩, h2 _ G2 H1 (.refl w2.env) (it_lst ha ra)⟩
  · rename_i l hl
    rw [hl] at r2
    obtain ⟨a, xs, rfl, ha, ra⟩ := r2.scr'
    exact ⟨a, rfl, ⟨xs, w2.env.same.seq ha⟩, h2 _ G2 H1 (.refl w2.env) (it_lst ha ra)⟩
  · exact h2.elim⟩
theorem pit_T (h : PD cs W X e m) : PIt cs W X tg e (mitT m) := pit_imp (pi_tup h) fun σ H R ⟨G, ρ, e0, q⟩ => ⟨G, ρ, e0, Pg.bind anIt q fun d ρ1 v G1 H1 w1 r1 h1 => by
  obtain ⟨G2, w2, _, r2⟩ := share w1 r1
  have h2 := h1 G2 w2
  split at h2
  · rename_i l hl
    rw [hl] at r2
    obtain ⟨a, xs, rfl, ha, ra⟩ := r2.tup'
    exact ⟨a, rfl, ⟨xs, seqT_same w2.env.same ha⟩, h2 _ G2 H1 (.refl w2.env) (it_tup ha ra)⟩
  · exact h2.elim⟩
theorem pit_S (h : PD cs W X e m) : PIt cs W X tg e (mitS m) := pit_imp (pi_str h) fun σ H R ⟨G, ρ, e0, q⟩ => ⟨G, ρ, e0, Pg.bind anIt q fun d ρ1 v G1 H1 w1 r1 h1 => by
  have h2 := h1 G1 w1
  split at h2
  · cases (show Rp X.K G1 v (.str _) from r1)
    exact ⟨_, rfl, h2 _ G1 H1 (.refl w1.env) (it_str _)⟩
  · exact h2.elim⟩
theorem pit_E (hg : Gl X "enumerate") (hm : X.mg "enumerate" = none) (h : PD cs W X e m) (hs : starEach [e] X.env = (false, eval e X.env) :: starEach [] X.env := by rfl) :
    PIt cs W X (.Tuple elts kk tpos) (.Call (.Name "enumerate" p) [e] [] pos) (mitE m) := pit_imp (pi_enum hg hm (pl_cons h pl_nil hs) hs) fun σ H R ⟨G, ρ, e0, q⟩ => ⟨G, ρ, e0, by
  dsimp only [mitE] at q
  dsimp only [mcons, mnil]
  cases hmm : m ρ with
  | bad => rw [hmm] at q; exact q
  | exc x ρ' => rw [hmm] at q; exact q
  | ok d ρ1 =>
    rw [hmm] at q
    intro vs G1 H1 w1 r1
    dsimp only [Rs.bind] at q
    cases r1 with
    | cons r0 rn =>
      cases rn
      split at q
      · rename_i l hl
        rw [hl] at r0
        obtain ⟨a, xs, rfl, ha, ra⟩ := r0.lst'
        exact ⟨a, xs, rfl, w1.env.same.seq ha, q _ G1 H1 w1 (it_enum ha ra)⟩
      · rename_i l hl
        rw [hl] at r0
        obtain ⟨a, xs, rfl, ha, ra⟩ := r0.scr'
        exact ⟨a, xs, rfl, w1.env.same.seq ha, q _ G1 H1 w1 (it_enum ha ra)⟩
      · exact q.elim⟩
theorem pit_Z (hg : Gl X "zip") (hm : X.mg "zip" = none) (h : PL cs W X [a, b] ms) (hs : starEach [a, b] X.env = (false, eval a X.env) :: starEach [b] X.env := by rfl) (hpl : (backTo pos (starEach [b] X.env)).any (·.1) = false := by rfl) :
    PIt cs W X (.Tuple elts kk tpos) (.Call (.Name "zip" p) [a, b] [] pos) (mitZ ms) := pit_imp (RZ.pi_zipA hg hm h hs hpl) fun σ H R ⟨G, ρ, e0, q⟩ => ⟨G, ρ, e0, Pg.bind anIt q fun ds ρ1 vs G1 H1 w1 r1 h1 => by
  have h2 := h1 G1 w1
  split at h2
  · cases r1 with
    | cons ra rb =>
      cases rb with
      | cons rb rn =>
        cases rn
        obtain ⟨a, xs, rfl, ha, ra⟩ := ra.lst'
        obtain ⟨b, ys, rfl, hb, rb⟩ := rb.lst'
        exact ⟨a, b, xs, ys, rfl, .inl ⟨w1.env.same.seq ha, w1.env.same.seq hb, h2 _ G1 H1 (.refl w1.env) (it_zip ha ra hb rb)⟩⟩
  · cases r1 with
    | cons ra rb =>
      cases rb with
      | cons rb rn =>
        cases rn
        obtain ⟨a, xs, rfl, ha, ra⟩ := ra.tup'
        obtain ⟨b, ys, rfl, hb, rb⟩ := rb.tup'
        exact ⟨a, b, xs, ys, rfl, .inr ⟨seqT_same w1.env.same ha, seqT_same w1.env.same hb, h2 _ G1 H1 (.refl w1.env) (it_zipT ha ra hb rb)⟩⟩
  · exact h2.elim⟩
theorem pit_1 (hg : Gl X "range") (hm : X.mg "range" = none) (h : PL cs W X [a] ms) (hs : starEach [a] X.env = [(false, eval a X.env)] := by rfl) : PIt cs W X tg (.Call (.Name "range" p) [a] [] pos) (mit1 ms) :=
  pit_imp (pi_range1 hg hm h hs) fun σ H R ⟨G, ρ, e0, q⟩ => ⟨G, ρ, e0, Pg.bind anIt q fun ds ρ1 vs G1 H1 w1 r1 h1 => by
  have h2 := h1 G1 w1
  split at h2
  · split at h2
    · rename_i hz
      cases r1 with
      | cons ra rn =>
        cases rn
        cases ra
        exact ⟨_, rfl, hz.1, hz.2, h2 _ G1 H1 (.refl w1.env) (it_rng _ _)⟩
    · exact h2.elim
  · exact h2.elim⟩
theorem pit_2 (hg : Gl X "range") (hm : X.mg "range" = none) (h : PL cs W X [a, b] ms) (hs : starEach [a, b] X.env = [(false, eval a X.env), (false, eval b X.env)] := by rfl) (hs2 : starEach [b] X.env = [(false, eval b X.env)] := by rfl) :
    PIt cs W X tg (.Call (.Name "range" p) [a, b] [] pos) (mit2 ms) :=
  pit_imp (pi_range2 hg hm h hs hs2) fun σ H R ⟨G, ρ, e0, q⟩ => ⟨G, ρ, e0, Pg.bind anIt q fun ds ρ1 vs G1 H1 w1 r1 h1 => by
  have h2 := h1 G1 w1
  split at h2
  · split at h2
    · rename_i hz
      cases r1 with
      | cons ra rn =>
        cases rn with
        | cons rb rn =>
          cases rn
          cases ra
          cases rb
          exact ⟨_, _, rfl, hz, h2 _ G1 H1 (.refl w1.env) (it_rng _ _)⟩
    · exact h2.elim
  · exact h2.elim⟩
theorem pit_3 (hg : Gl X "range") (hm : X.mg "range" = none) (h : PL cs W X [a, b, c] ms) (hs : starEach [a, b, c] X.env = (false, eval a X.env) :: starEach [b, c] X.env := by rfl) (hpl : (backTo pos (starEach [b, c] X.env)).any (·.1) = false := by rfl) :
    PIt cs W X tg (.Call (.Name "range" p) [a, b, c] [] pos) (mit3 ms) :=
  pit_imp (pi_range3 hg hm h hs hpl) fun σ H R ⟨G, ρ, e0, q⟩ => ⟨G, ρ, e0, Pg.bind anIt q fun ds ρ1 vs G1 H1 w1 r1 h1 => by
  have h2 := h1 G1 w1
  split at h2
  · split at h2
    · rename_i hz
      cases r1 with
      | cons ra rn =>
        cases rn with
        | cons rb rn =>
          cases rn with
          | cons rc rn =>
            cases rn
            cases ra
            cases rb
            cases rc
            exact ⟨_, _, _, _, rfl, ⟨hz.1, hz.2.1, hz.2.2.1, (Int.toNat_of_nonneg hz.2.2.2).symm⟩, h2 _ G1 H1 (.refl w1.env) (it_rngC _ _ _)⟩
    · exact h2.elim
  · exact h2.elim⟩
end
end FRT
end
section
set_option Elab.async false
set_option linter.all false
set_option maxRecDepth 100000
set_option maxHeartbeats 4000001
namespace FRT
open PySem L2
/-! ### targets -/
def Rest (idx : List Nat) (σ σ' : St) : Prop := σ'.length = σ.length ∧ ∀ j, j ∉ idx → σ'[j]? = σ[j]?
theorem Rest.refl {σ : St} : Rest [] σ σ := ⟨rfl, fun _ _ => rfl⟩
def tG (K : PySem.W.Frag) (idx : List Nat) (f : D → Ro → Option Ro) : TG := fun v σ H Q => ∃ G ρ d ρ', EnvR K G H σ ρ ∧ Rp K G v d ∧ f d ρ = some ρ' ∧ ∀ σ', EnvR K G H σ' ρ' → Mv H σ ρ σ' ρ' → Rest idx σ σ' → Q σ' H
def tGs (K : PySem.W.Frag) (idx : List Nat) (f : List D → Ro → Option Ro) : TGs := fun vs σ H Q => ∃ G ρ ds ρ', EnvR K G H σ ρ ∧ Rps K G vs ds ∧ f ds ρ = some ρ' ∧ ∀ σ', EnvR K G H σ' ρ' → Mv H σ ρ σ' ρ' → Rest idx σ σ' → Q σ' H
abbrev PGd (X : Cx) (tg : Expr) (idx : List Nat) (f : D → Ro → Option Ro) : Prop := PG X tg (tG X.K idx f)
abbrev PGsd (X : Cx) (tg : List Expr) (idx : List Nat) (f : List D → Ro → Option Ro) : Prop := PGs X tg (tGs X.K idx f)
def fNm (i : Nat) : D → Ro → Option Ro := fun d ρ => match ρ[i]? with
  | none => none
  | some (.bor _) => none
  | some _ => some (ρ.set i (.sh d))
def fNil : List D → Ro → Option Ro := fun ds ρ => match ds with
  | [] => some ρ
  | _ => none
def fCons (f : D → Ro → Option Ro) (g : List D → Ro → Option Ro) : List D → Ro → Option Ro := fun ds ρ => match ds with
  | [] => none
  | d :: ds => (f d ρ).bind fun ρ1 => g ds ρ1
def fTup (n : Nat) (g : List D → Ro → Option Ro) : D → Ro → Option Ro := fun d ρ => match d with
  | .tup l => if l.length = n then g l ρ else none
  | _ => none
theorem pg_imp {X : Cx} {e : Expr} {t t' : TG} (h : PG X e t) (i : ∀ v σ H Q, t' v σ H Q → t v σ H Q) : PG X e t' := ⟨fun pins s σ H v u Q I r q => h.run pins s σ H v u Q I r (i v σ H Q q)⟩
theorem pgs_imp {X : Cx} {e : List Expr} {t t' : TGs} (h : PGs X e t) (i : ∀ v σ H Q, t' v σ H Q → t v σ H Q) : PGs X e t' := ⟨fun pins s σ H v u Q I r q => h.run pins s σ H v u Q I r (i v σ H Q q)⟩
section
variable {K : PySem.W.Frag} {G H : Hp} {σ : St} {ρ : Ro} {v : V} {i : Nat}
/-- a slot set to a shared value -/
theorem set_env {s : Sl} (e : EnvR K G H σ ρ) (hi : i < ρ.length) (hs : s.owned = none) (r : SlR K G H (some v) s) : EnvR K G H (σ.set i (some v)) (ρ.set i s) := by
  have hl := e.len
  have back : ∀ (j : Nat) (t : Sl), i ≠ j → (ρ.set i s)[j]? = some t → ρ[j]? = some t := fun j t n h => by rw [List.getElem?_set_ne n] at h; exact h
  have own : ∀ (j : Nat) (t : Sl) (l : List D), (ρ.set i s)[j]? = some t → t.owned = some l → i ≠ j := fun j t l h h2 z => by
    subst z
    rw [List.getElem?_set] at h
    simp only [if_pos] at h
    split at h <;> (cases h; try (rw [hs] at h2; cases h2))
  refine ⟨e.same, by rw [List.length_set, List.length_set]; exact hl, fun j w t h1 h2 => ?_, fun j k a t u l m h1 h2 h3 h4 h5 h6 => ?_⟩
  · by_cases ij : i = j
    · subst ij
      rw [List.getElem?_set] at h1 h2
      simp only [if_pos] at h1 h2
      rw [if_pos (by omega)] at h1
      rw [if_pos hi] at h2
      cases h1
      cases h2
      exact r
    · rw [List.getElem?_set_ne ij] at h1 h2
      exact e.sl j w t h1 h2
  · have n1 := own j t l h3 h5
    have n2 := own k u m h4 h6
    rw [List.getElem?_set_ne n1] at h1 h3
    rw [List.getElem?_set_ne n2] at h2 h4
    exact e.dis j k a t u l m h1 h2 h3 h4 h5 h6
theorem set_own {s : Sl} (hs : s.owned = none) {x : Addr} (h : OwnA (σ.set i (some v)) (ρ.set i s) x) : OwnA σ ρ x := by
  obtain ⟨j, t, l, h1, h2, h3⟩ := h
  by_cases ij : i = j
  · subst ij
    rw [List.getElem?_set] at h2
    simp only [if_pos] at h2
    split at h2
    · cases h2; rw [hs] at h3; cases h3
    · cases h2
  · rw [List.getElem?_set_ne ij] at h1 h2
    exact ⟨j, t, l, h1, h2, h3⟩
theorem set_mv {s : Sl} (hs : s.owned = none) (hb : ∀ l, ρ[i]? ≠ some (.bor l)) : Mv H σ ρ (σ.set i (some v)) (ρ.set i s) :=
  ⟨List.length_set, fun x h => .inl (set_own hs h), fun j l h => by
    have ij : i ≠ j := fun z => by subst z; exact hb l h
    rw [List.getElem?_set_ne ij, List.getElem?_set_ne ij]
    exact ⟨rfl, l, h⟩⟩
theorem set_rest : Rest [i] σ (σ.set i (some v)) := ⟨List.length_set, fun j h => by
  have ij : i ≠ j := fun z => h (by rw [z]; exact List.mem_singleton.mpr rfl)
  rw [List.getElem?_set_ne ij]⟩
theorem fNm_ok {d : D} {ρ' : Ro} (h : fNm i d ρ = some ρ') : i < ρ.length ∧ (∀ l, ρ[i]? ≠ some (.bor l)) ∧ ρ' = ρ.set i (.sh d) := by
  unfold fNm at h
  split at h
  · cases h
  · cases h
  · rename_i s nb q
    cases h
    exact ⟨(List.getElem?_eq_some_iff.mp q).1, fun l z => by rw [q] at z; cases z; exact nb l rfl, rfl⟩
end
section
variable {X : Cx} {e : Expr} {es : List Expr} {f : D → Ro → Option Ro} {g : List D → Ro → Option Ro} {ix iy : List Nat} {pos : Pos} {k n : Nat}
theorem gd_nm (i : Nat) {x : Str} (hN : X.N.Nodup) (hi : X.N[i]? = some x) (hx : Loc X.env.scope x) (hf : X.fn x = true ∨ X.env.scope.names.lookup x = some .local := by first | exact .inl rfl | exact .inr rfl | assumption) : PGd X (.Name x pos) [i] (fNm i) :=
  pg_imp (pg_name hN hi hx hf) fun v σ H Q ⟨G, ρ, d, ρ', e0, r, h, q⟩ => by
    obtain ⟨hl, hb, rfl⟩ := fNm_ok h
    exact q _ (set_env e0 hl rfl (.sh r)) (set_mv rfl hb) set_rest
theorem gd_nil : PGsd X [] [] fNil := pgs_imp pgs_nil fun v σ H Q ⟨G, ρ, ds, ρ', e0, r, h, q⟩ => by
  unfold fNil at h
  split at h
  · cases h
    cases r
    exact ⟨rfl, q σ e0 .refl .refl⟩
  · cases h
theorem gd_cons (h1 : PGd X e ix f) (h2 : PGsd X es iy g)
    (hs : (assignEach (e :: es) X.env).map (·.2) = assign e X.env :: (assignEach es X.env).map (·.2) := by rfl) : PGsd X (e :: es) (ix ++ iy) (fCons f g) :=
  pgs_imp (pgs_cons h1 h2 hs) fun v σ H Q ⟨G, ρ, ds, ρ', e0, r, h, q⟩ => by
    cases r with
    | nil => cases h
    | @cons v vs d ds r0 rs =>
      have h' : (f d ρ).bind (fun ρ1 => g ds ρ1) = some ρ' := h
      cases g1 : f d ρ with
      | none => rw [g1] at h'; cases h'
      | some ρ1 =>
        rw [g1] at h'
        exact ⟨v, vs, rfl, G, ρ, d, ρ1, e0, r0, g1, fun σ1 e1 m1 t1 => ⟨G, ρ1, ds, ρ', e1, rs, h', fun σ2 e2 m2 t2 => q σ2 e2 (m1.trans m2 fun _ z => z) ⟨t2.1.trans t1.1, fun j hj => by
          rw [t2.2 j (fun z => hj (List.mem_append_right _ z)), t1.2 j (fun z => hj (List.mem_append_left _ z))]⟩⟩⟩
theorem gd_tup (hc : X.calm = true) (h : PGsd X es ix g) (hl : (assignEach es X.env).length = n := by rfl) (hs : List.findIdx? (fun x => x.fst) (assignEach es X.env) = none := by rfl) : PGd X (.Tuple es k pos) ix (fTup n g) :=
  pg_imp (pg_tup hc h hl hs) fun v σ H Q ⟨G, ρ, d, ρ', e0, r, h, q⟩ => by
    unfold fTup at h
    split at h
    · split at h
      · rename_i hz
        obtain ⟨a, xs, rfl, ha, ra⟩ := r.tup'
        exact ⟨a, xs, rfl, seqT_same e0.same ha, by rw [ra.length]; exact hz, G, ρ, _, ρ', e0, ra, h, q⟩
      · cases h
    · cases h
end
/-! ### comprehensions -/
def wipeR (ρ : Ro) : List Nat → Ro
  | [] => ρ
  | v :: vs => (wipeR ρ vs).set v .un
def restR (ρ1 : Ro) : List Nat → Ro → Ro
  | [], ρ => ρ
  | v :: vs, ρ => (restR ρ1 vs ρ).set v (ρ1.getD v .un)
theorem wipeR_len (ρ : Ro) : ∀ vs, (wipeR ρ vs).length = ρ.length
  | [] => rfl
  | v :: vs => by unfold wipeR; rw [List.length_set, wipeR_len ρ vs]
theorem restR_len (ρ1 ρ : Ro) : ∀ vs, (restR ρ1 vs ρ).length = ρ.length
  | [] => rfl
  | v :: vs => by unfold restR; rw [List.length_set, restR_len ρ1 ρ vs]
theorem wipeR_out {ρ : Ro} {j : Nat} : ∀ {vs : List Nat}, j ∉ vs → (wipeR ρ vs)[j]? = ρ[j]?
  | [], _ => rfl
  | v :: vs, h => by
    unfold wipeR
    rw [List.getElem?_set_ne (fun z => h (by rw [z]; exact List.mem_cons_self ..)), wipeR_out (fun z => h (List.mem_cons_of_mem _ z))]
theorem wipeR_in {ρ : Ro} {j : Nat} {s : Sl} : ∀ {vs : List Nat}, j ∈ vs → (wipeR ρ vs)[j]? = some s → s = .un
  | [], h, _ => by cases h
  | v :: vs, h, e => by
    unfold wipeR at e
    by_cases hv : v = j
    · subst hv
      rw [List.getElem?_set] at e
      simp only [if_pos] at e
      split at e <;> first | (cases e; rfl) | cases e
    · rw [List.getElem?_set_ne hv] at e
      rcases List.mem_cons.mp h with z | z
      · exact absurd z.symm hv
      · exact wipeR_in z e
theorem restR_out {ρ1 ρ : Ro} {j : Nat} : ∀ {vs : List Nat}, j ∉ vs → (restR ρ1 vs ρ)[j]? = ρ[j]?
  | [], _ => rfl
  | v :: vs, h => by
    unfold restR
    rw [List.getElem?_set_ne (fun z => h (by rw [z]; exact List.mem_cons_self ..)), restR_out (fun z => h (List.mem_cons_of_mem _ z))]
theorem restR_in {ρ1 ρ : Ro} {j : Nat} (hl : ρ.length = ρ1.length) : ∀ {vs : List Nat}, j ∈ vs → (restR ρ1 vs ρ)[j]? = ρ1[j]?
  | [], h => by cases h
  | v :: vs, h => by
    unfold restR
    by_cases hv : v = j
    · subst hv
      rw [List.getElem?_set]
      simp only [if_pos]
      rw [restR_len, hl]
      by_cases hz : v < ρ1.length
      · rw [if_pos hz, List.getElem?_eq_getElem hz, List.getD_eq_getElem?_getD, List.getElem?_eq_getElem hz]
        rfl
      · rw [if_neg hz, List.getElem?_eq_none (by omega)]
    · rw [List.getElem?_set_ne hv]
      rcases List.mem_cons.mp h with z | z
      · exact absurd z.symm hv
      · exact restR_in hl z
theorem wipe_out {σ : St} {j : Nat} : ∀ {vs : List Nat}, j ∉ vs → (wipe σ vs)[j]? = σ[j]?
  | [], _ => rfl
  | v :: vs, h => by
    unfold wipe
    rw [List.getElem?_set_ne (fun z => h (by rw [z]; exact List.mem_cons_self ..)), wipe_out (fun z => h (List.mem_cons_of_mem _ z))]
theorem wipe_in {σ : St} {j : Nat} {s : Option V} : ∀ {vs : List Nat}, j ∈ vs → (wipe σ vs)[j]? = some s → s = none
  | [], h, _ => by cases h
  | v :: vs, h, e => by
    unfold wipe at e
    by_cases hv : v = j
    · subst hv
      rw [List.getElem?_set] at e
      simp only [if_pos] at e
      split at e <;> first | (cases e; rfl) | cases e
    · rw [List.getElem?_set_ne hv] at e
      rcases List.mem_cons.mp h with z | z
      · exact absurd z.symm hv
      · exact wipe_in z e
theorem wipe_eq {σ σ2 : St} {vs : List Nat} (hl : σ2.length = σ.length) (h : ∀ j, j ∉ vs → σ2[j]? = σ[j]?) : wipe σ2 vs = wipe σ vs := by
  apply List.ext_getElem?
  intro j
  by_cases hj : j ∈ vs
  · cases e : (wipe σ2 vs)[j]? with
    | none =>
      have := List.getElem?_eq_none_iff.mp e
      rw [wipe_length, hl] at this
      rw [List.getElem?_eq_none (by rw [wipe_length]; exact this)]
    | some s =>
      have q := (List.getElem?_eq_some_iff.mp e).1
      rw [wipe_length, hl] at q
      have q2 : j < (wipe σ vs).length := by rw [wipe_length]; exact q
      have e2 := List.getElem?_eq_getElem q2
      rw [wipe_in hj e, e2, wipe_in hj e2]
  · rw [wipe_out hj, wipe_out hj, h j hj]
theorem wipe_wipe {σ : St} {vs : List Nat} : wipe (wipe σ vs) vs = wipe σ vs := wipe_eq (wipe_length σ vs) fun j h => wipe_out h
def cLoop (f : D → Ro → Option Ro) (mt : M Bool) (me : M Vd) (vs : List Nat) : List D → List D → Ro → Rs (List D)
  | [], acc, ρ => .ok acc ρ
  | d :: l, acc, ρ => match f d ρ with
    | none => .bad
    | some ρa => (match mt ρa with
      | .ok true ρb => (match me ρb with
        | .ok y ρc => if acc.length < sizeLine then cLoop f mt me vs l (acc ++ [y.d]) (wipeR ρc vs) else .bad
        | _ => .bad)
      | .ok false ρb => cLoop f mt me vs l acc (wipeR ρb vs)
      | _ => .bad)
def mcomp (mi : M (List D)) (f : D → Ro → Option Ro) (mt : M Bool) (me : M Vd) (vs : List Nat) : M Vd := fun ρ => (mi ρ).bind fun items ρ1 => match cLoop f mt me vs items [] (wipeR ρ1 vs) with
  | .ok acc ρ2 => .ok (.fr acc) (restR ρ1 vs ρ2)
  | _ => .bad
section
variable {K : PySem.W.Frag} {G H G1 H1 : Hp} {σ σ1 : St} {ρ ρ1 : Ro} {vs : List Nat} {D0 : Addr} {o : HO}
/-- an object that is nobody's, laid behind the beginning, is changed -/
theorem Way.poke (w : Way K G H σ ρ G1 H1 σ1 ρ1) (h0 : H D0 = none) (hg : G1 D0 = none) (ho : ¬ OwnA σ1 ρ1 D0) : Way K G H σ ρ G1 (upd H1 D0 o) σ1 ρ1 := by
  refine ⟨⟨w.st.g, w.st.new, fun x u q n => ?_, fun x q => ?_⟩, w.mv, ⟨fun b u q => ?_, w.env.len, fun i v s h1 h2 => ?_, w.env.dis⟩⟩
  · rw [upd_ne (ne_of_none q h0)]
    exact w.st.fr x u q n
  · by_cases hx : x = D0
    · rw [hx]; exact h0
    · rw [upd_ne hx] at q; exact w.st.th x q
  · rw [upd_ne (ne_of_none q hg)]
    exact w.env.same b u q
  · have q := w.env.sl i v s h1 h2
    cases q with
    | un => exact .un
    | sh r => exact .sh r
    | own g x r => exact .own g (by rw [upd_ne (fun z => ho (by rw [← z]; exact ⟨i, _, _, h1, h2, rfl⟩))]; exact x) r
    | bor g x r => exact .bor g (by rw [upd_ne (fun z => ho (by rw [← z]; exact ⟨i, _, _, h1, h2, rfl⟩))]; exact x) r
theorem own_wipe {x : Addr} (h : OwnA (wipe σ vs) (wipeR ρ vs) x) : OwnA σ ρ x ∧ ∃ i s l, i ∉ vs ∧ σ[i]? = some (some (.ref x)) ∧ ρ[i]? = some s ∧ s.owned = some l := by
  obtain ⟨i, s, l, h1, h2, h3⟩ := h
  by_cases hi : i ∈ vs
  · have := wipeR_in hi h2
    subst this
    cases h3
  · rw [wipe_out hi] at h1
    rw [wipeR_out hi] at h2
    exact ⟨⟨i, s, l, h1, h2, h3⟩, i, s, l, hi, h1, h2, h3⟩
theorem wipe_env (e : EnvR K G H σ ρ) : EnvR K G H (wipe σ vs) (wipeR ρ vs) := by
  refine ⟨e.same, by rw [wipe_length, wipeR_len]; exact e.len, fun i v s h1 h2 => ?_, fun i j a s t l m h1 h2 h3 h4 h5 h6 => ?_⟩
  · by_cases hi : i ∈ vs
    · rw [wipeR_in hi h2]; exact .un
    · rw [wipe_out hi] at h1
      rw [wipeR_out hi] at h2
      exact e.sl i v s h1 h2
  · have ni : i ∉ vs := fun z => by rw [wipeR_in z h3] at h5; cases h5
    have nj : j ∉ vs := fun z => by rw [wipeR_in z h4] at h6; cases h6
    rw [wipe_out ni] at h1
    rw [wipe_out nj] at h2
    rw [wipeR_out ni] at h3
    rw [wipeR_out nj] at h4
    exact e.dis i j a s t l m h1 h2 h3 h4 h5 h6
/-- the slots of the block are wiped behind a turn -/
theorem wipe_way (w : Way K G H (wipe σ vs) ρ G1 H1 σ1 ρ1) (hr : ∀ (i : Nat) l, ρ[i]? = some (.bor l) → i ∉ vs) (hw : wipe σ1 vs = wipe σ vs) : Way K G H (wipe σ vs) ρ G1 H1 (wipe σ vs) (wipeR ρ1 vs) := by
  have e := wipe_env (vs := vs) w.env
  rw [hw] at e
  refine ⟨w.st, ⟨by rw [wipeR_len]; exact w.mv.len, fun x h => ?_, fun i l h => ?_⟩, e⟩
  · rw [← hw] at h
    exact w.mv.own x (own_wipe h).1
  · obtain ⟨e1, l', e2⟩ := w.mv.bor i l h
    exact ⟨rfl, l', by rw [wipeR_out (hr i l h)]; exact e2⟩
/-- the end: the outer slots again -/
theorem rest_way (e0 : EnvR K G H σ ρ) (w : Way K G H (wipe σ vs) (wipeR ρ vs) G1 H1 (wipe σ vs) ρ1) : Way K G H σ ρ G1 H1 σ (restR ρ vs ρ1) := by
  have hl : ρ1.length = ρ.length := by rw [w.mv.len, wipeR_len]
  have hst : Step G H (OwnA σ ρ) G1 H1 := ⟨w.st.g, fun x o q n => (w.st.new x o q n).imp id fun z => (own_wipe z).1, fun x o q n => w.st.fr x o q fun z => n (own_wipe z).1, w.st.th⟩
  have old : ∀ (i : Nat) (a : Addr) (s : Sl) (l : List D), i ∈ vs → σ[i]? = some (some (.ref a)) → ρ[i]? = some s → s.owned = some l → ¬ OwnA (wipe σ vs) (wipeR ρ vs) a := fun i a s l hi h1 h2 h3 z => by
    obtain ⟨_, j, t, m, hj, q1, q2, q3⟩ := own_wipe z
    have := e0.dis i j a s t l m h1 q1 h2 q2 h3 q3
    subst this
    exact hj hi
  refine ⟨hst, ⟨by rw [restR_len]; exact hl, fun x h => ?_, fun i l h => ⟨rfl, ?_⟩⟩, ⟨w.env.same, by rw [restR_len, hl]; exact e0.len, fun i v s h1 h2 => ?_, fun i j a s t l m h1 h2 h3 h4 h5 h6 => ?_⟩⟩
  · obtain ⟨i, s, l, h1, h2, h3⟩ := h
    by_cases hi : i ∈ vs
    · rw [restR_in hl hi] at h2
      exact .inl ⟨i, s, l, h1, h2, h3⟩
    · rw [restR_out hi] at h2
      rcases w.mv.own x ⟨i, s, l, by rw [wipe_out hi]; exact h1, h2, h3⟩ with z | z
      · exact .inl (own_wipe z).1
      · exact .inr z
  · by_cases hi : i ∈ vs
    · exact ⟨l, by rw [restR_in hl hi]; exact h⟩
    · obtain ⟨_, l', e2⟩ := w.mv.bor i l (by rw [wipeR_out hi]; exact h)
      exact ⟨l', by rw [restR_out hi]; exact e2⟩
  · by_cases hi : i ∈ vs
    · rw [restR_in hl hi] at h2
      have q := e0.sl i v s h1 h2
      cases q with
      | un => exact .un
      | sh r => exact .sh (r.mono w.st.g)
      | @own a vs' l g x r =>
        have no := old i a _ l hi h1 h2 rfl
        refine .own ?_ (w.st.fr _ _ x no) (r.mono w.st.g)
        cases z : G1 a with
        | none => rfl
        | some u =>
          rcases w.st.new a u z g with z2 | z2
          · rw [x] at z2; cases z2
          · exact absurd z2 no
      | @bor a vs' l g x r =>
        have no := old i a _ l hi h1 h2 rfl
        refine .bor ?_ (w.st.fr _ _ x no) (r.mono w.st.g)
        cases z : G1 a with
        | none => rfl
        | some u =>
          rcases w.st.new a u z g with z2 | z2
          · rw [x] at z2; cases z2
          · exact absurd z2 no
    · rw [restR_out hi] at h2
      exact w.env.sl i v s (by rw [wipe_out hi]; exact h1) h2
  · by_cases hi : i ∈ vs
    · rw [restR_in hl hi] at h3
      by_cases hj : j ∈ vs
      · rw [restR_in hl hj] at h4
        exact e0.dis i j a s t l m h1 h2 h3 h4 h5 h6
      · rw [restR_out hj] at h4
        rcases w.mv.own a ⟨j, t, m, by rw [wipe_out hj]; exact h2, h4, h6⟩ with z | z
        · exact absurd z (old i a s l hi h1 h3 h5)
        · obtain ⟨_, xs, q⟩ := e0.ownH ⟨i, s, l, h1, h3, h5⟩
          rw [z] at q; cases q
    · rw [restR_out hi] at h3
      by_cases hj : j ∈ vs
      · rw [restR_in hl hj] at h4
        rcases w.mv.own a ⟨i, s, l, by rw [wipe_out hi]; exact h1, h3, h5⟩ with z | z
        · exact absurd z (old j a t m hj h2 h4 h6)
        · obtain ⟨_, xs, q⟩ := e0.ownH ⟨j, t, m, h2, h4, h6⟩
          rw [z] at q; cases q
      · rw [restR_out hj] at h4
        exact w.env.dis i j a s t l m (by rw [wipe_out hi]; exact h1) (by rw [wipe_out hj]; exact h2) h3 h4 h5 h6
end
end FRT
end
section
set_option Elab.async false
set_option linter.all false
set_option maxRecDepth 100000
set_option maxHeartbeats 4000001
namespace FRT
open PySem L2
abbrev W0 : WX := fun _ _ _ _ => False
section
variable {K : PySem.W.Frag} {G H G1 H1 G2 H2 : Hp} {σ σ1 σ2 : St} {ρ ρ1 ρ2 : Ro} {vs idx : List Nat}
/-- a way may start where G has grown by what was new -/
theorem Way.out {x : Addr} (h : ¬ OwnA σ1 ρ1 x) (w2 : Way K G1 H1 σ1 ρ1 G2 H2 σ2 ρ2) (h1 : ∃ o, H1 x = some o) (g1 : G1 x = none) :
    G2 x = none ∧ ¬ OwnA σ2 ρ2 x ∧ H2 x = H1 x := by
  obtain ⟨o, ho⟩ := h1
  refine ⟨?_, fun z => ?_, ?_⟩
  · cases z : G2 x with
    | none => rfl
    | some u =>
      rcases w2.st.new x u z g1 with q | q
      · rw [ho] at q; cases q
      · exact absurd q h
  · rcases w2.mv.own x z with q | q
    · exact h q
    · rw [ho] at q; cases q
  · rw [ho]
    exact w2.st.fr x o ho h
end
theorem mv_tgt {K : PySem.W.Frag} {G H : Hp} {σ σ' : St} {ρ ρ' : Ro} (e : EnvR K G H σ' ρ') (m : Mv H σ ρ σ' ρ') : Way K G H σ ρ G H σ' ρ' := ⟨.refl, m, e⟩
section
variable {cs : List Addr} {K : PySem.W.Frag} {W : WX} {mi : M (List D)} {f : D → Ro → Option Ro} {mt : M Bool} {me : M Vd} {vs idx : List Nat}
theorem comp_imp (hi : ∀ i ∈ idx, i ∈ vs) {σ : St} {H : Hp} {Q : VK} (h : tD cs K W (mcomp mi f mt me vs) σ H Q) : tLc (tIt cs K W mi) (tG K idx f) (tBl cs K W0 mt) (tD cs K W0 me) vs σ H Q := by
  obtain ⟨G, ρ, e, h⟩ := h
  refine ⟨G, ρ, e, Pg.bind anE h fun items ρ1 J G1 H1 w1 hJ h1 => ?_⟩
  replace h1 := h1 G1 w1
  intro D0 nD
  have gD : G1 D0 = none := w1.env.same.free nD
  have nO : ¬ OwnA σ ρ1 D0 := fun z => by
    obtain ⟨_, xs, q⟩ := w1.env.ownH z
    rw [nD] at q; cases q
  -- the rest of the loop gives the end
  let Inv : Nat → Hp → Prop := fun i H' => ∃ G' ρw acc av, Way K G1 H1 (wipe σ vs) (wipeR ρ1 vs) G' H' (wipe σ vs) ρw ∧ G' D0 = none ∧ ¬ OwnA (wipe σ vs) ρw D0 ∧ H' D0 = some (.lst av) ∧ Rps K G' av acc ∧
    cLoop f mt me vs (items.drop i) acc ρw = cLoop f mt me vs items [] (wipeR ρ1 vs)
  have nOw : ¬ OwnA (wipe σ vs) (wipeR ρ1 vs) D0 := fun z => nO (own_wipe z).1
  have i0 : Inv 0 (upd H1 D0 (.lst [])) := ⟨G1, wipeR ρ1 vs, [], [], (Way.refl (wipe_env w1.env)).poke nD gD nOw, gD, nOw, upd_same, .nil, rfl⟩
  refine ⟨fun i m H' => m = items.length - i ∧ i ≤ items.length ∧ Inv i H', ⟨_, rfl, Nat.zero_le _, i0⟩, ?_⟩
  rintro i m H' ⟨rfl, hle, G', ρw, acc, av, w, g', no, hD, ra, hl⟩
  have s1 : Same G1 H' := w.st.g.trans w.env.same
  by_cases hlt : i < items.length
  · refine .inr ⟨hJ.go i H' s1 hlt, Inv (i + 1), fun H2 q => ⟨_, by omega, rfl, hlt, q⟩, fun x H2 hy => ?_⟩
    have hdrop : items.drop i = items[i] :: items.drop (i + 1) := List.drop_eq_getElem_cons hlt
    have hget : items[i]? = some items[i] := List.getElem?_eq_getElem hlt
    -- the item's value
    have item : ∃ G2, Way K G1 H1 (wipe σ vs) (wipeR ρ1 vs) G2 H2 (wipe σ vs) ρw ∧ Same G' G2 ∧ G2 D0 = none ∧ H2 D0 = some (.lst av) ∧ Rp K G2 x items[i] := by
      rcases hJ.yld i H' x H2 s1 hy hlt with ⟨rfl, d, hd, hr⟩ | ⟨T, xs, l, rfl, nT, rfl, hd, hr⟩
      · rw [hget] at hd
        cases hd
        exact ⟨G', w, Same.refl _, g', hD, hr G' w.st.g w.env.same⟩
      · rw [hget] at hd
        have hd' : items[i] = .tup l := Option.some.inj hd
        obtain ⟨w2, s2⟩ := w.laid (o := .tup xs) nT
        have nTD : D0 ≠ T := ne_of_none hD nT
        refine ⟨_, w2, s2, by rw [upd_ne nTD]; exact g', by rw [upd_ne nTD]; exact hD, ?_⟩
        rw [hd']
        exact .tup (.inl (.inl upd_same)) ((hr G' w.st.g w.env.same).mono s2)
    obtain ⟨G2, w2, s2, g2, hD2, rx⟩ := item
    rw [hdrop] at hl
    -- what the loop's equation says
    cases hf : f items[i] ρw with
    | none =>
      have : cLoop f mt me vs (items[i] :: items.drop (i + 1)) acc ρw = .bad := by
        unfold cLoop; rw [hf]
      rw [this] at hl
      rw [← hl] at h1
      exact h1.elim
    | some ρa =>
      refine ⟨G2, ρw, items[i], ρa, w2.env, rx, hf, fun σ2 e2 m2 t2 => ⟨?_, ?_⟩⟩
      · rw [← wipe_wipe (σ := σ) (vs := vs)]
        exact wipe_eq t2.1 fun j hj => t2.2 j fun z => hj (hi j z)
      · have hσ2 : wipe σ2 vs = wipe σ vs := by
          rw [← wipe_wipe (σ := σ) (vs := vs)]
          exact wipe_eq t2.1 fun j hj => t2.2 j fun z => hj (hi j z)
        have hw2 : wipe σ2 vs = wipe (wipe σ vs) vs := by rw [wipe_wipe]; exact hσ2
        have wa : Way K G1 H1 (wipe σ vs) (wipeR ρ1 vs) G2 H2 σ2 ρa := w2.trans (mv_tgt e2 m2)
        have na : ¬ OwnA σ2 ρa D0 := fun z => by
          rcases m2.own D0 z with q | q
          · exact no q
          · rw [hD2] at q; cases q
        have nb : ∀ (j : Nat) l, (wipeR ρ1 vs)[j]? = some (.bor l) → j ∉ vs := fun j l q z => by
          have := wipeR_in z q
          cases this
        refine ⟨G2, ρa, e2, ?_⟩
        cases hm : mt ρa with
        | bad =>
          have : cLoop f mt me vs (items[i] :: items.drop (i + 1)) acc ρw = .bad := by
            unfold cLoop; rw [hf]; dsimp only; rw [hm]
          rw [this] at hl
          rw [← hl] at h1
          exact h1.elim
        | exc x ρ' =>
          have : cLoop f mt me vs (items[i] :: items.drop (i + 1)) acc ρw = .bad := by
            unfold cLoop; rw [hf]; dsimp only; rw [hm]
          rw [this] at hl
          rw [← hl] at h1
          exact h1.elim
        | ok b ρb =>
          intro b' G3 H3 w3 eb
          cases eb
          obtain ⟨g3, n3, hD3⟩ := Way.out na w3 ⟨_, hD2⟩ g2
          rw [hD2] at hD3
          have wb := wa.trans w3
          cases b with
          | false =>
            have hl2 : cLoop f mt me vs (items.drop (i + 1)) acc (wipeR ρb vs) = cLoop f mt me vs items [] (wipeR ρ1 vs) := by
              rw [← hl]
              conv => rhs; unfold cLoop
              rw [hf]; dsimp only; rw [hm]
            have ww := wipe_way wb nb hσ2
            exact ⟨G3, wipeR ρb vs, acc, av, ww, g3, fun z => by
              rw [← hσ2] at z
              exact n3 (own_wipe z).1, hD3, ra.mono (s2.trans w3.st.g), hl2⟩
          | true =>
            refine ⟨G3, ρb, w3.env, ?_⟩
            cases hn : me ρb with
            | bad =>
              have : cLoop f mt me vs (items[i] :: items.drop (i + 1)) acc ρw = .bad := by
                unfold cLoop; rw [hf]; dsimp only; rw [hm]; dsimp only; rw [hn]
              rw [this] at hl
              rw [← hl] at h1
              exact h1.elim
            | exc x ρ' =>
              have : cLoop f mt me vs (items[i] :: items.drop (i + 1)) acc ρw = .bad := by
                unfold cLoop; rw [hf]; dsimp only; rw [hm]; dsimp only; rw [hn]
              rw [this] at hl
              rw [← hl] at h1
              exact h1.elim
            | ok y ρc =>
              intro vy G4 H4 w4 ry
              obtain ⟨g4, n4, hD4⟩ := Way.out n3 w4 ⟨_, hD3⟩ g3
              rw [hD3] at hD4
              obtain ⟨G5, w5, s5, r5⟩ := share w4 ry
              have g5 : G5 D0 = none := by
                cases z : G5 D0 with
                | none => rfl
                | some u =>
                  rcases w5.st.new D0 u z g3 with q | q
                  · rw [hD3] at q; cases q
                  · exact absurd q n3
              have hz : acc.length < sizeLine := by
                by_cases hz : acc.length < sizeLine
                · exact hz
                · have : cLoop f mt me vs (items[i] :: items.drop (i + 1)) acc ρw = .bad := by
                    unfold cLoop; rw [hf]; dsimp only; rw [hm]; dsimp only; rw [hn]; dsimp only; rw [if_neg hz]
                  rw [this] at hl
                  rw [← hl] at h1
                  exact h1.elim
              refine ⟨av, hD4, by rw [ra.length]; exact hz, ?_⟩
              have wc := wb.trans w5
              have wp := wc.poke (o := .lst (av ++ [vy])) nD g5 n4
              have ww := wipe_way wp nb hσ2
              refine ⟨G5, wipeR ρc vs, acc ++ [y.d], av ++ [vy], ww, g5, fun z => ?_, upd_same, ?_, ?_⟩
              · rw [← hσ2] at z
                exact n4 (own_wipe z).1
              · exact (ra.mono (s2.trans (w3.st.g.trans w5.st.g))).append (.cons r5 .nil)
              · rw [← hl]
                conv => rhs; unfold cLoop
                rw [hf]; dsimp only; rw [hm]; dsimp only; rw [hn]; dsimp only; rw [if_pos hz]
  · have hi' : i = items.length := by omega
    subst hi'
    refine .inl ⟨hJ.stop H' s1, ?_⟩
    rw [List.drop_length] at hl
    have hl' : cLoop f mt me vs items [] (wipeR ρ1 vs) = .ok acc ρw := by
      rw [← hl]; rfl
    rw [hl'] at h1
    refine h1 (.ref D0) G' H' (rest_way w1.env w) ⟨D0, av, rfl, .inl nD, g', hD, ra, fun z => ?_⟩
    -- the new list is nobody's
    have wr := rest_way w1.env w
    rcases wr.mv.own D0 z with q | q
    · exact nO q
    · obtain ⟨i, s, l, z1, z2, z3⟩ := z
      by_cases hi : i ∈ vs
      · rw [restR_in (by rw [w.mv.len, wipeR_len]) hi] at z2
        exact nO ⟨i, s, l, z1, z2, z3⟩
      · rw [restR_out hi] at z2
        exact no ⟨i, s, l, by rw [wipe_out hi]; exact z1, z2, z3⟩
end
def mtrue : M Bool := fun ρ => .ok true ρ
section
variable {X : Cx} {cs : List Addr} {W : WX} {elt tg iter c : Expr} {ifs : List Expr} {scope : Scope} {own : List (Str × Nat)} {pos : Pos} {mi : M (List D)} {f : D → Ro → Option Ro} {mt : M Bool} {me : M Vd} {idx : List Nat}
abbrev PTd (cs : List Addr) (W : WX) (X : Cx) (ifs : List Expr) (m : M Bool) : Prop := PTs X ifs (tBl cs X.K W m)
theorem pts_imp {e : List Expr} {t t' : TT} (h : PTs X e t) (i : ∀ σ H Q, t' σ H Q → t σ H Q) : PTs X e t' := ⟨fun pins s σ H Q I q => h.run pins s σ H Q I (i σ H Q q)⟩
theorem ptd_nil : PTd cs W X [] mtrue := pts_imp pts_nil fun σ H Q ⟨G, ρ, e, q⟩ => q true G H (.refl e) rfl
theorem ptd_one (h : PB cs W X c mt) : PTd cs W X [c] mt := pts_one h
theorem pd_comp (hc : X.calm = true) (hN : X.N.Nodup) (hi : PIt cs W X tg iter mi) (ok : BlkOk X.N X.env.scope scope own)
    (hg : ∀ (s : Shared) (H : Hp) (C : Addr) (cl : List (Str × Addr)) (fp : List Addr), PGd (X.blk s H scope (compEnvC scope cl C X.env) fp) tg idx f)
    (ht : ∀ (s : Shared) (H : Hp) (C : Addr) (cl : List (Str × Addr)) (fp : List Addr), PTd cs W0 (X.blk s H scope (compEnvC scope cl C X.env) fp) ifs mt)
    (he : ∀ (s : Shared) (H : Hp) (C : Addr) (cl : List (Str × Addr)) (fp : List Addr), PD cs W0 (X.blk s H scope (compEnvC scope cl C X.env) fp) elt me)
    (hv : ∀ i ∈ idx, i ∈ own.map (·.2) := by decide) (hs : ∀ x, foldedSetIterable iter X.env x = pure x := by intro _; rfl) :
    PD cs W X (.ListComp elt [⟨tg, iter, ifs, 0⟩] scope pos) (mcomp mi f mt me (own.map (·.2))) :=
  pe_imp (pe_lc hc hN hi ok hg ht he hs) fun _ _ _ h => comp_imp hv h
end
end FRT
end
section
set_option Elab.async false
set_option linter.all false
set_option maxRecDepth 100000
set_option maxHeartbeats 4000001
namespace FRT
open PySem L2
inductive Fl where
  | nx
  | rt (d : Vd)
  | bk
  | ct
def Ps (cs : List Addr) (K : PySem.W.Frag) (W : WX) (σ : St) (G H : Hp) (ρ : Ro) (r : Rs Fl) (D : Ends) : Prop := match r with
  | .bad => False
  | .ok .nx ρ' => ∀ σ' G' H', Way K G H σ ρ G' H' σ' ρ' → D.nx σ' H'
  | .ok (.rt d) ρ' => ∀ v σ' G' H', Way K G H σ ρ G' H' σ' ρ' → VdR K H σ ρ G' H' σ' ρ' v d → D.rt v H'
  | .ok .bk ρ' => ∀ σ' G' H', Way K G H σ ρ G' H' σ' ρ' → D.bk σ' H'
  | .ok .ct ρ' => ∀ σ' G' H', Way K G H σ ρ G' H' σ' ρ' → D.ct σ' H'
  | .exc x ρ' => ∀ cls dd σ' G' H', Way K G H σ ρ G' H' σ' ρ' → XnR cs K G' H' cls dd x → W cls dd σ' H'
def tS (cs : List Addr) (K : PySem.W.Frag) (W : WX) (m : M Fl) : TS := fun D σ H => ∃ G ρ, EnvR K G H σ ρ ∧ Ps cs K W σ G H ρ (m ρ) D
abbrev PSd (cs : List Addr) (W : WX) (X : Cx) (s : Stmt) (m : M Fl) : Prop := PS X s (tS cs X.K W m)
abbrev PSsd (cs : List Addr) (W : WX) (X : Cx) (s : List Stmt) (m : M Fl) : Prop := PSs X s (tS cs X.K W m)
section
variable {cs : List Addr} {K : PySem.W.Frag} {W : WX} {σ σ1 : St} {G H G1 H1 : Hp} {ρ ρ1 : Ro} {r : Rs Fl} {D : Ends}
theorem Ps.shift (h : Ps cs K W σ G H ρ r D) (w : Way K G H σ ρ G1 H1 σ1 ρ1) : Ps cs K W σ1 G1 H1 ρ1 r D := by
  cases r with
  | bad => exact h
  | exc x ρ' => exact fun cls dd σ' G' H' w' q => h cls dd σ' G' H' (w.trans w') q
  | ok f ρ' =>
    cases f with
    | nx => exact fun σ' G' H' w' => h σ' G' H' (w.trans w')
    | bk => exact fun σ' G' H' w' => h σ' G' H' (w.trans w')
    | ct => exact fun σ' G' H' w' => h σ' G' H' (w.trans w')
    | rt d => exact fun v σ' G' H' w' q => h v σ' G' H' (w.trans w') (q.back w.st.th w.mv.own)
/-- an expression, then the rest of the statement -/
theorem Pg.bindS {α β : Type} {R1 : Hp → Ro → Hp → Hp → Ro → β → α → Prop} {r : Rs α} {k : α → M Fl} {Q1 : β → Hp → Prop} (h : Ps cs K W σ G H ρ (r.bind k) D)
    (hk : ∀ a ρ1 v G1 H1, Way K G H σ ρ G1 H1 σ ρ1 → R1 H ρ G1 H1 ρ1 v a → Ps cs K W σ G H ρ (k a ρ1) D → Q1 v H1) : Pg cs K W σ R1 G H ρ r Q1 := by
  cases r with
  | bad => exact h
  | ok a ρ' => exact fun v G' H' w q => hk a ρ' v G' H' w q h
  | exc x ρ' => exact fun cls dd G' H' w q => h cls dd σ G' H' w q
end
def Vd.sl : Vd → Sl
  | .sh d => .sh d
  | .fr l => .own l
/-- a slot gets a value -/
def setV (i : Nat) (d : Vd) (ρ : Ro) : Option Ro := match ρ[i]? with
  | none => none
  | some (.bor _) => none
  | some _ => some (ρ.set i d.sl)
section
variable {K : PySem.W.Frag} {G H G0 H0 : Hp} {σ0 σ : St} {ρ0 ρ ρ' : Ro} {v : V} {i : Nat} {d : Vd}
theorem setV_ok (h : setV i d ρ = some ρ') : i < ρ.length ∧ (∀ l, ρ[i]? ≠ some (.bor l)) ∧ ρ' = ρ.set i d.sl := by
  unfold setV at h
  split at h
  · cases h
  · cases h
  · rename_i s nb q
    cases h
    exact ⟨(List.getElem?_eq_some_iff.mp q).1, fun l z => by rw [q] at z; cases z; exact nb l rfl, rfl⟩
theorem setV_own {x : Addr} {a : Addr} {l : List D} (h : OwnA (σ.set i (some (.ref a))) (ρ.set i (.own l)) x) : OwnA σ ρ x ∨ x = a := by
  obtain ⟨j, t, m, h1, h2, h3⟩ := h
  by_cases ij : i = j
  · subst ij
    rw [List.getElem?_set] at h1
    simp only [if_pos] at h1
    split at h1
    · cases h1; exact .inr rfl
    · cases h1
  · rw [List.getElem?_set_ne ij] at h1 h2
    exact .inl ⟨j, t, m, h1, h2, h3⟩
theorem setV_way (w : Way K G0 H0 σ0 ρ0 G H σ ρ) (r : VdR K H0 σ0 ρ0 G H σ ρ v d) (h : setV i d ρ = some ρ') : Way K G0 H0 σ0 ρ0 G H (σ.set i (some v)) ρ' := by
  obtain ⟨hi, hb, rfl⟩ := setV_ok h
  have e := w.env
  cases d with
  | sh d => exact ⟨w.st, w.mv.trans (set_mv (H := H) rfl hb) w.st.th, set_env e hi rfl (.sh r)⟩
  | fr l =>
    obtain ⟨a, vs, rfl, h0, hg, hh, rs, no⟩ := r
    have hl := e.len
    have back : ∀ (j : Nat) (t : Sl), i ≠ j → (ρ.set i (.own l))[j]? = some t → ρ[j]? = some t := fun j t n h => by rw [List.getElem?_set_ne n] at h; exact h
    refine ⟨w.st, ⟨List.length_set.trans w.mv.len, fun x hx => ?_, fun j m hj => ?_⟩, ⟨e.same, by rw [List.length_set, List.length_set]; exact hl, fun j w t h1 h2 => ?_, fun j k b t u m n h1 h2 h3 h4 h5 h6 => ?_⟩⟩
    · rcases setV_own hx with q | q
      · exact w.mv.own x q
      · rw [q]; exact h0.symm
    · obtain ⟨e1, m', e2⟩ := w.mv.bor j m hj
      have ij : i ≠ j := fun z => by subst z; exact hb m' e2
      rw [List.getElem?_set_ne ij, List.getElem?_set_ne ij]
      exact ⟨e1, m', e2⟩
    · by_cases ij : i = j
      · subst ij
        rw [List.getElem?_set] at h1 h2
        simp only [if_pos] at h1 h2
        rw [if_pos (by omega)] at h1
        rw [if_pos hi] at h2
        cases h1
        cases h2
        exact .own hg hh rs
      · rw [List.getElem?_set_ne ij] at h1 h2
        exact e.sl j w t h1 h2
    · by_cases ij : i = j
      · by_cases ik : i = k
        · rw [← ij, ← ik]
        · exfalso
          rw [← ij, List.getElem?_set] at h1
          simp only [if_pos] at h1
          rw [if_pos (by omega)] at h1
          cases h1
          rw [List.getElem?_set_ne ik] at h2 h4
          exact no ⟨k, u, n, h2, h4, h6⟩
      · by_cases ik : i = k
        · exfalso
          rw [← ik, List.getElem?_set] at h2
          simp only [if_pos] at h2
          rw [if_pos (by omega)] at h2
          cases h2
          rw [List.getElem?_set_ne ij] at h1 h3
          exact no ⟨j, t, m, h1, h3, h5⟩
        · rw [List.getElem?_set_ne ij] at h1 h3
          rw [List.getElem?_set_ne ik] at h2 h4
          exact e.dis j k b t u m n h1 h2 h3 h4 h5 h6
end
/-! ### statements -/
def sseq (a b : M Fl) : M Fl := fun ρ => match a ρ with
  | .ok .nx ρ1 => b ρ1
  | r => r
def snil : M Fl := fun ρ => .ok .nx ρ
section
variable {X : Cx} {cs : List Addr} {W : WX} {st : Stmt} {rest : List Stmt} {a b : M Fl} {pos pos' : Pos} {e : Expr} {m : M Vd}
theorem ss_nil : PSsd cs W X [] snil := pss_imp pss_nil fun D σ H ⟨G, ρ, e, q⟩ => q σ G H (.refl e)
theorem ss_cons (h1 : PSd cs W X st a) (h2 : PSsd cs W X rest b) : PSsd cs W X (st :: rest) (sseq a b) := pss_imp (pss_cons h1 h2) fun D σ H ⟨G, ρ, e, q⟩ => ⟨G, ρ, e, by
  dsimp only [sseq] at q
  cases ha : a ρ with
  | bad => rw [ha] at q; exact q
  | exc x ρ' => rw [ha] at q; exact q
  | ok f ρ' =>
    rw [ha] at q
    cases f with
    | nx => exact fun σ' G' H' w => ⟨G', ρ', w.env, Ps.shift q w⟩
    | bk => exact q
    | ct => exact q
    | rt d => exact q⟩
theorem ss_one (h : PSd cs W X st a) : PSsd cs W X [st] a := pss_one h
def sAsg (i : Nat) (m : M Vd) : M Fl := fun ρ => (m ρ).bind fun d ρ1 => match setV i d ρ1 with
  | some ρ2 => .ok .nx ρ2
  | none => .bad
theorem sasg_imp {K : PySem.W.Frag} {te : TE} {i : Nat} (im : ∀ σ H (Q : VK), tD cs K W m σ H Q → te σ H Q) {D : Ends} {σ : St} {H : Hp} (h : tS cs K W (sAsg i m) D σ H) : tAsg te (gName i) D σ H := by
  obtain ⟨G, ρ, e, q⟩ := h
  refine im σ H _ ⟨G, ρ, e, Pg.bindS q fun d ρ1 v G1 H1 w1 r1 h1 => ?_⟩
  cases hs : setV i d ρ1 with
  | none => rw [hs] at h1; exact h1.elim
  | some ρ2 =>
    have w2 := setV_way w1 r1 hs
    rw [hs] at h1
    exact h1 _ _ _ w2
theorem sd_asg (i : Nat) {x : Str} (hN : X.N.Nodup) (hi : X.N[i]? = some x) (hx : Loc X.env.scope x) (he : PD cs W X e m) (hs : swapsWith e (some (.Name x pos')) pos.line X.env = pure false := by rfl)
    (hf : X.fn x = true ∨ X.env.scope.names.lookup x = some .local := by first | exact .inl rfl | exact .inr rfl | assumption) : PSd cs W X (.Assign [.Name x pos'] e pos) (sAsg i m) :=
  ps_imp (ps_set hN hi hx he hs hf) fun _ _ _ h => sasg_imp (fun _ _ _ z => z) h
/-- name = [..] -/
theorem sd_asgC (i : Nat) {y : Str} {elt tg iter : Expr} {ifs : List Expr} {scope : Scope} {own : List (Str × Nat)} {mi : M (List D)} {f : D → Ro → Option Ro} {mt : M Bool} {me : M Vd} {idx : List Nat} {spos : Pos}
    (hc : X.calm = true) (hN : X.N.Nodup) (hy : X.N[i]? = some y) (hyl : X.env.scope.names.lookup y = some .local)
    (hsw : swapsWith (.ListComp elt [⟨tg, iter, ifs, 0⟩] scope pos) (some (.Name y pos')) spos.line X.env = pure true) (hi : PIt cs W X tg iter mi) (ok : BlkOk X.N X.env.scope scope own)
    (hg : ∀ (s : Shared) (H : Hp) (C : Addr) (cl : List (Str × Addr)) (fp : List Addr), PGd (X.blk s H scope (compEnvC scope cl C X.env) fp) tg idx f)
    (ht : ∀ (s : Shared) (H : Hp) (C : Addr) (cl : List (Str × Addr)) (fp : List Addr), PTd cs W0 (X.blk s H scope (compEnvC scope cl C X.env) fp) ifs mt)
    (he : ∀ (s : Shared) (H : Hp) (C : Addr) (cl : List (Str × Addr)) (fp : List Addr), PD cs W0 (X.blk s H scope (compEnvC scope cl C X.env) fp) elt me)
    (hv : ∀ i ∈ idx, i ∈ own.map (·.2) := by decide) (hs : ∀ x, foldedSetIterable iter X.env x = pure x := by intro _; rfl) :
    PSd cs W X (.Assign [.Name y pos'] (.ListComp elt [⟨tg, iter, ifs, 0⟩] scope pos) spos) (sAsg i (mcomp mi f mt me (own.map (·.2)))) :=
  ps_imp (ps_setLc hc hN hy hyl hsw hi ok hg ht he hs) fun _ _ _ h => sasg_imp (fun _ _ _ z => comp_imp hv z) h
/-- a target of parts -/
def sTg (f : D → Ro → Option Ro) (m : M Vd) : M Fl := fun ρ => (m ρ).bind fun d ρ1 => match f d.d ρ1 with
  | some ρ2 => .ok .nx ρ2
  | none => .bad
theorem sd_tg {tg : Expr} {idx : List Nat} {f : D → Ro → Option Ro} (he : PD cs W X e m) (hg : PGd X tg idx f) (hs : swapsWithSole [tg] e pos.line X.env = pure false := by rfl) (hw : swappedStores [tg] e X.env = pure none := by rfl)
    (h1 : (assignEach [tg] X.env).map (·.2) = [assign tg X.env] := by rfl) : PSd cs W X (.Assign [tg] e pos) (sTg f m) :=
  ps_imp (ps_asg he hg hs hw h1) fun D σ H ⟨G, ρ, e0, q⟩ => ⟨G, ρ, e0, Pg.bindS q fun d ρ1 v G1 H1 w1 r1 h1 => by
    obtain ⟨G2, w2, s2, r2⟩ := share w1 r1
    cases hf : f d.d ρ1 with
    | none => rw [hf] at h1; exact h1.elim
    | some ρ2 =>
      rw [hf] at h1
      exact ⟨G2, ρ1, d.d, ρ2, w2.env, r2, hf, fun σ' e2 m2 _ => h1 _ _ _ (w2.trans (mv_tgt e2 m2))⟩⟩
end
section
variable {K : PySem.W.Frag} {G H G1 H1 G2 H2 : Hp} {σ σ1 σ2 : St} {ρ ρ1 ρ2 ρ3 : Ro} {v w : V} {d e : Vd} {i : Nat}
/-- a value stays what it is -/
theorem VdR.stay (r : VdR K H σ ρ G1 H1 σ1 ρ1 v d) (w2 : Way K G1 H1 σ1 ρ1 G2 H2 σ2 ρ2) : VdR K H σ ρ G2 H2 σ2 ρ2 v d := by
  cases d with
  | sh d => exact Rp.mono w2.st.g r
  | fr l =>
    obtain ⟨a, vs, e, h0, g, h1, rs, no⟩ := r
    obtain ⟨g2, n2, h2⟩ := Way.out no w2 ⟨_, h1⟩ g
    exact ⟨a, vs, e, h0, g2, by rw [h2]; exact h1, rs.mono w2.st.g, n2⟩
/-- .. when another slot is set -/
theorem VdR.beside {σ0 : St} (rv : VdR K H σ0 ρ G1 H1 σ ρ1 v d) (hs : setV i d ρ1 = some ρ3) (rw' : VdR K H σ0 ρ G1 H1 σ ρ1 w e) (hd : v ≠ w ∨ (∀ l, d ≠ .fr l) ∨ ∀ l, e ≠ .fr l) : VdR K H σ0 ρ G1 H1 (σ.set i (some v)) ρ3 w e := by
  cases e with
  | sh e => exact rw'
  | fr m =>
    obtain ⟨b, vs, rfl, h0, g, h1, rs, no⟩ := rw'
    refine ⟨b, vs, rfl, h0, g, h1, rs, fun z => ?_⟩
    obtain ⟨_, _, rfl⟩ := setV_ok hs
    cases d with
    | sh d => exact no (set_own rfl z)
    | fr l =>
      obtain ⟨a, vs', rfl, _⟩ := rv
      rcases setV_own z with q | q
      · exact no q
      · rcases hd with x | x | x
        · exact x (by rw [q])
        · exact x l rfl
        · exact x m rfl
end
def sPar2 (i j : Nat) (ma mb : M Vd) : M Fl := fun ρ => (ma ρ).bind fun d ρ1 => (mb ρ1).bind fun e ρ2 => match (setV i d ρ2).bind (setV j e) with
  | some ρ4 => .ok .nx ρ4
  | none => .bad
def sPar3 (i j k : Nat) (ma mb mc : M Vd) : M Fl := fun ρ => (ma ρ).bind fun d ρ1 => (mb ρ1).bind fun e ρ2 => (mc ρ2).bind fun f ρ3 => match ((setV i d ρ3).bind (setV j e)).bind (setV k f) with
  | some ρ4 => .ok .nx ρ4
  | none => .bad
section
variable {K : PySem.W.Frag} {G H G1 H1 G2 H2 : Hp} {σ σ1 σ2 : St} {ρ ρ1 ρ2 ρ3 : Ro} {v w : V} {d e : Vd} {i : Nat}
theorem VdR.apart (r : VdR K H σ ρ G1 H1 σ1 ρ1 v d) (r2 : VdR K H1 σ1 ρ1 G2 H2 σ2 ρ2 w e) : v ≠ w ∨ (∀ l, d ≠ .fr l) ∨ ∀ l, e ≠ .fr l := by
  cases d with
  | sh d => exact .inr (.inl fun l z => by cases z)
  | fr l =>
    cases e with
    | sh e => exact .inr (.inr fun l z => by cases z)
    | fr m =>
      obtain ⟨a, vs, rfl, h0, g, h1, _, no⟩ := r
      obtain ⟨b, vs', rfl, h0', _⟩ := r2
      exact .inl fun z => by
        cases z
        rcases h0' with q | q
        · rw [h1] at q; cases q
        · exact no q
end
section
variable {X : Cx} {cs : List Addr} {W : WX} {st : Stmt} {rest : List Stmt} {a b c : Expr} {pos pos' px py pz pt pt2 : Pos} {e : Expr} {m ma mb mc : M Vd} {kt k2 : Nat}
theorem Pg.bindS2 {K : PySem.W.Frag} {σ : St} {G H G1 H1 : Hp} {ρ ρ1 : Ro} {D : Ends} {α β : Type} {R1 : Hp → Ro → Hp → Hp → Ro → β → α → Prop} {r : Rs α} {k : α → M Fl} {Q1 : β → Hp → Prop} (w0 : Way K G H σ ρ G1 H1 σ ρ1) (h : Ps cs K W σ G H ρ (r.bind k) D)
    (hk : ∀ a ρ2 v G2 H2, Way K G1 H1 σ ρ1 G2 H2 σ ρ2 → R1 H1 ρ1 G2 H2 ρ2 v a → Ps cs K W σ G H ρ (k a ρ2) D → Q1 v H2) : Pg cs K W σ R1 G1 H1 ρ1 r Q1 := by
  cases r with
  | bad => exact h
  | ok a ρ' => exact fun v G' H' w q => hk a ρ' v G' H' w q h
  | exc x ρ' => exact fun cls dd G' H' w q => h cls dd σ G' H' (w0.trans w) q
theorem sd_par2 (i j : Nat) {x y : Str} (hc : X.calm = true) (hN : X.N.Nodup) (hi : X.N[i]? = some x) (hj : X.N[j]? = some y) (hij : i ≠ j)
    (hx : X.env.scope.names.lookup x = some .local) (hy : X.env.scope.names.lookup y = some .local) (ha : PD cs W X a ma) (hb : PD cs W X b mb)
    (hw : swappedStores [.Tuple [.Name x px, .Name y py] kt pt] (.Tuple [a, b] k2 pt2) X.env = pure (some [x, y]))
    (hs : swapsWithSole [.Tuple [.Name x px, .Name y py] kt pt] (.Tuple [a, b] k2 pt2) pos.line X.env = pure false := by rfl)
    (h1 : starEach [a, b] X.env = (false, eval a X.env) :: starEach [b] X.env := by rfl) (h2 : starEach [b] X.env = (false, eval b X.env) :: starEach [] X.env := by rfl) :
    PSd cs W X (.Assign [.Tuple [.Name x px, .Name y py] kt pt] (.Tuple [a, b] k2 pt2) pos) (sPar2 i j ma mb) :=
  ps_imp (ps_par hc hN hi hj hij hx hy (pa_cons ha (pa_cons hb pa_nil h2) h1) hw hs) fun D σ H ⟨G, ρ, e0, q⟩ => ⟨G, ρ, e0, Pg.bindS q fun d ρ1 v G1 H1 w1 r1 h1 => ⟨G1, ρ1, w1.env, Pg.bindS2 w1 h1 fun e ρ2 w G2 H2 w2 r2 h2 => by
    refine ⟨v, w, rfl, ?_⟩
    have r1' := VdR.stay r1 w2
    have wt := w1.trans w2
    have r2' : VdR X.K H σ ρ G2 H2 σ ρ2 w e := VdR.back w1.st.th w1.mv.own r2
    cases hs1 : setV i d ρ2 with
    | none => rw [hs1] at h2; exact h2.elim
    | some ρ3 =>
      have w3 := setV_way wt r1' hs1
      have r2'' := VdR.beside r1' hs1 r2' (VdR.apart r1 r2)
      cases hs2 : setV j e ρ3 with
      | none => rw [hs1] at h2; dsimp only [Option.bind] at h2; rw [hs2] at h2; exact h2.elim
      | some ρ4 =>
        have w4 := setV_way w3 r2'' hs2
        rw [hs1] at h2
        dsimp only [Option.bind] at h2
        rw [hs2] at h2
        exact h2 _ _ _ w4⟩⟩
theorem sd_par3 (i j l : Nat) {x y z : Str} (hc : X.calm = true) (hN : X.N.Nodup) (hi : X.N[i]? = some x) (hj : X.N[j]? = some y) (hl : X.N[l]? = some z) (hij : i ≠ j) (hil : i ≠ l) (hjl : j ≠ l)
    (hx : X.env.scope.names.lookup x = some .local) (hy : X.env.scope.names.lookup y = some .local) (hz : X.env.scope.names.lookup z = some .local) (ha : PD cs W X a ma) (hb : PD cs W X b mb) (hcc : PD cs W X c mc)
    (hw : swappedStores [.Tuple [.Name x px, .Name y py, .Name z pz] kt pt] (.Tuple [a, b, c] k2 pt2) X.env = pure (some [x, y, z]))
    (hs : swapsWithSole [.Tuple [.Name x px, .Name y py, .Name z pz] kt pt] (.Tuple [a, b, c] k2 pt2) pos.line X.env = pure false := by rfl)
    (h1 : starEach [a, b, c] X.env = (false, eval a X.env) :: starEach [b, c] X.env := by rfl) (h2 : starEach [b, c] X.env = (false, eval b X.env) :: starEach [c] X.env := by rfl)
    (h3 : starEach [c] X.env = (false, eval c X.env) :: starEach [] X.env := by rfl) :
    PSd cs W X (.Assign [.Tuple [.Name x px, .Name y py, .Name z pz] kt pt] (.Tuple [a, b, c] k2 pt2) pos) (sPar3 i j l ma mb mc) :=
  ps_imp (ps_par3 hc hN hi hj hl hij hil hjl hx hy hz (pa_cons ha (pa_cons hb (pa_cons hcc pa_nil h3) h2) h1) hw hs) fun D σ H ⟨G, ρ, e0, q⟩ => ⟨G, ρ, e0, Pg.bindS q fun d ρ1 v G1 H1 w1 r1 h1 => ⟨G1, ρ1, w1.env, Pg.bindS2 w1 h1 fun e ρ2 w G2 H2 w2 r2 h2 =>
   ⟨G2, ρ2, w2.env, Pg.bindS2 (w1.trans w2) h2 fun f ρ3 u G3 H3 w3 r3 h3 => by
    refine ⟨v, w, u, rfl, ?_⟩
    have wt2 := w1.trans w2
    have wt := wt2.trans w3
    have r1' := VdR.stay r1 (w2.trans w3)
    have r2a : VdR X.K H σ ρ G2 H2 σ ρ2 w e := VdR.back w1.st.th w1.mv.own r2
    have r2' := VdR.stay r2a w3
    have r3' : VdR X.K H σ ρ G3 H3 σ ρ3 u f := VdR.back wt2.st.th wt2.mv.own r3
    have a12 := VdR.apart r1 r2
    have a13 : v ≠ u ∨ (∀ l, d ≠ .fr l) ∨ ∀ l, f ≠ .fr l := VdR.apart r1 (VdR.back w2.st.th w2.mv.own r3)
    have a23 := VdR.apart r2a r3
    cases hs1 : setV i d ρ3 with
    | none => rw [hs1] at h3; exact h3.elim
    | some ρ4 =>
      have w4 := setV_way wt r1' hs1
      have r2'' := VdR.beside r1' hs1 r2' a12
      have r3'' := VdR.beside r1' hs1 r3' a13
      cases hs2 : setV j e ρ4 with
      | none => rw [hs1] at h3; dsimp only [Option.bind] at h3; rw [hs2] at h3; exact h3.elim
      | some ρ5 =>
        have w5 := setV_way w4 r2'' hs2
        have r3a := VdR.beside r2'' hs2 r3'' a23
        cases hs3 : setV l f ρ5 with
        | none => rw [hs1] at h3; dsimp only [Option.bind] at h3; rw [hs2] at h3; dsimp only at h3; rw [hs3] at h3; exact h3.elim
        | some ρ6 =>
          have w6 := setV_way w5 r3a hs3
          rw [hs1] at h3
          dsimp only [Option.bind] at h3
          rw [hs2] at h3
          dsimp only at h3
          rw [hs3] at h3
          exact h3 _ _ _ w6⟩⟩⟩
/-- an expression alone; return; if -/
def sExp (m : M Vd) : M Fl := fun ρ => (m ρ).bind fun _ ρ1 => .ok .nx ρ1
def sRet (m : M Vd) : M Fl := fun ρ => (m ρ).bind fun d ρ1 => .ok (.rt d) ρ1
def sRetN : M Fl := fun ρ => .ok (.rt (.sh .non)) ρ
def sIf (c : M Bool) (p q : M Fl) : M Fl := fun ρ => (c ρ).bind fun b ρ1 => if b = true then p ρ1 else q ρ1
def sBrk : M Fl := fun ρ => .ok .bk ρ
def sCnt : M Fl := fun ρ => .ok .ct ρ
def sBad : M Fl := fun _ => .bad
theorem sd_exp (he : PD cs W X e m) (hs : swapsWith e none pos.line X.env = pure false := by rfl) : PSd cs W X (.Expr e pos) (sExp m) :=
  ps_imp (ps_expr he hs) fun D σ H ⟨G, ρ, e0, q⟩ => ⟨G, ρ, e0, Pg.bindS q fun d ρ1 v G1 H1 w1 r1 h1 => h1 _ _ _ w1⟩
theorem sd_ret (he : PD cs W X e m) : PSd cs W X (.Return (some e) pos) (sRet m) :=
  ps_imp (ps_ret he) fun D σ H ⟨G, ρ, e0, q⟩ => ⟨G, ρ, e0, Pg.bindS q fun d ρ1 v G1 H1 w1 r1 h1 => h1 v σ G1 H1 w1 r1⟩
theorem sd_retN : PSd cs W X (.Return none pos) sRetN := ps_imp ps_retN fun D σ H ⟨G, ρ, e0, q⟩ => q .non σ G H (.refl e0) .non
theorem sd_if {c : Expr} {p q : List Stmt} {mt : M Bool} {mp mq : M Fl} (hc : PB cs W X c mt) (hp : PSsd cs W X p mp) (hq : PSsd cs W X q mq) : PSd cs W X (.If c p q pos) (sIf mt mp mq) :=
  ps_imp (ps_if hc hp hq) fun D σ H ⟨G, ρ, e0, q⟩ => ⟨G, ρ, e0, Pg.bindS q fun b ρ1 v G1 H1 w1 r1 h1 => by
    cases r1
    have h2 := Ps.shift h1 w1
    cases b with
    | true => exact ⟨G1, ρ1, w1.env, h2⟩
    | false => exact ⟨G1, ρ1, w1.env, h2⟩⟩
theorem sd_brk : PSd cs W X (.Break pos) sBrk := ps_imp ps_break fun D σ H ⟨G, ρ, e0, q⟩ => q σ G H (.refl e0)
theorem sd_cnt : PSd cs W X (.Continue pos) sCnt := ps_imp ps_continue fun D σ H ⟨G, ρ, e0, q⟩ => q σ G H (.refl e0)
theorem sd_pass : PSd cs W X (.Pass pos) snil := ps_imp ps_pass fun D σ H ⟨G, ρ, e0, q⟩ => q σ G H (.refl e0)
/-- what is not followed here -/
theorem sd_bad : PSd cs W X st sBad := ps_imp ps_never fun D σ H ⟨G, ρ, e0, q⟩ => q.elim
/-- loops -/
def fLoop (f : D → Ro → Option Ro) (body : M Fl) : List D → Ro → Rs Fl
  | [], ρ => .ok .nx ρ
  | d :: l, ρ => match f d ρ with
    | none => .bad
    | some ρa => (match body ρa with
      | .ok .nx ρb => fLoop f body l ρb
      | .ok .ct ρb => fLoop f body l ρb
      | .ok .bk ρb => .ok .nx ρb
      | .ok (.rt d) ρb => .ok (.rt d) ρb
      | .exc x ρb => .exc x ρb
      | .bad => .bad)
def sFor (mi : M (List D)) (f : D → Ro → Option Ro) (body : M Fl) : M Fl := fun ρ => (mi ρ).bind fun items ρ1 => fLoop f body items ρ1
end
end FRT
end
section
set_option Elab.async false
set_option linter.all false
set_option maxRecDepth 100000
set_option maxHeartbeats 4000001
namespace FRT
open PySem L2
/-! ### loops -/
section
variable {cs : List Addr} {K : PySem.W.Frag} {W : WX} {mi : M (List D)} {f : D → Ro → Option Ro} {body : M Fl} {idx : List Nat}
theorem for_imp {D0 : Ends} {σ : St} {H : Hp} (h : tS cs K W (sFor mi f body) D0 σ H) : tFor (tIt cs K W mi) (tG K idx f) (tS cs K W body) D0 σ H := by
  obtain ⟨G, ρ, e, q⟩ := h
  refine ⟨G, ρ, e, Pg.bindS q fun items ρ1 J G1 H1 w1 hJ h1 => ?_⟩
  let Inv : Nat → St → Hp → Prop := fun i σ' H' => ∃ G' ρ', Way K G H σ ρ G' H' σ' ρ' ∧ Same G1 G' ∧ fLoop f body (items.drop i) ρ' = fLoop f body items ρ1
  refine ⟨fun i m σ' H' => m = items.length - i ∧ i ≤ items.length ∧ Inv i σ' H', ⟨_, rfl, Nat.zero_le _, G1, ρ1, w1, Same.refl _, rfl⟩, ?_⟩
  rintro i m σ' H' ⟨rfl, hle, G', ρ', w, s0, hl⟩
  have s1 : Same G1 H' := s0.trans w.env.same
  by_cases hlt : i < items.length
  · refine .inr ⟨hJ.go i H' s1 hlt, Inv (i + 1), fun σ2 H2 q => ⟨_, by omega, rfl, hlt, q⟩, fun x H2 hy => ?_⟩
    have hdrop : items.drop i = items[i] :: items.drop (i + 1) := List.drop_eq_getElem_cons hlt
    have hget : items[i]? = some items[i] := List.getElem?_eq_getElem hlt
    have item : ∃ G2, Way K G H σ ρ G2 H2 σ' ρ' ∧ Same G' G2 ∧ Rp K G2 x items[i] := by
      rcases hJ.yld i H' x H2 s1 hy hlt with ⟨rfl, d, hd, hr⟩ | ⟨T, xs, l, rfl, nT, rfl, hd, hr⟩
      · rw [hget] at hd
        cases hd
        exact ⟨G', w, Same.refl _, hr G' s0 w.env.same⟩
      · rw [hget] at hd
        have hd' : items[i] = .tup l := Option.some.inj hd
        obtain ⟨w2, s2⟩ := w.laid (o := .tup xs) nT
        refine ⟨_, w2, s2, ?_⟩
        rw [hd']
        exact .tup (.inl (.inl upd_same)) ((hr G' s0 w.env.same).mono s2)
    obtain ⟨G2, w2, s2, rx⟩ := item
    rw [hdrop] at hl
    cases hf : f items[i] ρ' with
    | none =>
      have : fLoop f body (items[i] :: items.drop (i + 1)) ρ' = .bad := by unfold fLoop; rw [hf]
      rw [this] at hl
      rw [← hl] at h1
      exact h1.elim
    | some ρa =>
      refine ⟨G2, ρ', items[i], ρa, w2.env, rx, hf, fun σ2 e2 m2 _ => ⟨G2, ρa, e2, ?_⟩⟩
      have wa : Way K G H σ ρ G2 H2 σ2 ρa := w2.trans (mv_tgt e2 m2)
      cases hm : body ρa with
      | bad =>
        have : fLoop f body (items[i] :: items.drop (i + 1)) ρ' = .bad := by unfold fLoop; rw [hf]; dsimp only; rw [hm]
        rw [this] at hl
        rw [← hl] at h1
        exact h1.elim
      | exc x ρb =>
        have : fLoop f body (items[i] :: items.drop (i + 1)) ρ' = .exc x ρb := by unfold fLoop; rw [hf]; dsimp only; rw [hm]
        rw [this] at hl
        rw [← hl] at h1
        exact fun cls dd σ3 G3 H3 w3 xr => h1 cls dd σ3 G3 H3 (wa.trans w3) xr
      | ok fl ρb =>
        cases fl with
        | nx =>
          have e : fLoop f body (items[i] :: items.drop (i + 1)) ρ' = fLoop f body (items.drop (i + 1)) ρb := by
            conv => lhs; unfold fLoop
            rw [hf]; dsimp only; rw [hm]
          rw [e] at hl
          exact fun σ3 G3 H3 w3 => ⟨G3, ρb, wa.trans w3, s0.trans (s2.trans w3.st.g), hl⟩
        | ct =>
          have e : fLoop f body (items[i] :: items.drop (i + 1)) ρ' = fLoop f body (items.drop (i + 1)) ρb := by
            conv => lhs; unfold fLoop
            rw [hf]; dsimp only; rw [hm]
          rw [e] at hl
          exact fun σ3 G3 H3 w3 => ⟨G3, ρb, wa.trans w3, s0.trans (s2.trans w3.st.g), hl⟩
        | bk =>
          have e : fLoop f body (items[i] :: items.drop (i + 1)) ρ' = .ok .nx ρb := by unfold fLoop; rw [hf]; dsimp only; rw [hm]
          rw [e] at hl
          rw [← hl] at h1
          exact fun σ3 G3 H3 w3 => h1 σ3 G3 H3 (wa.trans w3)
        | rt d =>
          have e : fLoop f body (items[i] :: items.drop (i + 1)) ρ' = .ok (.rt d) ρb := by unfold fLoop; rw [hf]; dsimp only; rw [hm]
          rw [e] at hl
          rw [← hl] at h1
          exact fun v σ3 G3 H3 w3 r3 => h1 v σ3 G3 H3 (wa.trans w3) (VdR.back wa.st.th wa.mv.own r3)
  · have hi' : i = items.length := by omega
    subst hi'
    refine .inl ⟨hJ.stop H' s1, ?_⟩
    rw [List.drop_length] at hl
    rw [← hl] at h1
    exact h1 σ' G' H' w
end
def wLoop (c : M Bool) (body : M Fl) : Nat → Ro → Rs Fl
  | 0, _ => .bad
  | n + 1, ρ => match c ρ with
    | .bad => .bad
    | .exc x ρa => .exc x ρa
    | .ok false ρa => .ok .nx ρa
    | .ok true ρa => (match body ρa with
      | .ok .nx ρb => wLoop c body n ρb
      | .ok .ct ρb => wLoop c body n ρb
      | .ok .bk ρb => .ok .nx ρb
      | .ok (.rt d) ρb => .ok (.rt d) ρb
      | .exc x ρb => .exc x ρb
      | .bad => .bad)
def sWhile (n : Nat) (c : M Bool) (body : M Fl) : M Fl := fun ρ => wLoop c body n ρ
section
variable {cs : List Addr} {K : PySem.W.Frag} {W : WX} {c : M Bool} {body : M Fl} {n : Nat}
theorem while_imp {D0 : Ends} {σ : St} {H : Hp} (h : tS cs K W (sWhile n c body) D0 σ H) : tWhile (tBl cs K W c) (tS cs K W body) D0 σ H := by
  obtain ⟨G, ρ, e, q⟩ := h
  have q' : Ps cs K W σ G H ρ (wLoop c body n ρ) D0 := q
  obtain ⟨R, hR⟩ : ∃ R, wLoop c body n ρ = R := ⟨_, rfl⟩
  rw [hR] at q'
  refine ⟨fun m σ' H' => ∃ G' ρ', Way K G H σ ρ G' H' σ' ρ' ∧ wLoop c body m ρ' = R, ⟨n, G, ρ, .refl e, hR⟩, ?_⟩
  clear hR q
  rintro m σ' H' ⟨G', ρ', w, hl⟩
  cases m with
  | zero =>
    rw [show wLoop c body 0 ρ' = .bad from rfl] at hl
    rw [← hl] at q'
    exact q'.elim
  | succ m =>
    refine ⟨G', ρ', w.env, ?_⟩
    unfold wLoop at hl
    cases hc : c ρ' with
    | bad =>
      rw [hc] at hl
      dsimp only at hl
      rw [show R = .bad from hl.symm] at q'
      exact q'.elim
    | exc x ρa =>
      rw [hc] at hl
      dsimp only at hl
      rw [show R = .exc x ρa from hl.symm] at q'
      exact fun cls dd G3 H3 w3 xr => q' cls dd σ' G3 H3 (w.trans w3) xr
    | ok b ρa =>
      rw [hc] at hl
      intro b' G3 H3 w3 eb
      cases eb
      have wa := w.trans w3
      cases b with
      | false =>
        dsimp only at hl
        rw [show R = .ok .nx ρa from hl.symm] at q'
        exact q' σ' G3 H3 wa
      | true =>
        refine ⟨fun σ2 H2 => ∃ G' ρ', Way K G H σ ρ G' H2 σ2 ρ' ∧ wLoop c body m ρ' = R, fun σ2 H2 z => ⟨m, Nat.lt_succ_self m, z⟩, G3, ρa, w3.env, ?_⟩
        dsimp only at hl
        cases hb : body ρa with
        | bad =>
          rw [hb] at hl
          dsimp only at hl
          rw [show R = .bad from hl.symm] at q'
          exact q'.elim
        | exc x ρb =>
          rw [hb] at hl
          dsimp only at hl
          rw [show R = .exc x ρb from hl.symm] at q'
          exact fun cls dd σ4 G4 H4 w4 xr => q' cls dd σ4 G4 H4 (wa.trans w4) xr
        | ok fl ρb =>
          rw [hb] at hl
          cases fl with
          | nx => exact fun σ4 G4 H4 w4 => ⟨G4, ρb, wa.trans w4, hl⟩
          | ct => exact fun σ4 G4 H4 w4 => ⟨G4, ρb, wa.trans w4, hl⟩
          | bk =>
            dsimp only at hl
            rw [show R = .ok .nx ρb from hl.symm] at q'
            exact fun σ4 G4 H4 w4 => q' σ4 G4 H4 (wa.trans w4)
          | rt d =>
            dsimp only at hl
            rw [show R = .ok (.rt d) ρb from hl.symm] at q'
            exact fun v σ4 G4 H4 w4 r4 => q' v σ4 G4 H4 (wa.trans w4) (VdR.back wa.st.th wa.mv.own r4)
end
section
variable {X : Cx} {cs : List Addr} {W : WX} {tg iter c : Expr} {body : List Stmt} {mi : M (List D)} {f : D → Ro → Option Ro} {mb : M Fl} {mt : M Bool} {idx : List Nat} {pos : Pos}
theorem sd_for (hp : PassesOwn (model X.prog X.w) X.A X.env X.xe) (hc : X.calm = true) (hi : PIt cs W X tg iter mi) (hg : PGd X tg idx f) (hb : PSsd cs W X body mb)
    (hs : ∀ x, foldedSetIterable iter X.env x = pure x := by intro _; rfl) : PSd cs W X (.For tg iter body [] pos) (sFor mi f mb) := ps_imp (ps_for hp hc hi hg hb hs) fun _ _ _ h => for_imp h
theorem sd_while (n : Nat) (hp : PassesOwn (model X.prog X.w) X.A X.env X.xe) (hc : PB cs W X c mt) (hb : PSsd cs W X body mb) : PSd cs W X (.While c body [] pos) (sWhile n mt mb) := ps_imp (ps_while hp hc hb) fun _ _ _ h => while_imp h
end
/-! ### lists of one's own -/
/-- a slot's own list, changed -/
def Sl.put (l : List D) : Sl → Sl
  | .own _ => .own l
  | .bor _ => .bor l
  | s => s
section
variable {K : PySem.W.Frag} {G H G0 H0 : Hp} {σ0 σ : St} {ρ0 ρ : Ro} {i : Nat} {s : Sl} {l m : List D} {vs : List V} {a : Addr}
theorem own_at (e : EnvR K G H σ ρ) (h1 : ρ[i]? = some s) (h2 : s.owned = some l) : ∃ a vs, σ[i]? = some (some (.ref a)) ∧ G a = none ∧ H a = some (.lst vs) ∧ Rps K G vs l := by
  have hi : i < σ.length := by rw [e.len]; exact (List.getElem?_eq_some_iff.mp h1).1
  have hs : σ[i]? = some σ[i] := List.getElem?_eq_getElem hi
  have q := e.sl i _ s hs h1
  generalize σ[i] = o at hs q
  cases q with
  | un => cases h2
  | sh _ => cases h2
  | own g x r => cases h2; exact ⟨_, _, hs, g, x, r⟩
  | bor g x r => cases h2; exact ⟨_, _, hs, g, x, r⟩
/-- the list behind a slot is changed -/
theorem Way.put (w : Way K G0 H0 σ0 ρ0 G H σ ρ) (h1 : ρ[i]? = some s) (h2 : s.owned = some l) (ha : σ[i]? = some (some (.ref a))) (r : Rps K G vs m) : Way K G0 H0 σ0 ρ0 G (upd H a (.lst vs)) σ (ρ.set i (s.put m)) := by
  have e := w.env
  obtain ⟨a', vs', ha', hg, hh, _⟩ := own_at e h1 h2
  rw [ha] at ha'
  cases ha'
  have oa : OwnA σ ρ a := ⟨i, s, l, ha, h1, h2⟩
  have hi : i < ρ.length := (List.getElem?_eq_some_iff.mp h1).1
  have hl := e.len
  have gets : ∀ (j : Nat) (t : Sl), (ρ.set i (s.put m))[j]? = some t → (i = j ∧ t = s.put m) ∨ (i ≠ j ∧ ρ[j]? = some t) := fun j t h => by
    by_cases ij : i = j
    · subst ij
      rw [List.getElem?_set] at h
      simp only [if_pos] at h
      rw [if_pos hi] at h
      cases h
      exact .inl ⟨rfl, rfl⟩
    · rw [List.getElem?_set_ne ij] at h
      exact .inr ⟨ij, h⟩
  have ownback : ∀ x, OwnA σ (ρ.set i (s.put m)) x → OwnA σ ρ x := fun x ⟨j, t, n, q1, q2, q3⟩ => by
    rcases gets j t q2 with ⟨ij, rfl⟩ | ⟨ij, q⟩
    · subst ij
      exact ⟨i, s, l, q1, h1, h2⟩
    · exact ⟨j, t, n, q1, q, q3⟩
  refine ⟨⟨w.st.g, w.st.new, fun x u q n => ?_, fun x q => ?_⟩, ⟨by rw [List.length_set]; exact w.mv.len, fun x h => w.mv.own x (ownback x h), fun j n h => ?_⟩, ⟨fun b u q => ?_, by rw [List.length_set]; exact hl, fun j v t q1 q2 => ?_, fun j k b t u n o q1 q2 q3 q4 q5 q6 => ?_⟩⟩
  · have hx : x ≠ a := fun z => by
      subst z
      rcases w.mv.own x oa with z | z
      · exact n z
      · rw [q] at z; cases z
    rw [upd_ne hx]
    exact w.st.fr x u q n
  · by_cases hx : x = a
    · subst hx; rw [upd_same] at q; cases q
    · rw [upd_ne hx] at q; exact w.st.th x q
  · obtain ⟨e1, n', e2⟩ := w.mv.bor j n h
    refine ⟨e1, ?_⟩
    by_cases ij : i = j
    · subst ij
      rw [h1] at e2
      cases e2
      exact ⟨m, by rw [List.getElem?_set]; simp only [if_pos]; rw [if_pos hi]; rfl⟩
    · exact ⟨n', by rw [List.getElem?_set_ne ij]; exact e2⟩
  · rw [upd_ne (ne_of_none q hg)]
    exact e.same b u q
  · rcases gets j t q2 with ⟨ij, rfl⟩ | ⟨ij, q⟩
    · subst ij
      rw [ha] at q1
      cases q1
      cases s with
      | un => cases h2
      | sh _ => cases h2
      | own _ => exact .own hg upd_same r
      | bor _ => exact .bor hg upd_same r
    · have z := e.sl j v t q1 q
      have ne : ∀ b n, v = some (.ref b) → t.owned = some n → b ≠ a := fun b n hv hn z => by
        subst z
        rw [hv] at q1
        exact ij (e.dis i j b s t l n ha q1 h1 q h2 hn)
      cases z with
      | un => exact .un
      | sh r => exact .sh r
      | own g x r => exact .own g (by rw [upd_ne (ne _ _ rfl rfl)]; exact x) r
      | bor g x r => exact .bor g (by rw [upd_ne (ne _ _ rfl rfl)]; exact x) r
  · have f : ∀ (j : Nat) (t : Sl) (n : List D), (ρ.set i (s.put m))[j]? = some t → t.owned = some n → ∃ t' n', ρ[j]? = some t' ∧ t'.owned = some n' := fun j t n h h' => by
      rcases gets j t h with ⟨ij, rfl⟩ | ⟨ij, q⟩
      · subst ij; exact ⟨s, l, h1, h2⟩
      · exact ⟨t, n, q, h'⟩
    obtain ⟨t', n', z1, z2⟩ := f j t n q3 q5
    obtain ⟨u', o', z3, z4⟩ := f k u o q4 q6
    exact e.dis j k b t' u' n' o' q1 q2 z1 z3 z2 z4
end
end FRT
end
section
set_option Elab.async false
set_option linter.all false
set_option maxRecDepth 100000
set_option maxHeartbeats 4000001
namespace FRT
open PySem L2
def Ro.own (ρ : Ro) (i : Nat) : Option (List D) := (ρ[i]?).bind Sl.owned
def Ro.put (ρ : Ro) (i : Nat) (m : List D) : Ro := match ρ[i]? with
  | some s => ρ.set i (s.put m)
  | none => ρ
section
variable {K : PySem.W.Frag} {G H G0 H0 : Hp} {σ0 σ : St} {ρ0 ρ : Ro} {i : Nat} {l m : List D} {vs : List V} {a : Addr} {v : V}
/-- the slot's own list, at the name's value -/
theorem own_val (e : EnvR K G H σ ρ) (h : Ro.own ρ i = some l) (hv : σ[i]? = some (some v)) : ∃ a vs, v = .ref a ∧ H a = some (.lst vs) ∧ Rps K G vs l ∧
    ∀ {G0 H0 : Hp} {σ0 : St} {ρ0 : Ro} {ws : List V} {m : List D}, Way K G0 H0 σ0 ρ0 G H σ ρ → Rps K G ws m → Way K G0 H0 σ0 ρ0 G (upd H a (.lst ws)) σ (Ro.put ρ i m) := by
  unfold Ro.own at h
  cases q : ρ[i]? with
  | none => rw [q] at h; cases h
  | some s =>
    rw [q] at h
    have h' : s.owned = some l := h
    obtain ⟨a, vs, h1, _, h3, h4⟩ := own_at e q h'
    rw [hv] at h1
    cases h1
    refine ⟨a, vs, rfl, h3, h4, fun w r => ?_⟩
    unfold Ro.put
    rw [q]
    exact w.put q h' hv r
theorem slot_val (e : EnvR K G H σ ρ) (h : Ro.own ρ i = some l) : ∃ v, σ[i]? = some (some v) := by
  unfold Ro.own at h
  cases q : ρ[i]? with
  | none => rw [q] at h; cases h
  | some s =>
    rw [q] at h
    obtain ⟨a, vs, h1, _⟩ := own_at e q (show s.owned = some l from h)
    exact ⟨_, h1⟩
end
/-- xs[k] = e -/
def sSetIx (i : Nat) (me mk : M Vd) : M Fl := fun ρ => (me ρ).bind fun d ρ1 => match Ro.own ρ1 i with
  | none => .bad
  | some _ => (mk ρ1).bind fun k ρ2 => (match k, Ro.own ρ2 i with
    | .sh (.int z), some l => (match ixN l.length z with
      | some j => .ok .nx (Ro.put ρ2 i (l.set j d.d))
      | none => .bad)
    | _, _ => .bad)
/-- xs.append(e) -/
def sApp (i : Nat) (me : M Vd) : M Fl := fun ρ => match Ro.own ρ i with
  | none => .bad
  | some _ => (me ρ).bind fun d ρ1 => (match Ro.own ρ1 i with
    | some l => if l.length < sizeLine then .ok .nx (Ro.put ρ1 i (l ++ [d.d])) else .bad
    | none => .bad)
/-- xs.pop(k) -/
def mPopAt (i : Nat) (mk : M Vd) : M Vd := fun ρ => match Ro.own ρ i with
  | none => .bad
  | some _ => (mk ρ).bind fun k ρ1 => (match k, Ro.own ρ1 i with
    | .sh (.int z), some l => if -(2 ^ 63) ≤ z ∧ z < 2 ^ 63 then (match seqIndex? z l.length with
      | some j => (match l[j]? with
        | some d => .ok (.sh d) (Ro.put ρ1 i (l.eraseIdx j))
        | none => .bad)
      | none => .bad) else .bad
    | _, _ => .bad)
/-- xs.pop() -/
def mPop (i : Nat) : M Vd := fun ρ => match Ro.own ρ i with
  | some l => (match l[l.length - 1]? with
    | some d => .ok (.sh d) (Ro.put ρ i l.dropLast)
    | none => .bad)
  | none => .bad
section
variable {X : Cx} {cs : List Addr} {W : WX} {e k : Expr} {me mk : M Vd} {i : Nat} {x : Str} {p pos apos cpos tpos : Pos}
theorem Rps.last {K : PySem.W.Frag} {G : Hp} : ∀ {vs : List V} {ds : List D}, Rps K G vs ds → Rps K G vs.dropLast ds.dropLast
  | _, _, .nil => .nil
  | _, _, .cons h .nil => .nil
  | _, _, .cons h (.cons h2 r) => .cons h (Rps.last (.cons h2 r))
theorem sd_setIx (i : Nat) (he : PD cs W X e me) (hk : PD cs W X k mk) (hN : X.N[i]? = some x := by rfl) (hv : Vis X.env.scope x := by first | exact Or.inl rfl | exact Or.inr (Or.inl rfl) | exact Or.inr (Or.inr rfl)) (hd : (x == ("__debug__" : Str)) = false := by decide)
    (hcd : (x == ("__classdict__" : Str)) = false := by decide) (hs : swapsWithSole [.Subscript (.Name x p) k tpos] e pos.line X.env = pure false := by rfl) (hw : swappedStores [.Subscript (.Name x p) k tpos] e X.env = pure none := by rfl)
    (h1 : (assignEach [.Subscript (.Name x p) k tpos] X.env).map (·.2) = [assign (.Subscript (.Name x p) k tpos) X.env] := by rfl)
    (ha : ∀ v : Value, assign (.Subscript (.Name x p) k tpos) X.env v = (do
      let ov ← holding [v] (eval (.Name x p) X.env)
      let iv ← holding [v, ov] (eval k X.env)
      standAt tpos
      holding [v, ov, iv] (setItem ov iv v)
      release [v, ov, iv] []) := by intro v; rfl) :
    PSd cs W X (.Assign [.Subscript (.Name x p) k tpos] e pos) (sSetIx i me mk) :=
  ps_imp (ps_asg he (pg_sub (pe_var hN hv hd hcd) hk set_list ha) hs hw h1) fun D σ H ⟨G, ρ, e0, q⟩ => ⟨G, ρ, e0, Pg.bindS q fun d ρ1 v G1 H1 w1 r1 h1 => by
    obtain ⟨G2, w2, s2, r2⟩ := share w1 r1
    cases ho : Ro.own ρ1 i with
    | none => rw [ho] at h1; exact h1.elim
    | some l0 =>
      rw [ho] at h1
      obtain ⟨u, hu⟩ := slot_val w2.env ho
      refine ⟨u, hu, G2, ρ1, w2.env, Pg.bindS2 w2 h1 fun kd ρ2 kv G3 H3 w3 r3 h3 => ?_⟩
      split at h3
      · rename_i z l ho2
        split at h3
        · rename_i j hj
          obtain ⟨a, vs, rfl, hh, rl, up⟩ := own_val w3.env ho2 hu
          cases (show Rp X.K G3 kv (.int z) from r3)
          refine ⟨a, vs, z, j, rfl, rfl, hh, by rw [rl.length]; exact hj, ?_⟩
          exact h3 _ _ _ (up (w2.trans w3) (Rps.set (r2.mono w3.st.g) j rl))
        · exact h3.elim
      · exact h3.elim⟩
theorem tyL {K : PySem.W.Frag} {H : Hp} {a : Addr} {vs : List V} (h : H a = some (.lst vs)) : tyV K "list" (.ref a) H := Or.inl ⟨rfl, vs, Or.inl (Or.inl h)⟩
theorem sd_app (i : Nat) (he : PD cs W X e me) (hN : X.N[i]? = some x := by rfl) (hv : Vis X.env.scope x := by first | exact Or.inl rfl | exact Or.inr (Or.inl rfl) | exact Or.inr (Or.inr rfl)) (hd : (x == ("__debug__" : Str)) = false := by decide)
    (hcd : (x == ("__classdict__" : Str)) = false := by decide)
    (hfew : ((backTo cpos (starEach (e :: []) X.env)).all (fun x => !x.1) && (backToKw cpos (keywordEach [] X.env)).all (fun x => x.1.isSome)
      && decide ((e :: []).length + ([] : List Keyword).length + (if ([] : List Keyword).isEmpty then 0 else 1) < 30)) = true := by rfl)
    (hline : (apos.endLine == cpos.line) = true := by rfl) (h1 : starEach [e] X.env = (false, eval e X.env) :: starEach [] X.env := by rfl) :
    PSd cs W X (.Expr (.Call (.Attribute (.Name x p) "append" apos) [e] [] cpos) pos) (sApp i me) :=
  ps_imp (ps_expr (pe_bm PySem.F.plainAttrs_list PySem.F.slot_list_append PySem.F.type_list_append mt_append (pe_var hN hv hd hcd) (pa_cons he pa_nil h1) rfl hfew hline h1 rfl)) fun D σ H ⟨G, ρ, e0, q⟩ => by
    dsimp only [sApp] at q
    cases ho : Ro.own ρ i with
    | none => rw [ho] at q; exact q.elim
    | some l0 =>
      rw [ho] at q
      obtain ⟨u, hu⟩ := slot_val e0 ho
      obtain ⟨a0, vs0, ea, hh0, _, _⟩ := own_val e0 ho hu
      refine ⟨u, hu, ?_, G, ρ, e0, Pg.bindS q fun d ρ1 v G1 H1 w1 r1 h1 => ?_⟩
      · rw [ea]; exact tyL hh0
      · obtain ⟨G2, w2, s2, r2⟩ := share w1 r1
        split at h1
        · rename_i l ho2
          split at h1
          · rename_i hz
            obtain ⟨a, vs, rfl, hh, rl, up⟩ := own_val w2.env ho2 hu
            exact ⟨a, vs, v, rfl, rfl, hh, by rw [rl.length]; exact hz, h1 _ _ _ (up w2 (rl.append (.cons r2 .nil)))⟩
          · exact h1.elim
        · exact h1.elim
theorem pd_popAt (i : Nat) (he : PD cs W X e me) (hN : X.N[i]? = some x := by rfl) (hv : Vis X.env.scope x := by first | exact Or.inl rfl | exact Or.inr (Or.inl rfl) | exact Or.inr (Or.inr rfl)) (hd : (x == ("__debug__" : Str)) = false := by decide)
    (hcd : (x == ("__classdict__" : Str)) = false := by decide)
    (hfew : ((backTo cpos (starEach (e :: []) X.env)).all (fun x => !x.1) && (backToKw cpos (keywordEach [] X.env)).all (fun x => x.1.isSome)
      && decide ((e :: []).length + ([] : List Keyword).length + (if ([] : List Keyword).isEmpty then 0 else 1) < 30)) = true := by rfl)
    (hline : (apos.endLine == cpos.line) = true := by rfl) (h1 : starEach [e] X.env = (false, eval e X.env) :: starEach [] X.env := by rfl) :
    PD cs W X (.Call (.Attribute (.Name x p) "pop" apos) [e] [] cpos) (mPopAt i me) :=
  pe_imp (pe_bm PySem.F.plainAttrs_list PySem.F.slot_list_pop PySem.F.type_list_pop mt_popAt (pe_var hN hv hd hcd) (pa_cons he pa_nil h1) rfl hfew hline h1 rfl) fun σ H Q ⟨G, ρ, e0, q⟩ => by
    dsimp only [mPopAt] at q
    cases ho : Ro.own ρ i with
    | none => rw [ho] at q; exact q.elim
    | some l0 =>
      rw [ho] at q
      obtain ⟨u, hu⟩ := slot_val e0 ho
      obtain ⟨a0, vs0, ea, hh0, _, _⟩ := own_val e0 ho hu
      refine ⟨u, hu, ?_, G, ρ, e0, Pg.bind anE q fun d ρ1 v G1 H1 w1 r1 h1 => ?_⟩
      · rw [ea]; exact tyL hh0
      · have h2 := h1 G1 w1
        split at h2
        · rename_i z l ho2
          split at h2
          · rename_i hz
            split at h2
            · rename_i j hj
              split at h2
              · rename_i dd hd
                obtain ⟨a, vs, rfl, hh, rl, up⟩ := own_val w1.env ho2 hu
                cases (show Rp X.K G1 v (.int z) from r1)
                obtain ⟨y, hy, ry⟩ := rl.get' hd
                exact ⟨a, vs, z, j, y, rfl, rfl, hh, hz.1, hz.2, by rw [rl.length]; exact hj, hy, h2 _ _ _ (up (.refl w1.env) (rl.erase j)) ry⟩
              · exact h2.elim
            · exact h2.elim
          · exact h2.elim
        · exact h2.elim
theorem pd_pop (i : Nat) (hN : X.N[i]? = some x := by rfl) (hv : Vis X.env.scope x := by first | exact Or.inl rfl | exact Or.inr (Or.inl rfl) | exact Or.inr (Or.inr rfl)) (hd : (x == ("__debug__" : Str)) = false := by decide)
    (hcd : (x == ("__classdict__" : Str)) = false := by decide) (hline : (apos.endLine == cpos.line) = true := by rfl) :
    PD cs W X (.Call (.Attribute (.Name x p) "pop" apos) [] [] cpos) (mPop i) :=
  pe_imp (pe_bm0 PySem.F.plainAttrs_list PySem.F.slot_list_pop PySem.F.type_list_pop mt_pop (pe_var hN hv hd hcd) rfl hline) fun σ H Q ⟨G, ρ, e0, q⟩ => by
    dsimp only [mPop] at q
    cases ho : Ro.own ρ i with
    | none => rw [ho] at q; exact q.elim
    | some l =>
      rw [ho] at q
      obtain ⟨u, hu⟩ := slot_val e0 ho
      obtain ⟨a, vs, ea, hh, rl, up⟩ := own_val e0 ho hu
      dsimp only at q
      split at q
      · rename_i d hd
        obtain ⟨y, hy, ry⟩ := rl.get' hd
        refine ⟨u, hu, by rw [ea]; exact tyL hh, a, vs, y, ea, rfl, hh, by rw [rl.length]; exact hy, q _ _ _ (up (.refl e0) rl.last) ry⟩
      · exact q.elim
/-- the name's list is moved out -/
theorem pd_move (i : Nat) (hN : X.N[i]? = some x := by rfl) (hv : Vis X.env.scope x := by first | exact Or.inl rfl | exact Or.inr (Or.inl rfl) | exact Or.inr (Or.inr rfl)) (hd : (x == ("__debug__" : Str)) = false := by decide)
    (hcd : (x == ("__classdict__" : Str)) = false := by decide) : PD cs W X (.Name x pos) (mmove i) := pe_imp (pe_var hN hv hd hcd) fun σ H Q ⟨G, ρ, e, q⟩ => by
  dsimp only [mmove] at q
  cases g : ρ[i]? with
  | none => rw [g] at q; exact q.elim
  | some s =>
    have hi : i < σ.length := by rw [e.len]; exact (List.getElem?_eq_some_iff.mp g).1
    have hs : σ[i]? = some σ[i] := List.getElem?_eq_getElem hi
    have z := e.sl i _ s hs g
    cases s with
    | un => rw [g] at q; exact q.elim
    | bor d => rw [g] at q; exact q.elim
    | sh d =>
      rw [g] at q
      generalize hw : σ[i] = o at hs z
      cases z with
      | sh r => exact ⟨_, hs, q _ G H (.refl e) r⟩
    | own d =>
      rw [g] at q
      generalize hw : σ[i] = o at hs z
      cases z with
      | @own a vs _ hg hh r =>
        have e1 : EnvR X.K G H σ (ρ.set i .un) := e.setSh rfl fun v _ => .un
        have n1 : ¬ OwnA σ (ρ.set i .un) a := own_set_not e hs g rfl rfl
        refine ⟨_, hs, q _ G H ⟨.refl, ⟨List.length_set, fun x h => .inl (own_set rfl h), fun j l h => ⟨rfl, l, ?_⟩⟩, e1⟩ ⟨a, vs, rfl, .inr ⟨i, _, _, hs, g, rfl⟩, hg, hh, r, n1⟩⟩
        have : i ≠ j := fun z => by subst z; rw [g] at h; cases h
        rw [List.getElem?_set_ne this]; exact h
end
end FRT
end
section
set_option Elab.async false
set_option linter.all false
set_option maxRecDepth 100000
set_option maxHeartbeats 4000001
namespace FRT
open PySem L2
/-! ### a def as a function of data -/
def spD (cs : List Addr) (K : PySem.W.Frag) (n : Nat) (fn : List Sl → Rs Vd) : Sp := fun vs H Q E => vs.length = n ∧ ∃ G as, EnvR K G H (vs.map some) as ∧ Pg cs K (fun cls dd _ H' => E cls dd H') (vs.map some) (rE K (vs.map some)) G H as (fn as) Q
def okArg : Sl → Bool
  | .sh _ => true
  | .bor _ => true
  | _ => false
def backA : List Sl → Ro → List Sl
  | [], _ => []
  | a :: as, [] => a :: as
  | .bor l :: as, s :: ρ => (match s with
    | .bor l' => .bor l'
    | _ => .bor l) :: backA as ρ
  | a :: as, _ :: ρ => a :: backA as ρ
def runF (n : Nat) (body : M Fl) : List Sl → Rs Vd := fun as => if as.all okArg then match body (as ++ List.replicate (n - as.length) .un) with
  | .ok .nx ρ' => .ok (.sh .non) (backA as ρ')
  | .ok (.rt d) ρ' => .ok d (backA as ρ')
  | .exc x ρ' => .exc x (backA as ρ')
  | _ => .bad
  else .bad
theorem backA_len : ∀ (as : List Sl) (ρ : Ro), (backA as ρ).length = as.length
  | [], _ => rfl
  | a :: as, [] => rfl
  | .bor l :: as, s :: ρ => congrArg (· + 1) (backA_len as ρ)
  | .un :: as, _ :: ρ => congrArg (· + 1) (backA_len as ρ)
  | .sh _ :: as, _ :: ρ => congrArg (· + 1) (backA_len as ρ)
  | .own _ :: as, _ :: ρ => congrArg (· + 1) (backA_len as ρ)
theorem backA_sh : ∀ {as : List Sl} {ρ : Ro} {i : Nat} {d : D}, as[i]? = some (.sh d) → (backA as ρ)[i]? = some (.sh d)
  | [], _, _, _, h => by simp at h
  | a :: as, [], _, _, h => h
  | .bor l :: as, s :: ρ, 0, d, h => by simp at h
  | .bor l :: as, s :: ρ, i + 1, d, h => backA_sh (as := as) (ρ := ρ) (i := i) h
  | .un :: as, s :: ρ, 0, d, h => by simp at h
  | .un :: as, s :: ρ, i + 1, d, h => backA_sh (as := as) (ρ := ρ) (i := i) h
  | .own _ :: as, s :: ρ, 0, d, h => by simp at h
  | .own _ :: as, s :: ρ, i + 1, d, h => backA_sh (as := as) (ρ := ρ) (i := i) h
  | .sh _ :: as, s :: ρ, 0, d, h => h
  | .sh _ :: as, s :: ρ, i + 1, d, h => backA_sh (as := as) (ρ := ρ) (i := i) h
theorem backA_bor : ∀ {as : List Sl} {ρ : Ro} {i : Nat} {l l' : List D}, as[i]? = some (.bor l) → ρ[i]? = some (.bor l') → (backA as ρ)[i]? = some (.bor l')
  | [], _, _, _, _, h, _ => by simp at h
  | a :: as, [], _, _, _, _, h => by simp at h
  | .bor l :: as, s :: ρ, 0, _, l', h, h2 => by
    simp at h2
    subst h2
    rfl
  | .bor l :: as, s :: ρ, i + 1, _, _, h, h2 => backA_bor (as := as) (ρ := ρ) (i := i) h h2
  | .un :: as, s :: ρ, 0, _, _, h, _ => by simp at h
  | .un :: as, s :: ρ, i + 1, _, _, h, h2 => backA_bor (as := as) (ρ := ρ) (i := i) h h2
  | .own _ :: as, s :: ρ, 0, _, _, h, _ => by simp at h
  | .own _ :: as, s :: ρ, i + 1, _, _, h, h2 => backA_bor (as := as) (ρ := ρ) (i := i) h h2
  | .sh _ :: as, s :: ρ, 0, _, _, h, _ => by simp at h
  | .sh _ :: as, s :: ρ, i + 1, _, _, h, h2 => backA_bor (as := as) (ρ := ρ) (i := i) h h2
section
variable {K : PySem.W.Frag} {G H G' H' : Hp} {vs : List V} {as : List Sl} {n : Nat} {σ' : St} {ρ' : Ro}
theorem start_get {N : List Str} {i : Nat} (h : i < vs.length) : (start N vs)[i]? = (vs.map some)[i]? := by
  unfold L2.start
  rw [List.getElem?_append_left (by simpa using h)]
theorem pad_get {i : Nat} (h : i < as.length) : (as ++ List.replicate (n - as.length) Sl.un)[i]? = as[i]? := List.getElem?_append_left h
theorem pad_out {i : Nat} {s : Sl} (h : as.length ≤ i) (e : (as ++ List.replicate (n - as.length) Sl.un)[i]? = some s) : s = .un := by
  rw [List.getElem?_append_right h, List.getElem?_replicate] at e
  split at e
  · cases e; rfl
  · cases e
theorem start_env {N : List Str} (e : EnvR K G H (vs.map some) as) (hN : N.length = n) (hv : vs.length ≤ n) : EnvR K G H (start N vs) (as ++ List.replicate (n - as.length) .un) := by
  have hl : vs.length = as.length := by have := e.len; rw [List.length_map] at this; exact this
  have own : ∀ (i : Nat) (s : Sl) (l : List D), (as ++ List.replicate (n - as.length) Sl.un)[i]? = some s → s.owned = some l → i < as.length := fun i s l h h2 => by
    by_cases hi : i < as.length
    · exact hi
    · rw [pad_out (by omega) h] at h2; cases h2
  refine ⟨e.same, by unfold L2.start; rw [List.length_append, List.length_append, List.length_map, List.length_replicate, List.length_replicate]; omega, fun i v s h1 h2 => ?_, fun i j a s t l m h1 h2 h3 h4 h5 h6 => ?_⟩
  · by_cases hi : i < as.length
    · rw [start_get (by omega)] at h1
      rw [pad_get hi] at h2
      exact e.sl i v s h1 h2
    · rw [pad_out (by omega) h2]; exact .un
  · have hi := own i s l h3 h5
    have hj := own j t m h4 h6
    rw [start_get (by omega)] at h1 h2
    rw [pad_get hi] at h3
    rw [pad_get hj] at h4
    exact e.dis i j a s t l m h1 h2 h3 h4 h5 h6
theorem start_own {N : List Str} {x : Addr} (e : EnvR K G H (vs.map some) as) (h : OwnA (start N vs) (as ++ List.replicate (n - as.length) .un) x) : OwnA (vs.map some) as x := by
  have hl : vs.length = as.length := by have := e.len; rw [List.length_map] at this; exact this
  obtain ⟨i, s, l, h1, h2, h3⟩ := h
  have hi : i < as.length := by
    by_cases hi : i < as.length
    · exact hi
    · rw [pad_out (by omega) h2] at h3; cases h3
  rw [start_get (by omega)] at h1
  rw [pad_get hi] at h2
  exact ⟨i, s, l, h1, h2, h3⟩
/-- the end of a def: its arguments again -/
theorem end_way {N : List Str} (e : EnvR K G H (vs.map some) as) (ha : as.all okArg = true) (w : Way K G H (start N vs) (as ++ List.replicate (n - as.length) .un) G' H' σ' ρ') :
    Way K G H (vs.map some) as G' H' (vs.map some) (backA as ρ') ∧ ∀ x, OwnA (vs.map some) (backA as ρ') x → OwnA σ' ρ' x := by
  have hl : vs.length = as.length := by have := e.len; rw [List.length_map] at this; exact this
  have arg : ∀ (i : Nat) (s : Sl), as[i]? = some s → (∃ d, s = .sh d) ∨ ∃ l, s = .bor l := fun i s h => by
    have q := List.all_eq_true.mp ha s (List.mem_of_getElem? h)
    cases s with
    | sh d => exact .inl ⟨d, rfl⟩
    | bor l => exact .inr ⟨l, rfl⟩
    | un => cases q
    | own _ => cases q
  -- what the slot of an argument is in the end
  have fin : ∀ (i : Nat) (s : Sl), (backA as ρ')[i]? = some s → (∃ d, s = .sh d ∧ as[i]? = some (.sh d)) ∨ ∃ l l', s = .bor l' ∧ as[i]? = some (.bor l) ∧ ρ'[i]? = some (.bor l') ∧ σ'[i]? = (vs.map some)[i]? := fun i s h => by
    have hi : i < as.length := by rw [← backA_len as ρ']; exact (List.getElem?_eq_some_iff.mp h).1
    have hs : as[i]? = some as[i] := List.getElem?_eq_getElem hi
    rcases arg i _ hs with ⟨d, hd⟩ | ⟨l, hd⟩
    · rw [hd] at hs
      rw [backA_sh hs] at h
      cases h
      exact .inl ⟨d, rfl, hs⟩
    · rw [hd] at hs
      obtain ⟨e1, l', e2⟩ := w.mv.bor i l (by rw [pad_get hi]; exact hs)
      rw [backA_bor hs e2] at h
      cases h
      exact .inr ⟨l, l', rfl, hs, e2, by rw [e1, start_get (by omega)]⟩
  have toOwn : ∀ x, OwnA (vs.map some) (backA as ρ') x → OwnA σ' ρ' x ∧ OwnA (vs.map some) as x := fun x ⟨i, s, l, h1, h2, h3⟩ => by
    rcases fin i s h2 with ⟨d, rfl, _⟩ | ⟨l0, l', rfl, q1, q2, q3⟩
    · cases h3
    · exact ⟨⟨i, _, l', by rw [q3]; exact h1, q2, rfl⟩, ⟨i, _, l0, h1, q1, rfl⟩⟩
  refine ⟨⟨⟨w.st.g, fun x o q k => (w.st.new x o q k).imp id (start_own e), fun x o q k => w.st.fr x o q fun z => k (start_own e z), w.st.th⟩, ⟨backA_len as ρ', fun x h => .inl (toOwn x h).2, fun i l h => ?_⟩, ⟨w.env.same, by rw [backA_len]; exact e.len, fun i v s h1 h2 => ?_, fun i j a s t l m h1 h2 h3 h4 h5 h6 => ?_⟩⟩, fun x h => (toOwn x h).1⟩
  · have hi : i < as.length := (List.getElem?_eq_some_iff.mp h).1
    obtain ⟨_, l', e2⟩ := w.mv.bor i l (by rw [pad_get hi]; exact h)
    exact ⟨rfl, l', backA_bor h e2⟩
  · rcases fin i s h2 with ⟨d, rfl, q1⟩ | ⟨l0, l', rfl, q1, q2, q3⟩
    · have q := e.sl i v _ h1 q1
      cases q with
      | sh r => exact .sh (r.mono w.st.g)
    · exact w.env.sl i v _ (by rw [q3]; exact h1) q2
  · rcases fin i s h3 with ⟨d, rfl, _⟩ | ⟨l0, l', rfl, q1, q2, q3⟩
    · cases h5
    · rcases fin j t h4 with ⟨d, rfl, _⟩ | ⟨m0, m', rfl, q4, q5, q6⟩
      · cases h6
      · exact e.dis i j a _ _ l0 m0 h1 h2 q1 q4 rfl rfl
theorem end_val {N : List Str} {v : V} {d : Vd} (e : EnvR K G H (vs.map some) as) (ha : as.all okArg = true) (w : Way K G H (start N vs) (as ++ List.replicate (n - as.length) .un) G' H' σ' ρ')
    (r : VdR K H (start N vs) (as ++ List.replicate (n - as.length) .un) G' H' σ' ρ' v d) : VdR K H (vs.map some) as G' H' (vs.map some) (backA as ρ') v d := by
  obtain ⟨_, hx⟩ := end_way e ha w
  cases d with
  | sh d => exact r
  | fr l =>
    obtain ⟨a, ws, e1, h0, g, hh, rs, no⟩ := r
    exact ⟨a, ws, e1, h0.imp id (start_own e), g, hh, rs, fun z => no (hx a z)⟩
end
/-- the body of a def, by its data -/
theorem body_imp {cs : List Addr} {K : PySem.W.Frag} {N : List Str} {n k : Nat} {body : M Fl} {vs : List V} {H : Hp} {Q : VK} {E : XK} (hN : N.length = n) (hk : k ≤ n) (h : spD cs K k (runF n body) vs H Q E) :
    tS cs K (fun cls dd _ H' => E cls dd H') body { nx := fun _ H' => Q .non H', rt := Q } (start N vs) H := by
  obtain ⟨hl, G, as, e, h⟩ := h
  refine ⟨G, as ++ List.replicate (n - as.length) .un, start_env e hN (by omega), ?_⟩
  unfold runF at h
  by_cases ha : as.all okArg = true
  · rw [if_pos ha] at h
    cases hb : body (as ++ List.replicate (n - as.length) .un) with
    | bad => rw [hb] at h; exact h
    | exc x ρ' =>
      rw [hb] at h
      exact fun cls dd σ' G' H' w xr => h cls dd G' H' (end_way e ha w).1 xr
    | ok f ρ' =>
      rw [hb] at h
      cases f with
      | nx => exact fun σ' G' H' w => h .non G' H' (end_way e ha w).1 .non
      | rt d => exact fun v σ' G' H' w r => h v G' H' (end_way e ha w).1 (end_val e ha w r)
      | bk => exact h.elim
      | ct => exact h.elim
  · rw [if_neg ha] at h
    exact h.elim
/-- a def of the text keeps its promise -/
theorem fn_ok {P : Program} {w : World} {K : PySem.W.Frag} {mg : Str → Option Value} {base : Heap} {x qual : Str} {st : Stmt} {f : Addr} {fd : FuncData} {N ps : List Str} {k n : Nat} {cs : List Addr} {body : M Fl} (F : Fun K x qual st f fd) (S : FnScope N ps (defScope st))
    (hN : N.length = n) (hp : ps.length ≤ n)
    (hb : ∀ (cdv : Value) (A : Around) (outer : List Env) (s : Shared) (H : Hp) (E : XK), Room k (A.deeper (PyProof.Rows.envOfC qual (defScope st) s.heap.objs.size f cdv)) →
      PSsd cs (fun cls dd _ H' => E cls dd H') (cxOf (L2.CX P w) P w K mg base N qual (defScope st) f cdv A outer s H E) (defBody st) body) :
    FnOk P w K mg base (L2.CX P w) (k + 1) f fd ps (spD cs K ps.length (runF n body)) := by
  refine F.okX S (fun vs H Q E h => h.1) fun cdv A outer s H vs Q E hr h => ⟨tS cs K (fun cls dd _ H' => E cls dd H') body, ?_, body_imp hN hp h⟩
  exact hb cdv A outer s H E hr
end FRT
end
section
set_option Elab.async false
set_option linter.all false
set_option maxRecDepth 100000
set_option maxHeartbeats 4000001
namespace FRT
open PySem L2
/-! ### calls of defs -/
/-- the arguments as slots, and the slots whose own lists are lent -/
def argA : Nat → List Pr → Ro → Option (List Sl × List (Nat × Nat))
  | _, [], _ => some ([], [])
  | n, p :: ps, ρ => match argA (n + 1) ps ρ with
    | none => none
    | some (as, b) => (match p with
      | .d x => some (.sh x :: as, b)
      | .s i => (match ρ[i]? with
        | some (.sh d) => some (.sh d :: as, b)
        | some (.own l) => some (.bor l :: as, (n, i) :: b)
        | some (.bor l) => some (.bor l :: as, (n, i) :: b)
        | _ => none))
def putB (b : List (Nat × Nat)) (as' : List Sl) (ρ : Ro) : Ro := match b with
  | [] => ρ
  | (k, i) :: _ => (match as'[k]? with
    | some (.bor l) => Ro.put ρ i l
    | _ => ρ)
def mcall (fn : List Sl → Rs Vd) (ms : M (List Pr)) : M Vd := fun ρ => (ms ρ).bind fun ps ρ1 => match argA 0 ps ρ1 with
  | none => .bad
  | some (as, b) => if b.length ≤ 1 then (match fn as with
    | .bad => .bad
    | .ok d as' => .ok d (putB b as' ρ1)
    | .exc x as' => .exc x (putB b as' ρ1)) else .bad
section
variable {K : PySem.W.Frag} {G H : Hp} {σ : St} {ρ : Ro}
/-- what the slots of the arguments are -/
theorem argA_sl (e : EnvR K G H σ ρ) : ∀ {ps : List Pr} {n : Nat} {vs : List V} {as : List Sl} {b : List (Nat × Nat)}, PrsR K σ G vs ps → argA n ps ρ = some (as, b) →
    vs.length = as.length ∧ (∀ (k : Nat) (s : Sl), as[k]? = some s → okArg s = true) ∧ (∀ (k : Nat) (v : V) (s : Sl), vs[k]? = some v → as[k]? = some s → SlR K G H (some v) s) ∧
    (b = [] → ∀ (k : Nat) (l : List D), as[k]? ≠ some (.bor l)) ∧
    (∀ k0 i, b = [(k0, i)] → ∃ k l s v, k0 = n + k ∧ as[k]? = some (.bor l) ∧ vs[k]? = some v ∧ σ[i]? = some (some v) ∧ ρ[i]? = some s ∧ s.owned = some l ∧ ∀ (j : Nat) (m : List D), as[j]? = some (.bor m) → j = k)
  | [], _, _, _, _, .nil, h => by
    cases h
    exact ⟨rfl, fun k s z => by simp at z, fun k v s z => by simp at z, fun _ k l => by simp, fun _ i z => by cases z⟩
  | p :: ps, n, v :: vs, as, b, .cons r rs, h => by
    unfold argA at h
    cases hq : argA (n + 1) ps ρ with
    | none => rw [hq] at h; cases h
    | some q =>
      obtain ⟨as0, b0⟩ := q
      rw [hq] at h
      dsimp only at h
      obtain ⟨i1, i2, i3, i4, i5⟩ := argA_sl e rs hq
      -- a shared one in front
      have shared : ∀ d, Rp K G v d → as = .sh d :: as0 → b = b0 → vs.length + 1 = as.length ∧ (∀ (k : Nat) (s : Sl), as[k]? = some s → okArg s = true) ∧ (∀ (k : Nat) (u : V) (s : Sl), (v :: vs)[k]? = some u → as[k]? = some s → SlR K G H (some u) s) ∧
          (b = [] → ∀ (k : Nat) (l : List D), as[k]? ≠ some (.bor l)) ∧
          (∀ k0 i, b = [(k0, i)] → ∃ k l s u, k0 = n + k ∧ as[k]? = some (.bor l) ∧ (v :: vs)[k]? = some u ∧ σ[i]? = some (some u) ∧ ρ[i]? = some s ∧ s.owned = some l ∧ ∀ (j : Nat) (m : List D), as[j]? = some (.bor m) → j = k) := fun d rd ea eb => by
        subst ea eb
        refine ⟨by rw [List.length_cons, i1], fun k s z => ?_, fun k u s z1 z2 => ?_, fun hb k l => ?_, fun k0 i hb => ?_⟩
        · cases k with
          | zero => simp at z; subst z; rfl
          | succ k => exact i2 k s (by simpa using z)
        · cases k with
          | zero => simp at z1 z2; subst z1 z2; exact .sh rd
          | succ k => exact i3 k u s (by simpa using z1) (by simpa using z2)
        · cases k with
          | zero => simp
          | succ k => simpa using i4 hb k l
        · obtain ⟨k, l, s, u, q0, q1, q2, q3, q4, q5, q6⟩ := i5 k0 i hb
          refine ⟨k + 1, l, s, u, by omega, by simpa using q1, by simpa using q2, q3, q4, q5, fun j m hj => ?_⟩
          cases j with
          | zero => simp at hj
          | succ j => rw [q6 j m (by simpa using hj)]
      cases p with
      | d x =>
        dsimp only at h
        cases h
        exact shared x r rfl rfl
      | s i =>
        have hv : σ[i]? = some (some v) := r
        dsimp only at h
        have lent : ∀ l s, ρ[i]? = some s → s.owned = some l → SlR K G H (some v) (.bor l) → as = .bor l :: as0 → b = (n, i) :: b0 → vs.length + 1 = as.length ∧ (∀ (k : Nat) (s : Sl), as[k]? = some s → okArg s = true) ∧ (∀ (k : Nat) (u : V) (s : Sl), (v :: vs)[k]? = some u → as[k]? = some s → SlR K G H (some u) s) ∧
            (b = [] → ∀ (k : Nat) (l : List D), as[k]? ≠ some (.bor l)) ∧
            (∀ k0 i, b = [(k0, i)] → ∃ k l s u, k0 = n + k ∧ as[k]? = some (.bor l) ∧ (v :: vs)[k]? = some u ∧ σ[i]? = some (some u) ∧ ρ[i]? = some s ∧ s.owned = some l ∧ ∀ (j : Nat) (m : List D), as[j]? = some (.bor m) → j = k) := fun l s hs ho rb ea eb => by
          subst ea eb
          refine ⟨by rw [List.length_cons, i1], fun k s z => ?_, fun k u s z1 z2 => ?_, (fun hb => nomatch hb), fun k0 i' hb => ?_⟩
          · cases k with
            | zero => simp at z; subst z; rfl
            | succ k => exact i2 k s (by simpa using z)
          · cases k with
            | zero => simp at z1 z2; subst z1 z2; exact rb
            | succ k => exact i3 k u s (by simpa using z1) (by simpa using z2)
          · have hb0 : b0 = [] := (List.cons.inj hb).2
            have hi' : (n, i) = (k0, i') := (List.cons.inj hb).1
            obtain ⟨z1, z2⟩ := Prod.mk.inj hi'
            subst z2
            refine ⟨0, l, s, v, z1.symm, rfl, rfl, hv, hs, ho, fun j m hj => ?_⟩
            cases j with
            | zero => rfl
            | succ j => exact absurd (by simpa using hj) (i4 hb0 j m)
        cases hs : ρ[i]? with
        | none => rw [hs] at h; cases h
        | some s =>
          rw [hs] at h
          have z := e.sl i _ s hv hs
          cases s with
          | un => cases h
          | sh d =>
            cases h
            cases z with
            | sh rd => exact shared d rd rfl rfl
          | own l =>
            cases h
            cases z with
            | own g x rr => exact lent l _ hs rfl (.bor g x rr) rfl rfl
          | bor l =>
            cases h
            cases z with
            | bor g x rr => exact lent l _ hs rfl (.bor g x rr) rfl rfl
/-- the arguments' state, and back from it -/
theorem arg_env (e : EnvR K G H σ ρ) {ps : List Pr} {vs : List V} {as : List Sl} {b : List (Nat × Nat)} (r : PrsR K σ G vs ps) (h : argA 0 ps ρ = some (as, b)) (hb : b.length ≤ 1) : EnvR K G H (vs.map some) as ∧
    ∀ {G' H' : Hp} {as' : List Sl}, Way K G H (vs.map some) as G' H' (vs.map some) as' → Way K G H σ ρ G' H' σ (putB b as' ρ) ∧ (∀ x, OwnA (vs.map some) as x → OwnA σ ρ x) ∧
      ((∀ x, OwnA σ (putB b as' ρ) x → OwnA (vs.map some) as' x ∨ (OwnA σ ρ x ∧ ¬ OwnA (vs.map some) as x))) := by
  obtain ⟨i1, i2, i3, i4, i5⟩ := argA_sl e r h
  have own1 : ∀ (k : Nat) (s : Sl) (l : List D), as[k]? = some s → s.owned = some l → as[k]? = some (.bor l) := fun k s l h1 h2 => by
    have q := i2 k s h1
    cases s with
    | bor _ => cases h2; exact h1
    | un => cases q
    | own _ => cases q
    | sh _ => cases h2
  have e1 : EnvR K G H (vs.map some) as := by
    refine ⟨e.same, by rw [List.length_map]; exact i1, fun k v s h1 h2 => ?_, fun k j a s t l m h1 h2 h3 h4 h5 h6 => ?_⟩
    · rw [List.getElem?_map] at h1
      cases q : vs[k]? with
      | none => rw [q] at h1; cases h1
      | some u => rw [q] at h1; cases h1; exact i3 k u s q h2
    · have q1 := own1 k s l h3 h5
      have q2 := own1 j t m h4 h6
      match b, hb, i4, i5 with
      | [], _, i4, _ => exact absurd q1 (i4 rfl k l)
      | [(kk, i)], _, _, i5 =>
        obtain ⟨k0, l0, s0, v0, _, _, _, _, _, _, u⟩ := i5 kk i rfl
        rw [u k l q1, u j m q2]
      | _ :: _ :: _, hb, _, _ => simp at hb
  refine ⟨e1, fun {G' H' as'} w => ?_⟩
  match b, hb, i4, i5 with
  | [], _, i4, _ =>
    have none : ∀ x, ¬ OwnA (vs.map some) as x := fun x ⟨k, s, l, h1, h2, h3⟩ => i4 rfl k l (own1 k s l h2 h3)
    have st : Step G H (OwnA σ ρ) G' H' := ⟨w.st.g, fun x o q n => (w.st.new x o q n).imp id fun z => absurd z (none x), fun x o q n => w.st.fr x o q (none x), w.st.th⟩
    have env : EnvR K G' H' σ ρ := ⟨w.env.same, e.len, fun j v s h1 h2 => by
      have q := e.sl j v s h1 h2
      cases q with
      | un => exact .un
      | sh r => exact .sh (r.mono w.st.g)
      | @own a _ _ g x r =>
        refine .own ?_ (w.st.fr _ _ x (none _)) (r.mono w.st.g)
        cases z : G' a with
        | none => rfl
        | some u =>
          rcases w.st.new a u z g with z2 | z2
          · rw [x] at z2; cases z2
          · exact absurd z2 (none _)
      | @bor a _ _ g x r =>
        refine .bor ?_ (w.st.fr _ _ x (none _)) (r.mono w.st.g)
        cases z : G' a with
        | none => rfl
        | some u =>
          rcases w.st.new a u z g with z2 | z2
          · rw [x] at z2; cases z2
          · exact absurd z2 (none _), e.dis⟩
    exact ⟨⟨st, .refl, env⟩, fun x z => absurd z (none x), fun x z => .inr ⟨z, none x⟩⟩
  | [(kk, i)], _, _, i5 =>
    obtain ⟨k, l, s, v, q0, q1, q2, q3, q4, q5, u⟩ := i5 kk i rfl
    rw [Nat.zero_add] at q0
    subst q0
    obtain ⟨a, ws, ha, hg, hh, rl⟩ := own_at e q4 q5
    rw [q3] at ha
    cases ha
    have oa : OwnA σ ρ a := ⟨i, s, l, q3, q4, q5⟩
    have only : ∀ x, OwnA (vs.map some) as x → x = a := fun x ⟨j, t, m, h1, h2, h3⟩ => by
      have := u j m (own1 j t m h2 h3)
      subst this
      rw [List.getElem?_map, q2] at h1
      cases h1
      rfl
    have isa : OwnA (vs.map some) as a := ⟨kk, _, l, by rw [List.getElem?_map, q2]; rfl, q1, rfl⟩
    obtain ⟨_, l', z2⟩ := w.mv.bor kk l q1
    have sl' := w.env.sl kk _ _ (by rw [List.getElem?_map, q2]; rfl) z2
    have hp : putB [(kk, i)] as' ρ = ρ.set i (s.put l') := by
      unfold putB Ro.put
      simp only [z2, q4]
    rw [hp]
    cases sl' with
    | @bor _ ws' _ g' x' r' =>
      have hi : i < ρ.length := (List.getElem?_eq_some_iff.mp q4).1
      have st : Step G H (OwnA σ ρ) G' H' := ⟨w.st.g, fun x o q n => (w.st.new x o q n).imp id fun z => by rw [only x z]; exact oa, fun x o q n => w.st.fr x o q fun z => n (by rw [only x z]; exact oa), w.st.th⟩
      have gets : ∀ (j : Nat) (t : Sl), (ρ.set i (s.put l'))[j]? = some t → (i = j ∧ t = s.put l') ∨ (i ≠ j ∧ ρ[j]? = some t) := fun j t h => by
        by_cases ij : i = j
        · subst ij
          rw [List.getElem?_set] at h
          simp only [if_pos] at h
          rw [if_pos hi] at h
          cases h
          exact .inl ⟨rfl, rfl⟩
        · rw [List.getElem?_set_ne ij] at h
          exact .inr ⟨ij, h⟩
      have ownback : ∀ x, OwnA σ (ρ.set i (s.put l')) x → OwnA σ ρ x := fun x ⟨j, t, n, y1, y2, y3⟩ => by
        rcases gets j t y2 with ⟨ij, rfl⟩ | ⟨ij, q⟩
        · subst ij; exact ⟨i, s, l, y1, q4, q5⟩
        · exact ⟨j, t, n, y1, q, y3⟩
      have away : ∀ (j : Nat) (t : Sl) (m : List D) (b : Addr), i ≠ j → σ[j]? = some (some (.ref b)) → ρ[j]? = some t → t.owned = some m → ¬ OwnA (vs.map some) as b := fun j t m b ij y1 y2 y3 z => by
        have := only b z
        subst this
        exact ij (e.dis i j b s t l m q3 y1 q4 y2 q5 y3)
      refine ⟨⟨st, ⟨List.length_set, fun x h => .inl (ownback x h), fun j n h => ⟨rfl, ?_⟩⟩, ⟨w.env.same, by rw [List.length_set]; exact e.len, fun j u t y1 y2 => ?_, fun j k' b t u n o y1 y2 y3 y4 y5 y6 => ?_⟩⟩, fun x z => by rw [only x z]; exact oa, fun x z => ?_⟩
      · by_cases ij : i = j
        · subst ij
          rw [q4] at h
          cases h
          exact ⟨l', by rw [List.getElem?_set]; simp only [if_pos]; rw [if_pos hi]; rfl⟩
        · exact ⟨n, by rw [List.getElem?_set_ne ij]; exact h⟩
      · rcases gets j t y2 with ⟨ij, rfl⟩ | ⟨ij, q⟩
        · subst ij
          rw [q3] at y1
          cases y1
          cases s with
          | un => cases q5
          | sh _ => cases q5
          | own _ => exact .own g' x' r'
          | bor _ => exact .bor g' x' r'
        · have z := e.sl j u t y1 q
          cases z with
          | un => exact .un
          | sh r => exact .sh (r.mono w.st.g)
          | @own b _ _ g x r =>
            have no := away j _ _ b ij y1 q rfl
            refine .own ?_ (w.st.fr _ _ x no) (r.mono w.st.g)
            cases z : G' b with
            | none => rfl
            | some v' =>
              rcases w.st.new b v' z g with z2 | z2
              · rw [x] at z2; cases z2
              · exact absurd z2 no
          | @bor b _ _ g x r =>
            have no := away j _ _ b ij y1 q rfl
            refine .bor ?_ (w.st.fr _ _ x no) (r.mono w.st.g)
            cases z : G' b with
            | none => rfl
            | some v' =>
              rcases w.st.new b v' z g with z2 | z2
              · rw [x] at z2; cases z2
              · exact absurd z2 no
      · have f : ∀ (j : Nat) (t : Sl) (n : List D), (ρ.set i (s.put l'))[j]? = some t → t.owned = some n → ∃ t' n', ρ[j]? = some t' ∧ t'.owned = some n' := fun j t n h h' => by
          rcases gets j t h with ⟨ij, rfl⟩ | ⟨ij, q⟩
          · subst ij; exact ⟨s, l, q4, q5⟩
          · exact ⟨t, n, q, h'⟩
        obtain ⟨t', n', w1, w2⟩ := f j t n y3 y5
        obtain ⟨u', o', w3, w4⟩ := f k' u o y4 y6
        exact e.dis j k' b t' u' n' o' y1 y2 w1 w3 w2 w4
      · by_cases hx : x = a
        · subst hx
          exact .inl ⟨kk, _, l', by rw [List.getElem?_map, q2]; rfl, z2, rfl⟩
        · exact .inr ⟨ownback x z, fun z2 => hx (only x z2)⟩
  | _ :: _ :: _, hb, _, _ => simp at hb
end
end FRT
end
section
set_option Elab.async false
set_option linter.all false
set_option maxRecDepth 100000
set_option maxHeartbeats 4000001
namespace FRT
open PySem L2
/-- what a call makes of its arguments -/
def callR (n : Nat) (fn : List Sl → Rs Vd) (ps : List Pr) (ρ1 : Ro) : Rs Vd := match argA 0 ps ρ1 with
  | none => .bad
  | some (as, b) => if b.length ≤ 1 ∧ as.length = n then (match fn as with
    | .bad => .bad
    | .ok d as' => .ok d (putB b as' ρ1)
    | .exc x as' => .exc x (putB b as' ρ1)) else .bad
def mcalln (n : Nat) (fn : List Sl → Rs Vd) (ms : M (List Pr)) : M Vd := fun ρ => (ms ρ).bind fun ps ρ1 => callR n fn ps ρ1
section
variable {cs : List Addr} {K : PySem.W.Frag} {W : WX} {G H : Hp} {σ : St} {ρ : Ro} {n : Nat} {fn : List Sl → Rs Vd} {ps : List Pr} {vs : List V} {Q : VK}
theorem call_sp (e : EnvR K G H σ ρ) (r : PrsR K σ G vs ps) (h : Pg cs K W σ (rE K σ) G H ρ (callR n fn ps ρ) Q) : spD cs K n fn vs H Q (WE W σ) := by
  unfold callR at h
  cases ha : argA 0 ps ρ with
  | none => rw [ha] at h; exact h.elim
  | some q =>
    obtain ⟨as, b⟩ := q
    rw [ha] at h
    dsimp only at h
    by_cases hb : b.length ≤ 1 ∧ as.length = n
    · rw [if_pos hb] at h
      obtain ⟨e1, back⟩ := arg_env e r ha hb.1
      have hl := e1.len
      rw [List.length_map] at hl
      refine ⟨by omega, G, as, e1, ?_⟩
      cases hf : fn as with
      | bad => rw [hf] at h; exact h
      | exc x as' =>
        rw [hf] at h
        exact fun cls dd G' H' w xr => h cls dd G' H' (back w).1 xr
      | ok d as' =>
        rw [hf] at h
        intro v G' H' w rv
        obtain ⟨w2, o1, o2⟩ := back w
        refine h v G' H' w2 ?_
        cases d with
        | sh d => exact rv
        | fr l =>
          obtain ⟨a, ws, e2, h0, g, hh, rs, no⟩ := rv
          refine ⟨a, ws, e2, h0.imp id (o1 a), g, hh, rs, fun z => ?_⟩
          rcases o2 a z with q | ⟨q, q2⟩
          · exact no q
          · rcases h0 with z2 | z2
            · obtain ⟨_, ys, z3⟩ := e.ownH q
              rw [z2] at z3; cases z3
            · exact q2 z2
    · rw [if_neg hb] at h
      exact h.elim
end
/-- one argument that is lent for the call alone -/
def mcallT (fn : List Sl → Rs Vd) (m : M Vd) : M Vd := fun ρ => (m ρ).bind fun d ρ1 => match d with
  | .sh x => (match fn [.sh x] with
    | .bad => .bad
    | .ok d _ => .ok d ρ1
    | .exc x _ => .exc x ρ1)
  | .fr l => (match fn [.bor l] with
    | .bad => .bad
    | .ok d _ => .ok d ρ1
    | .exc x _ => .exc x ρ1)
theorem Pg.bind0 {cs : List Addr} {K : PySem.W.Frag} {W : WX} {σ : St} {α β γ δ : Type} {R1 : Hp → Ro → Hp → Hp → Ro → γ → α → Prop} {R2 : Hp → Ro → Hp → Hp → Ro → δ → β → Prop} {G H : Hp} {ρ : Ro} {r : Rs α} {k : α → M β} {Q : δ → Hp → Prop} {Q1 : γ → Hp → Prop} (h : Pg cs K W σ R2 G H ρ (r.bind k) Q)
    (hk : ∀ a ρ1 v G1 H1, Way K G H σ ρ G1 H1 σ ρ1 → R1 H ρ G1 H1 ρ1 v a → Pg cs K W σ R2 G H ρ (k a ρ1) Q → Q1 v H1) : Pg cs K W σ R1 G H ρ r Q1 := by
  cases r with
  | bad => exact h
  | ok a ρ' => exact fun v G' H' w q => hk a ρ' v G' H' w q h
  | exc x ρ' => exact h
section
variable {K : PySem.W.Frag} {G H G1 H1 G' H' : Hp} {σ : St} {ρ ρ1 : Ro} {a : Addr} {l : List D} {ws : List V} {as' : List Sl}
/-- a list of nobody's is lent, and let go -/
theorem temp_env (w : Way K G H σ ρ G1 H1 σ ρ1) (h0 : H a = none ∨ OwnA σ ρ a) (hg : G1 a = none) (hh : H1 a = some (.lst ws)) (r : Rps K G1 ws l) (no : ¬ OwnA σ ρ1 a) :
    EnvR K G1 H1 (([V.ref a] : List V).map some) [.bor l] ∧ (Way K G1 H1 (([V.ref a] : List V).map some) [.bor l] G' H' (([V.ref a] : List V).map some) as' → Way K G H σ ρ G' H' σ ρ1) := by
  have only : ∀ x, OwnA (([V.ref a] : List V).map some) [.bor l] x → x = a := fun x ⟨i, s, m, h1, h2, h3⟩ => by
    cases i with
    | zero => cases h1; rfl
    | succ i => simp at h1
  refine ⟨⟨w.env.same, rfl, fun i v s h1 h2 => ?_, fun i j b s t m n h1 h2 h3 h4 h5 h6 => ?_⟩, fun w2 => ?_⟩
  · cases i with
    | zero => cases h1; cases h2; exact .bor hg hh r
    | succ i => simp at h1
  · cases i with
    | zero =>
      cases j with
      | zero => rfl
      | succ j => simp at h2
    | succ i => simp at h1
  · have away : ∀ b, OwnA σ ρ1 b → ¬ OwnA (([V.ref a] : List V).map some) [.bor l] b := fun b hb z => no (by rw [← only b z]; exact hb)
    refine ⟨⟨w.st.g.trans w2.st.g, fun x o q n => ?_, fun x o q n => ?_, fun x q => w.st.th x (w2.st.th x q)⟩, w.mv, ⟨w2.env.same, w.env.len, fun i v s h1 h2 => ?_, w.env.dis⟩⟩
    · cases z : G1 x with
      | some u => exact w.st.new x u z n
      | none =>
        rcases w2.st.new x o q z with y | y
        · exact .inl (w.st.th x y)
        · rw [only x y]; exact h0
    · refine w2.st.fr x o (w.st.fr x o q n) fun y => ?_
      rw [only x y] at q n
      rcases h0 with z | z
      · rw [z] at q; cases q
      · exact n z
    · have z := w.env.sl i v s h1 h2
      cases z with
      | un => exact .un
      | sh r => exact .sh (r.mono w2.st.g)
      | @own b _ _ g x r =>
        have nb := away b ⟨i, _, _, h1, h2, rfl⟩
        refine .own ?_ (w2.st.fr _ _ x nb) (r.mono w2.st.g)
        cases z : G' b with
        | none => rfl
        | some u =>
          rcases w2.st.new b u z g with y | y
          · rw [x] at y; cases y
          · exact absurd y nb
      | @bor b _ _ g x r =>
        have nb := away b ⟨i, _, _, h1, h2, rfl⟩
        refine .bor ?_ (w2.st.fr _ _ x nb) (r.mono w2.st.g)
        cases z : G' b with
        | none => rfl
        | some u =>
          rcases w2.st.new b u z g with y | y
          · rw [x] at y; cases y
          · exact absurd y nb
end
section
variable {X : Cx} {cs : List Addr} {W : WX} {e : Expr} {es : List Expr} {ms mk : M (List Pr)} {m : M Vd} {x : Str} {f : Addr} {fd : FuncData} {ps ks : List Str} {k n : Nat} {fn : List Sl → Rs Vd} {p pos kpos : Pos} {kws : List Keyword} {nm : Option Str} {ma : M Pr}
theorem pd_call (F : FnOk X.prog X.w X.K X.mg X.base (L2.CX X.prog X.w) k f fd ps (spD cs X.K n fn)) (hr : Room k X.A) (hg : Gl X x) (hm : X.mg x = some (.ref f)) (hk : PySem.W.keepIn X.K (.ref f) = true) (hb : Binds X.K fd ps []) (tk : Takes X W)
    (ha : PR cs W X (e :: es) ms) (hdb : (x == ("__debug__" : Str)) = false := by decide) (he : starEach (e :: es) X.env = (false, eval e X.env) :: starEach es X.env := by rfl) (hpl : (backTo pos (starEach es X.env)).any (·.1) = false := by rfl) :
    PD cs W X (.Call (.Name x p) (e :: es) [] pos) (mcalln n fn ms) :=
  pe_imp (pe_callS F hr hg hm hk hb (fun σ => passAt tk σ) ha hdb he hpl) fun σ H Q ⟨G, ρ, e0, q⟩ => ⟨G, ρ, e0, Pg.bind anE q fun ps ρ1 vs G1 H1 w1 r1 h1 => call_sp w1.env r1 (h1 G1 w1)⟩
theorem pd_callT (F : FnOk X.prog X.w X.K X.mg X.base (L2.CX X.prog X.w) k f fd ps (spD cs X.K 1 fn)) (hr : Room k X.A) (hg : Gl X x) (hm : X.mg x = some (.ref f)) (hk : PySem.W.keepIn X.K (.ref f) = true) (hb : Binds X.K fd ps []) (tk : Takes X W)
    (ha : PD cs W X e m) (hdb : (x == ("__debug__" : Str)) = false := by decide) (he : starEach (e :: []) X.env = (false, eval e X.env) :: starEach [] X.env := by rfl) :
    PD cs W X (.Call (.Name x p) (e :: []) [] pos) (mcallT fn m) :=
  pe_imp (pe_callS F hr hg hm hk hb (fun σ => passAt tk σ) (pa_cons ha pa_nil he) hdb he rfl) fun σ H Q ⟨G, ρ, e0, q⟩ => ⟨G, ρ, e0, Pg.bind0 q fun d ρ1 v G1 H1 w1 r1 h1 => by
    cases d with
    | sh x =>
      have ew : EnvR X.K G1 H1 (([v] : List V).map some) [.sh x] := ⟨w1.env.same, rfl, fun i u s z1 z2 => by
        cases i with
        | zero => cases z1; cases z2; exact .sh r1
        | succ i => simp at z1, fun i j b s t m n z1 z2 z3 z4 z5 z6 => by
        cases i with
        | zero => cases z3; cases z5
        | succ i => simp at z1⟩
      have none : ∀ y, ¬ OwnA (([v] : List V).map some) [.sh x] y := fun y ⟨i, s, l, z1, z2, z3⟩ => by
        cases i with
        | zero => cases z2; cases z3
        | succ i => simp at z1
      -- back
      have back : ∀ {G' H' : Hp} {as' : List Sl}, Way X.K G1 H1 (([v] : List V).map some) [.sh x] G' H' (([v] : List V).map some) as' → Way X.K G H σ ρ G' H' σ ρ1 := fun {G' H' as'} w2 => by
        refine w1.trans ⟨⟨w2.st.g, fun y o z1 z2 => (w2.st.new y o z1 z2).imp id fun z => absurd z (none y), fun y o z1 _ => w2.st.fr y o z1 (none y), w2.st.th⟩, .refl, ⟨w2.env.same, w1.env.len, fun i u s z1 z2 => ?_, w1.env.dis⟩⟩
        have z := w1.env.sl i u s z1 z2
        cases z with
        | un => exact .un
        | sh r => exact .sh (r.mono w2.st.g)
        | @own b _ _ g y r =>
          refine .own ?_ (w2.st.fr _ _ y (none b)) (r.mono w2.st.g)
          cases q : G' b with
          | none => rfl
          | some u =>
            rcases w2.st.new b u q g with q2 | q2
            · rw [y] at q2; cases q2
            · exact absurd q2 (none b)
        | @bor b _ _ g y r =>
          refine .bor ?_ (w2.st.fr _ _ y (none b)) (r.mono w2.st.g)
          cases q : G' b with
          | none => rfl
          | some u =>
            rcases w2.st.new b u q g with q2 | q2
            · rw [y] at q2; cases q2
            · exact absurd q2 (none b)
      refine ⟨rfl, G1, [.sh x], ew, ?_⟩
      dsimp only at h1
      cases hf : fn [.sh x] with
      | bad => rw [hf] at h1; exact h1
      | exc y as' => rw [hf] at h1; exact fun cls dd G' H' w xr => h1 cls dd G' H' (back w) xr
      | ok d as' =>
        rw [hf] at h1
        intro u G' H' w rv
        refine h1 u G' H' (back w) ?_
        cases d with
        | sh d => exact rv
        | fr l =>
          obtain ⟨a, ws, e2, z0, g, hh, rs, no⟩ := rv
          have n1 : H1 a = .none := z0.elim id fun z => absurd z (none a)
          refine ⟨a, ws, e2, .inl (w1.st.th a n1), g, hh, rs, fun z => ?_⟩
          obtain ⟨_, ys, z3⟩ := w1.env.ownH z
          rw [n1] at z3; cases z3
    | fr l =>
      obtain ⟨a, ws, rfl, h0, g, hh, rs, no⟩ := r1
      dsimp only at h1
      refine ⟨rfl, G1, [.bor l], (temp_env (G' := G1) (H' := H1) (as' := []) w1 h0 g hh rs no).1, ?_⟩
      cases hf : fn [.bor l] with
      | bad => rw [hf] at h1; exact h1
      | exc y as' => rw [hf] at h1; exact fun cls dd G' H' w xr => h1 cls dd G' H' ((temp_env w1 h0 g hh rs no).2 w) xr
      | ok d as' =>
        rw [hf] at h1
        intro u G' H' w rv
        have w3 := (temp_env w1 h0 g hh rs no).2 w
        refine h1 u G' H' w3 ?_
        cases d with
        | sh d => exact rv
        | fr m =>
          obtain ⟨b, xs, e2, z0, g2, hh2, rs2, no2⟩ := rv
          have oa : ∀ y, OwnA (([V.ref a] : List V).map some) [.bor l] y → y = a := fun y ⟨i, s, n, z1, z2, z3⟩ => by
            cases i with
            | zero => cases z1; rfl
            | succ i => simp at z1
          refine ⟨b, xs, e2, ?_, g2, hh2, rs2, fun z => ?_⟩
          · rcases z0 with z | z
            · exact .inl (w1.st.th b z)
            · rw [oa b z]; exact h0
          · rcases z0 with y | y
            · obtain ⟨_, ys, z3⟩ := w1.env.ownH z
              rw [y] at z3; cases z3
            · rw [oa b y] at z; exact no z⟩
end
end FRT
end
section
set_option Elab.async false
set_option linter.all false
set_option maxRecDepth 100000
set_option maxHeartbeats 4000001
namespace FRT
open PySem L2
/-! ### calls with keywords -/
def pick {α : Type} (ix : List Nat) (l : List α) : List α := ix.filterMap fun j => l[j]?
theorem PrsR.get {K : PySem.W.Frag} {σ : St} {G : Hp} : ∀ {vs : List V} {ps : List Pr} (j : Nat), PrsR K σ G vs ps → (vs[j]? = none ∧ ps[j]? = none) ∨ ∃ v p, vs[j]? = some v ∧ ps[j]? = some p ∧ PrR K σ G v p
  | _, _, _, .nil => .inl ⟨by simp, by simp⟩
  | _, _, 0, .cons r _ => .inr ⟨_, _, rfl, rfl, r⟩
  | _, _, j + 1, .cons _ rs => by simpa using PrsR.get j rs
theorem PrsR.pick {K : PySem.W.Frag} {σ : St} {G : Hp} {vs : List V} {ps : List Pr} (r : PrsR K σ G vs ps) : ∀ ix : List Nat, PrsR K σ G (FRT.pick ix vs) (FRT.pick ix ps)
  | [] => .nil
  | j :: ix => by
    have ih := PrsR.pick r ix
    unfold FRT.pick at ih ⊢
    rw [List.filterMap_cons, List.filterMap_cons]
    rcases r.get j with ⟨h1, h2⟩ | ⟨v, p, h1, h2, h3⟩
    · rw [h1, h2]; exact ih
    · rw [h1, h2]; exact .cons h3 ih
theorem PrsR.app {K : PySem.W.Frag} {σ : St} {G : Hp} : ∀ {vs ws : List V} {ps qs : List Pr}, PrsR K σ G vs ps → PrsR K σ G ws qs → PrsR K σ G (vs ++ ws) (ps ++ qs)
  | _, _, _, _, .nil, s => s
  | _, _, _, _, .cons r t, s => .cons r (PrsR.app t s)
theorem valsGet : ∀ {vs : List V} {us : List Value} (j : Nat), Vals vs us → (vs[j]? = none ∧ us[j]? = none) ∨ ∃ v u, vs[j]? = some v ∧ us[j]? = some u ∧ RelV v u
  | _, _, _, .nil => .inl ⟨by simp, by simp⟩
  | _, _, 0, .cons r _ => .inr ⟨_, _, rfl, rfl, r⟩
  | _, _, j + 1, .cons _ rs => by simpa using valsGet j rs
theorem valsPick {vs : List V} {us : List Value} (r : Vals vs us) : ∀ ix : List Nat, Vals (pick ix vs) (pick ix us)
  | [] => .nil
  | j :: ix => by
    have ih := valsPick r ix
    unfold pick at ih ⊢
    rw [List.filterMap_cons, List.filterMap_cons]
    rcases valsGet j r with ⟨h1, h2⟩ | ⟨v, p, h1, h2, h3⟩
    · rw [h1, h2]; exact ih
    · rw [h1, h2]; exact .cons h3 ih
/-- how keywords come to parameters: ix tells for each parameter its place among the written arguments -/
def KwB (K : PySem.W.Frag) (fd : FuncData) (ps ks : List Str) (n : Nat) (ix : List Nat) : Prop :=
  ∀ (s : Shared) (us ws : List Value), K.In s.heap → us.length = n → ws.length = ks.length → BindsTo s fd ⟨us, ks.zip ws⟩ (ps.zip (pick ix (us ++ ws)))
abbrev PKr (cs : List Addr) (W : WX) (X : Cx) (kws : List Keyword) (m : M (List Pr)) : Prop := PK X kws (tPs cs X.K W m)
theorem pk_imp {X : Cx} {kws : List Keyword} {t t' : TA} (h : PK X kws t) (i : ∀ σ H Q, t' σ H Q → t σ H Q) : PK X kws t' := ⟨fun p pins s σ H Q I q => h.run p pins s σ H Q I (i σ H Q q)⟩
def mcallk (n : Nat) (fn : List Sl → Rs Vd) (np nk : Nat) (ix : List Nat) (ms mk : M (List Pr)) : M Vd := fun ρ => (ms ρ).bind fun ps ρ1 => (mk ρ1).bind fun qs ρ2 => if ps.length = np ∧ qs.length = nk then callR n fn (pick ix (ps ++ qs)) ρ2 else .bad
theorem PrsR.len {K : PySem.W.Frag} {σ : St} {G : Hp} : ∀ {vs : List V} {ps : List Pr}, PrsR K σ G vs ps → vs.length = ps.length
  | _, _, .nil => rfl
  | _, _, .cons _ rs => congrArg (· + 1) rs.len
theorem valsLen : ∀ {vs : List V} {us : List Value}, Vals vs us → us.length = vs.length
  | _, _, .nil => rfl
  | _, _, .cons _ rs => congrArg (· + 1) (valsLen rs)
section
variable {X : Cx} {cs : List Addr} {W : WX} {e : Expr} {es : List Expr} {ms mk : M (List Pr)} {m : M Vd} {x : Str} {f : Addr} {fd : FuncData} {ps ks : List Str} {k n np : Nat} {fn : List Sl → Rs Vd} {p pos kpos : Pos} {kws : List Keyword} {nm : Option Str} {ma : M Pr} {ix : List Nat}
theorem kr_nil : PKr cs W X [] mpn := pk_imp pk_nil fun σ H Q ⟨G, ρ, e, q⟩ => q [] G H (.refl e) .nil
theorem kr_cons (ha : PO2 cs W X e ma) (hr : PKr cs W X kws ms) : PKr cs W X (⟨nm, e, kpos⟩ :: kws) (mpc ma ms) :=
  pk_imp (pk_cons ha hr) fun σ H Q ⟨G, ρ, e0, h⟩ => ⟨G, ρ, e0, Pg.bind anPs h fun d ρ1 v G1 H1 w1 r1 h1 =>
    ⟨G1, ρ1, w1.env, Pg.bind anPs (h1 G1 w1) fun ds ρ2 vs G3 H3 w3 r3 h3 => h3 G3 w3 _ G3 H3 (.refl w3.env) (.cons (PrR.mono w3.st.g r1) r3)⟩⟩
/-- the callee runs, its arguments arranged -/
theorem runK {pins : List (Addr × Obj)} {σ : St} {H : Hp} {s : Shared} {Q : VK} {us ws : List Value} {vs zs : List V} {sp : Sp} {E : XK} (F : FnOk X.prog X.w X.K X.mg X.base (L2.CX X.prog X.w) k f fd ps sp) (hr : Room k X.A) (hb : KwB X.K fd ps ks np ix) (hx : PassesAt (L2.CX X.prog X.w) X σ E)
    (J : Inv X pins σ H s) (r : Vals vs us) (rz : Vals zs ws) (l1 : us.length = np) (l2 : ws.length = ks.length) (h : sp (pick ix (vs ++ zs)) H Q E) : wpAny (model X.prog X.w) X.A (call (.ref f) us (ks.zip ws)) (EP X pins σ Q) X.xe s := by
  have rr := valsPick (r.append rz) ix
  refine wpAny_call (codeAny_mono (F.run X.A X.stack s H ⟨us, ks.zip ws⟩ (pick ix (us ++ ws)) (pick ix (vs ++ zs)) Q E hr J.env0 (hb s us ws J.kIn l1 l2) rr h) fun res s' hq => ?_)
  cases res with
  | error er => exact hx pins H s er s' J hq
  | ok fl =>
    cases fl with
    | ret u => exact J.after hq
    | next => exact hq.elim
    | brk => exact hq.elim
    | cont => exact hq.elim
/-- f(.., k = e, ..) -/
theorem pd_callk (F : FnOk X.prog X.w X.K X.mg X.base (L2.CX X.prog X.w) k f fd ps (spD cs X.K n fn)) (hr : Room k X.A) (hg : Gl X x) (hm : X.mg x = some (.ref f)) (hk : PySem.W.keepIn X.K (.ref f) = true) (hb : KwB X.K fd ps ks np ix) (tk : Takes X W)
    (ha : PR cs W X (e :: es) ms) (hkw : PKr cs W X kws mk) (hall : (backToKw pos (keywordEach kws X.env)).all (·.1.isSome) = true := by rfl) (hks : (backToKw pos (keywordEach kws X.env)).filterMap (·.1) = ks := by rfl)
    (hdb : (x == ("__debug__" : Str)) = false := by decide) (he : starEach (e :: es) X.env = (false, eval e X.env) :: starEach es X.env := by rfl)
    (hpl : ((backTo pos (starEach (e :: es) X.env)).any (·.1) || (backToKw pos (keywordEach kws X.env)).any (·.1.isNone)) = false := by rfl) :
    PD cs W X (.Call (.Name x p) (e :: es) kws pos) (mcallk n fn np ks.length ix ms mk) := by
  refine ⟨fun pins s σ H Q J h => ?_⟩
  obtain ⟨G, ρ, e0, q⟩ := h
  refine wpAny_Call_Name_kw (ld_glob J hg hm ?_ hdb)
  have h1 : tPs cs X.K W ms σ H (fun vs H1 => tPs cs X.K W mk σ H1 fun zs H2 => vs.length = np ∧ zs.length = ks.length ∧ spD cs X.K n fn (pick ix (vs ++ zs)) H2 Q (WE W σ)) := by
    refine ⟨G, ρ, e0, Pg.bind anE q fun ps1 ρ1 vs G1 H1 w1 r1 h1 => ⟨G1, ρ1, w1.env, Pg.bind anE (h1 G1 w1) fun qs ρ2 zs G2 H2 w2 r2 h2 => ?_⟩⟩
    have h3 := h2 G2 w2
    by_cases c : ps1.length = np ∧ qs.length = ks.length
    · rw [if_pos c] at h3
      exact ⟨r1.len.trans c.1, r2.len.trans c.2, call_sp w2.env ((r1.mono w2.st.g).app r2 |>.pick ix) h3⟩
    · rw [if_neg c] at h3
      exact h3.elim
  refine PySem.W.callWith_KW (h₀ := X.base) J.ok.mod.kin hk hall (thn (ha.run pos pins s σ H _ J h1) fun us s1 ⟨vs, H1, I1, r, q1⟩ => ?_) hpl he
  refine thn (hkw.run pos pins s1 σ H1 _ I1 q1) fun ws s2 ⟨zs, H2, I2, rz, q2⟩ => ⟨I2.kIn, ?_⟩
  rw [hks]
  exact runK F hr hb (passAt tk σ) I2 r rz ((valsLen r).trans q2.1) ((valsLen rz).trans q2.2.1) q2.2.2
/-- f(k = e, ..) -/
theorem pd_callk0 (F : FnOk X.prog X.w X.K X.mg X.base (L2.CX X.prog X.w) k f fd ps (spD cs X.K n fn)) (hr : Room k X.A) (hg : Gl X x) (hm : X.mg x = some (.ref f)) (hk : PySem.W.keepIn X.K (.ref f) = true) (hb : KwB X.K fd ps ks 0 ix) (tk : Takes X W)
    (hkw : PKr cs W X kws mk) (hall : (backToKw pos (keywordEach kws X.env)).all (·.1.isSome) = true := by rfl) (hks : (backToKw pos (keywordEach kws X.env)).filterMap (·.1) = ks := by rfl)
    (hdb : (x == ("__debug__" : Str)) = false := by decide)
    (hpl : ((backTo pos (starEach [] X.env)).any (·.1) || (backToKw pos (keywordEach kws X.env)).any (·.1.isNone)) = false := by rfl) :
    PD cs W X (.Call (.Name x p) [] kws pos) (mcallk n fn 0 ks.length ix mpn mk) := by
  refine ⟨fun pins s σ H Q J h => ?_⟩
  obtain ⟨G, ρ, e0, q⟩ := h
  refine wpAny_Call_Name_kw (ld_glob J hg hm ?_ hdb)
  have h1 : tPs cs X.K W mk σ H (fun zs H2 => zs.length = ks.length ∧ spD cs X.K n fn (pick ix ([] ++ zs)) H2 Q (WE W σ)) := by
    refine ⟨G, ρ, e0, Pg.bind anE (show Pg cs X.K W σ _ G H ρ ((mk ρ).bind fun qs ρ2 => if ([] : List Pr).length = 0 ∧ qs.length = ks.length then callR n fn (pick ix ([] ++ qs)) ρ2 else .bad) Q from q) fun qs ρ2 zs G2 H2 w2 r2 h2 => ?_⟩
    have h3 := h2 G2 w2
    by_cases c : ([] : List Pr).length = 0 ∧ qs.length = ks.length
    · rw [if_pos c] at h3
      exact ⟨r2.len.trans c.2, call_sp w2.env (r2.pick ix) h3⟩
    · rw [if_neg c] at h3
      exact h3.elim
  refine PySem.W.callWith_KW0 (h₀ := X.base) J.ok.mod.kin hk hall (thn (hkw.run pos pins s σ H _ J h1) fun ws s2 ⟨zs, H2, I2, rz, q2⟩ => ⟨I2.kIn, ?_⟩) hpl
  rw [hks]
  exact runK F hr hb (passAt tk σ) I2 .nil rz rfl ((valsLen rz).trans q2.1) q2.2
end
end FRT
end
section
set_option Elab.async false
set_option linter.all false
set_option maxRecDepth 100000
set_option maxHeartbeats 4000001
namespace FRT
open PySem L2
/-! ### kinds -/
inductive Tn where | bl | int | str | lst | tup
def Tn.nm : Tn → String
  | .bl => "bool" | .int => "int" | .str => "str" | .lst => "list" | .tup => "tuple"
def isT : Tn → D → Option Bool
  | _, .exn _ _ => none
  | _, .dct _ => none
  | .bl, .bl _ => some true
  | .int, .bl _ => some true
  | .int, .int _ => some true
  | .str, .str _ => some true
  | .lst, .lst _ => some true
  | .lst, .scr _ => some true
  | .tup, .tup _ => some true
  | _, _ => some false
def tyD : D → String
  | .non => "NoneType" | .bl _ => "bool" | .int _ => "int" | .str _ => "str" | .tup _ => "tuple" | .lst _ => "list" | .scr _ => "list" | .dct _ => "dict" | .exn _ _ => "-"
theorem isT_kit {T : Tn} {d : D} {b : Bool} (h : isT T d = some b) : kitB (tyD d) T.nm = some b := by
  cases T <;> cases d <;> cases h <;> (dsimp only [tyD, Tn.nm]; decide +kernel)
section
variable {K : PySem.W.Frag} {G H : Hp} {v : V} {d : D} {T : Tn} {b : Bool}
theorem sqL_ty {a : Addr} {xs : List V} (h : SqL K H a xs) : TyX K H (.ref a) (.type "list") := by
  rcases h with (h | ⟨o, h⟩) | ⟨o, its, n, h1, h2, _⟩
  · exact .base (.lst h)
  · exact .base (.frz h)
  · exact .kList h1 h2
theorem sqT_ty {a : Addr} {xs : List V} (h : SqT K H a xs) : TyX K H (.ref a) (.type "tuple") := by
  rcases h with (h | ⟨o, h⟩) | ⟨o, its, n, h1, h2, _⟩
  · exact .base (.tup h)
  · exact .fTuple h
  · exact .kTuple h1 h2
theorem VwR.ty (e : Same G H) (r : VwR K G H v d) (h : isT T d = some b) : TyX K H v (.type (tyD d)) := by
  cases d with
  | non => rw [r.non]; exact .base .non
  | bl x => rw [r.bl]; exact .base (.bl x)
  | int x => rw [r.int]; exact .base (.int x)
  | str x => rw [r.str]; exact .base (.str x)
  | tup l => obtain ⟨a, vs, rfl, ha, _⟩ := r.tup e; exact sqT_ty ha
  | lst l => obtain ⟨a, vs, rfl, ha, _⟩ := r.lst e; exact sqL_ty (.inl (.inl ha))
  | scr l => obtain ⟨a, vs, rfl, ha, _⟩ := r.scr e; exact sqL_ty ha
  | dct l => cases T <;> cases h
  | exn c l => cases T <;> cases h
theorem VwR.laid {p : Addr} {o : HO} (r : VwR K G H v d) (n : H p = none) : VwR K G (upd H p o) v d := by
  rcases r with r | ⟨a, vs, l, h1, h2, h3, h4⟩
  · exact .inl r
  · refine .inr ⟨a, vs, l, h1, h2, ?_, h4⟩
    exact same_new n _ _ h3
end
def prIsi (T : Tn) (d : D) : Option Vd := (isT T d).bind vb
def prIsi2 (T U : Tn) (d : D) : Option Vd := (isT T d).bind fun a => (isT U d).bind fun b => vb (a || b)
section
variable {X : Cx} {cs : List Addr} {W : WX} {a e : Expr} {ma : M Pr} {pos p p2 p3 tpos : Pos} {x y : Str} {T U : Tn}
/-- one operand, then a continuation of its value -/
theorem m1_imp {K : PySem.W.Frag} {pr : D → Option Vd} {σ : St} {H : Hp} {Q : VK} {Q1 : V → Hp → Prop} (h : tD cs K W (m1 pr ma) σ H Q)
    (k : ∀ {G H' ρ v x d}, EnvR K G H' σ ρ → VwR K G H' v x → pr x = some d → (∀ u G2 H2, Way K G H' σ ρ G2 H2 σ ρ → VdR K H' σ ρ G2 H2 σ ρ u d → Q u H2) → Q1 v H') : tP cs K W ma σ H Q1 := by
  obtain ⟨G, ρ, e, h⟩ := h
  dsimp only [m1] at h
  refine ⟨G, ρ, e, ?_⟩
  cases hm : ma ρ with
  | bad => rw [hm] at h; exact h
  | exc x ρ' => rw [hm] at h; exact h
  | ok p1 ρ1 =>
    rw [hm] at h
    intro v G1 H1 w1 r1
    dsimp only [Rs.bind] at h
    cases g1 : p1.get ρ1 with
    | none => rw [g1] at h; exact h.elim
    | some x =>
      rw [g1] at h
      dsimp only [ofO] at h
      cases g3 : pr x with
      | none => rw [g3] at h; exact h.elim
      | some d =>
        rw [g3] at h
        exact k w1.env (PrR.view w1.env r1 g1) g3 fun u G' H' w q => Pg.shift (R2 := rE K σ) (r := .ok d ρ1) anE h w1 u G' H' w q
theorem pd_isi (hg : Gl X x) (hm : X.mg x = none) (hv : bootBuiltins x = some (.builtin "isinstance")) (hg2 : Gl X y) (hm2 : X.mg y = none) (hv2 : bootBuiltins y = some (.type T.nm)) (ha : PO2 cs W X a ma)
    (hn : x ≠ "__name__" := by decide) (hdb : (x == ("__debug__" : Str)) = false := by decide) (hn2 : y ≠ "__name__" := by decide) (hdb2 : (y == ("__debug__" : Str)) = false := by decide)
    (he : starEach (a :: [.Name y p2]) X.env = (false, eval a X.env) :: starEach [.Name y p2] X.env := by rfl) (he2 : starEach (Expr.Name y p2 :: []) X.env = (false, eval (.Name y p2) X.env) :: starEach [] X.env := by rfl)
    (hpl : (backTo pos (starEach [.Name y p2] X.env)).any (·.1) = false := by rfl) :
    PD cs W X (.Call (.Name x p) (a :: [.Name y p2]) [] pos) (m1 (prIsi T) ma) :=
  pe_imp (pe_callB call_isi hg hm hv (pa_cons ha (pa_cons (pe_bltn hg2 hm2 hv2 (v := .ty T.nm) rfl hn2 hdb2) pa_nil he2) he) hn hdb he hpl) fun σ H Q h =>
    m1_imp h fun {G H' ρ v x d} e r g q => by
      unfold prIsi at g
      cases hi : isT T x with
      | none => rw [hi] at g; cases g
      | some b =>
        rw [hi] at g
        cases g
        exact ⟨v, .ty T.nm, _, _, b, rfl, .ty _, r.ty e.same hi, kit_ty (isT_kit hi), fin_bl e q⟩
theorem pd_isi2 {k : Nat} (hg : Gl X x) (hm : X.mg x = none) (hv : bootBuiltins x = some (.builtin "isinstance")) {y2 : Str} (hg2 : Gl X y) (hm2 : X.mg y = none) (hv2 : bootBuiltins y = some (.type T.nm)) (hg3 : Gl X y2) (hm3 : X.mg y2 = none) (hv3 : bootBuiltins y2 = some (.type U.nm)) (ha : PO2 cs W X a ma)
    (hn : x ≠ "__name__" := by decide) (hdb : (x == ("__debug__" : Str)) = false := by decide) (hn2 : y ≠ "__name__" := by decide) (hdb2 : (y == ("__debug__" : Str)) = false := by decide) (hn3 : y2 ≠ "__name__" := by decide) (hdb3 : (y2 == ("__debug__" : Str)) = false := by decide)
    (he : starEach (a :: [.Tuple [.Name y p2, .Name y2 p3] k tpos]) X.env = (false, eval a X.env) :: starEach [.Tuple [.Name y p2, .Name y2 p3] k tpos] X.env := by rfl) (he2 : starEach (Expr.Tuple [.Name y p2, .Name y2 p3] k tpos :: []) X.env = (false, eval (.Tuple [.Name y p2, .Name y2 p3] k tpos) X.env) :: starEach [] X.env := by rfl)
    (he3 : starEach (Expr.Name y p2 :: [.Name y2 p3]) X.env = (false, eval (.Name y p2) X.env) :: starEach [.Name y2 p3] X.env := by rfl) (he4 : starEach (Expr.Name y2 p3 :: []) X.env = (false, eval (.Name y2 p3) X.env) :: starEach [] X.env := by rfl)
    (hpl : (backTo pos (starEach [.Tuple [.Name y p2, .Name y2 p3] k tpos] X.env)).any (·.1) = false := by rfl) :
    PD cs W X (.Call (.Name x p) (a :: [.Tuple [.Name y p2, .Name y2 p3] k tpos]) [] pos) (m1 (prIsi2 T U) ma) :=
  pe_imp (pe_callB call_isiT hg hm hv (pa_cons ha (pa_cons (pe_tup (pa_cons (pe_bltn hg2 hm2 hv2 (v := .ty T.nm) rfl hn2 hdb2) (pa_cons (pe_bltn hg3 hm3 hv3 (v := .ty U.nm) rfl hn3 hdb3) pa_nil he4) he3)) pa_nil he2) he) hn hdb he hpl) fun σ H Q h =>
    m1_imp h fun {G H' ρ v x d} e r g q => by
      unfold prIsi2 at g
      cases hi : isT T x with
      | none => rw [hi] at g; cases g
      | some b =>
        cases hi2 : isT U x with
        | none => rw [hi, hi2] at g; cases g
        | some c =>
          rw [hi, hi2] at g
          cases g
          refine ⟨by show 2 ≤ sizeLine; rw [sizeLine_eq]; omega, fun tp n => ?_⟩
          refine ⟨v, tp, [.ty T.nm, .ty U.nm], _, [.type T.nm, .type U.nm], b || c, rfl, upd_same, .cons (.ty _) (.cons (.ty _) .nil), (r.laid n).ty (e.same.trans (same_new n)) hi, kitAny_cons (kit_ty (isT_kit hi)) (fun z => ?_) (fun z => by rw [z]; rfl), ?_⟩
          · rw [z]
            exact kitAny_cons (kit_ty (isT_kit hi2)) (fun z => by rw [z]; exact kitAny_nil) (fun z => by rw [z]; rfl)
          · exact q _ _ _ ((Way.refl e).laidF n).1 (.bl _)
end
/-! ### methods of texts -/
def m2s (pr : Str → D → Option Vd) (ma mb : M Pr) : M Vd := fun ρ => (ma ρ).bind fun p1 ρ1 => match p1.get ρ1 with
  | some (.str a) => (mb ρ1).bind fun p2 ρ2 => match p2.get ρ2 with
    | some y => ofO (pr a y) ρ2
    | none => .bad
  | _ => .bad
structure PM (K : PySem.W.Frag) (r : V → List V → Hp → VK → Prop) (pr : Str → D → Option Vd) : Prop where
  ok : ∀ {G H : Hp} {σ : St} {ρ : Ro} {a : Str} {v2 : V} {d2 : D} {d : Vd} {Q : VK}, EnvR K G H σ ρ → VwR K G H v2 d2 → pr a d2 = some d →
    (∀ v G' H', Way K G H σ ρ G' H' σ ρ → VdR K H σ ρ G' H' σ ρ v d → Q v H') → r (.str a) [v2] H Q
def strsOf : List D → Option (List Str)
  | [] => some []
  | .str b :: l => (strsOf l).map (b :: ·)
  | _ :: _ => none
def rowOf : D → Option (List D)
  | .lst l => some l
  | .tup l => some l
  | .scr l => some l
  | _ => none
def prJoin (a : Str) (d : D) : Option Vd := ((rowOf d).bind strsOf).bind fun ys => if (ys.map (·.length)).sum + ys.length * a.length ≤ 16777216 then vs (Txt.join a ys) else none
def prSplit (a : Str) : D → Option Vd
  | .str b => if (b.length == 0) = false ∧ a.length + 2 ≤ sizeLine then some (.fr ((Txt.split a b).map .str)) else none
  | _ => none
def prZfill (a : Str) : D → Option Vd
  | .int i => if PadOk i = true then vs (Txt.zfill a i) else none
  | _ => none
theorem Rps.strs {K : PySem.W.Frag} {G : Hp} : ∀ {ds : List D} {vs : List V} {bs : List Str}, Rps K G vs ds → strsOf ds = some bs → vs = bs.map V.str
  | [], _, _, .nil, h => by cases h; rfl
  | .str b :: l, _, bs, .cons r rs, h => by
    unfold strsOf at h
    cases g : strsOf l with
    | none => rw [g] at h; cases h
    | some bs' =>
      rw [g] at h
      cases h
      cases r
      rw [Rps.strs rs g]
      rfl
  | .non :: _, _, _, _, h => by cases h
  | .bl _ :: _, _, _, _, h => by cases h
  | .int _ :: _, _, _, _, h => by cases h
  | .tup _ :: _, _, _, _, h => by cases h
  | .lst _ :: _, _, _, _, h => by cases h
  | .scr _ :: _, _, _, _, h => by cases h
  | .dct _ :: _, _, _, _, h => by cases h
  | .exn _ _ :: _, _, _, _, h => by cases h
theorem Rps.ofStrs {K : PySem.W.Frag} {G : Hp} : ∀ (l : List Str), Rps K G (l.map V.str) (l.map D.str)
  | [] => .nil
  | s :: l => .cons (.str s) (Rps.ofStrs l)
theorem VwR.row {K : PySem.W.Frag} {G H : Hp} {v : V} {d : D} {l : List D} (e : Same G H) (r : VwR K G H v d) (h : rowOf d = some l) : ∃ p vs, v = .ref p ∧ (SqL K H p vs ∨ SqT K H p vs) ∧ Rps K G vs l := by
  cases d <;> cases h
  · obtain ⟨a, vs, rfl, ha, ra⟩ := r.tup e; exact ⟨a, vs, rfl, .inr ha, ra⟩
  · obtain ⟨a, vs, rfl, ha, ra⟩ := r.lst e; exact ⟨a, vs, rfl, .inl (.inl (.inl ha)), ra⟩
  · obtain ⟨a, vs, rfl, ha, ra⟩ := r.scr e; exact ⟨a, vs, rfl, .inl ha, ra⟩
section
variable {K : PySem.W.Frag}
abbrev rJoinA (K : PySem.W.Frag) : V → List V → Hp → VK → Prop := fun x xs H Q => ∃ a p, ∃ ys : List Str, x = .str a ∧ xs = [.ref p] ∧ (SqL K H p (ys.map V.str) ∨ SqT K H p (ys.map V.str)) ∧ (ys.map (·.length)).sum + ys.length * a.length ≤ 16777216 ∧ Q (.str (Txt.join a ys)) H
abbrev rSplitA : V → List V → Hp → VK → Prop := fun x xs H Q => ∃ a b, x = .str a ∧ xs = [.str b] ∧ (b.length == 0) = false ∧ a.length + 2 ≤ sizeLine ∧ rNewStrs (Txt.split a b) H Q
abbrev rZfillA : V → List V → Hp → VK → Prop := fun x xs H Q => ∃ (a : Str) (i : Int), x = .str a ∧ xs = [.int i] ∧ PadOk i = true ∧ Q (.str (Txt.zfill a i)) H
theorem PM.join : PM K (rJoinA K) prJoin := ⟨fun {G H σ ρ a v2 d2 d Q} e r2 h q => by
  unfold prJoin at h
  cases g : rowOf d2 with
  | none => rw [g] at h; cases h
  | some l =>
    rw [g] at h
    cases g2 : strsOf l with
    | none => simp only [Option.bind_some, g2] at h; cases h
    | some ys =>
      simp only [Option.bind_some, g2] at h
      split at h
      · rename_i hz
        cases h
        obtain ⟨p, vs, rfl, hp, ra⟩ := r2.row e.same g
        have := ra.strs g2
        subst this
        exact ⟨a, p, ys, rfl, rfl, hp, hz, fin_str e q⟩
      · cases h⟩
theorem PM.split : PM K rSplitA prSplit := ⟨fun {G H σ ρ a v2 d2 d Q} e r2 h q => by
  unfold prSplit at h
  split at h
  · rename_i b
    split at h
    · rename_i hz
      cases h
      rw [r2.str]
      exact ⟨a, _, rfl, rfl, hz.1, hz.2, fin_lst e (Rps.ofStrs _) q⟩
    · cases h
  · cases h⟩
theorem PM.zfill : PM K rZfillA prZfill := ⟨fun {G H σ ρ a v2 d2 d Q} e r2 h q => by
  unfold prZfill at h
  split at h
  · split at h
    · rename_i hz
      cases h
      rw [r2.int]
      exact ⟨a, _, rfl, rfl, hz, fin_str e q⟩
    · cases h
  · cases h⟩
end
section
variable {X : Cx} {cs : List Addr} {W : WX} {o e : Expr} {ma mb : M Pr} {pos apos : Pos} {id : String} {name : Str}
theorem pd_m1 {r : V → List V → Hp → VK → Prop} {pr : Str → D → Option Vd} (slot : Slot "str" name id) (ty : typeOf (.builtin id) = pure (.type "method_descriptor")) (rule : MtR X id r) (P : PM X.K r pr) (ho : PO2 cs W X o ma) (he : PO2 cs W X e mb)
    (hs : starEach [e] X.env = [(false, eval e X.env)] := by rfl) (hbase : attributeBase o name X.env (eval o X.env) = eval o X.env := by rfl) (hline : (apos.endLine == pos.line) = true := by rfl) :
    PD cs W X (.Call (.Attribute o name apos) [e] [] pos) (m2s pr ma mb) :=
  pe_imp (pe_m1 slot ty rule ho he hs hbase hline) fun σ H Q h => by
    obtain ⟨G, ρ, e0, h⟩ := h
    refine ⟨G, ρ, e0, Pg.bind anE h fun p1 ρ1 v1 G1 H1 w1 r1 h1 => ?_⟩
    have h2 := h1 G1 w1
    split at h2
    · rename_i a g1
      have ev := ((PrR.view w1.env r1 g1)).str
      subst ev
      refine ⟨⟨a, rfl⟩, G1, ρ1, w1.env, Pg.bind anE h2 fun p2 ρ2 v2 G2 H2 w2 r2 h3 => ?_⟩
      have h4 := h3 G2 w2
      cases g2 : p2.get ρ2 with
      | none => rw [g2] at h4; exact h4.elim
      | some y =>
        rw [g2] at h4
        dsimp only [ofO] at h4
        cases g3 : pr a y with
        | none => rw [g3] at h4; exact h4.elim
        | some d =>
          rw [g3] at h4
          exact P.ok w2.env (PrR.view w2.env r2 g2) g3 fun v G' H' w q => h4 v G' H' w q
    · exact h2.elim
theorem pd_join (ho : PO2 cs W X o ma) (he : PO2 cs W X e mb) (hs : starEach [e] X.env = [(false, eval e X.env)] := by rfl) (hbase : attributeBase o "join" X.env (eval o X.env) = eval o X.env := by rfl) (hline : (apos.endLine == pos.line) = true := by rfl) :
    PD cs W X (.Call (.Attribute o "join" apos) [e] [] pos) (m2s prJoin ma mb) := pd_m1 F.slot_str_join F.type_str_join mt_join PM.join ho he hs hbase hline
theorem pd_split (ho : PO2 cs W X o ma) (he : PO2 cs W X e mb) (hs : starEach [e] X.env = [(false, eval e X.env)] := by rfl) (hbase : attributeBase o "split" X.env (eval o X.env) = eval o X.env := by rfl) (hline : (apos.endLine == pos.line) = true := by rfl) :
    PD cs W X (.Call (.Attribute o "split" apos) [e] [] pos) (m2s prSplit ma mb) := pd_m1 F.slot_str_split F.type_str_split mt_split PM.split ho he hs hbase hline
theorem pd_zfill (ho : PO2 cs W X o ma) (he : PO2 cs W X e mb) (hs : starEach [e] X.env = [(false, eval e X.env)] := by rfl) (hbase : attributeBase o "zfill" X.env (eval o X.env) = eval o X.env := by rfl) (hline : (apos.endLine == pos.line) = true := by rfl) :
    PD cs W X (.Call (.Attribute o "zfill" apos) [e] [] pos) (m2s prZfill ma mb) := pd_m1 F.slot_str_zfill F.type_str_zfill mt_zfill PM.zfill ho he hs hbase hline
end
end FRT
end
section
set_option Elab.async false
set_option linter.all false
set_option maxRecDepth 100000
set_option maxHeartbeats 4000001
namespace FRT
open PySem L2
/-! ### texts of several parts -/
def rTx : Hp → Ro → Hp → Hp → Ro → V → Str → Prop := fun _ _ _ _ _ v s => v = .str s
theorem anTx {σ : St} : Anti σ rTx := fun _ _ _ _ _ _ _ _ _ _ _ h => h
def rTT : Hp → Ro → Hp → Hp → Ro → Str → Str → Prop := fun _ _ _ _ _ v s => v = s
theorem anTT {σ : St} : Anti σ rTT := fun _ _ _ _ _ _ _ _ _ _ _ h => h
def tF (cs : List Addr) (K : PySem.W.Frag) (W : WX) (m : M Str) : TE := fun σ H Q => ∃ G ρ, EnvR K G H σ ρ ∧ Pg cs K W σ rTx G H ρ (m ρ) Q
abbrev PF1 (cs : List Addr) (W : WX) (X : Cx) (e : Expr) (m : M Str) : Prop := PE X e (tF cs X.K W m)
def PJd (cs : List Addr) (W : WX) (X : Cx) (es : List Expr) (m : Str → M Str) : Prop :=
  ∃ ts, PJ X es ts ∧ ∀ acc σ H (Q : Str → Hp → Prop) G ρ, EnvR X.K G H σ ρ → Pg cs X.K W σ rTT G H ρ (m acc ρ) Q → tJs ts acc σ H Q
def fmtD : D → Option Str
  | .str y => if y.length ≤ sizeLine then some y else none
  | .int i => if i.natAbs.log2 < 1920 then some (Str.ofString (toString i)) else none
  | _ => none
def mfmt (ma : M Pr) : M Str := fun ρ => (ma ρ).bind fun p ρ1 => match p.get ρ1 with
  | some d => ofO (fmtD d) ρ1
  | none => .bad
def mlt (s : Str) : M Str := fun ρ => .ok s ρ
def mjn : Str → M Str := fun acc ρ => .ok acc ρ
def mjc (mf : M Str) (rest : Str → M Str) : Str → M Str := fun acc ρ => (mf ρ).bind fun y ρ1 => if (acc ++ y).length ≤ sizeLine then rest (acc ++ y) ρ1 else .bad
def mjoined (m : Str → M Str) : M Vd := fun ρ => (m Str.empty ρ).bind fun s ρ1 => .ok (.sh (.str s)) ρ1
def mjoin1 (m : M Str) : M Vd := fun ρ => (m ρ).bind fun s ρ1 => .ok (.sh (.str s)) ρ1
section
variable {X : Cx} {cs : List Addr} {W : WX} {e v1 v2 : Expr} {es rest : List Expr} {ma mb : M Pr} {mf : M Str} {mr : Str → M Str} {pos p : Pos} {x : Str}
theorem pf_fmt (he : PO2 cs W X e ma) : PF1 cs W X (.FormattedValue e (-1) none pos) (mfmt ma) := pe_imp (pe_fmt he) fun σ H Q ⟨G, ρ, e0, h⟩ =>
  ⟨G, ρ, e0, Pg.bind anTx h fun p ρ1 v G1 H1 w1 r1 h1 => by
    have h2 := h1 G1 w1
    cases g : p.get ρ1 with
    | none => rw [g] at h2; exact h2.elim
    | some d =>
      rw [g] at h2
      dsimp only [ofO] at h2
      have rv := PrR.view w1.env r1 g
      cases d with
      | str y =>
        rw [rv.str]
        dsimp only [fmtD] at h2
        by_cases hz : y.length ≤ sizeLine
        · rw [if_pos hz] at h2
          exact .inl ⟨y, rfl, hz, h2 _ G1 H1 (.refl w1.env) rfl⟩
        · rw [if_neg hz] at h2; exact h2.elim
      | int i =>
        rw [rv.int]
        dsimp only [fmtD] at h2
        by_cases hz : i.natAbs.log2 < 1920
        · rw [if_pos hz] at h2
          exact .inr ⟨i, rfl, hz, h2 _ G1 H1 (.refl w1.env) rfl⟩
        · rw [if_neg hz] at h2; exact h2.elim
      | non => exact h2.elim
      | bl _ => exact h2.elim
      | tup _ => exact h2.elim
      | lst _ => exact h2.elim
      | scr _ => exact h2.elim
      | dct _ => exact h2.elim
      | exn _ _ => exact h2.elim⟩
theorem pf_lit {y : Str} (h : PE X e (tC (.str y))) : PF1 cs W X e (mlt y) := pe_imp h fun σ H Q ⟨G, ρ, e0, h⟩ => h _ G H (.refl e0) rfl
theorem pj_nil : PJd cs W X [] mjn := ⟨[], .nil, fun acc σ H Q G ρ e0 h => h _ G H (.refl e0) rfl⟩
theorem pj_cons (he : PF1 cs W X e mf) (hr : PJd cs W X es mr) : PJd cs W X (e :: es) (mjc mf mr) := by
  obtain ⟨ts, h1, h2⟩ := hr
  refine ⟨_ :: ts, .cons he h1, fun acc σ H Q G ρ e0 h => ?_⟩
  refine ⟨G, ρ, e0, Pg.bind anTT h fun y ρ1 v G1 H1 w1 r1 h3 => ?_⟩
  have h4 := h3 G1 w1
  refine ⟨y, r1, ?_⟩
  by_cases hz : (acc ++ y).length ≤ sizeLine
  · rw [if_pos hz] at h4
    exact ⟨hz, h2 _ _ _ _ G1 ρ1 w1.env h4⟩
  · rw [if_neg hz] at h4; exact h4.elim
theorem pd_joined (h : PJd cs W X (v1 :: v2 :: rest) mr) : PD cs W X (.JoinedStr (v1 :: v2 :: rest) pos) (mjoined mr) := by
  obtain ⟨ts, h1, h2⟩ := h
  refine pe_imp (pe_joined h1) fun σ H Q ⟨G, ρ, e0, h⟩ => h2 _ _ _ _ G ρ e0 (Pg.bind anE h fun y ρ1 v G1 H1 w1 r1 h3 => ?_)
  have e1 : v = y := r1
  rw [e1]
  exact h3 G1 w1 _ G1 H1 (.refl w1.env) (.str _)
theorem pd_joined1 (h : PF1 cs W X e mf) : PD cs W X (.JoinedStr [e] pos) (mjoin1 mf) := pe_imp (pe_joined1 h) fun σ H Q ⟨G, ρ, e0, h⟩ =>
  ⟨G, ρ, e0, Pg.bind anE h fun y ρ1 v G1 H1 w1 r1 h3 => by
    have e1 : v = .str y := r1
    rw [e1]
    exact h3 G1 w1 _ G1 H1 (.refl w1.env) (.str _)⟩
/-! ### built-in functions of two values -/
theorem pd_b2 {y : Str} {id : String} {r : List V → Hp → VK → Prop} {pr : D → D → Option Vd} {a b : Expr} (hc : CallR X (.builtin id) r) (C : P2 X.K (fun x y H Q => r [x, y] H Q) pr) (hg : Gl X y) (hm : X.mg y = none) (hv : bootBuiltins y = some (.builtin id)) (ha : PO2 cs W X a ma) (hb : PO2 cs W X b mb)
    (hn : y ≠ "__name__" := by decide) (hdb : (y == ("__debug__" : Str)) = false := by decide)
    (he : starEach (a :: [b]) X.env = (false, eval a X.env) :: starEach [b] X.env := by rfl) (he2 : starEach (b :: []) X.env = (false, eval b X.env) :: starEach [] X.env := by rfl) (hpl : (backTo pos (starEach [b] X.env)).any (·.1) = false := by rfl) :
    PD cs W X (.Call (.Name y p) (a :: [b]) [] pos) (m2 pr ma mb) :=
  pe_imp (pe_callB hc hg hm hv (pa_cons ha (pa_cons hb pa_nil he2) he) hn hdb he hpl) fun _ _ _ h => op2_imp C h
end
def prDivmod : D → D → Option Vd
  | .int i, .int j => if 0 < j ∧ j.natAbs.log2 < 9000 then some (.sh (.tup [.int (i / j), .int (i % j)])) else none
  | _, _ => none
/-! ### tuples by their order -/
/-- whether equal, whether less -/
def cmp2 : D → D → Option (Bool × Bool)
  | .int i, .int j => some (i == j, decide (i < j))
  | .str i, .str j => some (i == j, decide (i.cps.toList < j.cps.toList))
  | _, _ => none
def cmps : List D → List D → Option (List (Bool × Bool))
  | [], _ => some []
  | _ :: _, [] => some []
  | x :: xs, y :: ys => (cmp2 x y).bind fun b => (cmps xs ys).map (b :: ·)
def ltT (z : Bool) : List (Bool × Bool) → Bool
  | [] => z
  | (e, l) :: r => if e then ltT z r else l

theorem lexAt_shift {e r : Nat → Bool} {z : Bool} : ∀ (k i : Nat), Ob.lexAt e r z (i + 1) k = Ob.lexAt (fun j => e (j + 1)) (fun j => r (j + 1)) z i k
  | 0, _ => rfl
  | k + 1, i => by
    rw [Ob.lexAt_succ, Ob.lexAt_succ, lexAt_shift k (i + 1)]
theorem ltT_lex {z : Bool} : ∀ (ps : List (Bool × Bool)), Ob.lexAt (fun j => (ps.getD j (true, true)).1) (fun j => (ps.getD j (true, true)).2) z 0 ps.length = ltT z ps
  | [] => rfl
  | (e, l) :: r => by
    rw [List.length_cons, Ob.lexAt_succ, lexAt_shift]
    show (if e = true then Ob.lexAt (fun j => (r.getD j (true, true)).1) (fun j => (r.getD j (true, true)).2) z 0 r.length else l) = if e = true then ltT z r else l
    rw [ltT_lex r]
def cmp2V : V → V → Option (Bool × Bool)
  | .int i, .int j => some (i == j, decide (i < j))
  | .str i, .str j => some (i == j, decide (i.cps.toList < j.cps.toList))
  | _, _ => none
def cmpsV : List V → List V → Option (List (Bool × Bool))
  | [], _ => some []
  | _ :: _, [] => some []
  | x :: xs, y :: ys => (cmp2V x y).bind fun b => (cmpsV xs ys).map (b :: ·)
theorem cmp2_V {K : PySem.W.Frag} {G : Hp} {v w : V} {d e : D} {b : Bool × Bool} (r : Rp K G v d) (s : Rp K G w e) (h : cmp2 d e = some b) : cmp2V v w = some b := by
  unfold cmp2 at h
  split at h
  · cases r; cases s; exact h
  · cases r; cases s; exact h
  · cases h
theorem cmps_V {K : PySem.W.Frag} {G : Hp} : ∀ {vs ws : List V} {ds es : List D} {b : List (Bool × Bool)}, Rps K G vs ds → Rps K G ws es → cmps ds es = some b → cmpsV vs ws = some b
  | _, _, _, _, _, .nil, _, h => h
  | _, _, _, _, _, .cons _ _, .nil, h => h
  | _, _, _, _, _, .cons r rs, .cons s ss, h => by
    unfold cmps at h
    cases g : cmp2 _ _ with
    | none => rw [g] at h; cases h
    | some b =>
      rw [g] at h
      dsimp only [Option.bind] at h
      cases g2 : cmps _ _ with
      | none => rw [g2] at h; cases h
      | some bs =>
        rw [g2] at h
        unfold cmpsV
        rw [cmp2_V r s g, cmps_V rs ss g2]
        exact h
theorem cmpsV_len : ∀ {vs ws : List V} {b : List (Bool × Bool)}, cmpsV vs ws = some b → b.length = min vs.length ws.length
  | [], _, _, h => by cases h; simp
  | _ :: _, [], _, h => by cases h; simp
  | x :: xs, y :: ys, b, h => by
    unfold cmpsV at h
    cases g : cmp2V x y with
    | none => rw [g] at h; cases h
    | some c =>
      rw [g] at h
      dsimp only [Option.bind] at h
      cases g2 : cmpsV xs ys with
      | none => rw [g2] at h; cases h
      | some bs =>
        rw [g2] at h
        cases h
        have := cmpsV_len g2
        simp only [List.length_cons]
        omega
theorem cmpsV_at {A : Around} {s : Shared} : ∀ {vs ws : List V} {us ts : List Value} {b : List (Bool × Bool)}, cmpsV vs ws = some b → Vals vs us → Vals ws ts → ∀ j (h1 : j < us.length) (h2 : j < ts.length),
    SeqAt.EqAt A s us[j] ts[j] (b.getD j (true, true)).1 ∧ Ob.RcOp .Lt A s us[j] ts[j] (b.getD j (true, true)).2
  | [], _, _, _, _, _, .nil, _, j, h1, _ => absurd h1 (Nat.not_lt_zero _)
  | _ :: _, [], _, _, _, _, _, .nil, j, _, h2 => absurd h2 (Nat.not_lt_zero _)
  | x :: xs, y :: ys, _, _, b, h, .cons r rs, .cons t ts, j, h1, h2 => by
    unfold cmpsV at h
    cases g : cmp2V x y with
    | none => rw [g] at h; cases h
    | some c =>
      rw [g] at h
      dsimp only [Option.bind] at h
      cases g2 : cmpsV xs ys with
      | none => rw [g2] at h; cases h
      | some bs =>
        rw [g2] at h
        cases h
        cases j with
        | zero =>
          unfold cmp2V at g
          split at g
          · cases g
            obtain ⟨t1, rfl⟩ := r
            obtain ⟨t2, rfl⟩ := t
            exact ⟨SeqAt.EqAt.int_int _ _ _ _, Ob.RcOp.lt_int _ _ _ _⟩
          · cases g
            obtain ⟨t1, rfl⟩ := r
            obtain ⟨t2, rfl⟩ := t
            exact ⟨SeqAt.EqAt.str_str _ _ _ _, fun _ _ _ _ h => PyProof.Rows.lt_str h⟩
          · cases g
        | succ j => exact cmpsV_at g2 rs ts j (Nat.lt_of_succ_lt_succ h1) (Nat.lt_of_succ_lt_succ h2)
def rLtT (K : PySem.W.Frag) : R2 := fun x y H Q => ∃ (a b : Addr) (xs ys : List V) (ps : List (Bool × Bool)), x = .ref a ∧ y = .ref b ∧ SqT K H a xs ∧ SqT K H b ys ∧ cmpsV xs ys = some ps ∧ Q (.bl (ltT (decide (xs.length < ys.length)) ps)) H
theorem op_ltT {X : Cx} (hu : X.A.units < cLine) : OpR X (compareOp .Lt) (rLtT X.K) := by
  intro pins s σ H x y v u Q I rx ry h
  obtain ⟨a, b, xs, ys, ps, rfl, rfl, ha, hb, hc, q⟩ := h
  cases rx
  cases ry
  obtain ⟨its, r1, p1, _⟩ := I.tuple ha
  obtain ⟨its2, r2, p2, _⟩ := I.tuple hb
  have e1 : its.toArray.size = xs.length := by rw [List.size_toArray]; exact valsLen r1
  have e2 : its2.toArray.size = ys.length := by rw [List.size_toArray]; exact valsLen r2
  have R := Ob.RcOp.tuples_lt (A := X.A) (s := s) (e := fun j => (ps.getD j (true, true)).1) (r := fun j => (ps.getD j (true, true)).2) p1 p2 hu (fun j h1 h2 => by
    have := (cmpsV_at (A := X.A.in1) (s := s) hc r1 r2 j (by simpa using h1) (by simpa using h2)).1
    simpa using this) (fun j h1 h2 _ => by
    have := (cmpsV_at (A := X.A.in1) (s := s) hc r1 r2 j (by simpa using h1) (by simpa using h2)).2
    simpa using this)
  rw [e1, e2, ← cmpsV_len hc, ltT_lex] at R
  exact R X.prog X.w X.xe (EP X pins σ Q) ⟨.bl _, H, I, rfl, q⟩
def prLtA : D → D → Option Vd
  | .tup x, .tup y => (cmps x y).bind fun ps => vb (ltT (decide (x.length < y.length)) ps)
  | x, y => prLt x y
section
variable {K : PySem.W.Frag}
theorem P2.ltA : P2 K (rOr (rLtT K) (rOr rLtI rLtS)) prLtA := ⟨fun {G H σ ρ v1 v2 d1 d2 d Q} e r1 r2 h q => by
  unfold prLtA at h
  split at h
  · rename_i x y
    cases g : cmps x y with
    | none => rw [g] at h; cases h
    | some ps =>
      rw [g] at h
      cases h
      obtain ⟨a, vs, rfl, ha, ra⟩ := r1.tup e.same
      obtain ⟨b, ws, rfl, hb, rb⟩ := r2.tup e.same
      refine .inl ⟨a, b, vs, ws, ps, rfl, rfl, ha, hb, cmps_V ra rb g, ?_⟩
      rw [ra.length, rb.length]
      exact fin_bl e q
  · exact .inr (P2.lt.ok e r1 r2 h q)⟩
theorem op_ltB {X : Cx} (hu : X.A.units < cLine) : OpR X (compareOp .Lt) (rOr (rLtT X.K) (rOr rLtI rLtS)) := (op_ltT hu).or op_ltA
theorem P2.divmod : P2 K (fun x y H Q => ∃ i j, [x, y] = [V.int i, V.int j] ∧ CDivP i j ∧ ∀ p, H p = none → Q (.ref p) (upd H p (.tup [.int (i / j), .int (i % j)]))) prDivmod := ⟨fun {G H σ ρ v1 v2 d1 d2 d Q} e r1 r2 h q => by
  unfold prDivmod at h
  split at h
  · split at h
    · rename_i hc
      cases h
      rw [r1.int, r2.int]
      exact ⟨_, _, rfl, ⟨hc.1, PyProof.noPylong_of_log2 hc.2⟩, fin_tup e (.cons (.int _) (.cons (.int _) .nil)) q⟩
    · cases h
  · cases h⟩
end
end FRT
end
section
set_option Elab.async false
set_option linter.all false
set_option maxRecDepth 100000
set_option maxHeartbeats 4000001
namespace FRT
open PySem L2
/-- items of a list, a tuple or a text -/
def mitA (m : M Vd) : M (List D) := fun ρ => (m ρ).bind fun d ρ1 => match d with
  | .sh (.tup l) => .ok l ρ1
  | .sh (.str z) => .ok (strD z) ρ1
  | .sh (.lst l) => .ok l ρ1
  | .sh (.scr l) => .ok l ρ1
  | .fr l => .ok l ρ1
  | _ => .bad
section
variable {X : Cx} {cs : List Addr} {W : WX} {tg e : Expr} {m : M Vd}
theorem pit_A (h : PD cs W X e m) : PIt cs W X tg e (mitA m) := ⟨fun pins s σ H R I hq => by
  obtain ⟨G, ρ, e0, q⟩ := hq
  unfold mitA at q
  cases hm : m ρ with
  | bad => exact (pit_L (tg := tg) h).run pins s σ H R I ⟨G, ρ, e0, by unfold mitL; rw [hm] at q ⊢; exact q⟩
  | exc x ρ' => exact (pit_L (tg := tg) h).run pins s σ H R I ⟨G, ρ, e0, by unfold mitL; rw [hm] at q ⊢; exact q⟩
  | ok d ρ1 =>
    rw [hm] at q
    dsimp only [Rs.bind] at q
    split at q
    · exact (pit_T (tg := tg) h).run pins s σ H R I ⟨G, ρ, e0, by unfold mitT; rw [hm]; exact q⟩
    · exact (pit_S (tg := tg) h).run pins s σ H R I ⟨G, ρ, e0, by unfold mitS; rw [hm]; exact q⟩
    · exact (pit_L (tg := tg) h).run pins s σ H R I ⟨G, ρ, e0, by unfold mitL; rw [hm]; exact q⟩
    · exact (pit_L (tg := tg) h).run pins s σ H R I ⟨G, ρ, e0, by unfold mitL; rw [hm]; exact q⟩
    · exact (pit_L (tg := tg) h).run pins s σ H R I ⟨G, ρ, e0, by unfold mitL; rw [hm]; exact q⟩
    · exact q.elim⟩
end
/-- nothing is promised -/
theorem fn_none {P : Program} {w : World} {K : PySem.W.Frag} {mg : Str → Option Value} {base : Heap} {CX : CXT} {k n : Nat} {f : Addr} {fd : FuncData} {ps : List Str} {cs : List Addr} (h : n = ps.length) : FnOk P w K mg base CX k f fd ps (spD cs K n fun _ => .bad) :=
  ⟨fun vs H Q E z => z.1.trans h, fun A outer s H args us vs Q E hr J b r z => by
    obtain ⟨_, G, as, _, q⟩ := z
    exact q.elim⟩
/-- keywords -/
theorem KwB.of {K : PySem.W.Frag} {fd : FuncData} {ps ks : List Str} {n : Nat} {ix : List Nat} (h : ∀ us ws : List Value, us.length = n → ws.length = ks.length → bindArgs fd ⟨us, ks.zip ws⟩ = pure (ps.zip (pick ix (us ++ ws)))) : KwB K fd ps ks n ix :=
  fun s us ws _ l1 l2 => .of_eq (h us ws l1 l2)
theorem Fun.kwb {K : PySem.W.Frag} {x qual : Str} {st : Stmt} {f : Addr} {fd : FuncData} {ps ks : List Str} {n : Nat} {ix : List Nat} (F : Fun K x qual st f fd)
    (h : ∀ (kV doc pm : Value) (an : Option Addr) (cdv ct : Value) (us ws : List Value), us.length = n → ws.length = ks.length → bindArgs (PySem.W.fnOf x qual (defArgs st) (defBody st) (defScope st) .none kV doc pm an cdv ct) ⟨us, ks.zip ws⟩ = pure (ps.zip (pick ix (us ++ ws)))) : KwB K fd ps ks n ix := by
  obtain ⟨oc, od, kV, doc, pm, an, cdv, ct, osl, rfl, lk, hcd⟩ := F.ex
  exact KwB.of (h kV doc pm an cdv ct)
theorem hu64 {A : Around} {k : Nat} (hr : Room k A) : A.units + 64 < cLine := hr.units
theorem hu0 {A : Around} {k : Nat} (hr : Room k A) : A.units < cLine := Nat.lt_of_le_of_lt (Nat.le_add_right _ _) hr.units
end FRT
end
section
set_option Elab.async false
set_option linter.all false
set_option maxRecDepth 100000
set_option maxHeartbeats 4000001
/-! own exception classes called with keywords -/
namespace FRT
open PySem PySem.HandSPX Builtin Builtin.ObjectAttr
section
variable {P : Program} {w : World} {M : Model} {A : Around} {Er : Value → Shared → Prop} {R : Result → Shared → Prop} {hp : Heap} {gs : Array GenState} {dr : Drawn} {tk : Nat} {oo : OsState} {kw : List (Str × Value)} {rest : List Value}
variable {nm q : Str} {C N : Addr} {bs bm bmB : List Value} {hdct : Bool} {sn : List Str} {sub : List Value} {ab : Bool} {col : Option Bool} {dd : Option Addr} {k0 k1 k2 k3 k5 : Option Value} {B newId initId : String}
theorem kwCheckNew (Fx : ExcBaseFacts B newId initId bmB) (tl : ∀ Y : String, bm.contains (.type Y) = bmB.contains (.type Y)) {Qu : Unit → Shared → Prop}
    (at_ : hp.get? C = some (excClassObj nm q C N bs bm hdct sn sub ab col dd k0 k1 k2 k3 k5 newId)) (go : Qu () ⟨hp, gs, dr, tk, oo⟩) :
    wpAny M A (checkBuiltinCall newId ⟨.ref C :: rest, kw⟩) Qu Er ⟨hp, gs, dr, tk, oo⟩ := by
  have inB : (Value.ref C :: bm).contains (.type B) = true := by
    rw [List.contains_cons, tl, Fx.hasB, Bool.or_true]
  have st := Fx.noStar
  simp only [checkBuiltinCall, Fx.newKind, Fx.newSplit, Fx.newRow]
  repeat
    first
      | refine wpAny_loadPart_at at_ ?_
      | (refine wpAny_isSubtype_exc at_ ?_
         rw [inB])
      | refine wpAny_staticBase_exc at_ ?_
      | refine wpAny_madeBy_exc at_ ?_
      | simp only [bne_self_eq_false, Bool.false_eq_true, if_false]
      | wp_step
  exact go
theorem kwNew (Fx : ExcBaseFacts B newId initId bmB) (tl : ∀ Y : String, bm.contains (.type Y) = bmB.contains (.type Y))
    (at_ : hp.get? C = some (excClassObj nm q C N bs bm hdct sn sub ab col dd k0 k1 k2 k3 k5 newId)) (fits : rest.length ≤ sizeLine)
    (go : R (.ok (.ret (.ref (hp.objs.size + 1)))) ⟨(hp.push (W.kdv_tup rest)).push (excO C hp.objs.size), gs, dr, tk, oo⟩) :
    codeAny (model P w) A (.builtin newId ⟨.ref C :: rest, kw⟩) R ⟨hp, gs, dr, tk, oo⟩ := by
  have en := Fx.ends
  have inB : (Value.ref C :: bm).contains (.type B) = true := by
    rw [List.contains_cons, tl, Fx.hasB, Bool.or_true]
  have noA : (Value.ref C :: bm).contains (.type "AttributeError") = false := by
    rw [List.contains_cons, tl, Fx.noAttr] <;> rfl
  have noN : (Value.ref C :: bm).contains (.type "NameError") = false := by
    rw [List.contains_cons, tl, Fx.noName] <;> rfl
  refine codeAny_builtinAt Fx.entry ?_
  unfold Builtin.«BaseException.__new__»
  refine wpAt_bind ?_
  show wpAt _ _ _ (stack >>= _) _ _ _
  refine wpAt_bind (wpAt_stack fun pl bl => wpAt_of_wpAny ?_)
  wp_walk
  refine wpAt_of_wpAny ?_
  rw [Fx.owner]
  repeat
    first
      | with_reducible refine wpAny_madeHere_exc Fx.canon at_ ?_
      | with_reducible refine wpAny_loadPart_at at_ ?_
      | (with_reducible refine wpAny_isSubtype_exc at_ ?_
         first | rw [inB] | rw [noA] | rw [noN])
      | wp_step
  show R _ _
  rw [Heap.size_push]
  exact go
theorem kwTypeCall (Fx : ExcBaseFacts B newId initId bmB) (tl : ∀ Y : String, bm.contains (.type Y) = bmB.contains (.type Y)) {fI : Addr} {Qf : Fin → Shared → Prop}
    (at_ : hp.get? C = some (excClassObj nm q C N bs bm hdct sn sub ab col dd k0 k1 k2 k3 k5 newId)) (fits : rest.length ≤ sizeLine)
    (li : W.Looks (model P w) hp (typeLookup (.ref C) "__init__") (some (.ref fI))) (lb : ∀ me, W.Looks (model P w) hp (bindSpecial (.ref fI) me) (.ref fI, [me]))
    (go : codeAny (model P w) A (.call (.ref fI) ⟨.ref (hp.objs.size + 1) :: rest, kw⟩)
      (fun r s' => match r with
        | .ok (.ret v) => v = .none ∧ Qf (.done (.ret (.ref (hp.objs.size + 1)))) s'
        | .ok _ => False
        | .error e => Er e s') ⟨(hp.push (W.kdv_tup rest)).push (excO C hp.objs.size), gs, dr, tk, oo⟩) :
    wpAny (model P w) A (Builtin.«type.__call__» ⟨.ref C :: rest, kw⟩) Qf Er ⟨hp, gs, dr, tk, oo⟩ := by
  repeat
    first
      | with_reducible refine wpAny_loadPart_at at_ ?_
      | with_reducible refine wpAny_madeBy_exc at_ ?_
      | wp_step
  refine codeAny_call_builtin_code (Code.quiet_builtin _ Fx.quiet) (kwCheckNew Fx tl at_ ?_)
  refine kwNew Fx tl at_ fits ?_
  show wpAny _ _ _ _ _ _
  have old : ∀ b o, hp.get? b = some o → ((hp.push (W.kdv_tup rest)).push (excO C hp.objs.size)).get? b = some o :=
    fun b o e => Heap.get?_push_of_some _ (Heap.get?_push_of_some _ e)
  have at1 := old _ _ at_
  have new1 : ((hp.push (W.kdv_tup rest)).push (excO C hp.objs.size)).get? (hp.objs.size + 1) = some (excO C hp.objs.size) := by
    heap_get
  have inC : (Value.ref C :: bm).contains (.ref C) = true := by
    simp
  have li1 := li.keeps old
  have lb1 := (lb (.ref (hp.objs.size + 1))).keeps old
  unfold isInstance
  repeat
    first
      | with_reducible refine wpAny_loadPart_at new1 ?_
      | (with_reducible refine wpAny_isSubtype_exc at1 ?_
         rw [inC])
      | wp_step
  show wpAny _ _ (typeLookup (.ref C) _) _ _ _
  refine li1.at ?_
  refine wpAny_holding (wpAny_bind (lb1.at ?_))
  refine wpAny_bind (wpAny_call (codeAny_mono go fun r s' z => ?_))
  rcases r with e | (v | _ | _ | _)
  all_goals
    first
      | exact z
      | exact z.elim
      | skip
  obtain ⟨rfl, z⟩ := z
  first
    | exact wpAny_pure (wpAny_pure z)
    | (wp_walk
       exact z)
theorem kwCallOwn (Fx : ExcBaseFacts B newId initId bmB) (tl : ∀ Y : String, bm.contains (.type Y) = bmB.contains (.type Y)) {fI : Addr}
    (at_ : hp.get? C = some (excClassObj nm q C N bs bm hdct sn sub ab col dd k0 k1 k2 k3 k5 newId)) (fits : rest.length ≤ sizeLine)
    (li : W.Looks (model P w) hp (typeLookup (.ref C) "__init__") (some (.ref fI))) (lb : ∀ me, W.Looks (model P w) hp (bindSpecial (.ref fI) me) (.ref fI, [me]))
    (go : codeAny (model P w) (A.under (.builtin "type.__call__" ⟨.ref C :: rest, kw⟩)) (.call (.ref fI) ⟨.ref (hp.objs.size + 1) :: rest, kw⟩) (W.InitBack (hp.objs.size + 1) R)
      ⟨(hp.push (W.kdv_tup rest)).push (excO C hp.objs.size), gs, dr, tk, oo⟩) :
    codeAny (model P w) A (.call (.ref C) ⟨rest, kw⟩) R ⟨hp, gs, dr, tk, oo⟩ := by
  have g1 := tc_lookup
  have g2 := tc_bind (.ref C)
  have ty : (⟨hp, gs, dr, tk, oo⟩ : Shared).TypeIs (.ref C) "type" := ⟨_, at_, rfl⟩
  refine codeAny_of_tree ?_
  show wpAny _ _ (callAny (.ref C) _) _ _ _
  repeat (any_goals
    first
      | assumption
      | with_reducible refine wpAny_loadPart_at at_ ?_
      | wp_step)
  refine ⟨rfl, ?_⟩
  refine codeAny_call_builtin_at (Code.quiet_builtin _ (by decide +kernel)) entry_typeCall ?_
  refine wpAny_check_type_call_sub at_ ?_
  refine kwTypeCall Fx tl at_ fits li lb ?_
  refine codeAny_mono go fun r s' z => ?_
  rcases r with e | (v | _ | _ | _) <;> exact z
end
end FRT
end
section
set_option Elab.async false
set_option linter.all false
set_option maxRecDepth 100000
set_option maxHeartbeats 4000001
/-! the kind of an own exception that has its dict -/
namespace FRT
open PySem PySem.Spec PySem.Calls PyProof.Rows PySem.W
section
variable {pg : Program} {w : World} {A : Around} {Er : Value → Shared → Prop} {s : Shared} {K : Frag} {x D : Addr} {ox : Obj} {od : Option Obj}
structure ExK (K : Frag) (D : Addr) : Prop where
  ga : findIn K (.ref D) "__getattribute__" = some (some (.builtin "BaseException.__getattribute__"))
  gg : findIn K (.ref D) "__getattr__" = some none
  su : subIn K (.ref D) (.type "BaseException") = some true
  hd : hasDictIn K D = true
  cl : findIn K (.ref D) "__class__" = some (some (.builtin "object.__class__"))
  ge : specialIn K (.builtin "object.__class__") "__get__" = some (some (.builtin "getset_descriptor.__get__"))
  tk : takesIn K (.builtin "object.__class__") = some true
  ob : mroIn K D (.type "object") = some true
theorem ExK.is {K : Frag} {D : Addr} (k : ExK K D) : (clsIn K D).isSome = true := by
  obtain ⟨cd, hc, _⟩ := any_some k.hd
  rw [hc] <;> rfl
theorem ExK.found (k : ExK K D) : findObj K D od "__class__" = some (.bind (.builtin "getset_descriptor.__get__") (.builtin "object.__class__")) := by
  cases od with
  | none => exact findObj_dataN k.is k.cl k.ge k.tk
  | some o => exact findObj_data k.is k.cl k.ge k.tk
theorem kinX {Qu : Option Value → Shared → Prop} (k : ExK K D) (kin : K.In s.heap) (ia : InstAt s.heap x ox D od) (go : Qu (some (.ref D)) { s with toks := s.toks + 1 }) :
    wpAny (model pg w) A (getAttr? (.ref x) "__class__") Qu Er s := by
  obtain ⟨hh, gs, dr, tn, oo⟩ := s
  have T0 := ia.type (M := model pg w)
  have T1 := looks_findIn (M := model pg w) kin k.ga
  have T2 := looks_findIn (M := model pg w) kin k.gg
  have T3 := looks_find (M := model pg w) kin ia (k.found (od := od))
  have isB : Looks (model pg w) hh (isInstance (.ref x) (.type "BaseException")) true := T0.andThen (looks_subIn kin k.su)
  have n0 : (false && onTheHeap (Value.builtin "BaseException.__getattribute__")) = false := rfl
  have n1 : (onTheHeap (Value.ref D) && Value.builtin "BaseException.__getattribute__" == Value.builtin "object.__getattribute__") = false := by
    rw [show (Value.builtin "BaseException.__getattribute__" == Value.builtin "object.__getattribute__") = false by decide +kernel] <;> rfl
  unfold getAttr?
  unfold getAttrBy?
  unfold getAttrBy
  refine wpAny_bind (wpAny_mkText ?_)
  refine wpAny_bind (wpAny_attempt (wpAny_holding ?_))
  refine wpAny_bind (T0.at (wpAny_bind (T1.at ?_)))
  show wpAny _ _ (if (onTheHeap (Value.ref D) && Value.builtin "BaseException.__getattribute__" == Value.builtin "object.__getattribute__") = true
    then _ else _) _ _ _
  rw [n1, if_neg Bool.false_ne_true]
  unfold getAttrByItsOwn
  unfold hookBefore
  refine wpAny_bind ?_
  rw [if_pos (show onTheHeap (Value.ref D) = true
    from rfl)]
  refine T2.at ?_
  refine wpAny_bind ?_
  refine wpAny_attempt (wpAny_holding ?_)
  unfold callGetattribute
  rw [n0, if_neg Bool.false_ne_true]
  unfold boundAndCalled
  rw [PySem.F.excAttr_ValueError.ga.bind
    (.ref x)]
  refine wpAny_bind (wpAny_pure ?_)
  show wpAny _ _ (call (.builtin "BaseException.__getattribute__") [.ref x, .str "__class__" tn]) _ _ _
  refine wpAny_call ?_
  refine codeAny_call_builtin PySem.F.excAttr_ValueError.ga.plain PySem.F.entry_bexc_ga ?_
  refine @check_slot (model pg w) _ _ ⟨hh, gs, dr, tn + 1, oo⟩ "BaseException.__getattribute__" "BaseException" "__getattribute__" (.ref x) [.str "__class__" tn] [] _
    (by decide +kernel) (by decide +kernel) isB (PySem.F.args_bexc_ga (.ref x) (.str "__class__" tn)) ?_
  unfold Builtin.«object.__getattribute__»
  refine wpAny_bind (wpAny_of_eq (a := ((Value.ref x : Value), [Value.str "__class__" tn])) ?_ ?_)
  · first
      | rfl
      | (simp only [slotArgs]
         rfl)
  refine wpAny_bind (wpAny_pure ?_)
  refine wpAny_bind (T0.at (wpAny_bind (T3.at ?_)))
  show wpAny _ _ (holding [Value.builtin "object.__class__"] (call (.builtin "getset_descriptor.__get__") [.builtin "object.__class__", .ref x, .ref D]) >>= ret)
    _ _ _
  refine wpAny_bind (wpAny_holding (wpAny_call ?_))
  refine class_get (s := ⟨hh, gs, dr, tn + 1, oo⟩) (ox := ox) (od := od) kin ia k.ob ?_
  refine wpAny_pure ?_
  show wpAny _ _ (handedOut (.ref D))
    _ _ _
  rw [handedOut_of (v := .ref D) rfl]
  first
    | exact wpAny_pure (wpAny_pure go)
    | exact wpAny_pure go
    | exact wpAny_pure (wpAny_bind (wpAny_pure
        (wpAny_pure go)))
theorem kitX (k : ExK K D) : KitX K (.ref x) (.ref D) (fun h => InstAt h x ox D od) where
  ty := fun _ _ _ ia => ia.type
  it := fun _ _ kin _ => by
    obtain ⟨cdD, hcD, _⟩ := any_some k.hd
    unfold clsIn at hcD
    split at hcD
    · rename_i c1 d1 e1 s1 at_
      intro A2 Q2 E2 s2 keep go
      unfold isType
      unfold loadHead
      exact wpAny_bind (wpAny_loadPart (keep _ _ (kin _ _ at_)) (wpAny_pure go))
    · cases hcD
  ne := fun h tp dx its n sl kin at_ => by
    obtain ⟨cdD, hcD, _⟩ := any_some k.hd
    refine Bool.eq_false_iff.mpr fun same => ?_
    have e : D = tp := Value.ref.inj (beq_iff_eq.mp same)
    subst e
    unfold clsIn at hcD
    split at hcD
    · rename_i c1 d1 e1 s1 at2
      have both := (kin _ _ at2).symm.trans at_
      cases both
    · cases hcD
  ca := fun kin ia go => kinX k kin ia go
end
end FRT
end
section
set_option Elab.async false
set_option linter.all false
set_option maxRecDepth 100000
set_option maxHeartbeats 4000001
namespace FRT
open PySem L2
/-! ### own exceptions as values -/
/-- __init__ of one field -/
def spI (K : PySem.W.Frag) (C : Addr) (f : Str) : Sp := fun vs H Q _ => ∃ (a : Addr) (v : V), vs = [.ref a, v] ∧ H a = some (exo a C none) ∧ ∀ dx, H dx = none → dx ≠ a → Q .non (upd (upd H dx (exd dx [(f, v)])) a (exo a C (some dx)))
/-- __init__ without fields -/
def spI0 : Sp := fun vs H Q _ => ∃ a : Addr, vs = [.ref a] ∧ Q .non H
/-- the class at C, its __init__ that keeps sp -/
structure CxC (P : Program) (w : World) (K : PySem.W.Frag) (mg : Str → Option Value) (base : Heap) (C fI : Addr) (fd : FuncData) (k : Nat) (ps : List Str) (sp : Sp) : Prop where
  T : OexC K C
  iC : PySem.W.findIn K (.ref C) "__init__" = some (some (.ref fI))
  tI : PySem.W.typeIn K (.ref fI) = some (.type "function")
  F : FnOk P w K mg base (L2.CX P w) k fI fd ps sp
section
variable {X : Cx} {pins : List (Addr × Obj)} {σ : St} {H : Hp} {s : Shared} {C fI : Addr} {fd : FuncData} {k : Nat} {ps ks : List Str} {sp : Sp} {us ws rr : List Value} {vv : List V} {Q : VK}
theorem mk_run (c : CxC X.prog X.w X.K X.mg X.base C fI fd k ps sp) (hr : Room (k + 1) X.A) (hb : ∀ (s : Shared) (me : Value), X.K.In s.heap → BindsTo s fd ⟨me :: us, ks.zip ws⟩ (ps.zip (me :: rr))) (rv : Vals vv rr) (hz : us.length ≤ 1000)
    (hx : Passes (L2.CX X.prog X.w) X (fun _ _ _ => False)) (I : Inv X pins σ H s)
    (h : ∀ a, H a = none → sp (.ref a :: vv) (upd H a (exo a C none)) (fun v H2 => v = .non ∧ Q (.ref a) H2) (fun _ _ _ => False)) :
    wpAny (model X.prog X.w) X.A (call (.ref C) us (ks.zip ws)) (EP X pins σ Q) X.xe s := by
  obtain ⟨nm, q, N, bs, bm, sn, sub, ab, col, dd, k0, k1, k2, k3, k5, hC, hbm⟩ := c.T.cls
  obtain ⟨hp, g, dr, tk, os⟩ := s
  have le1 : hp.objs.size ≤ hp.objs.size + 1 := Nat.le_succ _
  have free : H (hp.objs.size + 1) = none := I.hok.fresh le1
  have hq := h (hp.objs.size + 1) free
  have old : ∀ b o, hp.get? b = some o → ((hp.push (PySem.W.kdv_tup us)).push (PySem.HandSPX.excO C hp.objs.size)).get? b = some o :=
    fun b o e => Heap.get?_push_of_some _ (Heap.get?_push_of_some _ e)
  have at1 : ((hp.push (PySem.W.kdv_tup us)).push (PySem.HandSPX.excO C hp.objs.size)).get? (hp.objs.size + 1) = some (PySem.HandSPX.excO C hp.objs.size) := by
    heap_get
  have I2 : Inv X pins σ (upd H (hp.objs.size + 1) (exo (hp.objs.size + 1) C none)) ⟨(hp.push (PySem.W.kdv_tup us)).push (PySem.HandSPX.excO C hp.objs.size), g, dr, tk, os⟩ :=
    I.laid (t' := tk) (a := hp.objs.size + 1) (o := exo (hp.objs.size + 1) C none)
      (h' := (hp.push (PySem.W.kdv_tup us)).push (PySem.HandSPX.excO C hp.objs.size)) old le1 (exo_ok at1)
  have r2 : Vals (V.ref (hp.objs.size + 1) :: vv) (Value.ref (hp.objs.size + 1) :: rr) := .cons rfl rv
  have hus : us.length ≤ sizeLine := by
    rw [sizeLine_eq]
    omega
  refine wpAny_call (kwCallOwn F.excBase_ValueError (fun Y => PySem.HandSPX.refsVE_contains Y bm hbm) (I.kIn _ _ hC) hus
    (PySem.W.looks_findIn I.kIn c.iC) (fun self => PySem.W.bind_fn I.kIn self c.tI) ?_)
  refine codeAny_mono (c.F.run _ X.stack _ _ _ _ _ _ (fun _ _ _ => False)
    (hr.make C us (ks.zip ws)) (I2.env0.make C us (ks.zip ws)) (hb _ (Value.ref (hp.objs.size + 1)) I2.kIn) r2 hq) fun r s' hq' => ?_
  cases r with
  | error er => exact hx pins σ _ _ er s' I2 hq'
  | ok fl =>
    cases fl with
    | ret u =>
      obtain ⟨v, H2, J, ru, ev, q2⟩ := I2.after hq'
      subst ev
      obtain rfl : u = Value.none := ru
      exact ⟨rfl, .ref (hp.objs.size + 1), H2, J, rfl, q2⟩
    | next => exact False.elim hq'
    | brk => exact False.elim hq'
    | cont => exact False.elim hq'
end
def mmk1 (C : Addr) (f : Str) (ml : M (List D)) : M Vd := fun ρ => (ml ρ).bind fun ds ρ1 => match ds with
  | [d] => .ok (.sh (.exn C [(f, d)])) ρ1
  | _ => .bad
def mmk0 (C : Addr) : M Vd := fun ρ => .ok (.sh (.exn C [])) ρ
abbrev PKl (cs : List Addr) (W : WX) (X : Cx) (kws : List Keyword) (m : M (List D)) : Prop := PK X kws (tAs cs X.K W m)
theorem Way.exn {K : PySem.W.Frag} {G H G1 H1 : Hp} {σ σ1 : St} {ρ ρ1 : Ro} {a C dx : Addr} {f : Str} {v : V} {d : D} (w : Way K G H σ ρ G1 H1 σ1 ρ1) (na : H1 a = none) (nd : (upd H1 a (exo a C none)) dx = none) (ne : dx ≠ a) (r : Rp K G1 v d) :
    ∃ G2, Way K G H σ ρ G2 (upd (upd (upd H1 a (exo a C none)) dx (exd dx [(f, v)])) a (exo a C (some dx))) σ1 ρ1 ∧ Rp K G2 (.ref a) (.exn C [(f, d)]) := by
  have nd' : H1 dx = none := by
    rw [upd_ne ne] at nd
    exact nd
  obtain ⟨w1, s1⟩ := w.laid (o := exd dx [(f, v)]) nd'
  have na' : (upd H1 dx (exd dx [(f, v)])) a = none := by
    rw [upd_ne (Ne.symm ne)]
    exact na
  obtain ⟨w2, s2⟩ := w1.laid (o := exo a C (some dx)) na'
  have eH : upd (upd (upd H1 a (exo a C none)) dx (exd dx [(f, v)])) a (exo a C (some dx)) = upd (upd H1 dx (exd dx [(f, v)])) a (exo a C (some dx)) := by
    funext b
    by_cases hb : b = a
    · rw [hb, upd_same, upd_same]
    · rw [upd_ne hb, upd_ne hb]
      by_cases hd : b = dx
      · rw [hd, upd_same, upd_same]
      · rw [upd_ne hd, upd_ne hd, upd_ne hb]
  rw [eH]
  exact ⟨_, w2, .exn1 upd_same (s2 _ _ upd_same) (r.mono (s1.trans s2))⟩
section
variable {X : Cx} {cs : List Addr} {W : WX} {e : Expr} {ml : M (List D)} {m : M Vd} {ma : M Pr} {x : Str} {C fI : Addr} {fd : FuncData} {ps ks : List Str} {k : Nat} {p pos kpos : Pos} {kws : List Keyword} {f par : Str} {nm : Option Str}
theorem kl_nil : PKl cs W X [] mnil := pk_imp pk_nil fun σ H Q ⟨G, ρ, e, q⟩ => q [] G H (.refl e) .nil
theorem kl_cons (ha : PD cs W X e m) (hr : PKl cs W X kws ml) : PKl cs W X (⟨nm, e, kpos⟩ :: kws) (mcons m ml) :=
  pk_imp (pk_cons ha hr) fun σ H Q ⟨G, ρ, e0, h⟩ => ⟨G, ρ, e0, Pg.bind anA h fun d ρ1 v G1 H1 w1 r1 h1 => by
    obtain ⟨G2, w2, s2, r2⟩ := share w1 r1
    exact ⟨G2, ρ1, w2.env, Pg.bind anA (h1 G2 w2) fun ds ρ2 vs G3 H3 w3 r3 h3 => h3 G3 w3 _ G3 H3 (.refl w3.env) (.cons (r2.mono w3.st.g) r3)⟩⟩
theorem pass_no {X : Cx} : Passes (L2.CX X.prog X.w) X (fun _ _ _ => False) := fun pins σ H s e s' I h => passAt takes0 σ pins H s e s' I h
/-- C(e) -/
theorem pd_mk1 (c : CxC X.prog X.w X.K X.mg X.base C fI fd k ["self", par] (spI X.K C f)) (hr : Room (k + 1) X.A) (hb : Binds X.K fd ["self", par] []) (hg : Gl X x) (hm : X.mg x = some (.ref C))
    (ha : PD cs W X e m) (hdb : (x == ("__debug__" : Str)) = false := by decide) (he : starEach (e :: []) X.env = (false, eval e X.env) :: starEach [] X.env := by rfl) :
    PD cs W X (.Call (.Name x p) (e :: []) [] pos) (mmk1 C f (mcons m mnil)) := by
  refine ⟨fun pins s σ H Q I h => ?_⟩
  obtain ⟨G, ρ, e0, q⟩ := h
  refine wpAny_Call_Name_kw (ld_glob I hg hm ?_ hdb)
  have h1 : tAs cs X.K W (mcons m mnil) σ H (fun vs H1 => ∃ v, vs = [v] ∧ ∀ a dx, H1 a = none → (upd H1 a (exo a C none)) dx = none → dx ≠ a → Q (.ref a) (upd (upd (upd H1 a (exo a C none)) dx (exd dx [(f, v)])) a (exo a C (some dx)))) := by
    refine ⟨G, ρ, e0, Pg.bind anE q fun ds ρ1 vs G1 H1 w1 r1 h2 => ?_⟩
    have h3 := h2 G1 w1
    split at h3
    · rename_i d
      have r1' : Rps X.K G1 vs [d] := r1
      cases r1' with
      | cons rd rn =>
        cases rn
        refine ⟨_, rfl, fun a dx na nd ne => ?_⟩
        obtain ⟨G2, w2, r2⟩ := Way.exn (f := f) (C := C) (Way.refl w1.env) na nd ne rd
        exact h3 _ G2 _ w2 r2
    · exact h3.elim
  refine PySem.W.callWith_K (h₀ := X.base) I.ok.mod.kin c.T.kC (thn ((pl_cons ha pl_nil he).run pos pins s σ H _ I h1) fun us s1 hh => ?_) he rfl
  obtain ⟨vs, H1, I1, r1, v, rfl, q1⟩ := hh
  refine ⟨I1.kIn, ?_⟩
  have hl := valsLen r1
  exact mk_run (ks := []) (ws := []) c hr (fun s me kin => by
    have z := hb s (me :: us) kin (by simp [hl])
    rw [List.append_nil] at z
    exact z) r1 (by rw [List.nil_append, hl]; exact (by decide : 1 ≤ 1000)) pass_no I1 fun a na => ⟨a, v, rfl, upd_same, fun dx nd ne => ⟨rfl, q1 a dx na nd ne⟩⟩
/-- C(k = e) -/
theorem pd_mkk (c : CxC X.prog X.w X.K X.mg X.base C fI fd k ["self", par] (spI X.K C f)) (hr : Room (k + 1) X.A) (hb : ∀ (s : Shared) (me v : Value), BindsTo s fd ⟨[me], [(par, v)]⟩ [("self", me), (par, v)]) (hg : Gl X x) (hm : X.mg x = some (.ref C))
    (ha : PKl cs W X [⟨nm, e, kpos⟩] ml) (hdb : (x == ("__debug__" : Str)) = false := by decide) (hall : (backToKw pos (keywordEach [⟨nm, e, kpos⟩] X.env)).all (·.1.isSome) = true := by rfl) (hks : (backToKw pos (keywordEach [⟨nm, e, kpos⟩] X.env)).filterMap (·.1) = [par] := by rfl)
    (hpl : ((backTo pos (starEach [] X.env)).any (·.1) || (backToKw pos (keywordEach [⟨nm, e, kpos⟩] X.env)).any (·.1.isNone)) = false := by rfl) :
    PD cs W X (.Call (.Name x p) [] [⟨nm, e, kpos⟩] pos) (mmk1 C f ml) := by
  refine ⟨fun pins s σ H Q I h => ?_⟩
  obtain ⟨G, ρ, e0, q⟩ := h
  refine wpAny_Call_Name_kw (ld_glob I hg hm ?_ hdb)
  have h1 : tAs cs X.K W ml σ H (fun vs H1 => ∃ v, vs = [v] ∧ ∀ a dx, H1 a = none → (upd H1 a (exo a C none)) dx = none → dx ≠ a → Q (.ref a) (upd (upd (upd H1 a (exo a C none)) dx (exd dx [(f, v)])) a (exo a C (some dx)))) := by
    refine ⟨G, ρ, e0, Pg.bind anE q fun ds ρ1 vs G1 H1 w1 r1 h2 => ?_⟩
    have h3 := h2 G1 w1
    split at h3
    · rename_i d
      have r1' : Rps X.K G1 vs [d] := r1
      cases r1' with
      | cons rd rn =>
        cases rn
        refine ⟨_, rfl, fun a dx na nd ne => ?_⟩
        obtain ⟨G2, w2, r2⟩ := Way.exn (f := f) (C := C) (Way.refl w1.env) na nd ne rd
        exact h3 _ G2 _ w2 r2
    · exact h3.elim
  refine PySem.W.callWith_KW0 (h₀ := X.base) I.ok.mod.kin c.T.kC hall (thn (ha.run pos pins s σ H _ I h1) fun ws s2 hh => ?_) hpl
  obtain ⟨vs, H2, I2, r2, v, rfl, q1⟩ := hh
  refine ⟨I2.kIn, ?_⟩
  rw [hks]
  cases r2 with
  | @cons _ u _ _ ru rn =>
    cases rn
    exact mk_run (us := []) (rr := [u]) c hr (fun s me kin => hb s me u) (.cons ru .nil) (by decide) pass_no I2 fun a na => ⟨a, v, rfl, upd_same, fun dx nd ne => ⟨rfl, q1 a dx na nd ne⟩⟩
/-- C() -/
theorem pd_mk0 (c : CxC X.prog X.w X.K X.mg X.base C fI fd k ["self"] spI0) (hr : Room (k + 1) X.A) (hb : Binds X.K fd ["self"] []) (hg : Gl X x) (hm : X.mg x = some (.ref C))
    (hdb : (x == ("__debug__" : Str)) = false := by decide) (hall : (backToKw pos (keywordEach [] X.env)).all (·.1.isSome) = true := by rfl) (hks : (backToKw pos (keywordEach [] X.env)).filterMap (·.1) = [] := by rfl)
    (hpl : ((backTo pos (starEach [] X.env)).any (·.1) || (backToKw pos (keywordEach [] X.env)).any (·.1.isNone)) = false := by rfl) :
    PD cs W X (.Call (.Name x p) [] [] pos) (mmk0 C) := by
  refine ⟨fun pins s σ H Q I h => ?_⟩
  obtain ⟨G, ρ, e0, q⟩ := h
  refine wpAny_Call_Name_kw (ld_glob I hg hm ?_ hdb)
  refine PySem.W.callWith_KW0 (h₀ := X.base) I.ok.mod.kin c.T.kC hall (thn ((pk_nil (X := X)).run pos pins s σ H (fun zs H2 => zs = [] ∧ H2 = H) I ⟨rfl, rfl⟩) fun ws s2 hh => ?_) hpl
  obtain ⟨vs, H2, I2, r2, rfl, rfl⟩ := hh
  refine ⟨I2.kIn, ?_⟩
  rw [hks]
  exact mk_run (us := []) (rr := []) (ks := []) c hr (fun s me kin => by
    have z := hb s [me] kin rfl
    exact z) .nil (by decide) pass_no I2 fun a na => ⟨a, rfl, rfl, by
      obtain ⟨w2, s2⟩ := (Way.refl e0).laid (o := exo a C none) na
      exact q _ _ _ w2 (.exn0 upd_same)⟩
end
end FRT
end
section
set_option Elab.async false
set_option linter.all false
set_option maxRecDepth 100000
set_option maxHeartbeats 4000001
namespace FRT
open PySem L2
/-! ### own exceptions: their fields and kinds -/
/-- an own exception, its dict -/
def ExAt (H : Hp) (a C : Addr) (d : Option Addr) : Prop := H a = some (exo a C d) ∨ H a = some (exq a (.ref C) d)
def ExDt (H : Hp) (dx : Addr) (fs : List (Str × V)) : Prop := H dx = some (exd dx fs) ∨ H dx = some (.xd fs)
theorem ExAt.mono {G H : Hp} {a C : Addr} {d : Option Addr} (e : Same G H) (h : ExAt G a C d) : ExAt H a C d := h.imp (e _ _) (e _ _)
theorem ExDt.mono {G H : Hp} {dx : Addr} {fs : List (Str × V)} (e : Same G H) (h : ExDt G dx fs) : ExDt H dx fs := h.imp (e _ _) (e _ _)
theorem Rp.exf {K : PySem.W.Frag} {G : Hp} {v : V} {C : Addr} {l : List (Str × D)} (r : Rp K G v (.exn C l)) :
    ∃ a, v = .ref a ∧ ((l = [] ∧ ExAt G a C none) ∨ ∃ dx f u d, l = [(f, d)] ∧ ExAt G a C (some dx) ∧ ExDt G dx [(f, u)] ∧ Rp K G u d) := by
  cases r with
  | exn0 h => exact ⟨_, rfl, .inl ⟨rfl, .inl h⟩⟩
  | exn1 h k r => exact ⟨_, rfl, .inr ⟨_, _, _, _, rfl, .inl h, .inl k, r⟩⟩
  | exnk h k r => exact ⟨_, rfl, .inr ⟨_, _, _, _, rfl, .inr h, .inr k, r⟩⟩
theorem VwR.exf {K : PySem.W.Frag} {G H : Hp} {v : V} {C : Addr} {l : List (Str × D)} (e : Same G H) (r : VwR K G H v (.exn C l)) : ∃ a, v = .ref a ∧ Rp K G v (.exn C l) := by
  rcases r with r | ⟨a, vs, l', _, h, _⟩
  · obtain ⟨a, ha, _⟩ := r.exf
    exact ⟨a, ha, r⟩
  · cases h
def prFld (Cs : List Addr) (f : Str) : D → Option Vd
  | .exn C [(g, d)] => if g = f ∧ C ∈ Cs then some (.sh d) else none
  | _ => none
def prIsX (Cs : List Addr) (ans : Addr → Bool) : D → Option Vd
  | .exn C _ => if C ∈ Cs then vb (ans C) else none
  | _ => none
section
variable {X : Cx} {pins : List (Addr × Obj)} {σ : St} {H : Hp} {s : Shared}
theorem ExDt.ns {dx : Addr} {fs : List (Str × V)} (I : Inv X pins σ H s) (h : ExDt H dx fs) : ∃ mA, s.heap.Ns1 dx mA ∧ ∀ f, RelO (fs.lookup f) (mA f) := by
  rcases h with h | h
  · exact exd_at I.hok h
  · obtain ⟨mA, hns, hr⟩ := (show ObjOk X.prog X.w H s.heap dx (.xd fs) from I.hok dx _ h)
    exact ⟨mA, hns, hr⟩
theorem ExAt.obj {a C : Addr} {d : Option Addr} (I : Inv X pins σ H s) (h : ExAt H a C d) : ∃ (oe : Obj) (vs : Array Value), s.heap.get? a = some oe ∧ Zc (.ref C) d oe ∧ oe.data = .fields vs := by
  rcases h with h | h
  · obtain ⟨t1, ho⟩ := exo_at I.hok h
    exact ⟨_, _, ho, ⟨rfl, rfl⟩, rfl⟩
  · have x : ObjOk X.prog X.w H s.heap a (exq a (.ref C) d) := I.hok a _ h
    exact x.1
theorem exo_inst {a C : Addr} {d : Option Addr} (I : Inv X pins σ H s) (h : ExAt H a C d) (hd : ∀ dx, d = some dx → ∃ fs, ExDt H dx fs) :
    ∃ (oe : Obj) (od : Option Obj), PySem.W.InstAt s.heap a oe C od := by
  obtain ⟨oe, vs, ho, hz, hv⟩ := h.obj I
  obtain ⟨oc, od0, oda, osl⟩ := oe
  obtain ⟨h1, h2⟩ := hz
  dsimp only at h1 h2 hv
  subst h1 h2 hv
  cases od0 with
  | none => exact ⟨_, none, ⟨ho, rfl, rfl, trivial⟩⟩
  | some dx =>
    obtain ⟨fs, hf⟩ := hd dx rfl
    obtain ⟨mA, hns, rel⟩ := hf.ns I
    obtain ⟨od, hod, _⟩ := lookIn_ns hns
    exact ⟨_, some od, ⟨ho, rfl, rfl, hod⟩⟩
end
/-- isinstance(e, c): e an own exception -/
def rIsX (K : PySem.W.Frag) : List V → Hp → VK → Prop := fun xs H Q => ∃ (a C : Addr) (d : Option Addr) (c : V) (cv : Value) (b : Bool), xs = [.ref a, c] ∧ ExAt H a C d ∧ (∀ dx, d = some dx → ∃ fs, ExDt H dx fs) ∧ ExK K C ∧ ClsV c cv ∧ PySem.W.kitOne K (.ref C) cv = some b ∧ Q (.bl b) H
theorem call_isX {X : Cx} : CallR X (.builtin "isinstance") (rIsX X.K) := by
  intro pins s σ H xs us Q I r h
  obtain ⟨a, C, d, c, cv, b, rfl, ha, hd, kx, kc, ko, q⟩ := h
  obtain ⟨u1, u2, rfl, r1, r2⟩ := vals2 r
  have e2 := kc.eq r2
  subst e2
  cases (show u1 = Value.ref a from r1)
  obtain ⟨oe, od, ia⟩ := exo_inst I ha hd
  exact PySem.W.kia_one (kitX (ox := oe) (od := od) kx) I.kIn ia ko (fun z => nomatch z) fun tk => ⟨.bl b, H, I.tok _, rfl, q⟩
section
variable {X : Cx} {cs : List Addr} {W : WX} {a e : Expr} {ma : M Pr} {pos p p2 : Pos} {x y f : Str} {Cs : List Addr} {ans : Addr → Bool} {cv : V} {cu : Value}
theorem pd_isX {ee : Expr} (hg : Gl X x) (hm : X.mg x = none) (hv : bootBuiltins x = some (.builtin "isinstance")) (hc : PE X ee (tC cv)) (kc : ClsV cv cu) (hC : ∀ C ∈ Cs, ExK X.K C ∧ PySem.W.kitOne X.K (.ref C) cu = some (ans C)) (ha : PO2 cs W X a ma)
    (hn : x ≠ "__name__" := by decide) (hdb : (x == ("__debug__" : Str)) = false := by decide)
    (he : starEach (a :: [ee]) X.env = (false, eval a X.env) :: starEach [ee] X.env := by rfl) (he2 : starEach (ee :: []) X.env = (false, eval ee X.env) :: starEach [] X.env := by rfl)
    (hpl : (backTo pos (starEach [ee] X.env)).any (·.1) = false := by rfl) :
    PD cs W X (.Call (.Name x p) (a :: [ee]) [] pos) (m1 (prIsX Cs ans) ma) :=
  pe_imp (pe_callB call_isX hg hm hv (pa_cons ha (pa_cons hc pa_nil he2) he) hn hdb he hpl) fun σ H Q h =>
    m1_imp h fun {G H' ρ v x d} e r g q => by
      unfold prIsX at g
      split at g
      · rename_i C l
        split at g
        · rename_i hin
          cases g
          obtain ⟨b, rfl, r⟩ := r.exf e.same
          obtain ⟨k1, k2⟩ := hC C hin
          obtain ⟨b2, eb, r | ⟨dx, f, u, d, rfl, h1, h2, r⟩⟩ := r.exf
          · cases eb
            exact ⟨b, C, none, cv, cu, _, rfl, r.2.mono e.same, (fun _ z => nomatch z), k1, kc, k2, fin_bl e q⟩
          · cases eb
            exact ⟨b, C, some dx, cv, cu, _, rfl, h1.mono e.same, (fun dx' z => by cases z; exact ⟨_, h2.mono e.same⟩), k1, kc, k2, fin_bl e q⟩
        · cases g
      · cases g
/-- e.f -/
theorem pd_fld (hC : ∀ C ∈ Cs, XfC X.K C ∧ PySem.W.findIn X.K (.ref C) f = some none) (ha : PO2 cs W X a ma) (hb : attributeBase a f X.env (eval a X.env) = eval a X.env := by rfl) :
    PD cs W X (.Attribute a f pos) (m1 (prFld Cs f) ma) := by
  refine ⟨fun pins s σ H Q I h => ?_⟩
  refine attr_of hb (thn (ha.run pins s σ H (fun v H1 => ∃ (b C dx : Addr) (u : V), v = .ref b ∧ ExAt H1 b C (some dx) ∧ ExDt H1 dx [(f, u)] ∧ C ∈ Cs ∧ Q u H1) I (m1_imp h fun {G H' ρ v x d} e r g q => ?_)) fun u s1 hh => ?_)
  · unfold prFld at g
    split at g
    · rename_i C g0 d0
      split at g
      · rename_i hc
        obtain ⟨rfl, hin⟩ := hc
        cases g
        obtain ⟨b, rfl, r⟩ := r.exf e.same
        obtain ⟨b2, eb, r | ⟨dx, f, u, d, el, h1, h2, r⟩⟩ := r.exf
        · cases r.1
        · cases eb
          cases el
          exact ⟨b, C, dx, u, rfl, h1.mono e.same, h2.mono e.same, hin, q u G H' (.refl e) r⟩
      · cases g
    · cases g
  · obtain ⟨x, H1, I1, rx, b, C, dx, y, rfl, h1, h2, hin, q⟩ := hh
    obtain rfl : u = Value.ref b := rx
    obtain ⟨T, hno⟩ := hC C hin
    obtain ⟨oe, vs, ho, hz, hv⟩ := h1.obj I1
    obtain ⟨mA, hns, hr⟩ := h2.ns I1
    obtain ⟨od, hod, hl⟩ := lookIn_ns hns
    have l : List.lookup f [(f, y)] = some y := by simp [List.lookup]
    obtain ⟨w, hu, ru⟩ := RelO.some_of (v := y) (o := mA f) (by rw [← l]; exact hr f)
    have J : PySem.W.InstAt s1.heap b oe C (some od) := ⟨ho, hz.1, by unfold PySem.W.notCls; rw [hv] <;> rfl, by rw [hz.2]; exact hod⟩
    exact PySem.HandSPX.exc_get I1.kIn J T.ga T.gg T.exC (PySem.W.findObj_own T.hdC hno rfl (by rw [hl, hu])) (handed_of ru) ⟨y, H1, I1.tok _, ru, q⟩
end
end FRT
end
section
set_option Elab.async false
set_option linter.all false
set_option maxRecDepth 100000
set_option maxHeartbeats 4000001
namespace FRT
open PySem L2
/-! ### what the written part says of the classes, in one word each -/
def clsB (K : PySem.W.Frag) (C fI : Addr) : Bool :=
  decide (PySem.W.findIn K (.ref C) "__setattr__" = some (some (.builtin "object.__setattr__"))) && (decide (PySem.W.subIn K (.ref C) (.type "BaseException") = some true) && (decide (PySem.W.typeIn K (.ref C) = some (.type "type")) &&
  (PySem.W.keepIn K (.ref C) && (decide (PySem.W.findIn K (.ref C) "__init__" = some (some (.ref fI))) && (decide (PySem.W.typeIn K (.ref fI) = some (.type "function")) &&
  (decide (PySem.W.findIn K (.ref C) "__getattribute__" = some (some (.builtin "BaseException.__getattribute__"))) && (decide (PySem.W.findIn K (.ref C) "__getattr__" = some none) && (PySem.W.hasDictIn K C &&
  (decide (PySem.W.findIn K (.ref C) "__class__" = some (some (.builtin "object.__class__"))) && (decide (PySem.W.specialIn K (.builtin "object.__class__") "__get__" = some (some (.builtin "getset_descriptor.__get__"))) &&
  (decide (PySem.W.takesIn K (.builtin "object.__class__") = some true) && decide (PySem.W.mroIn K C (.type "object") = some true))))))))))))
structure ClsF (K : PySem.W.Frag) (C fI : Addr) : Prop where
  B : clsB K C fI = true
  cls : ∃ nm q N bs bm sn sub ab col dd k0 k1 k2 k3 k5, K.lookup C = some (excClassObj nm q C N bs bm true sn sub ab col dd k0 k1 k2 k3 k5 "ValueError.__new__") ∧ PySem.HandSPX.refsVE bm = true
section
variable {K : PySem.W.Frag} {C fI : Addr}
theorem ClsF.all (c : ClsF K C fI) : OexC K C ∧ (PySem.W.findIn K (.ref C) "__init__" = some (some (.ref fI)) ∧ PySem.W.typeIn K (.ref fI) = some (.type "function")) ∧ XfC K C ∧ ExK K C := by
  have h := c.B
  unfold clsB at h
  simp only [Bool.and_eq_true, decide_eq_true_eq] at h
  obtain ⟨h1, h2, h3, h4, h5, h6, h7, h8, h9, h10, h11, h12, h13⟩ := h
  exact ⟨⟨c.cls, h1, h2, h3, h4⟩, ⟨h5, h6⟩, ⟨h7, h8, h2, h9⟩, ⟨h7, h8, h2, h9, h10, h11, h12, h13⟩⟩
theorem ClsF.mk' {P : Program} {w : World} {mg : Str → Option Value} {base : Heap} {fd : FuncData} {k : Nat} {ps : List Str} {sp : Sp} (c : ClsF K C fI) (F : FnOk P w K mg base (L2.CX P w) k fI fd ps sp) : CxC P w K mg base C fI fd k ps sp :=
  ⟨c.all.1, c.all.2.1.1, c.all.2.1.2, F⟩
end
/-- the kinds of the classes Cs asked by the classes of tops -/
def kindsB (K : PySem.W.Frag) (Cs : List Addr) (u : Value) (ans : Addr → Bool) : Bool := Cs.all fun C => decide (PySem.W.kitOne K (.ref C) u = some (ans C))
theorem kindsB_at {K : PySem.W.Frag} {Cs : List Addr} {u : Value} {ans : Addr → Bool} (h : kindsB K Cs u ans = true) {C : Addr} (hC : C ∈ Cs) : PySem.W.kitOne K (.ref C) u = some (ans C) :=
  of_decide_eq_true (List.all_eq_true.mp h C hC)
def noB (K : PySem.W.Frag) (Cs : List Addr) (f : Str) : Bool := Cs.all fun C => decide (PySem.W.findIn K (.ref C) f = some none)
theorem noB_at {K : PySem.W.Frag} {Cs : List Addr} {f : Str} (h : noB K Cs f = true) {C : Addr} (hC : C ∈ Cs) : PySem.W.findIn K (.ref C) f = some none := of_decide_eq_true (List.all_eq_true.mp h C hC)
/-- a def within a class -/
def clsBody : Stmt → List Stmt
  | .ClassDef _ _ _ b _ _ _ _ _ _ _ => b
  | _ => []
def inCls (s : Stmt) (i : Nat) : Stmt := (clsBody s).getD i (.Pass ⟨0, 0, 0, 0⟩)
section
variable {P : Program} {w : World} {K : PySem.W.Frag} {mg : Str → Option Value} {base : Heap} {x qual : Str} {st : Stmt} {f C : Addr} {fd : FuncData} {par fld : Str}
/-- an __init__ that sets one field -/
theorem ok_init1 {p1 p2 p3 p4 : Pos} (F : Fun K x qual st f fd) (hb : defBody st = [.Assign [.Attribute (.Name "self" p1) fld p2] (.Name par p3) p4]) (S : FnScope ["self", par] ["self", par] (defScope st)) (hl : (defScope st).names.lookup par = some .local) (hl2 : (defScope st).names.lookup ("self" : Str) = some .local)
    (hd : (par == ("__debug__" : Str)) = false) (hcd : (par == ("__classdict__" : Str)) = false) (hno : PySem.W.findIn K (.ref C) fld = some none) (T : OexC K C)
    (hs : ∀ (A : Around) (outer : List Env) (s : Shared) (H : Hp) (E : XK) (cdv : Value), swapsWith (.Name par p3) (some (.Attribute (.Name "self" p1) fld p2)) p4.line (cxOf (L2.CX P w) P w K mg base ["self", par] qual (defScope st) f cdv A outer s H E).env = pure false) :
    FnOk P w K mg base (L2.CX P w) 1 f fd ["self", par] (spI K C fld) := by
  refine F.okX (k := 0) S (fun vs H Q E h => ?_) fun cdv A outer s H vs Q E hr h => ⟨tOst K fld (tVar 0) (tVar 1), ?_, ?_⟩
  · obtain ⟨a, v, rfl, _⟩ := h
    rfl
  · rw [hb]
    exact pss_one (ps_ost (pv 0 rfl (.inl hl2)) (pv 1 rfl (.inl hl) hd hcd) (hs A outer s H E cdv))
  · obtain ⟨a, v, rfl, ha, q⟩ := h
    exact ⟨v, rfl, .ref a, rfl, a, C, rfl, T, hno, .inl ⟨ha, fun dx n ne => q dx n ne⟩⟩
/-- an __init__ that does nothing -/
theorem ok_init0 {p1 : Pos} (F : Fun K x qual st f fd) (hb : defBody st = [.Pass p1]) (S : FnScope ["self"] ["self"] (defScope st)) : FnOk P w K mg base (L2.CX P w) 1 f fd ["self"] spI0 := by
  refine F.okX (k := 0) S (fun vs H Q E h => ?_) fun cdv A outer s H vs Q E hr h => ⟨_, by rw [hb]; exact pss_one ps_pass, ?_⟩
  · obtain ⟨a, rfl, _⟩ := h
    rfl
  · obtain ⟨a, rfl, q⟩ := h
    exact q
end
end FRT
end
section
set_option Elab.async false
set_option linter.all false
set_option maxRecDepth 100000
set_option maxHeartbeats 4000001
namespace FRT
open PySem L2
/-! ### how the functions on data run -/
theorem bind_ok {α β : Type} (a : α) (ρ : Ro) (k : α → M β) : (Rs.ok a ρ).bind k = k a ρ := rfl
theorem bind_bad {α β : Type} (k : α → M β) : (Rs.bad : Rs α).bind k = .bad := rfl
theorem bind_exc {α β : Type} (x : Xn) (ρ : Ro) (k : α → M β) : (Rs.exc x ρ : Rs α).bind k = .exc x ρ := rfl
section
variable {ρ ρ1 : Ro} {i j : Nat} {d e : D} {l : List D} {s : Sl} {m : M Vd} {ma mb : M Pr} {v : Vd} {a b : M Fl}
theorem r_lit : mlit d ρ = .ok (.sh d) ρ := rfl
theorem r_ps (h : ρ[i]? = some (.sh d)) : mps i ρ = .ok (.s i) ρ := by unfold mps; rw [h]
theorem g_d : (Pr.d d).get ρ = some d := rfl
theorem g_sh (h : ρ[i]? = some (.sh d)) : (Pr.s i).get ρ = some d := by
  show (ρ[i]?).bind Sl.d = _
  rw [h]
  rfl
theorem g_ow (h : ρ[i]? = some (.own l)) : (Pr.s i).get ρ = some (.lst l) := by
  show (ρ[i]?).bind Sl.d = _
  rw [h]
  rfl
theorem g_bo (h : ρ[i]? = some (.bor l)) : (Pr.s i).get ρ = some (.lst l) := by
  show (ρ[i]?).bind Sl.d = _
  rw [h]
  rfl
theorem seq_nx (h : a ρ = .ok .nx ρ1) : sseq a b ρ = b ρ1 := by unfold sseq; rw [h]
theorem seq_rt (h : a ρ = .ok (.rt v) ρ1) : sseq a b ρ = .ok (.rt v) ρ1 := by unfold sseq; rw [h]
theorem asg_ok {ρ2 : Ro} (h : m ρ = .ok v ρ1) (h2 : setV i v ρ1 = some ρ2) : sAsg i m ρ = .ok .nx ρ2 := by unfold sAsg; rw [h, bind_ok, h2]
theorem ret_ok (h : m ρ = .ok v ρ1) : sRet m ρ = .ok (.rt v) ρ1 := by unfold sRet; rw [h, bind_ok]
theorem if_t {c : M Bool} (h : c ρ = .ok true ρ1) : sIf c a b ρ = a ρ1 := by unfold sIf; rw [h, bind_ok, if_pos rfl]
theorem if_f {c : M Bool} (h : c ρ = .ok false ρ1) : sIf c a b ρ = b ρ1 := by unfold sIf; rw [h, bind_ok, if_neg Bool.false_ne_true]
end
/-- two operands whose values are known -/
theorem m2_ok {ρ ρ1 ρ2 : Ro} {pr : D → D → Option Vd} {ma mb : M Pr} {p q : Pr} {x y : D} {v : Vd} (h1 : ma ρ = .ok p ρ1) (h2 : mb ρ1 = .ok q ρ2) (g1 : p.get ρ2 = some x) (g2 : q.get ρ2 = some y) (h : pr x y = some v) : m2 pr ma mb ρ = .ok v ρ2 := by
  unfold m2
  rw [h1, bind_ok, h2, bind_ok, g1, g2]
  show ofO (pr x y) ρ2 = _
  rw [h]
  rfl
theorem m1_ok {ρ ρ1 : Ro} {pr : D → Option Vd} {ma : M Pr} {p : Pr} {x : D} {v : Vd} (h1 : ma ρ = .ok p ρ1) (g1 : p.get ρ1 = some x) (h : pr x = some v) : m1 pr ma ρ = .ok v ρ1 := by
  unfold m1
  rw [h1, bind_ok, g1]
  show ofO (pr x) ρ1 = _
  rw [h]
  rfl
theorem mpe_ok {ρ ρ1 : Ro} {m : M Vd} {v : Vd} (h : m ρ = .ok v ρ1) : mpe m ρ = .ok (.d v.d) ρ1 := by unfold mpe; rw [h, bind_ok]
theorem mbl_ok {ρ ρ1 : Ro} {m : M Vd} {b : Bool} (h : m ρ = .ok (.sh (.bl b)) ρ1) : mbl m ρ = .ok b ρ1 := by unfold mbl; rw [h, bind_ok]
/-! prims -/
theorem mul_r {i j : Int} (h : -(2 ^ 64) < j ∧ j < 2 ^ 64) : prMul (.int i) (.int j) = some (.sh (.int (i * j))) := by
  unfold prMul
  exact if_pos (.inr (.inr h))
theorem mul_l {i j : Int} (h : -(2 ^ 64) < i ∧ i < 2 ^ 64) : prMul (.int i) (.int j) = some (.sh (.int (i * j))) := by
  unfold prMul
  exact if_pos (.inr (.inl h))
theorem mod_ok {i j : Int} (h : 0 < j) : prMod (.int i) (.int j) = some (.sh (.int (i % j))) := by
  unfold prMod
  exact if_pos h
theorem log_lt {j : Int} (h0 : 0 < j) (h : j < 2 ^ 64) : j.natAbs.log2 < 9000 := by
  have : j.natAbs < 2 ^ 64 := by omega
  exact Nat.lt_of_lt_of_le ((Nat.log2_lt (by omega)).mpr this) (by decide)
theorem div_ok {i j : Int} (h : 0 < j) (h2 : j < 2 ^ 64) : prDiv (.int i) (.int j) = some (.sh (.int (i / j))) := by
  unfold prDiv
  exact if_pos ⟨h, log_lt h h2⟩
theorem ix_ok {l : List D} {i : Nat} {d : D} (h : l[i]? = some d) : prIx (.lst l) (.int (i : Int)) = some (.sh d) := by
  have hi : i < l.length := (List.getElem?_eq_some_iff.mp h).1
  show (atI l (i : Int)).map Vd.sh = _
  unfold atI ixN
  rw [if_pos (by omega), if_pos (by omega)]
  show (l[((i : Int)).toNat]?).map Vd.sh = _
  rw [Int.toNat_natCast, h]
  rfl
theorem nat_of {i : Int} (h : 0 ≤ i) : ∃ n : Nat, i = (n : Int) := ⟨i.toNat, by omega⟩
section
variable {l l2 : List D} {i j : Int} {x y : Str} {b c : Bool}
theorem e_lenL : prLen (.lst l) = some (.sh (.int (l.length : Nat))) := rfl
theorem e_lenS : prLen (.scr l) = some (.sh (.int (l.length : Nat))) := rfl
theorem e_lenT : prLen (.tup l) = some (.sh (.int (l.length : Nat))) := rfl
theorem e_absI : prAbs (.int i) = some (.sh (.int (if i < 0 then -i else i))) := rfl
theorem e_intI : prInt (.int i) = some (.sh (.int i)) := rfl
theorem e_intB : prInt (.bl b) = some (.sh (.int (if b then 1 else 0))) := rfl
theorem e_addI : prAdd (.int i) (.int j) = some (.sh (.int (i + j))) := rfl
theorem e_subI : prSub (.int i) (.int j) = some (.sh (.int (i - j))) := rfl
theorem e_ltI : prLtA (.int i) (.int j) = some (.sh (.bl (decide (i < j)))) := rfl
theorem e_leI : prLe (.int i) (.int j) = some (.sh (.bl (decide (i ≤ j)))) := rfl
theorem e_gtI : prGt (.int i) (.int j) = some (.sh (.bl (decide (j < i)))) := rfl
theorem e_geI : prGe (.int i) (.int j) = some (.sh (.bl (decide (j ≤ i)))) := rfl
theorem e_truB : truD (.bl b) = some b := rfl
theorem e_truN : truD .non = some false := rfl
theorem e_eqI : prEq (.int i) (.int j) = some (.sh (.bl (i == j))) := rfl
theorem e_eqS : prEq (.str x) (.str y) = some (.sh (.bl (x == y))) := rfl
theorem e_eqB : prEq (.bl b) (.bl c) = some (.sh (.bl (b == c))) := rfl
theorem e_neI : prNe (.int i) (.int j) = some (.sh (.bl (!(i == j)))) := rfl
theorem e_neB : prNe (.bl b) (.bl c) = some (.sh (.bl (!(b == c)))) := rfl
theorem e_listL : prList (.lst l) = some (.fr l) := rfl
theorem e_listS : prList (.scr l) = some (.fr l) := rfl
theorem e_listT : prList (.tup l) = some (.fr l) := rfl
theorem e_negI : prNeg (.int i) = some (.sh (.int (-i))) := rfl
end
theorem run_rt {n : Nat} {body : M Fl} {as ρ' : Ro} {d : Vd} (ha : as.all okArg = true) (hb : body (as ++ List.replicate (n - as.length) .un) = .ok (.rt d) ρ') : runF n body as = .ok d (backA as ρ') := by
  unfold runF
  rw [if_pos ha, hb]
theorem blsOf_map : ∀ l : List Bool, blsOf (l.map D.bl) = some l
  | [] => rfl
  | b :: l => by
    show (blsOf (l.map D.bl)).map (b :: ·) = _
    rw [blsOf_map l]
    rfl
theorem all_map (l : List Bool) : prAll (.lst (l.map D.bl)) = some (.sh (.bl (l.all id))) := by
  show (blsOf (l.map D.bl)).bind (fun bs => vb (bs.all id)) = _
  rw [blsOf_map]
  rfl
theorem all_true {α : Type} (l : List α) : prAll (.lst (l.map fun _ => D.bl true)) = some (.sh (.bl true)) := by
  have e : (l.map fun _ => D.bl true) = (l.map fun _ => true).map D.bl := by
    rw [List.map_map]
    rfl
  rw [e, all_map]
  congr
  simp
end FRT
end
section
set_option Elab.async false
set_option linter.all false
set_option maxRecDepth 100000
set_option maxHeartbeats 4000001
namespace FRT
open PySem L2
/-! ### raising an own exception -/
def sRaise1 (ci : Nat) (f : Str) (ml : M (List D)) : M Fl := fun ρ => (ml ρ).bind fun ds ρ1 => match ds with
  | [d] => .exc ⟨ci, [(f, d)]⟩ ρ1
  | _ => .bad
section
variable {X : Cx} {cs : List Addr} {W : WX} {e : Expr} {m : M Vd} {x : Str} {C fI : Addr} {fd : FuncData} {k ci : Nat} {p pos pos2 : Pos} {f par : Str}
theorem sd_raise1 (hcalm : X.calm = true) (tk : Takes X W) (c : CxC X.prog X.w X.K X.mg X.base C fI fd k ["self", par] (spI X.K C f)) (hr : Room (k + 1) X.A) (hb : Binds X.K fd ["self", par] []) (hci : cs[ci]? = some C) (hg : Gl X x) (hm : X.mg x = some (.ref C))
    (ha : PD cs W X e m) (hdb : (x == ("__debug__" : Str)) = false := by decide) (he : starEach (e :: []) X.env = (false, eval e X.env) :: starEach [] X.env := by rfl) :
    PSd cs W X (.Raise (some (.Call (.Name x p) (e :: []) [] pos)) none pos2) (sRaise1 ci f (mcons m mnil)) :=
  ps_imp (ps_raise hcalm tk (pmk_oex c.T c.iC c.tI c.F hr hb .nil pass_no hg hm (pl_cons ha pl_nil he) hdb he rfl)) fun D σ H ⟨G, ρ, e0, q⟩ => by
    refine ⟨G, ρ, e0, Pg.bindS (R1 := rA X.K) q fun ds ρ1 vs G1 H1 w1 r1 h1 => ?_⟩
    have h2 := h1
    split at h2
    · rename_i d
      have r1' : Rps X.K G1 vs [d] := r1
      cases r1' with
      | @cons v _ _ _ rd rn =>
        cases rn
        refine ⟨by show 1 ≤ 1000; decide, fun a na => ⟨a, v, rfl, upd_same, fun dx nd ne => ⟨rfl, dx, [(f, v)], upd_same, ?_, ?_, ?_⟩⟩⟩
        · rw [upd_ne ne, upd_same]
        · rw [upd_ne ne] at nd
          exact nd
        · have nd' : H1 dx = none := by
            rw [upd_ne ne] at nd
            exact nd
          have eH : upd (del (upd (upd (upd H1 a (exo a C none)) dx (exd dx [(f, v)])) a (exo a C (some dx))) a) dx (.xd [(f, v)]) = upd H1 dx (.xd [(f, v)]) := by
            funext b
            by_cases h : b = dx
            · rw [h, upd_same, upd_same]
            · rw [upd_ne h, upd_ne h]
              by_cases h3 : b = a
              · rw [h3, del_same, na]
              · rw [del_ne h3, upd_ne h3, upd_ne h, upd_ne h3]
          rw [eH]
          obtain ⟨w2, s2⟩ := w1.laid (o := .xd [(f, v)]) nd'
          exact h2 _ _ _ _ _ w2 ⟨C, hci, rfl, .inr ⟨dx, _, rfl, upd_same, .cons (rd.mono s2) .nil⟩⟩
    · exact h2.elim
end
/-! ### an exception that is kept beyond its except suite -/
section
variable {X : Cx} {pins : List (Addr × Obj)} {σ : St} {H : Hp} {s : Shared}
/-- an object that is there, new since the def began, is tracked from now on -/
theorem inv_track {a : Addr} {o : HO} (I : Inv X pins σ H s) (n0 : X.s_0.heap.get? a = none) (na : H a = none) (np : ∀ p ∈ X.pn ++ pins, p.1 ≠ a) (nL : a ≠ X.env.locals) (nC : ∀ x c, X.env.cells.lookup x = some c → c ≠ a)
    (ok : ObjOk X.prog X.w (upd H a o) s.heap a o) : Inv X pins σ (upd H a o) s := by
  have off : ∀ {b : Addr} {u : HO}, H b = some u → b ≠ a := fun {b u} q z => by
    rw [z, na] at q
    cases q
  refine ⟨I.ok, I.os, I.bare, ⟨I.base.keep, I.base.slot, fun b u q n hx => ?_, I.base.there, fun b xs q => ?_, fun b ob u q => ?_, fun b ps q => ?_⟩, I.loc, I.cell, ?_, fun y c q => ?_, fun p hp => ?_, HOk.laidN I.hok (fun _ _ z => z) na ok, I.len⟩
  · rw [upd_ne fun z => by rw [z, n0] at q; cases q]
    exact I.base.free b u q n hx
  · have z := I.base.tups b xs q
    rw [upd_ne (off z)]
    exact z
  · have z := I.base.frzs b ob u q
    rw [upd_ne (off z)]
    exact z
  · obtain ⟨more, z⟩ := I.base.tbls b ps q
    exact ⟨more, by rw [upd_ne (off z)]; exact z⟩
  · rw [upd_ne (Ne.symm nL)]
    exact I.free
  · rw [upd_ne (nC y c q)]
    exact I.freeC y c q
  · obtain ⟨z1, z2, z3⟩ := I.pin p hp
    exact ⟨z1, by rw [upd_ne (np p hp)]; exact z2, z3⟩
theorem exq_ok {P : Program} {w : World} {h : Heap} {a : Addr} {cls : Value} {d : Option Addr} {oe : Obj} {vs : Array Value} (e : h.get? a = some oe) (z : Zc cls d oe) (v : oe.data = .fields vs) : ObjOk P w H h a (exq a cls d) :=
  ⟨⟨oe, vs, e, z, v⟩, ⟨oe, e⟩, fun h1 h2 q keep => by
    obtain ⟨o1, v1, e1, z1, d1⟩ := q
    exact ⟨o1, v1, keep _ e1, z1, d1⟩⟩
end
/-- what the clause wishes of the body's exception: it is kept -/
def wKeep (K : PySem.W.Frag) (c : Value) (i : Nat) (ts : Addr → Value → Option Addr → TS) (D : Ends) : WX := fun cls d σ H =>
  PySem.W.exmOne K cls c = some true ∧ ∀ a, H a = none → ts a cls d { nx := fun σ' H' => H' a = none → D.nx (σ'.set i none) (upd H' a (exq a cls d)), rt := fun _ _ => False, bk := fun _ _ => False, ct := fun _ _ => False } (σ.set i (some (.ref a))) H
section
variable {X : Cx} {x n : Str} {c : Value} {i : Nat} {body suite : List Stmt} {b₀ : Stmt} {np pos pos' : Pos} {tb : WX → TS} {ts : Addr → Value → Option Addr → TS}
theorem ps_try_keep (hst : X.stack = X.env :: X.outer) (hfm : X.env.frame = some X.env.locals) (hex : X.ex = []) (hND : X.N.Nodup) (hin : X.N[i]? = some n) (hkd : X.env.kindOf n = some .local) (hnm : Names X x c)
    (hbd : ∀ (W : WX) (pn : List (Addr × Obj)) (xe : Value → Shared → Prop), Takes (X.tr pn xe) W → PassesOwn (model X.prog X.w) X.A X.env xe → PSs (X.tr pn xe) body (tb W))
    (hsu : ∀ (a : Addr) (oe : Obj) (cls : Value) (d : Option Addr) (pn : List (Addr × Obj)), Zc cls d oe → (∃ vs, oe.data = .fields vs) → PSs (X.suite a ((a, oe) :: pn)) (b₀ :: suite) (ts a cls d)) :
    PS X (.Try body [.ExceptHandler (some (.Name x np)) (some n) (b₀ :: suite) pos'] [] [] pos) (fun D σ H => tb (wKeep X.K c i ts D) D σ H) := by
  refine ⟨fun pins s σ H D I h => ?_⟩
  have good := I.ok
  have frames_ : X.A.frames = some (X.env :: X.outer) := by
    rw [good.frames, hst]
  have lc : Loc X.env.scope n := .inl hkd
  refine wpAny_Try_except ?_
  refine wpAny_mono ((hbd (wKeep X.K c i ts D) (X.pn ++ pins) (fun u t1 => wpAny (model X.prog X.w) X.A (noteFrame u X.env) (fun _ t2 => wpAny (model X.prog X.w) X.A (setFlight u none)
    (fun _ t3 => wpAny (model X.prog X.w) X.A (handleBy u X.env [.ExceptHandler (some (.Name x np)) (some n) (b₀ :: suite) pos']) (SP X pins D) X.xe t3) X.xe t2) X.xe t1)
    (fun u s' air => ?_) PassesOwn.looking).run [] s σ H D (I.toTry _) h) (fun fl s1 done => ?_) fun _ _ z => z
  · obtain ⟨a, B, sI, pins', σ1, H1, cls, d, rfl, JT, nb, up, sky, na, os, ag, hexm, yes⟩ := air
    have J : Inv X pins σ1 H1 sI := JT.ofTry good
    have sky1 : Sky B (X.env :: X.outer) a (Zc cls d) X.env.locals s'.heap := by
      rw [← hst]
      exact sky
    show wpAny _ _ (noteFrame (.ref a) X.env) _ _ _
    refine Sky.land Zc.steady frames_ hfm sky1 fun h3 fl3 up3 => ?_
    have J3 : Inv X pins σ1 H1 { s' with heap := h3 } := J.landed nb fl3.1 (up.trans up3) os ag
    obtain ⟨oe3, vs3, at3, z3, d3⟩ := fl3.there
    have off : a ∉ frs (X.env :: X.outer) := fun hmem => by
      obtain ⟨_, o1, e1, hno⟩ := fl3.2.2.1.mem hmem
      rw [at3] at e1
      cases e1
      exact hno _ d3
    have nL : a ≠ X.env.locals := fun z => off (List.mem_filterMap.mpr ⟨X.env, List.mem_cons_self, by rw [hfm, z]⟩)
    have nF : a ∉ X.fs := fun hmem => by
      obtain ⟨v1, hv, q⟩ := List.mem_filterMap.mp hmem
      exact off (List.mem_filterMap.mpr ⟨v1, List.mem_cons_of_mem _ hv, q⟩)
    have newI : sI.heap.get? a = none := by
      cases q : sI.heap.get? a with
      | none => rfl
      | some o =>
        have z := nb a o q (by rw [hst]; exact off)
        rw [fl3.2.1] at z
        cases z
    have n0 : X.s_0.heap.get? a = none := by
      cases q : X.s_0.heap.get? a with
      | none => rfl
      | some o =>
        obtain ⟨o', z⟩ := J.base.there a o q (by rw [hex]; exact fun z => nomatch z)
        rw [newI] at z
        cases z
    have nP : ∀ p ∈ X.pn ++ pins, p.1 ≠ a := fun p hp z => by
      have q := (J.pin p hp).1
      rw [z, newI] at q
      cases q
    have nC : ∀ y c, X.env.cells.lookup y = some c → c ≠ a := fun y c q z => by
      obtain ⟨v, o, q2, _⟩ := J.cell y c q
      rw [z, newI] at q2
      cases q2
    have S3 := J3.suite at3 d3 na nL nF
    refine wpAny_handleBy_cons (codeAny_handlers_test ?_) (fun q => nomatch q)
    have lookT : PySem.W.Looks (model X.prog X.w) h3 (typeOf (.ref a)) cls := fun A Q E t keep q => wpAny_typeOf_ref (keep _ _ at3) (by rw [z3.1]; exact q)
    have lookM := PySem.W.exm_one (M := model X.prog X.w) J3.kIn lookT hexm
    have named : ∀ {Q : Value → Shared → Prop} {E : Value → Shared → Prop}, Q c { s' with heap := h3 } →
        wpAny (model X.prog X.w) (X.A.mark (some (.ref a))) (eval (.Name x np) X.env) Q E { s' with heap := h3 } := fun {Q E} q => by
      obtain ⟨g1, g2, m1 | ⟨m1, m2, m3⟩⟩ := hnm
      · exact ld_glob (X := X.suite a ((a, oe3) :: (X.pn ++ pins))) S3 g1 m1 q g2
      · exact ld_blt (X := X.suite a ((a, oe3) :: (X.pn ++ pins))) S3 g1 m1 m2 q m3 g2
    refine named (lookM.here ?_)
    refine codeAny_handlers_suite_as ?_
    refine HandSPX.lands_againZ fl3 fun h4 fl4 up4 => ?_
    have J4 : Inv X pins σ1 H1 { s' with heap := h4 } := J.landed nb fl4.1 ((up.trans up3).trans up4) os ag
    obtain ⟨oe4, vs4, at4, z4, d4⟩ := fl4.there
    have S4 := J4.suite at4 d4 na nL nF
    refine store_ok (X := X.suite a ((a, oe4) :: (X.pn ++ pins))) (v := .ref a) S4 hND hin lc rfl (fun s5 S5 => ?_) (.inr hkd)
    refine wpAny_mono ((hsu a oe4 cls d (X.pn ++ pins) z4 ⟨_, d4⟩).run [] s5 _ H1 _ S5 (yes a na)) (fun fl s6 done => ?_) fun _ _ z => False.elim z
    cases fl with
    | next =>
      obtain ⟨σ6, H6, S6, q6⟩ := done
      refine gone_ok (X := X.suite a ((a, oe4) :: (X.pn ++ pins))) S6 hND hin hkd fun s7 S7 => ?_
      obtain ⟨at7, n7, _⟩ := S7.pin (a, oe4) (List.mem_append_left _ List.mem_cons_self)
      exact ⟨_, _, inv_track (S7.unsuite good) n0 n7 nP nL nC (exq_ok at7 z4 d4), q6 n7⟩
    | brk =>
      obtain ⟨_, _, _, z⟩ := done
      exact z.elim
    | cont =>
      obtain ⟨_, _, _, z⟩ := done
      exact z.elim
    | ret u =>
      obtain ⟨_, _, _, _, _, z⟩ := done
      exact z.elim
  · cases fl with
    | next =>
      obtain ⟨σ1, H1, J, q⟩ := done
      exact wpAny_execs_nil ⟨σ1, H1, J.ofTry good, q⟩
    | brk =>
      obtain ⟨σ1, H1, J, q⟩ := done
      exact ⟨σ1, H1, J.ofTry good, q⟩
    | cont =>
      obtain ⟨σ1, H1, J, q⟩ := done
      exact ⟨σ1, H1, J.ofTry good, q⟩
    | ret u =>
      obtain ⟨v, σ1, H1, J, r, q⟩ := done
      exact ⟨v, σ1, H1, J.ofTry good, r, q⟩
end
end FRT
end
section
set_option Elab.async false
set_option linter.all false
set_option maxRecDepth 100000
set_option maxHeartbeats 4000001
namespace FRT
open PySem L2
/-! ### try: .. except C as n: y = n -/
def sTryK (i j : Nat) (C : Addr) (mb : M Fl) : M Fl := fun ρ => match mb ρ with
  | .bad => .bad
  | .ok fl ρ1 => .ok fl ρ1
  | .exc x ρ1 => if x.c = 0 then (match x.fs with
    | [(f, d)] => (match setV j (.sh (.exn C [(f, d)])) ρ1 with
      | none => .bad
      | some ρ2 => (match ρ2[i]? with
        | none => .bad
        | some (.bor _) => .bad
        | some _ => .ok .nx (ρ2.set i .un)))
    | _ => .bad) else .bad
theorem un_way {K : PySem.W.Frag} {G H G1 H1 : Hp} {σ σ1 : St} {ρ ρ1 : Ro} {i : Nat} (w : Way K G H σ ρ G1 H1 σ1 ρ1) (nb : ∀ l, ρ1[i]? ≠ some (.bor l)) : Way K G H σ ρ G1 H1 (σ1.set i none) (ρ1.set i .un) :=
  w.trans ⟨.refl, ⟨List.length_set, fun x h => .inl (own_wipe (vs := [i]) h).1, fun k l h => by
    have hk : i ≠ k := fun z => by
      rw [← z] at h
      exact nb l h
    exact ⟨by rw [List.getElem?_set_ne hk], l, by rw [List.getElem?_set_ne hk]; exact h⟩⟩, wipe_env (vs := [i]) w.env⟩
section
variable {X : Cx} {cs : List Addr} {W : WX} {x n y : Str} {C : Addr} {i j : Nat} {body : List Stmt} {np p1 p2 p3 pos pos' : Pos} {mb : M Fl}
theorem sd_tryK (i j : Nat) (hst : X.stack = X.env :: X.outer) (hfm : X.env.frame = some X.env.locals) (hex : X.ex = []) (hND : X.N.Nodup) (hin : X.N[i]? = some n) (hkd : X.env.kindOf n = some .local) (hj : X.N[j]? = some y) (hyl : Loc X.env.scope y) (hne : i ≠ j)
    (hnm : Names X x (.ref C)) (hexm : PySem.W.exmOne X.K (.ref C) (.ref C) = some true) (hci : cs[0]? = some C)
    (hs : ∀ (a : Addr) (pn : List (Addr × Obj)), swapsWith (.Name n p2) (some (.Name y p1)) p3.line (X.suite a pn).env = pure false) (hf : ∀ (a : Addr) (pn : List (Addr × Obj)), (X.suite a pn).fn y = true ∨ X.env.scope.names.lookup y = some .local)
    (hvn : Vis X.env.scope n) (hdn : (n == ("__debug__" : Str)) = false) (hcn : (n == ("__classdict__" : Str)) = false)
    (hbd : ∀ (W : WX) (pn : List (Addr × Obj)) (xe : Value → Shared → Prop), Takes (X.tr pn xe) W → PassesOwn (model X.prog X.w) X.A X.env xe → PSsd cs W (X.tr pn xe) body mb) :
    PSd cs W X (.Try body [.ExceptHandler (some (.Name x np)) (some n) [.Assign [.Name y p1] (.Name n p2) p3] pos'] [] [] pos) (sTryK i j C mb) :=
  ps_imp (ps_try_keep (tb := fun W => tS cs X.K W mb) (ts := fun _ _ _ => tAsg (tVar i) (gName j)) hst hfm hex hND hin hkd hnm hbd
    (fun a oe cls d pn hz hv => pss_one (ps_set (X := X.suite a ((a, oe) :: pn)) (i := j) hND hj hyl (pv (X := X.suite a ((a, oe) :: pn)) i hin hvn hdn hcn) (hs a _) (hf a _)))) fun D σ H ⟨G, ρ, e0, q⟩ => by
    refine ⟨G, ρ, e0, ?_⟩
    unfold sTryK at q
    cases hm : mb ρ with
    | bad => rw [hm] at q; exact q
    | ok fl ρ1 => rw [hm] at q; cases fl <;> exact q
    | exc xn ρ1 =>
      rw [hm] at q
      dsimp only at q
      by_cases hc : xn.c = 0
      · rw [if_pos hc] at q
        split at q
        · rename_i f d hfs
          split at q
          · exact q.elim
          · rename_i ρ2 hset
            split at q
            · exact q.elim
            · exact q.elim
            · rename_i s hs2 hnb
              intro cls dd σ1 G1 H1 w xr
              obtain ⟨C', hC', ecls, xr⟩ := xr
              rw [hc, hci] at hC'
              cases hC'
              subst ecls
              refine ⟨hexm, fun a na => ?_⟩
              have hi2 : i < ρ2.length := (List.getElem?_eq_some_iff.mp hnb).1
              obtain ⟨hj1, _, er2⟩ := setV_ok hset
              have hl1 : ρ2.length = ρ1.length := by rw [er2, List.length_set]
              have hi1 : i < σ1.length := by rw [w.env.len]; omega
              refine ⟨.ref a, List.getElem?_set_self hi1, fun _ => ?_⟩
              rcases xr with ⟨z, _⟩ | ⟨d1, fv, rfl, hd1, fr⟩
              · rw [hfs] at z
                cases z
              · rw [hfs] at fr
                cases fr with
                | @cons _ v _ vs _ rv rn =>
                  cases rn
                  obtain ⟨w2, s2⟩ := w.laid (o := exq a (.ref C) (some d1)) na
                  have rp : Rp X.K (upd G1 a (exq a (.ref C) (some d1))) (.ref a) (.exn C [(f, d)]) := .exnk upd_same (s2 _ _ hd1) (rv.mono s2)
                  have w3 := setV_way w2 (d := .sh (.exn C [(f, d)])) rp hset
                  have w4 := un_way w3 (i := i) fun l z => by
                    rw [z] at hnb
                    cases hnb
                    exact hs2 l rfl
                  have es : ((σ1.set i (some (.ref a))).set j (some (.ref a))).set i none = (σ1.set j (some (.ref a))).set i none := by
                    rw [List.set_comm _ _ hne, List.set_set]
                  rw [es]
                  exact q _ _ _ w4
        · exact q.elim
      · rw [if_neg hc] at q
        exact q.elim
end
/-! ### [f, g, ..][k](e) -/
structure FnE (X : Cx) (cs : List Addr) (k : Nat) (f : Addr) (fn : List Sl → Rs Vd) : Prop where
  ex : ∃ (fd : FuncData) (ps : List Str), FnOk X.prog X.w X.K X.mg X.base (L2.CX X.prog X.w) k f fd ps (spD cs X.K 1 fn) ∧ PySem.W.keepIn X.K (.ref f) = true ∧ Binds X.K fd ps []
inductive FnEs (X : Cx) (cs : List Addr) (k : Nat) : List Addr → List (List Sl → Rs Vd) → Prop
  | nil : FnEs X cs k [] []
  | cons {f : Addr} {fn : List Sl → Rs Vd} {fs : List Addr} {fns : List (List Sl → Rs Vd)} : FnE X cs k f fn → FnEs X cs k fs fns → FnEs X cs k (f :: fs) (fn :: fns)
theorem FnEs.len {X : Cx} {cs : List Addr} {k : Nat} : ∀ {fs : List Addr} {fns : List (List Sl → Rs Vd)}, FnEs X cs k fs fns → fs.length = fns.length
  | _, _, .nil => rfl
  | _, _, .cons _ r => congrArg (· + 1) r.len
theorem FnEs.at {X : Cx} {cs : List Addr} {k : Nat} : ∀ {fs : List Addr} {fns : List (List Sl → Rs Vd)} {j : Nat} {fn : List Sl → Rs Vd}, FnEs X cs k fs fns → fns[j]? = some fn → ∃ f, fs[j]? = some f ∧ FnE X cs k f fn
  | _, _, _, _, .nil, h => by simp at h
  | _, _, 0, _, .cons r _, h => by cases h; exact ⟨_, rfl, r⟩
  | _, _, j + 1, _, .cons _ rs, h => by simpa using FnEs.at (j := j) rs (by simpa using h)
def mcallIx (fns : List (List Sl → Rs Vd)) (mi : M Pr) (ms : M (List Pr)) : M Vd := fun ρ => (mi ρ).bind fun p ρ1 => match p.get ρ1 with
  | some (.int i) => (match atI fns i with
    | some fn => (ms ρ1).bind fun ps ρ2 => callR 1 fn ps ρ2
    | none => .bad)
  | _ => .bad
section
variable {X : Cx} {cs : List Addr} {W : WX} {fe ie e : Expr} {es les : List Expr} {mi : M Pr} {ms : M (List Pr)} {fs : List Addr} {fns : List (List Sl → Rs Vd)} {k : Nat} {lp sp pos : Pos}
theorem pd_callIx (hF : FnEs X cs k fs fns) (hr : Room k X.A) (tk : Takes X W) (hl : PA X les (fun _ H Q => Q (fs.map V.ref) H)) (hz : fs.length ≤ 1000) (hi : PO2 cs W X ie mi) (hpi : PlainIx ie) (ha : PR cs W X (e :: es) ms)
    (ht : eval (.Call (.Subscript (.List les lp) ie sp) (e :: es) [] pos) X.env = (do callWith pos (← eval (.Subscript (.List les lp) ie sp) X.env) [] (backTo pos (starEach (e :: es) X.env)) (backToKw pos (keywordEach [] X.env))) := by rfl)
    (he : starEach (e :: es) X.env = (false, eval e X.env) :: starEach es X.env := by rfl) (hpl : (backTo pos (starEach es X.env)).any (·.1) = false := by rfl) :
    PD cs W X (.Call (.Subscript (.List les lp) ie sp) (e :: es) [] pos) (mcallIx fns mi ms) := by
  refine ⟨fun pins s σ H Q I h => ?_⟩
  obtain ⟨G, ρ, e0, q⟩ := h
  have h1 : tOp (rIxL X.K) (tLst fun _ H Q => Q (fs.map V.ref) H) (tP cs X.K W mi) σ H (fun v H1 => ∃ f fn, v = .ref f ∧ FnE X cs k f fn ∧ tPs cs X.K W ms σ H1 fun vs H2 => spD cs X.K 1 fn vs H2 Q (WE W σ)) := by
    refine ⟨by rw [List.length_map, sizeLine_eq]; omega, fun l nl => ?_⟩
    obtain ⟨w0, _, gl, ol⟩ := (Way.refl e0).laidF (o := .lst (fs.map V.ref)) nl
    refine ⟨G, ρ, w0.env, ?_⟩
    have q1 : Pg cs X.K W σ (rE X.K σ) G (upd H l (.lst (fs.map V.ref))) ρ (mcallIx fns mi ms ρ) Q := Pg.shift anE q w0
    refine Pg.bind anE q1 fun p ρ1 v G1 H1 w1 r1 h1 => ?_
    have h2 := h1 G1 w1
    split at h2
    · rename_i i hp
      split at h2
      · rename_i fn hfn
        have ev := (PrR.view w1.env r1 hp).int
        subst ev
        obtain ⟨j, hj, hj2⟩ := Option.bind_eq_some_iff.mp hfn
        obtain ⟨f, hf1, hf2⟩ := hF.at hj2
        have hat : atI (fs.map V.ref) i = some (.ref f) := by
          unfold atI
          rw [List.length_map, hF.len, hj]
          show (fs.map V.ref)[j]? = _
          rw [List.getElem?_map, hf1]
          rfl
        have hl1 : H1 l = some (.lst (fs.map V.ref)) := w1.st.fr l _ upd_same ol
        refine ⟨l, _, i, .ref f, rfl, rfl, .inl (.inl hl1), hat, f, fn, rfl, hf2, G1, ρ1, w1.env, Pg.bind anE h2 fun ps ρ2 vs G2 H2 w2 r2 h3 => call_sp w2.env r2 (h3 G2 w2)⟩
      · exact h2.elim
    · exact h2.elim
  refine PyProof.Rows.Call_ (thn ((pe_ix ix_list (pe_lst hl) hi hpi).run pins s σ H _ I h1) fun u s1 ⟨y, H1, I1, ry, f, fn, ey, hE, q2⟩ => ?_) ht
  subst ey
  obtain rfl : u = Value.ref f := ry
  obtain ⟨fd, ps, F, hk, hb⟩ := hE.ex
  refine PySem.W.callWith_K (h₀ := X.base) I1.ok.mod.kin hk (thn (ha.run pos pins s1 σ H1 _ I1 q2) fun us s2 ⟨vs, H2, I2, r, q3⟩ => ⟨I2.kIn, ?_⟩) he hpl
  exact run_fnS F hr hb (passAt tk σ) I2 r q3
end
theorem exm_self {K : PySem.W.Frag} {C fI : Addr} (c : ClsF K C fI) (h : PySem.W.subIn K (.ref C) (.ref C) = some true) : PySem.W.exmOne K (.ref C) (.ref C) = some true :=
  PySem.W.exm_ref c.all.1.exC c.all.2.2.1.hdC c.all.1.tyC h
end FRT
end
section
set_option Elab.async false
set_option linter.all false
set_option maxRecDepth 100000
set_option maxHeartbeats 4000001
namespace FRT
open PySem L2
/-! ### max, min of two ints; len(range(a, b)) -/
def prMax : D → D → Option Vd
  | .int i, .int j => vi (if j > i then j else i)
  | _, _ => none
def prMin : D → D → Option Vd
  | .int i, .int j => vi (if j < i then j else i)
  | _, _ => none
section
variable {K : PySem.W.Frag}
theorem P2.max2 : P2 K (fun x y H Q => ∃ i j, [x, y] = [V.int i, V.int j] ∧ Q (.int (if j > i then j else i)) H) prMax := ⟨fun {G H σ ρ v1 v2 d1 d2 d Q} e r1 r2 h q => by
  unfold prMax at h
  split at h
  · cases h
    rw [r1.int, r2.int]
    exact ⟨_, _, rfl, fin_int e q⟩
  · cases h⟩
theorem P2.min2 : P2 K (fun x y H Q => ∃ i j, [x, y] = [V.int i, V.int j] ∧ Q (.int (if j < i then j else i)) H) prMin := ⟨fun {G H σ ρ v1 v2 d1 d2 d Q} e r1 r2 h q => by
  unfold prMin at h
  split at h
  · cases h
    rw [r1.int, r2.int]
    exact ⟨_, _, rfl, fin_int e q⟩
  · cases h⟩
end
/-- how many ints range(lo, hi) has -/
def prLenRange : D → D → Option Vd
  | .int i, .int j => if j - i < 2 ^ 62 then vi (if i < j then j - i else 0) else none
  | _, _ => none
abbrev rRng2 : List V → Hp → VK → Prop := fun vs H Q => ∃ i j, vs = [V.int i, V.int j] ∧ ∀ p, H p = none → Q (.ref p) (upd H p (.rng i j))
abbrev rLenRng : List V → Hp → VK → Prop := fun xs H Q => ∃ (p : Addr) (lo hi : Int), xs = [.ref p] ∧ H p = some (.rng lo hi) ∧ hi - lo < 2 ^ 62 ∧ Q (.int (if lo < hi then hi - lo else 0)) H
theorem call_lenRng {X : Cx} : CallR X (.builtin "len") rLenRng := by
  intro pins s σ H xs us Q I r h
  obtain ⟨p, lo, hi, rfl, hp, hb, q⟩ := h
  rw [Vals.ref1 r]
  obtain ⟨t, u, v, ho⟩ := I.hok p _ hp
  have hs : Builtin.Range.rangeSize lo hi 1 = ((if lo < hi then hi - lo else 0).toNat : Nat) := by
    unfold Builtin.Range.rangeSize
    rw [if_pos (by decide : (1 : Int) > 0)]
    by_cases h1 : lo < hi
    · rw [if_pos h1, if_pos h1]; omega
    · rw [if_neg h1, if_neg h1]; rfl
  have e2 : (((if lo < hi then hi - lo else 0).toNat : Nat) : Int) = if lo < hi then hi - lo else 0 := by
    by_cases h1 : lo < hi
    · rw [if_pos h1]; omega
    · rw [if_neg h1]; rfl
  refine call_len_range (n := (if lo < hi then hi - lo else 0).toNat) ho hs (by rw [e2]; split <;> omega) ⟨.int _, H, I.tok _, ⟨_, by rw [e2]⟩, q⟩
theorem P2.lenRange {K : PySem.W.Frag} : P2 K (fun x y H Q => rRng2 [x, y] H fun v H1 => rLenRng [v] H1 Q) prLenRange := ⟨fun {G H σ ρ v1 v2 d1 d2 d Q} e r1 r2 h q => by
  unfold prLenRange at h
  split at h
  · split at h
    · rename_i hb
      cases h
      rw [r1.int, r2.int]
      refine ⟨_, _, rfl, fun p hn => ⟨p, _, _, rfl, upd_same, hb, ?_⟩⟩
      exact q _ _ _ ((Way.refl e).laidF hn).1 (.int _)
    · cases h
  · cases h⟩
section
variable {X : Cx} {cs : List Addr} {W : WX} {a b : Expr} {ma mb : M Pr} {p pos p2 pos2 : Pos}
theorem pd_lenRange (hg : Gl X "len") (hm : X.mg "len" = none) (hg2 : Gl X "range") (hm2 : X.mg "range" = none) (ha : PO2 cs W X a ma) (hb : PO2 cs W X b mb)
    (he0 : starEach (.Call (.Name "range" p2) (a :: [b]) [] pos2 :: []) X.env = (false, eval (.Call (.Name "range" p2) (a :: [b]) [] pos2) X.env) :: starEach [] X.env := by rfl)
    (he : starEach (a :: [b]) X.env = (false, eval a X.env) :: starEach [b] X.env := by rfl) (he2 : starEach (b :: []) X.env = (false, eval b X.env) :: starEach [] X.env := by rfl) (hpl : (backTo pos2 (starEach [b] X.env)).any (·.1) = false := by rfl) :
    PD cs W X (.Call (.Name "len" p) [.Call (.Name "range" p2) [a, b] [] pos2] [] pos) (m2 prLenRange ma mb) :=
  pe_imp (pe_callB call_lenRng hg hm PySem.boot_len (pa_cons (pe_callTy cr_range2 hg2 hm2 PyProof.Rows.boot_range (pa_cons ha (pa_cons hb pa_nil he2) he) (by decide) (by decide) he hpl) pa_nil he0) (by decide) (by decide) he0)
    fun _ _ _ h => op2_imp P2.lenRange h
end
end FRT
end
section
set_option Elab.async false
set_option linter.all false
set_option maxRecDepth 100000
set_option maxHeartbeats 4000001
/-! ### set(xs), xs a list of ints: by the loop's own lemma -/
namespace FRS
open PySem PySem.Spec PyProof.Rows L2
abbrev O0 (w : World) : Obj := { cls := .type "set", dict := none, data := .set #[] 0 (.fresh 0 0 (!w.params.followText "set-order")) }
section
variable {P : Program} {w : World} {A : Around} {E : Value → Shared → Prop} {s : Shared}
set_option maxHeartbeats 3200001 in
theorem set_of_list {l : Addr} {items : Array Value} (ns : List Int) {Q : Value → Shared → Prop} (hh : A.handled = none) (hl : s.heap.IsList l items) (hit : IntsAre items.toList ns) (hb : ns.length + 1 < scanBound)
    (h : ∀ (h' : Heap) (tk c : Nat), SetR w h' s.heap.objs.size (fun j => decide (j ∈ ns)) c → c ≤ ns.length → (∀ b o, s.heap.get? b = some o → h'.get? b = some o) → Q (.ref s.heap.objs.size) { s with heap := h', toks := tk }) : wpAny (model P w) A (call (.type "set") [.ref l]) Q E s := by
  have many : items.size = ns.length := by have q := IntsAre.length hit; rwa [Array.length_toList] at q
  obtain ⟨m1, m2, m3⟩ := F.called_set.mro
  have k1 := F.called_set.made; have k2 := F.called_set.sub
  refine wpAny_call (codeAny_of_tree ?_); show wpAny _ _ (callAny (.type "set") _) _ _ _
  refine wpAny_pure ⟨Code.quiet_builtin _ (by decide +kernel), codeAny_builtin F.entry_type_call ?_⟩; rw [Around.under_plain (weight_type_call_type "set" [.ref l] []) rfl]
  have k3 := F.called_set.notType; have k4 := F.called_set.canCreate; have k5 := F.typeCall_set_1 (.ref l)
  repeat (any_goals (first | assumption | wp_step))
  refine codeAny_mono (code_set_led1 (.ref l) (E := E) (Q₁ := fun me s1 => me = .ref s.heap.objs.size ∧ s1 = { s with heap := s.heap.push (O0 w) }) ⟨rfl, rfl⟩) fun r s1 hr => ?_
  cases r with
  | error e => exact hr
  | ok fl =>
    cases fl with
    | ret me =>
      obtain ⟨rfl, rfl⟩ := hr
      have gS : (s.heap.push (O0 w)).get? s.heap.objs.size = some (O0 w) := Heap.get?_push_size _ rfl
      have gT : Shared.TypeIs { s with heap := s.heap.push (O0 w) } (.ref s.heap.objs.size) "set" := ⟨_, gS, rfl⟩
      have k6 := F.called_set.init.lookup; have k7 := F.called_set.init.bind (.ref s.heap.objs.size)
      repeat (any_goals (first | assumption | wp_step))
      refine codeAny_mono (codeAny_call_builtin (R := wants (fun r s2 => r = .none ∧ ∃ h' tk c, s2 = { s with heap := h', toks := tk } ∧ SetR w h' s.heap.objs.size (fun j => decide (j ∈ ns)) c ∧ c ≤ ns.length ∧ ∀ b o, s.heap.get? b = some o → h'.get? b = some o) E) F.called_set.init.plain F.entry_set_init (check_set_init_1 gT ?_)) fun r2 s2 hr2 => ?_
      · obtain ⟨⟨ocls, odict, odata, oslots⟩, gl, e1, nl, e2⟩ := hl
        simp only at e1 e2; subst e1; subst e2
        have gl' : (s.heap.push (O0 w)).get? l = some { cls := .type "list", dict := odict, data := .seq items nl, slots := oslots } := Heap.get?_push_of_some _ gl
        have j1 := F.sub_list_set; have j2 := F.sub_list_frozenset
        have j3 : (Value.type "list" == Value.type "dict") = false := by decide
        have hl1 : (s.heap.push (O0 w)).IsList l items := ⟨_, gl', rfl, nl, rfl⟩
        unfold Builtin.«set.__init__» noKeywords Builtin.Frozenset.updateFrom
        generalize hPI : pyIter = PI; wp_walk; subst hPI
        refine wpAny_pyIter_list hl1 (wpAny_bind (wpAny_runValue ?_))
        have lt : l < s.heap.objs.size := Heap.lt_size gl
        have h3 : A.in1.in1.in1.handled = none := by simp [hh]
        have nI : l ≠ (s.heap.push (O0 w)).objs.size := by rw [Heap.size_push]; intro z; exact absurd (z ▸ lt) (Nat.not_lt_of_le (Nat.le_succ _))
        have nS : s.heap.objs.size ∉ [(s.heap.push (O0 w)).objs.size, l] := by
          rw [Heap.size_push]; simp only [List.mem_cons, List.mem_singleton, List.not_mem_nil, or_false, not_or]; exact ⟨Nat.ne_of_lt (Nat.lt_succ_self _), (Nat.ne_of_lt lt).symm⟩
        have vals : ∀ (i : Nat) (v : Value), items[i]? = some v → ∃ k t, ns[i]? = some k ∧ v = .int k t := fun i v hv => by
          have hi : i < ns.length := by rw [← many]; exact (Array.getElem?_eq_some_iff.mp hv).1
          obtain ⟨t, e⟩ := PyProof.Rows.IntsAre.int_at hit i v (by rw [Array.getElem?_toList]; exact hv)
          exact ⟨ns[i], t, List.getElem?_eq_getElem hi, by rw [e, List.getD_eq_getElem?_getD, List.getElem?_eq_getElem hi]; rfl⟩
        refine set_update_ints ((Walks.list h3 _ l nI items).toS) s.heap.objs.size nS ns many hb vals (items.size - 0) 0 _ (by omega) (Nat.zero_le _) ⟨⟨_, Heap.get?_push_size _ rfl, rfl, rfl⟩, (hl1.push _)⟩ ⟨0, Nat.le_refl 0, setR_new_at (Heap.get?_push_of_some _ gS)⟩ fun s' c hm hc hS => ?_
        obtain ⟨h', g2, d', tk', os'⟩ := s'
        have eg : g2 = s.gens := hm.gens; have ed : d' = s.drawn := hm.drawn; have eo : os' = s.os := hm.os
        subst eg; subst ed; subst eo
        show wpAny _ _ _ _ _ _; refine wpAny_pure ?_; show wpAny _ _ (ret Value.none) _ _ _
        rw [many] at hc
        refine wpAny_pure ⟨rfl, h', tk', c, rfl, hS, hc, fun b o e => ?_⟩
        have b0 : b < s.heap.objs.size := Heap.lt_size e
        exact hm.heap b o (by rw [Heap.size_push]; simp only [List.mem_cons, List.mem_singleton, List.not_mem_nil, or_false, not_or]; exact ⟨Nat.ne_of_lt b0, Nat.ne_of_lt (Nat.lt_succ_of_lt b0)⟩) (Heap.get?_push_of_some _ (Heap.get?_push_of_some _ e))
      · cases r2 with
        | error e => exact hr2
        | ok f2 =>
          cases f2 with
          | ret r =>
            obtain ⟨rfl, h', tk, c, rfl, hS, hc, hk⟩ := hr2
            repeat (any_goals (first | assumption | wp_step))
            exact h _ _ _ hS hc hk
          | _ => exact hr2.elim
    | _ => exact hr.elim
end
end FRS
namespace FRT
open PySem L2
section
variable {X : Cx}
abbrev rSetL (K : PySem.W.Frag) (w : World) : List V → Hp → VK → Prop := fun xs H Q => ∃ (l : Addr) (ns : List Int), xs = [V.ref l] ∧ SqL K H l (ns.map V.int) ∧ ns.length < 64 ∧ ∀ p c, H p = none → c ≤ ns.length → Q (.ref p) (upd H p (SetO w p (fun j => decide (j ∈ ns)) c))
theorem cr_setL (hc : X.calm = true) : CallR X (.type "set") (rSetL X.K X.w) := by
  intro pins s σ H xs us Q I r h
  obtain ⟨l, ns, rfl, hl, hb, q⟩ := h
  rw [Vals.ref1 r]
  obtain ⟨its, rv, pl, hz⟩ := I.list hl
  refine FRS.set_of_list ns (I.ok.hd hc) pl.isList (by simpa using rv.ints) (by unfold scanBound; omega) fun h' tk c R hle hk => ?_
  exact ⟨.ref s.heap.objs.size, upd H s.heap.objs.size (SetO X.w s.heap.objs.size (fun j => decide (j ∈ ns)) c), I.laid (t' := tk) hk (Nat.le_refl _) (setO_new R), rfl, q _ _ (I.hok.fresh (Nat.le_refl _)) hle⟩
end
/-- a list's ints, each once, in order -/
def insI (k : Int) : List Int → List Int
  | [] => [k]
  | x :: l => if k < x then k :: x :: l else if k = x then x :: l else x :: insI k l
def sdI (l : List Int) : List Int := l.foldr insI []
theorem mem_insI {k j : Int} : ∀ {l : List Int}, j ∈ insI k l ↔ j = k ∨ j ∈ l
  | [] => by simp [insI]
  | x :: l => by
    unfold insI
    split
    · simp
    · split
      · rename_i h1 h2; subst h2; simp
      · simp only [List.mem_cons, mem_insI (l := l)]
        constructor
        · rintro (h | h | h)
          · exact .inr (.inl h)
          · exact .inl h
          · exact .inr (.inr h)
        · rintro (h | h | h)
          · exact .inr (.inl h)
          · exact .inl h
          · exact .inr (.inr h)
theorem pw_insI {k : Int} : ∀ {l : List Int}, l.Pairwise (· < ·) → (insI k l).Pairwise (· < ·)
  | [], _ => by simp [insI]
  | x :: l, h => by
    obtain ⟨h1, h2⟩ := List.pairwise_cons.mp h
    unfold insI
    split
    · rename_i hk
      refine List.pairwise_cons.mpr ⟨fun y hy => ?_, h⟩
      rcases List.mem_cons.mp hy with rfl | hy
      · exact hk
      · exact Int.lt_trans hk (h1 y hy)
    · split
      · exact h
      · rename_i hk hne
        refine List.pairwise_cons.mpr ⟨fun y hy => ?_, pw_insI h2⟩
        rcases mem_insI.mp hy with rfl | hy
        · omega
        · exact h1 y hy
theorem mem_sdI {j : Int} : ∀ {l : List Int}, j ∈ sdI l ↔ j ∈ l
  | [] => by simp [sdI]
  | x :: l => by
    show j ∈ insI x (sdI l) ↔ _
    rw [mem_insI, mem_sdI (l := l), List.mem_cons]
theorem pw_sdI : ∀ l : List Int, (sdI l).Pairwise (· < ·)
  | [] => .nil
  | x :: l => pw_insI (pw_sdI l)
theorem pw_uniq : ∀ {l m : List Int}, l.Pairwise (· < ·) → m.Pairwise (· < ·) → (∀ j, j ∈ l ↔ j ∈ m) → l = m
  | [], [], _, _, _ => rfl
  | [], y :: m, _, _, h => absurd ((h y).mpr (.head _)) (by simp)
  | x :: l, [], _, _, h => absurd ((h x).mp (.head _)) (by simp)
  | x :: l, y :: m, h1, h2, h => by
    obtain ⟨a1, a2⟩ := List.pairwise_cons.mp h1
    obtain ⟨b1, b2⟩ := List.pairwise_cons.mp h2
    have e : x = y := by
      rcases List.mem_cons.mp ((h x).mp (.head _)) with e | e
      · exact e
      · rcases List.mem_cons.mp ((h y).mpr (.head _)) with e2 | e2
        · exact e2.symm
        · have := b1 x e; have := a1 y e2; omega
    subst e
    congr 1
    refine pw_uniq a2 b2 fun j => ⟨fun hj => ?_, fun hj => ?_⟩
    · rcases List.mem_cons.mp ((h j).mp (.tail _ hj)) with e | e
      · have := a1 j hj; omega
      · exact e
    · rcases List.mem_cons.mp ((h j).mpr (.tail _ hj)) with e | e
      · have := b1 j hj; omega
      · exact e
/-- sorted(set(xs)), xs a list of ints -/
def prSortSet : D → Option Vd
  | .lst l => (intsOf l).bind fun ns => if ns.length < 64 then some (.fr ((sdI ns).map D.int)) else none
  | _ => none
theorem rps_ofInts {K : PySem.W.Frag} {G : Hp} : ∀ ns : List Int, Rps K G (ns.map V.int) (ns.map D.int)
  | [] => .nil
  | _ :: l => .cons (.int _) (rps_ofInts l)
abbrev rSortSet (K : PySem.W.Frag) (w : World) : List V → Hp → VK → Prop := fun xs H Q => rSetL K w xs H fun v H1 => rSortedSet w [v] H1 Q
theorem C1.sortSet {K : PySem.W.Frag} {w : World} : C1 K (rSortSet K w) prSortSet := ⟨fun {G H σ ρ v1 d1 d Q} e r1 h q => by
  unfold prSortSet at h
  split at h
  · rename_i l
    cases g : intsOf l with
    | none => rw [g] at h; cases h
    | some ns =>
      rw [g] at h
      dsimp only [Option.bind_some] at h
      split at h
      · rename_i hb
        cases h
        obtain ⟨a, vs, rfl, ha, ra⟩ := r1.lst e.same
        have := ra.ints g
        subst this
        refine ⟨a, ns, rfl, .inl (.inl ha), hb, fun p c hn hc => ⟨p, _, c, rfl, upd_same, Nat.lt_of_le_of_lt hc hb, fun out p2 hs hm hl hn2 => ?_⟩⟩
        have eo : out = sdI ns := pw_uniq hs (pw_sdI ns) fun j => by rw [hm j, mem_sdI]; exact decide_eq_true_iff
        subst eo
        obtain ⟨w1, z1, z2, z3⟩ := (Way.refl e).laidF (o := SetO w p (fun j => decide (j ∈ ns)) c) hn
        obtain ⟨w2, y1, y2, y3⟩ := w1.laidF (o := .lst ((sdI ns).map V.int)) hn2
        exact q _ _ _ w2 ⟨p2, _, rfl, .inl y1, y2, upd_same, rps_ofInts _, y3⟩
      · cases h
  · cases h⟩
section
variable {X : Cx} {cs : List Addr} {W : WX} {a : Expr} {ma : M Pr} {p pos p2 pos2 : Pos}
theorem pd_sortSet (hc : X.calm = true) (hg : Gl X "sorted") (hm : X.mg "sorted" = none) (hg2 : Gl X "set") (hm2 : X.mg "set" = none) (ha : PO2 cs W X a ma)
    (he0 : starEach (.Call (.Name "set" p2) (a :: []) [] pos2 :: []) X.env = (false, eval (.Call (.Name "set" p2) (a :: []) [] pos2) X.env) :: starEach [] X.env := by rfl)
    (he : starEach (a :: []) X.env = (false, eval a X.env) :: starEach [] X.env := by rfl) :
    PD cs W X (.Call (.Name "sorted" p) [.Call (.Name "set" p2) [a] [] pos2] [] pos) (m1 prSortSet ma) :=
  pe_imp (pe_callB (cr_sortedSet hc) hg hm PyProof.Rows.boot_sorted (pa_cons (pe_callTy (cr_setL hc) hg2 hm2 PyProof.Rows.boot_set (pr_cons ha pr_nil he) (by decide) (by decide) he) pa_nil he0) (by decide) (by decide) he0)
    fun _ _ _ h => c1_imp C1.sortSet h
end
end FRT
end
section
set_option linter.all false
set_option maxRecDepth 100000
set_option maxHeartbeats 4000001
namespace FRT
open PySem L2
/-! ### loops and comprehensions by what holds between the turns -/
section
variable {f : D → Ro → Option Ro} {mt : M Bool} {me : M Vd} {vs : List Nat} {body : M Fl}
theorem cl_inv (J : List D → List D → Ro → Prop)
    (step : ∀ d l acc ρ, J (d :: l) acc ρ → ∃ ρa, f d ρ = some ρa ∧ ((∃ ρb, mt ρa = .ok false ρb ∧ J l acc (wipeR ρb vs)) ∨ ∃ ρb y ρc, mt ρa = .ok true ρb ∧ me ρb = .ok y ρc ∧ acc.length < sizeLine ∧ J l (acc ++ [y.d]) (wipeR ρc vs))) :
    ∀ items acc ρ, J items acc ρ → ∃ acc' ρ', cLoop f mt me vs items acc ρ = .ok acc' ρ' ∧ J [] acc' ρ'
  | [], acc, ρ, h => ⟨acc, ρ, rfl, h⟩
  | d :: l, acc, ρ, h => by
    obtain ⟨ρa, e1, ⟨ρb, e2, j⟩ | ⟨ρb, y, ρc, e2, e3, hz, j⟩⟩ := step d l acc ρ h
    · obtain ⟨acc', ρ', e, k⟩ := cl_inv J step l acc _ j
      refine ⟨acc', ρ', ?_, k⟩
      show (match f d ρ with | none => Rs.bad | some ρa => _) = _
      rw [e1]
      dsimp only
      rw [e2]
      exact e
    · obtain ⟨acc', ρ', e, k⟩ := cl_inv J step l _ _ j
      refine ⟨acc', ρ', ?_, k⟩
      show (match f d ρ with | none => Rs.bad | some ρa => _) = _
      rw [e1]
      dsimp only
      rw [e2]
      dsimp only
      rw [e3]
      dsimp only
      rw [if_pos hz]
      exact e
/-- each item gives one, on one ground -/
theorem cl_map {ρ : Ro} (g : D → D) : ∀ (items acc : List D), (∀ d ∈ items, ∃ ρa v ρc, f d ρ = some ρa ∧ me ρa = .ok v ρc ∧ wipeR ρc vs = ρ ∧ v.d = g d) → acc.length + items.length ≤ sizeLine → cLoop f mtrue me vs items acc ρ = .ok (acc ++ items.map g) ρ
  | [], acc, _, _ => by simp [cLoop]
  | d :: l, acc, h, hz => by
    obtain ⟨ρa, v, ρc, e1, e3, e4, e5⟩ := h d (.head _)
    rw [List.length_cons] at hz
    show (match f d ρ with | none => Rs.bad | some ρa => _) = _
    rw [e1]
    show (match me ρa with | .ok y ρc => _ | _ => Rs.bad) = _
    rw [e3]
    show (if acc.length < sizeLine then cLoop f mtrue me vs l (acc ++ [v.d]) (wipeR ρc vs) else .bad) = _
    rw [if_pos (by omega), e4, e5, cl_map g l _ (fun x hx => h x (.tail _ hx)) (by rw [List.length_append, List.length_cons, List.length_nil]; omega)]
    simp
/-- each item that is kept gives one -/
theorem cl_filter {ρ : Ro} (p : D → Bool) (g : D → D) : ∀ (items acc : List D), (∀ d ∈ items, ∃ ρa ρb, f d ρ = some ρa ∧ mt ρa = .ok (p d) ρb ∧ (p d = false → wipeR ρb vs = ρ) ∧ (p d = true → ∃ v ρc, me ρb = .ok v ρc ∧ wipeR ρc vs = ρ ∧ v.d = g d)) → acc.length + items.length ≤ sizeLine → cLoop f mt me vs items acc ρ = .ok (acc ++ (items.filter p).map g) ρ
  | [], acc, _, _ => by simp [cLoop]
  | d :: l, acc, h, hz => by
    obtain ⟨ρa, ρb, e1, e2, e3, e4⟩ := h d (.head _)
    rw [List.length_cons] at hz
    show (match f d ρ with | none => Rs.bad | some ρa => _) = _
    rw [e1]
    dsimp only
    rw [e2]
    cases hp : p d with
    | false =>
      dsimp only
      rw [e3 hp, cl_filter p g l acc (fun x hx => h x (.tail _ hx)) (by omega), List.filter_cons_of_neg (by rw [hp]; decide)]
    | true =>
      obtain ⟨v, ρc, e5, e6, e7⟩ := e4 hp
      dsimp only
      rw [e5]
      dsimp only
      rw [if_pos (by omega), e6, e7, cl_filter p g l _ (fun x hx => h x (.tail _ hx)) (by rw [List.length_append, List.length_cons, List.length_nil]; omega), List.filter_cons_of_pos hp]
      simp
theorem mc_ok {mi : M (List D)} {ρ ρ1 ρ2 : Ro} {items acc : List D} (h1 : mi ρ = .ok items ρ1) (h2 : cLoop f mt me vs items [] (wipeR ρ1 vs) = .ok acc ρ2) : mcomp mi f mt me vs ρ = .ok (.fr acc) (restR ρ1 vs ρ2) := by
  unfold mcomp
  rw [h1, bind_ok, h2]
theorem mc_ok' {mi : M (List D)} {ρ ρ0 ρ1 ρ2 : Ro} {items acc : List D} (h1 : mi ρ = .ok items ρ1) (h2 : cLoop f mt me vs items [] ρ0 = .ok acc ρ2) (hw : wipeR ρ1 vs = ρ0 := by rfl) : mcomp mi f mt me vs ρ = .ok (.fr acc) (restR ρ1 vs ρ2) := mc_ok h1 (by rw [hw]; exact h2)
theorem fl_inv (J : List D → Ro → Prop) (R : Vd → Ro → Prop) (Z : List D → Ro → Prop)
    (step : ∀ d l ρ, J (d :: l) ρ → ∃ ρa, f d ρ = some ρa ∧ ((∃ ρb, (body ρa = .ok .nx ρb ∨ body ρa = .ok .ct ρb) ∧ J l ρb) ∨ (∃ v ρb, body ρa = .ok (.rt v) ρb ∧ R v ρb) ∨ ∃ ρb, body ρa = .ok .bk ρb ∧ Z l ρb)) :
    ∀ items ρ, J items ρ → (∃ ρ', fLoop f body items ρ = .ok .nx ρ' ∧ (J [] ρ' ∨ ∃ l, Z l ρ')) ∨ ∃ v ρ', fLoop f body items ρ = .ok (.rt v) ρ' ∧ R v ρ'
  | [], ρ, h => .inl ⟨ρ, rfl, .inl h⟩
  | d :: l, ρ, h => by
    obtain ⟨ρa, e1, h2⟩ := step d l ρ h
    have un : fLoop f body (d :: l) ρ = (match body ρa with
      | .ok .nx ρb => fLoop f body l ρb
      | .ok .ct ρb => fLoop f body l ρb
      | .ok .bk ρb => .ok .nx ρb
      | .ok (.rt d) ρb => .ok (.rt d) ρb
      | .exc x ρb => .exc x ρb
      | .bad => .bad) := by
      show (match f d ρ with | none => Rs.bad | some ρa => _) = _
      rw [e1]
      all_goals (try dsimp only)
      all_goals (cases body ρa with
        | ok a ρb => cases a <;> rfl
        | _ => rfl)
    rcases h2 with ⟨ρb, e2 | e2, j⟩ | ⟨v, ρb, e2, r⟩ | ⟨ρb, e2, z⟩
    · rw [un, e2]; exact fl_inv J R Z step l ρb j
    · rw [un, e2]; exact fl_inv J R Z step l ρb j
    · exact .inr ⟨v, ρb, by rw [un, e2], r⟩
    · exact .inl ⟨ρb, by rw [un, e2], .inr ⟨l, z⟩⟩
/-- a loop that no turn leaves -/
theorem fl_all (J : List D → Ro → Prop) (step : ∀ d l ρ, J (d :: l) ρ → ∃ ρa ρb, f d ρ = some ρa ∧ body ρa = .ok .nx ρb ∧ J l ρb) (items : List D) (ρ : Ro) (h : J items ρ) : ∃ ρ', fLoop f body items ρ = .ok .nx ρ' ∧ J [] ρ' := by
  rcases fl_inv (f := f) (body := body) J (fun _ _ => False) (fun _ _ => False) (fun d l ρ h => by
    obtain ⟨ρa, ρb, e1, e2, j⟩ := step d l ρ h
    exact ⟨ρa, e1, .inl ⟨ρb, .inl e2, j⟩⟩) items ρ h with ⟨ρ', e, j | ⟨_, z⟩⟩ | ⟨_, _, _, z⟩
  · exact ⟨ρ', e, j⟩
  · exact z.elim
  · exact z.elim
theorem for_ok {mi : M (List D)} {ρ ρ1 ρ2 : Ro} {items : List D} {r : Fl} (h1 : mi ρ = .ok items ρ1) (h2 : fLoop f body items ρ1 = .ok r ρ2) : sFor mi f body ρ = .ok r ρ2 := by
  unfold sFor
  rw [h1, bind_ok, h2]
end
theorem mandv_t {m n : M Vd} {d : Vd} {ρ ρ1 : Ro} (h : m ρ = .ok d ρ1) (h2 : truD d.d = some true) : mandv m n ρ = n ρ1 := by
  unfold mandv
  rw [h, bind_ok, h2]
  rfl
theorem mandv_f {m n : M Vd} {d : Vd} {ρ ρ1 : Ro} (h : m ρ = .ok d ρ1) (h2 : truD d.d = some false) : mandv m n ρ = .ok (.sh d.d) ρ1 := by
  unfold mandv
  rw [h, bind_ok, h2]
  rfl
/-- a slot that a name may be stored in -/
def Sl.nb : Sl → Prop
  | .bor _ => False
  | _ => True
theorem nbU : Sl.un.nb := trivial
theorem nbS {d : D} : (Sl.sh d).nb := trivial
theorem nbO {l : List D} : (Sl.own l).nb := trivial
section
variable {s s0 s1 s2 s3 s4 s5 s6 s7 s8 s9 : Sl} {r : List Sl} {d : D} {v : Vd}
theorem setV_nb {ρ : Ro} {i : Nat} (h : ρ[i]? = some s) (n : s.nb) : setV i v ρ = some (ρ.set i v.sl) := by
  unfold setV
  rw [h]
  cases s with
  | bor l => exact n.elim
  | _ => rfl
theorem fNm_nb {ρ : Ro} {i : Nat} (h : ρ[i]? = some s) (n : s.nb) : fNm i d ρ = some (ρ.set i (.sh d)) := by
  unfold fNm
  rw [h]
  cases s with
  | bor l => exact n.elim
  | _ => rfl
end
theorem rngD_eq (n : Nat) : rngD 0 n = (List.range n).map fun i : Nat => D.int (i : Int) := by
  unfold rngD
  simp
theorem mit1_ok {ms : M (List D)} {ρ ρ1 : Ro} {n : Nat} (h : n < 1000000) (e : ms ρ = .ok [.int (n : Int)] ρ1) : mit1 ms ρ = .ok ((List.range n).map fun i : Nat => D.int (i : Int)) ρ1 := by
  unfold mit1
  rw [e, bind_ok]
  show (if -(2 ^ 62) ≤ (n : Int) ∧ (n : Int) < 2 ^ 62 then Rs.ok (rngD 0 (n : Int).toNat) ρ1 else .bad) = _
  rw [if_pos (by omega), Int.toNat_natCast, rngD_eq]
end FRT
end
section
set_option Elab.async false
set_option linter.all false
set_option maxRecDepth 100000
set_option maxHeartbeats 4000001
namespace FRT
open PySem L2
open PyProof.Rows (boot_max boot_min boot_abs boot_int boot_str boot_list boot_tuple boot_all boot_any boot_sum boot_isinstance boot_bool boot_divmod)
open PySem (boot_len)
def topS (i : Nat) : Stmt := PySem.Challenge.pw_freightrights_k39_levels_and_what_is_ove.main.body.getD i (.Pass ⟨0, 0, 0, 0⟩)
abbrev prStrI : D → Option Vd := fun d => match d with | .int i => if i.natAbs.log2 < 1920 then vs (Str.ofString (toString i)) else none | _ => none
abbrev s_over : Stmt := topS 1
abbrev s_telling_level : Stmt := topS 2
abbrev s__law_box : Stmt := topS 4
abbrev s__law_take : Stmt := topS 5
abbrev s__law_cells : Stmt := topS 6
abbrev s__law_same : Stmt := topS 7
abbrev s__law_over : Stmt := topS 8
abbrev s__law_tells : Stmt := topS 9
abbrev s__law_asked : Stmt := topS 10
abbrev s__law_by_hand_right : Stmt := topS 11
abbrev s__law_right : Stmt := topS 12
abbrev s_law : Stmt := topS 13
def b_over : M Fl := (sRet (m1 prSum (mpe (mcomp (mitA (mslot 0)) (fNm 2) mtrue (m2 prMax (mpe (mlit (.int 0))) (mpe (m2 prSub (mps 2) (mps 1)))) [2]))))
def fn_over : List Sl → Rs Vd := runF 3 b_over
def b_telling_level : M Fl := (sseq (sAsg 2 (mlit (.int 0)))
    (sseq (sAsg 3 (mlit (.int 0)))
    (sseq (sFor (mitA (m1 prSortSet (mpe (m2 prAdd (mpe (m1 prList (mps 0))) (mpe (m1 prList (mps 1))))))) (fNm 4) (sseq (sAsg 5 (m2 prSub (mpe (mcalln 2 fn_over (mpc (mpe (mslot 0)) (mpc (mpe (mslot 4)) mpn)))) (mpe (mcalln 2 fn_over (mpc (mpe (mslot 1)) (mpc (mpe (mslot 4)) mpn))))))
    (sseq (sIf (mbl (m2 prGt (mps 5) (mpe (mlit (.int 0))))) (sRet (m2 prAdd (mpe (m2 prAdd (mps 2) (mpe (m2 prDiv (mpe (m2 prMul (mps 3) (mpe (m2 prSub (mps 4) (mps 2))))) (mpe (m2 prAdd (mps 3) (mps 5))))))) (mpe (mlit (.int 1))))) snil)
    (sseq (sAsg 2 (mslot 4))
    (sAsg 3 (m1 prNeg (mps 5)))))))
    (sRet (mlit .non)))))
def fn_telling_level : List Sl → Rs Vd := runF 6 b_telling_level
def b__law_box : M Fl := (sseq (sAsg 2 (mif (mbl (m2 prLtA (mps 1) (mpe (m1 prLen (mps 0))))) (m2 prIx (mps 0) (mps 1)) (mlit (.int 0))))
    (sseq (sAsg 3 (m2 prMul (mpe (m1 prAbs (mps 2))) (mpe (m1 prInt (mpe (m2 prGe (mpe (m1 prAbs (mps 2))) (mpe (m2 prPow (mpe (mlit (.int 10))) (mpe (mlit (.int 18)))))))))))
    (sRet (mlst (mcons (mslot 3) (mcons (m2 prAdd (mpe (m2 prAdd (mpe (m2 prMod (mpe (m1 prInt (mps 2))) (mpe (mlit (.int 2305843009213693951))))) (mpe (m2 prMul (mpe (mlit (.int 39373))) (mps 1))))) (mpe (mlit (.int 93939)))) (mcons (mlit (.int 0)) mnil)))))))
def fn__law_box : List Sl → Rs Vd := runF 4 b__law_box
def b__law_take : M Fl := (sseq (sIf (mbl (m2 prGt (mpe (m2 prIx (mps 0) (mpe (mlit (.int 0))))) (mpe (mlit (.int 0))))) (sseq (sAsg 5 (m2 prMod (mpe (m1 prInt (mpe (m2 prIx (mps 0) (mpe (mlit (.int 0))))))) (mps 1)))
    (sseq (sSetIx 0 (m2 prDiv (mpe (m2 prIx (mps 0) (mpe (mlit (.int 0))))) (mps 1)) (mlit (.int 0)))
    (sRet (mmove 5)))) snil)
    (sseq (sSetIx 0 (m2 prAdd (mpe (m2 prIx (mps 0) (mpe (mlit (.int 2))))) (mpe (mlit (.int 1)))) (mlit (.int 2)))
    (sseq (sAsg 2 (m2 prMod (mpe (m1 prInt (mpe (m2 prMul (mpe (m2 prAdd (mpe (m2 prIx (mps 0) (mpe (mlit (.int 1))))) (mpe (m2 prMul (mpe (mlit (.int 48271))) (mpe (m2 prIx (mps 0) (mpe (mlit (.int 2))))))))) (mpe (m2 prAdd (mpe (mlit (.int 39373))) (mpe (m2 prIx (mps 0) (mpe (mlit (.int 2))))))))))) (mpe (mlit (.int 2147483647)))))
    (sseq (sAsg 3 (m2 prAdd (mpe (m2 prMod (mpe (m1 prInt (mps 2))) (mpe (mlit (.int 40009))))) (mpe (mlit (.int 7)))))
    (sseq (sAsg 4 (m2 prMod (mpe (m1 prInt (mpe (m2 prMul (mpe (m2 prAdd (mpe (m2 prAdd (mps 2) (mpe (m2 prIx (mps 0) (mpe (mlit (.int 2))))))) (mpe (m2 prDiv (mpe (m2 prIx (mps 0) (mpe (mlit (.int 1))))) (mpe (mlit (.int 1000003))))))) (mps 3))))) (mpe (mlit (.int 2147483629)))))
    (sRet (m2 prMod (mpe (m1 prInt (mpe (m2 prDiv (mpe (m2 prMod (mpe (m1 prInt (mpe (m2 prAdd (mpe (m2 prMul (mps 4) (mpe (mlit (.int 48271))))) (mps 2))))) (mpe (mlit (.int 2147483587))))) (mpe (mlit (.int 64))))))) (mps 1))))))))
def fn__law_take : List Sl → Rs Vd := runF 6 b__law_take
def b__law_cells : M Fl := (sseq (sAsg 2 (morv (m1 prList (mpe (msl (mps 0) mno (msome (mslot 1))))) (mlst (mcons (mlit (.int 0)) mnil))))
    (sseq (sFor (mitE (msl (mps 0) (msome (mslot 1)) (msome (mlit (.int 63))))) (fTup 2 (fCons (fNm 3) (fCons (fNm 4) fNil))) (sseq (sAsg 5 (m2 prMod (mpe (m1 prInt (mps 3))) (mps 1)))
    (sSetIx 2 (m2 prAdd (mpe (m2 prIx (mps 2) (mps 5))) (mpe (m2 prMul (mps 4) (mpe (m2 prAdd (mps 3) (mpe (mlit (.int 2)))))))) (mslot 5))))
    (sRet (mmove 2))))
def fn__law_cells : List Sl → Rs Vd := runF 6 b__law_cells
def b__law_same (rec : List Sl → Rs Vd) : M Fl := (sseq (sIf (mtru (mpe (m1 (prIsi2 .lst .tup) (mps 1)))) (sseq (sIf (mor (mbl (m2 prNe (mpe (m1 (prIsi .lst) (mps 0))) (mpe (m1 (prIsi .lst) (mps 1))))) (mbl (m2 prNe (mpe (m1 (prIsi .tup) (mps 0))) (mpe (m1 (prIsi .tup) (mps 1)))))) (sRet (mlit (.bl false))) snil)
    (sRet (mandv (m2 prEq (mpe (m1 prLen (mps 0))) (mpe (m1 prLen (mps 1)))) (m1 prAll (mpe (mcomp (mitZ (mcons (mslot 0) (mcons (mslot 1) mnil))) (fTup 2 (fCons (fNm 2) (fCons (fNm 3) fNil))) mtrue (mcalln 2 rec (mpc (mpe (mslot 2)) (mpc (mpe (mslot 3)) mpn))) [2, 3])))))) snil)
    (sseq (sIf (mor (mbl (m2 prIsN (mps 1) (mpe (mlit .non)))) (mtru (mpe (m1 (prIsi2 .bl .str) (mps 1))))) (sRet (mandv (m2 prEq (mps 0) (mps 1)) (mandv (m2 prEq (mpe (m1 (prIsi .bl) (mps 0))) (mpe (m1 (prIsi .bl) (mps 1)))) (m2 prEq (mpe (m2 prIsN (mps 0) (mpe (mlit .non)))) (mpe (m2 prIsN (mps 1) (mpe (mlit .non)))))))) snil)
    (sRet (mandv (m1 (prIsi .int) (mps 0)) (mandv (mnotv (mpe (m1 (prIsi .bl) (mps 0)))) (m2 prEq (mps 0) (mps 1)))))))
def fn__law_same : Nat → List Sl → Rs Vd
  | 0 => fun _ => .bad
  | n + 1 => runF 4 (b__law_same (fn__law_same n))
def b__law_over : M Fl := (sRet (m1 prSum (mpe (mcomp (mitA (mslot 0)) (fNm 2) mtrue (m2 prLenRange (mps 1) (mps 2)) [2]))))
def fn__law_over : List Sl → Rs Vd := runF 3 b__law_over
def b__law_tells : M Fl := (sseq (sFor (mit1 (mcons (mlit (.int 32)) mnil)) (fNm 2) (sIf (mbl (m2 prGt (mpe (mcalln 2 fn__law_over (mpc (mpe (mslot 0)) (mpc (mpe (mslot 2)) mpn)))) (mpe (mcalln 2 fn__law_over (mpc (mpe (mslot 1)) (mpc (mpe (mslot 2)) mpn)))))) (sRet (mmove 2)) snil))
    (sRet (mlit .non)))
def fn__law_tells : List Sl → Rs Vd := runF 3 b__law_tells
def b__law_asked : M Fl := (sseq (sAsg 2 (mlst (mcons (mcomp (mit1 (mcons (mlit (.int 11)) mnil)) (fNm 5) mtrue (mcalln 2 fn__law_over (mpc (mpe (mslot 0)) (mpc (mpe (mslot 5)) mpn))) [5]) (mcons (mcalln 2 fn__law_tells (mpc (mpe (mslot 0)) (mpc (mpe (mslot 1)) mpn))) (mcons (mcalln 2 fn__law_tells (mpc (mpe (mslot 1)) (mpc (mpe (mslot 0)) mpn))) mnil)))))
    (sseq (sAsg 3 (mlst (mcons (mcomp (mit1 (mcons (mlit (.int 11)) mnil)) (fNm 5) mtrue (mcalln 2 fn_over (mpc (mpe (mslot 0)) (mpc (mpe (mslot 5)) mpn))) [5]) (mcons (mcalln 2 fn_telling_level (mpc (mpe (mslot 0)) (mpc (mpe (mslot 1)) mpn))) (mcons (mcalln 2 fn_telling_level (mpc (mpe (mslot 1)) (mpc (mpe (mslot 0)) mpn))) mnil)))))
    (sseq (sAsg 4 (mlst (mcons (mcomp (mit1 (mcons (mlit (.int 11)) mnil)) (fNm 5) mtrue (mcalln 2 fn_over (mpc (mpe (m1 prList (mps 0))) (mpc (mpe (mslot 5)) mpn))) [5]) (mcons (mcalln 2 fn_telling_level (mpc (mpe (m1 prList (mps 0))) (mpc (mpe (mslot 1)) mpn))) mnil))))
    (sRet (mcalln 2 (fn__law_same 40) (mpc (mpe (m2 prAdd (mpe (m2 prAdd (mps 3) (mps 4))) (mpe (mlst (mcons (mcalln 2 fn_telling_level (mpc (mpe (mslot 1)) (mpc (mpe (m1 prList (mps 0))) mpn))) mnil))))) (mpc (mpe (m2 prAdd (mps 2) (mps 2))) mpn)))))))
def fn__law_asked : List Sl → Rs Vd := runF 6 b__law_asked
def b__law_by_hand_right : M Fl := (sseq (sAsg 0 (mlst (mcons (mtup (mcons (mtup (mcons (mlit (.int 1)) (mcons (mlit (.int 4)) (mcons (mlit (.int 1)) mnil)))) (mcons (mtup (mcons (mlit (.int 1)) (mcons (mlit (.int 2)) (mcons (mlit (.int 3)) mnil)))) mnil))) (mcons (mtup (mcons (mtup (mcons (mlit (.int 1)) (mcons (mlit (.int 2)) (mcons (mlit (.int 3)) mnil)))) (mcons (mtup (mcons (mlit (.int 1)) (mcons (mlit (.int 4)) (mcons (mlit (.int 1)) mnil)))) mnil))) (mcons (mtup (mcons (mtup (mcons (mlit (.int 2)) (mcons (mlit (.int 2)) (mcons (mlit (.int 2)) mnil)))) (mcons (mtup (mcons (mlit (.int 0)) (mcons (mlit (.int 3)) (mcons (mlit (.int 3)) mnil)))) mnil))) (mcons (mtup (mcons (mtup mnil) (mcons (mtup mnil) mnil))) (mcons (mtup (mcons (mtup (mcons (mlit (.int 5)) mnil)) (mcons (mtup (mcons (mlit (.int 5)) mnil)) mnil))) mnil)))))))
    (sseq (sAsg 0 (m2 prAdd (mps 0) (mpe (mlst (mcons (mtup (mcons (mtup (mcons (mlit (.int 0)) (mcons (mlit (.int 4)) mnil))) (mcons (mtup (mcons (mlit (.int 2)) (mcons (mlit (.int 2)) mnil))) mnil))) (mcons (mtup (mcons (mtup (mcons (mlit (.int 3)) (mcons (mlit (.int 1)) mnil))) (mcons (mtup (mcons (mlit (.int 1)) (mcons (mlit (.int 3)) mnil))) mnil))) mnil))))))
    (sseq (sAsg 0 (m2 prAdd (mps 0) (mpe (mlst (mcons (mtup (mcons (mtup (mcons (mlit (.int 0)) (mcons (mlit (.int 0)) (mcons (mlit (.int 9)) mnil)))) (mcons (mtup (mcons (mlit (.int 0)) (mcons (mlit (.int 1)) (mcons (mlit (.int 8)) mnil)))) mnil))) (mcons (mtup (mcons (mtup (mcons (mlit (.int 1)) (mcons (mlit (.int 1)) (mcons (mlit (.int 7)) mnil)))) (mcons (mtup (mcons (mlit (.int 0)) (mcons (mlit (.int 4)) (mcons (mlit (.int 5)) mnil)))) mnil))) (mcons (mtup (mcons (mtup (mcons (mlit (.int 0)) (mcons (mlit (.int 4)) (mcons (mlit (.int 5)) mnil)))) (mcons (mtup (mcons (mlit (.int 1)) (mcons (mlit (.int 1)) (mcons (mlit (.int 7)) mnil)))) mnil))) mnil)))))))
    (sseq (sAsg 0 (m2 prAdd (mps 0) (mpe (mlst (mcons (mtup (mcons (mtup (mcons (mlit (.int 0)) (mcons (mlit (.int 5)) (mcons (mlit (.int 5)) (mcons (mlit (.int 5)) mnil))))) (mcons (mtup (mcons (mlit (.int 3)) (mcons (mlit (.int 3)) (mcons (mlit (.int 3)) (mcons (mlit (.int 6)) mnil))))) mnil))) (mcons (mtup (mcons (mtup (mcons (mlit (.int 3)) (mcons (mlit (.int 3)) (mcons (mlit (.int 3)) (mcons (mlit (.int 6)) mnil))))) (mcons (mtup (mcons (mlit (.int 0)) (mcons (mlit (.int 5)) (mcons (mlit (.int 5)) (mcons (mlit (.int 5)) mnil))))) mnil))) mnil))))))
    (sseq (sAsg 1 (mcomp (mitA (mslot 0)) (fNm 4) mtrue (mcalln 2 fn_telling_level (mpc (mpe (m2 prIx (mps 4) (mpe (mlit (.int 0))))) (mpc (mpe (m2 prIx (mps 4) (mpe (mlit (.int 1))))) mpn))) [4]))
    (sseq (sAsg 2 (mlst (mcons (mlit (.int 2)) (mcons (mlit .non) (mcons (mlit .non) (mcons (mlit .non) (mcons (mlit .non) (mcons (mlit (.int 1)) (mcons (mlit .non) (mcons (mlit (.int 1)) (mcons (mlit (.int 3)) (mcons (mlit (.int 1)) (mcons (mlit (.int 1)) (mcons (mlit (.int 5)) mnil))))))))))))))
    (sseq (sAsg 3 (m2 prPow (mpe (mlit (.int 10))) (mpe (mlit (.int 30)))))
    (sseq (sAsg 1 (m2 prAdd (mps 1) (mpe (mlst (mcons (mcalln 2 fn_telling_level (mpc (mpe (mtup (mcons (mslot 3) (mcons (mlit (.int 0)) mnil)))) (mpc (mpe (mtup (mcons (m2 prDiv (mps 3) (mpe (mlit (.int 2)))) (mcons (m2 prDiv (mps 3) (mpe (mlit (.int 2)))) mnil)))) mpn))) (mcons (mcalln 2 fn_telling_level (mpc (mpe (mtup (mcons (m2 prSub (mps 3) (mpe (mlit (.int 1)))) (mcons (mlit (.int 1)) mnil)))) (mpc (mpe (mtup (mcons (mslot 3) (mcons (mlit (.int 0)) mnil)))) mpn))) mnil))))))
    (sseq (sAsg 1 (m2 prAdd (mps 1) (mpe (mlst (mcons (mcalln 2 fn_telling_level (mpc (mpe (mtup (mcons (mslot 3) (mcons (mlit (.int 0)) mnil)))) (mpc (mpe (mtup (mcons (m2 prSub (mps 3) (mpe (mlit (.int 1)))) (mcons (mlit (.int 1)) mnil)))) mpn))) mnil)))))
    (sseq (sAsg 2 (m2 prAdd (mps 2) (mpe (mlst (mcons (mlit (.int 1)) (mcons (mlit .non) (mcons (mlit (.int 1)) mnil)))))))
    (sseq (sAsg 1 (m2 prAdd (mps 1) (mpe (mlst (mcons (mcalln 2 fn_telling_level (mpc (mpe (mtup (mcons (m2 prSub (mps 3) (mpe (mlit (.int 4)))) (mcons (m2 prSub (mps 3) (mpe (mlit (.int 4)))) (mcons (mlit (.int 0)) (mcons (mlit (.int 4)) mnil)))))) (mpc (mpe (mtup (mcons (mslot 3) (mcons (m2 prSub (mps 3) (mpe (mlit (.int 8)))) (mcons (mlit (.int 2)) (mcons (mlit (.int 2)) mnil)))))) mpn))) mnil)))))
    (sseq (sAsg 1 (m2 prAdd (mps 1) (mpe (mlst (mcons (mcalln 2 fn_telling_level (mpc (mpe (mtup (mcons (mslot 3) (mcons (m2 prSub (mps 3) (mpe (mlit (.int 8)))) (mcons (mlit (.int 2)) (mcons (mlit (.int 2)) mnil)))))) (mpc (mpe (mtup (mcons (m2 prSub (mps 3) (mpe (mlit (.int 4)))) (mcons (m2 prSub (mps 3) (mpe (mlit (.int 4)))) (mcons (mlit (.int 0)) (mcons (mlit (.int 4)) mnil)))))) mpn))) mnil)))))
    (sseq (sAsg 2 (m2 prAdd (mps 2) (mpe (mlst (mcons (mlit (.int 1)) (mcons (m2 prSub (mps 3) (mpe (mlit (.int 7)))) mnil))))))
    (sseq (sAsg 1 (m2 prAdd (mps 1) (mpe (mlst (mcons (mcalln 2 fn_over (mpc (mpe (mtup (mcons (mlit (.int 1)) (mcons (mlit (.int 4)) (mcons (mlit (.int 1)) mnil))))) (mpc (mpe (mlit (.int 2))) mpn))) (mcons (mcalln 2 fn_over (mpc (mpe (mtup mnil)) (mpc (mpe (mlit (.int 0))) mpn))) (mcons (mcalln 2 fn_over (mpc (mpe (mtup (mcons (mslot 3) (mcons (mlit (.int 3)) mnil)))) (mpc (mpe (mlit (.int 1))) mpn))) (mcons (mcalln 2 fn_over (mpc (mpe (mtup (mcons (mslot 3) (mcons (mlit (.int 3)) mnil)))) (mpc (mpe (mslot 3)) mpn))) mnil))))))))
    (sseq (sAsg 1 (m2 prAdd (mps 1) (mpe (mlst (mcons (mcallk 2 fn_over 0 2 [1, 0] mpn (mpc (mpe (mlit (.int 0))) (mpc (mpe (mlst (mcons (mlit (.int 2)) (mcons (mlit (.int 3)) mnil)))) mpn))) (mcons (mcallk 2 fn_telling_level 0 2 [1, 0] mpn (mpc (mpe (mlst (mcons (mlit (.int 1)) (mcons (mlit (.int 1)) mnil)))) (mpc (mpe (mlst (mcons (mlit (.int 0)) (mcons (mlit (.int 2)) mnil)))) mpn))) mnil))))))
    (sRet (mcalln 2 (fn__law_same 40) (mpc (mpe (mslot 1)) (mpc (mpe (m2 prAdd (mps 2) (mpe (mlst (mcons (mlit (.int 2)) (mcons (mlit (.int 0)) (mcons (m2 prAdd (mps 3) (mpe (mlit (.int 1)))) (mcons (mlit (.int 0)) (mcons (mlit (.int 5)) (mcons (mlit (.int 1)) mnil)))))))))) mpn)))))))))))))))))))
def fn__law_by_hand_right : List Sl → Rs Vd := runF 5 b__law_by_hand_right
def b__law_right : M Fl := (sseq (sFor (mit1 (mcons (mlit (.int 5)) mnil)) (fNm 1) (sseq (sAsg 2 (mcomp (mit1 (mcons (m2 prAdd (mpe (mlit (.int 1))) (mpe (mcalln 2 fn__law_take (mpc (mps 0) (mpc (mpe (mlit (.int 5))) mpn))))) mnil)) (fNm 8) mtrue (mcalln 2 fn__law_take (mpc (mps 0) (mpc (mpe (mlit (.int 7))) mpn))) [8]))
    (sseq (sAsg 3 (m1 prList (mps 2)))
    (sseq (sFor (mit1 (mcons (mcalln 2 fn__law_take (mpc (mps 0) (mpc (mpe (mlit (.int 5))) mpn))) mnil)) (fNm 4) (sseq (sPar2 5 6 (mcalln 2 fn__law_take (mpc (mps 0) (mpc (mpe (m1 prLen (mps 3))) mpn))) (mcalln 2 fn__law_take (mpc (mps 0) (mpc (mpe (m1 prLen (mps 3))) mpn))))
    (sseq (sAsg 7 (mcalln 2 fn__law_take (mpc (mps 0) (mpc (mpe (m2 prAdd (mpe (m2 prIx (mps 3) (mps 5))) (mpe (mlit (.int 1))))) mpn))))
    (sseq (sSetIx 3 (m2 prSub (mpe (m2 prIx (mps 3) (mps 5))) (mps 7)) (mslot 5))
    (sSetIx 3 (m2 prAdd (mpe (m2 prIx (mps 3) (mps 6))) (mps 7)) (mslot 6))))))
    (sIf (mnot (mtru (mpe (mcalln 2 fn__law_asked (mpc (mpe (m1 prTuple (mps 2))) (mpc (mpe (m1 prTuple (mps 3))) mpn)))))) (sRet (mlit (.bl false))) snil)))))
    (sRet (mlit (.bl true))))
def fn__law_right : List Sl → Rs Vd := runF 9 b__law_right
def b_law : M Fl := (sseq (sAsg 1 (mcalln 2 fn__law_cells (mpc (mpe (mslot 0)) (mpc (mpe (mlit (.int 3))) mpn))))
    (sRet (mandv (mcallk 0 fn__law_by_hand_right 0 0 [] mpn mpn) (m1 prAll (mpe (mcomp (mit1 (mcons (m1 prLen (mps 1)) mnil)) (fNm 2) mtrue (mcallT fn__law_right (mcalln 2 fn__law_box (mpc (mpe (mslot 1)) (mpc (mpe (mslot 2)) mpn)))) [2]))))))
def fn_law : List Sl → Rs Vd := runF 3 b_law
structure Tx (K : PySem.W.Frag) (mg : Str → Option Value) (fa : Nat → Addr) (fd : Nat → FuncData) : Prop where
  F_over : Fun K "over" "over" s_over (fa 0) (fd 0)
  g_over : mg "over" = some (.ref (fa 0))
  b_over : Binds K (fd 0) ["one", "level"] []
  F_telling_level : Fun K "telling_level" "telling_level" s_telling_level (fa 1) (fd 1)
  g_telling_level : mg "telling_level" = some (.ref (fa 1))
  b_telling_level : Binds K (fd 1) ["one", "other"] []
  F__law_box : Fun K "_law_box" "_law_box" s__law_box (fa 2) (fd 2)
  g__law_box : mg "_law_box" = some (.ref (fa 2))
  b__law_box : Binds K (fd 2) ["script", "k"] []
  F__law_take : Fun K "_law_take" "_law_take" s__law_take (fa 3) (fd 3)
  g__law_take : mg "_law_take" = some (.ref (fa 3))
  b__law_take : Binds K (fd 3) ["urn", "low_so"] []
  F__law_cells : Fun K "_law_cells" "_law_cells" s__law_cells (fa 4) (fd 4)
  g__law_cells : mg "_law_cells" = some (.ref (fa 4))
  b__law_cells : Binds K (fd 4) ["script", "top"] []
  F__law_same : Fun K "_law_same" "_law_same" s__law_same (fa 5) (fd 5)
  g__law_same : mg "_law_same" = some (.ref (fa 5))
  b__law_same : Binds K (fd 5) ["got", "goal"] []
  F__law_over : Fun K "_law_over" "_law_over" s__law_over (fa 6) (fd 6)
  g__law_over : mg "_law_over" = some (.ref (fa 6))
  b__law_over : Binds K (fd 6) ["own", "low_so"] []
  F__law_tells : Fun K "_law_tells" "_law_tells" s__law_tells (fa 7) (fd 7)
  g__law_tells : mg "_law_tells" = some (.ref (fa 7))
  b__law_tells : Binds K (fd 7) ["one_so", "two_so"] []
  F__law_asked : Fun K "_law_asked" "_law_asked" s__law_asked (fa 8) (fd 8)
  g__law_asked : mg "_law_asked" = some (.ref (fa 8))
  b__law_asked : Binds K (fd 8) ["one_so", "two_so"] []
  F__law_by_hand_right : Fun K "_law_by_hand_right" "_law_by_hand_right" s__law_by_hand_right (fa 9) (fd 9)
  g__law_by_hand_right : mg "_law_by_hand_right" = some (.ref (fa 9))
  b__law_by_hand_right : Binds K (fd 9) [] []
  F__law_right : Fun K "_law_right" "_law_right" s__law_right (fa 10) (fd 10)
  g__law_right : mg "_law_right" = some (.ref (fa 10))
  b__law_right : Binds K (fd 10) ["urn"] []
  F_law : Fun K "law" "law" s_law (fa 11) (fd 11)
  g_law : mg "law" = some (.ref (fa 11))
  b_law : Binds K (fd 11) ["script"] []
  kw_telling_level_0_other_one : KwB K (fd 1) ["one", "other"] ["other", "one"] 0 [1, 0]
  kw_over_0_level_one : KwB K (fd 0) ["one", "level"] ["level", "one"] 0 [1, 0]
  kw__law_by_hand_right_0_0 : KwB K (fd 9) [] [] 0 []
  z_abs : mg "abs" = none
  z_all : mg "all" = none
  z_bool : mg "bool" = none
  z_enumerate : mg "enumerate" = none
  z_int : mg "int" = none
  z_isinstance : mg "isinstance" = none
  z_len : mg "len" = none
  z_list : mg "list" = none
  z_max : mg "max" = none
  z_range : mg "range" = none
  z_set : mg "set" = none
  z_sorted : mg "sorted" = none
  z_str : mg "str" = none
  z_sum : mg "sum" = none
  z_tuple : mg "tuple" = none
  z_zip : mg "zip" = none
section
variable {P : Program} {w : World} {K : PySem.W.Frag} {mg : Str → Option Value} {base : Heap} {fa : Nat → Addr} {fd : Nat → FuncData} {cs : List Addr}
theorem sc_over : FnScope ["one", "level", "number"] ["one", "level"] (defScope s_over) := C8.fnScope_by (by decide +kernel)
theorem ok_over (T : Tx K mg fa fd) : FnOk P w K mg base (L2.CX P w) 1 (fa 0) (fd 0) ["one", "level"] (spD cs K 2 (fn_over)) := by
  refine fn_ok T.F_over sc_over rfl (by decide) fun cdv A outer s H E hr => ?_
  have ND : (["one", "level", "number"] : List Str).Nodup := sc_over.nd
  exact (ss_one (sd_ret (pd_b1 (cr_sum rfl) C1.sum (by rfl) T.z_sum boot_sum (po_e (pd_comp rfl ND (pit_A (pd_s 0)) (own := [("number", 2)]) (blkOk_by (by show blkC ["one", "level", "number"] (defScope s_over) _ _ = true; decide +kernel)) (fun _ _ _ _ _ => (gd_nm 2 ND rfl (by first | exact .inl rfl | exact .inr rfl))) (fun _ _ _ _ _ => ptd_nil) (fun _ _ _ _ _ => (pd_b2 (call_max2 rfl) P2.max2 (by rfl) T.z_max boot_max (po_e (pd_lit pe_int fun _ => .int _)) (po_e (pd_op op_sub P2.sub (po_s 2) (po_s 1))))))))))
theorem sc_telling_level : FnScope ["one", "other", "low", "less", "high", "more"] ["one", "other"] (defScope s_telling_level) := C8.fnScope_by (by decide +kernel)
theorem ok_telling_level (T : Tx K mg fa fd) : FnOk P w K mg base (L2.CX P w) 2 (fa 1) (fd 1) ["one", "other"] (spD cs K 2 (fn_telling_level)) := by
  refine fn_ok T.F_telling_level sc_telling_level rfl (by decide) fun cdv A outer s H E hr => ?_
  have ND : (["one", "other", "low", "less", "high", "more"] : List Str).Nodup := sc_telling_level.nd
  exact (ss_cons (sd_asg 2 ND rfl (by first | exact .inl rfl | exact .inr rfl) (pd_lit pe_int fun _ => .int _))
    (ss_cons (sd_asg 3 ND rfl (by first | exact .inl rfl | exact .inr rfl) (pd_lit pe_int fun _ => .int _))
    (ss_cons (sd_for (passes_of rfl) rfl (pit_A (pd_sortSet rfl (by rfl) T.z_sorted (by rfl) T.z_set (po_e (pd_op op_addA P2.add (po_e (pd_t1 call_list_of C1.list (by rfl) T.z_list boot_list (po_s 0))) (po_e (pd_t1 call_list_of C1.list (by rfl) T.z_list boot_list (po_s 1))))))) (gd_nm 4 ND rfl (by first | exact .inl rfl | exact .inr rfl)) (ss_cons (sd_asg 5 ND rfl (by first | exact .inl rfl | exact .inr rfl) (pd_op op_sub P2.sub (po_e (pd_call (ok_over T) (hr.mono (by decide)) (by rfl) T.g_over T.F_over.kp T.b_over (takes_of rfl rfl rfl rfl) (pr_cons (po_e (pd_s 0)) (pr_cons (po_e (pd_s 4)) pr_nil)))) (po_e (pd_call (ok_over T) (hr.mono (by decide)) (by rfl) T.g_over T.F_over.kp T.b_over (takes_of rfl rfl rfl rfl) (pr_cons (po_e (pd_s 1)) (pr_cons (po_e (pd_s 4)) pr_nil))))))
    (ss_cons (sd_if (pb_cmp op_gt P2.gt (po_s 5) (po_e (pd_lit pe_int fun _ => .int _)) (nomark _)) (ss_one (sd_ret (pd_op op_addA P2.add (po_e (pd_op op_addA P2.add (po_s 2) (po_e (pd_op op_fdivW P2.div (po_e (pd_op op_mulA P2.mul (po_s 3) (po_e (pd_op op_sub P2.sub (po_s 4) (po_s 2))))) (po_e (pd_op op_addA P2.add (po_s 3) (po_s 5))))))) (po_e (pd_lit pe_int fun _ => .int _))))) ss_nil)
    (ss_cons (sd_asg 2 ND rfl (by first | exact .inl rfl | exact .inr rfl) (pd_s 4))
    (ss_one (sd_asg 3 ND rfl (by first | exact .inl rfl | exact .inr rfl) (pd_un un_neg P1.neg (po_s 5))))))))
    (ss_one (sd_ret (pd_lit pe_non fun _ => .non))))))
theorem sc__law_box : FnScope ["script", "k", "great_so", "lead_so"] ["script", "k"] (defScope s__law_box) := C8.fnScope_by (by decide +kernel)
theorem ok__law_box (T : Tx K mg fa fd) : FnOk P w K mg base (L2.CX P w) 1 (fa 2) (fd 2) ["script", "k"] (spD cs K 2 (fn__law_box)) := by
  refine fn_ok T.F__law_box sc__law_box rfl (by decide) fun cdv A outer s H E hr => ?_
  have ND : (["script", "k", "great_so", "lead_so"] : List Str).Nodup := sc__law_box.nd
  exact (ss_cons (sd_asg 2 ND rfl (by first | exact .inl rfl | exact .inr rfl) (pd_if (pb_cmp (op_ltB (hu0 hr)) P2.ltA (po_s 1) (po_e (pd_b1 call_len C1.len (by rfl) T.z_len boot_len (po_s 0))) (nomark _)) (pd_ix (po_s 0) (po_s 1)) (pd_lit pe_int fun _ => .int _)))
    (ss_cons (sd_asg 3 ND rfl (by first | exact .inl rfl | exact .inr rfl) (pd_op op_mulA P2.mul (po_e (pd_b1 call_abs C1.abs (by rfl) T.z_abs boot_abs (po_s 2))) (po_e (pd_t1 call_intA C1.int (by rfl) T.z_int boot_int (po_e (pd_cmp op_ge P2.ge (po_e (pd_b1 call_abs C1.abs (by rfl) T.z_abs boot_abs (po_s 2))) (po_e (pd_op op_pow P2.pow (po_e (pd_lit pe_int fun _ => .int _)) (po_e (pd_lit pe_int fun _ => .int _)))) (nomark _)))))))
    (ss_one (sd_ret (pd_lst (pl_cons (pd_s 3) (pl_cons (pd_op op_addA P2.add (po_e (pd_op op_addA P2.add (po_e (pd_op op_mod P2.mod (po_e (pd_t1 call_intA C1.int (by rfl) T.z_int boot_int (po_s 2))) (po_e (pd_lit pe_int fun _ => .int _)))) (po_e (pd_op op_mulA P2.mul (po_e (pd_lit pe_int fun _ => .int _)) (po_s 1))))) (po_e (pd_lit pe_int fun _ => .int _))) (pl_cons (pd_lit pe_int fun _ => .int _) pl_nil))))))))
theorem sc__law_take : FnScope ["urn", "low_so", "once", "far", "twice", "drawn"] ["urn", "low_so"] (defScope s__law_take) := C8.fnScope_by (by decide +kernel)
theorem ok__law_take (T : Tx K mg fa fd) : FnOk P w K mg base (L2.CX P w) 1 (fa 3) (fd 3) ["urn", "low_so"] (spD cs K 2 (fn__law_take)) := by
  refine fn_ok T.F__law_take sc__law_take rfl (by decide) fun cdv A outer s H E hr => ?_
  have ND : (["urn", "low_so", "once", "far", "twice", "drawn"] : List Str).Nodup := sc__law_take.nd
  exact (ss_cons (sd_if (pb_cmp op_gt P2.gt (po_e (pd_ix (po_s 0) (po_e (pd_lit pe_int fun _ => .int _)))) (po_e (pd_lit pe_int fun _ => .int _)) (nomark _)) (ss_cons (sd_asg 5 ND rfl (by first | exact .inl rfl | exact .inr rfl) (pd_op op_mod P2.mod (po_e (pd_t1 call_intA C1.int (by rfl) T.z_int boot_int (po_e (pd_ix (po_s 0) (po_e (pd_lit pe_int fun _ => .int _)))))) (po_s 1)))
    (ss_cons (sd_setIx 0 (pd_op op_fdivW P2.div (po_e (pd_ix (po_s 0) (po_e (pd_lit pe_int fun _ => .int _)))) (po_s 1)) (pd_lit pe_int fun _ => .int _))
    (ss_one (sd_ret (pd_move 5))))) ss_nil)
    (ss_cons (sd_setIx 0 (pd_op op_addA P2.add (po_e (pd_ix (po_s 0) (po_e (pd_lit pe_int fun _ => .int _)))) (po_e (pd_lit pe_int fun _ => .int _))) (pd_lit pe_int fun _ => .int _))
    (ss_cons (sd_asg 2 ND rfl (by first | exact .inl rfl | exact .inr rfl) (pd_op op_mod P2.mod (po_e (pd_t1 call_intA C1.int (by rfl) T.z_int boot_int (po_e (pd_op op_mulA P2.mul (po_e (pd_op op_addA P2.add (po_e (pd_ix (po_s 0) (po_e (pd_lit pe_int fun _ => .int _)))) (po_e (pd_op op_mulA P2.mul (po_e (pd_lit pe_int fun _ => .int _)) (po_e (pd_ix (po_s 0) (po_e (pd_lit pe_int fun _ => .int _)))))))) (po_e (pd_op op_addA P2.add (po_e (pd_lit pe_int fun _ => .int _)) (po_e (pd_ix (po_s 0) (po_e (pd_lit pe_int fun _ => .int _)))))))))) (po_e (pd_lit pe_int fun _ => .int _))))
    (ss_cons (sd_asg 3 ND rfl (by first | exact .inl rfl | exact .inr rfl) (pd_op op_addA P2.add (po_e (pd_op op_mod P2.mod (po_e (pd_t1 call_intA C1.int (by rfl) T.z_int boot_int (po_s 2))) (po_e (pd_lit pe_int fun _ => .int _)))) (po_e (pd_lit pe_int fun _ => .int _))))
    (ss_cons (sd_asg 4 ND rfl (by first | exact .inl rfl | exact .inr rfl) (pd_op op_mod P2.mod (po_e (pd_t1 call_intA C1.int (by rfl) T.z_int boot_int (po_e (pd_op op_mulA P2.mul (po_e (pd_op op_addA P2.add (po_e (pd_op op_addA P2.add (po_s 2) (po_e (pd_ix (po_s 0) (po_e (pd_lit pe_int fun _ => .int _)))))) (po_e (pd_op op_fdivW P2.div (po_e (pd_ix (po_s 0) (po_e (pd_lit pe_int fun _ => .int _)))) (po_e (pd_lit pe_int fun _ => .int _)))))) (po_s 3))))) (po_e (pd_lit pe_int fun _ => .int _))))
    (ss_one (sd_ret (pd_op op_mod P2.mod (po_e (pd_t1 call_intA C1.int (by rfl) T.z_int boot_int (po_e (pd_op op_fdivW P2.div (po_e (pd_op op_mod P2.mod (po_e (pd_t1 call_intA C1.int (by rfl) T.z_int boot_int (po_e (pd_op op_addA P2.add (po_e (pd_op op_mulA P2.mul (po_s 4) (po_e (pd_lit pe_int fun _ => .int _)))) (po_s 2))))) (po_e (pd_lit pe_int fun _ => .int _)))) (po_e (pd_lit pe_int fun _ => .int _)))))) (po_s 1)))))))))
theorem sc__law_cells : FnScope ["script", "top", "found", "k", "own", "at_so"] ["script", "top"] (defScope s__law_cells) := C8.fnScope_by (by decide +kernel)
theorem ok__law_cells (T : Tx K mg fa fd) : FnOk P w K mg base (L2.CX P w) 1 (fa 4) (fd 4) ["script", "top"] (spD cs K 2 (fn__law_cells)) := by
  refine fn_ok T.F__law_cells sc__law_cells rfl (by decide) fun cdv A outer s H E hr => ?_
  have ND : (["script", "top", "found", "k", "own", "at_so"] : List Str).Nodup := sc__law_cells.nd
  exact (ss_cons (sd_asg 2 ND rfl (by first | exact .inl rfl | exact .inr rfl) (pd_orv (pd_t1 call_list_of C1.list (by rfl) T.z_list boot_list (po_e (pd_sl (po_s 0) pi_no (pi_some (pd_s 1))))) (pd_one (pd_lst (pl_cons (pd_lit pe_int fun _ => .int _) pl_nil)))))
    (ss_cons (sd_for (passes_of rfl) rfl (pit_E (by rfl) T.z_enumerate (pd_sl (po_s 0) (pi_some (pd_s 1)) (pi_some (pd_lit pe_int fun _ => .int _)))) (gd_tup rfl (gd_cons (gd_nm 3 ND rfl (by first | exact .inl rfl | exact .inr rfl)) (gd_cons (gd_nm 4 ND rfl (by first | exact .inl rfl | exact .inr rfl)) gd_nil))) (ss_cons (sd_asg 5 ND rfl (by first | exact .inl rfl | exact .inr rfl) (pd_op op_mod P2.mod (po_e (pd_t1 call_intA C1.int (by rfl) T.z_int boot_int (po_s 3))) (po_s 1)))
    (ss_one (sd_setIx 2 (pd_op op_addA P2.add (po_e (pd_ix (po_s 2) (po_s 5))) (po_e (pd_op op_mulA P2.mul (po_s 4) (po_e (pd_op op_addA P2.add (po_s 3) (po_e (pd_lit pe_int fun _ => .int _))))))) (pd_s 5)))))
    (ss_one (sd_ret (pd_move 2)))))
theorem sc__law_same : FnScope ["got", "goal", "mine_so", "own"] ["got", "goal"] (defScope s__law_same) := C8.fnScope_by (by decide +kernel)
theorem ok__law_same (T : Tx K mg fa fd) : ∀ n : Nat, FnOk P w K mg base (L2.CX P w) (n + 1) (fa 5) (fd 5) ["got", "goal"] (spD cs K 2 (fn__law_same n))
  | 0 => fn_none rfl
  | n + 1 => by
    have ih := ok__law_same T n
    rw [show n + 1 + 1 = n + 1 + 1 by omega]
    refine fn_ok T.F__law_same sc__law_same rfl (by decide) fun cdv A outer s H E hr => ?_
    have ND : (["got", "goal", "mine_so", "own"] : List Str).Nodup := sc__law_same.nd
    exact (ss_cons (sd_if (pb_tru (po_e (pd_isi2 (T := .lst) (U := .tup) (by rfl) T.z_isinstance boot_isinstance (by rfl) T.z_list boot_list (by rfl) T.z_tuple boot_tuple (po_s 1)))) (ss_cons (sd_if (pb_w (pb_or (pb_cmp (op_neA (hu64 hr)) P2.ne (po_e (pd_isi (T := .lst) (by rfl) T.z_isinstance boot_isinstance (by rfl) T.z_list boot_list (po_s 0))) (po_e (pd_isi (T := .lst) (by rfl) T.z_isinstance boot_isinstance (by rfl) T.z_list boot_list (po_s 1))) (nomark _)) (pb_or1 (pb_cmp (op_neA (hu64 hr)) P2.ne (po_e (pd_isi (T := .tup) (by rfl) T.z_isinstance boot_isinstance (by rfl) T.z_tuple boot_tuple (po_s 0))) (po_e (pd_isi (T := .tup) (by rfl) T.z_isinstance boot_isinstance (by rfl) T.z_tuple boot_tuple (po_s 1))) (nomark _))))) (ss_one (sd_ret (pd_lit pe_bl fun _ => .bl _))) ss_nil)
    (ss_one (sd_ret (pd_andv (pd_cmp (op_eqA (hu64 hr)) P2.eq (po_e (pd_b1 call_len C1.len (by rfl) T.z_len boot_len (po_s 0))) (po_e (pd_b1 call_len C1.len (by rfl) T.z_len boot_len (po_s 1))) (nomark _)) (pd_one (pd_b1 (cr_all rfl) C1.all (by rfl) T.z_all boot_all (po_e (pd_comp rfl ND (pit_Z (by rfl) T.z_zip (pl_cons (pd_s 0) (pl_cons (pd_s 1) pl_nil))) (own := [("mine_so", 2), ("own", 3)]) (blkOk_by (by show blkC ["got", "goal", "mine_so", "own"] (defScope s__law_same) _ _ = true; decide +kernel)) (fun _ _ _ _ _ => (gd_tup rfl (gd_cons (gd_nm 2 ND rfl (by first | exact .inl rfl | exact .inr rfl)) (gd_cons (gd_nm 3 ND rfl (by first | exact .inl rfl | exact .inr rfl)) gd_nil)))) (fun _ _ _ _ _ => ptd_nil) (fun _ _ _ _ _ => (pd_call ih hr (by rfl) T.g__law_same T.F__law_same.kp T.b__law_same takes0 (pr_cons (po_e (pd_s 2)) (pr_cons (po_e (pd_s 3)) pr_nil)))))))))))) ss_nil)
    (ss_cons (sd_if (pb_w (pb_or (pb_cmp op_isN P2.isN (po_s 1) (po_e (pd_lit pe_non fun _ => .non)) (nomark _)) (pb_or1 (pb_tru (po_e (pd_isi2 (T := .bl) (U := .str) (by rfl) T.z_isinstance boot_isinstance (by rfl) T.z_bool boot_bool (by rfl) T.z_str boot_str (po_s 1))))))) (ss_one (sd_ret (pd_andv (pd_cmp (op_eqA (hu64 hr)) P2.eq (po_s 0) (po_s 1) (nomark _)) (pd_andv (pd_cmp (op_eqA (hu64 hr)) P2.eq (po_e (pd_isi (T := .bl) (by rfl) T.z_isinstance boot_isinstance (by rfl) T.z_bool boot_bool (po_s 0))) (po_e (pd_isi (T := .bl) (by rfl) T.z_isinstance boot_isinstance (by rfl) T.z_bool boot_bool (po_s 1))) (nomark _)) (pd_one (pd_cmp (op_eqA (hu64 hr)) P2.eq (po_e (pd_cmp op_isN P2.isN (po_s 0) (po_e (pd_lit pe_non fun _ => .non)) (nomark _))) (po_e (pd_cmp op_isN P2.isN (po_s 1) (po_e (pd_lit pe_non fun _ => .non)) (nomark _))) (nomark _))))))) ss_nil)
    (ss_one (sd_ret (pd_andv (pd_isi (T := .int) (by rfl) T.z_isinstance boot_isinstance (by rfl) T.z_int boot_int (po_s 0)) (pd_andv (pd_not (po_e (pd_isi (T := .bl) (by rfl) T.z_isinstance boot_isinstance (by rfl) T.z_bool boot_bool (po_s 0)))) (pd_one (pd_cmp (op_eqA (hu64 hr)) P2.eq (po_s 0) (po_s 1) (nomark _)))))))))
theorem sc__law_over : FnScope ["own", "low_so", "much"] ["own", "low_so"] (defScope s__law_over) := C8.fnScope_by (by decide +kernel)
theorem ok__law_over (T : Tx K mg fa fd) : FnOk P w K mg base (L2.CX P w) 1 (fa 6) (fd 6) ["own", "low_so"] (spD cs K 2 (fn__law_over)) := by
  refine fn_ok T.F__law_over sc__law_over rfl (by decide) fun cdv A outer s H E hr => ?_
  have ND : (["own", "low_so", "much"] : List Str).Nodup := sc__law_over.nd
  exact (ss_one (sd_ret (pd_b1 (cr_sum rfl) C1.sum (by rfl) T.z_sum boot_sum (po_e (pd_comp rfl ND (pit_A (pd_s 0)) (own := [("much", 2)]) (blkOk_by (by show blkC ["own", "low_so", "much"] (defScope s__law_over) _ _ = true; decide +kernel)) (fun _ _ _ _ _ => (gd_nm 2 ND rfl (by first | exact .inl rfl | exact .inr rfl))) (fun _ _ _ _ _ => ptd_nil) (fun _ _ _ _ _ => (pd_lenRange (by rfl) T.z_len (by rfl) T.z_range (po_s 1) (po_s 2))))))))
theorem sc__law_tells : FnScope ["one_so", "two_so", "k"] ["one_so", "two_so"] (defScope s__law_tells) := C8.fnScope_by (by decide +kernel)
theorem ok__law_tells (T : Tx K mg fa fd) : FnOk P w K mg base (L2.CX P w) 2 (fa 7) (fd 7) ["one_so", "two_so"] (spD cs K 2 (fn__law_tells)) := by
  refine fn_ok T.F__law_tells sc__law_tells rfl (by decide) fun cdv A outer s H E hr => ?_
  have ND : (["one_so", "two_so", "k"] : List Str).Nodup := sc__law_tells.nd
  exact (ss_cons (sd_for (passes_of rfl) rfl (pit_1 (by rfl) T.z_range (pl_cons (pd_lit pe_int fun _ => .int _) pl_nil)) (gd_nm 2 ND rfl (by first | exact .inl rfl | exact .inr rfl)) (ss_one (sd_if (pb_cmp op_gt P2.gt (po_e (pd_call (ok__law_over T) (hr.mono (by decide)) (by rfl) T.g__law_over T.F__law_over.kp T.b__law_over (takes_of rfl rfl rfl rfl) (pr_cons (po_e (pd_s 0)) (pr_cons (po_e (pd_s 2)) pr_nil)))) (po_e (pd_call (ok__law_over T) (hr.mono (by decide)) (by rfl) T.g__law_over T.F__law_over.kp T.b__law_over (takes_of rfl rfl rfl rfl) (pr_cons (po_e (pd_s 1)) (pr_cons (po_e (pd_s 2)) pr_nil)))) (nomark _)) (ss_one (sd_ret (pd_move 2))) ss_nil)))
    (ss_one (sd_ret (pd_lit pe_non fun _ => .non))))
theorem sc__law_asked : FnScope ["one_so", "two_so", "goal", "got", "soft", "k"] ["one_so", "two_so"] (defScope s__law_asked) := C8.fnScope_by (by decide +kernel)
theorem ok__law_asked (T : Tx K mg fa fd) : FnOk P w K mg base (L2.CX P w) 42 (fa 8) (fd 8) ["one_so", "two_so"] (spD cs K 2 (fn__law_asked)) := by
  refine fn_ok T.F__law_asked sc__law_asked rfl (by decide) fun cdv A outer s H E hr => ?_
  have ND : (["one_so", "two_so", "goal", "got", "soft", "k"] : List Str).Nodup := sc__law_asked.nd
  exact (ss_cons (sd_asg 2 ND rfl (by first | exact .inl rfl | exact .inr rfl) (pd_lst (pl_cons (pd_comp rfl ND (pit_1 (by rfl) T.z_range (pl_cons (pd_lit pe_int fun _ => .int _) pl_nil)) (own := [("k", 5)]) (blkOk_by (by show blkC ["one_so", "two_so", "goal", "got", "soft", "k"] (defScope s__law_asked) _ _ = true; decide +kernel)) (fun _ _ _ _ _ => (gd_nm 5 ND rfl (by first | exact .inl rfl | exact .inr rfl))) (fun _ _ _ _ _ => ptd_nil) (fun _ _ _ _ _ => (pd_call (ok__law_over T) (hr.mono (by decide)) (by rfl) T.g__law_over T.F__law_over.kp T.b__law_over takes0 (pr_cons (po_e (pd_s 0)) (pr_cons (po_e (pd_s 5)) pr_nil))))) (pl_cons (pd_call (ok__law_tells T) (hr.mono (by decide)) (by rfl) T.g__law_tells T.F__law_tells.kp T.b__law_tells (takes_of rfl rfl rfl rfl) (pr_cons (po_e (pd_s 0)) (pr_cons (po_e (pd_s 1)) pr_nil))) (pl_cons (pd_call (ok__law_tells T) (hr.mono (by decide)) (by rfl) T.g__law_tells T.F__law_tells.kp T.b__law_tells (takes_of rfl rfl rfl rfl) (pr_cons (po_e (pd_s 1)) (pr_cons (po_e (pd_s 0)) pr_nil))) pl_nil)))))
    (ss_cons (sd_asg 3 ND rfl (by first | exact .inl rfl | exact .inr rfl) (pd_lst (pl_cons (pd_comp rfl ND (pit_1 (by rfl) T.z_range (pl_cons (pd_lit pe_int fun _ => .int _) pl_nil)) (own := [("k", 5)]) (blkOk_by (by show blkC ["one_so", "two_so", "goal", "got", "soft", "k"] (defScope s__law_asked) _ _ = true; decide +kernel)) (fun _ _ _ _ _ => (gd_nm 5 ND rfl (by first | exact .inl rfl | exact .inr rfl))) (fun _ _ _ _ _ => ptd_nil) (fun _ _ _ _ _ => (pd_call (ok_over T) (hr.mono (by decide)) (by rfl) T.g_over T.F_over.kp T.b_over takes0 (pr_cons (po_e (pd_s 0)) (pr_cons (po_e (pd_s 5)) pr_nil))))) (pl_cons (pd_call (ok_telling_level T) (hr.mono (by decide)) (by rfl) T.g_telling_level T.F_telling_level.kp T.b_telling_level (takes_of rfl rfl rfl rfl) (pr_cons (po_e (pd_s 0)) (pr_cons (po_e (pd_s 1)) pr_nil))) (pl_cons (pd_call (ok_telling_level T) (hr.mono (by decide)) (by rfl) T.g_telling_level T.F_telling_level.kp T.b_telling_level (takes_of rfl rfl rfl rfl) (pr_cons (po_e (pd_s 1)) (pr_cons (po_e (pd_s 0)) pr_nil))) pl_nil)))))
    (ss_cons (sd_asg 4 ND rfl (by first | exact .inl rfl | exact .inr rfl) (pd_lst (pl_cons (pd_comp rfl ND (pit_1 (by rfl) T.z_range (pl_cons (pd_lit pe_int fun _ => .int _) pl_nil)) (own := [("k", 5)]) (blkOk_by (by show blkC ["one_so", "two_so", "goal", "got", "soft", "k"] (defScope s__law_asked) _ _ = true; decide +kernel)) (fun _ _ _ _ _ => (gd_nm 5 ND rfl (by first | exact .inl rfl | exact .inr rfl))) (fun _ _ _ _ _ => ptd_nil) (fun _ _ _ _ _ => (pd_call (ok_over T) (hr.mono (by decide)) (by rfl) T.g_over T.F_over.kp T.b_over takes0 (pr_cons (po_e (pd_t1 call_list_of C1.list (by rfl) T.z_list boot_list (po_s 0))) (pr_cons (po_e (pd_s 5)) pr_nil))))) (pl_cons (pd_call (ok_telling_level T) (hr.mono (by decide)) (by rfl) T.g_telling_level T.F_telling_level.kp T.b_telling_level (takes_of rfl rfl rfl rfl) (pr_cons (po_e (pd_t1 call_list_of C1.list (by rfl) T.z_list boot_list (po_s 0))) (pr_cons (po_e (pd_s 1)) pr_nil))) pl_nil))))
    (ss_one (sd_ret (pd_call (ok__law_same T 40) (hr.mono (by decide)) (by rfl) T.g__law_same T.F__law_same.kp T.b__law_same (takes_of rfl rfl rfl rfl) (pr_cons (po_e (pd_op op_addA P2.add (po_e (pd_op op_addA P2.add (po_s 3) (po_s 4))) (po_e (pd_lst (pl_cons (pd_call (ok_telling_level T) (hr.mono (by decide)) (by rfl) T.g_telling_level T.F_telling_level.kp T.b_telling_level (takes_of rfl rfl rfl rfl) (pr_cons (po_e (pd_s 1)) (pr_cons (po_e (pd_t1 call_list_of C1.list (by rfl) T.z_list boot_list (po_s 0))) pr_nil))) pl_nil))))) (pr_cons (po_e (pd_op op_addA P2.add (po_s 2) (po_s 2))) pr_nil))))))))
theorem sc__law_by_hand_right : FnScope ["rows", "got", "goal", "far", "own"] [] (defScope s__law_by_hand_right) := C8.fnScope_by (by decide +kernel)
theorem ok__law_by_hand_right (T : Tx K mg fa fd) : FnOk P w K mg base (L2.CX P w) 42 (fa 9) (fd 9) [] (spD cs K 0 (fn__law_by_hand_right)) := by
  refine fn_ok T.F__law_by_hand_right sc__law_by_hand_right rfl (by decide) fun cdv A outer s H E hr => ?_
  have ND : (["rows", "got", "goal", "far", "own"] : List Str).Nodup := sc__law_by_hand_right.nd
  exact (ss_cons (sd_asg 0 ND rfl (by first | exact .inl rfl | exact .inr rfl) (pd_lst (pl_cons (pd_tup (pl_cons (pd_tup (pl_cons (pd_lit pe_int fun _ => .int _) (pl_cons (pd_lit pe_int fun _ => .int _) (pl_cons (pd_lit pe_int fun _ => .int _) pl_nil)))) (pl_cons (pd_tup (pl_cons (pd_lit pe_int fun _ => .int _) (pl_cons (pd_lit pe_int fun _ => .int _) (pl_cons (pd_lit pe_int fun _ => .int _) pl_nil)))) pl_nil))) (pl_cons (pd_tup (pl_cons (pd_tup (pl_cons (pd_lit pe_int fun _ => .int _) (pl_cons (pd_lit pe_int fun _ => .int _) (pl_cons (pd_lit pe_int fun _ => .int _) pl_nil)))) (pl_cons (pd_tup (pl_cons (pd_lit pe_int fun _ => .int _) (pl_cons (pd_lit pe_int fun _ => .int _) (pl_cons (pd_lit pe_int fun _ => .int _) pl_nil)))) pl_nil))) (pl_cons (pd_tup (pl_cons (pd_tup (pl_cons (pd_lit pe_int fun _ => .int _) (pl_cons (pd_lit pe_int fun _ => .int _) (pl_cons (pd_lit pe_int fun _ => .int _) pl_nil)))) (pl_cons (pd_tup (pl_cons (pd_lit pe_int fun _ => .int _) (pl_cons (pd_lit pe_int fun _ => .int _) (pl_cons (pd_lit pe_int fun _ => .int _) pl_nil)))) pl_nil))) (pl_cons (pd_tup (pl_cons (pd_tup pl_nil) (pl_cons (pd_tup pl_nil) pl_nil))) (pl_cons (pd_tup (pl_cons (pd_tup (pl_cons (pd_lit pe_int fun _ => .int _) pl_nil)) (pl_cons (pd_tup (pl_cons (pd_lit pe_int fun _ => .int _) pl_nil)) pl_nil))) pl_nil)))))))
    (ss_cons (sd_asg 0 ND rfl (by first | exact .inl rfl | exact .inr rfl) (pd_op op_addA P2.add (po_s 0) (po_e (pd_lst (pl_cons (pd_tup (pl_cons (pd_tup (pl_cons (pd_lit pe_int fun _ => .int _) (pl_cons (pd_lit pe_int fun _ => .int _) pl_nil))) (pl_cons (pd_tup (pl_cons (pd_lit pe_int fun _ => .int _) (pl_cons (pd_lit pe_int fun _ => .int _) pl_nil))) pl_nil))) (pl_cons (pd_tup (pl_cons (pd_tup (pl_cons (pd_lit pe_int fun _ => .int _) (pl_cons (pd_lit pe_int fun _ => .int _) pl_nil))) (pl_cons (pd_tup (pl_cons (pd_lit pe_int fun _ => .int _) (pl_cons (pd_lit pe_int fun _ => .int _) pl_nil))) pl_nil))) pl_nil))))))
    (ss_cons (sd_asg 0 ND rfl (by first | exact .inl rfl | exact .inr rfl) (pd_op op_addA P2.add (po_s 0) (po_e (pd_lst (pl_cons (pd_tup (pl_cons (pd_tup (pl_cons (pd_lit pe_int fun _ => .int _) (pl_cons (pd_lit pe_int fun _ => .int _) (pl_cons (pd_lit pe_int fun _ => .int _) pl_nil)))) (pl_cons (pd_tup (pl_cons (pd_lit pe_int fun _ => .int _) (pl_cons (pd_lit pe_int fun _ => .int _) (pl_cons (pd_lit pe_int fun _ => .int _) pl_nil)))) pl_nil))) (pl_cons (pd_tup (pl_cons (pd_tup (pl_cons (pd_lit pe_int fun _ => .int _) (pl_cons (pd_lit pe_int fun _ => .int _) (pl_cons (pd_lit pe_int fun _ => .int _) pl_nil)))) (pl_cons (pd_tup (pl_cons (pd_lit pe_int fun _ => .int _) (pl_cons (pd_lit pe_int fun _ => .int _) (pl_cons (pd_lit pe_int fun _ => .int _) pl_nil)))) pl_nil))) (pl_cons (pd_tup (pl_cons (pd_tup (pl_cons (pd_lit pe_int fun _ => .int _) (pl_cons (pd_lit pe_int fun _ => .int _) (pl_cons (pd_lit pe_int fun _ => .int _) pl_nil)))) (pl_cons (pd_tup (pl_cons (pd_lit pe_int fun _ => .int _) (pl_cons (pd_lit pe_int fun _ => .int _) (pl_cons (pd_lit pe_int fun _ => .int _) pl_nil)))) pl_nil))) pl_nil)))))))
    (ss_cons (sd_asg 0 ND rfl (by first | exact .inl rfl | exact .inr rfl) (pd_op op_addA P2.add (po_s 0) (po_e (pd_lst (pl_cons (pd_tup (pl_cons (pd_tup (pl_cons (pd_lit pe_int fun _ => .int _) (pl_cons (pd_lit pe_int fun _ => .int _) (pl_cons (pd_lit pe_int fun _ => .int _) (pl_cons (pd_lit pe_int fun _ => .int _) pl_nil))))) (pl_cons (pd_tup (pl_cons (pd_lit pe_int fun _ => .int _) (pl_cons (pd_lit pe_int fun _ => .int _) (pl_cons (pd_lit pe_int fun _ => .int _) (pl_cons (pd_lit pe_int fun _ => .int _) pl_nil))))) pl_nil))) (pl_cons (pd_tup (pl_cons (pd_tup (pl_cons (pd_lit pe_int fun _ => .int _) (pl_cons (pd_lit pe_int fun _ => .int _) (pl_cons (pd_lit pe_int fun _ => .int _) (pl_cons (pd_lit pe_int fun _ => .int _) pl_nil))))) (pl_cons (pd_tup (pl_cons (pd_lit pe_int fun _ => .int _) (pl_cons (pd_lit pe_int fun _ => .int _) (pl_cons (pd_lit pe_int fun _ => .int _) (pl_cons (pd_lit pe_int fun _ => .int _) pl_nil))))) pl_nil))) pl_nil))))))
    (ss_cons (by first | exact sd_asgC 1 rfl ND rfl rfl rfl (pit_A (pd_s 0)) (own := [("own", 4)]) (blkOk_by (by show blkC ["rows", "got", "goal", "far", "own"] (defScope s__law_by_hand_right) _ _ = true; decide +kernel)) (fun _ _ _ _ _ => (gd_nm 4 ND rfl (by first | exact .inl rfl | exact .inr rfl))) (fun _ _ _ _ _ => ptd_nil) (fun _ _ _ _ _ => (pd_call (ok_telling_level T) (hr.mono (by decide)) (by rfl) T.g_telling_level T.F_telling_level.kp T.b_telling_level takes0 (pr_cons (po_e (pd_ix (po_s 4) (po_e (pd_lit pe_int fun _ => .int _)))) (pr_cons (po_e (pd_ix (po_s 4) (po_e (pd_lit pe_int fun _ => .int _)))) pr_nil)))) | exact sd_asg 1 ND rfl (by first | exact .inl rfl | exact .inr rfl) (pd_comp rfl ND (pit_A (pd_s 0)) (own := [("own", 4)]) (blkOk_by (by show blkC ["rows", "got", "goal", "far", "own"] (defScope s__law_by_hand_right) _ _ = true; decide +kernel)) (fun _ _ _ _ _ => (gd_nm 4 ND rfl (by first | exact .inl rfl | exact .inr rfl))) (fun _ _ _ _ _ => ptd_nil) (fun _ _ _ _ _ => (pd_call (ok_telling_level T) (hr.mono (by decide)) (by rfl) T.g_telling_level T.F_telling_level.kp T.b_telling_level takes0 (pr_cons (po_e (pd_ix (po_s 4) (po_e (pd_lit pe_int fun _ => .int _)))) (pr_cons (po_e (pd_ix (po_s 4) (po_e (pd_lit pe_int fun _ => .int _)))) pr_nil))))))
    (ss_cons (sd_asg 2 ND rfl (by first | exact .inl rfl | exact .inr rfl) (pd_lst (pl_cons (pd_lit pe_int fun _ => .int _) (pl_cons (pd_lit pe_non fun _ => .non) (pl_cons (pd_lit pe_non fun _ => .non) (pl_cons (pd_lit pe_non fun _ => .non) (pl_cons (pd_lit pe_non fun _ => .non) (pl_cons (pd_lit pe_int fun _ => .int _) (pl_cons (pd_lit pe_non fun _ => .non) (pl_cons (pd_lit pe_int fun _ => .int _) (pl_cons (pd_lit pe_int fun _ => .int _) (pl_cons (pd_lit pe_int fun _ => .int _) (pl_cons (pd_lit pe_int fun _ => .int _) (pl_cons (pd_lit pe_int fun _ => .int _) pl_nil))))))))))))))
    (ss_cons (sd_asg 3 ND rfl (by first | exact .inl rfl | exact .inr rfl) (pd_op op_pow P2.pow (po_e (pd_lit pe_int fun _ => .int _)) (po_e (pd_lit pe_int fun _ => .int _))))
    (ss_cons (sd_asg 1 ND rfl (by first | exact .inl rfl | exact .inr rfl) (pd_op op_addA P2.add (po_s 1) (po_e (pd_lst (pl_cons (pd_call (ok_telling_level T) (hr.mono (by decide)) (by rfl) T.g_telling_level T.F_telling_level.kp T.b_telling_level (takes_of rfl rfl rfl rfl) (pr_cons (po_e (pd_tup (pl_cons (pd_s 3) (pl_cons (pd_lit pe_int fun _ => .int _) pl_nil)))) (pr_cons (po_e (pd_tup (pl_cons (pd_op op_fdivW P2.div (po_s 3) (po_e (pd_lit pe_int fun _ => .int _))) (pl_cons (pd_op op_fdivW P2.div (po_s 3) (po_e (pd_lit pe_int fun _ => .int _))) pl_nil)))) pr_nil))) (pl_cons (pd_call (ok_telling_level T) (hr.mono (by decide)) (by rfl) T.g_telling_level T.F_telling_level.kp T.b_telling_level (takes_of rfl rfl rfl rfl) (pr_cons (po_e (pd_tup (pl_cons (pd_op op_sub P2.sub (po_s 3) (po_e (pd_lit pe_int fun _ => .int _))) (pl_cons (pd_lit pe_int fun _ => .int _) pl_nil)))) (pr_cons (po_e (pd_tup (pl_cons (pd_s 3) (pl_cons (pd_lit pe_int fun _ => .int _) pl_nil)))) pr_nil))) pl_nil))))))
    (ss_cons (sd_asg 1 ND rfl (by first | exact .inl rfl | exact .inr rfl) (pd_op op_addA P2.add (po_s 1) (po_e (pd_lst (pl_cons (pd_call (ok_telling_level T) (hr.mono (by decide)) (by rfl) T.g_telling_level T.F_telling_level.kp T.b_telling_level (takes_of rfl rfl rfl rfl) (pr_cons (po_e (pd_tup (pl_cons (pd_s 3) (pl_cons (pd_lit pe_int fun _ => .int _) pl_nil)))) (pr_cons (po_e (pd_tup (pl_cons (pd_op op_sub P2.sub (po_s 3) (po_e (pd_lit pe_int fun _ => .int _))) (pl_cons (pd_lit pe_int fun _ => .int _) pl_nil)))) pr_nil))) pl_nil)))))
    (ss_cons (sd_asg 2 ND rfl (by first | exact .inl rfl | exact .inr rfl) (pd_op op_addA P2.add (po_s 2) (po_e (pd_lst (pl_cons (pd_lit pe_int fun _ => .int _) (pl_cons (pd_lit pe_non fun _ => .non) (pl_cons (pd_lit pe_int fun _ => .int _) pl_nil)))))))
    (ss_cons (sd_asg 1 ND rfl (by first | exact .inl rfl | exact .inr rfl) (pd_op op_addA P2.add (po_s 1) (po_e (pd_lst (pl_cons (pd_call (ok_telling_level T) (hr.mono (by decide)) (by rfl) T.g_telling_level T.F_telling_level.kp T.b_telling_level (takes_of rfl rfl rfl rfl) (pr_cons (po_e (pd_tup (pl_cons (pd_op op_sub P2.sub (po_s 3) (po_e (pd_lit pe_int fun _ => .int _))) (pl_cons (pd_op op_sub P2.sub (po_s 3) (po_e (pd_lit pe_int fun _ => .int _))) (pl_cons (pd_lit pe_int fun _ => .int _) (pl_cons (pd_lit pe_int fun _ => .int _) pl_nil)))))) (pr_cons (po_e (pd_tup (pl_cons (pd_s 3) (pl_cons (pd_op op_sub P2.sub (po_s 3) (po_e (pd_lit pe_int fun _ => .int _))) (pl_cons (pd_lit pe_int fun _ => .int _) (pl_cons (pd_lit pe_int fun _ => .int _) pl_nil)))))) pr_nil))) pl_nil)))))
    (ss_cons (sd_asg 1 ND rfl (by first | exact .inl rfl | exact .inr rfl) (pd_op op_addA P2.add (po_s 1) (po_e (pd_lst (pl_cons (pd_call (ok_telling_level T) (hr.mono (by decide)) (by rfl) T.g_telling_level T.F_telling_level.kp T.b_telling_level (takes_of rfl rfl rfl rfl) (pr_cons (po_e (pd_tup (pl_cons (pd_s 3) (pl_cons (pd_op op_sub P2.sub (po_s 3) (po_e (pd_lit pe_int fun _ => .int _))) (pl_cons (pd_lit pe_int fun _ => .int _) (pl_cons (pd_lit pe_int fun _ => .int _) pl_nil)))))) (pr_cons (po_e (pd_tup (pl_cons (pd_op op_sub P2.sub (po_s 3) (po_e (pd_lit pe_int fun _ => .int _))) (pl_cons (pd_op op_sub P2.sub (po_s 3) (po_e (pd_lit pe_int fun _ => .int _))) (pl_cons (pd_lit pe_int fun _ => .int _) (pl_cons (pd_lit pe_int fun _ => .int _) pl_nil)))))) pr_nil))) pl_nil)))))
    (ss_cons (sd_asg 2 ND rfl (by first | exact .inl rfl | exact .inr rfl) (pd_op op_addA P2.add (po_s 2) (po_e (pd_lst (pl_cons (pd_lit pe_int fun _ => .int _) (pl_cons (pd_op op_sub P2.sub (po_s 3) (po_e (pd_lit pe_int fun _ => .int _))) pl_nil))))))
    (ss_cons (sd_asg 1 ND rfl (by first | exact .inl rfl | exact .inr rfl) (pd_op op_addA P2.add (po_s 1) (po_e (pd_lst (pl_cons (pd_call (ok_over T) (hr.mono (by decide)) (by rfl) T.g_over T.F_over.kp T.b_over (takes_of rfl rfl rfl rfl) (pr_cons (po_e (pd_tup (pl_cons (pd_lit pe_int fun _ => .int _) (pl_cons (pd_lit pe_int fun _ => .int _) (pl_cons (pd_lit pe_int fun _ => .int _) pl_nil))))) (pr_cons (po_e (pd_lit pe_int fun _ => .int _)) pr_nil))) (pl_cons (pd_call (ok_over T) (hr.mono (by decide)) (by rfl) T.g_over T.F_over.kp T.b_over (takes_of rfl rfl rfl rfl) (pr_cons (po_e (pd_tup pl_nil)) (pr_cons (po_e (pd_lit pe_int fun _ => .int _)) pr_nil))) (pl_cons (pd_call (ok_over T) (hr.mono (by decide)) (by rfl) T.g_over T.F_over.kp T.b_over (takes_of rfl rfl rfl rfl) (pr_cons (po_e (pd_tup (pl_cons (pd_s 3) (pl_cons (pd_lit pe_int fun _ => .int _) pl_nil)))) (pr_cons (po_e (pd_lit pe_int fun _ => .int _)) pr_nil))) (pl_cons (pd_call (ok_over T) (hr.mono (by decide)) (by rfl) T.g_over T.F_over.kp T.b_over (takes_of rfl rfl rfl rfl) (pr_cons (po_e (pd_tup (pl_cons (pd_s 3) (pl_cons (pd_lit pe_int fun _ => .int _) pl_nil)))) (pr_cons (po_e (pd_s 3)) pr_nil))) pl_nil))))))))
    (ss_cons (sd_asg 1 ND rfl (by first | exact .inl rfl | exact .inr rfl) (pd_op op_addA P2.add (po_s 1) (po_e (pd_lst (pl_cons (pd_callk0 (ks := ["level", "one"]) (ok_over T) (hr.mono (by decide)) (by rfl) T.g_over T.F_over.kp T.kw_over_0_level_one (takes_of rfl rfl rfl rfl) (kr_cons (po_e (pd_lit pe_int fun _ => .int _)) (kr_cons (po_e (pd_lst (pl_cons (pd_lit pe_int fun _ => .int _) (pl_cons (pd_lit pe_int fun _ => .int _) pl_nil)))) kr_nil))) (pl_cons (pd_callk0 (ks := ["other", "one"]) (ok_telling_level T) (hr.mono (by decide)) (by rfl) T.g_telling_level T.F_telling_level.kp T.kw_telling_level_0_other_one (takes_of rfl rfl rfl rfl) (kr_cons (po_e (pd_lst (pl_cons (pd_lit pe_int fun _ => .int _) (pl_cons (pd_lit pe_int fun _ => .int _) pl_nil)))) (kr_cons (po_e (pd_lst (pl_cons (pd_lit pe_int fun _ => .int _) (pl_cons (pd_lit pe_int fun _ => .int _) pl_nil)))) kr_nil))) pl_nil))))))
    (ss_one (sd_ret (pd_call (ok__law_same T 40) (hr.mono (by decide)) (by rfl) T.g__law_same T.F__law_same.kp T.b__law_same (takes_of rfl rfl rfl rfl) (pr_cons (po_e (pd_s 1)) (pr_cons (po_e (pd_op op_addA P2.add (po_s 2) (po_e (pd_lst (pl_cons (pd_lit pe_int fun _ => .int _) (pl_cons (pd_lit pe_int fun _ => .int _) (pl_cons (pd_op op_addA P2.add (po_s 3) (po_e (pd_lit pe_int fun _ => .int _))) (pl_cons (pd_lit pe_int fun _ => .int _) (pl_cons (pd_lit pe_int fun _ => .int _) (pl_cons (pd_lit pe_int fun _ => .int _) pl_nil)))))))))) pr_nil))))))))))))))))))))
theorem sc__law_right : FnScope ["urn", "lap_so", "one_so", "two_so", "lap", "near", "far", "much", "k"] ["urn"] (defScope s__law_right) := C8.fnScope_by (by decide +kernel)
theorem ok__law_right (T : Tx K mg fa fd) : FnOk P w K mg base (L2.CX P w) 43 (fa 10) (fd 10) ["urn"] (spD cs K 1 (fn__law_right)) := by
  refine fn_ok T.F__law_right sc__law_right rfl (by decide) fun cdv A outer s H E hr => ?_
  have ND : (["urn", "lap_so", "one_so", "two_so", "lap", "near", "far", "much", "k"] : List Str).Nodup := sc__law_right.nd
  exact (ss_cons (sd_for (passes_of rfl) rfl (pit_1 (by rfl) T.z_range (pl_cons (pd_lit pe_int fun _ => .int _) pl_nil)) (gd_nm 1 ND rfl (by first | exact .inl rfl | exact .inr rfl)) (ss_cons (by first | exact sd_asgC 2 rfl ND rfl rfl rfl (pit_1 (by rfl) T.z_range (pl_cons (pd_op op_addA P2.add (po_e (pd_lit pe_int fun _ => .int _)) (po_e (pd_call (ok__law_take T) (hr.mono (by decide)) (by rfl) T.g__law_take T.F__law_take.kp T.b__law_take (takes_of rfl rfl rfl rfl) (pr_cons (po_s 0) (pr_cons (po_e (pd_lit pe_int fun _ => .int _)) pr_nil))))) pl_nil)) (own := [("k", 8)]) (blkOk_by (by show blkC ["urn", "lap_so", "one_so", "two_so", "lap", "near", "far", "much", "k"] (defScope s__law_right) _ _ = true; decide +kernel)) (fun _ _ _ _ _ => (gd_nm 8 ND rfl (by first | exact .inl rfl | exact .inr rfl))) (fun _ _ _ _ _ => ptd_nil) (fun _ _ _ _ _ => (pd_call (ok__law_take T) (hr.mono (by decide)) (by rfl) T.g__law_take T.F__law_take.kp T.b__law_take takes0 (pr_cons (po_s 0) (pr_cons (po_e (pd_lit pe_int fun _ => .int _)) pr_nil)))) | exact sd_asg 2 ND rfl (by first | exact .inl rfl | exact .inr rfl) (pd_comp rfl ND (pit_1 (by rfl) T.z_range (pl_cons (pd_op op_addA P2.add (po_e (pd_lit pe_int fun _ => .int _)) (po_e (pd_call (ok__law_take T) (hr.mono (by decide)) (by rfl) T.g__law_take T.F__law_take.kp T.b__law_take (takes_of rfl rfl rfl rfl) (pr_cons (po_s 0) (pr_cons (po_e (pd_lit pe_int fun _ => .int _)) pr_nil))))) pl_nil)) (own := [("k", 8)]) (blkOk_by (by show blkC ["urn", "lap_so", "one_so", "two_so", "lap", "near", "far", "much", "k"] (defScope s__law_right) _ _ = true; decide +kernel)) (fun _ _ _ _ _ => (gd_nm 8 ND rfl (by first | exact .inl rfl | exact .inr rfl))) (fun _ _ _ _ _ => ptd_nil) (fun _ _ _ _ _ => (pd_call (ok__law_take T) (hr.mono (by decide)) (by rfl) T.g__law_take T.F__law_take.kp T.b__law_take takes0 (pr_cons (po_s 0) (pr_cons (po_e (pd_lit pe_int fun _ => .int _)) pr_nil))))))
    (ss_cons (sd_asg 3 ND rfl (by first | exact .inl rfl | exact .inr rfl) (pd_t1 call_list_of C1.list (by rfl) T.z_list boot_list (po_s 2)))
    (ss_cons (sd_for (passes_of rfl) rfl (pit_1 (by rfl) T.z_range (pl_cons (pd_call (ok__law_take T) (hr.mono (by decide)) (by rfl) T.g__law_take T.F__law_take.kp T.b__law_take (takes_of rfl rfl rfl rfl) (pr_cons (po_s 0) (pr_cons (po_e (pd_lit pe_int fun _ => .int _)) pr_nil))) pl_nil)) (gd_nm 4 ND rfl (by first | exact .inl rfl | exact .inr rfl)) (ss_cons (sd_par2 5 6 rfl ND rfl rfl (by decide) rfl rfl (pd_call (ok__law_take T) (hr.mono (by decide)) (by rfl) T.g__law_take T.F__law_take.kp T.b__law_take (takes_of rfl rfl rfl rfl) (pr_cons (po_s 0) (pr_cons (po_e (pd_b1 call_len C1.len (by rfl) T.z_len boot_len (po_s 3))) pr_nil))) (pd_call (ok__law_take T) (hr.mono (by decide)) (by rfl) T.g__law_take T.F__law_take.kp T.b__law_take (takes_of rfl rfl rfl rfl) (pr_cons (po_s 0) (pr_cons (po_e (pd_b1 call_len C1.len (by rfl) T.z_len boot_len (po_s 3))) pr_nil))) rfl)
    (ss_cons (sd_asg 7 ND rfl (by first | exact .inl rfl | exact .inr rfl) (pd_call (ok__law_take T) (hr.mono (by decide)) (by rfl) T.g__law_take T.F__law_take.kp T.b__law_take (takes_of rfl rfl rfl rfl) (pr_cons (po_s 0) (pr_cons (po_e (pd_op op_addA P2.add (po_e (pd_ix (po_s 3) (po_s 5))) (po_e (pd_lit pe_int fun _ => .int _)))) pr_nil))))
    (ss_cons (sd_setIx 3 (pd_op op_sub P2.sub (po_e (pd_ix (po_s 3) (po_s 5))) (po_s 7)) (pd_s 5))
    (ss_one (sd_setIx 3 (pd_op op_addA P2.add (po_e (pd_ix (po_s 3) (po_s 6))) (po_s 7)) (pd_s 6)))))))
    (ss_one (sd_if (pb_not (pb_tru (po_e (pd_call (ok__law_asked T) (hr.mono (by decide)) (by rfl) T.g__law_asked T.F__law_asked.kp T.b__law_asked (takes_of rfl rfl rfl rfl) (pr_cons (po_e (pd_t1 call_tuple_of C1.tuple (by rfl) T.z_tuple boot_tuple (po_s 2))) (pr_cons (po_e (pd_t1 call_tuple_of C1.tuple (by rfl) T.z_tuple boot_tuple (po_s 3))) pr_nil)))))) (ss_one (sd_ret (pd_lit pe_bl fun _ => .bl _))) ss_nil))))))
    (ss_one (sd_ret (pd_lit pe_bl fun _ => .bl _))))
theorem sc_law : FnScope ["script", "rows", "k"] ["script"] (defScope s_law) := C8.fnScope_by (by decide +kernel)
theorem ok_law (T : Tx K mg fa fd) : FnOk P w K mg base (L2.CX P w) 44 (fa 11) (fd 11) ["script"] (spD cs K 1 (fn_law)) := by
  refine fn_ok T.F_law sc_law rfl (by decide) fun cdv A outer s H E hr => ?_
  have ND : (["script", "rows", "k"] : List Str).Nodup := sc_law.nd
  exact (ss_cons (sd_asg 1 ND rfl (by first | exact .inl rfl | exact .inr rfl) (pd_call (ok__law_cells T) (hr.mono (by decide)) (by rfl) T.g__law_cells T.F__law_cells.kp T.b__law_cells (takes_of rfl rfl rfl rfl) (pr_cons (po_e (pd_s 0)) (pr_cons (po_e (pd_lit pe_int fun _ => .int _)) pr_nil))))
    (ss_one (sd_ret (pd_andv (pd_callk0 (ks := []) (ok__law_by_hand_right T) (hr.mono (by decide)) (by rfl) T.g__law_by_hand_right T.F__law_by_hand_right.kp T.kw__law_by_hand_right_0_0 (takes_of rfl rfl rfl rfl) kr_nil) (pd_one (pd_b1 (cr_all rfl) C1.all (by rfl) T.z_all boot_all (po_e (pd_comp rfl ND (pit_1 (by rfl) T.z_range (pl_cons (pd_b1 call_len C1.len (by rfl) T.z_len boot_len (po_s 1)) pl_nil)) (own := [("k", 2)]) (blkOk_by (by show blkC ["script", "rows", "k"] (defScope s_law) _ _ = true; decide +kernel)) (fun _ _ _ _ _ => (gd_nm 2 ND rfl (by first | exact .inl rfl | exact .inr rfl))) (fun _ _ _ _ _ => ptd_nil) (fun _ _ _ _ _ => (pd_callT (ok__law_right T) (hr.mono (by decide)) (by rfl) T.g__law_right T.F__law_right.kp T.b__law_right takes0 (pd_call (ok__law_box T) (hr.mono (by decide)) (by rfl) T.g__law_box T.F__law_box.kp T.b__law_box takes0 (pr_cons (po_e (pd_s 1)) (pr_cons (po_e (pd_s 2)) pr_nil)))))))))))))
end
end FRT
end
section
set_option maxRecDepth 100000
set_option maxHeartbeats 4000001
set_option linter.all false
namespace FRT
open PySem L2
theorem box_ok (cells : List Int) (k : Nat) (hk : k < cells.length) (h3 : cells.length ≤ 3) :
    ∃ a b : Int, 0 ≤ a ∧ 0 ≤ b ∧ b < 2 ^ 62 ∧ ∃ as, fn__law_box [.sh (.lst (cells.map D.int)), .sh (.int k)] = .ok (.fr [.int a, .int b, .int 0]) as := by
  have hx : prIx (.lst (cells.map D.int)) (.int (k : Int)) = some (.sh (.int cells[k])) := ix_ok (by simp [hk])
  have h10 : prPow (.int 10) (.int 18) = some (.sh (.int (10 ^ 18))) := by rfl
  have e1 : decide ((k : Int) < (cells.length : Int)) = true := decide_eq_true (by omega)
  have hm : ∀ (i : Int) (b : Bool), prMul (.int i) (.int (if b = true then 1 else 0)) = some (.sh (.int (i * (if b = true then 1 else 0)))) := fun i b => mul_r (by cases b <;> decide)
  have hk2 : prMul (.int 39373) (.int (k : Int)) = some (.sh (.int (39373 * k))) := mul_r (by omega)
  have md : ∀ i : Int, prMod (.int i) (.int 2305843009213693951) = some (.sh (.int (i % 2305843009213693951))) := fun i => mod_ok (by decide)
  unfold fn__law_box b__law_box
  simp only [runF, sseq, sIf, sAsg, sRet, sSetIx, sExp, sPar2, sTg, snil, mbl, m2, m1, mps, mpe, mlit, mslot, mmove, mif, mand, mor, mnot, mtru, mandv, morv, mnotv, mcons, mnil, mlst, mtup, mpc, mpn, mcalln, callR, mcallT, bind_ok, bind_bad, bind_exc, ofO, Pr.get, Sl.d, Sl.owned, Ro.own, Ro.put, Sl.put, argA, putB, setV, Vd.sl, Vd.d, backA, okArg, e_lenL, e_lenS, e_lenT, e_absI, e_intI, e_intB, e_addI, e_subI, e_ltI, e_leI, e_gtI, e_geI, e_negI, e_truB, e_truN, e_eqI, e_eqS, e_eqB, e_neI, e_neB, e_listL, e_listS, e_listT, List.all_cons, List.all_nil, Bool.and_true, Bool.and_self, List.length_cons, List.length_nil, List.cons_append, List.nil_append, List.replicate, List.set_cons_zero, List.set_cons_succ, List.getElem?_cons_zero, List.getElem?_cons_succ, Option.bind_some, Option.map_some, ite_true, ite_false, Nat.reduceAdd, Nat.reduceSub, Bool.true_eq_false, Bool.false_eq_true, reduceIte, List.length_map, sizeLine_eq, Nat.reduceLeDiff, Nat.zero_add, Nat.zero_le, and_self, and_true, true_and, beq_self_eq_true, Bool.not_true, Bool.not_false, e1, hx, h10, hm, hk2, md]
  refine ⟨_, _, ?_, ?_, ?_, _, rfl⟩
  · split <;> split <;> omega
  · have := Int.emod_nonneg cells[k] (show (2305843009213693951 : Int) ≠ 0 by decide)
    omega
  · have := Int.emod_lt_of_pos cells[k] (show (0 : Int) < 2305843009213693951 by decide)
    omega
theorem take_ok (a b c n : Int) (ha : 0 ≤ a) (hb : 0 ≤ b ∧ b < 2 ^ 62) (hc : 0 ≤ c ∧ c < 100000) (hn : 0 < n ∧ n < 2 ^ 64) :
    ∃ r a' c', 0 ≤ r ∧ r < n ∧ 0 ≤ a' ∧ 0 ≤ c' ∧ c' ≤ c + 1 ∧ fn__law_take [.bor [.int a, .int b, .int c], .sh (.int n)] = .ok (.sh (.int r)) [.bor [.int a', .int b, .int c'], .sh (.int n)] := by
  have x0 : ∀ a b c : Int, prIx (.lst [.int a, .int b, .int c]) (.int 0) = some (.sh (.int a)) := fun a b c => ix_ok (i := 0) rfl
  have x1 : ∀ a b c : Int, prIx (.lst [.int a, .int b, .int c]) (.int 1) = some (.sh (.int b)) := fun a b c => ix_ok (i := 1) rfl
  have x2 : ∀ a b c : Int, prIx (.lst [.int a, .int b, .int c]) (.int 2) = some (.sh (.int c)) := fun a b c => ix_ok (i := 2) rfl
  have y0 : ixN 3 0 = some 0 := rfl
  have y2 : ixN 3 2 = some 2 := rfl
  have mn : ∀ i : Int, prMod (.int i) (.int n) = some (.sh (.int (i % n))) := fun i => mod_ok hn.1
  have dn : ∀ i : Int, prDiv (.int i) (.int n) = some (.sh (.int (i / n))) := fun i => div_ok hn.1 hn.2
  unfold fn__law_take b__law_take
  by_cases h0 : 0 < a
  · simp only [runF, sseq, sIf, sAsg, sRet, sSetIx, sExp, sPar2, sTg, snil, mbl, m2, m1, mps, mpe, mlit, mslot, mmove, mif, mand, mor, mnot, mtru, mandv, morv, mnotv, mcons, mnil, mlst, mtup, mpc, mpn, mcalln, callR, mcallT, bind_ok, bind_bad, bind_exc, ofO, Pr.get, Sl.d, Sl.owned, Ro.own, Ro.put, Sl.put, argA, putB, setV, Vd.sl, Vd.d, backA, okArg, e_lenL, e_lenS, e_lenT, e_absI, e_intI, e_intB, e_addI, e_subI, e_ltI, e_leI, e_gtI, e_geI, e_negI, e_truB, e_truN, e_eqI, e_eqS, e_eqB, e_neI, e_neB, e_listL, e_listS, e_listT, List.all_cons, List.all_nil, Bool.and_true, Bool.and_self, List.length_cons, List.length_nil, List.cons_append, List.nil_append, List.replicate, List.set_cons_zero, List.set_cons_succ, List.getElem?_cons_zero, List.getElem?_cons_succ, Option.bind_some, Option.map_some, ite_true, ite_false, Nat.reduceAdd, Nat.reduceSub, Bool.true_eq_false, Bool.false_eq_true, reduceIte, List.length_map, sizeLine_eq, Nat.reduceLeDiff, Nat.zero_add, Nat.zero_le, and_self, and_true, true_and, beq_self_eq_true, Bool.not_true, Bool.not_false, decide_eq_true h0, x0, mn, dn, y0]
    exact ⟨_, _, c, Int.emod_nonneg _ (by omega), Int.emod_lt_of_pos _ hn.1, Int.ediv_nonneg ha (by omega), hc.1, by omega, rfl⟩
  · have w1 : ∀ i : Int, prMod (.int i) (.int 2147483647) = some (.sh (.int (i % 2147483647))) := fun i => mod_ok (by decide)
    have w2 : ∀ i : Int, prMod (.int i) (.int 40009) = some (.sh (.int (i % 40009))) := fun i => mod_ok (by decide)
    have w3 : ∀ i : Int, prMod (.int i) (.int 2147483629) = some (.sh (.int (i % 2147483629))) := fun i => mod_ok (by decide)
    have w4 : ∀ i : Int, prMod (.int i) (.int 2147483587) = some (.sh (.int (i % 2147483587))) := fun i => mod_ok (by decide)
    have d1 : ∀ i : Int, prDiv (.int i) (.int 1000003) = some (.sh (.int (i / 1000003))) := fun i => div_ok (by decide) (by decide)
    have d2 : ∀ i : Int, prDiv (.int i) (.int 64) = some (.sh (.int (i / 64))) := fun i => div_ok (by decide) (by decide)
    have p1 : ∀ i : Int, prMul (.int 48271) (.int i) = some (.sh (.int (48271 * i))) := fun i => mul_l (by decide)
    have p2 : ∀ i : Int, prMul (.int i) (.int 48271) = some (.sh (.int (i * 48271))) := fun i => mul_r (by decide)
    have p3 : ∀ i : Int, prMul (.int i) (.int (39373 + (c + 1))) = some (.sh (.int (i * (39373 + (c + 1))))) := fun i => mul_r (by omega)
    have p4 : ∀ i j : Int, prMul (.int i) (.int (j % 40009 + 7)) = some (.sh (.int (i * (j % 40009 + 7)))) := fun i j => mul_r (by
      have h1 := Int.emod_nonneg j (show (40009 : Int) ≠ 0 by decide)
      have h2 := Int.emod_lt_of_pos j (show (0 : Int) < 40009 by decide)
      omega)
    simp only [runF, sseq, sIf, sAsg, sRet, sSetIx, sExp, sPar2, sTg, snil, mbl, m2, m1, mps, mpe, mlit, mslot, mmove, mif, mand, mor, mnot, mtru, mandv, morv, mnotv, mcons, mnil, mlst, mtup, mpc, mpn, mcalln, callR, mcallT, bind_ok, bind_bad, bind_exc, ofO, Pr.get, Sl.d, Sl.owned, Ro.own, Ro.put, Sl.put, argA, putB, setV, Vd.sl, Vd.d, backA, okArg, e_lenL, e_lenS, e_lenT, e_absI, e_intI, e_intB, e_addI, e_subI, e_ltI, e_leI, e_gtI, e_geI, e_negI, e_truB, e_truN, e_eqI, e_eqS, e_eqB, e_neI, e_neB, e_listL, e_listS, e_listT, List.all_cons, List.all_nil, Bool.and_true, Bool.and_self, List.length_cons, List.length_nil, List.cons_append, List.nil_append, List.replicate, List.set_cons_zero, List.set_cons_succ, List.getElem?_cons_zero, List.getElem?_cons_succ, Option.bind_some, Option.map_some, ite_true, ite_false, Nat.reduceAdd, Nat.reduceSub, Bool.true_eq_false, Bool.false_eq_true, reduceIte, List.length_map, sizeLine_eq, Nat.reduceLeDiff, Nat.zero_add, Nat.zero_le, and_self, and_true, true_and, beq_self_eq_true, Bool.not_true, Bool.not_false, decide_eq_false h0, x0, x1, x2, y2, mn, w1, w2, w3, w4, d1, d2, p1, p2, p3, p4]
    exact ⟨_, a, c + 1, Int.emod_nonneg _ (by omega), Int.emod_lt_of_pos _ hn.1, ha, by omega, by omega, rfl⟩
end FRT
end
section
set_option maxRecDepth 100000
set_option maxHeartbeats 4000001
set_option linter.all false
namespace FRT
open PySem L2
abbrev SameOk (n : Nat) (d : D) : Prop := ∃ as, fn__law_same n [.sh d, .sh d] = .ok (.sh (.bl true)) as
theorem i2 {T U : Tn} {d : D} {a b : Bool} (h : isT T d = some a) (h2 : isT U d = some b) : prIsi2 T U d = some (.sh (.bl (a || b))) := by
  unfold prIsi2
  rw [h, h2]
  rfl
theorem same_int (n : Nat) (i : Int) : SameOk (n + 1) (.int i) := by
  have h1 : prIsi2 .lst .tup (.int i) = some (.sh (.bl false)) := rfl
  have h2 : prIsi2 .bl .str (.int i) = some (.sh (.bl false)) := rfl
  have h3 : prIsi .int (.int i) = some (.sh (.bl true)) := rfl
  have h4 : prIsi .bl (.int i) = some (.sh (.bl false)) := rfl
  have h5 : prIsN (.int i) .non = some (.sh (.bl false)) := rfl
  unfold SameOk fn__law_same b__law_same
  simp only [runF, sseq, sIf, sAsg, sRet, sSetIx, sExp, sPar2, sTg, snil, mbl, m2, m1, mps, mpe, mlit, mslot, mmove, mif, mand, mor, mnot, mtru, mandv, morv, mnotv, mcons, mnil, mlst, mtup, mpc, mpn, mcalln, callR, mcallT, bind_ok, bind_bad, bind_exc, ofO, Pr.get, Sl.d, Sl.owned, Ro.own, Ro.put, Sl.put, argA, putB, setV, Vd.sl, Vd.d, backA, okArg, e_lenL, e_lenS, e_lenT, e_absI, e_intI, e_intB, e_addI, e_subI, e_ltI, e_leI, e_gtI, e_geI, e_negI, e_truB, e_truN, e_eqI, e_eqS, e_eqB, e_neI, e_neB, e_listL, e_listS, e_listT, List.all_cons, List.all_nil, Bool.and_true, Bool.and_self, List.length_cons, List.length_nil, List.cons_append, List.nil_append, List.replicate, List.set_cons_zero, List.set_cons_succ, List.getElem?_cons_zero, List.getElem?_cons_succ, Option.bind_some, Option.map_some, ite_true, ite_false, Nat.reduceAdd, Nat.reduceSub, Bool.true_eq_false, Bool.false_eq_true, reduceIte, List.length_map, sizeLine_eq, Nat.reduceLeDiff, Nat.zero_add, Nat.zero_le, and_self, and_true, true_and, beq_self_eq_true, Bool.not_true, Bool.not_false, h1, h2, h3, h4, h5]
  exact ⟨_, rfl⟩
theorem same_str (n : Nat) (i : Str) : SameOk (n + 1) (.str i) := by
  have h1 : prIsi2 .lst .tup (.str i) = some (.sh (.bl false)) := rfl
  have h2 : prIsi2 .bl .str (.str i) = some (.sh (.bl true)) := rfl
  have h4 : prIsi .bl (.str i) = some (.sh (.bl false)) := rfl
  have h5 : prIsN (.str i) .non = some (.sh (.bl false)) := rfl
  unfold SameOk fn__law_same b__law_same
  simp only [runF, sseq, sIf, sAsg, sRet, sSetIx, sExp, sPar2, sTg, snil, mbl, m2, m1, mps, mpe, mlit, mslot, mmove, mif, mand, mor, mnot, mtru, mandv, morv, mnotv, mcons, mnil, mlst, mtup, mpc, mpn, mcalln, callR, mcallT, bind_ok, bind_bad, bind_exc, ofO, Pr.get, Sl.d, Sl.owned, Ro.own, Ro.put, Sl.put, argA, putB, setV, Vd.sl, Vd.d, backA, okArg, e_lenL, e_lenS, e_lenT, e_absI, e_intI, e_intB, e_addI, e_subI, e_ltI, e_leI, e_gtI, e_geI, e_negI, e_truB, e_truN, e_eqI, e_eqS, e_eqB, e_neI, e_neB, e_listL, e_listS, e_listT, List.all_cons, List.all_nil, Bool.and_true, Bool.and_self, List.length_cons, List.length_nil, List.cons_append, List.nil_append, List.replicate, List.set_cons_zero, List.set_cons_succ, List.getElem?_cons_zero, List.getElem?_cons_succ, Option.bind_some, Option.map_some, ite_true, ite_false, Nat.reduceAdd, Nat.reduceSub, Bool.true_eq_false, Bool.false_eq_true, reduceIte, List.length_map, sizeLine_eq, Nat.reduceLeDiff, Nat.zero_add, Nat.zero_le, and_self, and_true, true_and, beq_self_eq_true, Bool.not_true, Bool.not_false, h1, h2, h4, h5]
  exact ⟨_, rfl⟩
theorem same_bl (n : Nat) (i : Bool) : SameOk (n + 1) (.bl i) := by
  have h1 : prIsi2 .lst .tup (.bl i) = some (.sh (.bl false)) := rfl
  have h2 : prIsi2 .bl .str (.bl i) = some (.sh (.bl true)) := rfl
  have h4 : prIsi .bl (.bl i) = some (.sh (.bl true)) := rfl
  have h5 : prIsN (.bl i) .non = some (.sh (.bl false)) := rfl
  unfold SameOk fn__law_same b__law_same
  simp only [runF, sseq, sIf, sAsg, sRet, sSetIx, sExp, sPar2, sTg, snil, mbl, m2, m1, mps, mpe, mlit, mslot, mmove, mif, mand, mor, mnot, mtru, mandv, morv, mnotv, mcons, mnil, mlst, mtup, mpc, mpn, mcalln, callR, mcallT, bind_ok, bind_bad, bind_exc, ofO, Pr.get, Sl.d, Sl.owned, Ro.own, Ro.put, Sl.put, argA, putB, setV, Vd.sl, Vd.d, backA, okArg, e_lenL, e_lenS, e_lenT, e_absI, e_intI, e_intB, e_addI, e_subI, e_ltI, e_leI, e_gtI, e_geI, e_negI, e_truB, e_truN, e_eqI, e_eqS, e_eqB, e_neI, e_neB, e_listL, e_listS, e_listT, List.all_cons, List.all_nil, Bool.and_true, Bool.and_self, List.length_cons, List.length_nil, List.cons_append, List.nil_append, List.replicate, List.set_cons_zero, List.set_cons_succ, List.getElem?_cons_zero, List.getElem?_cons_succ, Option.bind_some, Option.map_some, ite_true, ite_false, Nat.reduceAdd, Nat.reduceSub, Bool.true_eq_false, Bool.false_eq_true, reduceIte, List.length_map, sizeLine_eq, Nat.reduceLeDiff, Nat.zero_add, Nat.zero_le, and_self, and_true, true_and, beq_self_eq_true, Bool.not_true, Bool.not_false, h1, h2, h4, h5]
  exact ⟨_, rfl⟩
theorem same_non (n : Nat) : SameOk (n + 1) .non := ⟨[.sh .non, .sh .non], rfl⟩
theorem cl_same (n : Nat) {A B : D} : ∀ (l acc : List D), (∀ d ∈ l, SameOk n d) → acc.length + l.length ≤ sizeLine →
    cLoop (fTup 2 (fCons (fNm 2) (fCons (fNm 3) fNil))) mtrue (mcalln 2 (fn__law_same n) (mpc (mpe (mslot 2)) (mpc (mpe (mslot 3)) mpn))) [2, 3] (zipD l l) acc [.sh A, .sh B, .un, .un] =
      .ok (acc ++ l.map fun _ => .bl true) [.sh A, .sh B, .un, .un]
  | [], acc, _, _ => by
    show Rs.ok acc _ = _
    simp
  | d :: l, acc, h, hz => by
    obtain ⟨as, e⟩ := h d (by simp)
    have hlt : acc.length < sizeLine := by
      rw [List.length_cons] at hz
      omega
    have st : ∀ r, (match mtrue [.sh A, .sh B, .sh d, .sh d] with
      | .ok true ρb => (match mcalln 2 (fn__law_same n) (mpc (mpe (mslot 2)) (mpc (mpe (mslot 3)) mpn)) ρb with
        | .ok y ρc => if acc.length < sizeLine then cLoop (fTup 2 (fCons (fNm 2) (fCons (fNm 3) fNil))) mtrue (mcalln 2 (fn__law_same n) (mpc (mpe (mslot 2)) (mpc (mpe (mslot 3)) mpn))) [2, 3] (zipD l l) (acc ++ [y.d]) (wipeR ρc [2, 3]) else .bad
        | _ => .bad)
      | .ok false ρb => cLoop (fTup 2 (fCons (fNm 2) (fCons (fNm 3) fNil))) mtrue (mcalln 2 (fn__law_same n) (mpc (mpe (mslot 2)) (mpc (mpe (mslot 3)) mpn))) [2, 3] (zipD l l) acc (wipeR ρb [2, 3])
      | _ => .bad) = r → cLoop (fTup 2 (fCons (fNm 2) (fCons (fNm 3) fNil))) mtrue (mcalln 2 (fn__law_same n) (mpc (mpe (mslot 2)) (mpc (mpe (mslot 3)) mpn))) [2, 3] (zipD (d :: l) (d :: l)) acc [.sh A, .sh B, .un, .un] = r := fun r h => h
    refine st _ ?_
    have ec : mcalln 2 (fn__law_same n) (mpc (mpe (mslot 2)) (mpc (mpe (mslot 3)) mpn)) [.sh A, .sh B, .sh d, .sh d] = .ok (.sh (.bl true)) [.sh A, .sh B, .sh d, .sh d] := by
      simp only [runF, sseq, sIf, sAsg, sRet, sSetIx, sExp, sPar2, sTg, snil, mbl, m2, m1, mps, mpe, mlit, mslot, mmove, mif, mand, mor, mnot, mtru, mandv, morv, mnotv, mcons, mnil, mlst, mtup, mpc, mpn, mcalln, callR, mcallT, bind_ok, bind_bad, bind_exc, ofO, Pr.get, Sl.d, Sl.owned, Ro.own, Ro.put, Sl.put, argA, putB, setV, Vd.sl, Vd.d, backA, okArg, e_lenL, e_lenS, e_lenT, e_absI, e_intI, e_intB, e_addI, e_subI, e_ltI, e_leI, e_gtI, e_geI, e_negI, e_truB, e_truN, e_eqI, e_eqS, e_eqB, e_neI, e_neB, e_listL, e_listS, e_listT, List.all_cons, List.all_nil, Bool.and_true, Bool.and_self, List.length_cons, List.length_nil, List.cons_append, List.nil_append, List.replicate, List.set_cons_zero, List.set_cons_succ, List.getElem?_cons_zero, List.getElem?_cons_succ, Option.bind_some, Option.map_some, ite_true, ite_false, Nat.reduceAdd, Nat.reduceSub, Bool.true_eq_false, Bool.false_eq_true, reduceIte, List.length_map, sizeLine_eq, Nat.reduceLeDiff, Nat.zero_add, Nat.zero_le, and_self, and_true, true_and, beq_self_eq_true, Bool.not_true, Bool.not_false, e]
    show (match mcalln 2 (fn__law_same n) (mpc (mpe (mslot 2)) (mpc (mpe (mslot 3)) mpn)) [.sh A, .sh B, .sh d, .sh d] with
      | .ok y ρc => if acc.length < sizeLine then cLoop (fTup 2 (fCons (fNm 2) (fCons (fNm 3) fNil))) mtrue (mcalln 2 (fn__law_same n) (mpc (mpe (mslot 2)) (mpc (mpe (mslot 3)) mpn))) [2, 3] (zipD l l) (acc ++ [y.d]) (wipeR ρc [2, 3]) else .bad
      | _ => .bad) = _
    rw [ec]
    show (if acc.length < sizeLine then cLoop _ mtrue _ [2, 3] (zipD l l) (acc ++ [.bl true]) [.sh A, .sh B, .un, .un] else .bad) = _
    rw [if_pos hlt]
    have ih := cl_same n (A := A) (B := B) l (acc ++ [D.bl true]) (fun x hx => h x (by simp [hx])) (by rw [List.length_append, List.length_cons, List.length_nil]; rw [List.length_cons] at hz; omega)
    exact ih.trans (by simp)
theorem same_lst (n : Nat) (l : List D) (hl : l.length ≤ sizeLine) (h : ∀ d ∈ l, SameOk n d) : SameOk (n + 1) (.lst l) := by
  have h1 : prIsi2 .lst .tup (.lst l) = some (.sh (.bl true)) := rfl
  have h2 : prIsi .lst (.lst l) = some (.sh (.bl true)) := rfl
  have h3 : prIsi .tup (.lst l) = some (.sh (.bl false)) := rfl
  have hz : mitZ (mcons (mslot 0) (mcons (mslot 1) mnil)) [.sh (.lst l), .sh (.lst l), .un, .un] = .ok (zipD l l) [.sh (.lst l), .sh (.lst l), .un, .un] := rfl
  have hc := cl_same n (A := .lst l) (B := .lst l) l [] h (by simpa using hl)
  have hm : mcomp (mitZ (mcons (mslot 0) (mcons (mslot 1) mnil))) (fTup 2 (fCons (fNm 2) (fCons (fNm 3) fNil))) mtrue (mcalln 2 (fn__law_same n) (mpc (mpe (mslot 2)) (mpc (mpe (mslot 3)) mpn))) [2, 3] [.sh (.lst l), .sh (.lst l), .un, .un] = .ok (.fr (l.map fun _ => .bl true)) [.sh (.lst l), .sh (.lst l), .un, .un] := by
    unfold mcomp
    rw [hz, bind_ok]
    show (match cLoop _ mtrue _ [2, 3] (zipD l l) [] [.sh (.lst l), .sh (.lst l), .un, .un] with
      | .ok acc ρ2 => Rs.ok (Vd.fr acc) (restR _ [2, 3] ρ2)
      | _ => .bad) = _
    rw [hc]
    rfl
  unfold SameOk fn__law_same b__law_same
  simp only [runF, sseq, sIf, sAsg, sRet, sSetIx, sExp, sPar2, sTg, snil, mbl, m2, m1, mps, mpe, mlit, mslot, mmove, mif, mand, mor, mnot, mtru, mandv, morv, mnotv, mcons, mnil, mlst, mtup, mpc, mpn, mcalln, callR, mcallT, bind_ok, bind_bad, bind_exc, ofO, Pr.get, Sl.d, Sl.owned, Ro.own, Ro.put, Sl.put, argA, putB, setV, Vd.sl, Vd.d, backA, okArg, e_lenL, e_lenS, e_lenT, e_absI, e_intI, e_intB, e_addI, e_subI, e_ltI, e_leI, e_gtI, e_geI, e_negI, e_truB, e_truN, e_eqI, e_eqS, e_eqB, e_neI, e_neB, e_listL, e_listS, e_listT, List.all_cons, List.all_nil, Bool.and_true, Bool.and_self, List.length_cons, List.length_nil, List.cons_append, List.nil_append, List.replicate, List.set_cons_zero, List.set_cons_succ, List.getElem?_cons_zero, List.getElem?_cons_succ, Option.bind_some, Option.map_some, ite_true, ite_false, Nat.reduceAdd, Nat.reduceSub, Bool.true_eq_false, Bool.false_eq_true, reduceIte, List.length_map, sizeLine_eq, Nat.reduceLeDiff, Nat.zero_add, Nat.zero_le, and_self, and_true, true_and, beq_self_eq_true, Bool.not_true, Bool.not_false, h1, h2, h3, hm, all_true]
  exact ⟨_, rfl⟩
theorem same_tup (n : Nat) (l : List D) (hl : l.length ≤ sizeLine) (h : ∀ d ∈ l, SameOk n d) : SameOk (n + 1) (.tup l) := by
  have h1 : prIsi2 .lst .tup (.tup l) = some (.sh (.bl true)) := rfl
  have h2 : prIsi .lst (.tup l) = some (.sh (.bl false)) := rfl
  have h3 : prIsi .tup (.tup l) = some (.sh (.bl true)) := rfl
  have hz : mitZ (mcons (mslot 0) (mcons (mslot 1) mnil)) [.sh (.tup l), .sh (.tup l), .un, .un] = .ok (zipD l l) [.sh (.tup l), .sh (.tup l), .un, .un] := rfl
  have hc := cl_same n (A := .tup l) (B := .tup l) l [] h (by simpa using hl)
  have hm : mcomp (mitZ (mcons (mslot 0) (mcons (mslot 1) mnil))) (fTup 2 (fCons (fNm 2) (fCons (fNm 3) fNil))) mtrue (mcalln 2 (fn__law_same n) (mpc (mpe (mslot 2)) (mpc (mpe (mslot 3)) mpn))) [2, 3] [.sh (.tup l), .sh (.tup l), .un, .un] = .ok (.fr (l.map fun _ => .bl true)) [.sh (.tup l), .sh (.tup l), .un, .un] := by
    unfold mcomp
    rw [hz, bind_ok]
    show (match cLoop _ mtrue _ [2, 3] (zipD l l) [] [.sh (.tup l), .sh (.tup l), .un, .un] with
      | .ok acc ρ2 => Rs.ok (Vd.fr acc) (restR _ [2, 3] ρ2)
      | _ => .bad) = _
    rw [hc]
    rfl
  unfold SameOk fn__law_same b__law_same
  simp only [runF, sseq, sIf, sAsg, sRet, sSetIx, sExp, sPar2, sTg, snil, mbl, m2, m1, mps, mpe, mlit, mslot, mmove, mif, mand, mor, mnot, mtru, mandv, morv, mnotv, mcons, mnil, mlst, mtup, mpc, mpn, mcalln, callR, mcallT, bind_ok, bind_bad, bind_exc, ofO, Pr.get, Sl.d, Sl.owned, Ro.own, Ro.put, Sl.put, argA, putB, setV, Vd.sl, Vd.d, backA, okArg, e_lenL, e_lenS, e_lenT, e_absI, e_intI, e_intB, e_addI, e_subI, e_ltI, e_leI, e_gtI, e_geI, e_negI, e_truB, e_truN, e_eqI, e_eqS, e_eqB, e_neI, e_neB, e_listL, e_listS, e_listT, List.all_cons, List.all_nil, Bool.and_true, Bool.and_self, List.length_cons, List.length_nil, List.cons_append, List.nil_append, List.replicate, List.set_cons_zero, List.set_cons_succ, List.getElem?_cons_zero, List.getElem?_cons_succ, Option.bind_some, Option.map_some, ite_true, ite_false, Nat.reduceAdd, Nat.reduceSub, Bool.true_eq_false, Bool.false_eq_true, reduceIte, List.length_map, sizeLine_eq, Nat.reduceLeDiff, Nat.zero_add, Nat.zero_le, and_self, and_true, true_and, beq_self_eq_true, Bool.not_true, Bool.not_false, h1, h2, h3, hm, all_true]
  exact ⟨_, rfl⟩
end FRT
end
section
set_option maxRecDepth 100000
set_option maxHeartbeats 4000001
set_option linter.all false
namespace FRT
open PySem L2
/-! cells -/
theorem sIx0 (n : Nat) (k : Nat) : HT.sIx n 0 (some (k : Int)) = min k n := HT.sIx_nat n 0 k
theorem loop_ok (s : D) : ∀ (l : List Int) (k : Nat) (cs : List Int) (x3 x4 x5 : Sl), k + l.length ≤ 60 → cs.length = 3 → (∀ l, x3 ≠ .bor l) → (∀ l, x4 ≠ .bor l) → (∀ l, x5 ≠ .bor l) →
    ∃ (cs' : List Int) (x3' x4' x5' : Sl), cs'.length = 3 ∧ fLoop (fTup 2 (fCons (fNm 3) (fCons (fNm 4) fNil))) (sseq (sAsg 5 (m2 prMod (mpe (m1 prInt (mps 3))) (mps 1))) (sSetIx 2 (m2 prAdd (mpe (m2 prIx (mps 2) (mps 5))) (mpe (m2 prMul (mps 4) (mpe (m2 prAdd (mps 3) (mpe (mlit (.int 2)))))))) (mslot 5)))
      (enumD k (l.map D.int)) [.sh s, .sh (.int 3), .own (cs.map D.int), x3, x4, x5] = .ok .nx [.sh s, .sh (.int 3), .own (cs'.map D.int), x3', x4', x5']
  | [], k, cs, x3, x4, x5, _, h3, _, _, _ => ⟨cs, x3, x4, x5, h3, rfl⟩
  | i :: l, k, cs, x3, x4, x5, hk, h3, n3, n4, n5 => by
    rw [List.length_cons] at hk
    have f3 : ∀ (x : Sl), (∀ l, x ≠ .bor l) → ∀ (y4 y5 : Sl) (d : D), fNm 3 d [.sh s, .sh (.int 3), .own (cs.map D.int), x, y4, y5] = some [.sh s, .sh (.int 3), .own (cs.map D.int), .sh d, y4, y5] := fun x hx y4 y5 d => by
      cases x with
      | bor l => exact absurd rfl (hx l)
      | un => rfl
      | sh _ => rfl
      | own _ => rfl
    have f4 : ∀ (x : Sl), (∀ l, x ≠ .bor l) → ∀ (y3 y5 : Sl) (d : D), fNm 4 d [.sh s, .sh (.int 3), .own (cs.map D.int), y3, x, y5] = some [.sh s, .sh (.int 3), .own (cs.map D.int), y3, .sh d, y5] := fun x hx y4 y5 d => by
      cases x with
      | bor l => exact absurd rfl (hx l)
      | un => rfl
      | sh _ => rfl
      | own _ => rfl
    have f5 : ∀ (x : Sl), (∀ l, x ≠ .bor l) → ∀ (y3 y4 : Sl) (d : D), setV 5 (.sh d) [.sh s, .sh (.int 3), .own (cs.map D.int), y3, y4, x] = some [.sh s, .sh (.int 3), .own (cs.map D.int), y3, y4, .sh d] := fun x hx y4 y5 d => by
      cases x with
      | bor l => exact absurd rfl (hx l)
      | un => rfl
      | sh _ => rfl
      | own _ => rfl
    obtain ⟨j, hj⟩ := nat_of (Int.emod_nonneg (k : Int) (show (3 : Int) ≠ 0 by decide))
    have hj3 : j < 3 := by
      have := Int.emod_lt_of_pos (k : Int) (show (0 : Int) < 3 by decide)
      omega
    have hjl : j < (cs.map D.int).length := by rw [List.length_map]; omega
    have g1 : (cs.map D.int)[j]? = some (.int (cs[j]'(by omega))) := by rw [List.getElem?_map, List.getElem?_eq_getElem (by omega)]; rfl
    have hx : prIx (.lst (cs.map D.int)) (.int (j : Int)) = some (.sh (.int (cs[j]'(by omega)))) := ix_ok g1
    have hm : prMod (.int (k : Int)) (.int 3) = some (.sh (.int (j : Int))) := by rw [mod_ok (by decide), hj]
    have hp : prMul (.int i) (.int ((k : Int) + 2)) = some (.sh (.int (i * ((k : Int) + 2)))) := mul_r (by omega)
    have hi : ixN (cs.map D.int).length (j : Int) = some j := by
      unfold ixN
      rw [if_pos (by omega), if_pos (by rw [List.length_map]; omega), Int.toNat_natCast]
    have hb : sseq (sAsg 5 (m2 prMod (mpe (m1 prInt (mps 3))) (mps 1))) (sSetIx 2 (m2 prAdd (mpe (m2 prIx (mps 2) (mps 5))) (mpe (m2 prMul (mps 4) (mpe (m2 prAdd (mps 3) (mpe (mlit (.int 2)))))))) (mslot 5)) [.sh s, .sh (.int 3), .own (cs.map D.int), .sh (.int (k : Int)), .sh (.int i), x5] =
        .ok .nx [.sh s, .sh (.int 3), .own ((cs.set j (cs[j]'(by omega) + i * ((k : Int) + 2))).map D.int), .sh (.int (k : Int)), .sh (.int i), .sh (.int (j : Int))] := by
      have a1 : sAsg 5 (m2 prMod (mpe (m1 prInt (mps 3))) (mps 1)) [.sh s, .sh (.int 3), .own (cs.map D.int), .sh (.int (k : Int)), .sh (.int i), x5] = .ok .nx [.sh s, .sh (.int 3), .own (cs.map D.int), .sh (.int (k : Int)), .sh (.int i), .sh (.int (j : Int))] :=
        asg_ok (v := .sh (.int (j : Int))) (ρ1 := [.sh s, .sh (.int 3), .own (cs.map D.int), .sh (.int (k : Int)), .sh (.int i), x5]) (by simp only [runF, sseq, sIf, sAsg, sRet, sSetIx, sExp, sPar2, sTg, snil, mbl, m2, m1, mps, mpe, mlit, mslot, mmove, mif, mand, mor, mnot, mtru, mandv, morv, mnotv, mcons, mnil, mlst, mtup, mpc, mpn, mcalln, callR, mcallT, bind_ok, bind_bad, bind_exc, ofO, Pr.get, Sl.d, Sl.owned, Ro.own, Ro.put, Sl.put, argA, putB, setV, Vd.sl, Vd.d, backA, okArg, e_lenL, e_lenS, e_lenT, e_absI, e_intI, e_intB, e_addI, e_subI, e_ltI, e_leI, e_gtI, e_geI, e_negI, e_truB, e_truN, e_eqI, e_eqS, e_eqB, e_neI, e_neB, e_listL, e_listS, e_listT, List.all_cons, List.all_nil, Bool.and_true, Bool.and_self, List.length_cons, List.length_nil, List.cons_append, List.nil_append, List.replicate, List.set_cons_zero, List.set_cons_succ, List.getElem?_cons_zero, List.getElem?_cons_succ, Option.bind_some, Option.map_some, ite_true, ite_false, Nat.reduceAdd, Nat.reduceSub, Bool.true_eq_false, Bool.false_eq_true, reduceIte, List.length_map, sizeLine_eq, Nat.reduceLeDiff, Nat.zero_add, Nat.zero_le, and_self, and_true, true_and, beq_self_eq_true, Bool.not_true, Bool.not_false, hm]) (f5 x5 n5 _ _ _)
      rw [seq_nx a1]
      have hi' : ixN cs.length (j : Int) = some j := by
        rw [List.length_map] at hi
        exact hi
      simp only [runF, sseq, sIf, sAsg, sRet, sSetIx, sExp, sPar2, sTg, snil, mbl, m2, m1, mps, mpe, mlit, mslot, mmove, mif, mand, mor, mnot, mtru, mandv, morv, mnotv, mcons, mnil, mlst, mtup, mpc, mpn, mcalln, callR, mcallT, bind_ok, bind_bad, bind_exc, ofO, Pr.get, Sl.d, Sl.owned, Ro.own, Ro.put, Sl.put, argA, putB, setV, Vd.sl, Vd.d, backA, okArg, e_lenL, e_lenS, e_lenT, e_absI, e_intI, e_intB, e_addI, e_subI, e_ltI, e_leI, e_gtI, e_geI, e_negI, e_truB, e_truN, e_eqI, e_eqS, e_eqB, e_neI, e_neB, e_listL, e_listS, e_listT, List.all_cons, List.all_nil, Bool.and_true, Bool.and_self, List.length_cons, List.length_nil, List.cons_append, List.nil_append, List.replicate, List.set_cons_zero, List.set_cons_succ, List.getElem?_cons_zero, List.getElem?_cons_succ, Option.bind_some, Option.map_some, ite_true, ite_false, Nat.reduceAdd, Nat.reduceSub, Bool.true_eq_false, Bool.false_eq_true, reduceIte, List.length_map, sizeLine_eq, Nat.reduceLeDiff, Nat.zero_add, Nat.zero_le, and_self, and_true, true_and, beq_self_eq_true, Bool.not_true, Bool.not_false, hx, hp, hi']
      rw [List.map_set]
    obtain ⟨cs', y3, y4, y5, q1, q2⟩ := loop_ok s l (k + 1) (cs.set j (cs[j]'(by omega) + i * ((k : Int) + 2))) (.sh (.int (k : Int))) (.sh (.int i)) (.sh (.int (j : Int))) (by omega) (by rw [List.length_set]; exact h3) (fun _ z => nomatch z) (fun _ z => nomatch z) (fun _ z => nomatch z)
    refine ⟨cs', y3, y4, y5, q1, ?_⟩
    have hf : fTup 2 (fCons (fNm 3) (fCons (fNm 4) fNil)) (.tup [.int (k : Int), .int i]) [.sh s, .sh (.int 3), .own (cs.map D.int), x3, x4, x5] = some [.sh s, .sh (.int 3), .own (cs.map D.int), .sh (.int (k : Int)), .sh (.int i), x5] := by
      show (fNm 3 (.int (k : Int)) _).bind (fun ρ1 => (fNm 4 (.int i) ρ1).bind fun ρ2 => fNil [] ρ2) = _
      rw [f3 x3 n3]
      show (fNm 4 (.int i) _).bind _ = _
      rw [f4 x4 n4]
      rfl
    show (match fTup 2 (fCons (fNm 3) (fCons (fNm 4) fNil)) (.tup [.int (k : Int), .int i]) [.sh s, .sh (.int 3), .own (cs.map D.int), x3, x4, x5] with
      | none => Rs.bad
      | some ρa => _) = _
    rw [hf]
    dsimp only
    rw [hb]
    exact q2
theorem cut_lo (l : List D) (k : Nat) : cutD l none (some (k : Int)) = l.take k := by
  unfold cutD
  rw [HT.sIx_none, HT.sIx_nat]
  show (l.drop 0).take (min k l.length - 0) = _
  rw [List.drop_zero, Nat.sub_zero]
  by_cases h : k ≤ l.length
  · rw [Nat.min_eq_left h]
  · rw [Nat.min_eq_right (by omega), List.take_length, List.take_of_length_le (by omega)]
theorem cut_mid (l : List D) (i k : Nat) : ∃ m, cutD l (some (i : Int)) (some (k : Int)) = (l.drop i).take m ∧ m ≤ k - i := by
  unfold cutD
  rw [HT.sIx_nat, HT.sIx_nat]
  by_cases h : i ≤ l.length
  · rw [Nat.min_eq_left h]
    exact ⟨_, rfl, by omega⟩
  · rw [List.drop_of_length_le (by omega), List.drop_of_length_le (show l.length ≤ i by omega)]
    exact ⟨0, by simp, by omega⟩
theorem cells_ok (ns : List Int) (h : ns.length ≤ 63) : ∃ cs : List Int, 0 < cs.length ∧ cs.length ≤ 3 ∧ ∃ as, fn__law_cells [.sh (.scr (ns.map D.int)), .sh (.int 3)] = .ok (.fr (cs.map D.int)) as := by
  have c1 : prSl none (some 3) (.scr (ns.map D.int)) = some (.fr ((ns.take 3).map D.int)) := by
    show some (Vd.fr (cutD _ none (some ((3 : Nat) : Int)))) = _
    rw [cut_lo, List.map_take]
  obtain ⟨m, hm, hm2⟩ := cut_mid (ns.map D.int) 3 63
  have c2 : prSl (some 3) (some 63) (.scr (ns.map D.int)) = some (.fr (((ns.drop 3).take m).map D.int)) := by
    show some (Vd.fr (cutD _ (some ((3 : Nat) : Int)) (some ((63 : Nat) : Int)))) = _
    rw [hm, List.map_take, List.map_drop]
  have s1 : ∃ cs : List Int, (0 < cs.length ∧ cs.length ≤ 3 ∧ (3 ≤ ns.length → cs.length = 3)) ∧ sAsg 2 (morv (m1 prList (mpe (msl (mps 0) mno (msome (mslot 1))))) (mlst (mcons (mlit (.int 0)) mnil))) [.sh (.scr (ns.map D.int)), .sh (.int 3), .un, .un, .un, .un] = .ok .nx [.sh (.scr (ns.map D.int)), .sh (.int 3), .own (cs.map D.int), .un, .un, .un] := by
    have e1 : m1 prList (mpe (msl (mps 0) mno (msome (mslot 1)))) [.sh (.scr (ns.map D.int)), .sh (.int 3), .un, .un, .un, .un] = .ok (.fr ((ns.take 3).map D.int)) [.sh (.scr (ns.map D.int)), .sh (.int 3), .un, .un, .un, .un] := by
      unfold msl mno msome
      simp only [runF, sseq, sIf, sAsg, sRet, sSetIx, sExp, sPar2, sTg, snil, mbl, m2, m1, mps, mpe, mlit, mslot, mmove, mif, mand, mor, mnot, mtru, mandv, morv, mnotv, mcons, mnil, mlst, mtup, mpc, mpn, mcalln, callR, mcallT, bind_ok, bind_bad, bind_exc, ofO, Pr.get, Sl.d, Sl.owned, Ro.own, Ro.put, Sl.put, argA, putB, setV, Vd.sl, Vd.d, backA, okArg, e_lenL, e_lenS, e_lenT, e_absI, e_intI, e_intB, e_addI, e_subI, e_ltI, e_leI, e_gtI, e_geI, e_negI, e_truB, e_truN, e_eqI, e_eqS, e_eqB, e_neI, e_neB, e_listL, e_listS, e_listT, List.all_cons, List.all_nil, Bool.and_true, Bool.and_self, List.length_cons, List.length_nil, List.cons_append, List.nil_append, List.replicate, List.set_cons_zero, List.set_cons_succ, List.getElem?_cons_zero, List.getElem?_cons_succ, Option.bind_some, Option.map_some, ite_true, ite_false, Nat.reduceAdd, Nat.reduceSub, Bool.true_eq_false, Bool.false_eq_true, reduceIte, List.length_map, sizeLine_eq, Nat.reduceLeDiff, Nat.zero_add, Nat.zero_le, and_self, and_true, true_and, beq_self_eq_true, Bool.not_true, Bool.not_false, c1]
    cases hn : ns with
    | nil =>
      subst hn
      exact ⟨[0], ⟨by decide, by decide, fun z => absurd z (by decide)⟩, rfl⟩
    | cons x r =>
      rw [← hn]
      refine ⟨ns.take 3, ⟨by rw [hn, List.length_take, List.length_cons]; omega, by rw [List.length_take]; omega, fun z => by rw [List.length_take]; omega⟩, ?_⟩
      have ht : truD (.lst ((ns.take 3).map D.int)) = some true := by
        rw [hn]
        rfl
      refine asg_ok (v := .fr ((ns.take 3).map D.int)) (ρ1 := [.sh (.scr (ns.map D.int)), .sh (.int 3), .un, .un, .un, .un]) ?_ rfl
      unfold morv
      rw [e1, bind_ok]
      show (ofO (truD (.lst ((ns.take 3).map D.int))) _).bind _ = _
      rw [ht]
      rfl
  obtain ⟨cs, hcs, e1⟩ := s1
  have hit : mitE (msl (mps 0) (msome (mslot 1)) (msome (mlit (.int 63)))) [.sh (.scr (ns.map D.int)), .sh (.int 3), .own (cs.map D.int), .un, .un, .un] = .ok (enumD 0 (((ns.drop 3).take m).map D.int)) [.sh (.scr (ns.map D.int)), .sh (.int 3), .own (cs.map D.int), .un, .un, .un] := by
    unfold mitE msl msome
    simp only [runF, sseq, sIf, sAsg, sRet, sSetIx, sExp, sPar2, sTg, snil, mbl, m2, m1, mps, mpe, mlit, mslot, mmove, mif, mand, mor, mnot, mtru, mandv, morv, mnotv, mcons, mnil, mlst, mtup, mpc, mpn, mcalln, callR, mcallT, bind_ok, bind_bad, bind_exc, ofO, Pr.get, Sl.d, Sl.owned, Ro.own, Ro.put, Sl.put, argA, putB, setV, Vd.sl, Vd.d, backA, okArg, e_lenL, e_lenS, e_lenT, e_absI, e_intI, e_intB, e_addI, e_subI, e_ltI, e_leI, e_gtI, e_geI, e_negI, e_truB, e_truN, e_eqI, e_eqS, e_eqB, e_neI, e_neB, e_listL, e_listS, e_listT, List.all_cons, List.all_nil, Bool.and_true, Bool.and_self, List.length_cons, List.length_nil, List.cons_append, List.nil_append, List.replicate, List.set_cons_zero, List.set_cons_succ, List.getElem?_cons_zero, List.getElem?_cons_succ, Option.bind_some, Option.map_some, ite_true, ite_false, Nat.reduceAdd, Nat.reduceSub, Bool.true_eq_false, Bool.false_eq_true, reduceIte, List.length_map, sizeLine_eq, Nat.reduceLeDiff, Nat.zero_add, Nat.zero_le, and_self, and_true, true_and, beq_self_eq_true, Bool.not_true, Bool.not_false, c2]
  have hlp : ∃ (cs' : List Int) (x3 x4 x5 : Sl), 0 < cs'.length ∧ cs'.length ≤ 3 ∧ fLoop (fTup 2 (fCons (fNm 3) (fCons (fNm 4) fNil))) (sseq (sAsg 5 (m2 prMod (mpe (m1 prInt (mps 3))) (mps 1))) (sSetIx 2 (m2 prAdd (mpe (m2 prIx (mps 2) (mps 5))) (mpe (m2 prMul (mps 4) (mpe (m2 prAdd (mps 3) (mpe (mlit (.int 2)))))))) (mslot 5)))
      (enumD 0 (((ns.drop 3).take m).map D.int)) [.sh (.scr (ns.map D.int)), .sh (.int 3), .own (cs.map D.int), .un, .un, .un] = .ok .nx [.sh (.scr (ns.map D.int)), .sh (.int 3), .own (cs'.map D.int), x3, x4, x5] := by
    by_cases h3 : 3 ≤ ns.length
    · have hc3 : cs.length = 3 := hcs.2.2 h3
      obtain ⟨cs', y3, y4, y5, q1, q2⟩ := loop_ok (.scr (ns.map D.int)) ((ns.drop 3).take m) 0 cs .un .un .un (by rw [List.length_take]; omega) hc3 (fun _ z => nomatch z) (fun _ z => nomatch z) (fun _ z => nomatch z)
      exact ⟨cs', y3, y4, y5, by omega, by omega, q2⟩
    · have : ns.drop 3 = [] := List.drop_of_length_le (by omega)
      rw [this]
      exact ⟨cs, .un, .un, .un, hcs.1, hcs.2.1, by simp [enumD, fLoop]⟩
  obtain ⟨cs', x3, x4, x5, k1, k2, e2⟩ := hlp
  have e3 : sFor (mitE (msl (mps 0) (msome (mslot 1)) (msome (mlit (.int 63))))) (fTup 2 (fCons (fNm 3) (fCons (fNm 4) fNil))) (sseq (sAsg 5 (m2 prMod (mpe (m1 prInt (mps 3))) (mps 1))) (sSetIx 2 (m2 prAdd (mpe (m2 prIx (mps 2) (mps 5))) (mpe (m2 prMul (mps 4) (mpe (m2 prAdd (mps 3) (mpe (mlit (.int 2)))))))) (mslot 5)))
      [.sh (.scr (ns.map D.int)), .sh (.int 3), .own (cs.map D.int), .un, .un, .un] = .ok .nx [.sh (.scr (ns.map D.int)), .sh (.int 3), .own (cs'.map D.int), x3, x4, x5] := by
    unfold sFor
    rw [hit, bind_ok]
    exact e2
  exact ⟨cs', k1, k2, _, run_rt rfl ((seq_nx e1).trans ((seq_nx e3).trans (ret_ok rfl)))⟩
end FRT
end
section
set_option maxRecDepth 100000
set_option maxHeartbeats 4000001
set_option linter.all false
namespace FRT
open PySem L2
/-! ### what is over a level: the mathematics -/
def ovI (xs : List Int) (L : Int) : Int := (xs.map fun x => if x - L > 0 then x - L else 0).sum
def cntI (xs : List Int) (h : Int) : Int := (xs.map fun x => if h ≤ x then (1 : Int) else 0).sum
theorem ov_nil (L : Int) : ovI [] L = 0 := rfl
theorem ov_cons (x : Int) (xs : List Int) (L : Int) : ovI (x :: xs) L = (if x - L > 0 then x - L else 0) + ovI xs L := by
  unfold ovI
  rw [List.map_cons, List.sum_cons]
theorem cnt_cons (x : Int) (xs : List Int) (L : Int) : cntI (x :: xs) L = (if L ≤ x then 1 else 0) + cntI xs L := by
  unfold cntI
  rw [List.map_cons, List.sum_cons]
theorem ov_lin {low h t : Int} (h0 : 0 ≤ t) (h1 : low + t ≤ h) : ∀ {xs : List Int}, (∀ x ∈ xs, x ≤ low ∨ h ≤ x) → ovI xs (low + t) = ovI xs low - t * cntI xs h
  | [], _ => by simp [ovI, cntI]
  | x :: xs, hx => by
    rw [ov_cons, ov_cons, cnt_cons, ov_lin h0 h1 fun y hy => hx y (.tail _ hy), Int.mul_add]
    rcases hx x (.head _) with q | q
    · by_cases c : h ≤ x
      · have : t = 0 := by omega
        subst this
        rw [Int.zero_mul, Int.zero_mul]
        split <;> split <;> omega
      · rw [if_neg c]
        split <;> split <;> omega
    · rw [if_pos q]
      split <;> split <;> omega
theorem ov_top {L : Int} : ∀ {xs : List Int}, (∀ x ∈ xs, x ≤ L) → ovI xs L = 0
  | [], _ => rfl
  | x :: xs, h => by
    rw [ov_cons, ov_top fun y hy => h y (.tail _ hy), if_neg (by have := h x (.head _); omega)]
    rfl
theorem ov_pos {L : Int} : ∀ {xs : List Int}, 0 ≤ ovI xs L
  | [] => by rw [ov_nil]; omega
  | x :: xs => by
    have := ov_pos (L := L) (xs := xs)
    rw [ov_cons]
    split <;> omega
theorem ov_zero : ∀ {xs : List Int}, (∀ x ∈ xs, 0 ≤ x) → ovI xs 0 = xs.sum
  | [], _ => rfl
  | x :: xs, h => by
    rw [ov_cons, List.sum_cons, ov_zero fun y hy => h y (.tail _ hy)]
    have := h x (.head _)
    split <;> omega
theorem ov_le {L : Int} (hL : 0 ≤ L) : ∀ {xs : List Int}, (∀ x ∈ xs, 0 ≤ x) → ovI xs L ≤ xs.sum
  | [], _ => Int.le_refl _
  | x :: xs, h => by
    have h1 := ov_le hL (xs := xs) fun y hy => h y (.tail _ hy)
    have := h x (.head _)
    rw [ov_cons, List.sum_cons]
    split <;> omega
/-- the first level, by the heights -/
def tellGo (F : Int → Int) : List Int → Int → Int → Option Int
  | [], _, _ => none
  | h :: t, low, less => if F h > 0 then some (low + less * (h - low) / (less + F h) + 1) else tellGo F t h (-F h)
/-- the first level, one by one -/
def tellS (F : Int → Int) : Option Nat := (List.range 32).find? fun k => decide (F (k : Int) > 0)
theorem tellS_some {F : Int → Int} {k : Nat} (hk : k < 32) (h1 : F k > 0) (h2 : ∀ j : Nat, j < k → F j ≤ 0) : tellS F = some k := by
  unfold tellS
  rw [List.find?_range_eq_some]
  refine ⟨decide_eq_true h1, List.mem_range.mpr hk, fun j hj => ?_⟩
  rw [decide_eq_false (by have := h2 j hj; omega)]
  rfl
theorem tellS_none {F : Int → Int} (h2 : ∀ j : Nat, F j ≤ 0) : tellS F = none := by
  unfold tellS
  rw [List.find?_eq_none]
  intro x _
  have := h2 x
  simp only [decide_eq_true_eq]
  omega
theorem tell_go {xs ys : List Int} (hb : ∀ x ∈ xs ++ ys, x ≤ 30) : ∀ (hs : List Int) (low : Int), 0 ≤ low → hs.Pairwise (· < ·) → (∀ h ∈ hs, low ≤ h) → (∀ h ∈ hs, h ≤ 30) → (∀ x ∈ xs ++ ys, x ≤ low ∨ x ∈ hs) →
    (∀ k : Int, 0 ≤ k → k ≤ low → ovI xs k - ovI ys k ≤ 0) →
    tellGo (fun L => ovI xs L - ovI ys L) hs low (-(ovI xs low - ovI ys low)) = (tellS fun L => ovI xs L - ovI ys L).map fun n : Nat => (n : Int)
  | [], low, h0, _, _, _, hv, hk => by
    have e : tellS (fun L => ovI xs L - ovI ys L) = none := tellS_none fun j => by
      by_cases c : (j : Int) ≤ low
      · exact hk j (by omega) c
      · have a1 : ovI xs j = 0 := ov_top fun x hx => by
          rcases hv x (List.mem_append_left _ hx) with q | q
          · omega
          · cases q
        have a2 : ovI ys j = 0 := ov_top fun x hx => by
          rcases hv x (List.mem_append_right _ hx) with q | q
          · omega
          · cases q
        show ovI xs j - ovI ys j ≤ 0
        omega
    rw [e]
    rfl
  | h :: t, low, h0, hp, hl, h30, hv, hk => by
    obtain ⟨p1, p2⟩ := List.pairwise_cons.mp hp
    have hlh : low ≤ h := hl h (.head _)
    have gap : ∀ x ∈ xs ++ ys, x ≤ low ∨ h ≤ x := fun x hx => by
      rcases hv x hx with q | q
      · exact .inl q
      · rcases List.mem_cons.mp q with q | q
        · exact .inr (by omega)
        · exact .inr (by have := p1 x q; omega)
    have lin : ∀ s : Int, 0 ≤ s → low + s ≤ h → ovI xs (low + s) - ovI ys (low + s) = (ovI xs low - ovI ys low) + s * (cntI ys h - cntI xs h) := fun s s0 s1 => by
      rw [ov_lin s0 s1 fun x hx => gap x (List.mem_append_left _ hx), ov_lin s0 s1 fun x hx => gap x (List.mem_append_right _ hx), Int.mul_sub]
      omega
    have hlow := hk low h0 (Int.le_refl _)
    have hh := lin (h - low) (by omega) (by omega)
    rw [show low + (h - low) = h by omega] at hh
    have h3 : h ≤ 30 := h30 h (.head _)
    generalize hd : cntI ys h - cntI xs h = d at lin hh
    generalize hl0 : ovI xs low - ovI ys low = fl at lin hh hlow
    show (if ovI xs h - ovI ys h > 0 then _ else _) = _
    by_cases c : ovI xs h - ovI ys h > 0
    · rw [if_pos c]
      have dpos : 0 < d := by
        have : 0 < (h - low) * d := by omega
        have h2 : 0 ≤ h - low := by omega
        rcases Int.lt_or_le 0 d with q | q
        · exact q
        · have := Int.mul_nonpos_of_nonneg_of_nonpos h2 q
          omega
      have hlt : 0 < h - low := by
        rcases Int.lt_or_le 0 (h - low) with q | q
        · exact q
        · have e : h - low = 0 := by omega
          rw [e, Int.zero_mul] at hh
          omega
      have e1 : -fl + (ovI xs h - ovI ys h) = d * (h - low) := by
        rw [hh, Int.mul_comm d]
        omega
      have e2 : -fl * (h - low) / (-fl + (ovI xs h - ovI ys h)) = -fl / d := by
        rw [e1, Int.mul_ediv_mul_of_pos_left _ _ hlt]
      rw [e2]
      have q0 : 0 ≤ -fl / d := Int.ediv_nonneg (by omega) (by omega)
      have q1 : -fl / d * d ≤ -fl := Int.ediv_mul_le _ (by omega)
      have q2 : -fl < (-fl / d + 1) * d := Int.lt_ediv_add_one_mul_self _ dpos
      have q3 : -fl / d < h - low := Int.ediv_lt_of_lt_mul dpos (by
        have : -fl < d * (h - low) := by omega
        rw [Int.mul_comm]
        exact this)
      generalize hg : -fl / d = g at q0 q1 q2 q3 ⊢
      have up := lin (g + 1) (by omega) (by omega)
      have es : tellS (fun L => ovI xs L - ovI ys L) = some (low + g + 1).toNat := by
        have ec : (((low + g + 1).toNat : Nat) : Int) = low + g + 1 := by omega
        refine tellS_some (by omega) ?_ fun j hj => ?_
        · show ovI xs (((low + g + 1).toNat : Nat) : Int) - ovI ys (((low + g + 1).toNat : Nat) : Int) > 0
          rw [ec, show low + g + 1 = low + (g + 1) by omega, up]
          omega
        · show ovI xs (j : Int) - ovI ys (j : Int) ≤ 0
          by_cases cj : (j : Int) ≤ low
          · exact hk j (by omega) cj
          · have lj := lin ((j : Int) - low) (by omega) (by omega)
            rw [show low + ((j : Int) - low) = (j : Int) by omega] at lj
            rw [lj]
            have : ((j : Int) - low) * d ≤ g * d := Int.mul_le_mul_of_nonneg_right (by omega) (by omega)
            omega
      rw [es]
      show some _ = some _
      congr 1
      show low + g + 1 = (((low + g + 1).toNat : Nat) : Int)
      omega
    · rw [if_neg c]
      refine tell_go hb t h (by omega) p2 (fun x hx => by have := p1 x hx; omega) (fun x hx => h30 x (.tail _ hx)) (fun x hx => ?_) fun k k0 k1 => ?_
      · rcases hv x hx with q | q
        · exact .inl (by omega)
        · rcases List.mem_cons.mp q with q | q
          · exact .inl (by omega)
          · exact .inr q
      · by_cases ck : k ≤ low
        · exact hk k k0 ck
        · have lk := lin (k - low) (by omega) (by omega)
          rw [show low + (k - low) = k by omega] at lk
          rw [lk]
          rcases Int.lt_or_le 0 d with q | q
          · have : (k - low) * d ≤ (h - low) * d := Int.mul_le_mul_of_nonneg_right (by omega) (by omega)
            omega
          · have := Int.mul_nonpos_of_nonneg_of_nonpos (show 0 ≤ k - low by omega) q
            omega
theorem tell_eq {xs ys : List Int} (h0 : ∀ x ∈ xs ++ ys, 0 ≤ x) (h30 : ∀ x ∈ xs ++ ys, x ≤ 30) (hs : xs.sum = ys.sum) :
    tellGo (fun L => ovI xs L - ovI ys L) (sdI (xs ++ ys)) 0 0 = (tellS fun L => ovI xs L - ovI ys L).map fun n : Nat => (n : Int) := by
  have e0 : ovI xs 0 - ovI ys 0 = 0 := by
    rw [ov_zero fun x hx => h0 x (List.mem_append_left _ hx), ov_zero fun x hx => h0 x (List.mem_append_right _ hx)]
    omega
  have := tell_go h30 (sdI (xs ++ ys)) 0 (Int.le_refl _) (pw_sdI _) (fun h hh => h0 h (mem_sdI.mp hh)) (fun h hh => h30 h (mem_sdI.mp hh)) (fun x hx => .inr (mem_sdI.mpr hx)) fun k k0 k1 => by
    have : k = 0 := by omega
    subst this
    omega
  rw [e0] at this
  exact this
end FRT
end
section
set_option maxRecDepth 100000
set_option maxHeartbeats 4000001
set_option linter.all false
namespace FRT
open PySem L2
theorem intsOf_map : ∀ l : List Int, intsOf (l.map D.int) = some l
  | [] => rfl
  | b :: l => by
    show (intsOf (l.map D.int)).map (b :: ·) = _
    rw [intsOf_map l]
    rfl
theorem sum_map (l : List Int) : prSum (.lst (l.map D.int)) = some (.sh (.int l.sum)) := by
  show (intsOf (l.map D.int)).bind (fun ns => vi ns.sum) = _
  rw [intsOf_map]
  rfl
/-- a row of ints, a tuple or a list -/
def RowI (A : D) (xs : List Int) : Prop := (A = .tup (xs.map D.int) ∨ A = .lst (xs.map D.int)) ∧ xs.length ≤ 1000
theorem row_it {A : D} {xs : List Int} (h : RowI A xs) {m : M Vd} {ρ ρ1 : Ro} (e : m ρ = .ok (.sh A) ρ1) : mitA m ρ = .ok (xs.map D.int) ρ1 := by
  unfold mitA
  rw [e, bind_ok]
  rcases h.1 with rfl | rfl <;> rfl
theorem le_line {n : Nat} (h : n ≤ 1000) : n ≤ sizeLine := by rw [sizeLine_eq]; omega
theorem over_ok {A : D} {xs : List Int} (h : RowI A xs) (L : Int) : fn_over [.sh A, .sh (.int L)] = .ok (.sh (.int (ovI xs L))) [.sh A, .sh (.int L)] := by
  have e1 := row_it h (m := mslot 0) (ρ := [.sh A, .sh (.int L), .un]) (ρ1 := [.sh A, .sh (.int L), .un]) rfl
  have e2 : cLoop (fNm 2) mtrue (m2 prMax (mpe (mlit (.int 0))) (mpe (m2 prSub (mps 2) (mps 1)))) [2] (xs.map D.int) [] [.sh A, .sh (.int L), .un] = .ok ([] ++ (xs.map D.int).map fun d => match d with | .int x => D.int (if x - L > 0 then x - L else 0) | d => d) [.sh A, .sh (.int L), .un] :=
    cl_map _ _ _ (fun d hd => by
      obtain ⟨x, _, rfl⟩ := List.mem_map.mp hd
      exact ⟨_, _, _, rfl, rfl, rfl, rfl⟩) (by rw [List.length_map]; exact le_line (by simpa using h.2))
  have e3 : ([] ++ (xs.map D.int).map fun d => match d with | .int x => D.int (if x - L > 0 then x - L else 0) | d => d) = (xs.map fun x => if x - L > 0 then x - L else 0).map D.int := by
    rw [List.nil_append, List.map_map, List.map_map]
    rfl
  rw [e3] at e2
  exact run_rt rfl (ret_ok (m1_ok (mpe_ok (mc_ok' e1 e2)) rfl (sum_map _)))
theorem lover_ok {A : D} {xs : List Int} (h : RowI A xs) (L : Int) (hb : ∀ x ∈ xs, x - L < 2 ^ 62) : fn__law_over [.sh A, .sh (.int L)] = .ok (.sh (.int (ovI xs L))) [.sh A, .sh (.int L)] := by
  have e1 := row_it h (m := mslot 0) (ρ := [.sh A, .sh (.int L), .un]) (ρ1 := [.sh A, .sh (.int L), .un]) rfl
  have e2 : cLoop (fNm 2) mtrue (m2 prLenRange (mps 1) (mps 2)) [2] (xs.map D.int) [] [.sh A, .sh (.int L), .un] = .ok ([] ++ (xs.map D.int).map fun d => match d with | .int x => D.int (if x - L > 0 then x - L else 0) | d => d) [.sh A, .sh (.int L), .un] :=
    cl_map _ _ _ (fun d hd => by
      obtain ⟨x, hx, rfl⟩ := List.mem_map.mp hd
      refine ⟨[.sh A, .sh (.int L), .sh (.int x)], .sh (.int (if L < x then x - L else 0)), [.sh A, .sh (.int L), .sh (.int x)], rfl, m2_ok (x := .int L) (y := .int x) rfl rfl rfl rfl ?_, rfl, ?_⟩
      · show (if x - L < 2 ^ 62 then vi (if L < x then x - L else 0) else none) = _
        rw [if_pos (hb x hx)]
        rfl
      · show D.int (if L < x then x - L else 0) = D.int (if x - L > 0 then x - L else 0)
        by_cases c : L < x
        · rw [if_pos c, if_pos (by omega)]
        · rw [if_neg c, if_neg (by omega)]) (by rw [List.length_map]; exact le_line (by simpa using h.2))
  have e3 : ([] ++ (xs.map D.int).map fun d => match d with | .int x => D.int (if x - L > 0 then x - L else 0) | d => d) = (xs.map fun x => if x - L > 0 then x - L else 0).map D.int := by
    rw [List.nil_append, List.map_map, List.map_map]
    rfl
  rw [e3] at e2
  exact run_rt rfl (ret_ok (m1_ok (mpe_ok (mc_ok' e1 e2)) rfl (sum_map _)))
def optI : Option Int → D
  | none => .non
  | some i => .int i
/-- 0 to 30, few -/
structure Sm (xs : List Int) : Prop where
  lo : ∀ x ∈ xs, 0 ≤ x
  hi : ∀ x ∈ xs, x ≤ 30
  few : xs.length ≤ 10
theorem Sm.sum {xs : List Int} (h : Sm xs) : xs.sum ≤ 300 := by
  have : ∀ l : List Int, (∀ x ∈ l, x ≤ 30) → l.sum ≤ 30 * l.length := fun l => by
    induction l with
    | nil => intro _; simp
    | cons a l ih =>
      intro hl
      have := ih fun x hx => hl x (.tail _ hx)
      have := hl a (.head _)
      rw [List.sum_cons, List.length_cons]
      omega
  have := this xs h.hi
  have := h.few
  omega
theorem Sm.ov {xs : List Int} (h : Sm xs) {L : Int} (hL : 0 ≤ L) : 0 ≤ ovI xs L ∧ ovI xs L ≤ 300 := ⟨ov_pos, Int.le_trans (ov_le hL h.lo) h.sum⟩
theorem ltells_ok {A B : D} {xs ys : List Int} (hA : RowI A xs) (hB : RowI B ys) (sx : Sm xs) (sy : Sm ys) :
    fn__law_tells [.sh A, .sh B] = .ok (.sh (optI ((tellS fun L => ovI xs L - ovI ys L).map fun n : Nat => (n : Int)))) [.sh A, .sh B] := by
  have loop : ∀ (ks : List Nat) (s : Sl), s.nb → (∃ s', s'.nb ∧ ks.find? (fun k : Nat => decide (ovI xs (k : Int) - ovI ys (k : Int) > 0)) = none ∧ fLoop (fNm 2) (sIf (mbl (m2 prGt (mpe (mcalln 2 fn__law_over (mpc (mpe (mslot 0)) (mpc (mpe (mslot 2)) mpn)))) (mpe (mcalln 2 fn__law_over (mpc (mpe (mslot 1)) (mpc (mpe (mslot 2)) mpn)))))) (sRet (mmove 2)) snil) (ks.map fun k : Nat => D.int (k : Int)) [.sh A, .sh B, s] = .ok .nx [.sh A, .sh B, s']) ∨
      ∃ k s', ks.find? (fun k : Nat => decide (ovI xs (k : Int) - ovI ys (k : Int) > 0)) = some k ∧ fLoop (fNm 2) (sIf (mbl (m2 prGt (mpe (mcalln 2 fn__law_over (mpc (mpe (mslot 0)) (mpc (mpe (mslot 2)) mpn)))) (mpe (mcalln 2 fn__law_over (mpc (mpe (mslot 1)) (mpc (mpe (mslot 2)) mpn)))))) (sRet (mmove 2)) snil) (ks.map fun k : Nat => D.int (k : Int)) [.sh A, .sh B, s] = .ok (.rt (.sh (.int k))) [.sh A, .sh B, s'] := by
    intro ks
    induction ks with
    | nil => exact fun s hs => .inl ⟨s, hs, rfl, rfl⟩
    | cons k ks ih =>
      intro s hs
      have f1 : fNm 2 (.int (k : Int)) [.sh A, .sh B, s] = some [.sh A, .sh B, .sh (.int (k : Int))] := fNm_nb (i := 2) (ρ := [.sh A, .sh B, s]) rfl hs
      have o1 := lover_ok hA (k : Int) fun x hx => by have := sx.hi x hx; omega
      have o2 := lover_ok hB (k : Int) fun x hx => by have := sy.hi x hx; omega
      rw [List.find?_cons]
      by_cases c : ovI xs (k : Int) - ovI ys (k : Int) > 0
      · rw [decide_eq_true c]
        refine .inr ⟨k, .sh (.int (k : Int)), rfl, ?_⟩
        show (match fNm 2 (.int (k : Int)) [.sh A, .sh B, s] with | none => Rs.bad | some ρa => _) = _
        rw [f1]
        dsimp only
        simp only [runF, sseq, sIf, sAsg, sRet, sSetIx, sExp, sPar2, sTg, snil, mbl, m2, m1, mps, mpe, mlit, mslot, mmove, mif, mand, mor, mnot, mtru, mandv, morv, mnotv, mcons, mnil, mlst, mtup, mpc, mpn, mcalln, callR, mcallT, bind_ok, bind_bad, bind_exc, ofO, Pr.get, Sl.d, Sl.owned, Ro.own, Ro.put, Sl.put, argA, putB, setV, Vd.sl, Vd.d, backA, okArg, e_lenL, e_lenS, e_lenT, e_absI, e_intI, e_intB, e_addI, e_subI, e_ltI, e_leI, e_gtI, e_geI, e_negI, e_truB, e_truN, e_eqI, e_eqS, e_eqB, e_neI, e_neB, e_listL, e_listS, e_listT, List.all_cons, List.all_nil, Bool.and_true, Bool.and_self, List.length_cons, List.length_nil, List.cons_append, List.nil_append, List.replicate, List.set_cons_zero, List.set_cons_succ, List.getElem?_cons_zero, List.getElem?_cons_succ, Option.bind_some, Option.map_some, ite_true, ite_false, Nat.reduceAdd, Nat.reduceSub, Bool.true_eq_false, Bool.false_eq_true, reduceIte, List.length_map, sizeLine_eq, Nat.reduceLeDiff, Nat.zero_add, Nat.zero_le, and_self, and_true, true_and, beq_self_eq_true, Bool.not_true, Bool.not_false, o1, o2, decide_eq_true (show ovI ys (k : Int) < ovI xs (k : Int) by omega)]
      · rw [decide_eq_false c]
        have eb : sIf (mbl (m2 prGt (mpe (mcalln 2 fn__law_over (mpc (mpe (mslot 0)) (mpc (mpe (mslot 2)) mpn)))) (mpe (mcalln 2 fn__law_over (mpc (mpe (mslot 1)) (mpc (mpe (mslot 2)) mpn)))))) (sRet (mmove 2)) snil [.sh A, .sh B, .sh (.int (k : Int))] = .ok .nx [.sh A, .sh B, .sh (.int (k : Int))] := by
          simp only [runF, sseq, sIf, sAsg, sRet, sSetIx, sExp, sPar2, sTg, snil, mbl, m2, m1, mps, mpe, mlit, mslot, mmove, mif, mand, mor, mnot, mtru, mandv, morv, mnotv, mcons, mnil, mlst, mtup, mpc, mpn, mcalln, callR, mcallT, bind_ok, bind_bad, bind_exc, ofO, Pr.get, Sl.d, Sl.owned, Ro.own, Ro.put, Sl.put, argA, putB, setV, Vd.sl, Vd.d, backA, okArg, e_lenL, e_lenS, e_lenT, e_absI, e_intI, e_intB, e_addI, e_subI, e_ltI, e_leI, e_gtI, e_geI, e_negI, e_truB, e_truN, e_eqI, e_eqS, e_eqB, e_neI, e_neB, e_listL, e_listS, e_listT, List.all_cons, List.all_nil, Bool.and_true, Bool.and_self, List.length_cons, List.length_nil, List.cons_append, List.nil_append, List.replicate, List.set_cons_zero, List.set_cons_succ, List.getElem?_cons_zero, List.getElem?_cons_succ, Option.bind_some, Option.map_some, ite_true, ite_false, Nat.reduceAdd, Nat.reduceSub, Bool.true_eq_false, Bool.false_eq_true, reduceIte, List.length_map, sizeLine_eq, Nat.reduceLeDiff, Nat.zero_add, Nat.zero_le, and_self, and_true, true_and, beq_self_eq_true, Bool.not_true, Bool.not_false, o1, o2, decide_eq_false (show ¬ ovI ys (k : Int) < ovI xs (k : Int) by omega)]
        have st : ∀ r, fLoop (fNm 2) (sIf (mbl (m2 prGt (mpe (mcalln 2 fn__law_over (mpc (mpe (mslot 0)) (mpc (mpe (mslot 2)) mpn)))) (mpe (mcalln 2 fn__law_over (mpc (mpe (mslot 1)) (mpc (mpe (mslot 2)) mpn)))))) (sRet (mmove 2)) snil) (ks.map fun k : Nat => D.int (k : Int)) [.sh A, .sh B, .sh (.int (k : Int))] = r →
            fLoop (fNm 2) (sIf (mbl (m2 prGt (mpe (mcalln 2 fn__law_over (mpc (mpe (mslot 0)) (mpc (mpe (mslot 2)) mpn)))) (mpe (mcalln 2 fn__law_over (mpc (mpe (mslot 1)) (mpc (mpe (mslot 2)) mpn)))))) (sRet (mmove 2)) snil) ((k :: ks).map fun k : Nat => D.int (k : Int)) [.sh A, .sh B, s] = r := fun r hr => by
          show (match fNm 2 (.int (k : Int)) [.sh A, .sh B, s] with | none => Rs.bad | some ρa => _) = _
          rw [f1]
          dsimp only
          rw [eb]
          exact hr
        rcases ih (.sh (.int (k : Int))) trivial with ⟨s', h1, h2, h3⟩ | ⟨j, s', h2, h3⟩
        · exact .inl ⟨s', h1, h2, st _ h3⟩
        · exact .inr ⟨j, s', h2, st _ h3⟩
  have hi : mit1 (mcons (mlit (.int 32)) mnil) [.sh A, .sh B, .un] = .ok ((List.range 32).map fun i : Nat => D.int (i : Int)) [.sh A, .sh B, .un] := mit1_ok (n := 32) (by decide) rfl
  unfold fn__law_tells b__law_tells
  rcases loop (List.range 32) .un trivial with ⟨s', h1, h2, h3⟩ | ⟨k, s', h2, h3⟩
  · have et : tellS (fun L => ovI xs L - ovI ys L) = none := h2
    rw [et]
    exact run_rt (ρ' := [.sh A, .sh B, s']) rfl ((seq_nx (for_ok hi h3)).trans rfl)
  · have et : tellS (fun L => ovI xs L - ovI ys L) = some k := h2
    rw [et]
    exact run_rt (ρ' := [.sh A, .sh B, s']) rfl (seq_rt (for_ok hi h3))
abbrev tBody : M Fl := sseq (sAsg 5 (m2 prSub (mpe (mcalln 2 fn_over (mpc (mpe (mslot 0)) (mpc (mpe (mslot 4)) mpn)))) (mpe (mcalln 2 fn_over (mpc (mpe (mslot 1)) (mpc (mpe (mslot 4)) mpn))))))
    (sseq (sIf (mbl (m2 prGt (mps 5) (mpe (mlit (.int 0))))) (sRet (m2 prAdd (mpe (m2 prAdd (mps 2) (mpe (m2 prDiv (mpe (m2 prMul (mps 3) (mpe (m2 prSub (mps 4) (mps 2))))) (mpe (m2 prAdd (mps 3) (mps 5))))))) (mpe (mlit (.int 1))))) snil)
    (sseq (sAsg 2 (mslot 4))
    (sAsg 3 (m1 prNeg (mps 5)))))
theorem tloop_ok {A B : D} {xs ys : List Int} (hA : RowI A xs) (hB : RowI B ys) (sx : Sm xs) (sy : Sm ys) : ∀ (hs : List Int) (low less : Int) (s4 s5 : Sl), s4.nb → s5.nb → (∀ h ∈ hs, 0 ≤ h ∧ h ≤ 30) → 0 ≤ low → low ≤ 30 → 0 ≤ less → less ≤ 300 →
    (tellGo (fun L => ovI xs L - ovI ys L) hs low less = none ∧ ∃ ρ', fLoop (fNm 4) tBody (hs.map D.int) [.sh A, .sh B, .sh (.int low), .sh (.int less), s4, s5] = .ok .nx (.sh A :: .sh B :: ρ')) ∨
    ∃ k ρ', tellGo (fun L => ovI xs L - ovI ys L) hs low less = some k ∧ fLoop (fNm 4) tBody (hs.map D.int) [.sh A, .sh B, .sh (.int low), .sh (.int less), s4, s5] = .ok (.rt (.sh (.int k))) (.sh A :: .sh B :: ρ')
  | [], low, less, s4, s5, n4, n5, _, _, _, _, _ => .inl ⟨rfl, _, rfl⟩
  | h :: hs, low, less, s4, s5, n4, n5, hh, l0, l1, e0, e1 => by
    obtain ⟨h0, h1⟩ := hh h (.head _)
    have f1 : fNm 4 (.int h) [.sh A, .sh B, .sh (.int low), .sh (.int less), s4, s5] = some [.sh A, .sh B, .sh (.int low), .sh (.int less), .sh (.int h), s5] := fNm_nb (i := 4) (ρ := [.sh A, .sh B, .sh (.int low), .sh (.int less), s4, s5]) rfl n4
    have o1 := over_ok hA h
    have o2 := over_ok hB h
    have b1 := sx.ov h0
    have b2 := sy.ov h0
    have a1 : sAsg 5 (m2 prSub (mpe (mcalln 2 fn_over (mpc (mpe (mslot 0)) (mpc (mpe (mslot 4)) mpn)))) (mpe (mcalln 2 fn_over (mpc (mpe (mslot 1)) (mpc (mpe (mslot 4)) mpn))))) [.sh A, .sh B, .sh (.int low), .sh (.int less), .sh (.int h), s5] = .ok .nx [.sh A, .sh B, .sh (.int low), .sh (.int less), .sh (.int h), .sh (.int (ovI xs h - ovI ys h))] := by
      refine asg_ok (v := .sh (.int (ovI xs h - ovI ys h))) (ρ1 := [.sh A, .sh B, .sh (.int low), .sh (.int less), .sh (.int h), s5]) ?_ (setV_nb (i := 5) (ρ := [.sh A, .sh B, .sh (.int low), .sh (.int less), .sh (.int h), s5]) rfl n5)
      simp only [runF, sseq, sIf, sAsg, sRet, sSetIx, sExp, sPar2, sTg, snil, mbl, m2, m1, mps, mpe, mlit, mslot, mmove, mif, mand, mor, mnot, mtru, mandv, morv, mnotv, mcons, mnil, mlst, mtup, mpc, mpn, mcalln, callR, mcallT, bind_ok, bind_bad, bind_exc, ofO, Pr.get, Sl.d, Sl.owned, Ro.own, Ro.put, Sl.put, argA, putB, setV, Vd.sl, Vd.d, backA, okArg, e_lenL, e_lenS, e_lenT, e_absI, e_intI, e_intB, e_addI, e_subI, e_ltI, e_leI, e_gtI, e_geI, e_negI, e_truB, e_truN, e_eqI, e_eqS, e_eqB, e_neI, e_neB, e_listL, e_listS, e_listT, List.all_cons, List.all_nil, Bool.and_true, Bool.and_self, List.length_cons, List.length_nil, List.cons_append, List.nil_append, List.replicate, List.set_cons_zero, List.set_cons_succ, List.getElem?_cons_zero, List.getElem?_cons_succ, Option.bind_some, Option.map_some, ite_true, ite_false, Nat.reduceAdd, Nat.reduceSub, Bool.true_eq_false, Bool.false_eq_true, reduceIte, List.length_map, sizeLine_eq, Nat.reduceLeDiff, Nat.zero_add, Nat.zero_le, and_self, and_true, true_and, beq_self_eq_true, Bool.not_true, Bool.not_false, o1, o2]
    by_cases c : ovI xs h - ovI ys h > 0
    · refine .inr ⟨low + less * (h - low) / (less + (ovI xs h - ovI ys h)) + 1, [.sh (.int low), .sh (.int less), .sh (.int h), .sh (.int (ovI xs h - ovI ys h))], ?_, ?_⟩
      · show (if ovI xs h - ovI ys h > 0 then _ else _) = _
        rw [if_pos c]
      · show (match fNm 4 (.int h) [.sh A, .sh B, .sh (.int low), .sh (.int less), s4, s5] with | none => Rs.bad | some ρa => _) = _
        rw [f1]
        dsimp only
        have m1 : prMul (.int less) (.int (h - low)) = some (.sh (.int (less * (h - low)))) := mul_r (by omega)
        have d1 : ∀ i : Int, prDiv (.int i) (.int (less + (ovI xs h - ovI ys h))) = some (.sh (.int (i / (less + (ovI xs h - ovI ys h))))) := fun i => div_ok (by omega) (by omega)
        rw [show tBody [.sh A, .sh B, .sh (.int low), .sh (.int less), .sh (.int h), s5] = .ok (.rt (.sh (.int (low + less * (h - low) / (less + (ovI xs h - ovI ys h)) + 1)))) [.sh A, .sh B, .sh (.int low), .sh (.int less), .sh (.int h), .sh (.int (ovI xs h - ovI ys h))] from by
          unfold tBody
          rw [seq_nx a1]
          simp only [runF, sseq, sIf, sAsg, sRet, sSetIx, sExp, sPar2, sTg, snil, mbl, m2, m1, mps, mpe, mlit, mslot, mmove, mif, mand, mor, mnot, mtru, mandv, morv, mnotv, mcons, mnil, mlst, mtup, mpc, mpn, mcalln, callR, mcallT, bind_ok, bind_bad, bind_exc, ofO, Pr.get, Sl.d, Sl.owned, Ro.own, Ro.put, Sl.put, argA, putB, setV, Vd.sl, Vd.d, backA, okArg, e_lenL, e_lenS, e_lenT, e_absI, e_intI, e_intB, e_addI, e_subI, e_ltI, e_leI, e_gtI, e_geI, e_negI, e_truB, e_truN, e_eqI, e_eqS, e_eqB, e_neI, e_neB, e_listL, e_listS, e_listT, List.all_cons, List.all_nil, Bool.and_true, Bool.and_self, List.length_cons, List.length_nil, List.cons_append, List.nil_append, List.replicate, List.set_cons_zero, List.set_cons_succ, List.getElem?_cons_zero, List.getElem?_cons_succ, Option.bind_some, Option.map_some, ite_true, ite_false, Nat.reduceAdd, Nat.reduceSub, Bool.true_eq_false, Bool.false_eq_true, reduceIte, List.length_map, sizeLine_eq, Nat.reduceLeDiff, Nat.zero_add, Nat.zero_le, and_self, and_true, true_and, beq_self_eq_true, Bool.not_true, Bool.not_false, decide_eq_true (show 0 < ovI xs h - ovI ys h from c), m1, d1]]
    · have eb : tBody [.sh A, .sh B, .sh (.int low), .sh (.int less), .sh (.int h), s5] = .ok .nx [.sh A, .sh B, .sh (.int h), .sh (.int (-(ovI xs h - ovI ys h))), .sh (.int h), .sh (.int (ovI xs h - ovI ys h))] := by
        unfold tBody
        rw [seq_nx a1]
        simp only [runF, sseq, sIf, sAsg, sRet, sSetIx, sExp, sPar2, sTg, snil, mbl, m2, m1, mps, mpe, mlit, mslot, mmove, mif, mand, mor, mnot, mtru, mandv, morv, mnotv, mcons, mnil, mlst, mtup, mpc, mpn, mcalln, callR, mcallT, bind_ok, bind_bad, bind_exc, ofO, Pr.get, Sl.d, Sl.owned, Ro.own, Ro.put, Sl.put, argA, putB, setV, Vd.sl, Vd.d, backA, okArg, e_lenL, e_lenS, e_lenT, e_absI, e_intI, e_intB, e_addI, e_subI, e_ltI, e_leI, e_gtI, e_geI, e_negI, e_truB, e_truN, e_eqI, e_eqS, e_eqB, e_neI, e_neB, e_listL, e_listS, e_listT, List.all_cons, List.all_nil, Bool.and_true, Bool.and_self, List.length_cons, List.length_nil, List.cons_append, List.nil_append, List.replicate, List.set_cons_zero, List.set_cons_succ, List.getElem?_cons_zero, List.getElem?_cons_succ, Option.bind_some, Option.map_some, ite_true, ite_false, Nat.reduceAdd, Nat.reduceSub, Bool.true_eq_false, Bool.false_eq_true, reduceIte, List.length_map, sizeLine_eq, Nat.reduceLeDiff, Nat.zero_add, Nat.zero_le, and_self, and_true, true_and, beq_self_eq_true, Bool.not_true, Bool.not_false, decide_eq_false (show ¬ 0 < ovI xs h - ovI ys h from c)]
      have eg : tellGo (fun L => ovI xs L - ovI ys L) (h :: hs) low less = tellGo (fun L => ovI xs L - ovI ys L) hs h (-(ovI xs h - ovI ys h)) := by
        show (if ovI xs h - ovI ys h > 0 then _ else _) = _
        rw [if_neg c]
      have el : fLoop (fNm 4) tBody ((h :: hs).map D.int) [.sh A, .sh B, .sh (.int low), .sh (.int less), s4, s5] = fLoop (fNm 4) tBody (hs.map D.int) [.sh A, .sh B, .sh (.int h), .sh (.int (-(ovI xs h - ovI ys h))), .sh (.int h), .sh (.int (ovI xs h - ovI ys h))] := by
        show (match fNm 4 (.int h) [.sh A, .sh B, .sh (.int low), .sh (.int less), s4, s5] with | none => Rs.bad | some ρa => _) = _
        rw [f1]
        dsimp only
        rw [eb]
      rw [eg, el]
      exact tloop_ok hA hB sx sy hs h _ _ _ trivial trivial (fun x hx => hh x (.tail _ hx)) h0 h1 (by omega) (by omega)
theorem telling_ok {A B : D} {xs ys : List Int} (hA : RowI A xs) (hB : RowI B ys) (sx : Sm xs) (sy : Sm ys) (hs : xs.sum = ys.sum) :
    fn_telling_level [.sh A, .sh B] = .ok (.sh (optI ((tellS fun L => ovI xs L - ovI ys L).map fun n : Nat => (n : Int)))) [.sh A, .sh B] := by
  rw [← tell_eq (fun x hx => (List.mem_append.mp hx).elim (sx.lo x) (sy.lo x)) (fun x hx => (List.mem_append.mp hx).elim (sx.hi x) (sy.hi x)) hs]
  have hl : ∀ {A : D} {xs : List Int}, RowI A xs → prList A = some (.fr (xs.map D.int)) := fun h => by
    rcases h.1 with rfl | rfl <;> rfl
  have it : mitA (m1 prSortSet (mpe (m2 prAdd (mpe (m1 prList (mps 0))) (mpe (m1 prList (mps 1)))))) [.sh A, .sh B, .sh (.int 0), .sh (.int 0), .un, .un] = .ok ((sdI (xs ++ ys)).map D.int) [.sh A, .sh B, .sh (.int 0), .sh (.int 0), .un, .un] := by
    have e1 : prAdd (.lst (xs.map D.int)) (.lst (ys.map D.int)) = some (.fr ((xs ++ ys).map D.int)) := by
      show (if (xs.map D.int).length + (ys.map D.int).length ≤ sizeLine then some (Vd.fr (xs.map D.int ++ ys.map D.int)) else none) = _
      rw [if_pos (by rw [List.length_map, List.length_map]; exact le_line (by have := sx.few; have := sy.few; omega)), List.map_append]
    have e2 : prSortSet (.lst ((xs ++ ys).map D.int)) = some (.fr ((sdI (xs ++ ys)).map D.int)) := by
      show (intsOf ((xs ++ ys).map D.int)).bind (fun ns => if ns.length < 64 then some (Vd.fr ((sdI ns).map D.int)) else none) = _
      rw [intsOf_map, Option.bind_some, if_pos (by rw [List.length_append]; have := sx.few; have := sy.few; omega)]
    unfold mitA
    simp only [runF, sseq, sIf, sAsg, sRet, sSetIx, sExp, sPar2, sTg, snil, mbl, m2, m1, mps, mpe, mlit, mslot, mmove, mif, mand, mor, mnot, mtru, mandv, morv, mnotv, mcons, mnil, mlst, mtup, mpc, mpn, mcalln, callR, mcallT, bind_ok, bind_bad, bind_exc, ofO, Pr.get, Sl.d, Sl.owned, Ro.own, Ro.put, Sl.put, argA, putB, setV, Vd.sl, Vd.d, backA, okArg, e_lenL, e_lenS, e_lenT, e_absI, e_intI, e_intB, e_addI, e_subI, e_ltI, e_leI, e_gtI, e_geI, e_negI, e_truB, e_truN, e_eqI, e_eqS, e_eqB, e_neI, e_neB, e_listL, e_listS, e_listT, List.all_cons, List.all_nil, Bool.and_true, Bool.and_self, List.length_cons, List.length_nil, List.cons_append, List.nil_append, List.replicate, List.set_cons_zero, List.set_cons_succ, List.getElem?_cons_zero, List.getElem?_cons_succ, Option.bind_some, Option.map_some, ite_true, ite_false, Nat.reduceAdd, Nat.reduceSub, Bool.true_eq_false, Bool.false_eq_true, reduceIte, List.length_map, sizeLine_eq, Nat.reduceLeDiff, Nat.zero_add, Nat.zero_le, and_self, and_true, true_and, beq_self_eq_true, Bool.not_true, Bool.not_false, hl hA, hl hB, e1, e2]
  unfold fn_telling_level b_telling_level
  rcases tloop_ok hA hB sx sy (sdI (xs ++ ys)) 0 0 .un .un trivial trivial (fun h hh => (List.mem_append.mp (mem_sdI.mp hh)).elim (fun q => ⟨sx.lo h q, sx.hi h q⟩) fun q => ⟨sy.lo h q, sy.hi h q⟩) (by omega) (by omega) (by omega) (by omega) with ⟨e1, ρ', e2⟩ | ⟨k, ρ', e1, e2⟩
  · rw [e1]
    exact run_rt (ρ' := .sh A :: .sh B :: ρ') rfl ((seq_nx rfl).trans ((seq_nx rfl).trans ((seq_nx (for_ok it e2)).trans rfl)))
  · rw [e1]
    exact run_rt (ρ' := .sh A :: .sh B :: ρ') rfl ((seq_nx rfl).trans ((seq_nx rfl).trans (seq_rt (for_ok it e2))))
end FRT
end
section
set_option maxRecDepth 100000
set_option maxHeartbeats 4000001
set_option linter.all false
namespace FRT
open PySem L2
abbrev FF (xs ys : List Int) : Int → Int := fun L => ovI xs L - ovI ys L
abbrev TT2 (xs ys : List Int) : D := optI ((tellS (FF xs ys)).map fun n : Nat => (n : Int))
abbrev GG (xs : List Int) : List D := (List.range 11).map fun k : Nat => D.int (ovI xs (k : Int))
theorem same_opt (n : Nat) (o : Option Int) : SameOk (n + 1) (optI o) := by
  cases o with
  | none => exact same_non _
  | some i => exact same_int _ _
theorem same_GG (n : Nat) (xs : List Int) : SameOk (n + 2) (.lst (GG xs)) := by
  refine same_lst (n + 1) _ (by rw [List.length_map, List.length_range]; exact le_line (by decide)) fun d hd => ?_
  obtain ⟨k, _, rfl⟩ := List.mem_map.mp hd
  exact same_int _ _
theorem asked_ok {xs ys : List Int} (sx : Sm xs) (sy : Sm ys) (hs : xs.sum = ys.sum) : ∃ as, fn__law_asked [.sh (.tup (xs.map D.int)), .sh (.tup (ys.map D.int))] = .ok (.sh (.bl true)) as := by
  have hA : RowI (.tup (xs.map D.int)) xs := ⟨.inl rfl, by have := sx.few; omega⟩
  have hB : RowI (.tup (ys.map D.int)) ys := ⟨.inl rfl, by have := sy.few; omega⟩
  have hA2 : RowI (.lst (xs.map D.int)) xs := ⟨.inr rfl, by have := sx.few; omega⟩
  have t12 := telling_ok hA hB sx sy hs
  have t21 := telling_ok hB hA sy sx hs.symm
  have t12' := telling_ok hA2 hB sx sy hs
  have t21' := telling_ok hB hA2 sy sx hs.symm
  have l12 := ltells_ok hA hB sx sy
  have l21 := ltells_ok hB hA sy sx
  generalize hAe : D.tup (xs.map D.int) = A at *
  generalize hBe : D.tup (ys.map D.int) = B at *
  have pl : prList A = some (.fr (xs.map D.int)) := by subst hAe; rfl
  have it : ∀ s2 s3 s4 s5, mit1 (mcons (mlit (.int 11)) mnil) [.sh A, .sh B, s2, s3, s4, s5] = .ok ((List.range 11).map fun i : Nat => D.int (i : Int)) [.sh A, .sh B, s2, s3, s4, s5] := fun _ _ _ _ => mit1_ok (n := 11) (by decide) rfl
  have c1 : ∀ s2 s3 s4, mcomp (mit1 (mcons (mlit (.int 11)) mnil)) (fNm 5) mtrue (mcalln 2 fn__law_over (mpc (mpe (mslot 0)) (mpc (mpe (mslot 5)) mpn))) [5] [.sh A, .sh B, s2, s3, s4, .un] = .ok (.fr (GG xs)) [.sh A, .sh B, s2, s3, s4, .un] := fun s2 s3 s4 => by
    have e2 : cLoop (fNm 5) mtrue (mcalln 2 fn__law_over (mpc (mpe (mslot 0)) (mpc (mpe (mslot 5)) mpn))) [5] ((List.range 11).map fun i : Nat => D.int (i : Int)) [] [.sh A, .sh B, s2, s3, s4, .un] = .ok ([] ++ ((List.range 11).map fun i : Nat => D.int (i : Int)).map fun d => match d with | .int k => D.int (ovI xs k) | d => d) [.sh A, .sh B, s2, s3, s4, .un] :=
      cl_map _ _ _ (fun d hd => by
        obtain ⟨k, hk, rfl⟩ := List.mem_map.mp hd
        have o := lover_ok hA (k : Int) fun x hx => by have := sx.hi x hx; omega
        exact ⟨[.sh A, .sh B, s2, s3, s4, .sh (.int (k : Int))], .sh (.int (ovI xs (k : Int))), [.sh A, .sh B, s2, s3, s4, .sh (.int (k : Int))], rfl, by simp only [runF, sseq, sIf, sAsg, sRet, sSetIx, sExp, sPar2, sTg, snil, mbl, m2, m1, mps, mpe, mlit, mslot, mmove, mif, mand, mor, mnot, mtru, mandv, morv, mnotv, mcons, mnil, mlst, mtup, mpc, mpn, mcalln, callR, mcallT, bind_ok, bind_bad, bind_exc, ofO, Pr.get, Sl.d, Sl.owned, Ro.own, Ro.put, Sl.put, argA, putB, setV, Vd.sl, Vd.d, backA, okArg, e_lenL, e_lenS, e_lenT, e_absI, e_intI, e_intB, e_addI, e_subI, e_ltI, e_leI, e_gtI, e_geI, e_negI, e_truB, e_truN, e_eqI, e_eqS, e_eqB, e_neI, e_neB, e_listL, e_listS, e_listT, List.all_cons, List.all_nil, Bool.and_true, Bool.and_self, List.length_cons, List.length_nil, List.cons_append, List.nil_append, List.replicate, List.set_cons_zero, List.set_cons_succ, List.getElem?_cons_zero, List.getElem?_cons_succ, Option.bind_some, Option.map_some, ite_true, ite_false, Nat.reduceAdd, Nat.reduceSub, Bool.true_eq_false, Bool.false_eq_true, reduceIte, List.length_map, sizeLine_eq, Nat.reduceLeDiff, Nat.zero_add, Nat.zero_le, and_self, and_true, true_and, beq_self_eq_true, Bool.not_true, Bool.not_false, o], rfl, rfl⟩) (by rw [List.length_map, List.length_range]; exact le_line (by decide))
    rw [List.nil_append, List.map_map] at e2
    exact mc_ok' (it _ _ _ _) e2
  have c2 : ∀ s2 s3 s4, mcomp (mit1 (mcons (mlit (.int 11)) mnil)) (fNm 5) mtrue (mcalln 2 fn_over (mpc (mpe (mslot 0)) (mpc (mpe (mslot 5)) mpn))) [5] [.sh A, .sh B, s2, s3, s4, .un] = .ok (.fr (GG xs)) [.sh A, .sh B, s2, s3, s4, .un] := fun s2 s3 s4 => by
    have e2 : cLoop (fNm 5) mtrue (mcalln 2 fn_over (mpc (mpe (mslot 0)) (mpc (mpe (mslot 5)) mpn))) [5] ((List.range 11).map fun i : Nat => D.int (i : Int)) [] [.sh A, .sh B, s2, s3, s4, .un] = .ok ([] ++ ((List.range 11).map fun i : Nat => D.int (i : Int)).map fun d => match d with | .int k => D.int (ovI xs k) | d => d) [.sh A, .sh B, s2, s3, s4, .un] :=
      cl_map _ _ _ (fun d hd => by
        obtain ⟨k, hk, rfl⟩ := List.mem_map.mp hd
        have o := over_ok hA (k : Int)
        exact ⟨[.sh A, .sh B, s2, s3, s4, .sh (.int (k : Int))], .sh (.int (ovI xs (k : Int))), [.sh A, .sh B, s2, s3, s4, .sh (.int (k : Int))], rfl, by simp only [runF, sseq, sIf, sAsg, sRet, sSetIx, sExp, sPar2, sTg, snil, mbl, m2, m1, mps, mpe, mlit, mslot, mmove, mif, mand, mor, mnot, mtru, mandv, morv, mnotv, mcons, mnil, mlst, mtup, mpc, mpn, mcalln, callR, mcallT, bind_ok, bind_bad, bind_exc, ofO, Pr.get, Sl.d, Sl.owned, Ro.own, Ro.put, Sl.put, argA, putB, setV, Vd.sl, Vd.d, backA, okArg, e_lenL, e_lenS, e_lenT, e_absI, e_intI, e_intB, e_addI, e_subI, e_ltI, e_leI, e_gtI, e_geI, e_negI, e_truB, e_truN, e_eqI, e_eqS, e_eqB, e_neI, e_neB, e_listL, e_listS, e_listT, List.all_cons, List.all_nil, Bool.and_true, Bool.and_self, List.length_cons, List.length_nil, List.cons_append, List.nil_append, List.replicate, List.set_cons_zero, List.set_cons_succ, List.getElem?_cons_zero, List.getElem?_cons_succ, Option.bind_some, Option.map_some, ite_true, ite_false, Nat.reduceAdd, Nat.reduceSub, Bool.true_eq_false, Bool.false_eq_true, reduceIte, List.length_map, sizeLine_eq, Nat.reduceLeDiff, Nat.zero_add, Nat.zero_le, and_self, and_true, true_and, beq_self_eq_true, Bool.not_true, Bool.not_false, o], rfl, rfl⟩) (by rw [List.length_map, List.length_range]; exact le_line (by decide))
    rw [List.nil_append, List.map_map] at e2
    exact mc_ok' (it _ _ _ _) e2
  have c3 : ∀ s2 s3 s4, mcomp (mit1 (mcons (mlit (.int 11)) mnil)) (fNm 5) mtrue (mcalln 2 fn_over (mpc (mpe (m1 prList (mps 0))) (mpc (mpe (mslot 5)) mpn))) [5] [.sh A, .sh B, s2, s3, s4, .un] = .ok (.fr (GG xs)) [.sh A, .sh B, s2, s3, s4, .un] := fun s2 s3 s4 => by
    have e2 : cLoop (fNm 5) mtrue (mcalln 2 fn_over (mpc (mpe (m1 prList (mps 0))) (mpc (mpe (mslot 5)) mpn))) [5] ((List.range 11).map fun i : Nat => D.int (i : Int)) [] [.sh A, .sh B, s2, s3, s4, .un] = .ok ([] ++ ((List.range 11).map fun i : Nat => D.int (i : Int)).map fun d => match d with | .int k => D.int (ovI xs k) | d => d) [.sh A, .sh B, s2, s3, s4, .un] :=
      cl_map _ _ _ (fun d hd => by
        obtain ⟨k, hk, rfl⟩ := List.mem_map.mp hd
        have o := over_ok hA2 (k : Int)
        exact ⟨[.sh A, .sh B, s2, s3, s4, .sh (.int (k : Int))], .sh (.int (ovI xs (k : Int))), [.sh A, .sh B, s2, s3, s4, .sh (.int (k : Int))], rfl, by simp only [runF, sseq, sIf, sAsg, sRet, sSetIx, sExp, sPar2, sTg, snil, mbl, m2, m1, mps, mpe, mlit, mslot, mmove, mif, mand, mor, mnot, mtru, mandv, morv, mnotv, mcons, mnil, mlst, mtup, mpc, mpn, mcalln, callR, mcallT, bind_ok, bind_bad, bind_exc, ofO, Pr.get, Sl.d, Sl.owned, Ro.own, Ro.put, Sl.put, argA, putB, setV, Vd.sl, Vd.d, backA, okArg, e_lenL, e_lenS, e_lenT, e_absI, e_intI, e_intB, e_addI, e_subI, e_ltI, e_leI, e_gtI, e_geI, e_negI, e_truB, e_truN, e_eqI, e_eqS, e_eqB, e_neI, e_neB, e_listL, e_listS, e_listT, List.all_cons, List.all_nil, Bool.and_true, Bool.and_self, List.length_cons, List.length_nil, List.cons_append, List.nil_append, List.replicate, List.set_cons_zero, List.set_cons_succ, List.getElem?_cons_zero, List.getElem?_cons_succ, Option.bind_some, Option.map_some, ite_true, ite_false, Nat.reduceAdd, Nat.reduceSub, Bool.true_eq_false, Bool.false_eq_true, reduceIte, List.length_map, sizeLine_eq, Nat.reduceLeDiff, Nat.zero_add, Nat.zero_le, and_self, and_true, true_and, beq_self_eq_true, Bool.not_true, Bool.not_false, pl, o], rfl, rfl⟩) (by rw [List.length_map, List.length_range]; exact le_line (by decide))
    rw [List.nil_append, List.map_map] at e2
    exact mc_ok' (it _ _ _ _) e2
  have ad : ∀ x y : List D, x.length + y.length ≤ 20 → prAdd (.lst x) (.lst y) = some (.fr (x ++ y)) := fun x y h => by
    show (if x.length + y.length ≤ sizeLine then some (Vd.fr (x ++ y)) else none) = _
    rw [if_pos (le_line (by omega))]
  have so12 : ∀ n, SameOk (n + 1) (TT2 xs ys) := fun n => same_opt n _
  have so21 : ∀ n, SameOk (n + 1) (TT2 ys xs) := fun n => same_opt n _
  change _ = Rs.ok (Vd.sh (TT2 xs ys)) _ at t12 t12' l12
  change _ = Rs.ok (Vd.sh (TT2 ys xs)) _ at t21 t21' l21
  generalize TT2 xs ys = T1 at *
  generalize TT2 ys xs = T2 at *
  have sG := same_GG 37 xs
  generalize GG xs = G at *
  obtain ⟨as, es⟩ : SameOk 40 (.lst ([.lst G, T1, T2] ++ [.lst G, T1, T2])) := same_lst 39 _ (le_line (show 6 ≤ 1000 by decide)) fun d hd => by
    simp only [List.cons_append, List.nil_append, List.mem_cons, List.not_mem_nil, or_false] at hd
    rcases hd with rfl | rfl | rfl | rfl | rfl | rfl
    · exact sG
    · exact so12 _
    · exact so21 _
    · exact sG
    · exact so12 _
    · exact so21 _
  rw [List.cons_append, List.cons_append, List.cons_append, List.nil_append] at es
  unfold fn__law_asked b__law_asked
  simp only [runF, sseq, sIf, sAsg, sRet, sSetIx, sExp, sPar2, sTg, snil, mbl, m2, m1, mps, mpe, mlit, mslot, mmove, mif, mand, mor, mnot, mtru, mandv, morv, mnotv, mcons, mnil, mlst, mtup, mpc, mpn, mcalln, callR, mcallT, bind_ok, bind_bad, bind_exc, ofO, Pr.get, Sl.d, Sl.owned, Ro.own, Ro.put, Sl.put, argA, putB, setV, Vd.sl, Vd.d, backA, okArg, e_lenL, e_lenS, e_lenT, e_absI, e_intI, e_intB, e_addI, e_subI, e_ltI, e_leI, e_gtI, e_geI, e_negI, e_truB, e_truN, e_eqI, e_eqS, e_eqB, e_neI, e_neB, e_listL, e_listS, e_listT, List.all_cons, List.all_nil, Bool.and_true, Bool.and_self, List.length_cons, List.length_nil, List.cons_append, List.nil_append, List.replicate, List.set_cons_zero, List.set_cons_succ, List.getElem?_cons_zero, List.getElem?_cons_succ, Option.bind_some, Option.map_some, ite_true, ite_false, Nat.reduceAdd, Nat.reduceSub, Bool.true_eq_false, Bool.false_eq_true, reduceIte, List.length_map, sizeLine_eq, Nat.reduceLeDiff, Nat.zero_add, Nat.zero_le, and_self, and_true, true_and, beq_self_eq_true, Bool.not_true, Bool.not_false, c1, c2, c3, l12, l21, t12, t21, t12', t21', pl, ad [.lst G, T1, T2] [.lst G, T1] (show 3 + 2 ≤ 20 by decide), ad [.lst G, T1, T2] [.lst G, T1, T2] (show 3 + 3 ≤ 20 by decide), ad [.lst G, T1, T2, .lst G, T1] [T2] (show 5 + 1 ≤ 20 by decide), es]
  exact ⟨_, rfl⟩
end FRT
end
section
set_option maxRecDepth 100000
set_option maxHeartbeats 4000001
set_option linter.all false
namespace FRT
open PySem L2
theorem sum_set {x y : Int} : ∀ {l : List Int} {i : Nat}, l[i]? = some x → (l.set i y).sum = l.sum - x + y
  | [], i, h => by simp at h
  | a :: l, 0, h => by
    simp only [List.getElem?_cons_zero, Option.some.injEq] at h
    subst h
    rw [List.set_cons_zero, List.sum_cons, List.sum_cons]
    omega
  | a :: l, i + 1, h => by
    rw [List.getElem?_cons_succ] at h
    rw [List.set_cons_succ, List.sum_cons, List.sum_cons, sum_set h]
    omega
theorem le_sum : ∀ {l : List Int} {x : Int}, (∀ y ∈ l, 0 ≤ y) → x ∈ l → x ≤ l.sum
  | [], x, _, h => by cases h
  | a :: l, x, h0, h => by
    rw [List.sum_cons]
    have s0 : ∀ l : List Int, (∀ y ∈ l, 0 ≤ y) → 0 ≤ l.sum := fun l hl => by
      induction l with
      | nil => exact Int.le_refl _
      | cons b l ih =>
        rw [List.sum_cons]
        have := hl b (.head _)
        have := ih fun y hy => hl y (.tail _ hy)
        omega
    rcases List.mem_cons.mp h with rfl | h
    · have := s0 l fun y hy => h0 y (.tail _ hy)
      omega
    · have := le_sum (fun y hy => h0 y (.tail _ hy)) h
      have := h0 a (.head _)
      omega
section
variable {b : Int}
abbrev U (a b c : Int) : Sl := .bor [.int a, .int b, .int c]
/-- some lists of the same length and sum -/
structure Pr2 (xs ys : List Int) : Prop where
  lo : ∀ x ∈ ys, 0 ≤ x
  len : ys.length = xs.length
  sum : ys.sum = xs.sum
abbrev dBody : M Fl := sseq (sPar2 5 6 (mcalln 2 fn__law_take (mpc (mps 0) (mpc (mpe (m1 prLen (mps 3))) mpn))) (mcalln 2 fn__law_take (mpc (mps 0) (mpc (mpe (m1 prLen (mps 3))) mpn))))
    (sseq (sAsg 7 (mcalln 2 fn__law_take (mpc (mps 0) (mpc (mpe (m2 prAdd (mpe (m2 prIx (mps 3) (mps 5))) (mpe (mlit (.int 1))))) mpn))))
    (sseq (sSetIx 3 (m2 prSub (mpe (m2 prIx (mps 3) (mps 5))) (mps 7)) (mslot 5))
    (sSetIx 3 (m2 prAdd (mpe (m2 prIx (mps 3) (mps 6))) (mps 7)) (mslot 6))))
theorem ix_int {l : List Int} {i : Nat} {x : Int} (h : l[i]? = some x) : prIx (.lst (l.map D.int)) (.int (i : Int)) = some (.sh (.int x)) := ix_ok (by rw [List.getElem?_map, h]; rfl)
theorem ixN_nat {n i : Nat} (h : i < n) : ixN n (i : Int) = some i := by
  unfold ixN
  rw [if_pos (by omega), if_pos (by omega), Int.toNat_natCast]
theorem dBody_ok {xs ys : List Int} (p : Pr2 xs ys) (hn : 0 < ys.length) (hl : ys.length ≤ 10) (hs : ys.sum ≤ 300) (hb : 0 ≤ b ∧ b < 2 ^ 62) {a c : Int} (ha : 0 ≤ a) (hc : 0 ≤ c ∧ c < 99000) {s1 s2 s4 s5 s6 s7 s8 : Sl} (n5 : s5.nb) (n6 : s6.nb) (n7 : s7.nb) :
    ∃ a' c' ys' t5 t6 t7, 0 ≤ a' ∧ 0 ≤ c' ∧ c' ≤ c + 3 ∧ Pr2 xs ys' ∧ ys'.length = ys.length ∧ dBody [U a b c, s1, s2, .own (ys.map D.int), s4, s5, s6, s7, s8] = .ok .nx [U a' b c', s1, s2, .own (ys'.map D.int), s4, .sh t5, .sh t6, .sh t7, s8] := by
  obtain ⟨r1, a1, c1, p1, p2, p3, p4, p5, e1⟩ := take_ok a b c (ys.length : Nat) ha hb (by omega) (by omega)
  obtain ⟨r2, a2, c2, q1, q2, q3, q4, q5, e2⟩ := take_ok a1 b c1 (ys.length : Nat) p3 hb (by omega) (by omega)
  obtain ⟨i, rfl⟩ := nat_of p1
  obtain ⟨j, rfl⟩ := nat_of q1
  have hi : i < ys.length := by omega
  have hj : j < ys.length := by omega
  have gi : ys[i]? = some ys[i] := List.getElem?_eq_getElem hi
  have vi0 := p.lo _ (List.getElem_mem hi)
  have vi1 := le_sum p.lo (List.getElem_mem hi)
  obtain ⟨m, a3, c3, w1, w2, w3, w4, w5, e3⟩ := take_ok a2 b c2 (ys[i] + 1) q3 hb (by omega) (by omega)
  have x1 := ix_int gi
  have g2 : (ys.set i (ys[i] - m))[j]? = some ((ys.set i (ys[i] - m))[j]'(by rw [List.length_set]; exact hj)) := List.getElem?_eq_getElem _
  have x2 := ix_int g2
  have y1 : ixN ys.length (i : Int) = some i := ixN_nat hi
  have y2 : ixN ys.length (j : Int) = some j := ixN_nat hj
  have lo1 : ∀ x ∈ ys.set i (ys[i] - m), 0 ≤ x := fun x hx => by
    rcases List.mem_or_eq_of_mem_set hx with q | q
    · exact p.lo x q
    · omega
  refine ⟨a3, c3, (ys.set i (ys[i] - m)).set j ((ys.set i (ys[i] - m))[j]'(by rw [List.length_set]; exact hj) + m), .int i, .int j,   .int m, w3, w4, by omega, ⟨fun x hx => ?_, ?_, ?_⟩, ?_, ?_⟩
  · rcases List.mem_or_eq_of_mem_set hx with q | q
    · exact lo1 x q
    · have := lo1 _ (List.getElem_mem (by rw [List.length_set]; exact hj : j < (ys.set i (ys[i] - m)).length))
      omega
  · rw [List.length_set, List.length_set]; exact p.len
  · rw [sum_set g2, sum_set gi, ← p.sum]
    omega
  · rw [List.length_set, List.length_set]
  · have s1e : sPar2 5 6 (mcalln 2 fn__law_take (mpc (mps 0) (mpc (mpe (m1 prLen (mps 3))) mpn))) (mcalln 2 fn__law_take (mpc (mps 0) (mpc (mpe (m1 prLen (mps 3))) mpn))) [U a b c, s1, s2, .own (ys.map D.int), s4, s5, s6, s7, s8] = .ok .nx [U a2 b c2, s1, s2, .own (ys.map D.int), s4, .sh (.int (i : Int)), .sh (.int (j : Int)), s7, s8] := by
      have k1 : mcalln 2 fn__law_take (mpc (mps 0) (mpc (mpe (m1 prLen (mps 3))) mpn)) [U a b c, s1, s2, .own (ys.map D.int), s4, s5, s6, s7, s8] = .ok (.sh (.int (i : Int))) [U a1 b c1, s1, s2, .own (ys.map D.int), s4, s5, s6, s7, s8] := by simp only [runF, sseq, sIf, sAsg, sRet, sSetIx, sExp, sPar2, sTg, snil, mbl, m2, m1, mps, mpe, mlit, mslot, mmove, mif, mand, mor, mnot, mtru, mandv, morv, mnotv, mcons, mnil, mlst, mtup, mpc, mpn, mcalln, callR, mcallT, bind_ok, bind_bad, bind_exc, ofO, Pr.get, Sl.d, Sl.owned, Ro.own, Ro.put, Sl.put, argA, putB, setV, Vd.sl, Vd.d, backA, okArg, e_lenL, e_lenS, e_lenT, e_absI, e_intI, e_intB, e_addI, e_subI, e_ltI, e_leI, e_gtI, e_geI, e_negI, e_truB, e_truN, e_eqI, e_eqS, e_eqB, e_neI, e_neB, e_listL, e_listS, e_listT, List.all_cons, List.all_nil, Bool.and_true, Bool.and_self, List.length_cons, List.length_nil, List.cons_append, List.nil_append, List.replicate, List.set_cons_zero, List.set_cons_succ, List.getElem?_cons_zero, List.getElem?_cons_succ, Option.bind_some, Option.map_some, ite_true, ite_false, Nat.reduceAdd, Nat.reduceSub, Bool.true_eq_false, Bool.false_eq_true, reduceIte, List.length_map, sizeLine_eq, Nat.reduceLeDiff, Nat.zero_add, Nat.zero_le, and_self, and_true, true_and, beq_self_eq_true, Bool.not_true, Bool.not_false, U, e1]
      have k2 : mcalln 2 fn__law_take (mpc (mps 0) (mpc (mpe (m1 prLen (mps 3))) mpn)) [U a1 b c1, s1, s2, .own (ys.map D.int), s4, s5, s6, s7, s8] = .ok (.sh (.int (j : Int))) [U a2 b c2, s1, s2, .own (ys.map D.int), s4, s5, s6, s7, s8] := by simp only [runF, sseq, sIf, sAsg, sRet, sSetIx, sExp, sPar2, sTg, snil, mbl, m2, m1, mps, mpe, mlit, mslot, mmove, mif, mand, mor, mnot, mtru, mandv, morv, mnotv, mcons, mnil, mlst, mtup, mpc, mpn, mcalln, callR, mcallT, bind_ok, bind_bad, bind_exc, ofO, Pr.get, Sl.d, Sl.owned, Ro.own, Ro.put, Sl.put, argA, putB, setV, Vd.sl, Vd.d, backA, okArg, e_lenL, e_lenS, e_lenT, e_absI, e_intI, e_intB, e_addI, e_subI, e_ltI, e_leI, e_gtI, e_geI, e_negI, e_truB, e_truN, e_eqI, e_eqS, e_eqB, e_neI, e_neB, e_listL, e_listS, e_listT, List.all_cons, List.all_nil, Bool.and_true, Bool.and_self, List.length_cons, List.length_nil, List.cons_append, List.nil_append, List.replicate, List.set_cons_zero, List.set_cons_succ, List.getElem?_cons_zero, List.getElem?_cons_succ, Option.bind_some, Option.map_some, ite_true, ite_false, Nat.reduceAdd, Nat.reduceSub, Bool.true_eq_false, Bool.false_eq_true, reduceIte, List.length_map, sizeLine_eq, Nat.reduceLeDiff, Nat.zero_add, Nat.zero_le, and_self, and_true, true_and, beq_self_eq_true, Bool.not_true, Bool.not_false, U, e2]
      unfold sPar2
      rw [k1, bind_ok, k2, bind_ok, setV_nb (i := 5) (s := s5) (ρ := [U a2 b c2, s1, s2, .own (ys.map D.int), s4, s5, s6, s7, s8]) rfl n5, Option.bind_some, setV_nb (i := 6) (s := s6) (ρ := List.set [U a2 b c2, s1, s2, .own (ys.map D.int), s4, s5, s6, s7, s8] 5 (Vd.sh (.int (i : Int))).sl) rfl n6]
      rfl
    have s2e : sAsg 7 (mcalln 2 fn__law_take (mpc (mps 0) (mpc (mpe (m2 prAdd (mpe (m2 prIx (mps 3) (mps 5))) (mpe (mlit (.int 1))))) mpn))) [U a2 b c2, s1, s2, .own (ys.map D.int), s4, .sh (.int (i : Int)), .sh (.int (j : Int)), s7, s8] = .ok .nx [U a3 b c3, s1, s2, .own (ys.map D.int), s4, .sh (.int (i : Int)), .sh (.int (j : Int)), .sh (.int m), s8] :=
      asg_ok (v := .sh (.int m)) (ρ1 := [U a3 b c3, s1, s2, .own (ys.map D.int), s4, .sh (.int (i : Int)), .sh (.int (j : Int)), s7, s8]) (by simp only [runF, sseq, sIf, sAsg, sRet, sSetIx, sExp, sPar2, sTg, snil, mbl, m2, m1, mps, mpe, mlit, mslot, mmove, mif, mand, mor, mnot, mtru, mandv, morv, mnotv, mcons, mnil, mlst, mtup, mpc, mpn, mcalln, callR, mcallT, bind_ok, bind_bad, bind_exc, ofO, Pr.get, Sl.d, Sl.owned, Ro.own, Ro.put, Sl.put, argA, putB, setV, Vd.sl, Vd.d, backA, okArg, e_lenL, e_lenS, e_lenT, e_absI, e_intI, e_intB, e_addI, e_subI, e_ltI, e_leI, e_gtI, e_geI, e_negI, e_truB, e_truN, e_eqI, e_eqS, e_eqB, e_neI, e_neB, e_listL, e_listS, e_listT, List.all_cons, List.all_nil, Bool.and_true, Bool.and_self, List.length_cons, List.length_nil, List.cons_append, List.nil_append, List.replicate, List.set_cons_zero, List.set_cons_succ, List.getElem?_cons_zero, List.getElem?_cons_succ, Option.bind_some, Option.map_some, ite_true, ite_false, Nat.reduceAdd, Nat.reduceSub, Bool.true_eq_false, Bool.false_eq_true, reduceIte, List.length_map, sizeLine_eq, Nat.reduceLeDiff, Nat.zero_add, Nat.zero_le, and_self, and_true, true_and, beq_self_eq_true, Bool.not_true, Bool.not_false, U, x1, e3]) (setV_nb (i := 7) (s := s7) (ρ := [U a3 b c3, s1, s2, .own (ys.map D.int), s4, .sh (.int (i : Int)), .sh (.int (j : Int)), s7, s8]) rfl n7)
    unfold dBody
    rw [seq_nx s1e, seq_nx s2e]
    simp only [runF, sseq, sIf, sAsg, sRet, sSetIx, sExp, sPar2, sTg, snil, mbl, m2, m1, mps, mpe, mlit, mslot, mmove, mif, mand, mor, mnot, mtru, mandv, morv, mnotv, mcons, mnil, mlst, mtup, mpc, mpn, mcalln, callR, mcallT, bind_ok, bind_bad, bind_exc, ofO, Pr.get, Sl.d, Sl.owned, Ro.own, Ro.put, Sl.put, argA, putB, setV, Vd.sl, Vd.d, backA, okArg, e_lenL, e_lenS, e_lenT, e_absI, e_intI, e_intB, e_addI, e_subI, e_ltI, e_leI, e_gtI, e_geI, e_negI, e_truB, e_truN, e_eqI, e_eqS, e_eqB, e_neI, e_neB, e_listL, e_listS, e_listT, List.all_cons, List.all_nil, Bool.and_true, Bool.and_self, List.length_cons, List.length_nil, List.cons_append, List.nil_append, List.replicate, List.set_cons_zero, List.set_cons_succ, List.getElem?_cons_zero, List.getElem?_cons_succ, Option.bind_some, Option.map_some, ite_true, ite_false, Nat.reduceAdd, Nat.reduceSub, Bool.true_eq_false, Bool.false_eq_true, reduceIte, List.length_map, sizeLine_eq, Nat.reduceLeDiff, Nat.zero_add, Nat.zero_le, and_self, and_true, true_and, beq_self_eq_true, Bool.not_true, Bool.not_false, x1, y1]
    rw [← List.map_set]
    simp only [runF, sseq, sIf, sAsg, sRet, sSetIx, sExp, sPar2, sTg, snil, mbl, m2, m1, mps, mpe, mlit, mslot, mmove, mif, mand, mor, mnot, mtru, mandv, morv, mnotv, mcons, mnil, mlst, mtup, mpc, mpn, mcalln, callR, mcallT, bind_ok, bind_bad, bind_exc, ofO, Pr.get, Sl.d, Sl.owned, Ro.own, Ro.put, Sl.put, argA, putB, setV, Vd.sl, Vd.d, backA, okArg, e_lenL, e_lenS, e_lenT, e_absI, e_intI, e_intB, e_addI, e_subI, e_ltI, e_leI, e_gtI, e_geI, e_negI, e_truB, e_truN, e_eqI, e_eqS, e_eqB, e_neI, e_neB, e_listL, e_listS, e_listT, List.all_cons, List.all_nil, Bool.and_true, Bool.and_self, List.length_cons, List.length_nil, List.cons_append, List.nil_append, List.replicate, List.set_cons_zero, List.set_cons_succ, List.getElem?_cons_zero, List.getElem?_cons_succ, Option.bind_some, Option.map_some, ite_true, ite_false, Nat.reduceAdd, Nat.reduceSub, Bool.true_eq_false, Bool.false_eq_true, reduceIte, List.length_map, sizeLine_eq, Nat.reduceLeDiff, Nat.zero_add, Nat.zero_le, and_self, and_true, true_and, beq_self_eq_true, Bool.not_true, Bool.not_false, x2, y2, List.length_set]
    rw [← List.map_set]
end
end FRT
end
section
set_option maxRecDepth 100000
set_option maxHeartbeats 8000001
set_option linter.all false
namespace FRT
open PySem L2
theorem hand_ok : ∃ as, fn__law_by_hand_right [] = .ok (.sh (.bl true)) as := ⟨[], by kernel_rfl⟩
section
variable {b : Int}
/-- [take(urn, 7) for k in range(n)] -/
theorem draws_ok (hb : 0 ≤ b ∧ b < 2 ^ 62) {s1 s2 s3 s4 s5 s6 s7 : Sl} : ∀ (n : Nat) (ks : List D) (xs : List Int) (a c : Int), ks.length = n → (∀ d ∈ ks, ∃ i, d = D.int i) → xs.length + n ≤ 10 → (∀ x ∈ xs, 0 ≤ x ∧ x ≤ 6) → 0 ≤ a → 0 ≤ c ∧ c + n < 99000 →
    ∃ (zs : List Int) (a' c' : Int), zs.length = xs.length + n ∧ (∀ x ∈ zs, 0 ≤ x ∧ x ≤ 6) ∧ 0 ≤ a' ∧ 0 ≤ c' ∧ c' ≤ c + n ∧
      cLoop (fNm 8) mtrue (mcalln 2 fn__law_take (mpc (mps 0) (mpc (mpe (mlit (.int 7))) mpn))) [8] ks (xs.map D.int) [U (b := b) a c, s1, s2, s3, s4, s5, s6, s7, .un] = .ok (zs.map D.int) [U (b := b) a' c', s1, s2, s3, s4, s5, s6, s7, .un]
  | 0, ks, xs, a, c, hk, _, _, hx, ha, hc => by
    obtain rfl := List.eq_nil_of_length_eq_zero hk
    exact ⟨xs, a, c, rfl, hx, ha, hc.1, by omega, rfl⟩
  | n + 1, [], xs, a, c, hk, _, _, hx, ha, hc => by simp at hk
  | n + 1, d :: ks, xs, a, c, hk, hd, hz, hx, ha, hc => by
    obtain ⟨i, rfl⟩ := hd d (.head _)
    obtain ⟨r, a1, c1, p1, p2, p3, p4, p5, e1⟩ := take_ok a b c 7 ha hb (by omega) (by decide)
    obtain ⟨zs, a', c', q1, q2, q3, q4, q5, e2⟩ := draws_ok hb (s1 := s1) (s2 := s2) (s3 := s3) (s4 := s4) (s5 := s5) (s6 := s6) (s7 := s7) n ks (xs ++ [r]) a1 c1 (by simpa using hk) (fun d h => hd d (.tail _ h)) (by rw [List.length_append, List.length_cons, List.length_nil]; omega) (fun x h => by
      rcases List.mem_append.mp h with h | h
      · exact hx x h
      · rw [List.mem_singleton] at h; subst h; omega) p3 (by omega)
    refine ⟨zs, a', c', by rw [q1, List.length_append, List.length_cons, List.length_nil]; omega, q2, q3, q4, by omega, ?_⟩
    show (match mcalln 2 fn__law_take (mpc (mps 0) (mpc (mpe (mlit (.int 7))) mpn)) [U (b := b) a c, s1, s2, s3, s4, s5, s6, s7, .sh (.int i)] with
      | .ok y ρc => if (xs.map D.int).length < sizeLine then cLoop (fNm 8) mtrue (mcalln 2 fn__law_take (mpc (mps 0) (mpc (mpe (mlit (.int 7))) mpn))) [8] ks (xs.map D.int ++ [y.d]) (wipeR ρc [8]) else .bad
      | _ => .bad) = _
    rw [show mcalln 2 fn__law_take (mpc (mps 0) (mpc (mpe (mlit (.int 7))) mpn)) [U (b := b) a c, s1, s2, s3, s4, s5, s6, s7, .sh (.int i)] = .ok (.sh (.int r)) [U (b := b) a1 c1, s1, s2, s3, s4, s5, s6, s7, .sh (.int i)] from by simp only [runF, sseq, sIf, sAsg, sRet, sSetIx, sExp, sPar2, sTg, snil, mbl, m2, m1, mps, mpe, mlit, mslot, mmove, mif, mand, mor, mnot, mtru, mandv, morv, mnotv, mcons, mnil, mlst, mtup, mpc, mpn, mcalln, callR, mcallT, bind_ok, bind_bad, bind_exc, ofO, Pr.get, Sl.d, Sl.owned, Ro.own, Ro.put, Sl.put, argA, putB, setV, Vd.sl, Vd.d, backA, okArg, e_lenL, e_lenS, e_lenT, e_absI, e_intI, e_intB, e_addI, e_subI, e_ltI, e_leI, e_gtI, e_geI, e_negI, e_truB, e_truN, e_eqI, e_eqS, e_eqB, e_neI, e_neB, e_listL, e_listS, e_listT, List.all_cons, List.all_nil, Bool.and_true, Bool.and_self, List.length_cons, List.length_nil, List.cons_append, List.nil_append, List.replicate, List.set_cons_zero, List.set_cons_succ, List.getElem?_cons_zero, List.getElem?_cons_succ, Option.bind_some, Option.map_some, ite_true, ite_false, Nat.reduceAdd, Nat.reduceSub, Bool.true_eq_false, Bool.false_eq_true, reduceIte, List.length_map, sizeLine_eq, Nat.reduceLeDiff, Nat.zero_add, Nat.zero_le, and_self, and_true, true_and, beq_self_eq_true, Bool.not_true, Bool.not_false, U, e1]]
    dsimp only
    rw [if_pos (by rw [List.length_map, sizeLine_eq]; omega)]
    rw [List.map_append] at e2
    exact e2
abbrev rBody : M Fl := sseq (sAsg 2 (mcomp (mit1 (mcons (m2 prAdd (mpe (mlit (.int 1))) (mpe (mcalln 2 fn__law_take (mpc (mps 0) (mpc (mpe (mlit (.int 5))) mpn))))) mnil)) (fNm 8) mtrue (mcalln 2 fn__law_take (mpc (mps 0) (mpc (mpe (mlit (.int 7))) mpn))) [8]))
    (sseq (sAsg 3 (m1 prList (mps 2)))
    (sseq (sFor (mit1 (mcons (mcalln 2 fn__law_take (mpc (mps 0) (mpc (mpe (mlit (.int 5))) mpn))) mnil)) (fNm 4) dBody)
    (sIf (mnot (mtru (mpe (mcalln 2 fn__law_asked (mpc (mpe (m1 prTuple (mps 2))) (mpc (mpe (m1 prTuple (mps 3))) mpn)))))) (sRet (mlit (.bl false))) snil)))
/-- the urn and eight names -/
def Js (b : Int) (left : Nat) (ρ : Ro) : Prop := ∃ a c s1 s2 s3 s4 s5 s6 s7 s8, ρ = [U (b := b) a c, s1, s2, s3, s4, s5, s6, s7, s8] ∧ 0 ≤ a ∧ 0 ≤ c ∧ c + 30 * left ≤ 1000 ∧ s1.nb ∧ s2.nb ∧ s3.nb ∧ s4.nb ∧ s5.nb ∧ s6.nb ∧ s7.nb ∧ s8.nb
theorem rBody_ok (hb : 0 ≤ b ∧ b < 2 ^ 62) {a c : Int} {s1 s2 s3 s4 s5 s6 s7 s8 : Sl} (ha : 0 ≤ a) (hc : 0 ≤ c ∧ c ≤ 1000) (n1 : s1.nb) (n2 : s2.nb) (n3 : s3.nb) (n4 : s4.nb) (n5 : s5.nb) (n6 : s6.nb) (n7 : s7.nb) (n8 : s8.nb) :
    ∃ a' c' t2 t3 t4 t5 t6 t7 t8, rBody [U (b := b) a c, s1, s2, s3, s4, s5, s6, s7, s8] = .ok .nx [U (b := b) a' c', s1, t2, t3, t4, t5, t6, t7, t8] ∧ 0 ≤ a' ∧ 0 ≤ c' ∧ c' ≤ c + 30 ∧ t2.nb ∧ t3.nb ∧ t4.nb ∧ t5.nb ∧ t6.nb ∧ t7.nb ∧ t8.nb := by
  obtain ⟨r, a1, c1, p1, p2, p3, p4, p5, e1⟩ := take_ok a b c 5 ha hb (by omega) (by decide)
  obtain ⟨k, rfl⟩ := nat_of p1
  obtain ⟨zs, a2, c2, q1, q2, q3, q4, q5, e2⟩ := draws_ok hb (s1 := s1) (s2 := s2) (s3 := s3) (s4 := s4) (s5 := s5) (s6 := s6) (s7 := s7) (1 + k) ((List.range (1 + k)).map fun i : Nat => D.int (i : Int)) [] a1 c1 (by rw [List.length_map, List.length_range]) (fun d hd => by
    obtain ⟨i, _, rfl⟩ := List.mem_map.mp hd
    exact ⟨_, rfl⟩) (by rw [List.length_nil]; omega) (fun x h => by cases h) p3 (by omega)
  rw [List.length_nil, Nat.zero_add] at q1
  have i1 : mit1 (mcons (m2 prAdd (mpe (mlit (.int 1))) (mpe (mcalln 2 fn__law_take (mpc (mps 0) (mpc (mpe (mlit (.int 5))) mpn))))) mnil) [U (b := b) a c, s1, s2, s3, s4, s5, s6, s7, s8] = .ok ((List.range (1 + k)).map fun i : Nat => D.int (i : Int)) [U (b := b) a1 c1, s1, s2, s3, s4, s5, s6, s7, s8] := mit1_ok (n := 1 + k) (by omega) (by
    simp only [runF, sseq, sIf, sAsg, sRet, sSetIx, sExp, sPar2, sTg, snil, mbl, m2, m1, mps, mpe, mlit, mslot, mmove, mif, mand, mor, mnot, mtru, mandv, morv, mnotv, mcons, mnil, mlst, mtup, mpc, mpn, mcalln, callR, mcallT, bind_ok, bind_bad, bind_exc, ofO, Pr.get, Sl.d, Sl.owned, Ro.own, Ro.put, Sl.put, argA, putB, setV, Vd.sl, Vd.d, backA, okArg, e_lenL, e_lenS, e_lenT, e_absI, e_intI, e_intB, e_addI, e_subI, e_ltI, e_leI, e_gtI, e_geI, e_negI, e_truB, e_truN, e_eqI, e_eqS, e_eqB, e_neI, e_neB, e_listL, e_listS, e_listT, List.all_cons, List.all_nil, Bool.and_true, Bool.and_self, List.length_cons, List.length_nil, List.cons_append, List.nil_append, List.replicate, List.set_cons_zero, List.set_cons_succ, List.getElem?_cons_zero, List.getElem?_cons_succ, Option.bind_some, Option.map_some, ite_true, ite_false, Nat.reduceAdd, Nat.reduceSub, Bool.true_eq_false, Bool.false_eq_true, reduceIte, List.length_map, sizeLine_eq, Nat.reduceLeDiff, Nat.zero_add, Nat.zero_le, and_self, and_true, true_and, beq_self_eq_true, Bool.not_true, Bool.not_false, U, e1]
    rw [show (1 : Int) + (k : Int) = ((1 + k : Nat) : Int) by omega])
  have s2e : sAsg 2 (mcomp (mit1 (mcons (m2 prAdd (mpe (mlit (.int 1))) (mpe (mcalln 2 fn__law_take (mpc (mps 0) (mpc (mpe (mlit (.int 5))) mpn))))) mnil)) (fNm 8) mtrue (mcalln 2 fn__law_take (mpc (mps 0) (mpc (mpe (mlit (.int 7))) mpn))) [8]) [U (b := b) a c, s1, s2, s3, s4, s5, s6, s7, s8] = .ok .nx [U (b := b) a2 c2, s1, .own (zs.map D.int), s3, s4, s5, s6, s7, s8] :=
    asg_ok (v := .fr (zs.map D.int)) (ρ1 := [U (b := b) a2 c2, s1, s2, s3, s4, s5, s6, s7, s8]) (mc_ok' i1 e2) (setV_nb (i := 2) (s := s2) (ρ := [U (b := b) a2 c2, s1, s2, s3, s4, s5, s6, s7, s8]) rfl n2)
  have s3e : sAsg 3 (m1 prList (mps 2)) [U (b := b) a2 c2, s1, .own (zs.map D.int), s3, s4, s5, s6, s7, s8] = .ok .nx [U (b := b) a2 c2, s1, .own (zs.map D.int), .own (zs.map D.int), s4, s5, s6, s7, s8] :=
    asg_ok (v := .fr (zs.map D.int)) (ρ1 := [U (b := b) a2 c2, s1, .own (zs.map D.int), s3, s4, s5, s6, s7, s8]) rfl (setV_nb (i := 3) (s := s3) (ρ := [U (b := b) a2 c2, s1, .own (zs.map D.int), s3, s4, s5, s6, s7, s8]) rfl n3)
  obtain ⟨r2, a3, c3, w1, w2, w3, w4, w5, e3⟩ := take_ok a2 b c2 5 q3 hb (by omega) (by decide)
  obtain ⟨k2, rfl⟩ := nat_of w1
  have i2 : mit1 (mcons (mcalln 2 fn__law_take (mpc (mps 0) (mpc (mpe (mlit (.int 5))) mpn))) mnil) [U (b := b) a2 c2, s1, .own (zs.map D.int), .own (zs.map D.int), s4, s5, s6, s7, s8] = .ok ((List.range k2).map fun i : Nat => D.int (i : Int)) [U (b := b) a3 c3, s1, .own (zs.map D.int), .own (zs.map D.int), s4, s5, s6, s7, s8] := mit1_ok (n := k2) (by omega) (by simp only [runF, sseq, sIf, sAsg, sRet, sSetIx, sExp, sPar2, sTg, snil, mbl, m2, m1, mps, mpe, mlit, mslot, mmove, mif, mand, mor, mnot, mtru, mandv, morv, mnotv, mcons, mnil, mlst, mtup, mpc, mpn, mcalln, callR, mcallT, bind_ok, bind_bad, bind_exc, ofO, Pr.get, Sl.d, Sl.owned, Ro.own, Ro.put, Sl.put, argA, putB, setV, Vd.sl, Vd.d, backA, okArg, e_lenL, e_lenS, e_lenT, e_absI, e_intI, e_intB, e_addI, e_subI, e_ltI, e_leI, e_gtI, e_geI, e_negI, e_truB, e_truN, e_eqI, e_eqS, e_eqB, e_neI, e_neB, e_listL, e_listS, e_listT, List.all_cons, List.all_nil, Bool.and_true, Bool.and_self, List.length_cons, List.length_nil, List.cons_append, List.nil_append, List.replicate, List.set_cons_zero, List.set_cons_succ, List.getElem?_cons_zero, List.getElem?_cons_succ, Option.bind_some, Option.map_some, ite_true, ite_false, Nat.reduceAdd, Nat.reduceSub, Bool.true_eq_false, Bool.false_eq_true, reduceIte, List.length_map, sizeLine_eq, Nat.reduceLeDiff, Nat.zero_add, Nat.zero_le, and_self, and_true, true_and, beq_self_eq_true, Bool.not_true, Bool.not_false, U, e3])
  have sz : Sm zs := ⟨fun x h => (q2 x h).1, fun x h => by have := (q2 x h).2; omega, by omega⟩
  obtain ⟨ρ', e4, a4, c4, ys, t4, t5, t6, t7, rfl, h1, h2, h3, h4, h5, h6, m4, m5, m6, m7⟩ := fl_all (f := fNm 4) (body := dBody) (fun l ρ => ∃ a c ys s4 s5 s6 s7, ρ = [U (b := b) a c, s1, .own (zs.map D.int), .own (ys.map D.int), s4, s5, s6, s7, s8] ∧ 0 ≤ a ∧ 0 ≤ c ∧ c + 3 * l.length ≤ c3 + 12 ∧ Pr2 zs ys ∧ ys.length = zs.length ∧ (∀ d ∈ l, ∃ i : Nat, d = D.int (i : Int)) ∧ s4.nb ∧ s5.nb ∧ s6.nb ∧ s7.nb)
    (fun d l ρ ⟨a, c, ys, s4, s5, s6, s7, hρ, h1, h2, h3, h4, h5, h6, n4, n5, n6, n7⟩ => by
      subst hρ
      rw [List.length_cons] at h3
      have hsz := sz.sum
      have hs := h4.sum
      obtain ⟨a', c', ys', t5, t6, t7, g1, g2, g3, g4, g5, g6⟩ := dBody_ok h4 (by omega) (by omega) (by omega) hb (a := a) (c := c) h1 (by omega) (s1 := s1) (s2 := .own (zs.map D.int)) (s4 := .sh d) (s8 := s8) n5 n6 n7
      exact ⟨_, _, fNm_nb (i := 4) (s := s4) (ρ := [U (b := b) a c, s1, .own (zs.map D.int), .own (ys.map D.int), s4, s5, s6, s7, s8]) rfl n4, g6, a', c', ys', .sh d, .sh t5, .sh t6, .sh t7, rfl, g1, g2, by omega, g4, by omega, fun x h => h6 x (.tail _ h), trivial, trivial, trivial, trivial⟩)
    ((List.range k2).map fun i : Nat => D.int (i : Int)) [U (b := b) a3 c3, s1, .own (zs.map D.int), .own (zs.map D.int), s4, s5, s6, s7, s8]
    ⟨a3, c3, zs, s4, s5, s6, s7, rfl, w3, w4, by rw [List.length_map, List.length_range]; omega, ⟨sz.lo, rfl, rfl⟩, rfl, fun d hd => by
      obtain ⟨i, _, rfl⟩ := List.mem_map.mp hd
      exact ⟨i, rfl⟩, n4, n5, n6, n7⟩
  have s4e := for_ok i2 e4
  have hys := h4.sum
  have sy : Sm ys := ⟨h4.lo, fun x h => by
    have h7 := le_sum h4.lo h
    have : ∀ l : List Int, (∀ x ∈ l, x ≤ 6) → l.sum ≤ 6 * l.length := fun l => by
      induction l with
      | nil => intro _; simp
      | cons a l ih =>
        intro hl
        have := ih fun x hx => hl x (.tail _ hx)
        have := hl a (.head _)
        rw [List.sum_cons, List.length_cons]
        omega
    have := this zs fun x h => (q2 x h).2
    omega, by omega⟩
  obtain ⟨as, ea⟩ := asked_ok sz sy hys.symm
  refine ⟨a4, c4, .own (zs.map D.int), .own (ys.map D.int), t4, t5, t6, t7, s8, ?_, h1, h2, by simp at h3; omega, trivial, trivial, m4, m5, m6, m7, n8⟩
  unfold rBody
  rw [seq_nx s2e, seq_nx s3e, seq_nx s4e]
  have pt : ∀ l, prTuple (.lst l) = some (.sh (.tup l)) := fun _ => rfl
  simp only [runF, sseq, sIf, sAsg, sRet, sSetIx, sExp, sPar2, sTg, snil, mbl, m2, m1, mps, mpe, mlit, mslot, mmove, mif, mand, mor, mnot, mtru, mandv, morv, mnotv, mcons, mnil, mlst, mtup, mpc, mpn, mcalln, callR, mcallT, bind_ok, bind_bad, bind_exc, ofO, Pr.get, Sl.d, Sl.owned, Ro.own, Ro.put, Sl.put, argA, putB, setV, Vd.sl, Vd.d, backA, okArg, e_lenL, e_lenS, e_lenT, e_absI, e_intI, e_intB, e_addI, e_subI, e_ltI, e_leI, e_gtI, e_geI, e_negI, e_truB, e_truN, e_eqI, e_eqS, e_eqB, e_neI, e_neB, e_listL, e_listS, e_listT, List.all_cons, List.all_nil, Bool.and_true, Bool.and_self, List.length_cons, List.length_nil, List.cons_append, List.nil_append, List.replicate, List.set_cons_zero, List.set_cons_succ, List.getElem?_cons_zero, List.getElem?_cons_succ, Option.bind_some, Option.map_some, ite_true, ite_false, Nat.reduceAdd, Nat.reduceSub, Bool.true_eq_false, Bool.false_eq_true, reduceIte, List.length_map, sizeLine_eq, Nat.reduceLeDiff, Nat.zero_add, Nat.zero_le, and_self, and_true, true_and, beq_self_eq_true, Bool.not_true, Bool.not_false, U, pt, ea]
theorem right_ok (a : Int) (ha : 0 ≤ a) (hb : 0 ≤ b ∧ b < 2 ^ 62) : ∃ as, fn__law_right [.bor [.int a, .int b, .int 0]] = .ok (.sh (.bl true)) as := by
  have i1 : mit1 (mcons (mlit (.int 5)) mnil) [U (b := b) a 0, .un, .un, .un, .un, .un, .un, .un, .un] = .ok ((List.range 5).map fun i : Nat => D.int (i : Int)) [U (b := b) a 0, .un, .un, .un, .un, .un, .un, .un, .un] := mit1_ok (n := 5) (by decide) rfl
  obtain ⟨ρ', e, _⟩ := fl_all (f := fNm 1) (body := rBody) (fun l ρ => Js b l.length ρ) (fun d l ρ ⟨a, c, s1, s2, s3, s4, s5, s6, s7, s8, hρ, h1, h2, h3, n1, n2, n3, n4, n5, n6, n7, n8⟩ => by
    subst hρ
    rw [List.length_cons] at h3
    obtain ⟨a', c', t2, t3, t4, t5, t6, t7, t8, g, g1, g2, g3, m2, m3, m4, m5, m6, m7, m8⟩ := rBody_ok hb (a := a) (c := c) (s1 := .sh d) h1 (by omega) trivial n2 n3 n4 n5 n6 n7 n8
    exact ⟨_, _, fNm_nb (i := 1) (s := s1) (ρ := [U (b := b) a c, s1, s2, s3, s4, s5, s6, s7, s8]) rfl n1, g, a', c', .sh d, t2, t3, t4, t5, t6, t7, t8, rfl, g1, g2, by omega, trivial, m2, m3, m4, m5, m6, m7, m8⟩)
    ((List.range 5).map fun i : Nat => D.int (i : Int)) [U (b := b) a 0, .un, .un, .un, .un, .un, .un, .un, .un] ⟨a, 0, .un, .un, .un, .un, .un, .un, .un, .un, rfl, ha, by decide, by simp, trivial, trivial, trivial, trivial, trivial, trivial, trivial, trivial⟩
  exact ⟨_, run_rt (ρ' := ρ') rfl ((seq_nx (for_ok i1 e)).trans rfl)⟩
end
/-! the law -/
theorem law_step (cells : List Int) (h3 : cells.length ≤ 3) (A : D) : ∀ (n k : Nat) (acc : List D) (s : Sl), (s = .own (cells.map D.int) ∨ s = .sh (.lst (cells.map D.int))) → k + n = cells.length → acc.length + n ≤ 1000 →
    ∃ s', cLoop (fNm 2) mtrue (mcallT fn__law_right (mcalln 2 fn__law_box (mpc (mpe (mslot 1)) (mpc (mpe (mslot 2)) mpn)))) [2] ((List.range' k n).map fun i : Nat => D.int (i : Int)) acc [.sh A, s, .un] = .ok (acc ++ (List.range' k n).map fun _ => .bl true) [.sh A, s', .un]
  | 0, k, acc, s, _, _, _ => ⟨s, by show Rs.ok acc _ = _; simp⟩
  | n + 1, k, acc, s, hs, hk, hz => by
    obtain ⟨a, b, h1, h2, h4, as, e⟩ := box_ok cells k (by omega) h3
    obtain ⟨bs, er⟩ := right_ok (b := b) a h1 ⟨h2, h4⟩
    have ec : mcallT fn__law_right (mcalln 2 fn__law_box (mpc (mpe (mslot 1)) (mpc (mpe (mslot 2)) mpn))) [.sh A, s, .sh (.int (k : Int))] = .ok (.sh (.bl true)) [.sh A, .sh (.lst (cells.map D.int)), .sh (.int (k : Int))] := by
      rcases hs with rfl | rfl <;> simp only [runF, sseq, sIf, sAsg, sRet, sSetIx, sExp, sPar2, sTg, snil, mbl, m2, m1, mps, mpe, mlit, mslot, mmove, mif, mand, mor, mnot, mtru, mandv, morv, mnotv, mcons, mnil, mlst, mtup, mpc, mpn, mcalln, callR, mcallT, bind_ok, bind_bad, bind_exc, ofO, Pr.get, Sl.d, Sl.owned, Ro.own, Ro.put, Sl.put, argA, putB, setV, Vd.sl, Vd.d, backA, okArg, e_lenL, e_lenS, e_lenT, e_absI, e_intI, e_intB, e_addI, e_subI, e_ltI, e_leI, e_gtI, e_geI, e_negI, e_truB, e_truN, e_eqI, e_eqS, e_eqB, e_neI, e_neB, e_listL, e_listS, e_listT, List.all_cons, List.all_nil, Bool.and_true, Bool.and_self, List.length_cons, List.length_nil, List.cons_append, List.nil_append, List.replicate, List.set_cons_zero, List.set_cons_succ, List.getElem?_cons_zero, List.getElem?_cons_succ, Option.bind_some, Option.map_some, ite_true, ite_false, Nat.reduceAdd, Nat.reduceSub, Bool.true_eq_false, Bool.false_eq_true, reduceIte, List.length_map, sizeLine_eq, Nat.reduceLeDiff, Nat.zero_add, Nat.zero_le, and_self, and_true, true_and, beq_self_eq_true, Bool.not_true, Bool.not_false, e, er]
    obtain ⟨s', ih⟩ := law_step cells h3 A n (k + 1) (acc ++ [.bl true]) _ (.inr rfl) (by omega) (by rw [List.length_append, List.length_cons, List.length_nil]; omega)
    refine ⟨s', ?_⟩
    rw [List.range'_succ, List.map_cons, List.map_cons]
    show (match mcallT fn__law_right (mcalln 2 fn__law_box (mpc (mpe (mslot 1)) (mpc (mpe (mslot 2)) mpn))) [.sh A, s, .sh (.int (k : Int))] with
      | .ok y ρc => if acc.length < sizeLine then cLoop (fNm 2) mtrue (mcallT fn__law_right (mcalln 2 fn__law_box (mpc (mpe (mslot 1)) (mpc (mpe (mslot 2)) mpn)))) [2] ((List.range' (k + 1) n).map fun i : Nat => D.int (i : Int)) (acc ++ [y.d]) (wipeR ρc [2]) else .bad
      | _ => .bad) = _
    rw [ec]
    dsimp only
    rw [if_pos (by rw [sizeLine_eq]; omega)]
    exact ih.trans (by simp)
theorem pure_law (ns : List Int) (h : ns.length ≤ 63) : ∃ as, fn_law [.sh (.scr (ns.map D.int))] = .ok (.sh (.bl true)) as := by
  obtain ⟨cs, h0, h3, as, e⟩ := cells_ok ns h
  obtain ⟨ha, eh⟩ := hand_ok
  generalize hA : D.scr (ns.map D.int) = A at e ⊢
  have s0 : sAsg 1 (mcalln 2 fn__law_cells (mpc (mpe (mslot 0)) (mpc (mpe (mlit (.int 3))) mpn))) [.sh A, .un, .un] = .ok .nx [.sh A, .own (cs.map D.int), .un] := by
    simp only [runF, sseq, sIf, sAsg, sRet, sSetIx, sExp, sPar2, sTg, snil, mbl, m2, m1, mps, mpe, mlit, mslot, mmove, mif, mand, mor, mnot, mtru, mandv, morv, mnotv, mcons, mnil, mlst, mtup, mpc, mpn, mcalln, callR, mcallT, bind_ok, bind_bad, bind_exc, ofO, Pr.get, Sl.d, Sl.owned, Ro.own, Ro.put, Sl.put, argA, putB, setV, Vd.sl, Vd.d, backA, okArg, e_lenL, e_lenS, e_lenT, e_absI, e_intI, e_intB, e_addI, e_subI, e_ltI, e_leI, e_gtI, e_geI, e_negI, e_truB, e_truN, e_eqI, e_eqS, e_eqB, e_neI, e_neB, e_listL, e_listS, e_listT, List.all_cons, List.all_nil, Bool.and_true, Bool.and_self, List.length_cons, List.length_nil, List.cons_append, List.nil_append, List.replicate, List.set_cons_zero, List.set_cons_succ, List.getElem?_cons_zero, List.getElem?_cons_succ, Option.bind_some, Option.map_some, ite_true, ite_false, Nat.reduceAdd, Nat.reduceSub, Bool.true_eq_false, Bool.false_eq_true, reduceIte, List.length_map, sizeLine_eq, Nat.reduceLeDiff, Nat.zero_add, Nat.zero_le, and_self, and_true, true_and, beq_self_eq_true, Bool.not_true, Bool.not_false, e]
  have hi : mit1 (mcons (m1 prLen (mps 1)) mnil) [.sh A, .own (cs.map D.int), .un] = .ok ((List.range cs.length).map fun i : Nat => D.int (i : Int)) [.sh A, .own (cs.map D.int), .un] := mit1_ok (n := cs.length) (by omega) (by simp only [runF, sseq, sIf, sAsg, sRet, sSetIx, sExp, sPar2, sTg, snil, mbl, m2, m1, mps, mpe, mlit, mslot, mmove, mif, mand, mor, mnot, mtru, mandv, morv, mnotv, mcons, mnil, mlst, mtup, mpc, mpn, mcalln, callR, mcallT, bind_ok, bind_bad, bind_exc, ofO, Pr.get, Sl.d, Sl.owned, Ro.own, Ro.put, Sl.put, argA, putB, setV, Vd.sl, Vd.d, backA, okArg, e_lenL, e_lenS, e_lenT, e_absI, e_intI, e_intB, e_addI, e_subI, e_ltI, e_leI, e_gtI, e_geI, e_negI, e_truB, e_truN, e_eqI, e_eqS, e_eqB, e_neI, e_neB, e_listL, e_listS, e_listT, List.all_cons, List.all_nil, Bool.and_true, Bool.and_self, List.length_cons, List.length_nil, List.cons_append, List.nil_append, List.replicate, List.set_cons_zero, List.set_cons_succ, List.getElem?_cons_zero, List.getElem?_cons_succ, Option.bind_some, Option.map_some, ite_true, ite_false, Nat.reduceAdd, Nat.reduceSub, Bool.true_eq_false, Bool.false_eq_true, reduceIte, List.length_map, sizeLine_eq, Nat.reduceLeDiff, Nat.zero_add, Nat.zero_le, and_self, and_true, true_and, beq_self_eq_true, Bool.not_true, Bool.not_false])
  obtain ⟨s', hc⟩ := law_step cs h3 A cs.length 0 [] _ (.inl rfl) (by omega) (by rw [List.length_nil]; omega)
  rw [← List.range_eq_range', List.nil_append] at hc
  have hm := mc_ok' hi hc
  have hh : mcallk 0 fn__law_by_hand_right 0 0 [] mpn mpn [.sh A, .own (cs.map D.int), .un] = .ok (.sh (.bl true)) [.sh A, .own (cs.map D.int), .un] := by
    show callR 0 fn__law_by_hand_right [] _ = _
    simp only [runF, sseq, sIf, sAsg, sRet, sSetIx, sExp, sPar2, sTg, snil, mbl, m2, m1, mps, mpe, mlit, mslot, mmove, mif, mand, mor, mnot, mtru, mandv, morv, mnotv, mcons, mnil, mlst, mtup, mpc, mpn, mcalln, callR, mcallT, bind_ok, bind_bad, bind_exc, ofO, Pr.get, Sl.d, Sl.owned, Ro.own, Ro.put, Sl.put, argA, putB, setV, Vd.sl, Vd.d, backA, okArg, e_lenL, e_lenS, e_lenT, e_absI, e_intI, e_intB, e_addI, e_subI, e_ltI, e_leI, e_gtI, e_geI, e_negI, e_truB, e_truN, e_eqI, e_eqS, e_eqB, e_neI, e_neB, e_listL, e_listS, e_listT, List.all_cons, List.all_nil, Bool.and_true, Bool.and_self, List.length_cons, List.length_nil, List.cons_append, List.nil_append, List.replicate, List.set_cons_zero, List.set_cons_succ, List.getElem?_cons_zero, List.getElem?_cons_succ, Option.bind_some, Option.map_some, ite_true, ite_false, Nat.reduceAdd, Nat.reduceSub, Bool.true_eq_false, Bool.false_eq_true, reduceIte, List.length_map, sizeLine_eq, Nat.reduceLeDiff, Nat.zero_add, Nat.zero_le, and_self, and_true, true_and, beq_self_eq_true, Bool.not_true, Bool.not_false, eh]
  refine ⟨_, run_rt (ρ' := [.sh A, s', .un]) rfl ((seq_nx s0).trans (ret_ok ?_))⟩
  rw [mandv_t hh rfl]
  exact m1_ok (mpe_ok hm) rfl (all_true _)
end FRT
end
section
set_option Elab.async false
set_option linter.all false
set_option maxRecDepth 100000
set_option maxHeartbeats 8000001
namespace FRT
open PySem L2
theorem mk_T {K : PySem.W.Frag} {h : Heap} {mg : Str → Option Value} (X : K.In h) (G : h.Ns mainGlobals mg) {f0 f1 f2 f3 f4 f5 f6 f7 f8 f9 f10 f11 : Addr} {od0 an0 od1 an1 od2 an2 od3 an3 od4 an4 od5 an5 od6 an6 od7 an7 od8 an8 od9 an9 od10 an10 od11 an11 : Option Addr} {sl0 sl1 sl2 sl3 sl4 sl5 sl6 sl7 sl8 sl9 sl10 sl11 : Array (Option Value)} {oc0 kV0 dc0 pm0 cd0 ct0 oc1 kV1 dc1 pm1 cd1 ct1 oc2 kV2 dc2 pm2 cd2 ct2 oc3 kV3 dc3 pm3 cd3 ct3 oc4 kV4 dc4 pm4 cd4 ct4 oc5 kV5 dc5 pm5 cd5 ct5 oc6 kV6 dc6 pm6 cd6 ct6 oc7 kV7 dc7 pm7 cd7 ct7 oc8 kV8 dc8 pm8 cd8 ct8 oc9 kV9 dc9 pm9 cd9 ct9 oc10 kV10 dc10 pm10 cd10 ct10 oc11 kV11 dc11 pm11 cd11 ct11 : Value}
    (a0 : PySem.W.nsIn K mainGlobals "over" = some (some (.ref f0)))
    (l0 : K.lookup f0 = some ⟨oc0, od0, .func (PySem.W.fnOf "over" "over" (defArgs s_over) (defBody s_over) (defScope s_over) .none kV0 dc0 pm0 an0 cd0 ct0), sl0⟩)
    (x0 : PySem.W.codeIn K cd0 "over" = true)
    (k0 : PySem.W.keepIn K (.ref f0) = true)
    (a1 : PySem.W.nsIn K mainGlobals "telling_level" = some (some (.ref f1)))
    (l1 : K.lookup f1 = some ⟨oc1, od1, .func (PySem.W.fnOf "telling_level" "telling_level" (defArgs s_telling_level) (defBody s_telling_level) (defScope s_telling_level) .none kV1 dc1 pm1 an1 cd1 ct1), sl1⟩)
    (x1 : PySem.W.codeIn K cd1 "telling_level" = true)
    (k1 : PySem.W.keepIn K (.ref f1) = true)
    (a2 : PySem.W.nsIn K mainGlobals "_law_box" = some (some (.ref f2)))
    (l2 : K.lookup f2 = some ⟨oc2, od2, .func (PySem.W.fnOf "_law_box" "_law_box" (defArgs s__law_box) (defBody s__law_box) (defScope s__law_box) .none kV2 dc2 pm2 an2 cd2 ct2), sl2⟩)
    (x2 : PySem.W.codeIn K cd2 "_law_box" = true)
    (k2 : PySem.W.keepIn K (.ref f2) = true)
    (a3 : PySem.W.nsIn K mainGlobals "_law_take" = some (some (.ref f3)))
    (l3 : K.lookup f3 = some ⟨oc3, od3, .func (PySem.W.fnOf "_law_take" "_law_take" (defArgs s__law_take) (defBody s__law_take) (defScope s__law_take) .none kV3 dc3 pm3 an3 cd3 ct3), sl3⟩)
    (x3 : PySem.W.codeIn K cd3 "_law_take" = true)
    (k3 : PySem.W.keepIn K (.ref f3) = true)
    (a4 : PySem.W.nsIn K mainGlobals "_law_cells" = some (some (.ref f4)))
    (l4 : K.lookup f4 = some ⟨oc4, od4, .func (PySem.W.fnOf "_law_cells" "_law_cells" (defArgs s__law_cells) (defBody s__law_cells) (defScope s__law_cells) .none kV4 dc4 pm4 an4 cd4 ct4), sl4⟩)
    (x4 : PySem.W.codeIn K cd4 "_law_cells" = true)
    (k4 : PySem.W.keepIn K (.ref f4) = true)
    (a5 : PySem.W.nsIn K mainGlobals "_law_same" = some (some (.ref f5)))
    (l5 : K.lookup f5 = some ⟨oc5, od5, .func (PySem.W.fnOf "_law_same" "_law_same" (defArgs s__law_same) (defBody s__law_same) (defScope s__law_same) .none kV5 dc5 pm5 an5 cd5 ct5), sl5⟩)
    (x5 : PySem.W.codeIn K cd5 "_law_same" = true)
    (k5 : PySem.W.keepIn K (.ref f5) = true)
    (a6 : PySem.W.nsIn K mainGlobals "_law_over" = some (some (.ref f6)))
    (l6 : K.lookup f6 = some ⟨oc6, od6, .func (PySem.W.fnOf "_law_over" "_law_over" (defArgs s__law_over) (defBody s__law_over) (defScope s__law_over) .none kV6 dc6 pm6 an6 cd6 ct6), sl6⟩)
    (x6 : PySem.W.codeIn K cd6 "_law_over" = true)
    (k6 : PySem.W.keepIn K (.ref f6) = true)
    (a7 : PySem.W.nsIn K mainGlobals "_law_tells" = some (some (.ref f7)))
    (l7 : K.lookup f7 = some ⟨oc7, od7, .func (PySem.W.fnOf "_law_tells" "_law_tells" (defArgs s__law_tells) (defBody s__law_tells) (defScope s__law_tells) .none kV7 dc7 pm7 an7 cd7 ct7), sl7⟩)
    (x7 : PySem.W.codeIn K cd7 "_law_tells" = true)
    (k7 : PySem.W.keepIn K (.ref f7) = true)
    (a8 : PySem.W.nsIn K mainGlobals "_law_asked" = some (some (.ref f8)))
    (l8 : K.lookup f8 = some ⟨oc8, od8, .func (PySem.W.fnOf "_law_asked" "_law_asked" (defArgs s__law_asked) (defBody s__law_asked) (defScope s__law_asked) .none kV8 dc8 pm8 an8 cd8 ct8), sl8⟩)
    (x8 : PySem.W.codeIn K cd8 "_law_asked" = true)
    (k8 : PySem.W.keepIn K (.ref f8) = true)
    (a9 : PySem.W.nsIn K mainGlobals "_law_by_hand_right" = some (some (.ref f9)))
    (l9 : K.lookup f9 = some ⟨oc9, od9, .func (PySem.W.fnOf "_law_by_hand_right" "_law_by_hand_right" (defArgs s__law_by_hand_right) (defBody s__law_by_hand_right) (defScope s__law_by_hand_right) .none kV9 dc9 pm9 an9 cd9 ct9), sl9⟩)
    (x9 : PySem.W.codeIn K cd9 "_law_by_hand_right" = true)
    (k9 : PySem.W.keepIn K (.ref f9) = true)
    (a10 : PySem.W.nsIn K mainGlobals "_law_right" = some (some (.ref f10)))
    (l10 : K.lookup f10 = some ⟨oc10, od10, .func (PySem.W.fnOf "_law_right" "_law_right" (defArgs s__law_right) (defBody s__law_right) (defScope s__law_right) .none kV10 dc10 pm10 an10 cd10 ct10), sl10⟩)
    (x10 : PySem.W.codeIn K cd10 "_law_right" = true)
    (k10 : PySem.W.keepIn K (.ref f10) = true)
    (a11 : PySem.W.nsIn K mainGlobals "law" = some (some (.ref f11)))
    (l11 : K.lookup f11 = some ⟨oc11, od11, .func (PySem.W.fnOf "law" "law" (defArgs s_law) (defBody s_law) (defScope s_law) .none kV11 dc11 pm11 an11 cd11 ct11), sl11⟩)
    (x11 : PySem.W.codeIn K cd11 "law" = true)
    (k11 : PySem.W.keepIn K (.ref f11) = true)
    (z_abs : PySem.W.nsIn K mainGlobals "abs" = some none)
    (z_all : PySem.W.nsIn K mainGlobals "all" = some none)
    (z_bool : PySem.W.nsIn K mainGlobals "bool" = some none)
    (z_enumerate : PySem.W.nsIn K mainGlobals "enumerate" = some none)
    (z_int : PySem.W.nsIn K mainGlobals "int" = some none)
    (z_isinstance : PySem.W.nsIn K mainGlobals "isinstance" = some none)
    (z_len : PySem.W.nsIn K mainGlobals "len" = some none)
    (z_list : PySem.W.nsIn K mainGlobals "list" = some none)
    (z_max : PySem.W.nsIn K mainGlobals "max" = some none)
    (z_range : PySem.W.nsIn K mainGlobals "range" = some none)
    (z_set : PySem.W.nsIn K mainGlobals "set" = some none)
    (z_sorted : PySem.W.nsIn K mainGlobals "sorted" = some none)
    (z_str : PySem.W.nsIn K mainGlobals "str" = some none)
    (z_sum : PySem.W.nsIn K mainGlobals "sum" = some none)
    (z_tuple : PySem.W.nsIn K mainGlobals "tuple" = some none)
    (z_zip : PySem.W.nsIn K mainGlobals "zip" = some none) :
    Tx K mg (fun i => ([f0, f1, f2, f3, f4, f5, f6, f7, f8, f9, f10, f11] : List Addr).getD i 0) (fun i => ([(PySem.W.fnOf "over" "over" (defArgs s_over) (defBody s_over) (defScope s_over) .none kV0 dc0 pm0 an0 cd0 ct0), (PySem.W.fnOf "telling_level" "telling_level" (defArgs s_telling_level) (defBody s_telling_level) (defScope s_telling_level) .none kV1 dc1 pm1 an1 cd1 ct1), (PySem.W.fnOf "_law_box" "_law_box" (defArgs s__law_box) (defBody s__law_box) (defScope s__law_box) .none kV2 dc2 pm2 an2 cd2 ct2), (PySem.W.fnOf "_law_take" "_law_take" (defArgs s__law_take) (defBody s__law_take) (defScope s__law_take) .none kV3 dc3 pm3 an3 cd3 ct3), (PySem.W.fnOf "_law_cells" "_law_cells" (defArgs s__law_cells) (defBody s__law_cells) (defScope s__law_cells) .none kV4 dc4 pm4 an4 cd4 ct4), (PySem.W.fnOf "_law_same" "_law_same" (defArgs s__law_same) (defBody s__law_same) (defScope s__law_same) .none kV5 dc5 pm5 an5 cd5 ct5), (PySem.W.fnOf "_law_over" "_law_over" (defArgs s__law_over) (defBody s__law_over) (defScope s__law_over) .none kV6 dc6 pm6 an6 cd6 ct6), (PySem.W.fnOf "_law_tells" "_law_tells" (defArgs s__law_tells) (defBody s__law_tells) (defScope s__law_tells) .none kV7 dc7 pm7 an7 cd7 ct7), (PySem.W.fnOf "_law_asked" "_law_asked" (defArgs s__law_asked) (defBody s__law_asked) (defScope s__law_asked) .none kV8 dc8 pm8 an8 cd8 ct8), (PySem.W.fnOf "_law_by_hand_right" "_law_by_hand_right" (defArgs s__law_by_hand_right) (defBody s__law_by_hand_right) (defScope s__law_by_hand_right) .none kV9 dc9 pm9 an9 cd9 ct9), (PySem.W.fnOf "_law_right" "_law_right" (defArgs s__law_right) (defBody s__law_right) (defScope s__law_right) .none kV10 dc10 pm10 an10 cd10 ct10), (PySem.W.fnOf "law" "law" (defArgs s_law) (defBody s_law) (defScope s_law) .none kV11 dc11 pm11 an11 cd11 ct11)] : List FuncData).getD i (PySem.W.fnOf "over" "over" (defArgs s_over) (defBody s_over) (defScope s_over) .none kV0 dc0 pm0 an0 cd0 ct0)) := by
  have F0 := fun_mk (st := s_over) l0 x0 k0
  have F1 := fun_mk (st := s_telling_level) l1 x1 k1
  have F2 := fun_mk (st := s__law_box) l2 x2 k2
  have F3 := fun_mk (st := s__law_take) l3 x3 k3
  have F4 := fun_mk (st := s__law_cells) l4 x4 k4
  have F5 := fun_mk (st := s__law_same) l5 x5 k5
  have F6 := fun_mk (st := s__law_over) l6 x6 k6
  have F7 := fun_mk (st := s__law_tells) l7 x7 k7
  have F8 := fun_mk (st := s__law_asked) l8 x8 k8
  have F9 := fun_mk (st := s__law_by_hand_right) l9 x9 k9
  have F10 := fun_mk (st := s__law_right) l10 x10 k10
  have F11 := fun_mk (st := s_law) l11 x11 k11
  exact {
      F_over := F0,
      g_over := PySem.W.mg_of X G a0,
      b_over := F0.binds (ps := ["one", "level"]) fun _ _ _ _ _ _ us hl => match us, hl with | [_, _], _ => rfl,
      F_telling_level := F1,
      g_telling_level := PySem.W.mg_of X G a1,
      b_telling_level := F1.binds (ps := ["one", "other"]) fun _ _ _ _ _ _ us hl => match us, hl with | [_, _], _ => rfl,
      F__law_box := F2,
      g__law_box := PySem.W.mg_of X G a2,
      b__law_box := F2.binds (ps := ["script", "k"]) fun _ _ _ _ _ _ us hl => match us, hl with | [_, _], _ => rfl,
      F__law_take := F3,
      g__law_take := PySem.W.mg_of X G a3,
      b__law_take := F3.binds (ps := ["urn", "low_so"]) fun _ _ _ _ _ _ us hl => match us, hl with | [_, _], _ => rfl,
      F__law_cells := F4,
      g__law_cells := PySem.W.mg_of X G a4,
      b__law_cells := F4.binds (ps := ["script", "top"]) fun _ _ _ _ _ _ us hl => match us, hl with | [_, _], _ => rfl,
      F__law_same := F5,
      g__law_same := PySem.W.mg_of X G a5,
      b__law_same := F5.binds (ps := ["got", "goal"]) fun _ _ _ _ _ _ us hl => match us, hl with | [_, _], _ => rfl,
      F__law_over := F6,
      g__law_over := PySem.W.mg_of X G a6,
      b__law_over := F6.binds (ps := ["own", "low_so"]) fun _ _ _ _ _ _ us hl => match us, hl with | [_, _], _ => rfl,
      F__law_tells := F7,
      g__law_tells := PySem.W.mg_of X G a7,
      b__law_tells := F7.binds (ps := ["one_so", "two_so"]) fun _ _ _ _ _ _ us hl => match us, hl with | [_, _], _ => rfl,
      F__law_asked := F8,
      g__law_asked := PySem.W.mg_of X G a8,
      b__law_asked := F8.binds (ps := ["one_so", "two_so"]) fun _ _ _ _ _ _ us hl => match us, hl with | [_, _], _ => rfl,
      F__law_by_hand_right := F9,
      g__law_by_hand_right := PySem.W.mg_of X G a9,
      b__law_by_hand_right := F9.binds (ps := []) fun _ _ _ _ _ _ us hl => match us, hl with | [], _ => rfl,
      F__law_right := F10,
      g__law_right := PySem.W.mg_of X G a10,
      b__law_right := F10.binds (ps := ["urn"]) fun _ _ _ _ _ _ us hl => match us, hl with | [_], _ => rfl,
      F_law := F11,
      g_law := PySem.W.mg_of X G a11,
      b_law := F11.binds (ps := ["script"]) fun _ _ _ _ _ _ us hl => match us, hl with | [_], _ => rfl,
      kw_telling_level_0_other_one := Fun.kwb F1 fun _ _ _ _ _ _ us ws l1 l2 => match us, ws, l1, l2 with | [], [_, _], _, _ => rfl,
      kw_over_0_level_one := Fun.kwb F0 fun _ _ _ _ _ _ us ws l1 l2 => match us, ws, l1, l2 with | [], [_, _], _, _ => rfl,
      kw__law_by_hand_right_0_0 := Fun.kwb F9 fun _ _ _ _ _ _ us ws l1 l2 => match us, ws, l1, l2 with | [], [], _, _ => rfl,
      z_abs := PySem.W.mg_none_of X G z_abs,
      z_all := PySem.W.mg_none_of X G z_all,
      z_bool := PySem.W.mg_none_of X G z_bool,
      z_enumerate := PySem.W.mg_none_of X G z_enumerate,
      z_int := PySem.W.mg_none_of X G z_int,
      z_isinstance := PySem.W.mg_none_of X G z_isinstance,
      z_len := PySem.W.mg_none_of X G z_len,
      z_list := PySem.W.mg_none_of X G z_list,
      z_max := PySem.W.mg_none_of X G z_max,
      z_range := PySem.W.mg_none_of X G z_range,
      z_set := PySem.W.mg_none_of X G z_set,
      z_sorted := PySem.W.mg_none_of X G z_sorted,
      z_str := PySem.W.mg_none_of X G z_str,
      z_sum := PySem.W.mg_none_of X G z_sum,
      z_tuple := PySem.W.mg_none_of X G z_tuple,
      z_zip := PySem.W.mg_none_of X G z_zip }
def spLaw (K : PySem.W.Frag) : Sp := fun vs H Q _ => ∃ (a : Addr) (ns : List Int), vs = [.ref a] ∧ SqL K H a (ns.map V.int) ∧ Only H ∧ ns.length ≤ 63 ∧ ∀ H', Q (.bl true) H'
theorem rps_ints {K : PySem.W.Frag} {G : Hp} : ∀ ns : List Int, Rps K G (ns.map V.int) (ns.map D.int)
  | [] => .nil
  | _ :: l => .cons (.int _) (rps_ints l)
theorem law_sp {K : PySem.W.Frag} {cs : List Addr} {fn : List Sl → Rs Vd} (h : ∀ ns : List Int, ns.length ≤ 63 → ∃ as, fn [.sh (.scr (ns.map D.int))] = .ok (.sh (.bl true)) as) (vs : List V) (H : Hp) (Q : VK) (E : XK) (z : spLaw K vs H Q E) : spD cs K 1 fn vs H Q E := by
  obtain ⟨a, ns, rfl, hS, _, hl, q⟩ := z
  obtain ⟨as, e⟩ := h ns hl
  refine ⟨rfl, H, [.sh (.scr (ns.map D.int))], ⟨Same.refl _, rfl, fun i v s h1 h2 => ?_, fun i j b s t l m h1 h2 h3 h4 h5 h6 => ?_⟩, ?_⟩
  · cases i with
    | zero => cases h1; cases h2; exact .sh (.scr hS (rps_ints ns))
    | succ i => simp at h1
  · cases i with
    | zero => cases h3; cases h5
    | succ i => simp at h1
  · rw [e]
    intro v G' H' w r
    have r' : Rp K G' v (.bl true) := r
    cases r'
    exact q H'
theorem all_mk {P : Program} {w : World} {K : PySem.W.Frag} {h : Heap} {mg : Str → Option Value} {fx : Addr} (X : K.In h) (G : h.Ns mainGlobals mg) (hfa : mg "law" = some (.ref fx)) {f0 f1 f2 f3 f4 f5 f6 f7 f8 f9 f10 f11 : Addr} {od0 an0 od1 an1 od2 an2 od3 an3 od4 an4 od5 an5 od6 an6 od7 an7 od8 an8 od9 an9 od10 an10 od11 an11 : Option Addr} {sl0 sl1 sl2 sl3 sl4 sl5 sl6 sl7 sl8 sl9 sl10 sl11 : Array (Option Value)} {oc0 kV0 dc0 pm0 cd0 ct0 oc1 kV1 dc1 pm1 cd1 ct1 oc2 kV2 dc2 pm2 cd2 ct2 oc3 kV3 dc3 pm3 cd3 ct3 oc4 kV4 dc4 pm4 cd4 ct4 oc5 kV5 dc5 pm5 cd5 ct5 oc6 kV6 dc6 pm6 cd6 ct6 oc7 kV7 dc7 pm7 cd7 ct7 oc8 kV8 dc8 pm8 cd8 ct8 oc9 kV9 dc9 pm9 cd9 ct9 oc10 kV10 dc10 pm10 cd10 ct10 oc11 kV11 dc11 pm11 cd11 ct11 : Value}
    (a0 : PySem.W.nsIn K mainGlobals "over" = some (some (.ref f0)))
    (l0 : K.lookup f0 = some ⟨oc0, od0, .func (PySem.W.fnOf "over" "over" (defArgs s_over) (defBody s_over) (defScope s_over) .none kV0 dc0 pm0 an0 cd0 ct0), sl0⟩)
    (x0 : PySem.W.codeIn K cd0 "over" = true)
    (k0 : PySem.W.keepIn K (.ref f0) = true)
    (a1 : PySem.W.nsIn K mainGlobals "telling_level" = some (some (.ref f1)))
    (l1 : K.lookup f1 = some ⟨oc1, od1, .func (PySem.W.fnOf "telling_level" "telling_level" (defArgs s_telling_level) (defBody s_telling_level) (defScope s_telling_level) .none kV1 dc1 pm1 an1 cd1 ct1), sl1⟩)
    (x1 : PySem.W.codeIn K cd1 "telling_level" = true)
    (k1 : PySem.W.keepIn K (.ref f1) = true)
    (a2 : PySem.W.nsIn K mainGlobals "_law_box" = some (some (.ref f2)))
    (l2 : K.lookup f2 = some ⟨oc2, od2, .func (PySem.W.fnOf "_law_box" "_law_box" (defArgs s__law_box) (defBody s__law_box) (defScope s__law_box) .none kV2 dc2 pm2 an2 cd2 ct2), sl2⟩)
    (x2 : PySem.W.codeIn K cd2 "_law_box" = true)
    (k2 : PySem.W.keepIn K (.ref f2) = true)
    (a3 : PySem.W.nsIn K mainGlobals "_law_take" = some (some (.ref f3)))
    (l3 : K.lookup f3 = some ⟨oc3, od3, .func (PySem.W.fnOf "_law_take" "_law_take" (defArgs s__law_take) (defBody s__law_take) (defScope s__law_take) .none kV3 dc3 pm3 an3 cd3 ct3), sl3⟩)
    (x3 : PySem.W.codeIn K cd3 "_law_take" = true)
    (k3 : PySem.W.keepIn K (.ref f3) = true)
    (a4 : PySem.W.nsIn K mainGlobals "_law_cells" = some (some (.ref f4)))
    (l4 : K.lookup f4 = some ⟨oc4, od4, .func (PySem.W.fnOf "_law_cells" "_law_cells" (defArgs s__law_cells) (defBody s__law_cells) (defScope s__law_cells) .none kV4 dc4 pm4 an4 cd4 ct4), sl4⟩)
    (x4 : PySem.W.codeIn K cd4 "_law_cells" = true)
    (k4 : PySem.W.keepIn K (.ref f4) = true)
    (a5 : PySem.W.nsIn K mainGlobals "_law_same" = some (some (.ref f5)))
    (l5 : K.lookup f5 = some ⟨oc5, od5, .func (PySem.W.fnOf "_law_same" "_law_same" (defArgs s__law_same) (defBody s__law_same) (defScope s__law_same) .none kV5 dc5 pm5 an5 cd5 ct5), sl5⟩)
    (x5 : PySem.W.codeIn K cd5 "_law_same" = true)
    (k5 : PySem.W.keepIn K (.ref f5) = true)
    (a6 : PySem.W.nsIn K mainGlobals "_law_over" = some (some (.ref f6)))
    (l6 : K.lookup f6 = some ⟨oc6, od6, .func (PySem.W.fnOf "_law_over" "_law_over" (defArgs s__law_over) (defBody s__law_over) (defScope s__law_over) .none kV6 dc6 pm6 an6 cd6 ct6), sl6⟩)
    (x6 : PySem.W.codeIn K cd6 "_law_over" = true)
    (k6 : PySem.W.keepIn K (.ref f6) = true)
    (a7 : PySem.W.nsIn K mainGlobals "_law_tells" = some (some (.ref f7)))
    (l7 : K.lookup f7 = some ⟨oc7, od7, .func (PySem.W.fnOf "_law_tells" "_law_tells" (defArgs s__law_tells) (defBody s__law_tells) (defScope s__law_tells) .none kV7 dc7 pm7 an7 cd7 ct7), sl7⟩)
    (x7 : PySem.W.codeIn K cd7 "_law_tells" = true)
    (k7 : PySem.W.keepIn K (.ref f7) = true)
    (a8 : PySem.W.nsIn K mainGlobals "_law_asked" = some (some (.ref f8)))
    (l8 : K.lookup f8 = some ⟨oc8, od8, .func (PySem.W.fnOf "_law_asked" "_law_asked" (defArgs s__law_asked) (defBody s__law_asked) (defScope s__law_asked) .none kV8 dc8 pm8 an8 cd8 ct8), sl8⟩)
    (x8 : PySem.W.codeIn K cd8 "_law_asked" = true)
    (k8 : PySem.W.keepIn K (.ref f8) = true)
    (a9 : PySem.W.nsIn K mainGlobals "_law_by_hand_right" = some (some (.ref f9)))
    (l9 : K.lookup f9 = some ⟨oc9, od9, .func (PySem.W.fnOf "_law_by_hand_right" "_law_by_hand_right" (defArgs s__law_by_hand_right) (defBody s__law_by_hand_right) (defScope s__law_by_hand_right) .none kV9 dc9 pm9 an9 cd9 ct9), sl9⟩)
    (x9 : PySem.W.codeIn K cd9 "_law_by_hand_right" = true)
    (k9 : PySem.W.keepIn K (.ref f9) = true)
    (a10 : PySem.W.nsIn K mainGlobals "_law_right" = some (some (.ref f10)))
    (l10 : K.lookup f10 = some ⟨oc10, od10, .func (PySem.W.fnOf "_law_right" "_law_right" (defArgs s__law_right) (defBody s__law_right) (defScope s__law_right) .none kV10 dc10 pm10 an10 cd10 ct10), sl10⟩)
    (x10 : PySem.W.codeIn K cd10 "_law_right" = true)
    (k10 : PySem.W.keepIn K (.ref f10) = true)
    (a11 : PySem.W.nsIn K mainGlobals "law" = some (some (.ref f11)))
    (l11 : K.lookup f11 = some ⟨oc11, od11, .func (PySem.W.fnOf "law" "law" (defArgs s_law) (defBody s_law) (defScope s_law) .none kV11 dc11 pm11 an11 cd11 ct11), sl11⟩)
    (x11 : PySem.W.codeIn K cd11 "law" = true)
    (k11 : PySem.W.keepIn K (.ref f11) = true)
    (z_abs : PySem.W.nsIn K mainGlobals "abs" = some none)
    (z_all : PySem.W.nsIn K mainGlobals "all" = some none)
    (z_bool : PySem.W.nsIn K mainGlobals "bool" = some none)
    (z_enumerate : PySem.W.nsIn K mainGlobals "enumerate" = some none)
    (z_int : PySem.W.nsIn K mainGlobals "int" = some none)
    (z_isinstance : PySem.W.nsIn K mainGlobals "isinstance" = some none)
    (z_len : PySem.W.nsIn K mainGlobals "len" = some none)
    (z_list : PySem.W.nsIn K mainGlobals "list" = some none)
    (z_max : PySem.W.nsIn K mainGlobals "max" = some none)
    (z_range : PySem.W.nsIn K mainGlobals "range" = some none)
    (z_set : PySem.W.nsIn K mainGlobals "set" = some none)
    (z_sorted : PySem.W.nsIn K mainGlobals "sorted" = some none)
    (z_str : PySem.W.nsIn K mainGlobals "str" = some none)
    (z_sum : PySem.W.nsIn K mainGlobals "sum" = some none)
    (z_tuple : PySem.W.nsIn K mainGlobals "tuple" = some none)
    (z_zip : PySem.W.nsIn K mainGlobals "zip" = some none)  :
    ∃ fd : FuncData, (∀ (s : Shared) (v : Value), BindsTo s fd ⟨[v], []⟩ [("script", v)]) ∧ ∀ base : Heap, K.In base → base.Ns mainGlobals mg → FnOk P w K mg base (L2.CX P w) 44 fx fd ["script"] (spLaw K) := by
  have e := hfa.symm.trans (PySem.W.mg_of X G a11)
  cases e

  refine ⟨PySem.W.fnOf "law" "law" (defArgs s_law) (defBody s_law) (defScope s_law) .none kV11 dc11 pm11 an11 cd11 ct11, fun s v => .of_eq rfl, fun base _ _ => ?_⟩
  have T := mk_T X G a0 l0 x0 k0 a1 l1 x1 k1 a2 l2 x2 k2 a3 l3 x3 k3 a4 l4 x4 k4 a5 l5 x5 k5 a6 l6 x6 k6 a7 l7 x7 k7 a8 l8 x8 k8 a9 l9 x9 k9 a10 l10 x10 k10 a11 l11 x11 k11 z_abs z_all z_bool z_enumerate z_int z_isinstance z_len z_list z_max z_range z_set z_sorted z_str z_sum z_tuple z_zip
  exact (ok_law (cs := []) T).imp (law_sp fun ns hl => pure_law  ns hl)
end FRT
open PySem PySem.W PyProof.Rows
set_option maxHeartbeats 0 in
theorem PySem.Challenge.cw_freightrights_k39_levels_and_what_is_ove_holds : PySem.Challenge.rw_freightrights_k39_levels_and_what_is_ove.Holds := by
  w_on; o_law; k_head; (case hw => w_witness2)
  k_fill
  refine L2.walk_of (l := PySem.Challenge.rw_freightrights_k39_levels_and_what_is_ove) (n := 63) (k := 44) (x := "script") (CX := fun w => L2.CX PySem.Challenge.rw_freightrights_k39_levels_and_what_is_ove.prog w) (sp := fun w => FRT.spLaw _) rfl (by decide) rfl ⟨rfl, by decide, by decide⟩ (fun w h Y => PySem.W.kIn_of Y) ?F
    (fun _ H a ns hl hO hS => ⟨a, ns, rfl, hS, hO, hl, fun _ => rfl⟩) (fun _ _ _ _ _ h => ?hx)
  case hx =>
    obtain ⟨_, _, _, _, _, _, _, _, _, _, _, _, z⟩ := h
    exact z
  case F =>
    intro w mg fa h KX G hmg
    refine' FRT.all_mk KX G hmg ?a0 ?l0 ?x0 ?k0 ?a1 ?l1 ?x1 ?k1 ?a2 ?l2 ?x2 ?k2 ?a3 ?l3 ?x3 ?k3 ?a4 ?l4 ?x4 ?k4 ?a5 ?l5 ?x5 ?k5 ?a6 ?l6 ?x6 ?k6 ?a7 ?l7 ?x7 ?k7 ?a8 ?l8 ?x8 ?k8 ?a9 ?l9 ?x9 ?k9 ?a10 ?l10 ?x10 ?k10 ?a11 ?l11 ?x11 ?k11 ?z_abs ?z_all ?z_bool ?z_enumerate ?z_int ?z_isinstance ?z_len ?z_list ?z_max ?z_range ?z_set ?z_sorted ?z_str ?z_sum ?z_tuple ?z_zip 
    (case a0 => k_is)
    (case l0 => k_is)
    (case x0 => k_is)
    (case k0 => k_is)
    (case a1 => k_is)
    (case l1 => k_is)
    (case x1 => k_is)
    (case k1 => k_is)
    (case a2 => k_is)
    (case l2 => k_is)
    (case x2 => k_is)
    (case k2 => k_is)
    (case a3 => k_is)
    (case l3 => k_is)
    (case x3 => k_is)
    (case k3 => k_is)
    (case a4 => k_is)
    (case l4 => k_is)
    (case x4 => k_is)
    (case k4 => k_is)
    (case a5 => k_is)
    (case l5 => k_is)
    (case x5 => k_is)
    (case k5 => k_is)
    (case a6 => k_is)
    (case l6 => k_is)
    (case x6 => k_is)
    (case k6 => k_is)
    (case a7 => k_is)
    (case l7 => k_is)
    (case x7 => k_is)
    (case k7 => k_is)
    (case a8 => k_is)
    (case l8 => k_is)
    (case x8 => k_is)
    (case k8 => k_is)
    (case a9 => k_is)
    (case l9 => k_is)
    (case x9 => k_is)
    (case k9 => k_is)
    (case a10 => k_is)
    (case l10 => k_is)
    (case x10 => k_is)
    (case k10 => k_is)
    (case a11 => k_is)
    (case l11 => k_is)
    (case x11 => k_is)
    (case k11 => k_is)
    (case z_abs => k_is)
    (case z_all => k_is)
    (case z_bool => k_is)
    (case z_enumerate => k_is)
    (case z_int => k_is)
    (case z_isinstance => k_is)
    (case z_len => k_is)
    (case z_list => k_is)
    (case z_max => k_is)
    (case z_range => k_is)
    (case z_set => k_is)
    (case z_sorted => k_is)
    (case z_str => k_is)
    (case z_sum => k_is)
    (case z_tuple => k_is)
    (case z_zip => k_is)
end
