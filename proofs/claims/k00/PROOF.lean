import PyProof.Rows.All
import Wide.All
import OpenK.AllK
import Wide.FinOn
import HandS.Base
import HandS.Call
import HandS.List
import HandS.Flow
import HandS.ForMost
import HandS.Defaults
import HandS.Comp
import HandS.Zip
import HandS.DictTup
import HandS.DictEq
import HandS.Deep
import PyProof.NeKinds
import HandS.TupAny
import HandS.Text
import HandS.IsInst
import HandS.Style
import HandS.Words
import KE.KRevSl
import HandS.Strs
import HandS.Dict
import HandS.ClsMeth
import HandS.Steps
import HandS.Exc
import HandS.Wide
import KE.KStateDown
import Lean
import HandS.More
import HandS.Head0
import HandS.Head1
import HandS.Head2
import HandS.HeadEnd
import HandS.HeadHook1
import HandS.HeadHook2
import HandS.HeadNt
import PySem.Challenge.RW_stillgood_k00_kinds_or_none
set_option Elab.async false
set_option linter.all false
set_option maxRecDepth 100000
set_option maxHeartbeats 0
/-! Data apart from the heap; what it is that a value is a datum; environments of data; steps. -/
namespace DL
open PySem PySem.Spec L2
open PyProof.Rows hiding St
inductive Dat where
  | non
  | bl (b : Bool)
  | int (i : Int)
  | str (z : Str)
  | ty (n : String)
  | tup (ds : List Dat)
  | lst (ds : List Dat)
  | dct (ks : List Key) (ds : List Dat)
  | obj (c : Str) (fs : List Str) (ds : List Dat)
instance : Inhabited Dat := ⟨.non⟩
section
variable (mg : Str → Option Value) (p : Addr → Prop) (H : Hp)
mutual
inductive IsD : Dat → V → Prop
  | non : IsD .non .non
  | bl {b} : IsD (.bl b) (.bl b)
  | int {i} : IsD (.int i) (.int i)
  | str {z} : IsD (.str z) (.str z)
  | ty {n} : IsD (.ty n) (.ty n)
  | tup {a vs ds} : ¬ p a → H a = some (.tup vs) → IsDs ds vs → IsD (.tup ds) (.ref a)
  | lst {a vs ds} : ¬ p a → H a = some (.lst vs) → IsDs ds vs → IsD (.lst ds) (.ref a)
  | dct {a kvs ks ds} : ¬ p a → Rd H a (.dK kvs) → kvs.map (·.1) = ks → IsDs ds (kvs.map (·.2)) → IsD (.dct ks ds) (.ref a)
  | obj {a C dx fs c ns ds} : ¬ p a → mg c = some (.ref C) → H a = some (.ins C dx fs) → fs.map (·.1) = ns → IsDs ds (fs.map (·.2)) → IsD (.obj c ns ds) (.ref a)
inductive IsDs : List Dat → List V → Prop
  | nil : IsDs [] []
  | cons {d v ds vs} : IsD d v → IsDs ds vs → IsDs (d :: ds) (v :: vs)
end
/-- the object at a is this one, its parts apart from p (a itself may be in p) -/
def IsTop : Dat → Addr → Prop
  | .lst ds, a => ∃ vs, H a = some (.lst vs) ∧ IsDs mg p H ds vs
  | .dct ks ds, a => ∃ kvs, H a = some (.dK kvs) ∧ kvs.map (·.1) = ks ∧ IsDs mg p H ds (kvs.map (·.2))
  | .obj c ns ds, a => ∃ C dx fs, mg c = some (.ref C) ∧ H a = some (.ins C dx fs) ∧ fs.map (·.1) = ns ∧ IsDs mg p H ds (fs.map (·.2))
  | _, _ => False
end
/-- apart from p, or the object itself -/
def IsV (mg : Str → Option Value) (p : Addr → Prop) (H : Hp) (d : Dat) (v : V) : Prop := IsD mg p H d v ∨ ∃ a, v = .ref a ∧ p a ∧ IsTop mg p H d a
section
variable {mg : Str → Option Value} {p p' : Addr → Prop} {H H' : Hp}
theorem rd_mono {a : Addr} {u : HO} (h : ∀ o, H a = some o → H' a = some o) (r : Rd H a u) : Rd H' a u := by
  rcases r with r | ⟨o, r⟩
  · exact .inl (h _ r)
  · exact .inr ⟨o, h _ r⟩
mutual
theorem IsD.mono (hp : ∀ a, p' a → p a) (hs : ∀ b o, H b = some o → ¬ p b → H' b = some o) : ∀ {d : Dat} {v : V}, IsD mg p H d v → IsD mg p' H' d v
  | _, _, .non => .non
  | _, _, .bl => .bl
  | _, _, .int => .int
  | _, _, .str => .str
  | _, _, .ty => .ty
  | _, _, .tup n s r => .tup (fun q => n (hp _ q)) (hs _ _ s n) (IsDs.mono hp hs r)
  | _, _, .lst n s r => .lst (fun q => n (hp _ q)) (hs _ _ s n) (IsDs.mono hp hs r)
  | _, _, .dct n s e r => .dct (fun q => n (hp _ q)) (rd_mono (fun o e => hs _ o e n) s) e (IsDs.mono hp hs r)
  | _, _, .obj n m s e r => .obj (fun q => n (hp _ q)) m (hs _ _ s n) e (IsDs.mono hp hs r)
theorem IsDs.mono (hp : ∀ a, p' a → p a) (hs : ∀ b o, H b = some o → ¬ p b → H' b = some o) : ∀ {ds : List Dat} {vs : List V}, IsDs mg p H ds vs → IsDs mg p' H' ds vs
  | _, _, .nil => .nil
  | _, _, .cons h t => .cons (IsD.mono hp hs h) (IsDs.mono hp hs t)
end
theorem rd_ne {a b : Addr} {u : HO} (n : H a = none) (r : Rd H b u) : b ≠ a := by
  rintro rfl
  rcases r with r | ⟨o, r⟩ <;> (rw [n] at r; cases r)
mutual
/-- apart from a new place too -/
theorem IsD.off {a : Addr} (n : H a = none) : ∀ {d : Dat} {v : V}, IsD mg p H d v → IsD mg (fun b => p b ∨ b = a) H d v
  | _, _, .non => .non
  | _, _, .bl => .bl
  | _, _, .int => .int
  | _, _, .str => .str
  | _, _, .ty => .ty
  | _, _, .tup np s r => .tup (fun q => q.elim np (ne_of_none s n)) s (IsDs.off n r)
  | _, _, .lst np s r => .lst (fun q => q.elim np (ne_of_none s n)) s (IsDs.off n r)
  | _, _, .dct np s e r => .dct (fun q => q.elim np (rd_ne n s)) s e (IsDs.off n r)
  | _, _, .obj np m s e r => .obj (fun q => q.elim np (fun e => by
      subst e
      rw [n] at s
      cases s)) m s e (IsDs.off n r)
theorem IsDs.off {a : Addr} (n : H a = none) : ∀ {ds : List Dat} {vs : List V}, IsDs mg p H ds vs → IsDs mg (fun b => p b ∨ b = a) H ds vs
  | _, _, .nil => .nil
  | _, _, .cons h t => .cons (IsD.off n h) (IsDs.off n t)
end
mutual
/-- apart from all that is not tracked -/
theorem IsD.all : ∀ {d : Dat} {v : V}, IsD mg p H d v → IsD mg (fun b => p b ∨ H b = none) H d v
  | _, _, .non => .non
  | _, _, .bl => .bl
  | _, _, .int => .int
  | _, _, .str => .str
  | _, _, .ty => .ty
  | _, _, .tup np s r => .tup (fun q => q.elim np fun n => ne_of_none s n rfl) s (IsDs.all r)
  | _, _, .lst np s r => .lst (fun q => q.elim np fun n => ne_of_none s n rfl) s (IsDs.all r)
  | _, _, .dct np s e r => .dct (fun q => q.elim np fun n => rd_ne n s rfl) s e (IsDs.all r)
  | _, _, .obj np m s e r => .obj (fun q => q.elim np fun n => ne_of_none s n rfl) m s e (IsDs.all r)
theorem IsDs.all : ∀ {ds : List Dat} {vs : List V}, IsDs mg p H ds vs → IsDs mg (fun b => p b ∨ H b = none) H ds vs
  | _, _, .nil => .nil
  | _, _, .cons h t => .cons (IsD.all h) (IsDs.all t)
end
theorem IsTop.mono {a : Addr} {d : Dat} (hp : ∀ a, p' a → p a) (hs : ∀ b o, H b = some o → ¬ p b → H' b = some o) (ha : ∀ o, H a = some o → H' a = some o) (h : IsTop mg p H d a) : IsTop mg p' H' d a := by
  cases d with
  | lst ds =>
    obtain ⟨vs, e, r⟩ := h
    exact ⟨vs, ha _ e, r.mono hp hs⟩
  | dct ks ds =>
    obtain ⟨kvs, e, k, r⟩ := h
    exact ⟨kvs, ha _ e, k, r.mono hp hs⟩
  | obj c ns ds =>
    obtain ⟨C, dx, fs, m, e, k, r⟩ := h
    exact ⟨C, dx, fs, m, ha _ e, k, r.mono hp hs⟩
  | _ => exact h
theorem IsTop.at {a : Addr} {d : Dat} (h : IsTop mg p H d a) : H a ≠ none := by
  cases d with
  | lst ds =>
    obtain ⟨vs, e, r⟩ := h
    rw [e]; simp
  | dct ks ds =>
    obtain ⟨kvs, e, k, r⟩ := h
    rw [e]; simp
  | obj c ns ds =>
    obtain ⟨C, dx, fs, m, e, k, r⟩ := h
    rw [e]; simp
  | _ => exact absurd h (fun z => z)
theorem IsTop.isD {a : Addr} {d : Dat} (n : ¬ p a) (h : IsTop mg p H d a) : IsD mg p H d (.ref a) := by
  cases d with
  | lst ds =>
    obtain ⟨vs, e, r⟩ := h
    exact .lst n e r
  | dct ks ds =>
    obtain ⟨kvs, e, k, r⟩ := h
    exact .dct n (.inl e) k r
  | obj c ns ds =>
    obtain ⟨C, dx, fs, m, e, k, r⟩ := h
    exact .obj n m e k r
  | _ => exact absurd h (fun z => z)
theorem IsTop.off {a c : Addr} {d : Dat} (n : H c = none) (h : IsTop mg p H d a) : IsTop mg (fun b => p b ∨ b = c) H d a := by
  cases d with
  | lst ds =>
    obtain ⟨vs, e, r⟩ := h
    exact ⟨vs, e, r.off n⟩
  | dct ks ds =>
    obtain ⟨kvs, e, k, r⟩ := h
    exact ⟨kvs, e, k, r.off n⟩
  | obj c ns ds =>
    obtain ⟨C, dx, fs, m, e, k, r⟩ := h
    exact ⟨C, dx, fs, m, e, k, r.off n⟩
  | _ => exact h
theorem IsTop.all {a : Addr} {d : Dat} (h : IsTop mg p H d a) : IsTop mg (fun b => p b ∨ H b = none) H d a := by
  cases d with
  | lst ds =>
    obtain ⟨vs, e, r⟩ := h
    exact ⟨vs, e, r.all⟩
  | dct ks ds =>
    obtain ⟨kvs, e, k, r⟩ := h
    exact ⟨kvs, e, k, r.all⟩
  | obj c ns ds =>
    obtain ⟨C, dx, fs, m, e, k, r⟩ := h
    exact ⟨C, dx, fs, m, e, k, r.all⟩
  | _ => exact h
theorem IsDs.length : ∀ {ds : List Dat} {vs : List V}, IsDs mg p H ds vs → ds.length = vs.length
  | _, _, .nil => rfl
  | _, _, .cons _ t => by simp [t.length]
theorem IsDs.get : ∀ {ds : List Dat} {vs : List V} {i : Nat} {d : Dat}, IsDs mg p H ds vs → ds[i]? = some d → ∃ v, vs[i]? = some v ∧ IsD mg p H d v
  | _, _, _, _, .nil, e =>
      by simp at e
  | _, _, 0, _, .cons h t, e => by simp at e; subst e; exact ⟨_, rfl, h⟩
  | _, _, i + 1, d, .cons _ t, e => by
    obtain ⟨v, h1, h2⟩ := IsDs.get (i := i) (d := d) t (by simpa using e)
    exact ⟨v, by simpa using h1, h2⟩
theorem IsDs.get' : ∀ {ds : List Dat} {vs : List V} {i : Nat} {v : V}, IsDs mg p H ds vs → vs[i]? = some v → ∃ d, ds[i]? = some d ∧ IsD mg p H d v
  | _, _, _, _, .nil, e =>
      by simp at e
  | _, _, 0, _, .cons h t, e => by simp at e; subst e; exact ⟨_, rfl, h⟩
  | _, _, i + 1, d, .cons _ t, e => by
    obtain ⟨v, h1, h2⟩ := IsDs.get' (i := i) (v := d) t (by simpa using e)
    exact ⟨v, by simpa using h1, h2⟩
theorem IsDs.append : ∀ {ds es : List Dat} {vs us : List V}, IsDs mg p H ds vs → IsDs mg p H es us → IsDs mg p H (ds ++ es) (vs ++ us)
  | _, _, _, _, .nil, h => h
  | _, _, _, _, .cons h t, r => .cons h (t.append r)
theorem IsDs.take : ∀ {ds : List Dat} {vs : List V} (n : Nat), IsDs mg p H ds vs → IsDs mg p H (ds.take n) (vs.take n)
  | _, _, 0, _ => by simp; exact .nil
  | _, _, _ + 1, .nil => by simp; exact .nil
  | _, _, n + 1, .cons h t => .cons h (t.take n)
theorem IsDs.drop : ∀ {ds : List Dat} {vs : List V} (n : Nat), IsDs mg p H ds vs → IsDs mg p H (ds.drop n) (vs.drop n)
  | _, _, 0, h => h
  | _, _, _ + 1, .nil => by simp; exact .nil
  | _, _, n + 1, .cons h t => t.drop n
theorem IsDs.set : ∀ {ds : List Dat} {vs : List V} {d : Dat} {v : V} (n : Nat), IsDs mg p H ds vs → IsD mg p H d v → IsDs mg p H (ds.set n d) (vs.set n v)
  | _, _, _, _, _, .nil, _ => .nil
  | _, _, _, _, 0, .cons _ t, r => .cons r t
  | _, _, _, _, n + 1, .cons h t, r => .cons h (t.set n r)
theorem IsDs.reverse : ∀ {ds : List Dat} {vs : List V}, IsDs mg p H ds vs → IsDs mg p H ds.reverse vs.reverse
  | _, _, .nil => .nil
  | _, _, .cons h t => by
    rw [List.reverse_cons,
        List.reverse_cons]
    exact t.reverse.append (.cons h .nil)
theorem IsDs.one {d : Dat} {v : V} (h : IsD mg p H d v) : IsDs mg p H [d] [v] := .cons h .nil
theorem IsV.mono {d : Dat} {v : V} (hp : ∀ a, p' a → p a) (hs : ∀ b o, H b = some o → ¬ p b → H' b = some o) (h : IsV mg p H d v) (ha : ∀ a, v = .ref a → p a → p' a ∧ ∀ o, H a = some o → H' a = some o) : IsV mg p' H' d v := by
  rcases h with h | ⟨a, rfl, hpa, h⟩
  · exact .inl (h.mono hp hs)
  · exact .inr ⟨a, rfl, (ha a rfl hpa).1, h.mono hp hs (ha a rfl hpa).2⟩
/-- what a readable list is -/
theorem IsV.lstE {ds : List Dat} {v : V} (h : IsV mg p H (.lst ds) v) : ∃ a vs, v = .ref a ∧ H a = some (.lst vs) ∧ IsDs mg p H ds vs := by
  rcases h with h | ⟨a, rfl, _, vs, e, r⟩
  · cases h with
    | lst n s r => exact ⟨_, _, rfl, s, r⟩
  · exact ⟨a, vs, rfl, e, r⟩
theorem IsV.tupE {ds : List Dat} {v : V} (h : IsV mg p H (.tup ds) v) : ∃ a vs, v = .ref a ∧ ¬ p a ∧ H a = some (.tup vs) ∧ IsDs mg p H ds vs := by
  rcases h with h | ⟨a, rfl, _, h⟩
  · cases h with
    | tup n s r => exact ⟨_, _, rfl, n, s, r⟩
  · exact absurd h (fun z => z)
theorem IsV.dctE {ks : List Key} {ds : List Dat} {v : V} (h : IsV mg p H (.dct ks ds) v) : ∃ a kvs, v = .ref a ∧ Rd H a (.dK kvs) ∧ kvs.map (·.1) = ks ∧ IsDs mg p H ds (kvs.map (·.2)) := by
  rcases h with h | ⟨a, rfl, _, kvs, e, k, r⟩
  · cases h with
    | dct n s k r => exact ⟨_, _, rfl, s, k, r⟩
  · exact ⟨a, kvs, rfl, .inl e, k, r⟩
theorem IsV.objE {c : Str} {ns : List Str} {ds : List Dat} {v : V} (h : IsV mg p H (.obj c ns ds) v) : ∃ a C dx fs, v = .ref a ∧ mg c = some (.ref C) ∧ H a = some (.ins C dx fs) ∧ fs.map (·.1) = ns ∧ IsDs mg p H ds (fs.map (·.2)) := by
  rcases h with h | ⟨a, rfl, _, C, dx, fs, m, e, k, r⟩
  · cases h with
    | obj n m s k r => exact ⟨_, _, _, _, rfl, m, s, k, r⟩
  · exact ⟨a, C, dx, fs, rfl, m, e, k, r⟩
theorem IsV.intE {i : Int} {v : V} (h : IsV mg p H (.int i) v) : v = .int i := by
  rcases h with h | ⟨a, rfl, _, h⟩
  · cases h; rfl
  · exact absurd h (fun z => z)
theorem IsV.blE {i : Bool} {v : V} (h : IsV mg p H (.bl i) v) : v = .bl i := by
  rcases h with h | ⟨a, rfl, _, h⟩
  · cases h; rfl
  · exact absurd h (fun z => z)
theorem IsV.strE {i : Str} {v : V} (h : IsV mg p H (.str i) v) : v = .str i := by
  rcases h with h | ⟨a, rfl, _, h⟩
  · cases h; rfl
  · exact absurd h (fun z => z)
theorem IsV.tyE {i : String} {v : V} (h : IsV mg p H (.ty i) v) : v = .ty i := by
  rcases h with h | ⟨a, rfl, _, h⟩
  · cases h; rfl
  · exact absurd h (fun z => z)
theorem IsV.nonE {v : V} (h : IsV mg p H .non v) : v = .non := by
  rcases h with h | ⟨a, rfl, _, h⟩
  · cases h; rfl
  · exact absurd h (fun z => z)
end
/-! ### environments -/
/-- a slot: a datum that nothing changes; an object of the def's own, which nothing else holds; a caller's, to be changed -/
inductive Slot where
  | val (d : Dat)
  | own (d : Dat)
  | mtb (d : Dat)
instance : Inhabited Slot := ⟨.val .non⟩
@[reducible] def Slot.dat : Slot → Dat
  | .val d => d
  | .own d => d
  | .mtb d => d
@[reducible] def Slot.wr : Slot → Bool
  | .val _ => false
  | .own _ => true
  | .mtb _ => true
abbrev Env := List (Option Slot)
def MutAt (env : Env) (σ : St) (a : Addr) : Prop := ∃ (i : Nat) (s : Slot), env[i]? = some (some s) ∧ s.wr = true ∧ σ[i]? = some (some (.ref a))
def Prot (q : Addr → Prop) (env : Env) (σ : St) (a : Addr) : Prop := q a ∨ MutAt env σ a
structure Rel (mg : Str → Option Value) (q : Addr → Prop) (env : Env) (σ : St) (H : Hp) : Prop where
  len : env.length = σ.length
  val : ∀ (i : Nat) (d : Dat), env[i]? = some (some (.val d)) → ∃ v, σ[i]? = some (some v) ∧ IsD mg (Prot q env σ) H d v
  wr : ∀ (i : Nat) (s : Slot), env[i]? = some (some s) → s.wr = true → ∃ a, σ[i]? = some (some (.ref a)) ∧ ¬ q a ∧ IsTop mg (Prot q env σ) H s.dat a
  inj : ∀ (i j : Nat) (s t : Slot) (a : Addr), env[i]? = some (some s) → s.wr = true → env[j]? = some (some t) → t.wr = true → σ[i]? = some (some (.ref a)) → σ[j]? = some (some (.ref a)) → i = j
  qin : ∀ a, q a → H a ≠ none
/-- an expression's step -/
structure StepE (env : Env) (σ : St) (H : Hp) (env' : Env) (H' : Hp) : Prop where
  keep : ∀ b o, H b = some o → ¬ MutAt env σ b → H' b = some o
  dom : ∀ b, H b ≠ none → H' b ≠ none
  mono : ∀ b, MutAt env' σ b → MutAt env σ b
  there : ∀ (i : Nat) (s : Slot), env[i]? = some (some s) → ∃ s', env'[i]? = some (some s')
  muts : ∀ (i : Nat) (d : Dat), env[i]? = some (some (.mtb d)) → ∃ d', env'[i]? = some (some (.mtb d'))
  len : env'.length = env.length
theorem StepE.refl {env : Env} {σ : St} {H : Hp} : StepE env σ H env H := ⟨fun _ _ e _ => e, fun _ h => h, fun _ h => h, fun _ s e => ⟨s, e⟩, fun _ d e => ⟨d, e⟩, rfl⟩
theorem StepE.trans {e0 e1 e2 : Env} {σ : St} {H0 H1 H2 : Hp} (a : StepE e0 σ H0 e1 H1) (b : StepE e1 σ H1 e2 H2) : StepE e0 σ H0 e2 H2 where
  keep := fun c o e n => b.keep c o (a.keep c o e n) (fun m => n (a.mono c m))
  dom := fun c h => b.dom c (a.dom c h)
  mono := fun c h => a.mono c (b.mono c h)
  there := fun i s e => by
    obtain ⟨s', e'⟩ := a.there i s e
    exact b.there i s' e'
  muts := fun i d e => by
    obtain ⟨d', e'⟩ := a.muts i d e
    exact b.muts i d' e'
  len := b.len.trans a.len
/-- a new object -/
theorem StepE.new {env : Env} {σ : St} {H : Hp} {a : Addr} {o : HO} (n : H a = none) : StepE env σ H env (upd H a o) where
  keep := fun c u e _ => by rw [upd_ne (ne_of_none e n)]; exact e
  dom := fun c h => by
    by_cases e : c = a
    · rw [e, upd_same]; simp
    · rw [upd_ne e]; exact h
  mono := fun _ h => h
  there := fun _ s e => ⟨s, e⟩
  muts := fun _ d e => ⟨d, e⟩
  len := rfl
theorem StepE.ext {env : Env} {σ : St} {H H' : Hp} (h : ∀ b o, H b = some o → H' b = some o) : StepE env σ H env H' where
  keep := fun c u e _ => h _ _ e
  dom := fun c hc => by
    cases e : H c with
    | none => exact absurd e hc
    | some o => rw [h _ _ e]; simp
  mono := fun _ h => h
  there := fun _ s e => ⟨s, e⟩
  muts := fun _ d e => ⟨d, e⟩
  len := rfl
section
variable {mg : Str → Option Value} {q : Addr → Prop} {env env' : Env} {σ : St} {H H' : Hp}
theorem StepE.isD {d : Dat} {v : V} (s : StepE env σ H env' H') (h : IsD mg (Prot q env σ) H d v) : IsD mg (Prot q env' σ) H' d v :=
  h.mono (fun a z => z.elim .inl (fun m => .inr (s.mono a m))) (fun b o e n => s.keep b o e (fun m => n (.inr m)))
theorem StepE.isDs {ds : List Dat} {vs : List V} (s : StepE env σ H env' H') (h : IsDs mg (Prot q env σ) H ds vs) : IsDs mg (Prot q env' σ) H' ds vs :=
  h.mono (fun a z => z.elim .inl (fun m => .inr (s.mono a m))) (fun b o e n => s.keep b o e (fun m => n (.inr m)))
/-- the heap grows alone -/
theorem Rel.ext (R : Rel mg q env σ H) (h : ∀ b o, H b = some o → H' b = some o) : Rel mg q env σ H' where
  len := R.len
  val := fun i d e => by
    obtain ⟨v, e1, e2⟩ := R.val i d e
    exact ⟨v, e1, e2.mono (fun _ z => z) (fun b o e _ => h b o e)⟩
  wr := fun i s e w => by
    obtain ⟨a, e1, n, t⟩ := R.wr i s e w
    exact ⟨a, e1, n, t.mono (fun _ z => z) (fun b o e _ => h b o e) (fun o e => h a o e)⟩
  inj := R.inj
  qin := fun a z => by
    have := R.qin a z
    cases e : H a with
    | none => exact absurd e this
    | some o => rw [h _ _ e]; simp
theorem ext_new {H : Hp} {a : Addr} {o : HO} (n : H a = none) : ∀ b u, H b = some u → upd H a o b = some u := fun b u e => by
  rw [upd_ne (ne_of_none e n)]; exact e
theorem Rel.prot_in (R : Rel mg q env σ H) {a : Addr} (h : Prot q env σ a) : H a ≠ none := by
  rcases h with h | ⟨i, s, e, w, hs⟩
  · exact R.qin a h
  · obtain ⟨b, e1, _, t⟩ := R.wr i s e w
    rw [hs] at e1
    cases e1
    exact t.at
theorem Rel.prot_new (R : Rel mg q env σ H) {a : Addr} (n : H a = none) : ¬ Prot q env σ a := fun h => R.prot_in h n
/-- a slot is no more changed -/
theorem Rel.freeze (R : Rel mg q env σ H) {i : Nat} {d : Dat} (e : env[i]? = some (some (.own d))) : Rel mg q (env.set i (some (.val d))) σ H ∧ StepE env σ H (env.set i (some (.val d))) H ∧ ∃ v, σ[i]? = some (some v) ∧ IsD mg (Prot q (env.set i (some (.val d))) σ) H d v := by
  have hi : i < env.length := (List.getElem?_eq_some_iff.mp e).1
  have mm : ∀ b, MutAt (env.set i (some (.val d))) σ b → MutAt env σ b := by
    rintro b ⟨j, s, e1, w, hs⟩
    by_cases hj : i = j
    · subst hj
      rw [List.getElem?_set_self hi] at e1
      cases e1
      cases w
    · rw [List.getElem?_set_ne hj] at e1
      exact ⟨j, s, e1, w, hs⟩
  have hp : ∀ b, Prot q (env.set i (some (.val d))) σ b → Prot q env σ b := fun b z => z.elim .inl (fun m => .inr (mm b m))
  have st : StepE env σ H (env.set i (some (.val d))) H := ⟨fun _ _ e _ => e, fun _ h => h, mm, fun j s e1 => by
    by_cases hj : i = j
    · subst hj
      exact ⟨_, List.getElem?_set_self hi⟩
    · rw [List.getElem?_set_ne hj]
      exact ⟨s, e1⟩, fun j d' e1 => by
    by_cases hj : i = j
    · subst hj
      rw [e] at e1
      cases e1
    · rw [List.getElem?_set_ne hj]
      exact ⟨d', e1⟩, by simp⟩
  obtain ⟨a, ea, nq, t⟩ := R.wr i _ e rfl
  have na : ¬ Prot q (env.set i (some (.val d))) σ a := by
    rintro (z | ⟨j, s, e1, w, hs⟩)
    · exact nq z
    · by_cases hj : i = j
      · subst hj
        rw [List.getElem?_set_self hi] at e1
        cases e1
        cases w
      · rw [List.getElem?_set_ne hj] at e1
        exact hj (R.inj i j _ s a e rfl e1 w ea hs)
  have dd : IsD mg (Prot q (env.set i (some (.val d))) σ) H d (.ref a) := (t.mono hp (fun b o e _ => e) (fun o e => e)).isD na
  refine ⟨⟨by simpa using R.len, fun j d' e1 => ?_, fun j s e1 w => ?_, fun j k s t a e1 w1 e2 w2 => ?_, R.qin⟩, st, _, ea, dd⟩
  · by_cases hj : i = j
    · subst hj
      rw [List.getElem?_set_self hi] at e1
      cases e1
      exact ⟨_, ea, dd⟩
    · rw [List.getElem?_set_ne hj] at e1
      obtain ⟨v, h1, h2⟩ := R.val j d' e1
      exact ⟨v, h1, st.isD h2⟩
  · by_cases hj : i = j
    · subst hj
      rw [List.getElem?_set_self hi] at e1
      cases e1
      cases w
    · rw [List.getElem?_set_ne hj] at e1
      obtain ⟨b, h1, h2, h3⟩ := R.wr j s e1 w
      exact ⟨b, h1, h2, h3.mono hp (fun b o e _ => e) (fun o e => e)⟩
  · have h1 : i ≠ j := by
      intro hj
      subst hj
      rw [List.getElem?_set_self hi] at e1
      cases e1
      cases w1
    have h2 : i ≠ k := by
      intro hj
      subst hj
      rw [List.getElem?_set_self hi] at e2
      cases e2
      cases w2
    rw [List.getElem?_set_ne h1] at e1
    rw [List.getElem?_set_ne h2] at e2
    exact R.inj j k s t a e1 w1 e2 w2
end
/-- the heap grows by a, of which nothing speaks yet -/
theorem Rel.guard {mg : Str → Option Value} {q : Addr → Prop} {env : Env} {σ : L2.St} {H H' : Hp} {a : Addr} (R : Rel mg q env σ H) (n : H a = none) (h : ∀ b o, H b = some o → H' b = some o) (ha : H' a ≠ none) : Rel mg (fun b => q b ∨ b = a) env σ H' := by
  have hp : ∀ b, Prot (fun b => q b ∨ b = a) env σ b → Prot q env σ b ∨ b = a := fun b z => z.elim (fun z => z.elim (fun z => .inl (.inl z)) .inr) (fun m => .inl (.inr m))
  refine ⟨R.len, fun i d e => ?_, fun i s e w => ?_, R.inj, fun b z => ?_⟩
  · obtain ⟨v, e1, e2⟩ := R.val i d e
    exact ⟨v, e1, (e2.off n).mono hp fun b o e _ => h b o e⟩
  · obtain ⟨b, e1, nq, t⟩ := R.wr i s e w
    refine ⟨b, e1, fun z => z.elim nq fun e => t.at (by rw [e]; exact n), (t.off n).mono hp (fun b o e _ => h b o e) (fun o e => h b o e)⟩
  · rcases z with z | z
    · have := R.qin b z
      cases e : H b with
      | none => exact absurd e this
      | some o => rw [h _ _ e]; simp
    · rw [z]; exact ha
/-- fewer protected -/
theorem Rel.less {mg : Str → Option Value} {q q' : Addr → Prop} {env : Env} {σ : L2.St} {H : Hp} (R : Rel mg q env σ H) (h : ∀ b, q' b → q b) : Rel mg q' env σ H := by
  have hp : ∀ b, Prot q' env σ b → Prot q env σ b := fun b z => z.elim (fun z => .inl (h b z)) .inr
  refine ⟨R.len, fun i d e => ?_, fun i s e w => ?_, R.inj, fun b z => R.qin b (h b z)⟩
  · obtain ⟨v, e1, e2⟩ := R.val i d e
    exact ⟨v, e1, e2.mono hp fun b o e _ => e⟩
  · obtain ⟨b, e1, nq, t⟩ := R.wr i s e w
    exact ⟨b, e1, fun z => nq (h b z), t.mono hp (fun b o e _ => e) (fun o e => e)⟩
/-! ### results -/
/-- a result: a datum; a new object; what a slot holds -/
inductive R where
  | val (d : Dat)
  | new (d : Dat)
  | bor (i : Nat)
/-- no longer known as new -/
def R.weak : R → R
  | .new d => .val d
  | r => r
def IsR (mg : Str → Option Value) (q : Addr → Prop) (env : Env) (σ : L2.St) (H0 H : Hp) : R → V → Prop
  | .val d, v => IsD mg (Prot q env σ) H d v
  | .new d, v => ∃ a, v = .ref a ∧ H0 a = none ∧ ¬ q a ∧ IsTop mg (fun b => Prot q env σ b ∨ b = a) H d a ∧ Rel mg (fun b => q b ∨ b = a) env σ H
  | .bor i, v => σ[i]? = some (some v) ∧ ∃ s, env[i]? = some (some s)
def look (env : Env) : R → Option Dat
  | .val d => some d
  | .new d => some d
  | .bor i => match env[i]? with
    | some (some s) => some s.dat
    | _ => none
/-- made a datum that nothing changes -/
def force (env : Env) : R → Option (Dat × Env)
  | .val d => some (d, env)
  | .new d => some (d, env)
  | .bor i => match env[i]? with
    | some (some (.val d)) => some (d, env)
    | some (some (.own d)) => some (d, env.set i (some (.val d)))
    | _ => none
theorem look_weak (env : Env) (r : R) : look env r.weak = look env r := by cases r <;> rfl
theorem force_weak (env : Env) (r : R) : force env r.weak = force env r := by cases r <;> rfl
section
variable {mg : Str → Option Value} {q : Addr → Prop} {env env' : Env} {σ : L2.St} {H0 H H' : Hp}
theorem IsR.newN {d : Dat} {v : V} (h : IsR mg q env σ H0 H (.new d) v) : ∃ a, v = .ref a ∧ H0 a = none ∧ ¬ Prot q env σ a ∧ IsTop mg (fun b => Prot q env σ b ∨ b = a) H d a := by
  obtain ⟨a, rfl, n, nq, t, R⟩ := h
  refine ⟨a, rfl, n, ?_, t⟩
  intro hp
  rcases hp with hp | ⟨i, s, e, w, hs⟩
  · exact nq hp
  · obtain ⟨b, e1, nq, _⟩ := R.wr i s e w
    rw [hs] at e1
    cases e1
    exact nq (.inr rfl)
theorem IsR.newD {d : Dat} {v : V} (h : IsR mg q env σ H0 H (.new d) v) : IsD mg (Prot q env σ) H d v := by
  obtain ⟨a, rfl, n, np, t⟩ := h.newN
  exact (t.mono (p' := Prot q env σ) (fun _ z => .inl z) (fun _ _ e _ => e) (fun _ e => e)).isD np
theorem IsR.toWeak {r : R} {v : V} (h : IsR mg q env σ H0 H r v) : IsR mg q env σ H0 H r.weak v := by
  cases r with
  | val d => exact h
  | new d => exact h.newD
  | bor i => exact h
theorem IsR.step {r : R} {v : V} (s : StepE env σ H env' H') (h : IsR mg q env σ H0 H r v) : IsR mg q env' σ H0 H' r.weak v := by
  cases r with
  | val d => exact s.isD h
  | new d => exact s.isD h.newD
  | bor i =>
    obtain ⟨e, s', h⟩ := h
    exact ⟨e, s.there i s' h⟩
theorem IsR.back {H1 : Hp} {r : R} {v : V} (h : IsR mg q env σ H0 H r v) (b : ∀ a, H1 a ≠ none → H0 a ≠ none) : IsR mg q env σ H1 H r v := by
  cases r with
  | val d => exact h
  | new d =>
    obtain ⟨a, rfl, n, np, t⟩ := h
    refine ⟨a, rfl, ?_, np, t⟩
    cases e : H1 a with
    | none => rfl
    | some o => exact absurd n (b a (by rw [e]; simp))
  | bor i => exact h
theorem IsR.look {r : R} {v : V} {d : Dat} (R : Rel mg q env σ H) (h : IsR mg q env σ H0 H r v) (e : look env r = some d) : IsV mg (Prot q env σ) H d v := by
  cases r with
  | val d' =>
    cases e
    exact .inl h
  | new d' =>
    cases e
    exact .inl h.newD
  | bor i =>
    obtain ⟨ev, s, hs⟩ := h
    simp only [DL.look, hs] at e
    cases e
    cases hw : s.wr with
    | false =>
      cases s with
      | val d =>
        obtain ⟨v', e1, e2⟩ := R.val i d hs
        rw [ev] at e1
        cases e1
        exact .inl e2
      | own d => cases hw
      | mtb d => cases hw
    | true =>
      obtain ⟨a, e1, nq, t⟩ := R.wr i s hs hw
      rw [ev] at e1
      cases e1
      exact .inr ⟨a, rfl, .inr ⟨i, s, hs, hw, ev⟩, t⟩
theorem IsR.force {r : R} {v : V} {d : Dat} (R : Rel mg q env σ H) (h : IsR mg q env σ H0 H r v) (e : force env r = some (d, env')) : Rel mg q env' σ H ∧ StepE env σ H env' H ∧ IsD mg (Prot q env' σ) H d v := by
  cases r with
  | val d' =>
    cases e
    exact ⟨R, .refl, h⟩
  | new d' =>
    cases e
    exact ⟨R, .refl, h.newD⟩
  | bor i =>
    obtain ⟨ev, s, hs⟩ := h
    simp only [DL.force, hs] at e
    cases s with
    | val d' =>
      cases e
      obtain ⟨v', e1, e2⟩ := R.val i d hs
      rw [ev] at e1
      cases e1
      exact ⟨R, .refl, e2⟩
    | own d' =>
      cases e
      obtain ⟨R', S', v', e1, e2⟩ := R.freeze hs
      rw [ev] at e1
      cases e1
      exact ⟨R', S', e2⟩
    | mtb d' => cases e
end
end DL
/-! Expressions, arguments, tests as functions of environments; their rules. -/
namespace DL
open PySem PySem.Spec L2
open PyProof.Rows hiding St
abbrev EM (α : Type) := Env → Option (α × Env)
section
variable (mg : Str → Option Value)
def TD (f : EM R) : TE := fun σ H Q => ∃ q env r env', Rel mg q env σ H ∧ f env = some (r, env') ∧ ∀ v H', Rel mg q env' σ H' → StepE env σ H env' H' → IsR mg q env' σ H H' r v → Q v H'
def IsRs (q : Addr → Prop) (env : Env) (σ : L2.St) (H0 H : Hp) (rs : List R) (vs : List V) : Prop := Paired (fun r v => IsR mg q env σ H0 H r v) rs vs
def TDA (f : EM (List R)) : TA := fun σ H Q => ∃ q env r env', Rel mg q env σ H ∧ f env = some (r, env') ∧ ∀ v H', Rel mg q env' σ H' → StepE env σ H env' H' → IsRs mg q env' σ H H' r v → Q v H'
def TDT (f : EM Bool) : TT := fun σ H Q => ∃ q env r env', Rel mg q env σ H ∧ f env = some (r, env') ∧ ∀ H', Rel mg q env' σ H' → StepE env σ H env' H' → Q r H'
end
theorem PE.of {X : Cx} {e : Expr} {t t' : TE} (h : PE X e t) (w : ∀ σ H Q, t' σ H Q → t σ H Q) : PE X e t' := ⟨fun pins s σ H Q I x => h.run pins s σ H Q I (w σ H Q x)⟩
theorem PT.of {X : Cx} {e : Expr} {t t' : TT} (h : PT X e t) (w : ∀ σ H Q, t' σ H Q → t σ H Q) : PT X e t' := ⟨fun pins s σ H Q I x => h.run pins s σ H Q I (w σ H Q x)⟩
theorem PW.of {X : Cx} {e : Expr} {t t' : TT} (h : PW X e t) (w : ∀ σ H Q, t' σ H Q → t σ H Q) : PW X e t' := ⟨fun wh pins s σ H Q I x => h.run wh pins s σ H Q I (w σ H Q x)⟩
theorem PA.of {X : Cx} {es : List Expr} {t t' : TA} (h : PA X es t) (w : ∀ σ H Q, t' σ H Q → t σ H Q) : PA X es t' := ⟨fun p pins s σ H Q I x => h.run p pins s σ H Q I (w σ H Q x)⟩
theorem PE.or {X : Cx} {e : Expr} {t t' : TE} (h : PE X e t) (h' : PE X e t') : PE X e (fun σ H Q => t σ H Q ∨ t' σ H Q) := ⟨fun pins s σ H Q I x => x.elim (h.run pins s σ H Q I) (h'.run pins s σ H Q I)⟩
section
variable {mg : Str → Option Value} {q : Addr → Prop} {env env' env1 env2 : Env} {σ : L2.St} {H0 H H' H1 : Hp}
theorem IsRs.step (s : StepE env σ H env' H') : ∀ {rs : List R} {vs : List V}, IsRs mg q env σ H0 H rs vs → IsRs mg q env' σ H0 H' (rs.map R.weak) vs
  | _, _, .nil => .nil
  | _, _, .cons h t => .cons (h.step s) (IsRs.step s t)
theorem IsRs.back {rs : List R} {vs : List V} (h : IsRs mg q env σ H0 H rs vs) (b : ∀ a, H1 a ≠ none → H0 a ≠ none) : IsRs mg q env σ H1 H rs vs := Paired.mapP h fun _ _ z => z.back b
end
/-! ### the steps of evaluation -/
def eRet {α : Type} (a : α) : EM α := fun env => some (a, env)
def eBind {α β : Type} (f : EM α) (g : α → EM β) : EM β := fun env => match f env with
  | some (a, e1) => g a e1
  | none => none
theorem eBind_some {α β : Type} {f : EM α} {g : α → EM β} {env e2 : Env} {b : β} (h : eBind f g env = some (b, e2)) : ∃ a e1, f env = some (a, e1) ∧ g a e1 = some (b, e2) := by
  unfold eBind at h
  cases hf : f env with
  | none =>
      rw [hf] at h; cases h
  | some p => rw [hf] at h; exact ⟨p.1, p.2, rfl, h⟩
def eVar (i : Nat) : EM R := fun env => match env[i]? with
  | some (some _) => some (.bor i, env)
  | _ => none
def eCon (d : Dat) : EM R := eRet (.val d)
def eNil : EM (List R) := eRet []
def eCons (f : EM R) (g : EM (List R)) : EM (List R) := eBind f fun r => eBind g fun rs => eRet (r.weak :: rs)
/-- the last one: it may be new -/
def eOne (f : EM R) : EM (List R) := eBind f fun r => eRet [r]
def eLook (r : R) : EM Dat := fun env => (look env r).map fun d => (d, env)
def eForce (r : R) : EM Dat := fun env => force env r
def eForces : List R → EM (List Dat)
  | [] => eRet []
  | r :: rs => eBind (eForce r) fun d => eBind (eForces rs) fun ds => eRet (d :: ds)
theorem eLook_some {r : R} {env env' : Env} {d : Dat} (h : eLook r env = some (d, env')) : look env r = some d ∧ env' = env := by
  unfold eLook at h
  cases e : look env r with
  | none =>
      rw [e] at h; cases h
  | some x => rw [e] at h; cases h; exact ⟨rfl, rfl⟩
def eOpt {α : Type} (o : Option α) : EM α := fun env => o.map fun a => (a, env)
theorem eOpt_some {α : Type} {o : Option α} {env env' : Env} {a : α} (h : eOpt o env = some (a, env')) : o = some a ∧ env' = env := by
  unfold eOpt at h
  cases o with
  | none => cases h
  | some x => cases h; exact ⟨rfl, rfl⟩
theorem eRet_some {α : Type} {a b : α} {env env' : Env} (h : eRet a env = some (b, env')) : b = a ∧ env' = env := by
  cases h; exact ⟨rfl, rfl⟩
section
variable {mg : Str → Option Value} {q : Addr → Prop} {env env' env1 env2 : Env} {σ : L2.St} {H0 H H' H1 : Hp}
theorem forces_weak : ∀ (rs : List R), eForces (rs.map R.weak) = eForces rs
  | [] => rfl
  | r :: rs => by
    show eBind (eForce r.weak) _ = eBind (eForce r) _
    have e : eForce r.weak = eForce r := by
      funext env
      exact force_weak env r
    rw [e, forces_weak rs]
theorem IsRs.forces : ∀ {rs : List R} {vs : List V} {env : Env} {ds : List Dat}, Rel mg q env σ H → IsRs mg q env σ H0 H rs vs → eForces rs env = some (ds, env') → Rel mg q env' σ H ∧ StepE env σ H env' H ∧ IsDs mg (Prot q env' σ) H ds vs
  | [], _, _, _, R, .nil, e => by
    obtain ⟨rfl, rfl⟩ := eRet_some e
    exact ⟨R, .refl, .nil⟩
  | r :: rs, _, env, ds, R, .cons h t, e => by
    obtain ⟨d, e1, h1, e_1⟩ := eBind_some e
    obtain ⟨ds', e2, h2, e_2⟩ := eBind_some e_1
    obtain ⟨rfl, rfl⟩ := eRet_some e_2
    obtain ⟨R1, S1, d1⟩ := h.force R h1
    obtain ⟨R2, S2, d2⟩ := IsRs.forces (rs := rs.map DL.R.weak) R1 (IsRs.step S1 t) (by rw [forces_weak]; exact h2)
    exact ⟨R2, S1.trans S2, .cons (S2.isD d1) d2⟩
end
/-! ### rules -/
section
variable {X : Cx} {a b c e : Expr} {es : List Expr} {pos : Pos} {f g h : EM R} {fs : EM (List R)}
theorem Rel.slot {mg : Str → Option Value} {q : Addr → Prop} {env : Env} {σ : L2.St} {H : Hp} (R : Rel mg q env σ H) {i : Nat} {s : Slot} (e : env[i]? = some (some s)) : ∃ v, σ[i]? = some (some v) := by
  cases hw : s.wr with
  | false =>
    cases s with
    | val d =>
      obtain ⟨v, h, _⟩ := R.val i d e
      exact ⟨v, h⟩
    | own d => cases hw
    | mtb d => cases hw
  | true =>
    obtain ⟨a, h, _⟩ := R.wr i s e hw
    exact ⟨_, h⟩
theorem d_var {i : Nat} {x : Str} (hN : X.N[i]? = some x) (hv : Vis X.env.scope x) (hd : (x == ("__debug__" : Str)) = false) (hcd : (x == ("__classdict__" : Str)) = false) : PE X (.Name x pos) (TD X.mg (eVar i)) := by
  refine PE.of (pe_var hN hv hd hcd) ?_
  rintro σ H Q ⟨q, env, r, env', R, e, k⟩
  unfold eVar at e
  split at e
  · rename_i s hs
    cases e
    obtain ⟨v, hv⟩ := R.slot hs
    exact ⟨v, hv, k v H R .refl ⟨hv, s, hs⟩⟩
  · cases e
theorem d_con {v : V} {d : Dat} (hd : ∀ p H, IsD X.mg p H d v) (h : PE X e (tC v)) : PE X e (TD X.mg (eCon d)) := by
  refine PE.of h ?_
  rintro σ H Q ⟨q, env, r, env', R, e, k⟩
  obtain ⟨rfl, rfl⟩ := eRet_some e
  exact k v H R .refl (hd _ _)
theorem d_nil : PA X [] (TDA X.mg eNil) := by
  refine PA.of pa_nil ?_
  rintro σ H Q ⟨q, env, r, env', R, e, k⟩
  obtain ⟨rfl, rfl⟩ := eRet_some e
  exact k [] H R .refl .nil
def notStar : Expr → Bool
  | .Starred _ _ => false
  | _ => true
theorem star_no {env : PySem.Env} (h : notStar e = true) : starEach (e :: es) env = (false, eval e env) :: starEach es env := by
  cases e <;> first | rfl | cases h
theorem d_cons (hs : notStar e = true) (h1 : PE X e (TD X.mg f)) (h2 : PA X es (TDA X.mg fs)) : PA X (e :: es) (TDA X.mg (eCons f fs)) := by
  refine PA.of (pa_cons h1 h2 (star_no hs)) ?_
  rintro σ H Q ⟨q, env, r, env', R, ev, k⟩
  obtain ⟨r1, e1, h1, ev_1⟩ := eBind_some ev
  obtain ⟨r2, e2, h2, ev_2⟩ := eBind_some ev_1
  obtain ⟨rfl, rfl⟩ := eRet_some ev_2
  refine ⟨q, env, r1, e1, R, h1, fun v H1 R1 S1 i1 => ⟨q, e1, r2, env', R1, h2, fun vs H2 R2 S2 i2 => k (v :: vs) H2 R2 (S1.trans S2) (.cons (i1.step S2) (i2.back S1.dom))⟩⟩
theorem d_last (hs : notStar e = true) (h1 : PE X e (TD X.mg f)) : PA X [e] (TDA X.mg (eOne f)) := by
  refine PA.of (pa_cons h1 pa_nil (star_no hs)) ?_
  rintro σ H Q ⟨q, env, r, env', R, ev, k⟩
  obtain ⟨r1, e1, h1, ev⟩ := eBind_some ev
  obtain ⟨rfl, rfl⟩ := eRet_some ev
  exact ⟨q, env, r1, env', R, h1, fun v H1 R1 S1 i1 => k [v] H1 R1 S1 (.cons i1 .nil)⟩
/-- displays -/
def eTup (fs : EM (List R)) : EM R := eBind fs fun rs => eBind (eForces rs) fun ds => eOpt (if ds.length ≤ 100000 then some (.val (.tup ds)) else none)
def eLst (fs : EM (List R)) : EM R := eBind fs fun rs => eBind (eForces rs) fun ds => eOpt (if ds.length ≤ 100000 then some (.new (.lst ds)) else none)
theorem sz_ok {n : Nat} (h : n ≤ 100000) : n ≤ sizeLine := by rw [sizeLine_eq]; omega
theorem d_tup {x1 : Nat} (h : PA X es (TDA X.mg fs)) : PE X (.Tuple es x1 pos) (TD X.mg (eTup fs)) := by
  refine PE.of (pe_tup h) ?_
  rintro σ H Q ⟨q, env, r, env', R, ev, k⟩
  obtain ⟨rs, e1, h1, ev_1⟩ := eBind_some ev
  obtain ⟨ds, e2, h2, ev_2⟩ := eBind_some ev_1
  obtain ⟨hl, rfl⟩ := eOpt_some ev_2
  split at hl
  · rename_i hz
    cases hl
    refine ⟨q, env, rs, e1, R, h1, fun vs H1 R1 S1 i1 => ?_⟩
    obtain ⟨R2, S2, i2⟩ := i1.forces R1 h2
    refine ⟨sz_ok (by rw [← i2.length]; exact hz), fun p hp => k _ _ (R2.ext (ext_new hp)) ((S1.trans S2).trans (.new hp)) ?_⟩
    exact .tup (R2.prot_new hp) upd_same (i2.mono (fun _ z => z) fun b o e _ => ext_new hp b o e)
  · cases hl
theorem new_ok {mg : Str → Option Value} {q : Addr → Prop} {env : Env} {σ : L2.St} {H : Hp} {p : Addr} {o : HO} {d : Dat} (R : Rel mg q env σ H) (hp : H p = none) (h : IsTop mg (fun b => Prot q env σ b ∨ b = p) (upd H p o) d p) : IsR mg q env σ H (upd H p o) (.new d) (.ref p) :=
  ⟨p, rfl, hp, fun z => R.prot_new hp (.inl z), h, R.guard hp (ext_new hp) (by rw [upd_same]; simp)⟩
theorem IsDs.new {mg : Str → Option Value} {pr : Addr → Prop} {H : Hp} {p : Addr} {o : HO} {ds : List Dat} {vs : List V} (hp : H p = none) (h : IsDs mg pr H ds vs) : IsDs mg (fun b => pr b ∨ b = p) (upd H p o) ds vs :=
  (h.off hp).mono (fun _ z => z) fun b o e _ => ext_new hp b o e
theorem d_lst (h : PA X es (TDA X.mg fs)) : PE X (.List es pos) (TD X.mg (eLst fs)) := by
  refine PE.of (pe_lst h) ?_
  rintro σ H Q ⟨q, env, r, env', R, ev, k⟩
  obtain ⟨rs, e1, h1, ev_1⟩ := eBind_some ev
  obtain ⟨ds, e2, h2, ev_2⟩ := eBind_some ev_1
  obtain ⟨hl, rfl⟩ := eOpt_some ev_2
  split at hl
  · rename_i hz
    cases hl
    refine ⟨q, env, rs, e1, R, h1, fun vs H1 R1 S1 i1 => ?_⟩
    obtain ⟨R2, S2, i2⟩ := i1.forces R1 h2
    refine ⟨sz_ok (by rw [← i2.length]; exact hz), fun p hp => k _ _ (R2.ext (ext_new hp)) ((S1.trans S2).trans (.new hp)) ?_⟩
    exact IsR.back (r := .new (.lst ds)) (new_ok R2 hp (d := .lst ds) ⟨vs, upd_same, i2.new hp⟩) (S1.trans S2).dom
  · cases hl
end
/-! ### operations on data -/
/-- what an operation hands back: an old datum (false) or a new object (true) -/
abbrev Out := Bool × Dat
def Out.r : Out → R
  | (false, d) => .val d
  | (true, d) => .new d
def IsO (mg : Str → Option Value) (p : Addr → Prop) (H0 H : Hp) : Out → V → Prop
  | (false, d), v => IsD mg p H d v
  | (true, d), v => ∃ a, v = .ref a ∧ H0 a = none ∧ IsTop mg (fun b => p b ∨ b = a) H d a
/-- an operation of two data, by the rule r of values -/
def Op2 (mg : Str → Option Value) (r : R2) (op : Dat → Dat → Option Out) : Prop :=
  ∀ (p : Addr → Prop) (H : Hp) (a b : Dat) (v w : V) (out : Out), (∀ x, p x → H x ≠ none) → IsV mg p H a v → IsV mg p H b w → op a b = some out →
    ∀ Q : VK, (∀ z H', (∀ x o, H x = some o → H' x = some o) → IsO mg p H H' out z → Q z H') → r v w H Q
def Op1 (mg : Str → Option Value) (r : V → Hp → VK → Prop) (op : Dat → Option Out) : Prop :=
  ∀ (p : Addr → Prop) (H : Hp) (a : Dat) (v : V) (out : Out), (∀ x, p x → H x ≠ none) → IsV mg p H a v → op a = some out →
    ∀ Q : VK, (∀ z H', (∀ x o, H x = some o → H' x = some o) → IsO mg p H H' out z → Q z H') → r v H Q
/-- data of any number -/
def IsVs (mg : Str → Option Value) (p : Addr → Prop) (H : Hp) (ds : List Dat) (vs : List V) : Prop := Paired (fun d v => IsV mg p H d v) ds vs
def OpN (mg : Str → Option Value) (r : List V → Hp → VK → Prop) (op : List Dat → Option Out) : Prop :=
  ∀ (p : Addr → Prop) (H : Hp) (ds : List Dat) (vs : List V) (out : Out), (∀ x, p x → H x ≠ none) → IsVs mg p H ds vs → op ds = some out →
    ∀ Q : VK, (∀ z H', (∀ x o, H x = some o → H' x = some o) → IsO mg p H H' out z → Q z H') → r vs H Q
theorem IsO.isR {mg : Str → Option Value} {q : Addr → Prop} {env : Env} {σ : L2.St} {H H' : Hp} {out : Out} {v : V} (R : Rel mg q env σ H) (hx : ∀ x o, H x = some o → H' x = some o) (h : IsO mg (Prot q env σ) H H' out v) : IsR mg q env σ H H' out.r v := by
  obtain ⟨b, d⟩ := out
  cases b with
  | false => exact h
  | true =>
    obtain ⟨a, rfl, n, t⟩ := h
    exact ⟨a, rfl, n, fun z => R.prot_new n (.inl z), t, R.guard n hx t.at⟩
def eLooks : List R → EM (List Dat)
  | [] => eRet []
  | r :: rs => eBind (eLook r) fun d => eBind (eLooks rs) fun ds => eRet (d :: ds)
theorem IsRs.looks {mg : Str → Option Value} {q : Addr → Prop} {env env' : Env} {σ : L2.St} {H0 H : Hp} (R : Rel mg q env σ H) : ∀ {rs : List DL.R} {vs : List V} {ds : List Dat}, IsRs mg q env σ H0 H rs vs → eLooks rs env = some (ds, env') → IsVs mg (Prot q env σ) H ds vs ∧ env' = env
  | [], _, _, .nil, e => by
    obtain ⟨rfl, rfl⟩ := eRet_some e
    exact ⟨.nil, rfl⟩
  | r :: rs, _, ds, .cons h t, e => by
    obtain ⟨d, e1, h1, e_1⟩ := eBind_some e
    obtain ⟨h1', rfl⟩ := eLook_some h1
    obtain ⟨ds', e2, h2, e_2⟩ := eBind_some e_1
    obtain ⟨rfl, rfl⟩ := eRet_some e_2
    obtain ⟨i2, rfl⟩ := IsRs.looks R t h2
    exact ⟨(.cons (h.look R h1') i2), rfl⟩
def eOp2 (op : Dat → Dat → Option Out) (f g : EM R) : EM R := eBind f fun r => eBind g fun s => eBind (eLook r) fun a => eBind (eLook s) fun b => eBind (eOpt (op a b)) fun o => eRet o.r
def eOp1 (op : Dat → Option Out) (f : EM R) : EM R := eBind f fun r => eBind (eLook r) fun a => eBind (eOpt (op a)) fun o => eRet o.r
def eOpN (op : List Dat → Option Out) (fs : EM (List R)) : EM R := eBind fs fun rs => eBind (eLooks rs) fun ds => eBind (eOpt (op ds)) fun o => eRet o.r
section
variable {X : Cx} {a b c e : Expr} {es : List Expr} {pos : Pos} {f g h : EM R} {fs : EM (List R)} {op : Dat → Dat → Option Out} {op1 : Dat → Option Out} {opN : List Dat → Option Out} {r : R2} {r1 : V → Hp → VK → Prop} {rN : List V → Hp → VK → Prop}
theorem red2 (ho : Op2 X.mg r op) (σ : L2.St) (H : Hp) (Q : VK) (h : TD X.mg (eOp2 op f g) σ H Q) : tOp r (TD X.mg f) (TD X.mg g) σ H Q := by
  obtain ⟨q, env, out, env', R, ev, k⟩ := h
  obtain ⟨r1, e1, h1, ev_1⟩ := eBind_some ev
  obtain ⟨r2, e2, h2, ev_2⟩ := eBind_some ev_1
  obtain ⟨da, e3, h3, ev_3⟩ := eBind_some ev_2
  obtain ⟨h3', rfl⟩ := eLook_some h3
  obtain ⟨db, e4, h4, ev_4⟩ := eBind_some ev_3
  obtain ⟨h4', rfl⟩ := eLook_some h4
  obtain ⟨o, e5, h5, ev_5⟩ := eBind_some ev_4
  obtain ⟨h5', rfl⟩ := eOpt_some h5
  obtain ⟨rfl, rfl⟩ := eRet_some ev_5
  refine ⟨q, env, r1, e1, R, h1, fun v H1 R1 S1 i1 => ⟨q, e1, r2, env', R1, h2, fun w H2 R2 S2 i2 => ?_⟩⟩
  refine ho (Prot q env' σ) H2 da db v w o (fun x hx => R2.prot_in hx) ((i1.step S2).look R2 (by rw [look_weak]; exact h3')) (i2.look R2 h4') h5' Q fun z H' hx io => ?_
  exact k z H' (R2.ext hx) ((S1.trans S2).trans (.ext hx)) ((io.isR R2 hx).back (S1.trans S2).dom)
theorem d_op2 {bo : Operator} (hr : OpR X (binaryOp bo) r) (ho : Op2 X.mg r op) (ha : PE X a (TD X.mg f)) (hb : PE X b (TD X.mg g)) : PE X (.BinOp a bo b pos) (TD X.mg (eOp2 op f g)) :=
  PE.of (pe_op hr ha hb) (red2 ho)
theorem d_cmp {co : CmpOp} (hr : OpR X (compareOp co) r) (ho : Op2 X.mg r op) (hm : behindInMarks co b = false) (ha : PE X a (TD X.mg f)) (hb : PE X b (TD X.mg g)) : PE X (.Compare a [co] [b] pos) (TD X.mg (eOp2 op f g)) :=
  PE.of (pe_cmpR hr ha hb hm) (red2 ho)
theorem d_ix (hr : IxR X r) (ho : Op2 X.mg r op) (hs : PlainIx b) (ha : PE X a (TD X.mg f)) (hb : PE X b (TD X.mg g)) : PE X (.Subscript a b pos) (TD X.mg (eOp2 op f g)) :=
  PE.of (pe_ix hr ha hb hs) (red2 ho)
theorem red1 (ho : Op1 X.mg r1 op1) (σ : L2.St) (H : Hp) (Q : VK) (h : TD X.mg (eOp1 op1 f) σ H Q) : TD X.mg f σ H (fun v H1 => r1 v H1 Q) := by
  obtain ⟨q, env, out, env', R, ev, k⟩ := h
  obtain ⟨r1, e1, h1, ev_1⟩ := eBind_some ev
  obtain ⟨da, e3, h3, ev_2⟩ := eBind_some ev_1
  obtain ⟨h3', rfl⟩ := eLook_some h3
  obtain ⟨o, e5, h5, ev_3⟩ := eBind_some ev_2
  obtain ⟨h5', rfl⟩ := eOpt_some h5
  obtain ⟨rfl, rfl⟩ := eRet_some ev_3
  refine ⟨q, env, r1, env', R, h1, fun v H1 R1 S1 i1 => ?_⟩
  refine ho (Prot q env' σ) H1 da v o (fun x hx => R1.prot_in hx) (i1.look R1 h3') h5' Q fun z H' hx io => ?_
  exact k z H' (R1.ext hx) (S1.trans (.ext hx)) ((io.isR R1 hx).back S1.dom)
theorem d_un {uo : PySem.UnaryOp} (hr : UnR X (unaryOp uo) r1) (ho : Op1 X.mg r1 op1) (ha : PE X a (TD X.mg f)) : PE X (.UnaryOp uo a pos) (TD X.mg (eOp1 op1 f)) :=
  PE.of (pe_un hr ha) (red1 ho)
theorem redN (ho : OpN X.mg rN opN) (σ : L2.St) (H : Hp) (Q : VK) (h : TD X.mg (eOpN opN fs) σ H Q) : TDA X.mg fs σ H (fun v H1 => rN v H1 Q) := by
  obtain ⟨q, env, out, env', R, ev, k⟩ := h
  obtain ⟨r1, e1, h1, ev_1⟩ := eBind_some ev
  obtain ⟨da, e3, h3, ev_2⟩ := eBind_some ev_1
  obtain ⟨o, e5, h5, ev_3⟩ := eBind_some ev_2
  obtain ⟨h5', rfl⟩ := eOpt_some h5
  obtain ⟨rfl, rfl⟩ := eRet_some ev_3
  refine ⟨q, env, r1, e1, R, h1, fun v H1 R1 S1 i1 => ?_⟩
  obtain ⟨i3, rfl⟩ := i1.looks R1 h3
  refine ho _ H1 da v o (fun x hx => R1.prot_in hx) i3 h5' Q fun z H' hx io => ?_
  exact k z H' (R1.ext hx) (S1.trans (.ext hx)) ((io.isR R1 hx).back S1.dom)
theorem d_bi {x : Str} {id : String} {p : Pos} (hr : CallR X (.builtin id) rN) (ho : OpN X.mg rN opN) (hg : Gl X x) (hm : X.mg x = none) (hv : bootBuiltins x = some (.builtin id)) (hn : x ≠ "__name__") (hdb : (x == ("__debug__" : Str)) = false)
    (hs : notStar e = true) (hpl : (backTo pos (starEach es X.env)).any (·.1) = false) (ha : PA X (e :: es) (TDA X.mg fs)) : PE X (.Call (.Name x p) (e :: es) [] pos) (TD X.mg (eOpN opN fs)) :=
  PE.of (pe_callB hr hg hm hv ha hn hdb (star_no hs) hpl) (redN ho)
theorem d_ty {x : Str} {T : String} {p : Pos} (hr : CallR X (.type T) rN) (ho : OpN X.mg rN opN) (hg : Gl X x) (hm : X.mg x = none) (hv : bootBuiltins x = some (.type T)) (hn : x ≠ "__name__") (hdb : (x == ("__debug__" : Str)) = false)
    (hs : notStar e = true) (hpl : (backTo pos (starEach es X.env)).any (·.1) = false) (ha : PA X (e :: es) (TDA X.mg fs)) : PE X (.Call (.Name x p) (e :: es) [] pos) (TD X.mg (eOpN opN fs)) :=
  PE.of (pe_callTy hr hg hm hv ha hn hdb (star_no hs) hpl) (redN ho)
end
end DL
/-! Truth, tests, and / or / not, chains, choices. -/
namespace DL
open PySem PySem.Spec L2
open PyProof.Rows hiding St
def truD : Dat → Option Bool
  | .non => some false
  | .bl b => some b
  | .int i => some (i != 0)
  | .str z => if z.length ≤ 100000 then some ((z.length : Int) != 0) else none
  | .tup ds => some (!ds.isEmpty)
  | .lst ds => some (!ds.isEmpty)
  | _ => none
section
variable {mg : Str → Option Value} {p : Addr → Prop} {H : Hp}
theorem IsDs.isEmpty {ds : List Dat} {vs : List V} (h : IsDs mg p H ds vs) : vs.isEmpty = ds.isEmpty := by
  cases h <;> rfl
theorem truD_ok {K : PySem.W.Frag} {d : Dat} {v : V} {k : Bool} (h : IsV mg p H d v) (e : truD d = some k) : TruV K v H k := by
  cases d with
  | non => rw [h.nonE]; cases e; rfl
  | bl b => rw [h.blE]; cases e; rfl
  | int b => rw [h.intE]; cases e; rfl
  | str z =>
    rw [h.strE]
    have e2 : (if z.length ≤ 100000 then some ((z.length : Int) != 0) else none) = some k := e
    split at e2
    · rename_i hz
      cases e2
      exact ⟨sz_ok hz, rfl⟩
    · cases e2
  | tup ds =>
    obtain ⟨a, vs, rfl, _, ha, r⟩ := h.tupE
    cases e
    exact .inr (.inl ⟨vs, SqT.of ha, by rw [r.isEmpty]⟩)
  | lst ds =>
    obtain ⟨a, vs, rfl, ha, r⟩ := h.lstE
    cases e
    exact .inl ⟨vs, SqL.of ha, by rw [r.isEmpty]⟩
  | _ => cases e
end
def eTruth (f : EM R) : EM Bool := eBind f fun r => eBind (eLook r) fun d => eOpt (truD d)
def eTest (f : EM Bool) : EM R := eBind f fun b => eRet (.val (.bl b))
def tAnd2 (f g : EM Bool) : EM Bool := eBind f fun b => if b = true then g else eRet false
def tOr2 (f g : EM Bool) : EM Bool := eBind f fun b => if b = true then eRet true else g
def tNo (f : EM Bool) : EM Bool := eBind f fun b => eRet (!b)
/-- x or y, by truth -/
def eOr2 (f g : EM R) : EM R := eBind f fun r => eBind (eLook r) fun d => eBind (eOpt (truD d)) fun b => if b = true then eRet r else g
def eAnd2 (f g : EM R) : EM R := eBind f fun r => eBind (eLook r) fun d => eBind (eOpt (truD d)) fun b => if b = true then g else eRet r
def eNot (f : EM R) : EM R := eBind f fun r => eBind (eLook r) fun d => eBind (eOpt (truD d)) fun b => eRet (.val (.bl (!b)))
def eIf {α : Type} (c : EM Bool) (f g : EM α) : EM α := eBind c fun b => if b = true then f else g
/-- a op b op' c -/
def eChain (op op' : Dat → Dat → Option Out) (f g h : EM R) : EM R := eBind f fun r => eBind g fun s => eBind (eLook r) fun a => eBind (eLook s) fun b => eBind (eOpt (op a b)) fun o =>
  match o with
  | (false, .bl true) => eBind h fun t => eBind (eLook s) fun b' => eBind (eLook t) fun c => eBind (eOpt (op' b' c)) fun o => eRet o.r
  | (false, .bl false) => eRet (.val (.bl false))
  | _ => fun _ => none
section
variable {X : Cx} {a b c e : Expr} {es rest : List Expr} {pos : Pos} {f g h : EM R} {u v w : EM Bool}
theorem dt_truth (he : ∀ whole, isTrue a X.env whole = (do let v ← whole; standAt a.pos; holding [v] (truthy v))) (ha : PE X a (TD X.mg f)) : PT X a (TDT X.mg (eTruth f)) := by
  refine PT.of (pt_truth ha he) ?_
  rintro σ H Q ⟨q, env, r, env', R, ev, k⟩
  obtain ⟨r1, e1, h1, ev⟩ := eBind_some ev
  obtain ⟨d, e2, h2, ev2⟩ := eBind_some ev
  obtain ⟨h2', rfl⟩ := eLook_some h2
  obtain ⟨h3, rfl⟩ := eOpt_some ev2
  exact ⟨q, env, r1, env', R, h1, fun v H1 R1 S1 i1 => ⟨r, truD_ok (i1.look R1 h2') h3, k H1 R1 S1⟩⟩
theorem dt_not (ha : PT X a (TDT X.mg u)) : PT X (.UnaryOp .Not a pos) (TDT X.mg (tNo u)) := by
  refine PT.of (pt_not ha) ?_
  rintro σ H Q ⟨q, env, r, env', R, ev, k⟩
  obtain ⟨r1, e1, h1, ev⟩ := eBind_some ev
  obtain ⟨rfl, rfl⟩ := eRet_some ev
  exact ⟨q, env, r1, env', R, h1, fun H1 R1 S1 => k H1 R1 S1⟩
theorem dw_and1 (ha : PT X a (TDT X.mg u)) : PW X (.BoolOp .And [a] pos) (TDT X.mg u) := pw_and1 ha
theorem dw_or1 (ha : PT X a (TDT X.mg u)) : PW X (.BoolOp .Or [a] pos) (TDT X.mg u) := pw_or1 ha
theorem dw_and (ha : PT X a (TDT X.mg u)) (hb : PW X (.BoolOp .And (b :: rest) pos) (TDT X.mg v)) : PW X (.BoolOp .And (a :: b :: rest) pos) (TDT X.mg (tAnd2 u v)) := by
  refine PW.of (pw_and ha hb) ?_
  rintro σ H Q ⟨q, env, r, env', R, ev, k⟩
  obtain ⟨r1, e1, h1, ev⟩ := eBind_some ev
  refine ⟨q, env, r1, e1, R, h1, fun H1 R1 S1 => ?_⟩
  cases r1 with
  | true => exact ⟨q, e1, r, env', R1, ev, fun H2 R2 S2 => k H2 R2 (S1.trans S2)⟩
  | false =>
    obtain ⟨rfl, rfl⟩ := eRet_some ev
    exact k H1 R1 S1
theorem dw_or (ha : PT X a (TDT X.mg u)) (hb : PW X (.BoolOp .Or (b :: rest) pos) (TDT X.mg v)) : PW X (.BoolOp .Or (a :: b :: rest) pos) (TDT X.mg (tOr2 u v)) := by
  refine PW.of (pw_or ha hb) ?_
  rintro σ H Q ⟨q, env, r, env', R, ev, k⟩
  obtain ⟨r1, e1, h1, ev⟩ := eBind_some ev
  refine ⟨q, env, r1, e1, R, h1, fun H1 R1 S1 => ?_⟩
  cases r1 with
  | false => exact ⟨q, e1, r, env', R1, ev, fun H2 R2 S2 => k H2 R2 (S1.trans S2)⟩
  | true =>
    obtain ⟨rfl, rfl⟩ := eRet_some ev
    exact k H1 R1 S1
theorem d_one {bo : PySem.BoolOp} (ha : PE X a (TD X.mg f)) : PE X (.BoolOp bo [a] pos) (TD X.mg f) := pe_one ha
theorem d_or (ha : PE X a (TD X.mg f)) (hb : PE X (.BoolOp .Or (b :: rest) pos) (TD X.mg g)) : PE X (.BoolOp .Or (a :: b :: rest) pos) (TD X.mg (eOr2 f g)) := by
  refine PE.of (pe_orT ha hb) ?_
  rintro σ H Q ⟨q, env, r, env', R, ev, k⟩
  obtain ⟨r1, e1, h1, ev⟩ := eBind_some ev
  obtain ⟨d, e2, h2, ev2⟩ := eBind_some ev
  obtain ⟨h2', rfl⟩ := eLook_some h2
  obtain ⟨t, e3, h3, ev3⟩ := eBind_some ev2
  obtain ⟨h3', rfl⟩ := eOpt_some h3
  refine ⟨q, env, r1, e3, R, h1, fun v H1 R1 S1 i1 => ⟨t, truD_ok (i1.look R1 h2') h3', ?_⟩⟩
  cases t with
  | false => exact ⟨q, e3, r, env', R1, ev3, fun v H2 R2 S2 i2 => k v H2 R2 (S1.trans S2) (i2.back S1.dom)⟩
  | true =>
    obtain ⟨rfl, rfl⟩ := eRet_some ev3
    exact k v H1 R1 S1 i1
theorem d_and (ha : PE X a (TD X.mg f)) (hb : PE X (.BoolOp .And (b :: rest) pos) (TD X.mg g)) : PE X (.BoolOp .And (a :: b :: rest) pos) (TD X.mg (eAnd2 f g)) := by
  refine PE.of (pe_andT ha hb) ?_
  rintro σ H Q ⟨q, env, r, env', R, ev, k⟩
  obtain ⟨r1, e1, h1, ev⟩ := eBind_some ev
  obtain ⟨d, e2, h2, ev2⟩ := eBind_some ev
  obtain ⟨h2', rfl⟩ := eLook_some h2
  obtain ⟨t, e3, h3, ev3⟩ := eBind_some ev2
  obtain ⟨h3', rfl⟩ := eOpt_some h3
  refine ⟨q, env, r1, e3, R, h1, fun v H1 R1 S1 i1 => ⟨t, truD_ok (i1.look R1 h2') h3', ?_⟩⟩
  cases t with
  | true => exact ⟨q, e3, r, env', R1, ev3, fun v H2 R2 S2 i2 => k v H2 R2 (S1.trans S2) (i2.back S1.dom)⟩
  | false =>
    obtain ⟨rfl, rfl⟩ := eRet_some ev3
    exact k v H1 R1 S1 i1
theorem d_not (ha : PE X a (TD X.mg f)) : PE X (.UnaryOp .Not a pos) (TD X.mg (eNot f)) := by
  refine PE.of (pe_notT ha) ?_
  rintro σ H Q ⟨q, env, r, env', R, ev, k⟩
  obtain ⟨r1, e1, h1, ev⟩ := eBind_some ev
  obtain ⟨d, e2, h2, ev2⟩ := eBind_some ev
  obtain ⟨h2', rfl⟩ := eLook_some h2
  obtain ⟨t, e3, h3, ev3⟩ := eBind_some ev2
  obtain ⟨h3', rfl⟩ := eOpt_some h3
  obtain ⟨rfl, rfl⟩ := eRet_some ev3
  exact ⟨q, env, r1, env', R, h1, fun v H1 R1 S1 i1 => ⟨t, truD_ok (i1.look R1 h2') h3', k _ H1 R1 S1 .bl⟩⟩
theorem d_ife (hc : PT X c (TDT X.mg u)) (ha : PE X a (TD X.mg f)) (hb : PE X b (TD X.mg g)) : PE X (.IfExp c a b pos) (TD X.mg (eIf u f g)) := by
  refine PE.of (pe_ifExp hc ha hb) ?_
  rintro σ H Q ⟨q, env, r, env', R, ev, k⟩
  obtain ⟨t, e1, h1, ev⟩ := eBind_some ev
  refine ⟨q, env, t, e1, R, h1, fun H1 R1 S1 => ?_⟩
  cases t with
  | true => exact ⟨q, e1, r, env', R1, ev, fun v H2 R2 S2 i2 => k v H2 R2 (S1.trans S2) (i2.back S1.dom)⟩
  | false => exact ⟨q, e1, r, env', R1, ev, fun v H2 R2 S2 i2 => k v H2 R2 (S1.trans S2) (i2.back S1.dom)⟩
/-- a comparison as a test -/
theorem dt_cmp {co : CmpOp} {r : R2} {op : Dat → Dat → Option Out} (hr : OpR X (compareOp co) r) (ho : Op2 X.mg r op) (hm : behindInMarks co b = false) (ha : PE X a (TD X.mg f)) (hb : PE X b (TD X.mg g)) : PT X (.Compare a [co] [b] pos) (TDT X.mg (eBind (eOp2 op f g) fun r => match r with
    | .val (.bl k) => eRet k
    | _ => fun _ => none)) := by
  refine PT.of (pt_cmpR hr ha hb hm) ?_
  rintro σ H Q ⟨q, env, t, env', R, ev, k⟩
  obtain ⟨r1, e1, h1, ev⟩ := eBind_some ev
  refine red2 ho σ H _ ⟨q, env, r1, e1, R, h1, fun v H1 R1 S1 i1 => ?_⟩
  split at ev
  · obtain ⟨rfl, rfl⟩ := eRet_some ev
    cases i1
    exact ⟨_, rfl, k H1 R1 S1⟩
  · cases ev
theorem redC {r r' : R2} {op op' : Dat → Dat → Option Out} (ho : Op2 X.mg r op) (ho' : Op2 X.mg r' op') (σ : L2.St) (H : Hp) (Q : VK) (hh : TD X.mg (eChain op op' f g h) σ H Q) : tChain r r' (TD X.mg f) (TD X.mg g) (TD X.mg h) σ H Q := by
  obtain ⟨q, env, out, env', R, ev, k⟩ := hh
  obtain ⟨r1, e1, h1, ev⟩ := eBind_some ev
  obtain ⟨r2, e2, h2, ev1⟩ := eBind_some ev
  obtain ⟨da, e3, h3, ev2⟩ := eBind_some ev1
  obtain ⟨h3', rfl⟩ := eLook_some h3
  obtain ⟨db, e4, h4, ev3⟩ := eBind_some ev2
  obtain ⟨h4', rfl⟩ := eLook_some h4
  obtain ⟨o, e5, h5, ev4⟩ := eBind_some ev3
  obtain ⟨h5', rfl⟩ := eOpt_some h5
  refine ⟨q, env, r1, e1, R, h1, fun v H1 R1 S1 i1 => ⟨q, e1, r2, e5, R1, h2, fun w H2 R2 S2 i2 => ?_⟩⟩
  refine ho (Prot q e5 σ) H2 da db v w o (fun x hx => R2.prot_in hx) ((i1.step S2).look R2 (by rw [look_weak]; exact h3')) (i2.look R2 h4') h5' _ fun z H3 hx io => ?_
  have R3 := R2.ext hx
  have S3 : StepE e1 σ H1 e5 H3 := S2.trans (.ext hx)
  have i3 := i2.step (StepE.ext (env := e5) (σ := σ) hx)
  split at ev4
  · cases io
    refine ⟨true, rfl, ?_⟩
    obtain ⟨r3, e6, h6, ev5⟩ := eBind_some ev4
    obtain ⟨db', e7, h7, ev6⟩ := eBind_some ev5
    obtain ⟨h7', rfl⟩ := eLook_some h7
    obtain ⟨dc, e8, h8, ev7⟩ := eBind_some ev6
    obtain ⟨h8', rfl⟩ := eLook_some h8
    obtain ⟨o', e9, h9, ev8⟩ := eBind_some ev7
    obtain ⟨h9', rfl⟩ := eOpt_some h9
    obtain ⟨rfl, rfl⟩ := eRet_some ev8
    refine ⟨q, e5, r3, env', R3, h6, fun y H4 R4 S4 i4 => ?_⟩
    refine ho' (Prot q env' σ) H4 db' dc w y o' (fun x hx => R4.prot_in hx) ((i3.step S4).look R4 (by rw [look_weak, look_weak]; exact h7')) (i4.look R4 h8') h9' Q fun z' H' hx' io' => ?_
    exact k z' H' (R4.ext hx') (((S1.trans S3).trans S4).trans (.ext hx')) ((io'.isR R4 hx').back ((S1.trans S3).trans S4).dom)
  · cases io
    refine ⟨false, rfl, ?_⟩
    obtain ⟨rfl, rfl⟩ := eRet_some ev4
    exact k _ H3 R3 (S1.trans S3) .bl
  · cases ev4
theorem d_chain {o1 o2 : CmpOp} {r r' : R2} {op op' : Dat → Dat → Option Out} (hr : OpR X (compareOp o1) r) (hr' : OpR X (compareOp o2) r') (ho : Op2 X.mg r op) (ho' : Op2 X.mg r' op') (hm : behindInMarks o2 c = false)
    (ha : PE X a (TD X.mg f)) (hb : PE X b (TD X.mg g)) (hc : PE X c (TD X.mg h)) : PE X (.Compare a [o1, o2] [b, c] pos) (TD X.mg (eChain op op' f g h)) :=
  PE.of (pe_chain hr hr' ha hb hc hm) (redC ho ho')
end
end DL
/-! Statements as functions of environments; what a def hands back. -/
namespace DL
open PySem PySem.Spec L2
open PyProof.Rows hiding St
/-- how a statement ends -/
inductive O where
  | nx
  | rt (r : R)
  | bk
  | ct
structure Step (env : Env) (σ : L2.St) (H : Hp) (env' : Env) (σ' : L2.St) (H' : Hp) : Prop where
  keep : ∀ b o, H b = some o → ¬ MutAt env σ b → H' b = some o
  dom : ∀ b, H b ≠ none → H' b ≠ none
  mono : ∀ b, MutAt env' σ' b → MutAt env σ b ∨ H b = none
  muts : ∀ (i : Nat) (d : Dat), env[i]? = some (some (.mtb d)) → (∃ d', env'[i]? = some (some (.mtb d'))) ∧ σ'[i]? = σ[i]?
  len : env'.length = env.length
theorem StepE.to {env env' : Env} {σ : L2.St} {H H' : Hp} (s : StepE env σ H env' H') : Step env σ H env' σ H' :=
  ⟨s.keep, s.dom, fun b m => .inl (s.mono b m), fun i d e => ⟨s.muts i d e, rfl⟩, s.len⟩
theorem Step.refl {env : Env} {σ : L2.St} {H : Hp} : Step env σ H env σ H := StepE.refl.to
theorem Step.trans {e0 e1 e2 : Env} {σ0 σ1 σ2 : L2.St} {H0 H1 H2 : Hp} (a : Step e0 σ0 H0 e1 σ1 H1) (b : Step e1 σ1 H1 e2 σ2 H2) : Step e0 σ0 H0 e2 σ2 H2 where
  keep := fun c o e n => b.keep c o (a.keep c o e n) (fun m => (a.mono c m).elim n fun z => by rw [e] at z; cases z)
  dom := fun c h => b.dom c (a.dom c h)
  mono := fun c m => by
    rcases b.mono c m with m | z
    · exact a.mono c m
    · refine .inr ?_
      cases e : H0 c with
      | none => rfl
      | some o => exact absurd z (a.dom c (by rw [e]; simp))
  muts := fun i d e => by
    obtain ⟨⟨d', e'⟩, h⟩ := a.muts i d e
    obtain ⟨r, h'⟩ := b.muts i d' e'
    exact ⟨r, h'.trans h⟩
  len := b.len.trans a.len
section
variable (mg : Str → Option Value)
def TDS (f : EM O) : TS := fun D σ H => ∃ q env o env', Rel mg q env σ H ∧ f env = some (o, env') ∧ match o with
  | .nx => ∀ σ' H', Rel mg q env' σ' H' → Step env σ H env' σ' H' → D.nx σ' H'
  | .bk => ∀ σ' H', Rel mg q env' σ' H' → Step env σ H env' σ' H' → D.bk σ' H'
  | .ct => ∀ σ' H', Rel mg q env' σ' H' → Step env σ H env' σ' H' → D.ct σ' H'
  | .rt r => ∀ v σ' H', Rel mg q env' σ' H' → Step env σ H env' σ' H' → IsR mg q env' σ' H H' r v → D.rt v H'
end
def sSeq (f g : EM O) : EM O := eBind f fun o => match o with
  | .nx => g
  | o => eRet o
def sExp (f : EM R) : EM O := eBind f fun _ => eRet .nx
def sRet (f : EM R) : EM O := eBind f fun r => eRet (.rt r)
theorem PS.of {X : Cx} {st : Stmt} {t t' : TS} (h : PS X st t) (w : ∀ D σ H, t' D σ H → t D σ H) : PS X st t' := ⟨fun pins s σ H Q I x => h.run pins s σ H Q I (w Q σ H x)⟩
theorem PSs.of {X : Cx} {st : List Stmt} {t t' : TS} (h : PSs X st t) (w : ∀ D σ H, t' D σ H → t D σ H) : PSs X st t' := ⟨fun pins s σ H Q I x => h.run pins s σ H Q I (w Q σ H x)⟩
theorem IsR.backS {mg : Str → Option Value} {q : Addr → Prop} {env : Env} {σ : L2.St} {H0 H1 H : Hp} {r : R} {v : V} (h : IsR mg q env σ H0 H r v) (b : ∀ a, H1 a ≠ none → H0 a ≠ none) : IsR mg q env σ H1 H r v := h.back b
/-- a slot is stored: a datum -/
theorem Rel.setVal {mg : Str → Option Value} {q : Addr → Prop} {env : Env} {σ : L2.St} {H : Hp} {i : Nat} {d : Dat} {v : V} (R : Rel mg q env σ H) (hi : i < env.length) (nm : ∀ d, env[i]? ≠ some (some (.mtb d))) (h : IsD mg (Prot q env σ) H d v) :
    Rel mg q (env.set i (some (.val d))) (σ.set i (some v)) H ∧ Step env σ H (env.set i (some (.val d))) (σ.set i (some v)) H := by
  have hs : i < σ.length := by rw [← R.len]; exact hi
  have mm : ∀ b, MutAt (env.set i (some (.val d))) (σ.set i (some v)) b → MutAt env σ b := by
    rintro b ⟨j, s, e1, w, e2⟩
    by_cases hj : i = j
    · subst hj
      rw [List.getElem?_set_self hi] at e1
      cases e1
      cases w
    · rw [List.getElem?_set_ne hj] at e1 e2
      exact ⟨j, s, e1, w, e2⟩
  have hp : ∀ b, Prot q (env.set i (some (.val d))) (σ.set i (some v)) b → Prot q env σ b := fun b z => z.elim .inl (fun m => .inr (mm b m))
  refine ⟨⟨by simpa using R.len, fun j d' e => ?_, fun j s e w => ?_, fun j k s t a e1 w1 e2 w2 h1 h2 => ?_, R.qin⟩, ⟨fun _ _ e _ => e, fun _ z => z, fun b m => .inl (mm b m), fun j d' e => ?_, by simp⟩⟩
  · by_cases hj : i = j
    · subst hj
      rw [List.getElem?_set_self hi] at e
      cases e
      exact ⟨v, List.getElem?_set_self hs, h.mono hp fun _ _ e _ => e⟩
    · rw [List.getElem?_set_ne hj] at e ⊢
      obtain ⟨u, h1, h2⟩ := R.val j d' e
      exact ⟨u, h1, h2.mono hp fun _ _ e _ => e⟩
  · by_cases hj : i = j
    · subst hj
      rw [List.getElem?_set_self hi] at e
      cases e
      cases w
    · rw [List.getElem?_set_ne hj] at e ⊢
      obtain ⟨a, h1, h2, h3⟩ := R.wr j s e w
      exact ⟨a, h1, h2, h3.mono hp (fun _ _ e _ => e) (fun _ e => e)⟩
  · have n1 : i ≠ j := by
      rintro rfl
      rw [List.getElem?_set_self hi] at e1
      cases e1
      cases w1
    have n2 : i ≠ k := by
      rintro rfl
      rw [List.getElem?_set_self hi] at e2
      cases e2
      cases w2
    rw [List.getElem?_set_ne n1] at e1 h1
    rw [List.getElem?_set_ne n2] at e2 h2
    exact R.inj j k s t a e1 w1 e2 w2 h1 h2
  · have n1 : i ≠ j := by
      rintro rfl
      exact nm _ e
    rw [List.getElem?_set_ne n1, List.getElem?_set_ne n1]
    exact ⟨⟨d', e⟩, rfl⟩
/-- a slot is stored: a new object -/
theorem Rel.setOwn {mg : Str → Option Value} {q : Addr → Prop} {env : Env} {σ : L2.St} {H0 H : Hp} {i : Nat} {d : Dat} {v : V} (hi : i < env.length) (nm : ∀ d, env[i]? ≠ some (some (.mtb d))) (h : IsR mg q env σ H0 H (.new d) v) :
    Rel mg q (env.set i (some (.own d))) (σ.set i (some v)) H ∧ ∀ env0, StepE env0 σ H0 env H → Step env0 σ H0 (env.set i (some (.own d))) (σ.set i (some v)) H := by
  obtain ⟨a, rfl, n0, nq, t, R⟩ := h
  have hs : i < σ.length := by rw [← R.len]; exact hi
  have mm : ∀ b, MutAt (env.set i (some (.own d))) (σ.set i (some (.ref a))) b → MutAt env σ b ∨ b = a := by
    rintro b ⟨j, s, e1, w, e2⟩
    by_cases hj : i = j
    · subst hj
      rw [List.getElem?_set_self hs] at e2
      cases e2
      exact .inr rfl
    · rw [List.getElem?_set_ne hj] at e1 e2
      exact .inl ⟨j, s, e1, w, e2⟩
  have hp : ∀ b, Prot q (env.set i (some (.own d))) (σ.set i (some (.ref a))) b → Prot (fun b => q b ∨ b = a) env σ b := fun b z => z.elim (fun z => .inl (.inl z)) (fun m => (mm b m).elim (fun m => .inr m) (fun e => .inl (.inr e)))
  have hp2 : ∀ b, Prot q (env.set i (some (.own d))) (σ.set i (some (.ref a))) b → Prot q env σ b ∨ b = a := fun b z => z.elim (fun z => .inl (.inl z)) (fun m => (mm b m).elim (fun m => .inl (.inr m)) .inr)
  refine ⟨⟨by simpa using R.len, fun j d' e => ?_, fun j s e w => ?_, fun j k s t a' e1 w1 e2 w2 h1 h2 => ?_, fun b z => R.qin b (.inl z)⟩, fun env0 S => ⟨S.keep, S.dom, fun b m => ?_, fun j d' e => ?_, by simpa using S.len⟩⟩
  · by_cases hj : i = j
    · subst hj
      rw [List.getElem?_set_self hi] at e
      cases e
    · rw [List.getElem?_set_ne hj] at e ⊢
      obtain ⟨u, h1, h2⟩ := R.val j d' e
      exact ⟨u, h1, h2.mono hp fun _ _ e _ => e⟩
  · by_cases hj : i = j
    · subst hj
      rw [List.getElem?_set_self hi] at e
      cases e
      exact ⟨a, List.getElem?_set_self hs, nq, t.mono hp2 (fun _ _ e _ => e) (fun _ e => e)⟩
    · rw [List.getElem?_set_ne hj] at e ⊢
      obtain ⟨b, h1, h2, h3⟩ := R.wr j s e w
      exact ⟨b, h1, fun z => h2 (.inl z), h3.mono hp (fun _ _ e _ => e) (fun _ e => e)⟩
  · by_cases n1 : i = j
    · by_cases n2 : i = k
      · rw [← n1, ← n2]
      · subst n1
        rw [List.getElem?_set_self hs] at h1
        cases h1
        rw [List.getElem?_set_ne n2] at e2 h2
        obtain ⟨b, h3, h4, _⟩ := R.wr k t e2 w2
        rw [h2] at h3
        cases h3
        exact absurd (.inr rfl) h4
    · by_cases n2 : i = k
      · subst n2
        rw [List.getElem?_set_self hs] at h2
        cases h2
        rw [List.getElem?_set_ne n1] at e1 h1
        obtain ⟨b, h3, h4, _⟩ := R.wr j s e1 w1
        rw [h1] at h3
        cases h3
        exact absurd (.inr rfl) h4
      · rw [List.getElem?_set_ne n1] at e1 h1
        rw [List.getElem?_set_ne n2] at e2 h2
        exact R.inj j k s t a' e1 w1 e2 w2 h1 h2
  · rcases mm b m with m | m
    · exact .inl (S.mono b m)
    · exact .inr (by rw [m]; exact n0)
  · obtain ⟨d2, e2⟩ := S.muts j d' e
    have n1 : i ≠ j := by
      rintro rfl
      exact nm _ e2
    rw [List.getElem?_set_ne n1, List.getElem?_set_ne n1]
    exact ⟨⟨d2, e2⟩, rfl⟩
@[reducible] def Slot.put : Slot → Dat → Slot
  | .val _, d => .val d
  | .own _, d => .own d
  | .mtb _, d => .mtb d
theorem Slot.put_wr (s : Slot) (d : Dat) : (s.put d).wr = s.wr := by cases s <;> rfl
theorem Slot.put_dat (s : Slot) (d : Dat) : (s.put d).dat = d := by cases s <;> rfl
/-- the object that a slot holds is changed -/
theorem Rel.change {mg : Str → Option Value} {q : Addr → Prop} {env : Env} {σ : L2.St} {H : Hp} {i : Nat} {s : Slot} {a : Addr} {o : HO} {d : Dat} (R : Rel mg q env σ H) (e : env[i]? = some (some s)) (w : s.wr = true) (ha : σ[i]? = some (some (.ref a)))
    (h : IsTop mg (Prot q env σ) (upd H a o) d a) : Rel mg q (env.set i (some (s.put d))) σ (upd H a o) ∧ StepE env σ H (env.set i (some (s.put d))) (upd H a o) := by
  have hi : i < env.length := (List.getElem?_eq_some_iff.mp e).1
  have mm : ∀ b, MutAt (env.set i (some (s.put d))) σ b → MutAt env σ b := by
    rintro b ⟨j, s', e1, w', e2⟩
    by_cases hj : i = j
    · subst hj
      exact ⟨i, s, e, w, e2⟩
    · rw [List.getElem?_set_ne hj] at e1
      exact ⟨j, s', e1, w', e2⟩
  have hp : ∀ b, Prot q (env.set i (some (s.put d))) σ b → Prot q env σ b := fun b z => z.elim .inl (fun m => .inr (mm b m))
  have pa : Prot q env σ a := .inr ⟨i, s, e, w, ha⟩
  have kp : ∀ b u, H b = some u → ¬ Prot q env σ b → upd H a o b = some u := fun b u e n => by
    rw [upd_ne (fun z => n (by rw [z]; exact pa))]
    exact e
  refine ⟨⟨by simpa using R.len, fun j d' e1 => ?_, fun j s' e1 w1 => ?_, fun j k s' t a' e1 w1 e2 w2 h1 h2 => ?_, fun b z => ?_⟩, ⟨fun b u e1 n => ?_, fun b z => ?_, mm, fun j s' e1 => ?_, fun j d' e1 => ?_, by simp⟩⟩
  · by_cases hj : i = j
    · subst hj
      rw [List.getElem?_set_self hi] at e1
      have e2 : s.put d = .val d' := Option.some.inj (Option.some.inj e1)
      have := Slot.put_wr s d
      rw [e2, w] at this
      cases this
    · rw [List.getElem?_set_ne hj] at e1
      obtain ⟨u, h1, h2⟩ := R.val j d' e1
      exact ⟨u, h1, h2.mono hp kp⟩
  · by_cases hj : i = j
    · subst hj
      rw [List.getElem?_set_self hi] at e1
      have e2 : s.put d = s' := Option.some.inj (Option.some.inj e1)
      obtain ⟨b, h1, h2, _⟩ := R.wr i s e w
      rw [ha] at h1
      cases h1
      rw [← e2, Slot.put_dat]
      exact ⟨a, ha, h2, h.mono hp (fun _ _ e _ => e) (fun _ e => e)⟩
    · rw [List.getElem?_set_ne hj] at e1
      obtain ⟨b, h1, h2, h3⟩ := R.wr j s' e1 w1
      have nb : b ≠ a := by
        rintro rfl
        exact hj (R.inj i j s s' b e w e1 w1 ha h1)
      exact ⟨b, h1, h2, h3.mono hp kp (fun u e => by rw [upd_ne nb]; exact e)⟩
  · have g1 : ∃ t1, env[j]? = some (some t1) ∧ t1.wr = true := by
      by_cases hj : i = j
      · subst hj
        exact ⟨s, e, w⟩
      · rw [List.getElem?_set_ne hj] at e1
        exact ⟨s', e1, w1⟩
    have g2 : ∃ t1, env[k]? = some (some t1) ∧ t1.wr = true := by
      by_cases hj : i = k
      · subst hj
        exact ⟨s, e, w⟩
      · rw [List.getElem?_set_ne hj] at e2
        exact ⟨t, e2, w2⟩
    obtain ⟨t1, f1, f2⟩ := g1
    obtain ⟨t2, f3, f4⟩ := g2
    exact R.inj j k t1 t2 a' f1 f2 f3 f4 h1 h2
  · by_cases hb : b = a
    · rw [hb, upd_same]; simp
    · rw [upd_ne hb]; exact R.qin b z
  · rw [upd_ne (fun z => n (by rw [z]; exact ⟨i, s, e, w, ha⟩))]
    exact e1
  · by_cases hb : b = a
    · rw [hb, upd_same]; simp
    · rw [upd_ne hb]; exact z
  · by_cases hj : i = j
    · subst hj
      exact ⟨_, List.getElem?_set_self hi⟩
    · rw [List.getElem?_set_ne hj]
      exact ⟨s', e1⟩
  · by_cases hj : i = j
    · subst hj
      rw [e] at e1
      cases e1
      exact ⟨d, List.getElem?_set_self hi⟩
    · rw [List.getElem?_set_ne hj]
      exact ⟨d', e1⟩
/-! ### storing -/
def isMtb : Option (Option Slot) → Bool
  | some (some (.mtb _)) => true
  | _ => false
def eSet (i : Nat) (r : R) : EM Unit := fun env => if i < env.length ∧ isMtb env[i]? = false then
    match r with
    | .new d => some ((), env.set i (some (.own d)))
    | r => match force env r with
      | some (d, e1) => if isMtb e1[i]? = false then some ((), e1.set i (some (.val d))) else none
      | none => none
  else none
def sSet (i : Nat) (f : EM R) : EM O := eBind f fun r => eBind (eSet i r) fun _ => eRet .nx
theorem not_mtb {o : Option (Option Slot)} (h : isMtb o = false) : ∀ d, o ≠ some (some (.mtb d)) := by
  rintro d rfl
  cases h
theorem eSet_ok {mg : Str → Option Value} {q : Addr → Prop} {env env' : Env} {σ : L2.St} {H0 H : Hp} {i : Nat} {r : R} {v : V} (R : Rel mg q env σ H) (h : IsR mg q env σ H0 H r v) (e : eSet i r env = some ((), env')) :
    Rel mg q env' (σ.set i (some v)) H ∧ ∀ env0, StepE env0 σ H0 env H → Step env0 σ H0 env' (σ.set i (some v)) H := by
  unfold eSet at e
  split at e
  · rename_i hc
    obtain ⟨hi, hm⟩ := hc
    have key : ∀ r', IsR mg q env σ H0 H r' v → (match force env r' with
      | some (d, e1) => if isMtb e1[i]? = false then some ((), e1.set i (some (.val d))) else none
      | none => none) = some ((), env') → Rel mg q env' (σ.set i (some v)) H ∧ ∀ env0, StepE env0 σ H0 env H → Step env0 σ H0 env' (σ.set i (some v)) H := fun r' h' e => by
      cases hf : force env r' with
      | none =>
          rw [hf] at e; cases e
      | some p =>
        rw [hf] at e
        obtain ⟨d, e1⟩ := p
        have e : (if isMtb e1[i]? = false then some ((), e1.set i (some (.val d))) else none) = some ((), env') := e
        split at e
        · rename_i hm1
          cases e
          obtain ⟨R1, S1, hd⟩ := h'.force R hf
          obtain ⟨R2, S2⟩ := R1.setVal (i := i) (by rw [S1.len]; exact hi) (not_mtb hm1) hd
          exact ⟨R2, fun env0 S0 => (S0.trans S1).to.trans S2⟩
        · cases e
    cases r with
    | new d =>
      cases e
      exact Rel.setOwn hi (not_mtb hm) h
    | val d => exact key _ h e
    | bor j => exact key _ h e
  · cases e
section
variable {X : Cx} {a b c e : Expr} {es : List Expr} {st : Stmt} {sts : List Stmt} {pos : Pos} {f g h : EM R} {u : EM Bool} {s t : EM O}
theorem ds_nil : PSs X [] (TDS X.mg (eRet .nx)) := by
  refine PSs.of pss_nil ?_
  rintro D σ H ⟨q, env, r, env', R, ev, k⟩
  obtain ⟨rfl, rfl⟩ := eRet_some ev
  exact k σ H R .refl
theorem TDS.seq {mg : Str → Option Value} {D : Ends} {σ : L2.St} {H : Hp} (hh : TDS mg (sSeq s t) D σ H) : TDS mg s { D with nx := TDS mg t D } σ H := by
  obtain ⟨q, env, o, env', R, ev, k⟩ := hh
  obtain ⟨o1, e1, h1, ev1⟩ := eBind_some ev
  refine ⟨q, env, o1, e1, R, h1, ?_⟩
  cases o1 with
  | nx =>
    intro σ1 H1 R1 S1
    refine ⟨q, e1, o, env', R1, ev1, ?_⟩
    cases o with
    | nx => exact fun σ2 H2 R2 S2 => k σ2 H2 R2 (S1.trans S2)
    | bk => exact fun σ2 H2 R2 S2 => k σ2 H2 R2 (S1.trans S2)
    | ct => exact fun σ2 H2 R2 S2 => k σ2 H2 R2 (S1.trans S2)
    | rt r => exact fun v σ2 H2 R2 S2 i2 => k v σ2 H2 R2 (S1.trans S2) (i2.back S1.dom)
  | bk =>
    obtain ⟨rfl, rfl⟩ := eRet_some ev1
    exact k
  | ct =>
    obtain ⟨rfl, rfl⟩ := eRet_some ev1
    exact k
  | rt r =>
    obtain ⟨rfl, rfl⟩ := eRet_some ev1
    exact k
theorem ds_cons (h1 : PS X st (TDS X.mg s)) (h2 : PSs X sts (TDS X.mg t)) : PSs X (st :: sts) (TDS X.mg (sSeq s t)) := PSs.of (pss_cons h1 h2) fun _ _ _ hh => hh.seq
theorem ds_one (h1 : PS X st (TDS X.mg s)) : PSs X [st] (TDS X.mg s) := pss_one h1
theorem ds_never : PS X st (TDS X.mg (fun _ => none)) := by
  refine PS.of ps_never ?_
  rintro D σ H ⟨q, env, r, env', R, ev, k⟩
  cases ev
theorem dss_never : PSs X sts (TDS X.mg (fun _ => none)) := by
  refine PSs.of pss_never ?_
  rintro D σ H ⟨q, env, r, env', R, ev, k⟩
  cases ev
theorem ds_expr (hs : swapsWith e none pos.line X.env = pure false) (he : PE X e (TD X.mg f)) : PS X (.Expr e pos) (TDS X.mg (sExp f)) := by
  refine PS.of (ps_expr he hs) ?_
  rintro D σ H ⟨q, env, o, env', R, ev, k⟩
  obtain ⟨r1, e1, h1, ev1⟩ := eBind_some ev
  obtain ⟨rfl, rfl⟩ := eRet_some ev1
  exact ⟨q, env, r1, env', R, h1, fun v H1 R1 S1 _ => k σ H1 R1 S1.to⟩
theorem ds_ret (he : PE X e (TD X.mg f)) : PS X (.Return (some e) pos) (TDS X.mg (sRet f)) := by
  refine PS.of (ps_ret he) ?_
  rintro D σ H ⟨q, env, o, env', R, ev, k⟩
  obtain ⟨r1, e1, h1, ev1⟩ := eBind_some ev
  obtain ⟨rfl, rfl⟩ := eRet_some ev1
  exact ⟨q, env, r1, env', R, h1, fun v H1 R1 S1 i1 => k v σ H1 R1 S1.to i1⟩
theorem ds_retN : PS X (.Return none pos) (TDS X.mg (eRet (.rt (.val .non)))) := by
  refine PS.of ps_retN ?_
  rintro D σ H ⟨q, env, o, env', R, ev, k⟩
  obtain ⟨rfl, rfl⟩ := eRet_some ev
  exact k .non σ H R .refl .non
theorem ds_pass : PS X (.Pass pos) (TDS X.mg (eRet .nx)) := by
  refine PS.of ps_pass ?_
  rintro D σ H ⟨q, env, o, env', R, ev, k⟩
  obtain ⟨rfl, rfl⟩ := eRet_some ev
  exact k σ H R .refl
theorem ds_break : PS X (.Break pos) (TDS X.mg (eRet .bk)) := by
  refine PS.of ps_break ?_
  rintro D σ H ⟨q, env, o, env', R, ev, k⟩
  obtain ⟨rfl, rfl⟩ := eRet_some ev
  exact k σ H R .refl
theorem ds_continue : PS X (.Continue pos) (TDS X.mg (eRet .ct)) := by
  refine PS.of ps_continue ?_
  rintro D σ H ⟨q, env, o, env', R, ev, k⟩
  obtain ⟨rfl, rfl⟩ := eRet_some ev
  exact k σ H R .refl
theorem ds_if {sa sb : List Stmt} (hc : PT X c (TDT X.mg u)) (ha : PSs X sa (TDS X.mg s)) (hb : PSs X sb (TDS X.mg t)) : PS X (.If c sa sb pos) (TDS X.mg (eIf u s t)) := by
  refine PS.of (ps_if hc ha hb) ?_
  rintro D σ H ⟨q, env, o, env', R, ev, k⟩
  obtain ⟨b, e1, h1, ev1⟩ := eBind_some ev
  refine ⟨q, env, b, e1, R, h1, fun H1 R1 S1 => ?_⟩
  have fin : ∀ {x : EM O}, x e1 = some (o, env') → TDS X.mg x D σ H1 := fun hx => by
    refine ⟨q, e1, o, env', R1, hx, ?_⟩
    cases o with
    | nx => exact fun σ2 H2 R2 S2 => k σ2 H2 R2 (S1.to.trans S2)
    | bk => exact fun σ2 H2 R2 S2 => k σ2 H2 R2 (S1.to.trans S2)
    | ct => exact fun σ2 H2 R2 S2 => k σ2 H2 R2 (S1.to.trans S2)
    | rt r => exact fun v σ2 H2 R2 S2 i2 => k v σ2 H2 R2 (S1.to.trans S2) (i2.back S1.dom)
  cases b with
  | true => exact fin ev1
  | false => exact fin ev1
theorem ds_set {i : Nat} {x : Str} {pos' : Pos} (hN : X.N.Nodup) (hi : X.N[i]? = some x) (hx : Loc X.env.scope x) (hf : X.fn x = true ∨ X.env.scope.names.lookup x = some .local) (hs : swapsWith e (some (.Name x pos')) pos.line X.env = pure false) (he : PE X e (TD X.mg f)) :
    PS X (.Assign [.Name x pos'] e pos) (TDS X.mg (sSet i f)) := by
  refine PS.of (ps_set hN hi hx he hs hf) ?_
  rintro D σ H ⟨q, env, o, env', R, ev, k⟩
  obtain ⟨r1, e1, h1, ev1⟩ := eBind_some ev
  obtain ⟨⟨⟩, e2, h2, ev2⟩ := eBind_some ev1
  obtain ⟨rfl, rfl⟩ := eRet_some ev2
  refine ⟨q, env, r1, e1, R, h1, fun v H1 R1 S1 i1 => ?_⟩
  obtain ⟨R2, S2⟩ := eSet_ok R1 i1 h2
  exact k _ H1 R2 (S2 env S1)
end
/-! ### defs -/
/-- a def as a function of its parameters: what it hands back, and what has become of those that it may change -/
def merge : Env → Env → Env
  | [], _ => []
  | e :: es, [] => e :: es
  | e :: es, f :: fs => (if isMtb (some e) = true then f else e) :: merge es fs
def out (env : Env) : R → Option R
  | .val d => some (.val d)
  | .new d => some (.new d)
  | .bor i => match env[i]? with
    | some (some (.val d)) => some (.val d)
    | some (some (.own d)) => some (.new d)
    | _ => none
/-- run with n slots in all -/
def runB (n : Nat) (body : EM O) : EM R := fun env => match body (env ++ List.replicate (n - env.length) none) with
  | some (.rt r, e1) => (out e1 r).map fun r => (r, merge env e1)
  | some (.nx, e1) => some (.val .non, merge env e1)
  | _ => none
def spF (mg : Str → Option Value) (n : Nat) (F : EM R) : Sp := fun vs H Q _ => vs.length = n ∧ TD mg F (vs.map some) H Q
theorem merge_len : ∀ (a b : Env), (merge a b).length = a.length
  | [], _ => rfl
  | _ :: _, [] => rfl
  | _ :: es, _ :: fs => by
    show (merge es fs).length + 1 = es.length + 1
    rw [merge_len es fs]
theorem merge_get : ∀ (a b : Env) (i : Nat), (merge a b)[i]? = (if isMtb a[i]? = true ∧ i < b.length then b[i]? else a[i]?)
  | [], b, i => by simp [merge, isMtb]
  | e :: es, [], i => by simp [merge]
  | e :: es, f :: fs, 0 => by
    show some (if isMtb (some e) = true then f else e) = _
    simp only [List.getElem?_cons_zero, List.length_cons, Nat.zero_lt_succ, and_true]
    split <;> rfl
  | e :: es, f :: fs, i + 1 => by
    show (merge es fs)[i]? = _
    rw [merge_get es fs i]
    simp
section
variable {mg : Str → Option Value} {q : Addr → Prop} {env e1 : Env} {vs : List V} {H H' : Hp} {m : Nat} {σ' : L2.St}
theorem get_app {env : Env} {k i : Nat} {s : Slot} (h : (env ++ List.replicate k none)[i]? = some (some s)) : env[i]? = some (some s) := by
  by_cases hi : i < env.length
  · rw [List.getElem?_append_left hi] at h
    exact h
  · rw [List.getElem?_append_right (by omega), List.getElem?_replicate] at h
    split at h <;> cases h
theorem app_get {env : Env} {k i : Nat} {s : Slot} (h : env[i]? = some (some s)) : (env ++ List.replicate k none)[i]? = some (some s) := by
  rw [List.getElem?_append_left (List.getElem?_eq_some_iff.mp h).1]
  exact h
theorem st_get {vs : List V} {k i : Nat} {v : V} : (vs.map some ++ List.replicate k none)[i]? = some (some v) ↔ (vs.map some)[i]? = some (some v) := by
  by_cases hi : i < (vs.map some).length
  · rw [List.getElem?_append_left hi]
  · rw [List.getElem?_append_right (by omega), List.getElem?_replicate]
    rw [List.getElem?_eq_none
        (by omega)]
    constructor
    · intro h
      split at h <;> cases h
    · intro h
      cases h
theorem mutAt_app {env : Env} {vs : List V} {j k : Nat} {a : Addr} : MutAt (env ++ List.replicate k none) (vs.map some ++ List.replicate j none) a ↔ MutAt env (vs.map some) a := by
  constructor
  · rintro ⟨i, s, e, w, h⟩
    exact ⟨i, s, get_app e, w, st_get.mp h⟩
  · rintro ⟨i, s, e, w, h⟩
    exact ⟨i, s, app_get e, w, st_get.mpr h⟩
theorem Rel.pad {N : List Str} (R : Rel mg q env (vs.map some) H) (hn : vs.length ≤ N.length) : Rel mg q (env ++ List.replicate (N.length - env.length) none) (L2.start N vs) H := by
  have hl : env.length = vs.length := by simpa using R.len
  have hp : ∀ a, Prot q (env ++ List.replicate (N.length - env.length) none) (L2.start N vs) a → Prot q env (vs.map some) a := fun a z => z.elim .inl fun m => .inr (mutAt_app.mp m)
  refine ⟨by simp [L2.start, hl], fun i d e => ?_, fun i s e w => ?_, fun i j s t a e1 w1 e2 w2 h1 h2 => R.inj i j s t a (get_app e1) w1 (get_app e2) w2 (st_get.mp h1) (st_get.mp h2), R.qin⟩
  · obtain ⟨v, h1, h2⟩ := R.val i d (get_app e)
    exact ⟨v, st_get.mpr h1, h2.mono hp fun _ _ e _ => e⟩
  · obtain ⟨a, h1, h2, h3⟩ := R.wr i s (get_app e) w
    exact ⟨a, st_get.mpr h1, h2, h3.mono hp (fun _ _ e _ => e) (fun _ e => e)⟩
theorem isMtb_iff {o : Option (Option Slot)} : isMtb o = true ↔ ∃ d, o = some (some (.mtb d)) := by
  constructor
  · intro h
    unfold isMtb at h
    split at h
    · exact ⟨_, rfl⟩
    · cases h
  · rintro ⟨d, rfl⟩
    rfl
/-- only what may be changed is changed -/
def noOwn (env : Env) : Prop := ∀ (i : Nat) (d : Dat), env[i]? ≠ some (some (.own d))
/-- behind a def's body -/
theorem fin_def {N : List Str} (no : noOwn env) (R : Rel mg q env (vs.map some) H) (hn : vs.length ≤ N.length) {q1 : Addr → Prop} (R1 : Rel mg q1 e1 σ' H') (hq : ∀ a, q1 a → q a ∨ H a = none) (S : Step (env ++ List.replicate (N.length - env.length) none) (L2.start N vs) H e1 σ' H') :
    Rel mg (fun a => q1 a) (merge env e1) (vs.map some) H' ∧ StepE env (vs.map some) H (merge env e1) H' ∧ (∀ a, Prot q1 (merge env e1) (vs.map some) a → Prot q1 e1 σ' a) := by
  have hl : env.length = vs.length := by simpa using R.len
  have he : e1.length = N.length := by
    rw [S.len, List.length_append, List.length_replicate]
    omega
  -- a slot of the merged environment that may be changed
  have mt : ∀ (i : Nat) (s : Slot), (merge env e1)[i]? = some (some s) → s.wr = true → (∃ d, env[i]? = some (some (.mtb d))) ∧ e1[i]? = some (some s) ∧ (∀ a, (vs.map some)[i]? = some (some (.ref a)) ↔ σ'[i]? = some (some (.ref a))) := fun i s e w => by
    rw [merge_get] at e
    split at e
    · rename_i hc
      obtain ⟨d, hd⟩ := isMtb_iff.mp hc.1
      obtain ⟨_, hs⟩ := S.muts i d (app_get hd)
      exact ⟨⟨d, hd⟩, e, fun a => by rw [hs]; exact st_get.symm⟩
    · rename_i hc
      cases s with
      | val d => cases w
      | own d => exact absurd e (no i d)
      | mtb d =>
        have hi : i < env.length := (List.getElem?_eq_some_iff.mp e).1
        exact absurd ⟨isMtb_iff.mpr ⟨d, e⟩, by omega⟩ hc
  have ma : ∀ a, MutAt (merge env e1) (vs.map some) a → MutAt e1 σ' a ∧ MutAt env (vs.map some) a := fun a ⟨i, s, e, w, h⟩ => by
    obtain ⟨⟨d, h1⟩, h2, h3⟩ := mt i s e w
    exact ⟨⟨i, s, h2, w, (h3 a).mp h⟩, ⟨i, _, h1, rfl, h⟩⟩
  have hp : ∀ a, Prot q1 (merge env e1) (vs.map some) a → Prot q1 e1 σ' a := fun a z => z.elim .inl fun m => .inr (ma a m).1
  refine ⟨⟨by rw [merge_len]; exact R.len, fun i d e => ?_, fun i s e w => ?_, fun i j s t a f1 w1 f2 w2 h1 h2 => ?_, R1.qin⟩, ⟨fun b o e n => S.keep b o e fun m => n (mutAt_app.mp m), S.dom, fun b m => (ma b m).2, fun i s e => ?_, fun i d e => ?_, merge_len _ _⟩, hp⟩
  · have h0 : env[i]? = some (some (.val d)) := by
      rw [merge_get] at e
      split at e
      · rename_i hc
        obtain ⟨d', hd⟩ := isMtb_iff.mp hc.1
        obtain ⟨⟨d2, h2⟩, _⟩ := S.muts i d' (app_get hd)
        rw [h2] at e
        cases e
      · exact e
    obtain ⟨v, h1, h2⟩ := R.val i d h0
    refine ⟨v, h1, h2.all.mono (fun a z => ?_) fun b o e n => S.keep b o e fun m => n (.inl (.inr (mutAt_app.mp m)))⟩
    rcases z with z | m
    · exact (hq a z).elim (fun z => .inl (.inl z)) .inr
    · exact .inl (.inr (ma a m).2)
  · obtain ⟨_, h2, h3⟩ := mt i s e w
    obtain ⟨a, g1, g2, g3⟩ := R1.wr i s h2 w
    exact ⟨a, (h3 a).mpr g1, g2, g3.mono hp (fun _ _ e _ => e) (fun _ e => e)⟩
  · obtain ⟨_, g1, g2⟩ := mt i s f1 w1
    obtain ⟨_, g3, g4⟩ := mt j t f2 w2
    exact R1.inj i j s t a g1 w1 g3 w2 ((g2 a).mp h1) ((g4 a).mp h2)
  · rw [merge_get]
    split
    · rename_i hc
      obtain ⟨d', hd⟩ := isMtb_iff.mp hc.1
      obtain ⟨⟨d2, h2⟩, _⟩ := S.muts i d' (app_get hd)
      exact ⟨_, h2⟩
    · exact ⟨s, e⟩
  · rw [merge_get, if_pos ⟨isMtb_iff.mpr ⟨d, e⟩, by have := (List.getElem?_eq_some_iff.mp e).1; omega⟩]
    obtain ⟨h, _⟩ := S.muts i d (app_get e)
    exact h
/-- what a def's body hands back -/
theorem fin_out {N : List Str} (no : noOwn env) (R : Rel mg q env (vs.map some) H) (hn : vs.length ≤ N.length) {r r' : DL.R} {v : V} (R1 : Rel mg q e1 σ' H') (S : Step (env ++ List.replicate (N.length - env.length) none) (L2.start N vs) H e1 σ' H')
    (h : IsR mg q e1 σ' H H' r v) (e : out e1 r = some r') : IsR mg q (merge env e1) (vs.map some) H H' r' v := by
  obtain ⟨R2, S2, hp⟩ := fin_def no R hn R1 (fun a z => .inl z) S
  cases r with
  | val d =>
    cases e
    exact IsD.mono hp (fun _ _ e _ => e) h
  | new d =>
    cases e
    obtain ⟨a, rfl, n, nq, t, R3⟩ := h
    obtain ⟨R4, _, _⟩ := fin_def no R hn R3 (fun b z => z.elim .inl fun e => .inr (by rw [e]; exact n)) S
    exact ⟨a, rfl, n, nq, t.mono (fun b z => z.elim (fun z => .inl (hp b z)) .inr) (fun _ _ e _ => e) (fun _ e => e), R4⟩
  | bor i =>
    obtain ⟨ev, s, hs⟩ := h
    simp only [out, hs] at e
    cases s with
    | mtb d => cases e
    | val d =>
      cases e
      obtain ⟨v', h1, h2⟩ := R1.val i d hs
      rw [ev] at h1
      cases h1
      exact IsD.mono hp (fun _ _ e _ => e) h2
    | own d =>
      cases e
      obtain ⟨a, h1, nq, t⟩ := R1.wr i _ hs rfl
      rw [ev] at h1
      cases h1
      -- the slot's object: made in this def, and in no other slot
      have na : ∀ (j : Nat) (t' : Slot), (merge env e1)[j]? = some (some t') → t'.wr = true → (vs.map some)[j]? ≠ some (some (V.ref a)) := fun j t' e2 w2 h2 => by
        rw [merge_get] at e2
        split at e2
        · rename_i hc
          obtain ⟨d', hd⟩ := isMtb_iff.mp hc.1
          obtain ⟨⟨d2, g1⟩, g2⟩ := S.muts j d' (app_get hd)
          have g3 : σ'[j]? = some (some (.ref a)) := by rw [g2]; exact st_get.mpr h2
          have ij : i = j := R1.inj i j _ _ a hs rfl e2 w2 ev g3
          subst ij
          rw [hs] at g1
          cases g1
        · rename_i hc
          cases t' with
          | val d' => cases w2
          | own d' => exact no j d' e2
          | mtb d' =>
            have hi : j < env.length := (List.getElem?_eq_some_iff.mp e2).1
            have he : e1.length = N.length := by
              have hl : env.length = vs.length := by simpa using R.len
              rw [S.len, List.length_append, List.length_replicate]
              omega
            have hl : env.length = vs.length := by simpa using R.len
            exact hc ⟨isMtb_iff.mpr ⟨d', e2⟩, by omega⟩
      have n0 : H a = none := by
        rcases S.mono a ⟨i, _, hs, rfl, ev⟩ with m | m
        · obtain ⟨j, t', e2, w2, h2⟩ := mutAt_app.mp m
          exfalso
          cases t' with
          | val d' => cases w2
          | own d' => exact no j d' e2
          | mtb d' =>
            obtain ⟨d2, g1⟩ := S2.muts j d' e2
            exact na j _ g1 rfl h2
        · exact m
      have np : ∀ b, Prot q (merge env e1) (vs.map some) b → b ≠ a := fun b z e => by
        subst e
        rcases z with z | ⟨j, t', e2, w2, h2⟩
        · exact nq z
        · exact na j t' e2 w2 h2
      refine ⟨a, rfl, n0, nq, t.mono (fun b z => ?_) (fun _ _ e _ => e) (fun _ e => e), ?_⟩
      · rcases z with z | z
        · exact hp b z
        · rw [z]
          exact .inr ⟨i, _, hs, rfl, ev⟩
      · -- the parameters' data are apart from it
        refine ⟨R2.len, fun j d' e2 => ?_, fun j t' e2 w2 => ?_, R2.inj, fun b z => ?_⟩
        · have h0 : env[j]? = some (some (.val d')) := by
            rw [merge_get] at e2
            split at e2
            · rename_i hc
              obtain ⟨d3, hd⟩ := isMtb_iff.mp hc.1
              obtain ⟨⟨d2, h2⟩, _⟩ := S.muts j d3 (app_get hd)
              rw [h2] at e2
              cases e2
            · exact e2
          obtain ⟨v', h1, h2⟩ := R.val j d' h0
          refine ⟨v', h1, h2.all.mono (fun b z => ?_) fun b o e n => S.keep b o e fun m => n (.inl (.inr (mutAt_app.mp m)))⟩
          rcases z with (z | z) | z
          · exact .inl (.inl z)
          · rw [z]
            exact .inr n0
          · exact .inl (.inr (by
              obtain ⟨k, t2, f1, f2, f3⟩ := z
              exact S2.mono b ⟨k, t2, f1, f2, f3⟩))
        · obtain ⟨b, g1, g2, g3⟩ := R2.wr j t' e2 w2
          have gg := e2
          rw [merge_get] at gg
          have ge : e1[j]? = some (some t') := by
            split at gg
            · exact gg
            · rename_i hc
              cases t' with
              | val d' => cases w2
              | own d' => exact absurd gg (no j d')
              | mtb d' =>
                have hi : j < env.length := (List.getElem?_eq_some_iff.mp gg).1
                have he : e1.length = N.length := by
                  have hl : env.length = vs.length := by simpa using R.len
                  rw [S.len, List.length_append, List.length_replicate]
                  omega
                have hl : env.length = vs.length := by simpa using R.len
                exact absurd ⟨isMtb_iff.mpr ⟨d', gg⟩, by omega⟩ hc
          obtain ⟨b', k1, k2, k3⟩ := R1.wr j t' ge w2
          have sj : σ'[j]? = some (some (.ref b)) := by
            rw [merge_get] at e2
            split at e2
            · rename_i hc
              obtain ⟨d3, hd⟩ := isMtb_iff.mp hc.1
              obtain ⟨_, g⟩ := S.muts j d3 (app_get hd)
              rw [g]
              exact st_get.mpr g1
            · rename_i hc
              cases t' with
              | val d' => cases w2
              | own d' => exact absurd e2 (no j d')
              | mtb d' =>
                have hi : j < env.length := (List.getElem?_eq_some_iff.mp e2).1
                have he : e1.length = N.length := by
                  have hl : env.length = vs.length := by simpa using R.len
                  rw [S.len, List.length_append, List.length_replicate]
                  omega
                have hl : env.length = vs.length := by simpa using R.len
                exact absurd ⟨isMtb_iff.mpr ⟨d', e2⟩, by omega⟩ hc
          rw [sj] at k1
          cases k1
          refine ⟨b, g1, fun z => z.elim g2 fun e => na j t' e2 w2 (by rw [← e]; exact g1), k3.mono (fun c z => ?_) (fun _ _ e _ => e) (fun _ e => e)⟩
          rcases z with (z | z) | z
          · exact .inl z
          · rw [z]
            exact .inr ⟨i, _, hs, rfl, ev⟩
          · exact hp c (.inr z)
        · rcases z with z | z
          · exact R2.qin b z
          · rw [z]
            exact t.at
end
end DL
/-! Defs and calls. -/
namespace DL
open PySem PySem.Spec L2
open PyProof.Rows hiding St
/-- the object that a slot holds is changed, and new ones come (some of which are to be apart) -/
theorem Rel.changeQ {mg : Str → Option Value} {q q1 : Addr → Prop} {env : Env} {σ : L2.St} {H H' : Hp} {i : Nat} {s : Slot} {a : Addr} {d : Dat} (R : Rel mg q env σ H) (e : env[i]? = some (some s)) (w : s.wr = true) (ha : σ[i]? = some (some (.ref a)))
    (keep : ∀ b u, H b = some u → b ≠ a → H' b = some u) (hq : ∀ b, q1 b → q b ∨ H b = none) (hin : ∀ b, q1 b → H' b ≠ none) (h : IsTop mg (Prot q1 env σ) H' d a) : Rel mg q1 (env.set i (some (s.put d))) σ H' := by
  have hi : i < env.length := (List.getElem?_eq_some_iff.mp e).1
  have mm : ∀ b, MutAt (env.set i (some (s.put d))) σ b → MutAt env σ b := by
    rintro b ⟨j, s', e1, w', e2⟩
    by_cases hj : i = j
    · subst hj
      exact ⟨i, s, e, w, e2⟩
    · rw [List.getElem?_set_ne hj] at e1
      exact ⟨j, s', e1, w', e2⟩
  have hp : ∀ b, Prot q1 (env.set i (some (s.put d))) σ b → Prot q1 env σ b := fun b z => z.elim .inl (fun m => .inr (mm b m))
  have hp2 : ∀ b, Prot q1 (env.set i (some (s.put d))) σ b → Prot q env σ b ∨ H b = none := fun b z => z.elim (fun z => (hq b z).elim (fun z => .inl (.inl z)) .inr) (fun m => .inl (.inr (mm b m)))
  have pa : Prot q env σ a := .inr ⟨i, s, e, w, ha⟩
  have kp : ∀ b u, H b = some u → ¬ (Prot q env σ b ∨ H b = none) → H' b = some u := fun b u e n => keep b u e fun z => n (.inl (by rw [z]; exact pa))
  obtain ⟨a0, ha0, nqa, ta⟩ := R.wr i s e w
  rw [ha] at ha0
  cases ha0
  refine ⟨by simpa using R.len, fun j d' e1 => ?_, fun j s' e1 w1 => ?_, fun j k s' t a' e1 w1 e2 w2 h1 h2 => ?_, hin⟩
  · by_cases hj : i = j
    · subst hj
      rw [List.getElem?_set_self hi] at e1
      have e2 : s.put d = .val d' := Option.some.inj (Option.some.inj e1)
      have := Slot.put_wr s d
      rw [e2, w] at this
      cases this
    · rw [List.getElem?_set_ne hj] at e1
      obtain ⟨u, h1, h2⟩ := R.val j d' e1
      exact ⟨u, h1, h2.all.mono hp2 kp⟩
  · by_cases hj : i = j
    · subst hj
      rw [List.getElem?_set_self hi] at e1
      have e2 : s.put d = s' := Option.some.inj (Option.some.inj e1)
      rw [← e2, Slot.put_dat]
      exact ⟨a, ha, fun z => (hq a z).elim nqa ta.at, h.mono hp (fun _ _ e _ => e) (fun _ e => e)⟩
    · rw [List.getElem?_set_ne hj] at e1
      obtain ⟨b, h1, h2, h3⟩ := R.wr j s' e1 w1
      have nb : b ≠ a := by
        rintro rfl
        exact hj (R.inj i j s s' b e w e1 w1 ha h1)
      exact ⟨b, h1, fun z => (hq b z).elim h2 h3.at, h3.all.mono hp2 kp (fun u e => keep b u e nb)⟩
  · have g1 : ∃ t1, env[j]? = some (some t1) ∧ t1.wr = true := by
      by_cases hj : i = j
      · subst hj
        exact ⟨s, e, w⟩
      · rw [List.getElem?_set_ne hj] at e1
        exact ⟨s', e1, w1⟩
    have g2 : ∃ t1, env[k]? = some (some t1) ∧ t1.wr = true := by
      by_cases hj : i = k
      · subst hj
        exact ⟨s, e, w⟩
      · rw [List.getElem?_set_ne hj] at e2
        exact ⟨t, e2, w2⟩
    obtain ⟨t1, f1, f2⟩ := g1
    obtain ⟨t2, f3, f4⟩ := g2
    exact R.inj j k t1 t2 a' f1 f2 f3 f4 h1 h2
theorem StepE.change {env : Env} {σ : L2.St} {H H' : Hp} {i : Nat} {s : Slot} {a : Addr} {d : Dat} (e : env[i]? = some (some s)) (w : s.wr = true) (ha : σ[i]? = some (some (.ref a)))
    (keep : ∀ b u, H b = some u → b ≠ a → H' b = some u) (dom : ∀ b, H b ≠ none → H' b ≠ none) : StepE env σ H (env.set i (some (s.put d))) H' := by
  have hi : i < env.length := (List.getElem?_eq_some_iff.mp e).1
  have mm : ∀ b, MutAt (env.set i (some (s.put d))) σ b → MutAt env σ b := by
    rintro b ⟨j, s', e1, w', e2⟩
    by_cases hj : i = j
    · subst hj
      exact ⟨i, s, e, w, e2⟩
    · rw [List.getElem?_set_ne hj] at e1
      exact ⟨j, s', e1, w', e2⟩
  refine ⟨fun b u e1 n => keep b u e1 fun z => n (by rw [z]; exact ⟨i, s, e, w, ha⟩), dom, mm, fun j s' e1 => ?_, fun j d' e1 => ?_, by simp⟩
  · by_cases hj : i = j
    · subst hj
      exact ⟨_, List.getElem?_set_self hi⟩
    · rw [List.getElem?_set_ne hj]
      exact ⟨s', e1⟩
  · by_cases hj : i = j
    · subst hj
      rw [e] at e1
      cases e1
      exact ⟨d, List.getElem?_set_self hi⟩
    · rw [List.getElem?_set_ne hj]
      exact ⟨d', e1⟩
theorem Rel.changeG {mg : Str → Option Value} {q : Addr → Prop} {env : Env} {σ : L2.St} {H H' : Hp} {i : Nat} {s : Slot} {a : Addr} {d : Dat} (R : Rel mg q env σ H) (e : env[i]? = some (some s)) (w : s.wr = true) (ha : σ[i]? = some (some (.ref a)))
    (keep : ∀ b u, H b = some u → b ≠ a → H' b = some u) (dom : ∀ b, H b ≠ none → H' b ≠ none) (h : IsTop mg (Prot q env σ) H' d a) : Rel mg q (env.set i (some (s.put d))) σ H' ∧ StepE env σ H (env.set i (some (s.put d))) H' :=
  ⟨R.changeQ e w ha keep (fun b z => .inl z) (fun b z => dom b (R.qin b z)) h, .change e w ha keep dom⟩
def noOwnB (env : Env) : Bool := env.all fun s => match s with
  | some (.own _) => false
  | _ => true
theorem noOwn_of {env : Env} (h : noOwnB env = true) : noOwn env := fun i d e => by
  have := List.all_eq_true.mp h _ (List.mem_of_getElem? e)
  cases this
/-- a def with np parameters and n slots -/
def runF (n np : Nat) (body : EM O) : EM R := fun env => if noOwnB env = true ∧ env.length = np then runB n body env else none
theorem fn_ok {P : Program} {w : World} {K : PySem.W.Frag} {mg : Str → Option Value} {base : Heap} {x qual : Str} {params : Arguments} {body : List Stmt} {scope : Scope} {dvs : List V} {kws : List (Str × V)} {f : Addr} {fd : FuncData} {N ps : List Str} {k : Nat} {fb : EM O}
    (F : FunD K x qual params body scope dvs kws f fd) (S : FnScope N ps scope)
    (hb : ∀ (cdv : Value) (A : Around) (outer : List PySem.Env) (s : Shared) (H : Hp) (E : XK), Room k (A.deeper (envOfC qual scope s.heap.objs.size f cdv)) → PSs (cxOf CX0 P w K mg base N qual scope f cdv A outer s H E) body (TDS mg fb)) :
    FnOk P w K mg base CX0 (k + 1) f fd ps (spF mg ps.length (runF N.length ps.length fb)) := by
  refine F.ok S (fun vs H Q E h => h.1) (fun cdv A outer s H vs Q E hr h => ?_)
  obtain ⟨hl, q, env, r, env', R, ev, kk⟩ := h
  refine ⟨_, hb cdv A outer s H E hr, ?_⟩
  unfold runF at ev
  split at ev
  · rename_i hc
    have no := noOwn_of hc.1
    have hpl : ps.length ≤ N.length :=
        by have := congrArg List.length S.pre; rw [List.length_take] at this; omega
    have hvn : vs.length ≤ N.length := by rw [hl]; exact hpl
    unfold runB at ev
    split at ev
    · rename_i r0 e1 he
      cases ho : out e1 r0 with
      | none => rw [ho] at ev; cases ev
      | some r1 =>
        rw [ho] at ev
        cases ev
        refine ⟨q, _, .rt r0, e1, R.pad hvn, he, fun v σ' H' R1 S1 i1 => ?_⟩
        obtain ⟨R2, S2, _⟩ := fin_def no R hvn R1 (fun a z => .inl z) S1
        exact kk v H' R2 S2 (fin_out no R hvn R1 S1 i1 ho)
    · rename_i e1 he
      cases ev
      refine ⟨q, _, .nx, e1, R.pad hvn, he, fun σ' H' R1 S1 => ?_⟩
      obtain ⟨R2, S2, _⟩ := fin_def no R hvn R1 (fun a z => .inl z) S1
      exact kk .non H' R2 S2 .non
    · cases ev
  · cases ev
/-! ### calls -/
/-- all arguments data that nothing changes -/
def eCallV (F : EM R) (fs : EM (List R)) : EM R := eBind fs fun rs => eBind (eForces rs) fun ds => fun env => match F (ds.map fun d => some (.val d)) with
  | some (.val d, _) => some (.val d, env)
  | some (.new d, _) => some (.new d, env)
  | _ => none
/-- the first argument is one that the def may change -/
def eCallM (F : EM R) (fs : EM (List R)) : EM R := eBind fs fun rs => match rs with
  | .bor j :: rs => eBind (eForces rs) fun ds => fun env => match env[j]? with
    | some (some s) => if s.wr = true then
        match F (some (.mtb s.dat) :: ds.map fun d => some (.val d)) with
        | some (.val d, some (.mtb d') :: _) => some (.val d, env.set j (some (s.put d')))
        | some (.new d, some (.mtb d') :: _) => some (.new d, env.set j (some (s.put d')))
        | _ => none
      else none
    | _ => none
  | [.new d0] => fun env => match F [some (.mtb d0)] with
    | some (.val d, _) => some (.val d, env)
    | some (.new d, _) => some (.new d, env)
    | _ => none
  | _ => fun _ => none
section
variable {mg : Str → Option Value} {q : Addr → Prop} {env env' : Env} {σ : L2.St} {H0 H H' : Hp}
theorem vals_env {ds : List Dat} {vs : List V} (h : IsDs mg (Prot q env σ) H ds vs) (i : Nat) (s : Slot) (e : (ds.map fun d => some (Slot.val d))[i]? = some (some s)) : ∃ d v, s = .val d ∧ (vs.map some)[i]? = some (some v) ∧ IsD mg (Prot q env σ) H d v := by
  rw [List.getElem?_map] at e
  cases hd : ds[i]? with
  | none => rw [hd] at e; cases e
  | some d =>
    rw [hd] at e
    cases e
    obtain ⟨v, h1, h2⟩ := h.get hd
    exact ⟨d, v, rfl, by rw [List.getElem?_map, h1]; rfl, h2⟩
theorem no_mut {ds : List Dat} {vs : List V} (a : Addr) : ¬ MutAt (ds.map fun d => some (Slot.val d)) (vs.map some) a := by
  rintro ⟨i, s, e, w, _⟩
  rw [List.getElem?_map] at e
  cases hd : ds[i]? with
  | none => rw [hd] at e; cases e
  | some d =>
    rw [hd] at e
    cases e
    cases w
/-- the parameters at a call -/
theorem Rel.params {ds : List Dat} {vs : List V} (R : Rel mg q env σ H) (h : IsDs mg (Prot q env σ) H ds vs) : Rel mg (Prot q env σ) (ds.map fun d => some (.val d)) (vs.map some) H := by
  refine ⟨by simp [h.length], fun i d e => ?_, fun i s e w => ?_, fun i j s t a e w => ?_, fun a z => R.prot_in z⟩
  · obtain ⟨d', v, h1, h2, h3⟩ := vals_env h i _ e
    cases h1
    exact ⟨v, h2, h3.mono (fun a z => z.elim id fun m => absurd m (no_mut a)) fun _ _ e _ => e⟩
  · obtain ⟨d', v, h1, _⟩ := vals_env h i _ e
    subst h1
    cases w
  · obtain ⟨d', v, h1, _⟩ := vals_env h i _ e
    subst h1
    cases w
theorem call_val {F : EM R} {n : Nat} {vs : List V} {ds : List Dat} {r : DL.R} {env2 : Env} {Q : VK} {E : XK} (hl : vs.length = n) (R : Rel mg q env σ H) (h : IsDs mg (Prot q env σ) H ds vs) (e : F (ds.map fun d => some (.val d)) = some (r, env2)) (hr : ∀ i, r ≠ .bor i)
    (k : ∀ v H', Rel mg q env σ H' → StepE env σ H env H' → IsR mg q env σ H H' r v → Q v H') : spF mg n F vs H Q E := by
  refine ⟨hl, Prot q env σ, _, r, env2, R.params h, e, fun v H' R1 S1 i1 => ?_⟩
  have hx : ∀ b o, H b = some o → H' b = some o := fun b o e => S1.keep b o e (no_mut b)
  refine k v H' (R.ext hx) (.ext hx) ?_
  have np : ∀ b, MutAt env2 (vs.map some) b → False := fun b m => no_mut b (S1.mono b m)
  cases r with
  | val d => exact IsD.mono (fun a z => .inl z) (fun _ _ e _ => e) i1
  | new d =>
    obtain ⟨a, rfl, n0, nq, t, R2⟩ := i1
    exact ⟨a, rfl, n0, fun z => nq (.inl z), t.mono (fun b z => z.elim (fun z => .inl (.inl z)) .inr) (fun _ _ e _ => e) (fun _ e => e), R.guard n0 hx t.at⟩
  | bor i => exact absurd rfl (hr i)
end
section
variable {X : Cx} {x : Str} {p pos : Pos} {e : Expr} {es : List Expr} {fs : EM (List R)} {F : EM R} {k n : Nat} {f : Addr} {fd : FuncData} {ps : List Str} {E : XK}
theorem red_callV (σ : L2.St) (H : Hp) (Q : VK) (hn : ∀ env, F env ≠ none → env.length = n) (h : TD X.mg (eCallV F fs) σ H Q) : tCall (spF X.mg n F) [] E (TDA X.mg fs) σ H Q := by
  obtain ⟨q, env, r, env', R, ev, kk⟩ := h
  obtain ⟨rs, e1, h1, ev1⟩ := eBind_some ev
  obtain ⟨ds, e2, h2, ev2⟩ := eBind_some ev1
  refine ⟨q, env, rs, e1, R, h1, fun vs H1 R1 S1 i1 => ?_⟩
  obtain ⟨R2, S2, i2⟩ := i1.forces R1 h2
  have hl : vs.length = n ∨ F (ds.map fun d => some (.val d)) = none := by
    by_cases hf : F (ds.map fun d => some (.val d)) = none
    · exact .inr hf
    · refine .inl ?_
      have := hn _ hf
      simpa [i2.length] using this
  show spF X.mg n F (vs ++ []) H1 Q E
  rw [List.append_nil]
  split at ev2
  · rename_i d e3 hf
    cases ev2
    exact call_val (hl.elim id fun z => by rw [hf] at z; cases z) R2 i2 hf (fun i z => by cases z) fun v H' R3 S3 i3 => kk v H' R3 ((S1.trans S2).trans S3) (i3.back (S1.trans S2).dom)
  · rename_i d e3 hf
    cases ev2
    exact call_val (hl.elim id fun z => by rw [hf] at z; cases z) R2 i2 hf (fun i z => by cases z) fun v H' R3 S3 i3 => kk v H' R3 ((S1.trans S2).trans S3) (i3.back (S1.trans S2).dom)
  · cases ev2
theorem red_callM (σ : L2.St) (H : Hp) (Q : VK) (hn : ∀ env, F env ≠ none → env.length = n) (h : TD X.mg (eCallM F fs) σ H Q) : tCall (spF X.mg n F) [] E (TDA X.mg fs) σ H Q := by
  obtain ⟨q, env, r, env', R, ev, kk⟩ := h
  obtain ⟨rs, e1, h1, ev1⟩ := eBind_some ev
  refine ⟨q, env, rs, e1, R, h1, fun vs H1 R1 S1 i1 => ?_⟩
  show spF X.mg n F (vs ++ []) H1 Q E
  rw [List.append_nil]
  split at ev1
  · -- the first argument is what a slot holds
    rename_i j rs'
    obtain ⟨ds, e2, h2, ev2⟩ := eBind_some ev1
    cases i1 with
    | cons ib it =>
      rename_i v0 vs'
      obtain ⟨R2, S2, i2⟩ := IsRs.forces R1 it h2
      obtain ⟨hv0, s0, hs0⟩ := ib
      split at ev2
      · rename_i s hs
        split at ev2
        · rename_i hw
          obtain ⟨a, ha, nq, t⟩ := R2.wr j s hs hw
          rw [hv0] at ha
          cases ha
          have ap : Prot q e2 σ a := .inr ⟨j, s, hs, hw, hv0⟩
          have hlen := i2.length
          -- the callee's parameters
          have RP : Rel X.mg (fun b => Prot q e2 σ b ∧ b ≠ a) (some (.mtb s.dat) :: ds.map fun d => some (.val d)) ((V.ref a :: vs').map some) H1 := by
            have pp : ∀ b, Prot (fun b => Prot q e2 σ b ∧ b ≠ a) (some (.mtb s.dat) :: ds.map fun d => some (.val d)) ((V.ref a :: vs').map some) b → Prot q e2 σ b := by
              rintro b (z | ⟨i, s', f1, f2, f3⟩)
              · exact z.1
              · cases i with
                | zero =>
                  simp at f3
                  rw [← f3]
                  exact ap
                | succ i =>
                  exact absurd ⟨i, s', by rw [List.getElem?_cons_succ] at f1; exact f1, f2, by simpa using f3⟩ (no_mut (ds := ds) (vs := vs') b)
            refine ⟨by simp [hlen], fun i d f => ?_, fun i s' f w => ?_, fun i i' s1 s2 b f1 w1 f2 w2 g1 g2 => ?_, fun b z => R2.prot_in z.1⟩
            · cases i with
              | zero => simp at f
              | succ i =>
                obtain ⟨d', v, g1, g2, g3⟩ := vals_env i2 i _ (by rw [List.getElem?_cons_succ] at f; exact f)
                cases g1
                exact ⟨v, by simpa using g2, g3.mono pp fun _ _ e _ => e⟩
            · cases i with
              | zero =>
                simp at f
                subst f
                exact ⟨a, by simp, fun z => z.2 rfl, t.mono pp (fun _ _ e _ => e) (fun _ e => e)⟩
              | succ i =>
                obtain ⟨d', v, g1, _⟩ := vals_env i2 i _ (by rw [List.getElem?_cons_succ] at f; exact f)
                subst g1
                cases w
            · cases i with
              | succ i =>
                obtain ⟨d', v, g1, _⟩ := vals_env i2 i _ (by rw [List.getElem?_cons_succ] at f1; exact f1)
                subst g1
                cases w1
              | zero =>
                cases i' with
                | zero => rfl
                | succ i' =>
                  obtain ⟨d', v, g1, _⟩ := vals_env i2 i' _ (by rw [List.getElem?_cons_succ] at f2; exact f2)
                  subst g1
                  cases w2
          have mut_a : ∀ {env3 : Env} {H' : Hp} {b : Addr}, StepE (some (.mtb s.dat) :: ds.map fun d => some (.val d)) ((V.ref a :: vs').map some) H1 env3 H' → MutAt env3 ((V.ref a :: vs').map some) b → b = a := fun {env3 H' b} S3 m => by
            obtain ⟨i, s', f1, f2, f3⟩ := S3.mono b m
            cases i with
            | zero => simp at f3; exact f3.symm
            | succ i => exact absurd ⟨i, s', by rw [List.getElem?_cons_succ] at f1; exact f1, f2, by simpa using f3⟩ (no_mut (ds := ds) (vs := vs') b)
          have fin : ∀ (r' : DL.R) (d' : Dat) (rest : Env), F (some (.mtb s.dat) :: ds.map fun d => some (.val d)) = some (r', some (.mtb d') :: rest) → (∀ i, r' ≠ .bor i) → r = r' → env' = e2.set j (some (s.put d')) → spF X.mg n F (V.ref a :: vs') H1 Q E := by
            intro r' d' rest hf nb er ee
            subst er ee
            have hl : (V.ref a :: vs').length = n := by
              have := hn _ (by rw [hf]; simp)
              simpa [hlen] using this
            refine ⟨hl, _, _, r, _, RP, hf, fun v H' R3 S3 i3 => ?_⟩
            obtain ⟨a', g1, g2, g3⟩ := R3.wr 0 (.mtb d') rfl rfl
            simp at g1
            subst g1
            have pe : ∀ b, Prot q e2 σ b ↔ Prot (fun b => Prot q e2 σ b ∧ b ≠ a) (some (.mtb d') :: rest) ((V.ref a :: vs').map some) b := fun b => by
              constructor
              · intro z
                by_cases hb : b = a
                · rw [hb]
                  exact .inr ⟨0, _, rfl, rfl, by simp⟩
                · exact .inl ⟨z, hb⟩
              · rintro (z | m)
                · exact z.1
                · rw [mut_a S3 m]
                  exact ap
            have kp : ∀ b u, H1 b = some u → b ≠ a → H' b = some u := fun b u e n => S3.keep b u e fun m => n (by
              obtain ⟨i, s', f1, f2, f3⟩ := m
              cases i with
              | zero => simp at f3; exact f3.symm
              | succ i => exact absurd ⟨i, s', by rw [List.getElem?_cons_succ] at f1; exact f1, f2, by simpa using f3⟩ (no_mut (ds := ds) (vs := vs') b))
            obtain ⟨R4, S4⟩ := R2.changeG hs hw hv0 kp S3.dom (d := d') (g3.mono (fun b z => (pe b).mp z) (fun _ _ e _ => e) (fun _ e => e))
            have pq : ∀ b, Prot q (e2.set j (some (s.put d'))) σ b → Prot q e2 σ b := fun b z => z.elim .inl fun m => .inr (S4.mono b m)
            refine kk v H' R4 ((S1.trans S2).trans S4) (IsR.back (H0 := H1) ?_ (S1.trans S2).dom)
            cases r with
            | bor i => exact absurd rfl (nb i)
            | val d => exact IsD.mono (fun b z => (pe b).mp (pq b z)) (fun _ _ e _ => e) i3
            | new d =>
              obtain ⟨c, rfl, n0, nc, t3, R5⟩ := i3
              have ca : c ≠ a := fun z => by
                rw [z] at n0
                exact absurd n0 (R2.prot_in ap)
              have nq2 : ¬ Prot q e2 σ c := fun z => nc ⟨z, ca⟩
              refine ⟨c, rfl, n0, fun z => nq2 (.inl z), t3.mono (fun b z => z.elim (fun z => .inl ((pe b).mp (pq b z))) .inr) (fun _ _ e _ => e) (fun _ e => e), ?_⟩
              -- the caller's data are apart from it
              obtain ⟨b', k1, k2, k3⟩ := R5.wr 0 (.mtb d') rfl rfl
              simp at k1
              subst k1
              refine R2.changeQ hs hw hv0 kp (fun b z => z.elim .inl fun e => .inr (by rw [e]; exact n0)) (fun b z => z.elim (fun z => S3.dom b (R2.qin b z)) fun e => by rw [e]; exact t3.at) (d := d') (k3.mono (fun b z => ?_) (fun _ _ e _ => e) (fun _ e => e))
              rcases z with (z | z) | z
              · by_cases hb : b = a
                · rw [hb]; exact .inr ⟨0, _, rfl, rfl, by simp⟩
                · exact .inl (.inl ⟨.inl z, hb⟩)
              · exact .inl (.inr z)
              · by_cases hb : b = a
                · rw [hb]; exact .inr ⟨0, _, rfl, rfl, by simp⟩
                · exact .inl (.inl ⟨.inr z, hb⟩)
          split at ev2
          · rename_i d d' rest hf
            cases ev2
            exact fin _ d' rest hf (fun i z => by cases z) rfl rfl
          · rename_i d d' rest hf
            cases ev2
            exact fin _ d' rest hf (fun i z => by cases z) rfl rfl
          · cases ev2
        · cases ev2
      · cases ev2
  · -- a new object
    rename_i d0
    cases i1 with
    | cons ib it =>
      rename_i v0 vs'
      cases it
      obtain ⟨a, rfl, n0, nq, t, R2⟩ := ib
      have nm : ¬ MutAt e1 σ a := fun ⟨i, s, f1, f2, f3⟩ => by
        obtain ⟨b, g1, g2, _⟩ := R2.wr i s f1 f2
        rw [f3] at g1
        cases g1
        exact g2 (.inr rfl)
      have RP : Rel X.mg (Prot q e1 σ) [some (.mtb d0)] [some (V.ref a)] H1 := by
        refine ⟨rfl, fun i d f => ?_, fun i s' f w => ?_, fun i i' s1 s2 b f1 w1 f2 w2 g1 g2 => ?_, fun b z => R1.prot_in z⟩
        · cases i with
          | zero => simp at f
          | succ i => simp at f
        · cases i with
          | zero =>
            simp at f
            subst f
            refine ⟨a, rfl, fun z => z.elim nq nm, t.mono (fun b z => z.elim .inl fun ⟨i, s', f1, f2, f3⟩ => ?_) (fun _ _ e _ => e) (fun _ e => e)⟩
            cases i with
            | zero => simp at f3; exact .inr f3.symm
            | succ i => simp at f1
          | succ i => simp at f
        · cases i with
          | succ i => simp at f1
          | zero =>
            cases i' with
            | zero => rfl
            | succ i' => simp at f2
      have one : ∀ {b : Addr}, MutAt [some (.mtb d0)] [some (V.ref a)] b → b = a := fun {b} ⟨i, s', f1, f2, f3⟩ => by
        cases i with
        | zero => simp at f3; exact f3.symm
        | succ i => simp at f1
      have fin : ∀ (r' : DL.R) (env3 : Env), F [some (.mtb d0)] = some (r', env3) → (∀ i, r' ≠ .bor i) → r = r' → env' = e1 → spF X.mg n F [V.ref a] H1 Q E := by
        intro r' env3 hf nb er ee
        subst er ee
        have hl : [V.ref a].length = n := by
          have := hn _ (by rw [hf]; simp)
          simpa using this
        refine ⟨hl, _, _, r, _, RP, hf, fun v H' R3 S3 i3 => ?_⟩
        have kp : ∀ b u, H1 b = some u → b ≠ a → H' b = some u := fun b u e n => S3.keep b u e fun m => n (one m)
        have pq : ∀ b, Prot q env' σ b → ¬ b = a := fun b z e => by
          rw [e] at z
          exact z.elim nq nm
        have R4 : Rel X.mg q env' σ H' := by
          have R2' := R2.less (q' := q) fun b z => .inl z
          have hp : ∀ b, Prot q env' σ b → Prot (fun b => q b ∨ b = a) env' σ b := fun b z => z.elim (fun z => .inl (.inl z)) .inr
          refine ⟨R2.len, fun i d e => ?_, fun i s e w => ?_, R2.inj, fun b z => S3.dom b (R1.qin b z)⟩
          · obtain ⟨v, g1, g2⟩ := R2.val i d e
            exact ⟨v, g1, g2.mono hp fun b u e n => kp b u e fun z => n (.inl (.inr z))⟩
          · obtain ⟨b, g1, g2, g3⟩ := R2.wr i s e w
            exact ⟨b, g1, fun z => g2 (.inl z), g3.mono hp (fun b u e n => kp b u e fun z => n (.inl (.inr z))) fun u e => kp b u e fun z => g2 (.inr z)⟩
        have S4 : StepE env σ H env' H' := by
          refine ⟨fun b u e m => kp b u (S1.keep b u e m) fun z => ?_, fun b z => S3.dom b (S1.dom b z), S1.mono, S1.there, S1.muts, S1.len⟩
          rw [z, n0] at e
          cases e
        refine kk v H' R4 S4 ?_
        cases r with
        | bor i => exact absurd rfl (nb i)
        | val d => exact IsD.mono (fun b z => .inl z) (fun _ _ e _ => e) i3
        | new d =>
          obtain ⟨c, rfl, m0, nc, t3, R5⟩ := i3
          have n0' : H c = none := by
            cases e : H c with
            | none => rfl
            | some u => exact absurd m0 (S1.dom c (by rw [e]; simp))
          refine ⟨c, rfl, n0', fun z => nc (.inl z), t3.mono (fun b z => z.elim (fun z => .inl (.inl z)) .inr) (fun _ _ e _ => e) (fun _ e => e), ?_⟩
          have hp : ∀ b, Prot (fun b => q b ∨ b = c) env' σ b → Prot (fun b => q b ∨ b = a) env' σ b ∨ H1 b = none := fun b z => z.elim (fun z => z.elim (fun z => .inl (.inl (.inl z))) fun e => .inr (by rw [e]; exact m0)) fun m => .inl (.inr m)
          refine ⟨R2.len, fun i d e => ?_, fun i s e w => ?_, R2.inj, fun b z => z.elim (fun z => S3.dom b (R1.qin b z)) fun e => by rw [e]; exact t3.at⟩
          · obtain ⟨v, g1, g2⟩ := R2.val i d e
            exact ⟨v, g1, g2.all.mono hp fun b u e n => kp b u e fun z => n (.inl (.inl (.inr z)))⟩
          · obtain ⟨b, g1, g2, g3⟩ := R2.wr i s e w
            exact ⟨b, g1, fun z => z.elim (fun z => g2 (.inl z)) fun e => g3.at (by rw [e]; exact m0), g3.all.mono hp (fun b u e n => kp b u e fun z => n (.inl (.inl (.inr z)))) fun u e => kp b u e fun z => g2 (.inr z)⟩
      split at ev1
      · rename_i d env3 hf
        cases ev1
        exact fin _ env3 hf (fun i z => by cases z) rfl rfl
      · rename_i d env3 hf
        cases ev1
        exact fin _ env3 hf (fun i z => by cases z) rfl rfl
      · cases ev1
  · cases ev1
theorem d_callV (G : FnOk X.prog X.w X.K X.mg X.base CX0 k f fd ps (spF X.mg n F)) (hr : Room k X.A) (hg : Gl X x) (hm : X.mg x = some (.ref f)) (hk : PySem.W.keepIn X.K (.ref f) = true) (hb : Binds X.K fd ps []) (hn : ∀ env, F env ≠ none → env.length = n)
    (ha : PA X (e :: es) (TDA X.mg fs)) (hdb : (x == ("__debug__" : Str)) = false) (hs : notStar e = true) (hpl : (backTo pos (starEach es X.env)).any (·.1) = false) : PE X (.Call (.Name x p) (e :: es) [] pos) (TD X.mg (eCallV F fs)) :=
  PE.of (pe_call G hr hg hm hk hb .nil (E := E0) pass0 ha hdb (star_no hs) hpl) fun σ H Q h => red_callV σ H Q hn h
theorem d_callM (G : FnOk X.prog X.w X.K X.mg X.base CX0 k f fd ps (spF X.mg n F)) (hr : Room k X.A) (hg : Gl X x) (hm : X.mg x = some (.ref f)) (hk : PySem.W.keepIn X.K (.ref f) = true) (hb : Binds X.K fd ps []) (hn : ∀ env, F env ≠ none → env.length = n)
    (ha : PA X (e :: es) (TDA X.mg fs)) (hdb : (x == ("__debug__" : Str)) = false) (hs : notStar e = true) (hpl : (backTo pos (starEach es X.env)).any (·.1) = false) : PE X (.Call (.Name x p) (e :: es) [] pos) (TD X.mg (eCallM F fs)) :=
  PE.of (pe_call G hr hg hm hk hb .nil (E := E0) pass0 ha hdb (star_no hs) hpl) fun σ H Q h => red_callM σ H Q hn h
end
end DL
/-! Targets, iterators, for, comprehensions. -/
namespace DL
open PySem PySem.Spec L2
open PyProof.Rows hiding St
section
variable {mg : Str → Option Value} {q : Addr → Prop} {env env' : Env} {σ σ' : L2.St} {H H' : Hp}
theorem Step.prot (s : Step env σ H env' σ' H') {a : Addr} (z : Prot q env' σ' a) : Prot q env σ a ∨ H a = none :=
  z.elim (fun z => .inl (.inl z)) fun m => (s.mono a m).elim (fun m => .inl (.inr m)) .inr
theorem Step.isD {d : Dat} {v : V} (s : Step env σ H env' σ' H') (h : IsD mg (Prot q env σ) H d v) : IsD mg (Prot q env' σ') H' d v :=
  h.all.mono (fun a z => s.prot z) (fun b o e n => s.keep b o e (fun m => n (.inl (.inr m))))
theorem Step.isDs {d : List Dat} {v : List V} (s : Step env σ H env' σ' H') (h : IsDs mg (Prot q env σ) H d v) : IsDs mg (Prot q env' σ') H' d v :=
  h.all.mono (fun a z => s.prot z) (fun b o e n => s.keep b o e (fun m => n (.inl (.inr m))))
end
/-! ### targets -/
structure StepG (gs : List Nat) (env : Env) (σ : L2.St) (env' : Env) (σ' : L2.St) : Prop where
  mono : ∀ b, MutAt env' σ' b → MutAt env σ b
  out : ∀ j, j ∉ gs → env'[j]? = env[j]? ∧ σ'[j]? = σ[j]?
  nm : ∀ j, j ∈ gs → ∀ d, env[j]? ≠ some (some (.mtb d))
  len : env'.length = env.length
  slen : σ'.length = σ.length
theorem StepG.to {gs : List Nat} {env env' : Env} {σ σ' : L2.St} {H : Hp} (s : StepG gs env σ env' σ') : Step env σ H env' σ' H where
  keep := fun _ _ e _ => e
  dom := fun _ z => z
  mono := fun b m => .inl (s.mono b m)
  muts := fun i d e => by
    have n : i ∉ gs := fun z => s.nm i z d e
    exact ⟨⟨d, (s.out i n).1.trans e⟩, (s.out i n).2⟩
  len := s.len
theorem StepG.trans {gs fs : List Nat} {e0 e1 e2 : Env} {σ0 σ1 σ2 : L2.St} (a : StepG gs e0 σ0 e1 σ1) (b : StepG fs e1 σ1 e2 σ2) : StepG (gs ++ fs) e0 σ0 e2 σ2 where
  mono := fun c m => a.mono c (b.mono c m)
  out := fun j n => by
    have n1 : j ∉ gs := fun z => n (List.mem_append_left _ z)
    have n2 : j ∉ fs := fun z => n (List.mem_append_right _ z)
    exact ⟨(b.out j n2).1.trans (a.out j n1).1, (b.out j n2).2.trans (a.out j n1).2⟩
  nm := fun j z d e => by
    by_cases h : j ∈ gs
    · exact a.nm j h d e
    · have h2 : j ∈ fs := (List.mem_append.mp z).resolve_left h
      exact b.nm j h2 d ((a.out j h).1.trans e)
  len := b.len.trans a.len
  slen := b.slen.trans a.slen
section
variable (mg : Str → Option Value)
def TDG (gs : List Nat) (g : Dat → EM Unit) : TG := fun v σ H Q => ∃ q env d env', Rel mg q env σ H ∧ IsD mg (Prot q env σ) H d v ∧ g d env = some ((), env') ∧ ∀ σ', Rel mg q env' σ' H → StepG gs env σ env' σ' → Q σ' H
def TDGs (gs : List Nat) (g : List Dat → EM Unit) : TGs := fun vs σ H Q => ∃ q env ds env', Rel mg q env σ H ∧ IsDs mg (Prot q env σ) H ds vs ∧ g ds env = some ((), env') ∧ ∀ σ', Rel mg q env' σ' H → StepG gs env σ env' σ' → Q σ' H
end
theorem PG.of {X : Cx} {e : Expr} {t t' : TG} (h : PG X e t) (w : ∀ v σ H Q, t' v σ H Q → t v σ H Q) : PG X e t' := ⟨fun pins s σ H v u Q I r x => h.run pins s σ H v u Q I r (w v σ H Q x)⟩
theorem PGs.of {X : Cx} {es : List Expr} {t t' : TGs} (h : PGs X es t) (w : ∀ v σ H Q, t' v σ H Q → t v σ H Q) : PGs X es t' := ⟨fun pins s σ H v u Q I r x => h.run pins s σ H v u Q I r (w v σ H Q x)⟩
/-- a slot put: a datum -/
def gPut (i : Nat) (d : Dat) : EM Unit := fun env => if i < env.length ∧ isMtb env[i]? = false then some ((), env.set i (some (.val d))) else none
def gTupD (n : Nat) (g : List Dat → EM Unit) : Dat → EM Unit
  | .tup ds => if ds.length = n then g ds else fun _ => none
  | _ => fun _ => none
def gNilD : List Dat → EM Unit
  | [] => eRet ()
  | _ => fun _ => none
def gConsD (g : Dat → EM Unit) (h : List Dat → EM Unit) : List Dat → EM Unit
  | d :: ds => eBind (g d) fun _ => h ds
  | _ => fun _ => none
section
variable {X : Cx} {e : Expr} {es : List Expr} {pos : Pos} {gs fs : List Nat} {g : Dat → EM Unit} {h : List Dat → EM Unit}
theorem gPut_ok {mg : Str → Option Value} {q : Addr → Prop} {env env' : Env} {σ : L2.St} {H : Hp} {i : Nat} {d : Dat} {v : V} (R : Rel mg q env σ H) (hd : IsD mg (Prot q env σ) H d v) (e : gPut i d env = some ((), env')) :
    Rel mg q env' (σ.set i (some v)) H ∧ StepG [i] env σ env' (σ.set i (some v)) := by
  unfold gPut at e
  split at e
  · rename_i hc
    cases e
    obtain ⟨R1, _⟩ := R.setVal (i := i) hc.1 (not_mtb hc.2) hd
    refine ⟨R1, ⟨fun b m => ?_, fun j n => ?_, fun j z d' e => ?_, by simp, by simp⟩⟩
    · obtain ⟨j, s, e1, w, e2⟩ := m
      by_cases hj : i = j
      · subst hj
        rw [List.getElem?_set_self hc.1] at e1
        cases e1
        cases w
      · rw [List.getElem?_set_ne hj] at e1 e2
        exact ⟨j, s, e1, w, e2⟩
    · have hj : i ≠ j := fun z => n (by simp [z])
      exact ⟨List.getElem?_set_ne hj, List.getElem?_set_ne hj⟩
    · have hj : j = i := by simpa using z
      subst hj
      exact not_mtb hc.2 d' e
  · cases e
theorem dg_name {i : Nat} {x : Str} (hN : X.N.Nodup) (hi : X.N[i]? = some x) (hx : Loc X.env.scope x) (hf : X.fn x = true ∨ X.env.scope.names.lookup x = some .local) : PG X (.Name x pos) (TDG X.mg [i] (gPut i)) := by
  refine PG.of (pg_name hN hi hx hf) ?_
  rintro v σ H Q ⟨q, env, d, env', R, hd, ev, k⟩
  obtain ⟨R1, S1⟩ := gPut_ok R hd ev
  exact k _ R1 S1
theorem dgs_nil : PGs X [] (TDGs X.mg [] gNilD) := by
  refine PGs.of pgs_nil ?_
  rintro v σ H Q ⟨q, env, d, env', R, hd, ev, k⟩
  cases hd with
  | nil =>
    obtain ⟨_, rfl⟩ := eRet_some (show eRet () env = some ((), env') from ev)
    exact ⟨rfl, k σ R ⟨fun _ m => m, fun _ _ => ⟨rfl, rfl⟩, (fun j z => by cases z), rfl, rfl⟩⟩
  | cons h t => cases ev
theorem dgs_cons (h1 : PG X e (TDG X.mg gs g)) (h2 : PGs X es (TDGs X.mg fs h))
    (hs : (assignEach (e :: es) X.env).map (·.2) = assign e X.env :: (assignEach es X.env).map (·.2) := by rfl) : PGs X (e :: es) (TDGs X.mg (gs ++ fs) (gConsD g h)) := by
  refine PGs.of (pgs_cons h1 h2 hs) ?_
  rintro v σ H Q ⟨q, env, d, env', R, hd, ev, k⟩
  cases hd with
  | nil => cases ev
  | cons hh t =>
    obtain ⟨⟨⟩, e1, h1, ev1⟩ := eBind_some ev
    refine ⟨_, _, rfl, q, env, _, e1, R, hh, h1, fun σ1 R1 S1 => ⟨q, e1, _, env', R1, ?_, ev1, fun σ2 R2 S2 => k σ2 R2 (S1.trans S2)⟩⟩
    exact Step.isDs (H' := H) S1.to t
theorem dg_tup {k n : Nat} (hc : X.calm = true) (h1 : PGs X es (TDGs X.mg gs h)) (hn : (assignEach es X.env).length = n := by rfl) (hst : (assignEach es X.env).findIdx? (·.1) = none := by rfl) : PG X (.Tuple es k pos) (TDG X.mg gs (gTupD n h)) := by
  refine PG.of (pg_tup hc h1 hn hst) ?_
  rintro v σ H Q ⟨q, env, d, env', R, hd, ev, kk⟩
  cases hd with
  | tup np s r =>
    rename_i a vs ds
    have ev : (if ds.length = n then h ds else fun _ => none) env = some ((), env') := ev
    by_cases hl : ds.length = n
    · rw [if_pos hl] at ev
      exact ⟨_, _, rfl, SqT.of s, by rw [← r.length]; exact hl, q, env, _, env', R, r, ev, kk⟩
    · rw [if_neg hl] at ev
      cases ev
  | _ => cases ev
end
/-! ### iterators -/
def ItOk (mg : Str → Option Value) (p : Addr → Prop) (H : Hp) (J : It) (ds : List Dat) : Prop :=
  ∀ (p' : Addr → Prop) (H' : Hp), (∀ b o, H b = some o → ¬ p b → H' b = some o) → (∀ a, p' a → p a ∨ H a = none) → (∀ a, p' a → H' a ≠ none) →
    (∀ i, i < ds.length → J.go i H') ∧ (∀ i, ds.length ≤ i → J.stop i H') ∧
    ∀ i x H'', J.yld i H' x H'' → i < ds.length → (∀ b o, H' b = some o → H'' b = some o) ∧ ∃ d, ds[i]? = some d ∧ IsD mg p' H'' d x
def TDI (mg : Str → Option Value) (f : EM (List Dat)) : TI := fun σ H R => ∃ q env ds env', Rel mg q env σ H ∧ f env = some (ds, env') ∧ ∀ J H', Rel mg q env' σ H' → StepE env σ H env' H' → ItOk mg (Prot q env' σ) H' J ds → R J H'
theorem PI.of {X : Cx} {tg e : Expr} {t t' : TI} (h : PI X tg e t) (w : ∀ σ H R, t' σ H R → t σ H R) : PI X tg e t' := ⟨fun pins s σ H R I x => h.run pins s σ H R I (w σ H R x)⟩
theorem PI.or {X : Cx} {tg e : Expr} {t t' : TI} (h : PI X tg e t) (h' : PI X tg e t') : PI X tg e (fun σ H R => t σ H R ∨ t' σ H R) := ⟨fun pins s σ H R I x => x.elim (h.run pins s σ H R I) (h'.run pins s σ H R I)⟩
section
variable {mg : Str → Option Value} {p : Addr → Prop} {H : Hp} {ds : List Dat}
theorem it_list {K : PySem.W.Frag} {a : Addr} {vs : List V} (n : ¬ p a) (h : H a = some (.lst vs)) (r : IsDs mg p H ds vs) : ItOk mg p H (Itl K a) ds := by
  intro p' H' hs hp hd
  have h' : H' a = some (.lst vs) := hs a _ h n
  have r' : IsDs mg p' H' ds vs := r.all.mono hp (fun b o e z => hs b o e fun z' => z (.inl z'))
  refine ⟨fun i hi => ?_, fun i hi => ⟨vs, SqL.of h', by rw [← r.length]; exact hi⟩, fun i x H'' hy hi => ?_⟩
  · obtain ⟨v, e1, _⟩ := r'.get (List.getElem?_eq_getElem hi)
    exact ⟨vs, v, SqL.of h', e1⟩
  · obtain ⟨rfl, hv⟩ := hy
    have hx := hv vs (SqL.of h')
    obtain ⟨d, e1, e2⟩ := r'.get' hx
    exact ⟨fun _ _ e => e, d, e1, e2⟩
theorem it_tup {K : PySem.W.Frag} {a : Addr} {vs : List V} (n : ¬ p a) (h : H a = some (.tup vs)) (r : IsDs mg p H ds vs) : ItOk mg p H (Itt K a) ds := by
  intro p' H' hs hp hd
  have h' : H' a = some (.tup vs) := hs a _ h n
  have r' : IsDs mg p' H' ds vs := r.all.mono hp (fun b o e z => hs b o e fun z' => z (.inl z'))
  refine ⟨fun i hi => ?_, fun i hi => ⟨vs, SqT.of h', by rw [← r.length]; exact hi⟩, fun i x H'' hy hi => ?_⟩
  · obtain ⟨v, e1, _⟩ := r'.get (List.getElem?_eq_getElem hi)
    exact ⟨vs, v, SqT.of h', e1⟩
  · obtain ⟨rfl, hv⟩ := hy
    have hx := hv vs (SqT.of h')
    obtain ⟨d, e1, e2⟩ := r'.get' hx
    exact ⟨fun _ _ e => e, d, e1, e2⟩
def rngD (lo : Int) (n : Nat) : List Dat := (List.range n).map fun (i : Nat) => Dat.int (lo + i)
theorem rngD_len (lo : Int) (n : Nat) : (rngD lo n).length = n := by simp [rngD]
theorem it_rng {lo : Int} {n : Nat} : ItOk mg p H (Itr lo n) (rngD lo n) := by
  intro p' H' hs hp hd
  rw [rngD_len]
  refine ⟨fun i hi => hi, fun i hi => hi, fun i x H'' hy hi => ?_⟩
  obtain ⟨rfl, rfl⟩ := hy
  exact ⟨fun _ _ e => e, _, by simp [rngD, hi], .int⟩
end
/-- what is gone through: a list or a tuple that nothing changes any more -/
def seqD : Dat → Option (List Dat)
  | .lst ds => some ds
  | .tup ds => some ds
  | _ => none
def iSeq (f : EM R) : EM (List Dat) := eBind f fun r => eBind (eForce r) fun d => eOpt (seqD d)
def iRange (f : EM (List R)) : EM (List Dat) := eBind f fun rs => eBind (eLooks rs) fun ds => match ds with
  | [.int j] => eOpt (if -(2 ^ 62) ≤ j ∧ j < 2 ^ 62 then some (rngD 0 j.toNat) else none)
  | _ => fun _ => none
section
variable {X : Cx} {tg e : Expr} {es : List Expr} {pos : Pos} {f : EM R} {fs : EM (List R)} {u : EM Bool}
theorem di_seq (he : PE X e (TD X.mg f)) : PI X tg e (TDI X.mg (iSeq f)) := by
  refine PI.of (PI.or (pi_list he) (pi_tup he)) ?_
  rintro σ H Q ⟨q, env, ds, env', R, ev, k⟩
  obtain ⟨r1, e1, h1, ev1⟩ := eBind_some ev
  obtain ⟨d, e2, h2, ev2⟩ := eBind_some ev1
  obtain ⟨h3, rfl⟩ := eOpt_some ev2
  cases d with
  | lst es =>
    cases h3
    refine .inl ⟨q, env, r1, e1, R, h1, fun v H1 R1 S1 i1 => ?_⟩
    obtain ⟨R2, S2, hd⟩ := i1.force R1 h2
    cases hd with
    | lst n s r => exact ⟨_, rfl, ⟨_, SqL.of s⟩, k _ H1 R2 (S1.trans S2) (it_list n s r)⟩
  | tup es =>
    cases h3
    refine .inr ⟨q, env, r1, e1, R, h1, fun v H1 R1 S1 i1 => ?_⟩
    obtain ⟨R2, S2, hd⟩ := i1.force R1 h2
    cases hd with
    | tup n s r => exact ⟨_, rfl, ⟨_, SqT.of s⟩, k _ H1 R2 (S1.trans S2) (it_tup n s r)⟩
  | _ => cases h3
theorem di_range {p : Pos} (hg : Gl X "range") (hm : X.mg "range" = none) (ha : PA X [e] (TDA X.mg fs)) (hs : starEach [e] X.env = [(false, eval e X.env)] := by rfl) : PI X tg (.Call (.Name "range" p) [e] [] pos) (TDI X.mg (iRange fs)) := by
  refine PI.of (pi_range1 hg hm ha hs) ?_
  rintro σ H Q ⟨q, env, ds, env', R, ev, k⟩
  obtain ⟨r1, e1, h1, ev1⟩ := eBind_some ev
  obtain ⟨dd, e2, h2, ev2⟩ := eBind_some ev1
  refine ⟨q, env, r1, e1, R, h1, fun vs H1 R1 S1 i1 => ?_⟩
  obtain ⟨iv, rfl⟩ := i1.looks R1 h2
  split at ev2
  · rename_i j
    obtain ⟨h3, rfl⟩ := eOpt_some ev2
    split at h3
    · rename_i hc
      cases h3
      cases iv with
      | cons a t =>
        cases t
        rw [a.intE]
        exact ⟨j, rfl, hc.1, hc.2, k _ H1 R1 S1 it_rng⟩
    · cases h3
  · cases ev2
end
/-! ### for -/
def loopS (g : Dat → EM Unit) (body : EM O) : List Dat → EM O
  | [] => eRet .nx
  | d :: ds => eBind (g d) fun _ => eBind body fun o => match o with
    | .nx => loopS g body ds
    | .ct => loopS g body ds
    | .bk => eRet .nx
    | .rt r => eRet (.rt r)
def sFor (it : EM (List Dat)) (g : Dat → EM Unit) (body : EM O) : EM O := eBind it fun ds => loopS g body ds
section
variable {X : Cx} {tg iter : Expr} {body : List Stmt} {pos : Pos} {it : EM (List Dat)} {gs : List Nat} {g : Dat → EM Unit} {b : EM O}
theorem ds_for (hp : PassesOwn (model X.prog X.w) X.A X.env X.xe) (hc : X.calm = true) (hi : PI X tg iter (TDI X.mg it)) (hg : PG X tg (TDG X.mg gs g)) (hb : PSs X body (TDS X.mg b))
    (hs : ∀ x, foldedSetIterable iter X.env x = pure x := by intro _; rfl) : PS X (.For tg iter body [] pos) (TDS X.mg (sFor it g b)) := by
  refine PS.of (ps_for hp hc hi hg hb hs) ?_
  rintro D σ H ⟨q, env, o, env', R, ev, k⟩
  obtain ⟨ds, e1, h1, ev1⟩ := eBind_some ev
  refine ⟨q, env, ds, e1, R, h1, fun J H1 R1 S1 hJ => ?_⟩
  refine ⟨fun i m σ' H' => i ≤ ds.length ∧ m = ds.length - i ∧ ∃ e2, Rel X.mg q e2 σ' H' ∧ Step e1 σ H1 e2 σ' H' ∧ loopS g b (ds.drop i) e2 = some (o, env'), ⟨_, Nat.zero_le _, rfl, e1, R1, .refl, ev1⟩, ?_⟩
  rintro i m σ2 H2 ⟨hi', hm, e2, R2, S2, hl⟩
  have HJ := hJ (Prot q e2 σ2) H2 (fun b u e n => S2.keep b u e fun m => n (.inr m)) (fun a z => S2.prot z) (fun a z => R2.prot_in z)
  by_cases hlt : i < ds.length
  · refine .inr ⟨HJ.1 i hlt, ?_⟩
    have hdrop : ds.drop i = ds[i] :: ds.drop (i + 1) := List.drop_eq_getElem_cons hlt
    rw [hdrop] at hl
    obtain ⟨⟨⟩, e3, h3, hl1⟩ := eBind_some hl
    obtain ⟨o4, e4, h4, hl2⟩ := eBind_some hl1
    refine ⟨fun σ' H' => ∃ e5, Rel X.mg q e5 σ' H' ∧ Step e1 σ H1 e5 σ' H' ∧ loopS g b (ds.drop (i + 1)) e5 = some (o, env'), fun σ' H' ⟨e5, R5, S5, h5⟩ => ⟨_, (by omega : ds.length - (i + 1) < m), hlt, rfl, e5, R5, S5, h5⟩, fun x H3 hy => ?_⟩
    obtain ⟨hx, d, hd, isd⟩ := HJ.2.2 i x H3 hy hlt
    have hdd : d = ds[i] := by
      rw [List.getElem?_eq_getElem hlt] at hd
      exact (Option.some.inj hd).symm
    subst hdd
    have R3 := R2.ext hx
    have S3 : Step e2 σ2 H2 e2 σ2 H3 := (StepE.ext hx).to
    refine ⟨q, e2, _, e3, R3, isd, h3, fun σ4 R4 S4 => ?_⟩
    have S5 : Step e1 σ H1 e3 σ4 H3 := (S2.trans S3).trans S4.to
    refine ⟨q, e3, o4, e4, R4, h4, ?_⟩
    cases o4 with
    | nx => exact fun σ' H' R' S' => ⟨e4, R', S5.trans S', hl2⟩
    | ct => exact fun σ' H' R' S' => ⟨e4, R', S5.trans S', hl2⟩
    | bk =>
      obtain ⟨rfl, rfl⟩ := eRet_some hl2
      exact fun σ' H' R' S' => k σ' H' R' (S1.to.trans (S5.trans S'))
    | rt r =>
      obtain ⟨rfl, rfl⟩ := eRet_some hl2
      exact fun v σ' H' R' S' i' => k v σ' H' R' (S1.to.trans (S5.trans S')) (i'.back (S1.to.trans S5).dom)
  · have hie : i = ds.length := by omega
    subst hie
    rw [List.drop_length] at hl
    obtain ⟨rfl, rfl⟩ := eRet_some hl
    exact .inl ⟨HJ.2.1 _ (Nat.le_refl _), k σ2 H2 R2 (S1.to.trans S2)⟩
end
/-! ### comprehensions -/
def eWipe : List Nat → EM Unit
  | [] => eRet ()
  | v :: vs => eBind (eWipe vs) fun _ => fun env => if isMtb env[v]? = false then some ((), env.set v none) else none
def loopC (g : Dat → EM Unit) (t : EM Bool) (f : EM R) (vs : List Nat) : List Dat → List Dat → EM (List Dat)
  | [], acc => eRet acc
  | d :: ds, acc => eBind (g d) fun _ => eBind t fun b =>
    if b = true then eBind f fun r => eBind (eForce r) fun x => eBind (eWipe vs) fun _ => if acc.length < 100000 then loopC g t f vs ds (acc ++ [x]) else fun _ => none
    else eBind (eWipe vs) fun _ => loopC g t f vs ds acc
def freeAt (vs : List Nat) (env : Env) : Bool := vs.all fun v => match env[v]? with
  | some none => true
  | _ => false
def eLc (it : EM (List Dat)) (g : Dat → EM Unit) (t : EM Bool) (f : EM R) (vs : List Nat) : EM R := eBind it fun ds => fun env => if freeAt vs env = true then eBind (loopC g t f vs ds []) (fun xs => eRet (.new (.lst xs))) env else none
section
variable {mg : Str → Option Value} {q : Addr → Prop} {env env' : Env} {σ σ' : L2.St} {H H' : Hp} {vs : List Nat}
theorem wipe_ne {j : Nat} : ∀ {vs : List Nat}, j ∉ vs → (wipe σ vs)[j]? = σ[j]?
  | [], _ => rfl
  | v :: vs, h => by
    show ((wipe σ vs).set v none)[j]? = _
    rw [List.getElem?_set_ne (fun z => h (by simp [z])), wipe_ne (fun z => h (List.mem_cons_of_mem _ z))]
theorem wipe_eq (hl : σ.length = σ'.length) (h : ∀ j, j ∉ vs → σ[j]? = σ'[j]?) : wipe σ vs = wipe σ' vs := by
  apply List.ext_getElem?
  intro j
  by_cases hj : j ∈ vs
  · have key : ∀ (τ : L2.St) (us : List Nat), j ∈ us → (wipe τ us)[j]? = if j < τ.length then some none else none := fun τ us => by
      induction us with
      | nil => intro z; cases z
      | cons v us ih =>
        intro z
        show ((wipe τ us).set v none)[j]? = _
        rw [List.getElem?_set]
        by_cases e : v = j
        · rw [if_pos e]
          simp [wipe_length, e]
        · rw [if_neg e]
          exact ih ((List.mem_cons.mp z).resolve_left fun z => e z.symm)
    rw [key _ _ hj, key _ _ hj, hl]
  · rw [wipe_ne hj, wipe_ne hj, h j hj]
theorem eWipe_ok : ∀ {vs : List Nat} {env env' : Env}, eWipe vs env = some ((), env') → (∀ j, j ∈ vs → ∀ s, env'[j]? ≠ some (some s)) ∧ (∀ j, j ∉ vs → env'[j]? = env[j]?) ∧ env'.length = env.length ∧ (∀ (j : Nat) (s : Slot), env'[j]? = some (some s) → env[j]? = some (some s)) ∧ (∀ (j : Nat) (d : Dat), env[j]? = some (some (.mtb d)) → env'[j]? = some (some (.mtb d)))
  | [], env, env', h => by
    obtain ⟨_, rfl⟩ := eRet_some h
    exact ⟨(fun j z => by cases z), fun _ _ => rfl, rfl, fun _ _ e => e, fun _ _ e => e⟩
  | v :: vs, env, env', h => by
    obtain ⟨⟨⟩, e1, h1, h2⟩ := eBind_some h
    obtain ⟨a, b, c, d, m⟩ := eWipe_ok h1
    split at h2
    · rename_i hm
      cases h2
      have stp : ∀ (j : Nat) (s : Slot), (e1.set v none)[j]? = some (some s) → e1[j]? = some (some s) := fun j s z => by
        by_cases hj : v = j
        · subst hj
          rw [List.getElem?_set] at z
          simp at z
        · rw [List.getElem?_set_ne hj] at z
          exact z
      refine ⟨fun j z s e => ?_, fun j z => ?_, by simp [c], fun j s e => d j s (stp j s e), fun j d' e => ?_⟩
      · by_cases hj : v = j
        · subst hj
          rw [List.getElem?_set] at e
          simp at e
        · exact a j ((List.mem_cons.mp z).resolve_left fun z => hj z.symm) s (stp j s e)
      · rw [List.getElem?_set_ne (fun e => z (by simp [e]))]
        exact b j fun e => z (List.mem_cons_of_mem _ e)
      · have e2 := m j d' e
        have hj : v ≠ j := by
          rintro rfl
          exact not_mtb hm d' e2
        rw [List.getElem?_set_ne hj]
        exact e2
    · cases h2
/-- the same slots, elsewhere -/
theorem Rel.swap (R : Rel mg q env σ H) (hl : σ'.length = σ.length) (el : env'.length = env.length) (hs : ∀ (j : Nat) (s : Slot), env'[j]? = some (some s) → env[j]? = some (some s) ∧ σ'[j]? = σ[j]?) : Rel mg q env' σ' H := by
  have mm : ∀ b, MutAt env' σ' b → MutAt env σ b := fun b ⟨i, s, e, w, h⟩ => ⟨i, s, (hs i s e).1, w, by rw [← (hs i s e).2]; exact h⟩
  have hp : ∀ b, Prot q env' σ' b → Prot q env σ b := fun b z => z.elim .inl fun m => .inr (mm b m)
  refine ⟨by rw [el, R.len, hl], fun i d e => ?_, fun i s e w => ?_, fun i j s t a e1 w1 e2 w2 h1 h2 => ?_, R.qin⟩
  · obtain ⟨e1, e2⟩ := hs i _ e
    obtain ⟨v, h1, h2⟩ := R.val i d e1
    exact ⟨v, e2.trans h1, h2.mono hp fun _ _ e _ => e⟩
  · obtain ⟨e1, e2⟩ := hs i _ e
    obtain ⟨a, h1, h2, h3⟩ := R.wr i s e1 w
    exact ⟨a, e2.trans h1, h2, h3.mono hp (fun _ _ e _ => e) fun _ e => e⟩
  · obtain ⟨f1, f2⟩ := hs i _ e1
    obtain ⟨f3, f4⟩ := hs j _ e2
    exact R.inj i j s t a f1 w1 f3 w2 (f2.symm.trans h1) (f4.symm.trans h2)
theorem freeAt_no (h : freeAt vs env = true) (j : Nat) (hj : j ∈ vs) (s : Slot) : env[j]? ≠ some (some s) := fun e => by
  have := List.all_eq_true.mp h j hj
  rw [e] at this
  cases this
end
section
variable {X : Cx} {elt tg iter : Expr} {ifs : List Expr} {scope : Scope} {own : List (Str × Nat)} {pos : Pos} {it : EM (List Dat)} {gs : List Nat} {g : Dat → EM Unit} {t : EM Bool} {f : EM R}
theorem red_lc (vs : List Nat) (hv : ∀ j, j ∈ gs → j ∈ vs) (σ : L2.St) (H : Hp) (Q : VK) (hh : TD X.mg (eLc it g t f vs) σ H Q) : tLc (TDI X.mg it) (TDG X.mg gs g) (TDT X.mg t) (TD X.mg f) vs σ H Q := by
  obtain ⟨q, env, r, env', R, ev, k⟩ := hh
  obtain ⟨ds, e1, h1, ev1⟩ := eBind_some ev
  split at ev1
  · rename_i hfree
    obtain ⟨xs, e9, h9, ev2⟩ := eBind_some ev1
    obtain ⟨rfl, rfl⟩ := eRet_some ev2
    refine ⟨q, env, ds, e1, R, h1, fun J H1 R1 S1 hJ D hD => ?_⟩
    -- the block's own slots forgotten
    have W1 : Rel X.mg q e1 (wipe σ vs) H1 := R1.swap (wipe_length _ _) rfl fun j s e => ⟨e, wipe_ne fun z => freeAt_no hfree j z s e⟩
    have sw : ∀ {e2 : Env} {b : Addr}, (∀ j, j ∈ vs → ∀ s, e2[j]? ≠ some (some s)) → (MutAt e2 (wipe σ vs) b ↔ MutAt e2 σ b) := fun {e2 b} hn => by
      constructor
      · rintro ⟨i, s, e, w, h⟩
        exact ⟨i, s, e, w, by rw [← wipe_ne (vs := vs) fun z => hn i z s e]; exact h⟩
      · rintro ⟨i, s, e, w, h⟩
        exact ⟨i, s, e, w, by rw [wipe_ne (vs := vs) fun z => hn i z s e]; exact h⟩
    refine ⟨fun i m H2 => i ≤ ds.length ∧ m = ds.length - i ∧ ∃ e2 acc ys, Rel X.mg (fun b => q b ∨ b = D) e2 (wipe σ vs) H2 ∧ (∀ j, j ∈ vs → ∀ s, e2[j]? ≠ some (some s)) ∧ StepE e1 (wipe σ vs) H1 e2 H2 ∧ H2 D = some (.lst ys) ∧ IsDs X.mg (Prot (fun b => q b ∨ b = D) e2 (wipe σ vs)) H2 acc ys ∧ ¬ MutAt e2 (wipe σ vs) D ∧ loopC g t f vs (ds.drop i) acc e2 = some (xs, env'),
      ⟨_, Nat.zero_le _, rfl, e1, [], [], W1.guard hD (ext_new hD) (by rw [upd_same]; simp), freeAt_no hfree, .new hD, upd_same, .nil, fun m => W1.prot_new hD (.inr m), h9⟩, ?_⟩
    rintro i m H2 ⟨hi', hm, e2, acc, ys, R2, n2, S2, hDl, hacc, nD, hl⟩
    have HJ := hJ (Prot (fun b => q b ∨ b = D) e2 (wipe σ vs)) H2
      (fun b u e n => S2.keep b u e fun m => n (.inr ((sw (freeAt_no hfree)).mp m)))
      (fun a z => z.elim (fun z => z.elim (fun z => .inl (.inl z)) fun z => .inr (by rw [z]; exact hD)) fun m => .inl (.inr ((sw (freeAt_no hfree)).mp (S2.mono a m))))
      (fun a z => R2.prot_in z)
    by_cases hlt : i < ds.length
    · refine .inr ⟨HJ.1 i hlt, ?_⟩
      have hdrop : ds.drop i = ds[i] :: ds.drop (i + 1) := List.drop_eq_getElem_cons hlt
      rw [hdrop] at hl
      obtain ⟨⟨⟩, e3, h3, hl1⟩ := eBind_some hl
      obtain ⟨b4, e4, h4, hl2⟩ := eBind_some hl1
      refine ⟨fun H' => ∃ e5 acc' ys', Rel X.mg (fun b => q b ∨ b = D) e5 (wipe σ vs) H' ∧ (∀ j, j ∈ vs → ∀ s, e5[j]? ≠ some (some s)) ∧ StepE e1 (wipe σ vs) H1 e5 H' ∧ H' D = some (.lst ys') ∧ IsDs X.mg (Prot (fun b => q b ∨ b = D) e5 (wipe σ vs)) H' acc' ys' ∧ ¬ MutAt e5 (wipe σ vs) D ∧ loopC g t f vs (ds.drop (i + 1)) acc' e5 = some (xs, env'),
        fun H' ⟨e5, acc', ys', a1, a2, a3, a4, a5, a6, a7⟩ => ⟨_, (by omega : ds.length - (i + 1) < m), hlt, rfl, e5, acc', ys', a1, a2, a3, a4, a5, a6, a7⟩, fun x H3 hy => ?_⟩
      obtain ⟨hx, d, hd, isd⟩ := HJ.2.2 i x H3 hy hlt
      have hdd : d = ds[i] := by
        rw [List.getElem?_eq_getElem hlt] at hd
        exact (Option.some.inj hd).symm
      subst hdd
      have R3 := R2.ext hx
      have E3 : StepE e2 (wipe σ vs) H2 e2 H3 := .ext hx
      refine ⟨fun b => q b ∨ b = D, e2, _, e3, R3, isd, h3, fun σ2 R4 S4 => ⟨?_, ?_⟩⟩
      · have := wipe_eq (vs := vs) (σ := σ2) (σ' := wipe σ vs) S4.slen fun j hj => (S4.out j fun z => hj (hv j z)).2
        rw [this]
        exact wipe_eq (wipe_length _ _) fun j hj => wipe_ne hj
      · -- behind the turn's expressions
        have T3 : Step e2 (wipe σ vs) H2 e3 σ2 H3 := E3.to.trans S4.to
        have fin : ∀ {e6 e7 : Env} {H6 : Hp}, Rel X.mg (fun b => q b ∨ b = D) e6 σ2 H6 → StepE e3 σ2 H3 e6 H6 → eWipe vs e6 = some ((), e7) →
            (∀ b, MutAt e7 (wipe σ vs) b → MutAt e6 σ2 b) ∧ Rel X.mg (fun b => q b ∨ b = D) e7 (wipe σ vs) H6 ∧ (∀ j, j ∈ vs → ∀ s, e7[j]? ≠ some (some s)) ∧ StepE e2 (wipe σ vs) H2 e7 H6 := fun {e6 e7 H6} R6 S6 hw => by
          obtain ⟨w1, w2, w3, w4, w5⟩ := eWipe_ok hw
          have sl : ∀ (j : Nat) (s : Slot), e7[j]? = some (some s) → e6[j]? = some (some s) ∧ (wipe σ vs)[j]? = σ2[j]? := fun j s e => by
            have hj : j ∉ vs := fun z => w1 j z s e
            exact ⟨w4 j s e, ((S4.out j fun z => hj (hv j z)).2).symm⟩
          have mm : ∀ b, MutAt e7 (wipe σ vs) b → MutAt e6 σ2 b := fun b ⟨j, s, e, w, h⟩ => ⟨j, s, (sl j s e).1, w, by rw [← (sl j s e).2]; exact h⟩
          refine ⟨mm, R6.swap S4.slen.symm w3 sl, w1, ⟨fun b u e n => ?_, fun b z => ?_, fun b m => S4.mono b (S6.mono b (mm b m)), fun j s e => ?_, fun j d e => ?_, by rw [w3, S6.len, S4.len]⟩⟩
          · exact S6.keep b u (hx b u e) fun m => n (S4.mono b m)
          · refine S6.dom b ?_
            cases eb : H2 b with
            | none => exact absurd eb z
            | some u => rw [hx _ _ eb]; simp
          · have hj : j ∉ vs := fun z => n2 j z s e
            obtain ⟨s', e'⟩ := S6.there j s ((S4.out j fun z => hj (hv j z)).1.trans e)
            exact ⟨s', (w2 j hj).trans e'⟩
          · have hj : j ∉ vs := fun z => n2 j z _ e
            obtain ⟨d', e'⟩ := S6.muts j d ((S4.out j fun z => hj (hv j z)).1.trans e)
            exact ⟨d', (w2 j hj).trans e'⟩
        refine ⟨fun b => q b ∨ b = D, e3, b4, e4, R4, h4, fun H4 R5 S5 => ?_⟩
        cases b4 with
        | false =>
          obtain ⟨⟨⟩, e7, h7, hl3⟩ := eBind_some hl2
          obtain ⟨m7, R7, n7, S7⟩ := fin R5 S5 h7
          have hD4 : H4 D = some (.lst ys) := S5.keep D _ (hx D _ hDl) fun m => nD (S4.mono D m)
          refine ⟨e7, acc, ys, R7, n7, S2.trans S7, hD4, S7.isDs hacc, fun m => nD (S7.mono D m), hl3⟩
        | true =>
          obtain ⟨r5, e5, h5, hl3⟩ := eBind_some hl2
          obtain ⟨x6, e6, h6, hl4⟩ := eBind_some hl3
          obtain ⟨⟨⟩, e7, h7, hl5⟩ := eBind_some hl4
          split at hl5
          · rename_i hz
            refine ⟨fun b => q b ∨ b = D, e4, r5, e5, R5, h5, fun v H5 R6 S6 i6 => ?_⟩
            obtain ⟨R7, S7, d7⟩ := i6.force R6 h6
            have S8 : StepE e3 σ2 H3 e6 H5 := (S5.trans S6).trans S7
            obtain ⟨m8, R8, n8, S9⟩ := fin R7 S8 h7
            have hD5 : H5 D = some (.lst ys) := S8.keep D _ (hx D _ hDl) fun m => nD (S4.mono D m)
            have hlen : acc.length = ys.length := hacc.length
            have dv : IsD X.mg (Prot (fun b => q b ∨ b = D) e7 (wipe σ vs)) H5 x6 v := d7.mono (fun b z => z.elim .inl fun m => .inr (m8 b m)) fun _ _ e _ => e
            have nD7 : ¬ MutAt e7 (wipe σ vs) D := fun m => nD (S9.mono D m)
            have kp : ∀ b u, H5 b = some u → ¬ Prot (fun b => q b ∨ b = D) e7 (wipe σ vs) b → upd H5 D (.lst (ys ++ [v])) b = some u := fun b u e n => by
              rw [upd_ne fun z => n (.inl (.inr z))]
              exact e
            refine ⟨ys, hD5, by rw [← hlen]; exact Nat.lt_of_lt_of_le hz (sz_ok (Nat.le_refl _)), e7, acc ++ [x6], ys ++ [v], ?_, n8, ?_, upd_same, ?_, nD7, hl5⟩
            · refine ⟨R8.len, fun j d e => ?_, fun j s e w => ?_, R8.inj, fun b z => ?_⟩
              · obtain ⟨u, a1, a2⟩ := R8.val j d e
                exact ⟨u, a1, a2.mono (fun _ z => z) kp⟩
              · obtain ⟨a, a1, a2, a3⟩ := R8.wr j s e w
                exact ⟨a, a1, a2, a3.mono (fun _ z => z) kp fun u e => by
                  rw [upd_ne fun z => a2 (.inr z)]
                  exact e⟩
              · by_cases hb : b = D
                · rw [hb, upd_same]; simp
                · rw [upd_ne hb]; exact R8.qin b z
            · have S10 := S2.trans S9
              refine ⟨fun b u e n => ?_, fun b z => ?_, S10.mono, S10.there, S10.muts, S10.len⟩
              · rw [upd_ne (ne_of_none e hD)]
                exact S10.keep b u e n
              · by_cases hb : b = D
                · rw [hb, upd_same]; simp
                · rw [upd_ne hb]; exact S10.dom b z
            · exact IsDs.mono (fun _ z => z) kp ((S9.isDs hacc).append (.one dv))
          · cases hl5
    · have hie : i = ds.length := by omega
      subst hie
      rw [List.drop_length] at hl
      obtain ⟨rfl, rfl⟩ := eRet_some hl
      refine .inl ⟨HJ.2.1 _ (Nat.le_refl _), ?_⟩
      -- back to the def's own slots
      have R3 : Rel X.mg (fun b => q b ∨ b = D) env' σ H2 := R2.swap (wipe_length _ _).symm rfl fun j s e => ⟨e, (wipe_ne fun z => n2 j z s e).symm⟩
      have S3 : StepE e1 σ H1 env' H2 := ⟨fun b u e n => S2.keep b u e fun m => n ((sw (freeAt_no hfree)).mp m), S2.dom, fun b m => (sw (freeAt_no hfree)).mp (S2.mono b ((sw n2).mpr m)), S2.there, S2.muts, S2.len⟩
      refine k _ H2 (R3.less fun b z => .inl z) (S1.trans S3) ?_
      refine IsR.back (H0 := H1) ⟨D, rfl, hD, fun z => ?_, ⟨ys, hDl, ?_⟩, R3⟩ S1.dom
      · exact R1.qin D z hD
      · exact hacc.mono (fun b z => z.elim (fun z => z.elim (fun z => .inl (.inl z)) fun m => .inr ((sw n2).mpr m)) fun z => .inl (.inr z)) fun _ _ e _ => e
  · cases ev1
theorem d_lc (hc : X.calm = true) (hN : X.N.Nodup) (hi : PI X tg iter (TDI X.mg it)) (ok : BlkOk X.N X.env.scope scope own) (hv : ∀ j, j ∈ gs → j ∈ own.map (·.2))
    (hg : ∀ (s : Shared) (H : Hp) (C : Addr) (cl : List (Str × Addr)) (fp : List Addr), PG (X.blk s H scope (compEnvC scope cl C X.env) fp) tg (TDG X.mg gs g)) (ht : ∀ (s : Shared) (H : Hp) (C : Addr) (cl : List (Str × Addr)) (fp : List Addr), PTs (X.blk s H scope (compEnvC scope cl C X.env) fp) ifs (TDT X.mg t))
    (he : ∀ (s : Shared) (H : Hp) (C : Addr) (cl : List (Str × Addr)) (fp : List Addr), PE (X.blk s H scope (compEnvC scope cl C X.env) fp) elt (TD X.mg f)) (hs : ∀ x, foldedSetIterable iter X.env x = pure x := by intro _; rfl) :
    PE X (.ListComp elt [⟨tg, iter, ifs, 0⟩] scope pos) (TD X.mg (eLc it g t f (own.map (·.2)))) :=
  PE.of (pe_lc hc hN hi ok hg ht he hs) (red_lc _ hv)
theorem dts_nil : PTs X [] (TDT X.mg (eRet true)) := by
  refine ⟨fun pins s σ H Q I h => (pts_nil (X := X)).run pins s σ H Q I ?_⟩
  obtain ⟨q, env, r, env', R, ev, k⟩ := h
  obtain ⟨rfl, rfl⟩ := eRet_some ev
  exact k H R .refl
end
end DL
/-! == of a dict and a text. -/
namespace Own
open PySem PySem.Spec PySem.SeqAt PySem.W PyProof.Rows DT
open AutoSeq1
    (wpAny_loadPart')
open MeetsSeq
theorem str_eq_declines_dict (b : Str) (u : Tok) (l : Addr) (es : Array DictEntry) (ep : Nat) :
    Meets (Builtin.«str.__eq__» ⟨[.str b u, .ref l], []⟩) (fun _ R s => s.heap.get? l = some { cls := .type "dict", dict := none, data := .dict es ep, slots := #[] } ∧ R (.ok (.ret .notImplemented)) s) :=
  .of_wp fun prog w A R s h =>
      by obtain ⟨hp, g, d, tk, os⟩ := s; obtain ⟨hl, h⟩ := h; wp_walk using wpAny_loadPart' hl, wpAny_load hl; exact ⟨_, rfl, h⟩
section
variable {prog : Program} {w : World} {A :
    Around} {E : Value → Shared → Prop} {s : Shared}
theorem dict_declines_str {l : Addr} {es : Array DictEntry} {ep : Nat} (b : Str) (u : Tok) (hl : Raw s.heap l es ep) (Q : Value → Shared → Prop) (h : Q .notImplemented s) : wpAny (model prog w) A (call (.builtin "dict.__eq__") [.ref l, .str b u]) Q E s := by
  refine wpAny_call_entry PySem.F.slot_dict_eq hl.typeIs PySem.F.entry_dict_eq ?_ (PySem.F.args_dict_eq_2 _ _)
  show wpAny _ _ (Builtin.Dict.dictSlotArgs "__eq__" ⟨[.ref l, .str b u], []⟩ >>= _) _ _ s
  refine wpAny_bind ?_
  unfold
      Builtin.Dict.dictSlotArgs
  refine wpAny_bind (wpAny_notOrdered_dict hl.typeIs ?_)
  show wpAny _ _ (pure (Value.ref l, Value.str b u)) _ _ s
  refine wpAny_pure ?_
  refine wpAny_bind (wpAny_isInstance (T := "str") (typeIs_str s b u) PySem.F.sub_str_dict ?_)
  simp only [Bool.not_false,
      if_true]
  refine wpAny_bind
      (wpAny_rule ?_)
  exact wpAny_pure ⟨_, rfl, h⟩
end
section
variable {A : Around}
    {s : Shared}
theorem rcAt_dict_str {l : Addr} {es : Array DictEntry} {ep : Nat} (b : Str) (u : Tok) (hl : Raw s.heap l es ep) (hu : A.units < cLine) : RcAt A s (.ref l) (.str b u) false := fun prog w E Q h => by
  obtain ⟨⟨cls, dd, data, sl⟩, ho, ⟨hc, hd1, hd2⟩, hd⟩ := id hl
  simp only at hc hd hd1 hd2
  subst hc hd hd1 hd2
  exact rc_eq_decline_or (k := false) hl.typeIs (typeIs_str s b u) (by decide) F.sub_str_dict F.slot_dict_eq F.slot_str_eq_refl
    (fun Q' hq => dict_declines_str b u hl Q' hq)
    (fun _ hq => call_meets F.slot_str_eq_refl (typeIs_str s b u) F.entry_str_eq (F.args_str_eq_2 _ _) (str_eq_declines_dict b u l es ep) ⟨ho, hq⟩)
    (fun _ hq => wpAny_of_eq (rfl : isSame (.ref l)
        (.str b u) = pure false) hq) (.inr hu) h
theorem eqAt_dict_str {l : Addr} {es : Array DictEntry} {ep : Nat} (b : Str) (u : Tok) (hl : Raw s.heap l es ep) (hu : A.units < cLine) : EqAt A s (.ref l) (.str b u) false := fun prog w E Q h => by
  unfold eqBool
  refine wpAny_holding ?_
  refine wpAny_ite_split (fun hab =>
      absurd (eq_of_beq hab) nofun) (fun _ => ?_)
  exact wpAny_bind (rcAt_dict_str b u hl hu prog w E _ (wpAny_truthy_bool h))
theorem rcAt_str_dict {l : Addr} {es : Array DictEntry} {ep : Nat} (b : Str) (u : Tok) (hl : Raw s.heap l es ep) (hu : A.units < cLine) : RcAt A s (.str b u) (.ref l) false := fun prog w E Q h => by
  obtain ⟨⟨cls, dd, data, sl⟩, ho, ⟨hc, hd1, hd2⟩, hd⟩ := id hl
  simp only at hc hd hd1 hd2
  subst hc hd hd1 hd2
  exact rc_eq_decline_or (k := false) (typeIs_str s b u) hl.typeIs (by decide) F.sub_dict_str F.slot_str_eq F.slot_dict_eq_refl
    (fun _ hq => call_meets F.slot_str_eq (typeIs_str s b u) F.entry_str_eq (F.args_str_eq_2 _ _) (str_eq_declines_dict b u l es ep) ⟨ho, hq⟩)
    (fun Q' hq => dict_declines_str b u hl Q' hq)
    (fun _ hq => wpAny_of_eq (rfl : isSame (.str b u)
        (.ref l) = pure false) hq) (.inr hu) h
theorem eqAt_str_dict {l : Addr} {es : Array DictEntry} {ep : Nat} (b : Str) (u : Tok) (hl : Raw s.heap l es ep) (hu : A.units < cLine) : EqAt A s (.str b u) (.ref l) false := fun prog w E Q h => by
  unfold eqBool
  refine wpAny_holding ?_
  refine wpAny_ite_split (fun hab =>
      absurd (eq_of_beq hab) nofun) (fun _ => ?_)
  exact wpAny_bind (rcAt_str_dict b u hl hu prog w E _ (wpAny_truthy_bool h))
end
end Own
/-! Any datum != a text. -/
namespace Own
open PySem PySem.Spec PySem.SeqAt PySem.W PyProof.Rows DT
open AutoSeq1
    (wpAny_loadPart')
open MeetsSeq
theorem str_ne_declines_dict (b : Str) (u : Tok) (l : Addr) (es : Array DictEntry) (ep : Nat) :
    Meets (Builtin.«str.__ne__» ⟨[.str b u, .ref l], []⟩) (fun _ R s => s.heap.get? l = some { cls := .type "dict", dict := none, data := .dict es ep, slots := #[] } ∧ R (.ok (.ret .notImplemented)) s) :=
  .of_wp fun prog w A R s h =>
      by obtain ⟨hp, g, d, tk, os⟩ := s; obtain ⟨hl, h⟩ := h; wp_walk using wpAny_loadPart' hl, wpAny_load hl; exact ⟨_, rfl, h⟩
section
variable {prog : Program} {w : World} {A :
    Around} {E : Value → Shared → Prop} {s : Shared}
theorem dict_declines_strN {l : Addr} {es : Array DictEntry} {ep : Nat} (b : Str) (u : Tok) (hl : Raw s.heap l es ep) (Q : Value → Shared → Prop) (h : Q .notImplemented s) : wpAny (model prog w) A (call (.builtin "dict.__ne__") [.ref l, .str b u]) Q E s := by
  refine wpAny_call_entry PySem.F.slot_dict_ne hl.typeIs PySem.F.entry_dict_ne ?_ (PySem.F.args_dict_ne_2 _ _)
  show wpAny _ _ (Builtin.Dict.dictSlotArgs "__ne__" ⟨[.ref l, .str b u], []⟩ >>= _) _ _ s
  refine wpAny_bind ?_
  unfold
      Builtin.Dict.dictSlotArgs
  refine wpAny_bind (wpAny_notOrdered_dict hl.typeIs ?_)
  show wpAny _ _ (pure (Value.ref l, Value.str b u)) _ _ s
  refine wpAny_pure ?_
  refine wpAny_bind (wpAny_isInstance (T := "str") (typeIs_str s b u) PySem.F.sub_str_dict ?_)
  simp only [Bool.not_false,
      if_true]
  refine wpAny_bind
      (wpAny_rule ?_)
  exact wpAny_pure ⟨_, rfl, h⟩
end
section
variable {A : Around}
    {s : Shared}
theorem rcNeAt_dict_str {l : Addr} {es : Array DictEntry} {ep : Nat} (b : Str) (u : Tok) (hl : Raw s.heap l es ep) (hu : A.units < cLine) : RcNeAt A s (.ref l) (.str b u) true := fun prog w E Q h => by
  obtain ⟨⟨cls, dd, data, sl⟩, ho, ⟨hc, hd1, hd2⟩, hd⟩ := id hl
  simp only at hc hd hd1 hd2
  subst hc hd hd1 hd2
  exact rc_ne_decline_or (k := false) hl.typeIs (typeIs_str s b u) (by decide) F.sub_str_dict F.slot_dict_ne F.slot_str_ne_refl
    (fun Q' hq => dict_declines_strN b u hl Q' hq)
    (fun _ hq => call_meets F.slot_str_ne_refl (typeIs_str s b u) F.entry_str_ne (F.args_str_ne_2 _ _) (str_ne_declines_dict b u l es ep) ⟨ho, hq⟩)
    (fun _ hq => wpAny_of_eq (rfl : isSame (.ref l)
        (.str b u) = pure false) hq) (.inr hu) h
theorem rcNeAt_str_dict {l : Addr} {es : Array DictEntry} {ep : Nat} (b : Str) (u : Tok) (hl : Raw s.heap l es ep) (hu : A.units < cLine) : RcNeAt A s (.str b u) (.ref l) true := fun prog w E Q h => by
  obtain ⟨⟨cls, dd, data, sl⟩, ho, ⟨hc, hd1, hd2⟩, hd⟩ := id hl
  simp only at hc hd hd1 hd2
  subst hc hd hd1 hd2
  exact rc_ne_decline_or (k := false) (typeIs_str s b u) hl.typeIs (by decide) F.sub_dict_str F.slot_str_ne F.slot_dict_ne_refl
    (fun _ hq => call_meets F.slot_str_ne (typeIs_str s b u) F.entry_str_ne (F.args_str_ne_2 _ _) (str_ne_declines_dict b u l es ep) ⟨ho, hq⟩)
    (fun Q' hq => dict_declines_strN b u hl Q' hq)
    (fun _ hq => wpAny_of_eq (rfl : isSame (.str b u)
        (.ref l) = pure false) hq) (.inr hu) h
end
end Own
/-! ==, !=, in, not in of any data. -/
namespace DL
open PySem PySem.Spec L2
open PyProof.Rows hiding St
mutual
def depD : Dat → Nat
  | .tup ds => depDs ds + 1
  | .lst ds => depDs ds + 1
  | .dct _ ds => depDs ds + 1
  | .obj _ _ ds => depDs ds + 1
  | _ => 0
def depDs : List Dat → Nat
  | [] => 0
  | d :: ds => max (depD d) (depDs ds)
end
theorem depD_le {d : Dat} : ∀ {ds : List Dat}, d ∈ ds → depD d ≤ depDs ds
  | e :: es, h => by
    rw [depDs]
    rcases List.mem_cons.mp h with h | h
    · subst h
      exact Nat.le_max_left _ _
    · exact Nat.le_trans (depD_le h) (Nat.le_max_right _ _)
mutual
def eqD : Dat → Dat → Option Bool
  | .non, .non => some true
  | .bl a, .bl b => some (a == b)
  | .bl a, .int b => some ((if a then 1 else 0) == b)
  | .int a, .bl b => some (a == (if b then 1 else 0))
  | .int a, .int b => some (a == b)
  | .str a, .str b => some (a == b)
  | .tup as, .tup bs => eqDs as bs
  | .lst as, .lst bs => if as.length = bs.length then eqDs as bs else some false
  | .dct _ _, .str _ => some false
  | .str _, .dct _ _ => some false
  | .non, .bl _ | .non, .int _ | .non, .str _ | .non, .tup _ | .non, .lst _ => some false
  | .bl _, .non | .bl _, .str _ | .bl _, .tup _ | .bl _, .lst _ => some false
  | .int _, .non | .int _, .str _ | .int _, .tup _ | .int _, .lst _ => some false
  | .str _, .non | .str _, .bl _ | .str _, .int _ | .str _, .tup _ | .str _, .lst _ => some false
  | .tup _, .non | .tup _, .bl _ | .tup _, .int _ | .tup _, .str _ | .tup _, .lst _ => some false
  | .lst _, .non | .lst _, .bl _ | .lst _, .int _ | .lst _, .str _ | .lst _, .tup _ => some false
  | _, _ => none
def eqDs : List Dat → List Dat → Option Bool
  | [], [] => some true
  | a :: as, b :: bs => match eqD a b, eqDs as bs with
    | some x, some y => some (x && y)
    | _, _ => none
  | [], _ :: _ => some false
  | _ :: _, [] => some false
end
/-- item by item -/
theorem eqDs_at : ∀ {as bs : List Dat} {b : Bool}, eqDs as bs = some b → ∃ e : Nat → Bool, (∀ (j : Nat) (x y : Dat), as[j]? = some x → bs[j]? = some y → eqD x y = some (e j)) ∧ b = ((List.range (min as.length bs.length)).all e && as.length == bs.length)
  | [], [], b, h => by
    rw [eqDs] at h
    cases h
    exact ⟨fun _ => true, fun j x y e => by simp at e, rfl⟩
  | [], y :: ys, b, h => by
    rw [eqDs] at h
    cases h
    exact ⟨fun _ => true, fun j x y e => by simp at e, rfl⟩
  | x :: xs, [], b, h => by
    rw [eqDs] at h
    cases h
    refine ⟨fun _ => true, fun j x y e e2 => by simp at e2, ?_⟩
    simp
  | x :: xs, y :: ys, b, h => by
    rw [eqDs] at h
    cases h1 : eqD x y with
    | none =>
        rw [h1] at h; cases h
    | some c =>
      cases h2 : eqDs xs ys with
      | none =>
          rw [h1, h2] at h; cases h
      | some d =>
        rw [h1, h2] at h
        cases h
        obtain ⟨e, e1, e2⟩ := eqDs_at h2
        refine ⟨fun j => match j with
          | 0 => c
          | j + 1 => e j, fun j u v hu hv => ?_, ?_⟩
        · cases j with
          | zero =>
            simp at hu hv
            rw [← hu, ← hv]
            exact h1
          | succ j => exact e1 j u v (by simpa using hu) (by simpa using hv)
        · rw [e2]
          have hm : min (x :: xs).length (y :: ys).length = min xs.length ys.length + 1 := by simp
          rw [hm, List.range_succ_eq_map, List.all_cons, List.all_map]
          have hl : ((x :: xs).length == (y :: ys).length) = (xs.length == ys.length) := by simp
          rw [hl, Bool.and_assoc]
          rfl
theorem eqD_refl : ∀ (n : Nat) (d : Dat) (b : Bool), depD d ≤ n → eqD d d = some b → b = true := by
  intro n
  induction n with
  | zero =>
    intro d b hd h
    cases d <;> first | (rw [depD] at hd; omega) | (simp [eqD] at h; done) | (simp [eqD] at h; exact h.symm) | (simp [eqD] at h; exact h)
  | succ n ih =>
    have key : ∀ (ds : List Dat) (b : Bool), depDs ds ≤ n → eqDs ds ds = some b → b = true := by
      intro ds
      induction ds with
      | nil => intro b _ h; rw [eqDs] at h; cases h; rfl
      | cons d ds ihd =>
        intro b hd h
        rw [depDs] at hd
        rw [eqDs] at h
        cases h1 : eqD d d with
        | none =>
            rw [h1] at h; cases h
        | some x =>
          cases h2 : eqDs ds ds with
          | none =>
              rw [h1, h2] at h; cases h
          | some y =>
            rw [h1, h2] at h
            cases h
            rw [ih d x (by omega) h1, ihd y (by omega) h2]
            rfl
    intro d b hd h
    cases d with
    | tup ds =>
      rw [eqD] at h
      rw [depD] at hd
      exact key ds b (by omega) h
    | lst ds =>
      rw [eqD, if_pos rfl] at h
      rw [depD] at hd
      exact key ds b (by omega) h
    | _ => first | (simp [eqD] at h; done) | (simp [eqD] at h; exact h.symm) | (simp [eqD] at h; exact h)
mutual
def noObj : Dat → Bool
  | .tup ds => noObjs ds
  | .lst ds => noObjs ds
  | .dct _ ds => noObjs ds
  | .obj _ _ _ => false
  | _ => true
def noObjs : List Dat → Bool
  | [] => true
  | d :: ds => noObj d && noObjs ds
end
theorem rd_inj {H : Hp} {a : Addr} {k l : List (Key × V)} (h : Rd H a (.dK k)) (g : Rd H a (.dK l)) : k = l := by
  rcases h with h | ⟨o, h⟩ <;> rcases g with g | ⟨o', g⟩ <;> (rw [h] at g; cases g) <;> rfl
theorem rd_tup {H : Hp} {a : Addr} {k : List (Key × V)} {vs : List V} (h : Rd H a (.dK k)) (g : H a = some (.tup vs)) : False := by
  rcases h with h | ⟨o, h⟩ <;> (rw [h] at g; cases g)
theorem rd_lst {H : Hp} {a : Addr} {k : List (Key × V)} {vs : List V} (h : Rd H a (.dK k)) (g : H a = some (.lst vs)) : False := by
  rcases h with h | ⟨o, h⟩ <;> (rw [h] at g; cases g)
section
variable {mg : Str → Option Value} {p : Addr → Prop} {H : Hp}
mutual
theorem same_dat : ∀ {d e : Dat} {v : V}, IsD mg p H d v → IsD mg p H e v → noObj d = true → noObj e = true → d = e
  | _, _, _, .non, h, _, _ => by cases h; rfl
  | _, _, _, .bl, h, _, _ => by cases h; rfl
  | _, _, _, .int, h, _, _ => by cases h; rfl
  | _, _, _, .str, h, _, _ => by cases h; rfl
  | _, _, _, .ty, h, _, _ => by cases h; rfl
  | _, _, _, .tup n s r, h, k, l => by
    cases h with
    | tup n2 s2 r2 =>
      rw [s] at s2
      cases s2
      rw [noObj] at k l
      rw [same_dats r r2 k l]
    | lst n2 s2 r2 => rw [s] at s2; cases s2
    | dct n2 s2 e2 r2 => exact (rd_tup s2 s).elim
    | obj => rw [noObj] at l; cases l
  | _, _, _, .lst n s r, h, k, l => by
    cases h with
    | lst n2 s2 r2 =>
      rw [s] at s2
      cases s2
      rw [noObj] at k l
      rw [same_dats r r2 k l]
    | tup n2 s2 r2 => rw [s] at s2; cases s2
    | dct n2 s2 e2 r2 => exact (rd_lst s2 s).elim
    | obj => rw [noObj] at l; cases l
  | _, _, _, .dct n s e r, h, k, l => by
    cases h with
    | dct n2 s2 e2 r2 =>
      have := rd_inj s s2
      subst this
      subst e e2
      rw [noObj] at k l
      rw [same_dats r r2 k l]
    | tup n2 s2 r2 => exact (rd_tup s s2).elim
    | lst n2 s2 r2 => exact (rd_lst s s2).elim
    | obj => rw [noObj] at l; cases l
  | _, _, _, .obj _ _ _ _ _, _, k, _ => by rw [noObj] at k; cases k
theorem same_dats : ∀ {d e : List Dat} {v : List V}, IsDs mg p H d v → IsDs mg p H e v → noObjs d = true → noObjs e = true → d = e
  | _, _, _, .nil, h, _, _ => by cases h; rfl
  | _, _, _, .cons a t, h, k, l => by
    cases h with
    | cons b u =>
      rw [noObjs, Bool.and_eq_true] at k l
      rw [same_dat a b k.1 l.1, same_dats t u k.2 l.2]
end
/-- one value, one datum, but for the tokens -/
theorem same_val {d e : Dat} {v v' : V} {u : Value} (h : IsD mg p H d v) (r : RelV v u) (h' : IsD mg p H e v') (r' : RelV v' u) (k : noObj d = true) (l : noObj e = true) : d = e ∨ ∃ n, d = .ty n := by
  by_cases hv : v = v'
  · subst hv
    exact .inl (same_dat h h' k l)
  · cases h with
    | non => cases r; cases h' <;> first | exact .inl rfl | (exfalso; first | (cases r'; done) | (obtain ⟨_, z⟩ := r'; cases z; done))
    | bl => cases r; cases h' <;> first | (cases r'; exact .inl rfl) | (exfalso; first | (cases r'; done) | (obtain ⟨_, z⟩ := r'; cases z; done))
    | int => obtain ⟨t, rfl⟩ := r; cases h' <;> first | (obtain ⟨_, z⟩ := r'; cases z; exact .inl rfl) | (exfalso; first | (cases r'; done) | (obtain ⟨_, z⟩ := r'; cases z; done))
    | str => obtain ⟨t, rfl⟩ := r; cases h' <;> first | (obtain ⟨_, z⟩ := r'; cases z; exact .inl rfl) | (exfalso; first | (cases r'; done) | (obtain ⟨_, z⟩ := r'; cases z; done))
    | ty => exact .inr ⟨_, rfl⟩
    | tup => cases r; cases h' <;> first | (cases r'; exact absurd rfl hv) | (exfalso; first | (cases r'; done) | (obtain ⟨_, z⟩ := r'; cases z; done))
    | lst => cases r; cases h' <;> first | (cases r'; exact absurd rfl hv) | (exfalso; first | (cases r'; done) | (obtain ⟨_, z⟩ := r'; cases z; done))
    | dct => cases r; cases h' <;> first | (cases r'; exact absurd rfl hv) | (exfalso; first | (cases r'; done) | (obtain ⟨_, z⟩ := r'; cases z; done))
    | obj => rw [noObj] at k; cases k
end
theorem noObj_at : ∀ {ds : List Dat} {j : Nat} {x : Dat}, noObjs ds = true → ds[j]? = some x → noObj x = true
  | [], _, _, _, e => by simp at e
  | d :: ds, 0, _, h, e => by
    rw [noObjs, Bool.and_eq_true] at h
    simp at e
    rw [← e]
    exact h.1
  | d :: ds, j + 1, _, h, e => by
    rw [noObjs, Bool.and_eq_true] at h
    exact noObj_at h.2 (by simpa using e)
section
variable {mg : Str → Option Value} {p : Addr → Prop} {H : Hp}
theorem IsDs.ex : ∀ {ds : List Dat} {vs : List V} {i : Nat} {u : Value} {us : List Value}, IsDs mg p H ds vs → Vals vs us → us[i]? = some u → ∃ d v, ds[i]? = some d ∧ IsD mg p H d v ∧ RelV v u
  | _, _, _, _, _, .nil, .nil, h => by simp at h
  | _, _, 0, _, _, .cons h _, .cons r _, e => by
    simp at e
    subst e
    exact ⟨_, _, rfl, h, r⟩
  | _, _, i + 1, _, _, .cons _ t, .cons _ r, e => by
    obtain ⟨d, v, h1, h2, h3⟩ := IsDs.ex (i := i) t r (by simpa using e)
    exact ⟨d, v, by simpa using h1, h2, h3⟩
end
section
variable {X : Cx} {pins : List (Addr × Obj)} {σ : L2.St} {p : Addr → Prop} {H : Hp} {s : Shared}
theorem raw_of (I : Inv X pins σ H s) {a : Addr} {kvs : List (Key × V)} (h : Rd H a (.dK kvs)) : ∃ es ep, DT.Raw s.heap a es ep := by
  obtain ⟨_, _, vs, _, o, es, ep, ho, hc, hd, _⟩ := (show ObjOk X.prog X.w H s.heap a (.dK kvs) from h.ok I.hok)
  exact ⟨es, ep, o, ho, hc, hd⟩
/-- a datum's shape in the heap -/
inductive Shp (X : Cx) (p : Addr → Prop) (H : Hp) (s : Shared) : Dat → Value → Prop
  | non : Shp X p H s .non .none
  | bl {b} : Shp X p H s (.bl b) (.bool b)
  | int {i t} : Shp X p H s (.int i) (.int i t)
  | str {z t} : Shp X p H s (.str z) (.str z t)
  | tup {a ds us} : s.heap.IsTuple a (us : List Value).toArray → ds.length = us.length → (∀ (i : Nat) (u : Value), us[i]? = some u → ∃ d v, ds[i]? = some d ∧ IsD X.mg p H d v ∧ RelV v u) → Shp X p H s (.tup ds) (.ref a)
  | lst {a ds us} : s.heap.IsList a (us : List Value).toArray → ds.length = us.length → (∀ (i : Nat) (u : Value), us[i]? = some u → ∃ d v, ds[i]? = some d ∧ IsD X.mg p H d v ∧ RelV v u) → Shp X p H s (.lst ds) (.ref a)
  | dct {a ks ds es ep} : DT.Raw s.heap a es ep → Shp X p H s (.dct ks ds) (.ref a)
  | ty {n u} : Shp X p H s (.ty n) u
  | obj {c ns ds u} : Shp X p H s (.obj c ns ds) u
theorem shp_of (I : Inv X pins σ H s) {d : Dat} {v : V} {u : Value} (h : IsV X.mg p H d v) (r : RelV v u) : Shp X p H s d u := by
  cases d with
  | non => rw [h.nonE] at r; cases r; exact .non
  | bl b => rw [h.blE] at r; cases r; exact .bl
  | int i => rw [h.intE] at r; obtain ⟨t, rfl⟩ := r; exact .int
  | str z => rw [h.strE] at r; obtain ⟨t, rfl⟩ := r; exact .str
  | ty n => exact .ty
  | tup ds =>
    obtain ⟨a, vs, rfl, _, ha, hd⟩ := h.tupE
    cases r
    obtain ⟨its, rv, ht, _⟩ := I.tuple (SqT.of (K := X.K) ha)
    exact .tup ht (by rw [hd.length, rv.length]) fun i u e => hd.ex rv e
  | lst ds =>
    obtain ⟨a, vs, rfl, ha, hd⟩ := h.lstE
    cases r
    obtain ⟨its, rv, ht, _⟩ := I.list (SqL.of (K := X.K) ha)
    exact .lst ht.isList (by rw [hd.length, rv.length]) fun i u e => hd.ex rv e
  | dct ks ds =>
    obtain ⟨a, kvs, rfl, ha, _⟩ := h.dctE
    cases r
    obtain ⟨es, ep, hr⟩ := raw_of I ha
    exact .dct hr
  | obj c ns ds => exact .obj
theorem eqAt_of_rc {A : Around} {s : Shared} {y x : Value} {b : Bool} (h : SeqAt.RcAt A s y x b) (hf : ∀ k t, y ≠ .float k t) (hs : y = x → b = true) : SeqAt.EqAt A s y x b := by
  by_cases e : y = x
  · have := hs e
    subst e this
    exact SeqAt.EqAt.same y
  · intro prog w E Q hq
    unfold eqBool
    refine wpAny_holding ?_
    refine wpAny_ite_split (fun hab => absurd (eq_of_beq hab) e) (fun _ => ?_)
    cases y <;> first | exact wpAny_bind (h prog w E _ (wpAny_truthy_bool hq)) | exact absurd rfl (hf _ _)
theorem noFlt {mg : Str → Option Value} {p : Addr → Prop} {H : Hp} {d : Dat} {v : V} {u : Value} (h : IsD mg p H d v) (r : RelV v u) : ∀ k t, u ≠ .float k t := by
  rintro k t rfl
  cases h <;> first | (cases r; done) | (obtain ⟨_, z⟩ := r; cases z; done)
theorem apart_of {mg : Str → Option Value} {p : Addr → Prop} {H : Hp} {d e : Dat} {v v' : V} {u : Value} (h : IsD mg p H d v) (r : RelV v u) (h' : IsV mg p H e v') (r' : RelV v' u) : IsD mg p H e v' := by
  rcases h' with h' | ⟨a, rfl, pa, _⟩
  · exact h'
  · exfalso
    have r2 : u = .ref a := r'
    subst r2
    cases h with
    | tup n => cases r; exact n pa
    | lst n => cases r; exact n pa
    | dct n => cases r; exact n pa
    | obj n => cases r; exact n pa
    | int => obtain ⟨_, z⟩ := r; cases z
    | str => obtain ⟨_, z⟩ := r; cases z
    | _ => cases r
theorem same_b {mg : Str → Option Value} {p : Addr → Prop} {H : Hp} {d e : Dat} {v v' : V} {u : Value} {b : Bool} (h : IsD mg p H d v) (r : RelV v u) (h' : IsD mg p H e v') (r' : RelV v' u) (k : noObj d = true) (l : noObj e = true) (q : eqD d e = some b) : b = true := by
  rcases same_val h r h' r' k l with z | ⟨n, z⟩
  · subst z
    exact eqD_refl _ d b (Nat.le_refl _) q
  · subst z
    cases e <;> simp [eqD] at q
/-- what two shapes give -/
theorem rc_shp {A : Around} {d e : Dat} {u w : Value} {b : Bool} (hd : Shp X p H s d u) (he : Shp X p H s e w) (h : eqD d e = some b) (hu : A.units < cLine)
    (ih : ∀ (ds es : List Dat), (d = .tup ds ∧ e = .tup es) ∨ (d = .lst ds ∧ e = .lst es) → ∀ (j : Nat) (x y : Dat) (v v' : V) (z z' : Value) (c : Bool), ds[j]? = some x → es[j]? = some y → IsD X.mg p H x v → RelV v z → IsD X.mg p H y v' → RelV v' z' → eqD x y = some c → SeqAt.EqAt A.in1 s z z' c) :
    SeqAt.RcAt A s u w b ∧ SeqAt.RcNeAt A s u w (!b) := by
  cases hd with
  | non =>
    cases he with
    | non => rw [eqD] at h; cases h; exact ⟨SeqAt.RcAt.none_none, SeqAt.RcNeAt.none_none⟩
    | bl => rw [eqD] at h; cases h; exact ⟨SeqAt.RcAt.none_bool _, SeqAt.RcNeAt.none_bool _⟩
    | int => rw [eqD] at h; cases h; exact ⟨SeqAt.RcAt.none_int _ _, SeqAt.RcNeAt.none_int _ _⟩
    | str => rw [eqD] at h; cases h; exact ⟨SeqAt.RcAt.none_str _ _, SeqAt.RcNeAt.none_str _ _⟩
    | tup t _ _ => rw [eqD] at h; cases h; exact ⟨SeqAt.RcAt.none_tuple t hu, SeqAt.RcNeAt.none_tuple t hu⟩
    | lst t _ _ => rw [eqD] at h; cases h; exact ⟨SeqAt.RcAt.none_list t hu, SeqAt.RcNeAt.none_list t hu⟩
    | _ => simp [eqD] at h
  | bl =>
    cases he with
    | non => rw [eqD] at h; cases h; exact ⟨SeqAt.RcAt.bool_none _, SeqAt.RcNeAt.bool_none _⟩
    | bl => rw [eqD] at h; cases h; exact ⟨SeqAt.RcAt.bool_bool _ _, SeqAt.RcNeAt.bool_bool _ _⟩
    | int => rw [eqD] at h; cases h; exact ⟨SeqAt.RcAt.bool_int _ _ _, SeqAt.RcNeAt.bool_int _ _ _⟩
    | str => rw [eqD] at h; cases h; exact ⟨SeqAt.RcAt.bool_str _ _ _, SeqAt.RcNeAt.bool_str _ _ _⟩
    | tup t _ _ => rw [eqD] at h; cases h; exact ⟨SeqAt.RcAt.bool_tuple _ t hu, SeqAt.RcNeAt.bool_tuple _ t hu⟩
    | lst t _ _ => rw [eqD] at h; cases h; exact ⟨SeqAt.RcAt.bool_list _ t hu, SeqAt.RcNeAt.bool_list _ t hu⟩
    | _ => simp [eqD] at h
  | int =>
    cases he with
    | non => rw [eqD] at h; cases h; exact ⟨SeqAt.RcAt.int_none _ _, SeqAt.RcNeAt.int_none _ _⟩
    | bl => rw [eqD] at h; cases h; exact ⟨SeqAt.RcAt.int_bool _ _ _, SeqAt.RcNeAt.int_bool _ _ _⟩
    | int => rw [eqD] at h; cases h; exact ⟨SeqAt.RcAt.int_int _ _ _ _, SeqAt.RcNeAt.int_int _ _ _ _⟩
    | str => rw [eqD] at h; cases h; exact ⟨SeqAt.RcAt.int_str _ _ _ _, SeqAt.RcNeAt.int_str _ _ _ _⟩
    | tup t _ _ => rw [eqD] at h; cases h; exact ⟨SeqAt.RcAt.int_tuple _ _ t hu, SeqAt.RcNeAt.int_tuple _ _ t hu⟩
    | lst t _ _ => rw [eqD] at h; cases h; exact ⟨SeqAt.RcAt.int_list _ _ t hu, SeqAt.RcNeAt.int_list _ _ t hu⟩
    | _ => simp [eqD] at h
  | str =>
    cases he with
    | non => rw [eqD] at h; cases h; exact ⟨SeqAt.RcAt.str_none _ _, SeqAt.RcNeAt.str_none _ _⟩
    | bl => rw [eqD] at h; cases h; exact ⟨SeqAt.RcAt.str_bool _ _ _, SeqAt.RcNeAt.str_bool _ _ _⟩
    | int => rw [eqD] at h; cases h; exact ⟨SeqAt.RcAt.str_int _ _ _ _, SeqAt.RcNeAt.str_int _ _ _ _⟩
    | str => rw [eqD] at h; cases h; exact ⟨SeqAt.RcAt.str_str _ _ _ _, SeqAt.RcNeAt.str_str _ _ _ _⟩
    | tup t _ _ => rw [eqD] at h; cases h; exact ⟨SeqAt.RcAt.str_tuple _ _ t hu, SeqAt.RcNeAt.str_tuple _ _ t hu⟩
    | lst t _ _ => rw [eqD] at h; cases h; exact ⟨SeqAt.RcAt.str_list _ _ t hu, SeqAt.RcNeAt.str_list _ _ t hu⟩
    | dct t => rw [eqD] at h; cases h; exact ⟨Own.rcAt_str_dict _ _ t hu, Own.rcNeAt_str_dict _ _ t hu⟩
    | _ => simp [eqD] at h
  | tup t hl hg =>
    cases he with
    | non => rw [eqD] at h; cases h; exact ⟨SeqAt.RcAt.tuple_none t hu, SeqAt.RcNeAt.tuple_none t hu⟩
    | bl => rw [eqD] at h; cases h; exact ⟨SeqAt.RcAt.tuple_bool _ t hu, SeqAt.RcNeAt.tuple_bool _ t hu⟩
    | int => rw [eqD] at h; cases h; exact ⟨SeqAt.RcAt.tuple_int _ _ t hu, SeqAt.RcNeAt.tuple_int _ _ t hu⟩
    | str => rw [eqD] at h; cases h; exact ⟨SeqAt.RcAt.tuple_str _ _ t hu, SeqAt.RcNeAt.tuple_str _ _ t hu⟩
    | lst t2 _ _ => rw [eqD] at h; cases h; exact ⟨SeqAt.RcAt.tuple_list t t2 hu, SeqAt.RcNeAt.tuple_list t t2 hu⟩
    | @tup a2 es us2 t2 hl2 hg2 =>
      rename_i a1 ds us1
      rw [eqD] at h
      obtain ⟨f, f1, f2⟩ := eqDs_at h
      have items : ∀ j (h1 : j < us1.toArray.size) (h2 : j < us2.toArray.size), SeqAt.EqAt A.in1 s us1.toArray[j] us2.toArray[j] (f j) := fun j h1 h2 => by
        obtain ⟨x, v, g1, g2, g3⟩ := hg j us1.toArray[j] (by simp [List.getElem?_eq_getElem (by simpa using h1)])
        obtain ⟨y, v', k1, k2, k3⟩ := hg2 j us2.toArray[j] (by simp [List.getElem?_eq_getElem (by simpa using h2)])
        exact ih ds es (.inl ⟨rfl, rfl⟩) j x y v v' _ _ _ g1 k1 g2 g3 k2 k3 (f1 j x y g1 k1)
      have e1 := SeqAt.RcAt.tuples (e := f) t t2 hu items
      have e2 := SeqAt.RcNeAt.tuples (e := f) t t2 hu items
      have hb : b = ((List.range (min us1.toArray.size us2.toArray.size)).all f && us1.toArray.size == us2.toArray.size) := by
        rw [f2, hl, hl2]
        simp
      rw [hb]
      exact ⟨e1, e2⟩
    | _ => simp [eqD] at h
  | lst t hl hg =>
    cases he with
    | non => rw [eqD] at h; cases h; exact ⟨SeqAt.RcAt.list_none t hu, SeqAt.RcNeAt.list_none t hu⟩
    | bl => rw [eqD] at h; cases h; exact ⟨SeqAt.RcAt.list_bool _ t hu, SeqAt.RcNeAt.list_bool _ t hu⟩
    | int => rw [eqD] at h; cases h; exact ⟨SeqAt.RcAt.list_int _ _ t hu, SeqAt.RcNeAt.list_int _ _ t hu⟩
    | str => rw [eqD] at h; cases h; exact ⟨SeqAt.RcAt.list_str _ _ t hu, SeqAt.RcNeAt.list_str _ _ t hu⟩
    | tup t2 _ _ => rw [eqD] at h; cases h; exact ⟨SeqAt.RcAt.list_tuple t t2 hu, SeqAt.RcNeAt.list_tuple t t2 hu⟩
    | @lst a2 es us2 t2 hl2 hg2 =>
      rename_i a1 ds us1
      rw [eqD] at h
      by_cases hsz : ds.length = es.length
      · rw [if_pos hsz] at h
        obtain ⟨f, f1, f2⟩ := eqDs_at h
        have items : ∀ j (h1 : j < us1.toArray.size) (h2 : j < us2.toArray.size), SeqAt.EqAt A.in1 s us1.toArray[j] us2.toArray[j] (f j) := fun j h1 h2 => by
          obtain ⟨x, v, g1, g2, g3⟩ := hg j us1.toArray[j] (by simp [List.getElem?_eq_getElem (by simpa using h1)])
          obtain ⟨y, v', k1, k2, k3⟩ := hg2 j us2.toArray[j] (by simp [List.getElem?_eq_getElem (by simpa using h2)])
          exact ih ds es (.inr ⟨rfl, rfl⟩) j x y v v' _ _ _ g1 k1 g2 g3 k2 k3 (f1 j x y g1 k1)
        have hz : us1.toArray.size = us2.toArray.size := by simp; omega
        have e1 := SeqAt.RcAt.lists (e := f) t t2 hz hu items
        have e2 := SeqAt.RcNeAt.lists (e := f) t t2 hz hu items
        have hb : b = (List.range us1.toArray.size).all f := by
          rw [f2, hsz, Nat.min_self]
          simp
          rw [← hsz, hl]
        rw [hb]
        exact ⟨e1, e2⟩
      · rw [if_neg hsz] at h
        cases h
        have hz : (us1.toArray.size != us2.toArray.size) = true := by
          rw [bne_iff_ne]
          simp
          omega
        exact ⟨SeqAt.RcAt.lists_lengths t t2 hz hu, SeqAt.RcNeAt.lists_lengths t t2 hz hu⟩
    | _ => simp [eqD] at h
  | dct t =>
    cases he with
    | str => rw [eqD] at h; cases h; exact ⟨Own.rcAt_dict_str _ _ t hu, Own.rcNeAt_dict_str _ _ t hu⟩
    | _ => simp [eqD] at h
  | ty => cases he <;> simp [eqD] at h
  | obj => cases he <;> simp [eqD] at h
theorem eq_dat (I : Inv X pins σ H s) : ∀ (n : Nat) (A : Around) (d e : Dat) (v v' : V) (u w : Value) (b : Bool), depD d ≤ n → noObj d = true → noObj e = true → A.units + n < cLine → IsV X.mg p H d v → RelV v u → IsV X.mg p H e v' → RelV v' w → eqD d e = some b →
    SeqAt.RcAt A s u w b ∧ SeqAt.RcNeAt A s u w (!b) ∧ (IsD X.mg p H d v → SeqAt.EqAt A s u w b) := by
  intro n
  induction n with
  | zero =>
    intro A d e v v' u w b hd k l hu h1 r1 h2 r2 he
    have R := rc_shp (A := A) (shp_of I h1 r1) (shp_of I h2 r2) he (by omega) fun ds es hh => by
      rcases hh with ⟨rfl, _⟩ | ⟨rfl, _⟩ <;> (rw [depD] at hd; omega)
    exact ⟨R.1, R.2, fun i1 => eqAt_of_rc R.1 (noFlt i1 r1) fun huw => by
      subst huw
      exact same_b i1 r1 (apart_of i1 r1 h2 r2) r2 k l he⟩
  | succ n ih =>
    intro A d e v v' u w b hd k l hu h1 r1 h2 r2 he
    have R := rc_shp (A := A) (shp_of I h1 r1) (shp_of I h2 r2) he (by omega) fun ds es hh j x y z z' o o' c g1 g2 i1 q1 i2 q2 hc => by
      have hx : depD x ≤ n ∧ noObj x = true ∧ noObj y = true := by
        have := depD_le (List.mem_of_getElem? g1)
        rcases hh with ⟨rfl, rfl⟩ | ⟨rfl, rfl⟩ <;> (rw [depD] at hd; rw [noObj] at k l; exact ⟨by omega, noObj_at k g1, noObj_at l g2⟩)
      exact (ih A.in1 x y z z' o o' c hx.1 hx.2.1 hx.2.2 (by show A.units + 1 + n < cLine; omega) (.inl i1) q1 (.inl i2) q2 hc).2.2 i1
    exact ⟨R.1, R.2, fun i1 => eqAt_of_rc R.1 (noFlt i1 r1) fun huw => by
      subst huw
      exact same_b i1 r1 (apart_of i1 r1 h2 r2) r2 k l he⟩
end
/-! ### the operations -/
def eqQ (d e : Dat) : Option Bool := if depD d ≤ 60 ∧ noObj d = true ∧ noObj e = true then eqD d e else none
def inDs (x : Dat) : List Dat → Option Bool
  | [] => some false
  | d :: ds => match eqQ d x, inDs x ds with
    | some a, some b => some (a || b)
    | _, _ => none
def seqOf : Dat → Option (List Dat)
  | .lst ds => some ds
  | .tup ds => some ds
  | _ => none
section
variable {X : Cx}
def rEqG (X : Cx) (neg : Bool) : R2 := fun x y H Q => ∃ p d e b, IsV X.mg p H d x ∧ IsV X.mg p H e y ∧ eqQ d e = some b ∧ Q (.bl (xor neg b)) H
theorem op_eqG (hu : X.A.units + 64 < cLine) : OpR X (compareOp .Eq) (rEqG X false) := by
  intro pins s σ H x
      y v u Q I rx ry h
  obtain ⟨p, d, e, b, h1, h2, he, q⟩ := h
  unfold eqQ at he
  split at he
  · rename_i hd
    exact (eq_dat I 60 X.A d e x y v u b hd.1 hd.2.1 hd.2.2 (by omega) h1 rx h2 ry he).1 _ _ _ _ ⟨.bl _, H, I, rfl, by simpa using q⟩
  · cases he
theorem op_neG (hu : X.A.units + 64 < cLine) : OpR X (compareOp .NotEq) (rEqG X true) := by
  intro pins s σ H x
      y v u Q I rx ry h
  obtain ⟨p, d, e, b, h1, h2, he, q⟩ := h
  unfold eqQ at he
  split at he
  · rename_i hd
    exact (eq_dat I 60 X.A d e x y v u b hd.1 hd.2.1 hd.2.2 (by omega) h1 rx h2 ry he).2.1 _ _ _ _ ⟨.bl _, H, I, rfl, by simpa using q⟩
  · cases he
theorem eqQ_some {d e : Dat} {b : Bool} (h : eqQ d e = some b) : depD d ≤ 60 ∧ noObj d = true ∧ noObj e = true ∧ eqD d e = some b := by
  unfold eqQ at h
  split at h
  · rename_i h2
    exact ⟨h2.1, h2.2.1, h2.2.2, h⟩
  · cases h
theorem inDs_all {x : Dat} : ∀ {ds : List Dat} {b : Bool}, inDs x ds = some b → (∀ (j : Nat) (y : Dat), ds[j]? = some y → ∃ c, eqQ y x = some c) ∧ b = ds.any fun y => eqQ y x == some true
  | [], b, h => by
    cases h
    exact ⟨fun j y e => by simp at e, rfl⟩
  | d :: ds, b, h => by
    rw [inDs] at h
    cases h1 : eqQ d x with
    | none =>
        rw [h1] at h; cases h
    | some a =>
      cases h2 : inDs x ds with
      | none =>
          rw [h1, h2] at h; cases h
      | some c =>
        rw [h1, h2] at h
        cases h
        obtain ⟨e1, e2⟩ := inDs_all h2
        refine ⟨fun j y hy => ?_, ?_⟩
        · cases j with
          | zero => simp at hy; rw [← hy]; exact ⟨a, h1⟩
          | succ j => exact e1 j y (by simpa using hy)
        · rw [e2, List.any_cons, h1]
          cases a <;> simp
open Classical in
/-- whether a value is that of an item that equals x -/
noncomputable def isIt (mg : Str → Option Value) (p : Addr → Prop) (H : Hp) (x : Dat) (y : Value) : Bool := decide (∃ d v, IsD mg p H d v ∧ RelV v y ∧ eqQ d x = some true)
theorem isIt_eq {mg : Str → Option Value} {p : Addr → Prop} {H : Hp} {x d : Dat} {v : V} {y : Value} {c : Bool} (h : IsD mg p H d v) (r : RelV v y) (e : eqQ d x = some c) : isIt mg p H x y = c := by
  unfold isIt
  cases c with
  | true => exact @decide_eq_true _ (Classical.propDecidable _) ⟨d, v, h, r, e⟩
  | false =>
    refine @decide_eq_false _ (Classical.propDecidable _) ?_
    rintro ⟨d', v', h', r', e'⟩
    rcases same_val h r h' r' (eqQ_some e).2.1 (eqQ_some e').2.1 with z | ⟨n, z⟩
    · subst z
      rw [e] at e'
      cases e'
    · subst z
      have := (eqQ_some e).2.2.2
      cases x <;> simp [eqD] at this
def rInG (X : Cx) (neg : Bool) : R2 := fun x y H Q => ∃ p d e ds b, IsV X.mg p H d x ∧ IsV X.mg p H e y ∧ seqOf e = some ds ∧ inDs d ds = some b ∧ Q (.bl (xor neg b)) H
theorem any_it {X : Cx} {p : Addr → Prop} {H : Hp} {d : Dat} {ds : List Dat} {b : Bool} {us : List Value} (hl : ds.length = us.length) (hg : ∀ (i : Nat) (u : Value), us[i]? = some u → ∃ d v, ds[i]? = some d ∧ IsD X.mg p H d v ∧ RelV v u) (h : inDs d ds = some b) :
    us.toArray.any (isIt X.mg p H d) = b := by
  obtain ⟨h1, h2⟩ := inDs_all h
  rw [h2, List.any_toArray]
  have : us.map (isIt X.mg p H d) = ds.map fun y => eqQ y d == some true := by
    apply List.ext_getElem?
    intro i
    rw [List.getElem?_map,
        List.getElem?_map]
    cases hu : us[i]? with
    | none =>
      rw [List.getElem?_eq_none_iff] at hu
      rw [List.getElem?_eq_none
          (by omega)]
      rfl
    | some u =>
      obtain ⟨y, v, g1, g2, g3⟩ := hg i u hu
      obtain ⟨c, hc⟩ := h1 i y g1
      rw [g1]
      simp only [Option.map_some]
      rw [isIt_eq g2 g3 hc, hc]
      cases c <;> rfl
  have e1 : us.any (isIt X.mg p H d) = (us.map (isIt X.mg p H d)).any id := by rw [List.any_map]; rfl
  have e2 : (ds.any fun y => eqQ y d == some true) = (ds.map fun y => eqQ y d == some true).any id := by rw [List.any_map]; rfl
  rw [e1, e2, this]
theorem eqAt_it {X : Cx} {pins : List (Addr × Obj)} {σ : L2.St} {p : Addr → Prop} {H : Hp} {s : Shared} (I : Inv X pins σ H s) (hu : X.A.units + 64 < cLine) {d : Dat} {x : V} {v : Value} (hx : IsV X.mg p H d x) (rx : RelV x v) {ds : List Dat} {b : Bool} (h : inDs d ds = some b) {us : List Value}
    (hg : ∀ (i : Nat) (u : Value), us[i]? = some u → ∃ d v, ds[i]? = some d ∧ IsD X.mg p H d v ∧ RelV v u) : ∀ y, y ∈ us.toArray → SeqAt.EqAt X.A.in1 s y v (isIt X.mg p H d y) := fun y hy => by
  obtain ⟨i, hi⟩ := List.getElem?_of_mem (by simpa using hy)
  obtain ⟨e, w, g1, g2, g3⟩ := hg i y hi
  obtain ⟨c, hc⟩ := (inDs_all h).1 i e g1
  rw [isIt_eq g2 g3 hc]
  obtain ⟨k1, k2, k3, k4⟩ := eqQ_some hc
  exact (eq_dat I 60 X.A.in1 e d w x y v c k1 k2 k3 (by show X.A.units + 1 + 60 < cLine; omega) (.inl g2) g3 hx rx k4).2.2 g2
theorem op_inG (hu : X.A.units + 64 < cLine) : OpR X (compareOp .In) (rInG X false) := by
  intro pins s σ H x
      y v u Q I rx ry h
  obtain ⟨p, d, e, ds, b, h1, h2, he, hb, q⟩ := h
  cases e with
  | lst es =>
    cases he
    cases shp_of I h2 ry with
    | lst t hl hg =>
      refine SeqAt.in_listAt (isIt X.mg p H d) t (eqAt_it I hu h1 rx hb hg) ⟨.bl _, H, I, rfl, ?_⟩
      rw [any_it hl hg hb]
      simpa using q
  | tup es =>
    cases he
    cases shp_of I h2 ry with
    | tup t hl hg =>
      refine SeqAt.in_tupleAt (isIt X.mg p H d) t (eqAt_it I hu h1 rx hb hg) ⟨.bl _, H, I, rfl, ?_⟩
      rw [any_it hl hg hb]
      simpa using q
  | _ => cases he
theorem op_notInG (hu : X.A.units + 64 < cLine) : OpR X (compareOp .NotIn) (rInG X true) := by
  intro pins s σ H x
      y v u Q I rx ry h
  obtain ⟨p, d, e, ds, b, h1, h2, he, hb, q⟩ := h
  cases e with
  | lst es =>
    cases he
    cases shp_of I h2 ry with
    | lst t hl hg =>
      refine SeqAt.notIn_listAt (isIt X.mg p H d) t (eqAt_it I hu h1 rx hb hg) ⟨.bl _, H, I, rfl, ?_⟩
      rw [any_it hl hg hb]
      simpa using q
  | tup es =>
    cases he
    cases shp_of I h2 ry with
    | tup t hl hg =>
      refine SeqAt.notIn_tupleAt (isIt X.mg p H d) t (eqAt_it I hu h1 rx hb hg) ⟨.bl _, H, I, rfl, ?_⟩
      rw [any_it hl hg hb]
      simpa using q
  | _ => cases he
end
end DL
/-! Operations of data: numbers, texts, rows. -/
namespace DL
open PySem PySem.Spec L2
open PyProof.Rows hiding St
section
variable {X : Cx}
theorem opOr {f : Value → Value → Sem Value} {r r' : R2} (h : OpR X f r) (h' : OpR X f r') : OpR X f (fun x y H Q => r x y H Q ∨ r' x y H Q) := OpR.or h h'
/-- a rule for one operation of data -/
structure Rule2 (X : Cx) (f : Value → Value → Sem Value) (op : Dat → Dat → Option Out) : Prop where
  ok : ∃ r, OpR X f r ∧ Op2 X.mg r op
theorem newL {mg : Str → Option Value} {p : Addr → Prop} {H : Hp} {ds : List Dat} {vs : List V} {a : Addr} (ha : H a = none) (h : IsDs mg p H ds vs) : IsO mg p H (upd H a (.lst vs)) (true, .lst ds) (.ref a) :=
  ⟨a, rfl, ha, vs, upd_same, h.new ha⟩
theorem newT {mg : Str → Option Value} {p : Addr → Prop} {H : Hp} {ds : List Dat} {vs : List V} {a : Addr} (hp : ∀ x, p x → H x ≠ none) (ha : H a = none) (h : IsDs mg p H ds vs) : IsO mg p H (upd H a (.tup vs)) (false, .tup ds) (.ref a) :=
  .tup (fun z => hp a z ha) upd_same (h.mono (fun _ z => z) fun b o e _ => ext_new ha b o e)
/-! numbers -/
def int2 (f : Int → Int → Option Out) : Dat → Dat → Option Out
  | .int i, .int j => f i j
  | _, _ => none
def dSub : Dat → Dat → Option Out := int2 fun i j => some (false, .int (i - j))
def dFdv : Dat → Dat → Option Out := int2 fun i j => if 0 < j ∧ j < 1073741824 then some (false, .int (i / j)) else none
def dMod : Dat → Dat → Option Out := int2 fun i j => if 0 < j then some (false, .int (i % j)) else none
def dPow : Dat → Dat → Option Out := int2 fun i j => if 0 ≤ j ∧ j ≤ 1000 ∧ i.natAbs < 1000 then some (false, .int (i ^ j.toNat)) else none
theorem int2_ok {f : Int → Int → Option Out} {g : Value → Value → Sem Value} {r : R2} (hr : OpR X g r) (h : ∀ (i j : Int) (o : Out), f i j = some o → ∃ k : Int, o = (false, .int k) ∧ ∀ H Q, Q (.int k) H → r (.int i) (.int j) H Q) : Rule2 X g (int2 f) := by
  refine ⟨r, hr, ?_⟩
  intro p H a b v w out hp h1 h2 ho Q k
  unfold int2 at ho
  split at ho
  · obtain ⟨n, e, hq⟩ := h _ _ _ ho
    subst e
    rw [h1.intE, h2.intE]
    exact hq H Q (k _ H (fun _ _ e => e) .int)
  · cases ho
theorem r_sub : Rule2 X (binaryOp .Sub) dSub := int2_ok op_sub fun i j o e => by
  cases e
  exact ⟨_, rfl, fun H Q q => ⟨i, j, rfl, rfl, q⟩⟩
theorem r_fdv : Rule2 X (binaryOp .FloorDiv) dFdv := int2_ok op_fdiv fun i j o e => by
  split at e
  · rename_i hc
    cases e
    exact ⟨_, rfl, fun H Q q => ⟨i, j, rfl, rfl, hc, q⟩⟩
  · cases e
theorem r_mod : Rule2 X (binaryOp .Mod) dMod := int2_ok op_mod fun i j o e => by
  split at e
  · rename_i hc
    cases e
    exact ⟨_, rfl, fun H Q q => ⟨i, j, rfl, rfl, hc, q⟩⟩
  · cases e
theorem r_pow : Rule2 X (binaryOp .Pow) dPow := int2_ok op_pow fun i j o e => by
  split at e
  · rename_i hc
    cases e
    exact ⟨_, rfl, fun H Q q => ⟨i, j, rfl, rfl, ⟨hc.1, by omega, by omega⟩, q⟩⟩
  · cases e
/-! + and * -/
def dAdd : Dat → Dat → Option Out
  | .int i, .int j => some (false, .int (i + j))
  | .str i, .str j => if i.length + j.length ≤ 100000 then some (false, .str (i ++ j)) else none
  | .lst i, .lst j => if i.length + j.length ≤ 100000 then some (true, .lst (i ++ j)) else none
  | .tup i, .tup j => if i.length + j.length ≤ 100000 then some (false, .tup (i ++ j)) else none
  | _, _ => none
def rCat0 (K : PySem.W.Frag) : R2 := fun x y H Q => ∃ a b ys, x = .ref a ∧ y = .ref b ∧ SqT K H a [] ∧ SqT K H b ys ∧ Q y H
theorem op_cat0 : OpR X (binaryOp .Add) (rCat0 X.K) := by
  intro pins s σ H x
      y v u Q I rx ry h
  obtain ⟨a, b, ys, rfl, rfl, ha, hb, q⟩ := h
  cases rx
  cases ry
  obtain ⟨its, r1, p1, _⟩ :=
      I.tuple ha
  obtain ⟨its2, r2, p2, _⟩ :=
      I.tuple hb
  cases r1
  exact L2.cat_tup0 p1 p2 ⟨.ref b, H, I, rfl, q⟩
theorem r_add : Rule2 X (binaryOp .Add) dAdd := by
  refine ⟨_, opOr (opOr op_add op_add_str) (opOr op_cat (opOr op_catT op_cat0)), ?_⟩
  intro p H a b v w out hp h1 h2 ho Q k
  unfold dAdd at ho
  split at ho
  · cases ho
    rw [h1.intE, h2.intE]
    exact .inl (.inl ⟨_, _, rfl, rfl, k _ H (fun _ _ e => e) .int⟩)
  · split at ho
    · rename_i hz
      cases ho
      rw [h1.strE, h2.strE]
      exact .inl (.inr ⟨_, _, rfl, rfl, sz_ok hz, k _ H (fun _ _ e => e) .str⟩)
    · cases ho
  · split at ho
    · rename_i hz
      cases ho
      obtain ⟨a1, xs, rfl, e1, d1⟩ := h1.lstE
      obtain ⟨a2, ys, rfl, e2, d2⟩ := h2.lstE
      exact .inr (.inl ⟨a1, a2, xs, ys, rfl, rfl, e1, e2, sz_ok (by rw [← d1.length, ← d2.length]; exact hz), fun c hc => k _ _ (ext_new hc) (newL hc (d1.append d2))⟩)
    · cases ho
  · split at ho
    · rename_i hz
      cases ho
      obtain ⟨a1, xs, rfl, n1, e1, d1⟩ := h1.tupE
      obtain ⟨a2, ys, rfl, n2, e2, d2⟩ := h2.tupE
      by_cases hx : xs = []
      · subst hx
        cases d1
        exact .inr (.inr (.inr ⟨a1, a2, ys, rfl, rfl, SqT.of e1, SqT.of e2, k _ H (fun _ _ e => e) (.tup n2 e2 d2)⟩))
      · refine .inr (.inr (.inl ⟨a1, a2, xs, ys, rfl, rfl, SqT.of e1, SqT.of e2, hx, sz_ok (by rw [← d1.length, ← d2.length]; exact hz), fun hy => ?_, fun hy c hc => k _ _ (ext_new hc) (newT hp hc (d1.append d2))⟩))
        subst hy
        cases d2
        refine k _ H (fun _ _ e => e) ?_
        show IsD X.mg p H (.tup (_ ++ [])) _
        rw [List.append_nil]
        exact .tup n1 e1 d1
    · cases ho
  · cases ho
def dMul : Dat → Dat → Option Out
  | .int i, .int j => if (-(2 ^ 64) < i ∧ i < 2 ^ 64) ∨ (-(2 ^ 64) < j ∧ j < 2 ^ 64) then some (false, .int (i * j)) else none
  | .str z, .int i => if z.length ≤ 16 ∧ 0 ≤ i ∧ i ≤ 1000 then some (false, .str (Txt.mul z i)) else none
  | .lst ds, .int k => if 0 ≤ k ∧ k < 100000 ∧ ds.length * k.toNat ≤ 100000 then some (true, .lst (List.replicate k.toNat ds).flatten) else none
  | _, _ => none
theorem IsDs.rep {mg : Str → Option Value} {p : Addr → Prop} {H : Hp} {ds : List Dat} {vs : List V} (h : IsDs mg p H ds vs) : ∀ n, IsDs mg p H (List.replicate n ds).flatten (List.replicate n vs).flatten
  | 0 => .nil
  | n + 1 => by
    rw [List.replicate_succ, List.replicate_succ,
        List.flatten_cons, List.flatten_cons]
    exact h.append (h.rep n)
theorem op_mulS : OpR X (binaryOp .Mult) (fun x y H Q => ∃ z i, x = .str z ∧ y = .int i ∧ z.length ≤ 16 ∧ 0 ≤ i ∧ i ≤ 1000 ∧ Q (.str (Txt.mul z i)) H) := by
  intro pins s σ H x
      y v u Q I rx ry h
  obtain ⟨z, i, rfl, rfl, hz, h0, h1, q⟩ := h
  obtain ⟨t, rfl⟩ := rx
  obtain ⟨t', rfl⟩ := ry
  exact PySem.W.KXi.mul (n := z.length) rfl hz (by omega) (by omega) fun t' k _ _ => ⟨.str _, H, I.kept (t' := k) fun _ _ y => y, ⟨_, rfl⟩, q⟩
theorem mulS_len {z : Str} {i : Int} (h : 0 ≤ i) : ((Txt.mul z i).length : Int) = (z.length : Int) * i := by
  have e := len_mul z i
  rw [if_neg (fun c => absurd (of_decide_eq_true c) (by omega))] at e
  exact e
theorem r_mul : Rule2 X (binaryOp .Mult) dMul := by
  refine ⟨_, opOr (opOr op_mul op_mulS) op_rep, ?_⟩
  intro p H a b v w out hp h1 h2 ho Q k
  unfold dMul at ho
  split at ho
  · split at ho
    · rename_i hc
      cases ho
      rw [h1.intE, h2.intE]
      exact .inl (.inl ⟨_, _, rfl, rfl, hc, k _ H (fun _ _ e => e) .int⟩)
    · cases ho
  · split at ho
    · rename_i hc
      cases ho
      rw [h1.strE, h2.intE]
      exact .inl (.inr ⟨_, _, rfl, rfl, hc.1, hc.2.1, hc.2.2, k _ H (fun _ _ e => e) .str⟩)
    · cases ho
  · split at ho
    · rename_i hc
      cases ho
      obtain ⟨a1, xs, rfl, e1, d1⟩ := h1.lstE
      rw [h2.intE]
      exact .inr ⟨a1, _, xs, rfl, rfl, e1, by omega, by omega, sz_ok (by rw [← d1.length]; exact hc.2.2), fun c hc => k _ _ (ext_new hc) (newL hc (d1.rep _))⟩
    · cases ho
  · cases ho
/-! order -/
def dLt : Dat → Dat → Option Out
  | .int i, .int j => some (false, .bl (decide (i < j)))
  | .str i, .str j => some (false, .bl (decide (i.cps.toList < j.cps.toList)))
  | _, _ => none
def dLe : Dat → Dat → Option Out
  | .int i, .int j => some (false, .bl (decide (i ≤ j)))
  | .str i, .str j => some (false, .bl (!decide (j.cps.toList < i.cps.toList)))
  | _, _ => none
def dGt : Dat → Dat → Option Out
  | .int i, .int j => some (false, .bl (decide (j < i)))
  | _, _ => none
def dGe : Dat → Dat → Option Out
  | .int i, .int j => some (false, .bl (decide (j ≤ i)))
  | _, _ => none
theorem r_lt : Rule2 X (compareOp .Lt) dLt := by
  refine ⟨_, opOr op_lt op_lt_str, ?_⟩
  intro p H a b v w out hp h1 h2 ho Q k
  unfold dLt at ho
  split at ho
  · cases ho
    rw [h1.intE, h2.intE]
    exact .inl ⟨_, _, rfl, rfl, k _ H (fun _ _ e => e) .bl⟩
  · cases ho
    rw [h1.strE, h2.strE]
    exact .inr ⟨_, _, rfl, rfl, k _ H (fun _ _ e => e) .bl⟩
  · cases ho
theorem r_le : Rule2 X (compareOp .LtE) dLe := by
  refine ⟨_, opOr op_le op_le_str, ?_⟩
  intro p H a b v w out hp h1 h2 ho Q k
  unfold dLe at ho
  split at ho
  · cases ho
    rw [h1.intE, h2.intE]
    exact .inl ⟨_, _, rfl, rfl, k _ H (fun _ _ e => e) .bl⟩
  · cases ho
    rw [h1.strE, h2.strE]
    exact .inr ⟨_, _, rfl, rfl, k _ H (fun _ _ e => e) .bl⟩
  · cases ho
theorem r_gt : Rule2 X (compareOp .Gt) dGt := by
  refine ⟨_, op_gt, ?_⟩
  intro p H a b v w out hp h1 h2 ho Q k
  unfold dGt at ho
  split at ho
  · cases ho
    rw [h1.intE, h2.intE]
    exact ⟨_, _, rfl, rfl, k _ H (fun _ _ e => e) .bl⟩
  · cases ho
theorem r_ge : Rule2 X (compareOp .GtE) dGe := by
  refine ⟨_, op_ge, ?_⟩
  intro p H a b v w out hp h1 h2 ho Q k
  unfold dGe at ho
  split at ho
  · cases ho
    rw [h1.intE, h2.intE]
    exact ⟨_, _, rfl, rfl, k _ H (fun _ _ e => e) .bl⟩
  · cases ho
/-! ==, in, is -/
def dEq (a b : Dat) : Option Out := (eqQ a b).map fun k => (false, .bl k)
def dNe (a b : Dat) : Option Out := (eqQ a b).map fun k => (false, .bl (!k))
def occ (j i : Str) : Bool := !(Builtin.Str.occurrences j i 0 j.length 1).isEmpty
def dIn : Dat → Dat → Option Out
  | .str i, .str j => some (false, .bl (occ j i))
  | x, .lst ds => (inDs x ds).map fun k => (false, .bl k)
  | x, .tup ds => (inDs x ds).map fun k => (false, .bl k)
  | _, _ => none
def dNotIn : Dat → Dat → Option Out
  | .str i, .str j => some (false, .bl (!occ j i))
  | x, .lst ds => (inDs x ds).map fun k => (false, .bl (!k))
  | x, .tup ds => (inDs x ds).map fun k => (false, .bl (!k))
  | _, _ => none
def dIs : Dat → Dat → Option Out
  | .non, .non => some (false, .bl true)
  | .obj _ _ _, .non => none
  | .ty _, .non => none
  | _, .non => some (false, .bl false)
  | _, _ => none
def dIsNot (a b : Dat) : Option Out := match dIs a b with
  | some (_, .bl k) => some (false, .bl (!k))
  | _ => none
theorem map_some2 {o : Option Bool} {f : Bool → Out} {out : Out} (h : o.map f = some out) : ∃ k, o = some k ∧ out = f k := by
  cases o with
  | none => cases h
  | some k => cases h; exact ⟨k, rfl, rfl⟩
theorem r_eq (hu : X.A.units + 64 < cLine) : Rule2 X (compareOp .Eq) dEq := by
  refine ⟨_, op_eqG hu, ?_⟩
  intro p H a b v w out hp h1 h2 ho Q k
  obtain ⟨c, e, rfl⟩ := map_some2 ho
  exact ⟨p, a, b, c, h1, h2, e, k _ H (fun _ _ e => e) (by rw [Bool.false_xor]; exact .bl)⟩
theorem r_ne (hu : X.A.units + 64 < cLine) : Rule2 X (compareOp .NotEq) dNe := by
  refine ⟨_, op_neG hu, ?_⟩
  intro p H a b v w out hp h1 h2 ho Q k
  obtain ⟨c, e, rfl⟩ := map_some2 ho
  exact ⟨p, a, b, c, h1, h2, e, k _ H (fun _ _ e => e) (by rw [Bool.true_xor]; exact .bl)⟩
theorem in_red {X : Cx} {neg : Bool} {op : Dat → Dat → Option Out} (hop : ∀ a b out, op a b = some out → (∃ i j, a = .str i ∧ b = .str j ∧ out = (false, .bl (xor neg (occ j i)))) ∨ (∃ ds k, seqOf b = some ds ∧ inDs a ds = some k ∧ out = (false, .bl (xor neg k)))) :
    Op2 X.mg (fun x y H Q => (∃ i j, x = .str i ∧ y = .str j ∧ Q (.bl (xor neg (occ j i))) H) ∨ rInG X neg x y H Q) op := by
  intro p H a b v w out hp h1 h2 ho Q k
  rcases hop a b out ho with ⟨i, j, rfl, rfl, rfl⟩ | ⟨ds, c, e1, e2, rfl⟩
  · rw [h1.strE, h2.strE]
    exact .inl ⟨i, j, rfl, rfl, k _ H (fun _ _ e => e) .bl⟩
  · exact .inr ⟨p, a, b, ds, c, h1, h2, e1, e2, k _ H (fun _ _ e => e) .bl⟩
theorem r_in (hu : X.A.units + 64 < cLine) : Rule2 X (compareOp .In) dIn := by
  refine ⟨_, opOr op_in_str (op_inG hu), ?_⟩
  have h := in_red (X := X) (neg := false) (op := dIn) fun a b out ho => by
    unfold dIn at ho
    split at ho
    · cases ho
      exact .inl ⟨_, _, rfl, rfl, by rw [Bool.false_xor]⟩
    · obtain ⟨k, e, rfl⟩ := map_some2 ho
      exact .inr ⟨_, k, rfl, e, by rw [Bool.false_xor]⟩
    · obtain ⟨k, e, rfl⟩ := map_some2 ho
      exact .inr ⟨_, k, rfl, e, by rw [Bool.false_xor]⟩
    · cases ho
  intro p H a b v w out hp h1 h2 ho Q k
  rcases h p H a b v w out hp h1 h2 ho Q k with ⟨i, j, e1, e2, q⟩ | q
  · exact .inl ⟨i, j, e1, e2, by rw [Bool.false_xor] at q; exact q⟩
  · exact .inr q
theorem r_notIn (hu : X.A.units + 64 < cLine) : Rule2 X (compareOp .NotIn) dNotIn := by
  refine ⟨_, opOr op_notin_str (op_notInG hu), ?_⟩
  have h := in_red (X := X) (neg := true) (op := dNotIn) fun a b out ho => by
    unfold dNotIn at ho
    split at ho
    · cases ho
      exact .inl ⟨_, _, rfl, rfl, by rw [Bool.true_xor]⟩
    · obtain ⟨k, e, rfl⟩ := map_some2 ho
      exact .inr ⟨_, k, rfl, e, by rw [Bool.true_xor]⟩
    · obtain ⟨k, e, rfl⟩ := map_some2 ho
      exact .inr ⟨_, k, rfl, e, by rw [Bool.true_xor]⟩
    · cases ho
  intro p H a b v w out hp h1 h2 ho Q k
  rcases h p H a b v w out hp h1 h2 ho Q k with ⟨i, j, e1, e2, q⟩ | q
  · exact .inl ⟨i, j, e1, e2, by rw [Bool.true_xor] at q; exact q⟩
  · exact .inr q
theorem isNon {mg : Str → Option Value} {p : Addr → Prop} {H : Hp} {d : Dat} {v : V} {c : Bool} (h : IsV mg p H d v) (e : dIs d .non = some (false, .bl c)) : decide (v = .non) = c := by
  cases d with
  | non => cases e; rw [h.nonE]; rfl
  | bl b => cases e; rw [h.blE]; rfl
  | int b => cases e; rw [h.intE]; rfl
  | str b => cases e; rw [h.strE]; rfl
  | tup b =>
    cases e
    obtain ⟨a, vs, rfl, _⟩ := h.tupE
    rfl
  | lst b =>
    cases e
    obtain ⟨a, vs, rfl, _⟩ := h.lstE
    rfl
  | dct ks b =>
    cases e
    obtain ⟨a, vs, rfl, _⟩ := h.dctE
    rfl
  | _ => cases e
theorem dIs_some {a b : Dat} {out : Out} (h : dIs a b = some out) : b = .non ∧ ∃ c, out = (false, .bl c) := by
  cases b <;> cases a <;> first | (cases h; done) | (cases h; exact ⟨rfl, _, rfl⟩)
theorem r_is : Rule2 X (compareOp .Is) dIs := by
  refine ⟨_, op_isN, ?_⟩
  intro p H a b v w out hp h1 h2 ho Q k
  obtain ⟨rfl, c, rfl⟩ := dIs_some ho
  rw [h2.nonE]
  exact ⟨rfl, by rw [isNon h1 ho]; exact k _ H (fun _ _ e => e) .bl⟩
theorem r_isNot : Rule2 X (compareOp .IsNot) dIsNot := by
  refine ⟨_, op_notN, ?_⟩
  intro p H a b v w out hp h1 h2 ho Q k
  unfold dIsNot at ho
  cases e : dIs a b with
  | none => rw [e] at ho; cases ho
  | some o =>
    obtain ⟨rfl, c, rfl⟩ := dIs_some e
    rw [e] at ho
    cases ho
    rw [h2.nonE]
    exact ⟨rfl, by rw [isNon h1 e]; exact k _ H (fun _ _ e => e) .bl⟩
end
end DL
/-! Places, slices, built-in functions, iterators, stores. -/
namespace DL
open PySem PySem.Spec L2
open PyProof.Rows hiding St
/-! ### one place -/
def chS (c : Nat) : Dat := .str ⟨#[c]⟩
def dIx : Dat → Dat → Option Out
  | .lst ds, .int i => (atI ds i).map fun d => (false, d)
  | .tup ds, .int i => (atI ds i).map fun d => (false, d)
  | .str z, .int i => if z.length ≤ 100000 then (atI z.cps.toList i).map fun c => (false, chS c) else none
  | _, _ => none
structure RuleIx (X : Cx) (op : Dat → Dat → Option Out) : Prop where
  ok : ∃ r, IxR X r ∧ Op2 X.mg r op
section
variable {X : Cx}
theorem atI_at {mg : Str → Option Value} {p : Addr → Prop} {H : Hp} {ds : List Dat} {vs : List V} {i : Int} {d : Dat} (h : IsDs mg p H ds vs) (e : atI ds i = some d) : ∃ v, atI vs i = some v ∧ IsD mg p H d v := by
  unfold atI at e ⊢
  rw [← h.length]
  cases q : ixN ds.length i with
  | none =>
      rw [q] at e; cases e
  | some j =>
    rw [q] at e
    exact h.get e
theorem omap {α β : Type} {o : Option α} {f : α → β} {b : β} (h : o.map f = some b) : ∃ a, o = some a ∧ b = f a := by
  cases o with
  | none => cases h
  | some a => cases h; exact ⟨a, rfl, rfl⟩
theorem r_ix : RuleIx X dIx := by
  refine ⟨_, ix_seq, ?_⟩
  intro p H a b v w out hp h1 h2 ho Q k
  unfold dIx at ho
  split at ho
  · obtain ⟨d, e, rfl⟩ := omap ho
    obtain ⟨a1, xs, rfl, e1, d1⟩ := h1.lstE
    obtain ⟨u, e2, d2⟩ := atI_at d1 e
    rw [h2.intE]
    exact .inl ⟨a1, xs, _, u, rfl, rfl, SqL.of e1, e2, k _ H (fun _ _ e => e) d2⟩
  · obtain ⟨d, e, rfl⟩ := omap ho
    obtain ⟨a1, xs, rfl, n1, e1, d1⟩ := h1.tupE
    obtain ⟨u, e2, d2⟩ := atI_at d1 e
    rw [h2.intE]
    exact .inr (.inl ⟨a1, xs, _, u, rfl, rfl, SqT.of e1, e2, k _ H (fun _ _ e => e) d2⟩)
  · split at ho
    · rename_i hz
      obtain ⟨c, e, rfl⟩ := omap ho
      rw [h1.strE, h2.intE]
      exact .inr (.inr ⟨_, _, c, rfl, rfl, sz_ok hz, e, k _ H (fun _ _ e => e) .str⟩)
    · cases ho
  · cases ho
end
/-! ### slices -/
def cutD {α : Type} (xs : List α) (lo hi : Option Int) : List α := (xs.drop (HT.sIx xs.length 0 lo)).take (HT.sIx xs.length xs.length hi - HT.sIx xs.length 0 lo)
def dCut (d : Dat) (lo hi : Option Int) : Option Out := match d with
  | .lst ds => some (true, .lst (cutD ds lo hi))
  | .tup ds => some (false, .tup (cutD ds lo hi))
  | .str z => if z.length ≤ 100000 then some (false, .str (cutS z lo hi)) else none
  | _ => none
/-- an end of a slice: left open, or a number -/
def TDO (mg : Str → Option Value) (f : EM (Option Int)) : TO := fun σ H Q => ∃ q env o env', Rel mg q env σ H ∧ f env = some (o, env') ∧ ∀ H', Rel mg q env' σ H' → StepE env σ H env' H' → Q o H'
def oNone : EM (Option Int) := eRet none
def oInt (f : EM R) : EM (Option Int) := eBind f fun r => eBind (eLook r) fun d => match d with
  | .int i => eRet (some i)
  | _ => fun _ => none
def eCut (f : EM R) (lo hi : EM (Option Int)) : EM R := eBind f fun r => eBind lo fun l => eBind hi fun h => eBind (eLook r) fun d => eBind (eOpt (dCut d l h)) fun o => eRet o.r
section
variable {X : Cx} {e : Expr} {lo hi : Option Expr} {pos p2 : Pos} {f : EM R} {l u : EM (Option Int)}
theorem PO.of {t t' : TO} (h : PO X lo t) (w : ∀ σ H Q, t' σ H Q → t σ H Q) : PO X lo t' := ⟨fun pins s σ H Q I x => h.run pins s σ H Q I (w σ H Q x)⟩
theorem do_none : PO X none (TDO X.mg oNone) := by
  refine PO.of po_none ?_
  rintro σ H Q ⟨q, env, r, env', R, ev, k⟩
  obtain ⟨rfl, rfl⟩ := eRet_some ev
  exact k H R .refl
theorem do_some (h : PE X e (TD X.mg f)) : PO X (some e) (TDO X.mg (oInt f)) := by
  refine PO.of (po_some h) ?_
  rintro σ H Q ⟨q, env, r, env', R, ev, k⟩
  obtain ⟨r1, e1, h1, ev1⟩ := eBind_some ev
  obtain ⟨d, e2, h2, ev2⟩ := eBind_some ev1
  obtain ⟨h2', rfl⟩ := eLook_some h2
  refine ⟨q, env, r1, e2, R, h1, fun v H1 R1 S1 i1 => ?_⟩
  have iv := i1.look R1 h2'
  split at ev2
  · obtain ⟨rfl, rfl⟩ := eRet_some ev2
    exact ⟨_, iv.intE, k H1 R1 S1⟩
  · cases ev2
theorem cutD_IsDs {mg : Str → Option Value} {p : Addr → Prop} {H : Hp} {ds : List Dat} {vs : List V} (h : IsDs mg p H ds vs) (lo hi : Option Int) : IsDs mg p H (cutD ds lo hi) (cutV vs lo hi) := by
  unfold cutD cutV
  rw [h.length]
  exact (h.drop _).take _
theorem cutD_whole {α : Type} {xs : List α} {lo hi : Option Int} (h : HT.sIx xs.length 0 lo = 0 ∧ HT.sIx xs.length xs.length hi = xs.length) : cutD xs lo hi = xs := by
  unfold cutD
  rw [h.1, h.2]
  simp
theorem d_cut (he : PE X e (TD X.mg f)) (hl : PO X lo (TDO X.mg l)) (hu : PO X hi (TDO X.mg u)) : PE X (.Subscript e (.Slice lo hi none p2) pos) (TD X.mg (eCut f l u)) := by
  refine PE.of (pe_slice (SlR.or sl_list (SlR.or sl_tupA sl_str)) he hl hu) ?_
  rintro σ H Q ⟨q, env, r, env', R, ev, k⟩
  obtain ⟨r1, e1, h1, ev1⟩ := eBind_some ev
  obtain ⟨o1, e2, h2, ev2⟩ := eBind_some ev1
  obtain ⟨o2, e3, h3, ev3⟩ := eBind_some ev2
  obtain ⟨d, e4, h4, ev4⟩ := eBind_some ev3
  obtain ⟨h4', rfl⟩ := eLook_some h4
  obtain ⟨o, e5, h5, ev5⟩ := eBind_some ev4
  obtain ⟨h5', rfl⟩ := eOpt_some h5
  obtain ⟨rfl, rfl⟩ := eRet_some ev5
  refine ⟨q, env, r1, e1, R, h1, fun v H1 R1 S1 i1 => ⟨q, e1, o1, e2, R1, h2, fun H2 R2 S2 => ⟨q, e2, o2, env', R2, h3, fun H3 R3 S3 => ?_⟩⟩⟩
  have i3 := (i1.step S2).step S3
  have iv := i3.look R3 (by rw [look_weak, look_weak]; exact h4')
  have S13 := (S1.trans S2).trans S3
  have fin : ∀ z H', (∀ x o, H3 x = some o → H' x = some o) → IsO X.mg (Prot q env' σ) H3 H' o z → Q z H' := fun z H' hx io => k z H' (R3.ext hx) (S13.trans (.ext hx)) ((io.isR R3 hx).back S13.dom)
  unfold dCut at h5'
  split at h5'
  · cases h5'
    obtain ⟨a1, xs, rfl, e1, d1⟩ := iv.lstE
    exact .inl ⟨a1, xs, rfl, SqL.of e1, fun c hc => fin _ _ (ext_new hc) (newL hc (cutD_IsDs d1 _ _))⟩
  · cases h5'
    obtain ⟨a1, xs, rfl, n1, e1, d1⟩ := iv.tupE
    refine .inr (.inl ⟨a1, xs, rfl, SqT.of e1, fun hw => ?_, fun _ c hc => fin _ _ (ext_new hc) (newT (fun x hx => R3.prot_in hx) hc (cutD_IsDs d1 _ _))⟩)
    refine fin _ H3 (fun _ _ e => e) ?_
    show IsD X.mg _ H3 (.tup (cutD _ _ _)) _
    rw [cutD_whole (by rw [d1.length]; exact hw)]
    exact .tup n1 e1 d1
  · split at h5'
    · rename_i hz
      cases h5'
      exact .inr (.inr ⟨_, iv.strE, sz_ok hz, fin _ H3 (fun _ _ e => e) .str⟩)
    · cases h5'
  · cases h5'
end
/-! ### built-in functions -/
structure RuleN (X : Cx) (f : Value) (op : List Dat → Option Out) : Prop where
  ok : ∃ r, CallR X f r ∧ OpN X.mg r op
def dLen : List Dat → Option Out
  | [.str z] => if z.length ≤ 100000 then some (false, .int z.length) else none
  | [.lst ds] => some (false, .int ds.length)
  | [.tup ds] => some (false, .int ds.length)
  | _ => none
def bools : List Dat → Option (List Bool)
  | [] => some []
  | .bl b :: ds => (bools ds).map fun bs => b :: bs
  | _ => none
def dAll : List Dat → Option Out
  | [.lst ds] => (bools ds).map fun bs => (false, .bl (bs.all id))
  | _ => none
def dAny : List Dat → Option Out
  | [.lst ds] => (bools ds).map fun bs => (false, .bl (bs.any id))
  | _ => none
def dAbs : List Dat → Option Out
  | [.int i] => some (false, .int (if i < 0 then -i else i))
  | _ => none
def dInt : List Dat → Option Out
  | [.int i] => some (false, .int i)
  | [.bl k] => some (false, .int (if k then 1 else 0))
  | _ => none
def dTuple : List Dat → Option Out
  | [.lst ds] => some (false, .tup ds)
  | [.tup ds] => some (false, .tup ds)
  | _ => none
def dList : List Dat → Option Out
  | [.lst ds] => some (true, .lst ds)
  | [.tup ds] => some (true, .lst ds)
  | _ => none
/-- the name of a datum's type -/
def tyN : Dat → Option String
  | .non => some "NoneType"
  | .bl _ => some "bool"
  | .int _ => some "int"
  | .str _ => some "str"
  | .tup _ => some "tuple"
  | .lst _ => some "list"
  | .dct _ _ => some "dict"
  | _ => none
def isTy (t c : String) : Bool := t == c || (t == "bool" && c == "int")
def known : List String := ["int", "bool", "str", "tuple", "list", "dict"]
theorem kits : ∀ t ∈ ["NoneType", "bool", "int", "str", "dict", "tuple", "list"], ∀ c ∈ known, kitB t c = some (isTy t c) := by decide +kernel
def tyNames : List Dat → Option (List String)
  | [] => some []
  | .ty n :: ds => if known.contains n = true then (tyNames ds).map fun ns => n :: ns else none
  | _ => none
def dIsi : List Dat → Option Out
  | [d, .ty n] => if known.contains n = true then (tyN d).map fun t => (false, .bl (isTy t n)) else none
  | [d, .tup cs] => match tyN d, tyNames cs with
    | some t, some ns => some (false, .bl (ns.any fun n => isTy t n))
    | _, _ => none
  | _ => none
section
variable {X : Cx} {mg : Str → Option Value} {p : Addr → Prop} {H : Hp}
theorem one_of {vs : List V} {d : Dat} (h : IsVs mg p H [d] vs) : ∃ v, vs = [v] ∧ IsV mg p H d v := by
  cases h with
  | cons a t => cases t; exact ⟨_, rfl, a⟩
theorem two_of {vs : List V} {d e : Dat} (h : IsVs mg p H [d, e] vs) : ∃ v w, vs = [v, w] ∧ IsV mg p H d v ∧ IsV mg p H e w := by
  cases h with
  | cons a t =>
    cases t with
    | cons b t => cases t; exact ⟨_, _, rfl, a, b⟩
theorem r_len : RuleN X (.builtin "len") dLen := by
  refine ⟨_, call_len, ?_⟩
  intro p H ds vs out hp h ho Q k
  unfold dLen at ho
  split at ho
  · split at ho
    · rename_i hz
      cases ho
      obtain ⟨v, rfl, i⟩ := one_of h
      rw [i.strE]
      exact ⟨_, _, rfl, ⟨sz_ok hz, rfl⟩, k _ H (fun _ _ e => e) .int⟩
    · cases ho
  · cases ho
    obtain ⟨v, rfl, i⟩ := one_of h
    obtain ⟨a1, xs, rfl, e1, d1⟩ := i.lstE
    exact ⟨_, _, rfl, .inl ⟨xs, SqL.of e1, rfl⟩, k _ H (fun _ _ e => e) (by rw [d1.length]; exact .int)⟩
  · cases ho
    obtain ⟨v, rfl, i⟩ := one_of h
    obtain ⟨a1, xs, rfl, n1, e1, d1⟩ := i.tupE
    exact ⟨_, _, rfl, .inr ⟨xs, SqT.of e1, rfl⟩, k _ H (fun _ _ e => e) (by rw [d1.length]; exact .int)⟩
  · cases ho
theorem bools_vs : ∀ {ds : List Dat} {vs : List V} {bs : List Bool}, IsDs mg p H ds vs → bools ds = some bs → vs = bs.map V.bl
  | _, _, _, .nil, h => by cases h; rfl
  | _, _, _, .cons (d := d) a t, h => by
    cases d with
    | bl b =>
      obtain ⟨bs', e, rfl⟩ := omap h
      cases a
      rw [bools_vs t e]
      rfl
    | _ => cases h
theorem r_all (hc : X.calm = true) : RuleN X (.builtin "all") dAll := by
  refine ⟨_, cr_all hc, ?_⟩
  intro p H ds vs out hp h ho Q k
  unfold dAll at ho
  split at ho
  · obtain ⟨bs, e, rfl⟩ := omap ho
    obtain ⟨v, rfl, i⟩ := one_of h
    obtain ⟨a1, xs, rfl, e1, d1⟩ := i.lstE
    exact ⟨a1, bs, rfl, by rw [← bools_vs d1 e]; exact SqL.of e1, k _ H (fun _ _ e => e) .bl⟩
  · cases ho
theorem r_any (hc : X.calm = true) : RuleN X (.builtin "any") dAny := by
  refine ⟨_, cr_any hc, ?_⟩
  intro p H ds vs out hp h ho Q k
  unfold dAny at ho
  split at ho
  · obtain ⟨bs, e, rfl⟩ := omap ho
    obtain ⟨v, rfl, i⟩ := one_of h
    obtain ⟨a1, xs, rfl, e1, d1⟩ := i.lstE
    exact ⟨a1, bs, rfl, by rw [← bools_vs d1 e]; exact SqL.of e1, k _ H (fun _ _ e => e) .bl⟩
  · cases ho
theorem r_abs : RuleN X (.builtin "abs") dAbs := by
  refine ⟨_, call_abs, ?_⟩
  intro p H ds vs out hp h ho Q k
  unfold dAbs at ho
  split at ho
  · cases ho
    obtain ⟨v, rfl, i⟩ := one_of h
    rw [i.intE]
    exact ⟨_, rfl, k _ H (fun _ _ e => e) .int⟩
  · cases ho
theorem r_int : RuleN X (.type "int") dInt := by
  refine ⟨_, call_int1, ?_⟩
  intro p H ds vs out hp h ho Q k
  unfold dInt at ho
  split at ho
  · cases ho
    obtain ⟨v, rfl, i⟩ := one_of h
    rw [i.intE]
    exact .inl ⟨_, rfl, k _ H (fun _ _ e => e) .int⟩
  · cases ho
    obtain ⟨v, rfl, i⟩ := one_of h
    rw [i.blE]
    exact .inr ⟨_, rfl, k _ H (fun _ _ e => e) .int⟩
  · cases ho
theorem r_tuple : RuleN X (.type "tuple") dTuple := by
  refine ⟨_, call_tuple_of, ?_⟩
  intro p H ds vs out hp h ho Q k
  unfold dTuple at ho
  split at ho
  · cases ho
    obtain ⟨v, rfl, i⟩ := one_of h
    obtain ⟨a1, xs, rfl, e1, d1⟩ := i.lstE
    exact ⟨a1, xs, rfl, .inl ⟨SqL.of e1, fun c hc => k _ _ (ext_new hc) (newT hp hc d1)⟩⟩
  · cases ho
    obtain ⟨v, rfl, i⟩ := one_of h
    obtain ⟨a1, xs, rfl, n1, e1, d1⟩ := i.tupE
    exact ⟨a1, xs, rfl, .inr ⟨SqT.of e1, k _ H (fun _ _ e => e) (.tup n1 e1 d1)⟩⟩
  · cases ho
theorem r_list : RuleN X (.type "list") dList := by
  refine ⟨_, call_list_of, ?_⟩
  intro p H ds vs out hp h ho Q k
  unfold dList at ho
  split at ho
  · cases ho
    obtain ⟨v, rfl, i⟩ := one_of h
    obtain ⟨a1, xs, rfl, e1, d1⟩ := i.lstE
    exact ⟨a1, xs, rfl, .inl (SqL.of e1), fun c hc => k _ _ (ext_new hc) (newL hc d1)⟩
  · cases ho
    obtain ⟨v, rfl, i⟩ := one_of h
    obtain ⟨a1, xs, rfl, n1, e1, d1⟩ := i.tupE
    exact ⟨a1, xs, rfl, .inr (SqT.of e1), fun c hc => k _ _ (ext_new hc) (newL hc d1)⟩
  · cases ho
theorem tyX_of {K : PySem.W.Frag} {d : Dat} {v : V} {t : String} (h : IsV mg p H d v) (e : tyN d = some t) : TyX K H v (.type t) ∧ t ∈ ["NoneType", "bool", "int", "str", "dict", "tuple", "list"] := by
  cases d with
  | non => cases e; rw [h.nonE]; exact ⟨.base .non, by decide⟩
  | bl b => cases e; rw [h.blE]; exact ⟨.base (.bl _), by decide⟩
  | int b => cases e; rw [h.intE]; exact ⟨.base (.int _), by decide⟩
  | str b => cases e; rw [h.strE]; exact ⟨.base (.str _), by decide⟩
  | tup b =>
    cases e
    obtain ⟨a, vs, rfl, _, ha, _⟩ := h.tupE
    exact ⟨.base (.tup ha), by decide⟩
  | lst b =>
    cases e
    obtain ⟨a, vs, rfl, ha, _⟩ := h.lstE
    exact ⟨.base (.lst ha), by decide⟩
  | dct ks b =>
    cases e
    obtain ⟨a, vs, rfl, ha, _⟩ := h.dctE
    rcases ha with ha | ⟨o, ha⟩
    · exact ⟨.base (.dK ha), by decide⟩
    · exact ⟨.fDict ha, by decide⟩
  | _ => cases e
theorem tyNames_vs : ∀ {ds : List Dat} {vs : List V} {ns : List String}, IsDs mg p H ds vs → tyNames ds = some ns → vs = ns.map V.ty ∧ ∀ n ∈ ns, n ∈ known
  | _, _, _, .nil, h => by cases h; exact ⟨rfl, fun n z => by cases z⟩
  | _, _, _, .cons (d := d) a t, h => by
    cases d with
    | ty n =>
      unfold tyNames at h
      split at h
      · rename_i hk
        obtain ⟨ns, e, rfl⟩ := omap h
        obtain ⟨h1, h2⟩ := tyNames_vs t e
        cases a
        refine ⟨by rw [h1]; rfl, fun m hm => ?_⟩
        rcases List.mem_cons.mp hm with z | z
        · rw [z]; simpa using hk
        · exact h2 m z
      · cases h
    | _ => cases h
theorem pair_tys : ∀ ns : List String, Paired ClsV (ns.map V.ty) (ns.map Value.type)
  | [] => .nil
  | n :: ns => .cons (.ty n) (pair_tys ns)
theorem kitAny_tys {K : PySem.W.Frag} {t : String} (ht : t ∈ ["NoneType", "bool", "int", "str", "dict", "tuple", "list"]) : ∀ ns : List String, (∀ n ∈ ns, n ∈ known) → PySem.W.kitAny K (.type t) (ns.map Value.type) = some (ns.any fun n => isTy t n)
  | [], _ => kitAny_nil
  | n :: ns, h => by
    refine kitAny_cons (kit_ty (kits t ht n (h n (by simp)))) (fun e => ?_) (fun e => by rw [List.any_cons, e]; rfl)
    rw [List.any_cons, e, Bool.false_or]
    exact kitAny_tys ht ns fun m hm => h m (by simp [hm])
theorem r_isi : RuleN X (.builtin "isinstance") dIsi := by
  refine ⟨_, CallR.or call_isi call_isiT, ?_⟩
  intro p H ds vs out hp h ho Q k
  unfold dIsi at ho
  split at ho
  · split at ho
    · rename_i hk
      obtain ⟨t, e, rfl⟩ := omap ho
      obtain ⟨v, w, rfl, i1, i2⟩ := two_of h
      obtain ⟨ty, hm⟩ := tyX_of (K := X.K) i1 e
      rw [i2.tyE]
      exact .inl ⟨v, _, _, _, _, rfl, .ty _, ty, kit_ty (kits t hm _ (by simpa using hk)), k _ H (fun _ _ e => e) .bl⟩
    · cases ho
  · split at ho
    · rename_i t ns e1 e2
      cases ho
      obtain ⟨v, w, rfl, i1, i2⟩ := two_of h
      obtain ⟨ty, hm⟩ := tyX_of (K := X.K) i1 e1
      obtain ⟨a, us, rfl, _, ha, hd⟩ := i2.tupE
      obtain ⟨rfl, hk⟩ := tyNames_vs hd e2
      exact .inr ⟨v, a, _, _, _, _, rfl, ha, pair_tys ns, ty, kitAny_tys hm ns hk, k _ H (fun _ _ e => e) .bl⟩
    · cases ho
  · cases ho
end
end DL
/-! zip over two sources of which each gives a member a turn; a list beside a tuple. -/
namespace DL
open PySem PySem.Spec L2
open PyProof.Rows hiding St
open Builtin.SmallTypes (nextOf ownedTupleIsFree ownedTupleHandOut)
/-- it goes over the row l, whose members are xs -/
structure Src (it l : Addr) (xs : Array Value) where
  now : Nat → Heap → Prop
  lt : ∀ {i h}, now i h → it < h.objs.size
  cell : ∀ {i h}, now i h → ∃ o, h.get? it = some o ∧ ∀ v, o.data ≠ .cell v
  keep : ∀ {i h h'}, now i h → (∀ o, h.get? it = some o → h'.get? it = some o) → (∀ o, h.get? l = some o → h'.get? l = some o) → now i h'
  item : ∀ {P : Program} {w : World} {A : Around} {E : Value → Shared → Prop} {s : Shared} {i : Nat} {x : Value} {Q : Value → Shared → Prop}, now i s.heap → xs[i]? = some x →
    (∀ h', now (i + 1) h' → Heap.SameBut it s.heap h' → Q x { s with heap := h' }) → wpAny (model P w) A (nextOf (.ref it)) Q E s
  last : ∀ {P : Program} {w : World} {A : Around} {E : Value → Shared → Prop} {s : Shared} {i : Nat} {Q : Value → Shared → Prop}, A.handled = none → now i s.heap → xs[i]? = none →
    (∀ h' e, Heap.ExtBut it s.heap h' → (∃ o, h'.get? e = some o ∧ o.cls = .type "StopIteration") → E (.ref e) { s with heap := h' }) → wpAny (model P w) A (nextOf (.ref it)) Q E s
def Src.ofList {it l : Addr} (xs : Array Value) (ne : l ≠ it) : Src it l xs where
  now i h := h.IsListIter it l i ∧ h.IsList l xs
  lt := by
    rintro i h ⟨⟨o, e, _⟩, _⟩
    exact Heap.lt_size e
  cell := by
    rintro i h ⟨⟨o, e, _, d⟩, _⟩
    exact ⟨o, e, fun v z =>
        by rw [d] at z; cases z⟩
  keep n k1 k2 := ⟨n.1.at fun o e => k1 o e, n.2.at fun o e => k2 o e⟩
  item n hx hQ := wpAny_nextOf_list_item n.1 n.2 hx fun h' n' sb => hQ h' ⟨n', n.2.at fun o e => sb.extBut _ _ ne e⟩ sb
  last hh n hx hE := wpAny_nextOf_list_end hh n.1 n.2 hx hE
def Src.ofTup {it l : Addr} (xs : Array Value) (ne : l ≠ it) : Src it l xs where
  now i h := h.IsTupleIter it l i ∧ h.IsTuple l xs
  lt := by
    rintro i h ⟨⟨o, e, _⟩, _⟩
    exact Heap.lt_size e
  cell := by
    rintro i h ⟨⟨o, e, _, d⟩, _⟩
    exact ⟨o, e, fun v z =>
        by rw [d] at z; cases z⟩
  keep n k1 k2 := ⟨n.1.at fun o e => k1 o e, n.2.at fun o e => k2 o e⟩
  item n hx hQ := RZ.nextOf_tuple_item n.1 n.2 hx fun h' n' sb => hQ h' ⟨n', n.2.at fun o e => sb.extBut _ _ ne e⟩ sb
  last hh n hx hE := RZ.nextOf_tuple_end hh n.1 n.2 hx hE
section
variable {prog : Program} {w : World} {A : Around} {E : Value → Shared → Prop} {s : Shared} {z TI TO i1 i2 l1 l2 : Addr} {xs ys : Array Value} {m k : Nat} {a b : Value}
/-- the zip as it stands between two turns -/
structure Zst (F : Src i1 l1 xs) (G : Src i2 l2 ys) (z TI TO : Addr) (m k : Nat) (h : Heap) : Prop where
  zip : IsZip h z TI TO .none
  its : IsPair h TI (.ref i1) (.ref i2)
  out : ∃ a b, IsPair h TO a b
  one : F.now m h
  two : G.now k h
/-- all but the parts of the zip stays -/
def Stays (z TO i1 i2 : Addr) (h h' : Heap) : Prop := ∀ c o, c ≠ z ∧ c ≠ TO ∧ c ≠ i1 ∧ c ≠ i2 → h.get? c = some o → h'.get? c = some o
theorem zs_item (F : Src i1 l1 xs) (G : Src i2 l2 ys) {x y : Value} {Q : Value → Shared → Prop} (D : ZipApart z TI TO i1 i2 l1 l2) (Z : Zst F G z TI TO m k s.heap) (hx : xs[m]? = some x) (hy : ys[k]? = some y)
    (hQ : ∀ h', IsZip h' z TI TO (rawInt s.heap.objs.size) → IsPair h' TO x y → F.now (m + 1) h' → G.now (k + 1) h' → IsPair h' s.heap.objs.size x y → Stays z TO i1 i2 s.heap h' → Q (.ref s.heap.objs.size) { s with heap := h' }) :
    wpAny (model prog w) A (Builtin.«zip.__next__» ⟨[.ref z], []⟩)
        (fun fin s' => ∃ v, fin = .done (.ret v) ∧ Q v s') E s := by
  obtain ⟨hz, hTI, ⟨a, b, hTO⟩, h1, h2⟩ := Z; show wpAny _ _ (field (.ref z) 2 >>= _) _ _ _
  refine wpAny_bind (wpAny_field hz rfl (x := .bool false) rfl ?_); show wpAny _ _ (field (.ref z) 3 >>= _) _ _ _
  refine wpAny_bind (wpAny_field hz rfl (x := .ref TI) rfl ?_); refine wpAny_bind (wpAny_seqItems hTI rfl ?_); show wpAny _ _ (ownedTupleIsFree (.ref z) >>= _) _ _ _
  refine wpAny_bind ?_; unfold ownedTupleIsFree
  refine wpAny_bind (wpAny_field hz rfl (x := .none) rfl (wpAny_pure ?_)); simp only [if_true]
  refine wpAny_bind (wpAny_rule ?_); refine wpAny_bind (wpAny_field hz rfl (x := .ref TO) rfl ?_)
  refine wpAny_bind (wpAny_setField_rec hz (by simp) fun g1 z1 e1 => ?_)
  replace z1 : IsZip g1 z TI TO .ellipsis := z1
  refine wpAny_bind ?_
  simp only [List.zipIdx_cons, List.zipIdx_nil, List.forIn_cons, List.forIn_nil]; refine wpAny_bind (wpAny_bind (wpAny_onRaise ?_)); show wpAny _ _ (nextOf (.ref i1) >>= _) _ _ _
  refine wpAny_bind (F.item (F.keep h1 (fun o q => e1.extBut _ _ D.i1z q) fun o q => e1.extBut _ _ D.l1z q) hx fun g2 f2 e2 => wpAny_pure ?_)
  have t2 : IsPair g2 TO a b := e2.extBut _ _ D.TOi1 (e1.extBut _ _ D.TOz hTO)
  refine wpAny_bind (wpAny_seqItems t2 rfl ?_); refine wpAny_bind (wpAny_updateSeq_pair t2 fun g3 t3 e3 => ?_)
  replace t3 : IsPair g3 TO x b := t3
  refine wpAny_bind (wpAny_letGo (wpAny_pure ?_)); refine wpAny_bind (wpAny_bind (wpAny_onRaise ?_)); show wpAny _ _ (nextOf (.ref i2) >>= _) _ _ _
  refine wpAny_bind (G.item (G.keep h2 (fun o q => e3.extBut _ _ D.TOi2.symm (e2.extBut _ _ D.i12.symm (e1.extBut _ _ D.i2z q))) fun o q => e3.extBut _ _ D.l2TO (e2.extBut _ _ D.l2i1 (e1.extBut _ _ D.l2z q))) hy fun g4 f4 e4 => wpAny_pure ?_)
  have t4 : IsPair g4 TO x b := e4.extBut _ _ D.TOi2 t3
  refine wpAny_bind (wpAny_seqItems t4 rfl ?_); refine wpAny_bind (wpAny_updateSeq_pair t4 fun g5 t5 e5 => ?_)
  replace t5 : IsPair g5 TO x y := t5
  refine wpAny_bind (wpAny_letGo (wpAny_pure (wpAny_pure ?_))); refine wpAny_bind (wpAny_seqItems t5 rfl ?_); refine wpAny_bind (wpAny_newTuple ?_)
  have sz : g5.objs.size = s.heap.objs.size := by rw [e5.1, e4.1, e3.1, e2.1, e1.1]
  have st : Stays z TO i1 i2 s.heap g5 := fun c o d q => e5.extBut _ _ d.2.1 (e4.extBut _ _ d.2.2.2 (e3.extBut _ _ d.2.1 (e2.extBut _ _ d.2.2.1 (e1.extBut _ _ d.1 q))))
  have z5 : IsZip g5 z TI TO .ellipsis := e5.extBut _ _ D.TOz.symm (e4.extBut _ _ D.i2z.symm (e3.extBut _ _ D.TOz.symm (e2.extBut _ _ D.i1z.symm z1)))
  have f5 : F.now (m + 1) g5 := F.keep f2 (fun o q => e5.extBut _ _ D.TOi1.symm (e4.extBut _ _ D.i12 (e3.extBut _ _ D.TOi1.symm q))) fun o q => e5.extBut _ _ D.l1TO (e4.extBut _ _ D.l1i2 (e3.extBut _ _ D.l1TO q))
  have s5 : G.now (k + 1) g5 := G.keep f4 (fun o q => e5.extBut _ _ D.TOi2.symm q) fun o q => e5.extBut _ _ D.l2TO q
  show wpAny _ _ (ownedTupleHandOut (.ref z) (.ref g5.objs.size) >>= _) _ _ _
  refine wpAny_bind ?_
  unfold ownedTupleHandOut
  have z6 : IsZip (g5.push { cls := .type "tuple", data := .seq #[x, y] }) z TI TO .ellipsis := Heap.get?_push_of_some _ z5
  refine wpAny_bind (wpAny_setField_rec z6 (by simp) fun g7 z7 e7 => ?_)
  replace z7 : IsZip g7 z TI TO (rawInt g5.objs.size) := z7
  refine wpAny_setField_rec z7 (by simp) fun g8 z8 e8 => wpAny_pure ⟨_, rfl, ?_⟩
  replace z8 : IsZip g8 z TI TO (rawInt g5.objs.size) := z8
  have up : ∀ c o, c ≠ z → g5.get? c = some o → g8.get? c = some o := fun c o d q => e8.extBut _ _ d (e7.extBut _ _ d (Heap.get?_push_of_some _ q))
  have ne : g5.objs.size ≠ z := Nat.ne_of_gt (Heap.lt_size z5)
  have p8 : IsPair g8 g5.objs.size x y := e8.extBut _ _ ne (e7.extBut _ _ ne (Heap.get?_push_size _ rfl))
  show Q (.ref g5.objs.size) _
  rw [sz] at z8 p8 ⊢
  exact hQ g8 z8 (up _ _ D.TOz t5) (F.keep f5 (fun o => up _ o D.i1z) fun o => up _ o D.l1z) (G.keep s5 (fun o => up _ o D.i2z) fun o => up _ o D.l2z) p8 fun c o d q => up c o d.1 (st c o d q)
theorem zs_last (F : Src i1 l1 xs) (G : Src i2 l2 ys) {Q : Fin → Shared → Prop} (hh : A.handled = none) (D : ZipApart z TI TO i1 i2 l1 l2) (Z : Zst F G z TI TO m k s.heap) (no : xs[m]? = none ∨ ys[k]? = none)
    (hE : ∀ h' e, Stays z TO i1 i2 s.heap h' → (∃ o, h'.get? e = some o ∧ o.cls = .type "StopIteration") → E (.ref e) { s with heap := h' }) :
    wpAny (model prog w)
        A (Builtin.«zip.__next__» ⟨[.ref z], []⟩) Q E s := by
  obtain ⟨hz, hTI, ⟨a, b, hTO⟩, h1, h2⟩ := Z; show wpAny _ _ (field (.ref z) 2 >>= _) _ _ _
  refine wpAny_bind (wpAny_field hz rfl (x := .bool false) rfl ?_); show wpAny _ _ (field (.ref z) 3 >>= _) _ _ _
  refine wpAny_bind (wpAny_field hz rfl (x := .ref TI) rfl ?_); refine wpAny_bind (wpAny_seqItems hTI rfl ?_); show wpAny _ _ (ownedTupleIsFree (.ref z) >>= _) _ _ _
  refine wpAny_bind ?_; unfold ownedTupleIsFree
  refine wpAny_bind (wpAny_field hz rfl (x := .none) rfl (wpAny_pure ?_)); simp only [if_true]
  refine wpAny_bind (wpAny_rule ?_); refine wpAny_bind (wpAny_field hz rfl (x := .ref TO) rfl ?_)
  refine wpAny_bind (wpAny_setField_rec hz (by simp) fun g1 z1 e1 => ?_)
  replace z1 : IsZip g1 z TI TO .ellipsis := z1
  refine wpAny_bind ?_
  simp only [List.zipIdx_cons, List.zipIdx_nil, List.forIn_cons, List.forIn_nil]; refine wpAny_bind (wpAny_bind (wpAny_onRaise ?_)); show wpAny _ _ (nextOf (.ref i1) >>= _) _ _ _
  have n1 := F.keep h1 (fun o q => e1.extBut _ _ D.i1z q) fun o q => e1.extBut _ _ D.l1z q
  cases hx : xs[m]? with
  | none =>
    refine wpAny_bind (F.last hh n1 hx fun g2 e e2 he => ?_)
    obtain ⟨oe, he, hc⟩ := he
    have z2 : IsZip g2 z TI TO .ellipsis := e2 _ _ D.i1z.symm z1
    have ne : e ≠ z := fun q => by subst q; rw [z2] at he; cases he; simp at hc
    exact wpAny_setField_rec z2 (by simp) fun g3 _ e3 => hE g3 e (fun c o d q => e3.extBut _ _ d.1 (e2 _ _ d.2.2.1 (e1.extBut _ _ d.1 q))) ⟨oe, e3.extBut _ _ ne he, hc⟩
  | some x =>
    have hy : ys[k]? = none := no.resolve_left fun q => by rw [hx] at q; cases q
    refine wpAny_bind (F.item n1 hx fun g2 f2 e2 => wpAny_pure ?_)
    have t2 : IsPair g2 TO a b := e2.extBut _ _ D.TOi1 (e1.extBut _ _ D.TOz hTO)
    refine wpAny_bind (wpAny_seqItems t2 rfl ?_); refine wpAny_bind (wpAny_updateSeq_pair t2 fun g3 t3 e3 => ?_)
    refine wpAny_bind (wpAny_letGo (wpAny_pure ?_)); refine wpAny_bind (wpAny_bind (wpAny_onRaise ?_)); show wpAny _ _ (nextOf (.ref i2) >>= _) _ _ _
    refine wpAny_bind (G.last hh (G.keep h2 (fun o q => e3.extBut _ _ D.TOi2.symm (e2.extBut _ _ D.i12.symm (e1.extBut _ _ D.i2z q))) fun o q => e3.extBut _ _ D.l2TO (e2.extBut _ _ D.l2i1 (e1.extBut _ _ D.l2z q))) hy fun g4 e e4 he => ?_)
    obtain ⟨oe, he, hc⟩ := he
    have z4 : IsZip g4 z TI TO .ellipsis := e4 _ _ D.i2z.symm (e3.extBut _ _ D.TOz.symm (e2.extBut _ _ D.i1z.symm z1))
    have ne : e ≠ z := fun q => by subst q; rw [z4] at he; cases he; simp at hc
    exact wpAny_setField_rec z4 (by simp) fun g5 _ e5 => hE g5 e (fun c o d q => e5.extBut _ _ d.1 (e4 _ _ d.2.2.2 (e3.extBut _ _ d.2.1 (e2.extBut _ _ d.2.2.1 (e1.extBut _ _ d.1 q))))) ⟨oe, e5.extBut _ _ ne he, hc⟩
theorem zn_item (F : Src i1 l1 xs) (G : Src i2 l2 ys) {x y : Value} {Q : Option Value → Shared → Prop} (D : ZipApart z TI TO i1 i2 l1 l2) (Z : Zst F G z TI TO m k s.heap) (hx : xs[m]? = some x) (hy : ys[k]? = some y)
    (hQ : ∀ h', IsZip h' z TI TO (rawInt s.heap.objs.size) → IsPair h' TO x y → F.now (m + 1) h' → G.now (k + 1) h' → IsPair h' s.heap.objs.size x y → Stays z TO i1 i2 s.heap h' → Q (some (.ref s.heap.objs.size)) { s with heap := h' }) :
    wpAny (model prog w)
        A (pyNext (.ref z)) Q E s := by
  have ty : s.TypeIs (.ref z) "zip" := ⟨_, Z.zip, rfl⟩
  unfold pyNext
  exact wpAny_bind (wpAny_attempt (wpAny_callSpecial?_slot (name := Str.ofString "__next__") ty PySem.F.slot_zip_next (wpAny_call_entry PySem.F.slot_zip_next ty PySem.F.entry_zip_next
    (zs_item F G D Z hx hy fun h' a1 a2 a3 a4 a5 a6 => wpAny_pure (hQ h' a1 a2 a3 a4 a5 a6)) (PySem.F.args_zip_next_1 _))))
theorem zn_last (F : Src i1 l1 xs) (G : Src i2 l2 ys) {Q : Option Value → Shared → Prop} (hh : A.handled = none) (D : ZipApart z TI TO i1 i2 l1 l2) (Z : Zst F G z TI TO m k s.heap) (no : xs[m]? = none ∨ ys[k]? = none)
    (hQ : ∀ h', Stays z TO i1 i2 s.heap h' → Q none { s with heap := h' }) : wpAny (model prog w) A (pyNext (.ref z)) Q E s := by
  have ty : s.TypeIs (.ref z) "zip" := ⟨_, Z.zip, rfl⟩
  unfold pyNext
  refine wpAny_bind (wpAny_attempt (wpAny_callSpecial?_slot (name := Str.ofString "__next__") ty PySem.F.slot_zip_next (wpAny_call_entry PySem.F.slot_zip_next ty PySem.F.entry_zip_next
    (zs_last F G hh D Z no fun h' e st he => ?_) (PySem.F.args_zip_next_1 _))))
  obtain ⟨o, he, hc⟩ := he
  refine wpAny_bind (wpAny_isInstance (T := "StopIteration") (b := true) ⟨o, he, hc⟩ isSubtype_stop ?_)
  exact wpAny_pure (hQ _ st)
end
/-! ### the zip is made -/
/-- the five new objects, one behind the other -/
def zh1 (h : Heap) (l1 : Addr) : Heap := h.push { cls := .type "list_iterator", data := .fields #[.ref l1, .int 0 0] }
def zh2 (h : Heap) (l1 l2 : Addr) : Heap := (zh1 h l1).push { cls := .type "tuple_iterator", data := .fields #[.ref l2, .int 0 0] }
def zh3 (h : Heap) (l1 l2 : Addr) : Heap := (zh2 h l1 l2).push { cls := .type "tuple", data := .seq #[.ref h.objs.size, .ref (zh1 h l1).objs.size] }
def zh4 (h : Heap) (l1 l2 : Addr) : Heap := (zh3 h l1 l2).push { cls := .type "tuple", data := .seq #[.none, .none] }
def zh5 (h : Heap) (l1 l2 : Addr) : Heap := (zh4 h l1 l2).push { cls := .type "zip", data := .fields #[.none, .bool false, .bool false, .ref (zh2 h l1 l2).objs.size, .ref (zh3 h l1 l2).objs.size] }
theorem zm_new (l1 l2 : Addr) (xs ys : Array Value) : Meets (Builtin.«zip.__new__» ⟨[.type "zip", .ref l1, .ref l2], []⟩)
    (fun _ R s => s.heap.IsList l1 xs ∧ s.heap.IsTuple l2 ys ∧ R (.ok (.ret (.ref (zh4 s.heap l1 l2).objs.size))) { s with heap := zh5 s.heap l1 l2 }) :=
  .of_wp fun prog
      w A R s h => by
    obtain ⟨hp, g,
        d, tk, os⟩ := s
    obtain ⟨a1, a2, fin⟩ := h
    have sub := sub_zip
    have b1 : Heap.IsList (Shared.heap ⟨hp, g, d, tk, os⟩) l1 xs := a1
    have b2 : Heap.IsTuple (Shared.heap ⟨hp.push { cls := .type "list_iterator", data := .fields #[.ref l1, .int 0 0] }, g, d, tk, os⟩) l2 ys := Heap.IsTuple.push a2 _
    wp_walk using wpAny_pyIter_list b1, wpAny_pyIter_tuple b2
    exact ⟨_, rfl, fin⟩
theorem zh_size (h : Heap) (l1 l2 : Addr) : (zh1 h l1).objs.size = h.objs.size + 1 ∧ (zh2 h l1 l2).objs.size = h.objs.size + 2 ∧ (zh3 h l1 l2).objs.size = h.objs.size + 3 ∧ (zh4 h l1 l2).objs.size = h.objs.size + 4 := by
  unfold zh4 zh3 zh2 zh1
  simp only [Heap.size_push]
  exact ⟨trivial, trivial, trivial, trivial⟩
section
variable {prog : Program} {w : World} {A : Around} {E : Value → Shared → Prop} {s : Shared} {l1 l2 : Addr} {xs ys : Array Value}
theorem call_zipM {Q : Value → Shared → Prop} (a1 : s.heap.IsList l1 xs) (a2 : s.heap.IsTuple l2 ys) (D : ZipApart (s.heap.objs.size + 4) (s.heap.objs.size + 2) (s.heap.objs.size + 3) s.heap.objs.size (s.heap.objs.size + 1) l1 l2)
    (hQ : ∀ h', Zst (Src.ofList (it := s.heap.objs.size) xs D.l1i1) (Src.ofTup (it := s.heap.objs.size + 1) ys D.l2i2) (s.heap.objs.size + 4) (s.heap.objs.size + 2) (s.heap.objs.size + 3) 0 0 h' →
      (∀ c o, s.heap.get? c = some o → h'.get? c = some o)
          → Q (.ref (s.heap.objs.size + 4)) { s with heap := h' }) :
    wpAny (model prog w) A (call (.type "zip")
        [.ref l1, .ref l2]) Q E s := by
  refine callType_new PySem.F.called_zip (by decide) (PySem.F.typeCall_zip_2 _ _) (PySem.F.newCall_zip_2 _ _) (fun obj => PySem.F.args_object_init_3 obj _ _) PySem.F.entry_zip_new (zm_new l1 l2 xs ys) ⟨a1, a2, ?_⟩
  obtain ⟨n1, n2, n3, n4⟩ := zh_size s.heap l1 l2
  have k : ∀ c o, s.heap.get? c = some o → (zh5 s.heap l1 l2).get? c = some o := fun c o x => Heap.get?_push_of_some _ (Heap.get?_push_of_some _ (Heap.get?_push_of_some _ (Heap.get?_push_of_some _ (Heap.get?_push_of_some _ x))))
  have p5 : (zh5 s.heap l1 l2).get? (zh4 s.heap l1 l2).objs.size = some _ := Heap.get?_push_size _ rfl
  have p4 : (zh5 s.heap l1 l2).get? (zh3 s.heap l1 l2).objs.size = some _ := Heap.get?_push_of_some _ (Heap.get?_push_size _ rfl)
  have p3 : (zh5 s.heap l1 l2).get? (zh2 s.heap l1 l2).objs.size = some _ := Heap.get?_push_of_some _ (Heap.get?_push_of_some _ (Heap.get?_push_size _ rfl))
  have p2 : (zh5 s.heap l1 l2).get? (zh1 s.heap l1).objs.size = some _ := Heap.get?_push_of_some _ (Heap.get?_push_of_some _ (Heap.get?_push_of_some _ (Heap.get?_push_size _ rfl)))
  have p1 : (zh5 s.heap l1 l2).get? s.heap.objs.size = some _ := Heap.get?_push_of_some _ (Heap.get?_push_of_some _ (Heap.get?_push_of_some _ (Heap.get?_push_of_some _ (Heap.get?_push_size _ rfl))))
  show _ ∧ _
  rw [n2, n3, n4] at p5
  rw [n1, n2] at p3
  rw [n3] at p4
  rw [n1] at p2
  rw [n4]
  exact ⟨⟨_, p5, rfl⟩, hQ _ ⟨p5, p3, ⟨_, _, p4⟩, ⟨⟨_, p1, rfl, rfl⟩, a1.at fun o e => k _ o e⟩, ⟨⟨_, p2, rfl, rfl⟩, a2.at fun o e => k _ o e⟩⟩ k⟩
end
/-! ### its turns -/
/-- a list beside a tuple -/
def ItzM (K : PySem.W.Frag) (a b : Addr) : It :=
  ⟨fun i H => ∃ (xs ys : List V) (x y : V), (SqL K H a xs ∧ xs[i]? = some x) ∧ SqT K H b ys ∧ ys[i]? = some y,
   fun i H v H' => ∃ T x y, (v = .ref T ∧ H T = none) ∧ H' = upd H T (.tup [x, y]) ∧ (∀ xs, SqL K H a xs → xs[i]? = some x) ∧ (∀ ys, SqT K H b ys → ys[i]? = some y),
   fun i H => ∃ xs ys : List V, (SqL K H a xs ∧ SqT K H b ys) ∧ (xs.length ≤ i ∨ ys.length ≤ i)⟩
/-- the zip at turn i, with some rows of values -/
def ZmSt (z TI TO i1 i2 a b : Addr) (D : ZipApart z TI TO i1 i2 a b) (i : Nat) (h : Heap) : Prop :=
  IsZip h z TI TO .none ∧ IsPair h TI (.ref i1) (.ref i2) ∧ (∃ x y, IsPair h TO x y) ∧ h.IsListIter i1 a i ∧ h.IsTupleIter i2 b i
theorem five {c z TI TO i1 i2 : Addr} (h : c ∈ [z, TI, TO, i1, i2]) : c = z ∨ c = TI ∨ c = TO ∨ c = i1 ∨ c = i2 := by simpa using h
theorem turn_zipM {P : Program} {w : World} {K : PySem.W.Frag} {elts : List Expr} {kk : Nat} {tpos : Pos} {a b z TI TO i1 i2 : Addr} (D : ZipApart z TI TO i1 i2 a b) :
    Turn P w K (.Tuple elts kk tpos) (ItzM K a b) [z, TI, TO, i1, i2] z (ZmSt z TI TO i1 i2 a b D) where
  mem := by simp
  obj := by
    rintro i h ⟨hz, hTI, ⟨x, y, hTO⟩, ⟨o1, e1, _, d1⟩, ⟨o2, e2, _, d2⟩⟩ c hc
    rcases five hc with rfl | rfl | rfl | rfl | rfl
    · exact ⟨_, hz, fun v q => nomatch q⟩
    · exact ⟨_, hTI, fun v q => nomatch q⟩
    · exact ⟨_, hTO, fun v q => nomatch q⟩
    · exact ⟨o1, e1, fun v q => by rw [d1] at q; cases q⟩
    · exact ⟨o2, e2, fun v q => by rw [d2] at q; cases q⟩
  keep := by
    rintro i h h' ⟨hz, hTI, ⟨x, y, hTO⟩, h1, h2⟩ k
    exact ⟨k z (by simp) _ hz, k TI (by simp) _ hTI, ⟨x, y, k TO (by simp) _ hTO⟩, h1.at (k i1 (by simp)), h2.at (k i2 (by simp))⟩
  item := by
    rintro X rfl rfl rfl hc i pins s σ H E I hf ⟨hz, hTI, hTO, h1, h2⟩ ⟨xs, ys, x, y, ⟨hqx, hx⟩, hqy, hy⟩
    obtain ⟨us, r1, p1, _⟩ := I.list hqx
    obtain ⟨vs, r2, p2, _⟩ := I.tuple hqy
    obtain ⟨u, hu, ru⟩ := r1.get hx
    obtain ⟨v, hv, rv⟩ := r2.get hy
    have Z : Zst (Src.ofList us.toArray D.l1i1) (Src.ofTup vs.toArray D.l2i2) z TI TO i i s.heap := ⟨hz, hTI, hTO, ⟨h1, p1.isList⟩, ⟨h2, p2⟩⟩
    have zl : z < s.heap.objs.size := Heap.lt_size hz
    refine zn_item _ _ D Z (x := u) (y := v) (by simpa using hu) (by simpa using hv) fun h' z' TO' n1 n2 hT st => ⟨_, rfl, wpAny_letOwnedTupleGo_zip (s := { s with heap := h' }) z' fun h2' z2 sb => ?_⟩
    have hT2 : h2'.get? s.heap.objs.size = some { cls := .type "tuple", data := .seq #[u, v] } := (sb.2 _ (Nat.ne_of_gt zl)).trans hT
    have new : ObjOk X.prog X.w (upd H s.heap.objs.size (.tup [x, y])) h2' s.heap.objs.size (.tup [x, y]) := ⟨by show 2 ≤ sizeLine; decide, [u, v], .cons ru (.cons rv .nil), ⟨_, hT2, rfl, _, rfl⟩⟩
    have old : ∀ c o, c ∉ [z, TI, TO, i1, i2] → s.heap.get? c = some o → h2'.get? c = some o := fun c o hb q =>
      (sb.2 c fun e => hb (by simp [e])).trans (st c o ⟨fun e => hb (by simp [e]), fun e => hb (by simp [e]), fun e => hb (by simp [e]), fun e => hb (by simp [e])⟩ q)
    have I1 : Inv X pins σ (upd H s.heap.objs.size (.tup [x, y])) { s with heap := h2' } := I.turnedNew (t' := s.toks) (ch := [z, TI, TO, i1, i2]) old hf (Nat.le_refl _) new
    refine ⟨.ref s.heap.objs.size, _, I1, rfl, ⟨_, x, y, ⟨rfl, I.hok.fresh (Nat.le_refl _)⟩, rfl, fun l hl => by rw [I.list_inj hl hqx]; exact hx, fun l hl => by rw [I.tuple_inj hl hqy]; exact hy⟩, ⟨z2, ?_, ⟨u, v, ?_⟩, ?_, ?_⟩, fun c hcm => ?_⟩
    · exact (sb.2 _ D.TIz).trans (st _ _ ⟨D.TIz, D.TITO, D.TIi1, D.TIi2⟩ hTI)
    · exact (sb.2 _
          D.TOz).trans TO'
    · exact n1.1.at fun o q => (sb.2 _ D.i1z).trans q
    · exact n2.1.at fun o q => (sb.2 _ D.i2z).trans q
    · have lt : c < s.heap.objs.size := by
        obtain ⟨x0, y0, hTO⟩ := hTO
        rcases five hcm with rfl | rfl | rfl | rfl | rfl
        · exact zl
        · exact Heap.lt_size hTI
        · exact Heap.lt_size hTO
        · exact Src.lt _ Z.one
        · exact Src.lt _ Z.two
      rw [upd_ne (Nat.ne_of_lt lt)]
      exact (hf c hcm).1
  done := by
    rintro X rfl rfl rfl hc i pins s σ H E I hf ⟨hz, hTI, hTO, h1, h2⟩ ⟨xs, ys, ⟨hqx, hqy⟩, no⟩
    obtain ⟨us, r1, p1, _⟩ := I.list hqx
    obtain ⟨vs, r2, p2, _⟩ := I.tuple hqy
    have Z : Zst (Src.ofList us.toArray D.l1i1) (Src.ofTup vs.toArray D.l2i2) z TI TO i i s.heap := ⟨hz, hTI, hTO, ⟨h1, p1.isList⟩, ⟨h2, p2⟩⟩
    have n1 := r1.length
    have n2 := r2.length
    have he : us.toArray[i]? = none ∨ vs.toArray[i]? = none := no.imp (fun q => by simp; omega) fun q => by simp; omega
    exact zn_last _ _ (I.ok.hd hc) D Z he fun h' st => ⟨rfl, I.turnedL (t' := s.toks) (ch := [z, TI, TO, i1, i2]) (fun c o hb q =>
      st c o ⟨fun e => hb (by simp [e]), fun e => hb (by simp [e]), fun e => hb (by simp [e]), fun e => hb (by simp [e])⟩ q) hf⟩
  self := fun A i s Q E st h =>
      wpAny_pyIter_zip st.1 h
def iZipM (K : PySem.W.Frag) (ta : TA) : TI := fun σ H R => ta σ H fun vs H1 => ∃ a b xs ys, (vs = [.ref a, .ref b] ∧ SqL K H1 a xs ∧ SqT K H1 b ys) ∧ R (ItzM K a b) H1
theorem pi_zipM {X : Cx} {e e2 : Expr} {ta : TA} {p pos tpos : Pos} {elts : List Expr} {kk : Nat} (hg : Gl X "zip") (hm : X.mg "zip" = none) (ha : PA X [e, e2] ta) (hs : starEach [e, e2] X.env = (false, eval e X.env) :: starEach [e2] X.env)
    (hpl : (backTo pos (starEach [e2] X.env)).any (·.1) = false) : PI X (.Tuple elts kk tpos) (.Call (.Name "zip" p) [e, e2] [] pos) (iZipM X.K ta) := by
  refine ⟨fun pins s σ H R I h => Call_ (ld_blt I hg hm PyProof.Rows.boot_zip (PyProof.Rows.callWith_type1 (thn (ha.run pos pins s σ H _ I h) fun us s1 ⟨vs, H1, I1, r1, q1⟩ => ?_) hs hpl))⟩
  obtain ⟨a, b, xs, ys, ⟨rfl, hqx, hqy⟩, q⟩ := q1
  obtain ⟨u, us', rfl, ru, r2⟩ : ∃ u us', us = u :: us' ∧ RelV (.ref a) u ∧ Vals [.ref b] us' := by
    cases r1 with
    | cons r rr => exact ⟨_, _, rfl, r, rr⟩
  obtain ⟨v, rfl, rv⟩ := vals1 r2
  cases ru
  cases rv
  obtain ⟨is, w1, p1, _⟩ := I1.list hqx
  obtain ⟨js, w2, p2, _⟩ := I1.tuple hqy
  obtain ⟨o2, ho2, _⟩ := id p2
  have D := PySem.W.ktu_apart s1.heap.objs.size a b p1.lt (Heap.lt_size ho2)
  have free : ∀ c, c ∈ [s1.heap.objs.size + 4, s1.heap.objs.size + 2, s1.heap.objs.size + 3, s1.heap.objs.size, s1.heap.objs.size + 1] → FpOk X pins H1 c := fun c hcm => by
    have le : s1.heap.objs.size ≤ c := by
      rcases five hcm with rfl | rfl | rfl | rfl | rfl <;> omega
    exact I1.fpOk le (I1.hok.fresh le)
  refine call_zipM p1.isList p2 D fun h' Z k => wpAny_pyIter_zip Z.zip ?_
  exact ⟨_, _, _, _, H1, rfl, I1.kept (t' := s1.toks) k, turn_zipM D, ⟨Z.zip, Z.its, Z.out, Z.one.1, Z.two.1⟩, free, q⟩
end DL
/-! Iterators of any row, pairs, stores at places, append, join. -/
namespace DL
open PySem PySem.Spec L2
open PyProof.Rows hiding St
/-! ### iterators -/
def itemsD : Dat → Option (List Dat)
  | .lst ds => some ds
  | .tup ds => some ds
  | .str z => some (z.cps.toList.map chS)
  | _ => none
def iAny (f : EM R) : EM (List Dat) := eBind f fun r => eBind (eForce r) fun d => eOpt (itemsD d)
def numbered : Nat → List Dat → List Dat
  | _, [] => []
  | n, d :: ds => .tup [.int n, d] :: numbered (n + 1) ds
def pairsD : List Dat → List Dat → List Dat
  | a :: as, b :: bs => .tup [a, b] :: pairsD as bs
  | _, _ => []
theorem numbered_len : ∀ (n : Nat) (ds : List Dat), (numbered n ds).length = ds.length
  | _, [] => rfl
  | n, d :: ds => by
    show (numbered (n + 1) ds).length + 1 = ds.length + 1
    rw [numbered_len (n + 1) ds]
theorem numbered_get : ∀ (n : Nat) (ds : List Dat) (i : Nat), (numbered n ds)[i]? = ds[i]?.map fun d => Dat.tup [.int ((n + i : Nat) : Int), d]
  | _, [], i => by simp [numbered]
  | n, d :: ds, 0 => by simp [numbered]
  | n, d :: ds, i + 1 => by
    show (numbered (n + 1) ds)[i]? = _
    rw [numbered_get (n + 1) ds i]
    rw [show n + 1 + i = n + (i + 1) by omega]
    rfl
theorem pairsD_len : ∀ (as bs : List Dat), (pairsD as bs).length = min as.length bs.length
  | [], bs => by simp [pairsD]
  | a :: as, [] => by simp [pairsD]
  | a :: as, b :: bs => by simp [pairsD, pairsD_len as bs]
theorem pairsD_get : ∀ (as bs : List Dat) (i : Nat) (a b : Dat), as[i]? = some a → bs[i]? = some b → (pairsD as bs)[i]? = some (.tup [a, b])
  | [], bs, i, _, _, e, _ => by simp at e
  | a :: as, [], i, _, _, _, e => by simp at e
  | a :: as, b :: bs, 0, _, _, e1, e2 => by
    simp at e1 e2
    subst e1 e2
    rfl
  | a :: as, b :: bs, i + 1, _, _, e1, e2 => by
    show (pairsD as bs)[i]? = _
    exact pairsD_get as bs i _ _ (by simpa using e1) (by simpa using e2)
section
variable {mg : Str → Option Value} {p : Addr → Prop} {H : Hp} {ds : List Dat}
theorem it_str {z : Str} : ItOk mg p H (Its z) (z.cps.toList.map chS) := by
  intro p' H' hs hp hd
  rw [List.length_map,
      Array.length_toList]
  refine ⟨fun i hi => hi, fun i hi => hi, fun i x H'' hy hi => ?_⟩
  obtain ⟨rfl, c, e, rfl⟩ := hy
  exact ⟨fun _ _ e => e, chS c, by rw [List.getElem?_map, Array.getElem?_toList, e]; rfl, .str⟩
theorem pair_new {T : Addr} {a b : Dat} {x y : V} {p' : Addr → Prop} {H' : Hp} (hT : H' T = none) (hd : ∀ a, p' a → H' a ≠ none) (h1 : IsD mg p' H' a x) (h2 : IsD mg p' H' b y) : IsD mg p' (upd H' T (.tup [x, y])) (.tup [a, b]) (.ref T) :=
  .tup (fun z => hd T z hT) upd_same ((IsDs.cons h1 (.one h2)).mono (fun _ z => z) fun b o e _ => ext_new hT b o e)
theorem it_enum {K : PySem.W.Frag} {a : Addr} {vs : List V} (n : ¬ p a) (h : H a = some (.lst vs)) (r : IsDs mg p H ds vs) : ItOk mg p H (Ite K a) (numbered 0 ds) := by
  intro p' H' hs hp hd
  have h' : H' a = some (.lst vs) := hs a _ h n
  have r' : IsDs mg p' H' ds vs := r.all.mono hp (fun b o e z => hs b o e fun z' => z (.inl z'))
  rw [numbered_len]
  refine ⟨fun i hi => ?_, fun i hi => ⟨vs, SqL.of h', by rw [← r.length]; exact hi⟩, fun i x H'' hy hi => ?_⟩
  · obtain ⟨v, e1, _⟩ := r'.get (List.getElem?_eq_getElem hi)
    exact ⟨vs, v, SqL.of h', e1⟩
  · obtain ⟨T, z, rfl, hT, rfl, hv⟩ := hy
    obtain ⟨d, e1, e2⟩ := r'.get' (hv vs (SqL.of h'))
    refine ⟨ext_new hT, _, by rw [numbered_get, e1]; rfl, ?_⟩
    rw [Nat.zero_add]
    exact pair_new hT hd .int e2
theorem it_zipLL {K : PySem.W.Frag} {a b : Addr} {xs ys : List V} {as bs : List Dat} (n : ¬ p a) (h : H a = some (.lst xs)) (r : IsDs mg p H as xs) (m : ¬ p b) (g : H b = some (.lst ys)) (t : IsDs mg p H bs ys) : ItOk mg p H (Itz K a b) (pairsD as bs) := by
  intro p' H' hs hp hd
  have h' : H' a = some (.lst xs) := hs a _ h n
  have g' : H' b = some (.lst ys) := hs b _ g m
  have r' : IsDs mg p' H' as xs := r.all.mono hp (fun b o e z => hs b o e fun z' => z (.inl z'))
  have t' : IsDs mg p' H' bs ys := t.all.mono hp (fun b o e z => hs b o e fun z' => z (.inl z'))
  rw [pairsD_len]
  refine ⟨fun i hi => ?_, fun i hi => ⟨xs, ys, SqL.of h', SqL.of g', by rw [← r.length, ← t.length]; omega⟩, fun i x H'' hy hi => ?_⟩
  · obtain ⟨v, e1, _⟩ := r'.get (List.getElem?_eq_getElem (Nat.lt_of_lt_of_le hi (Nat.min_le_left _ _)))
    obtain ⟨u, e2, _⟩ := t'.get (List.getElem?_eq_getElem (Nat.lt_of_lt_of_le hi (Nat.min_le_right _ _)))
    exact ⟨xs, ys, v, u, SqL.of h', SqL.of g', e1, e2⟩
  · obtain ⟨T, z, w, rfl, hT, rfl, hv, hw⟩ := hy
    obtain ⟨d, e1, e2⟩ := r'.get' (hv xs (SqL.of h'))
    obtain ⟨e, e3, e4⟩ := t'.get' (hw ys (SqL.of g'))
    exact ⟨ext_new hT, _, pairsD_get as bs i _ _ e1 e3, pair_new hT hd e2 e4⟩
theorem it_zipTT {K : PySem.W.Frag} {a b : Addr} {xs ys : List V} {as bs : List Dat} (n : ¬ p a) (h : H a = some (.tup xs)) (r : IsDs mg p H as xs) (m : ¬ p b) (g : H b = some (.tup ys)) (t : IsDs mg p H bs ys) : ItOk mg p H (RZ.ItzT K a b) (pairsD as bs) := by
  intro p' H' hs hp hd
  have h' : H' a = some (.tup xs) := hs a _ h n
  have g' : H' b = some (.tup ys) := hs b _ g m
  have r' : IsDs mg p' H' as xs := r.all.mono hp (fun b o e z => hs b o e fun z' => z (.inl z'))
  have t' : IsDs mg p' H' bs ys := t.all.mono hp (fun b o e z => hs b o e fun z' => z (.inl z'))
  rw [pairsD_len]
  refine ⟨fun i hi => ?_, fun i hi => ⟨xs, ys, SqT.of h', SqT.of g', by rw [← r.length, ← t.length]; omega⟩, fun i x H'' hy hi => ?_⟩
  · obtain ⟨v, e1, _⟩ := r'.get (List.getElem?_eq_getElem (Nat.lt_of_lt_of_le hi (Nat.min_le_left _ _)))
    obtain ⟨u, e2, _⟩ := t'.get (List.getElem?_eq_getElem (Nat.lt_of_lt_of_le hi (Nat.min_le_right _ _)))
    exact ⟨xs, ys, v, u, SqT.of h', SqT.of g', e1, e2⟩
  · obtain ⟨T, z, w, rfl, hT, rfl, hv, hw⟩ := hy
    obtain ⟨d, e1, e2⟩ := r'.get' (hv xs (SqT.of h'))
    obtain ⟨e, e3, e4⟩ := t'.get' (hw ys (SqT.of g'))
    exact ⟨ext_new hT, _, pairsD_get as bs i _ _ e1 e3, pair_new hT hd e2 e4⟩
end
theorem it_zipLT {mg : Str → Option Value} {p : Addr → Prop} {H : Hp} {K : PySem.W.Frag} {a b : Addr} {xs ys : List V} {as bs : List Dat} (n : ¬ p a) (h : H a = some (.lst xs)) (r : IsDs mg p H as xs) (m : ¬ p b) (g : H b = some (.tup ys)) (t : IsDs mg p H bs ys) : ItOk mg p H (ItzM K a b) (pairsD as bs) := by
  intro p' H' hs hp hd
  have h' : H' a = some (.lst xs) := hs a _ h n
  have g' : H' b = some (.tup ys) := hs b _ g m
  have r' : IsDs mg p' H' as xs := r.all.mono hp (fun b o e z => hs b o e fun z' => z (.inl z'))
  have t' : IsDs mg p' H' bs ys := t.all.mono hp (fun b o e z => hs b o e fun z' => z (.inl z'))
  rw [pairsD_len]
  refine ⟨fun i hi => ?_, fun i hi => ⟨xs, ys, ⟨SqL.of h', SqT.of g'⟩, by rw [← r.length, ← t.length]; omega⟩, fun i x H'' hy hi => ?_⟩
  · obtain ⟨v, e1, _⟩ := r'.get (List.getElem?_eq_getElem (Nat.lt_of_lt_of_le hi (Nat.min_le_left _ _)))
    obtain ⟨u, e2, _⟩ := t'.get (List.getElem?_eq_getElem (Nat.lt_of_lt_of_le hi (Nat.min_le_right _ _)))
    exact ⟨xs, ys, v, u, ⟨SqL.of h', e1⟩, SqT.of g', e2⟩
  · obtain ⟨T, z, w, ⟨rfl, hT⟩, rfl, hv, hw⟩ := hy
    obtain ⟨d, e1, e2⟩ := r'.get' (hv xs (SqL.of h'))
    obtain ⟨e, e3, e4⟩ := t'.get' (hw ys (SqT.of g'))
    exact ⟨ext_new hT, _, pairsD_get as bs i _ _ e1 e3, pair_new hT hd e2 e4⟩
def iEnumD (fs : EM (List R)) : EM (List Dat) := eBind fs fun rs => eBind (eForces rs) fun ds => eOpt (match ds with
  | [.lst ds] => some (numbered 0 ds)
  | _ => none)
def iZipD (fs : EM (List R)) : EM (List Dat) := eBind fs fun rs => eBind (eForces rs) fun ds => eOpt (match ds with
  | [.lst as, .lst bs] => some (pairsD as bs)
  | [.tup as, .tup bs] => some (pairsD as bs)
  | [.lst as, .tup bs] => some (pairsD as bs)
  | _ => none)
section
variable {X : Cx} {tg e e2 : Expr} {es : List Expr} {pos p tpos : Pos} {kk : Nat} {elts : List Expr} {f : EM R} {fs : EM (List R)}
theorem di_any (he : PE X e (TD X.mg f)) : PI X tg e (TDI X.mg (iAny f)) := by
  refine PI.of (PI.or (PI.or (pi_list he) (pi_tup he)) (pi_str he)) ?_
  rintro σ H Q ⟨q, env, ds, env', R, ev, k⟩
  obtain ⟨r1, e1, h1, ev1⟩ := eBind_some ev
  obtain ⟨d, e2, h2, ev2⟩ := eBind_some ev1
  obtain ⟨h3, rfl⟩ := eOpt_some ev2
  cases d with
  | lst es =>
    cases h3
    refine .inl (.inl ⟨q, env, r1, e1, R, h1, fun v H1 R1 S1 i1 => ?_⟩)
    obtain ⟨R2, S2, hd⟩ := i1.force R1 h2
    cases hd with
    | lst n s r => exact ⟨_, rfl, ⟨_, SqL.of s⟩, k _ H1 R2 (S1.trans S2) (it_list n s r)⟩
  | tup es =>
    cases h3
    refine .inl (.inr ⟨q, env, r1, e1, R, h1, fun v H1 R1 S1 i1 => ?_⟩)
    obtain ⟨R2, S2, hd⟩ := i1.force R1 h2
    cases hd with
    | tup n s r => exact ⟨_, rfl, ⟨_, SqT.of s⟩, k _ H1 R2 (S1.trans S2) (it_tup n s r)⟩
  | str z =>
    cases h3
    refine .inr ⟨q, env, r1, e1, R, h1, fun v H1 R1 S1 i1 => ?_⟩
    obtain ⟨R2, S2, hd⟩ := i1.force R1 h2
    cases hd with
    | str => exact ⟨z, rfl, k _ H1 R2 (S1.trans S2) it_str⟩
  | _ => cases h3
theorem di_enum (hg : Gl X "enumerate") (hm : X.mg "enumerate" = none) (ha : PA X [e] (TDA X.mg fs)) (hs : starEach [e] X.env = [(false, eval e X.env)] := by rfl) :
    PI X (.Tuple elts kk tpos) (.Call (.Name "enumerate" p) [e] [] pos) (TDI X.mg (iEnumD fs)) := by
  refine PI.of (pi_enum hg hm ha hs) ?_
  rintro σ H Q ⟨q, env, ds, env', R, ev, k⟩
  obtain ⟨r1, e1, h1, ev1⟩ := eBind_some ev
  obtain ⟨d, e2, h2, ev2⟩ := eBind_some ev1
  obtain ⟨h3, rfl⟩ := eOpt_some ev2
  split at h3
  · cases h3
    refine ⟨q, env, r1, e1, R, h1, fun vs H1 R1 S1 i1 => ?_⟩
    obtain ⟨R2, S2, hd⟩ := i1.forces R1 h2
    cases hd with
    | cons a t =>
      cases t
      cases a with
      | lst n s r => exact ⟨_, _, rfl, SqL.of s, k _ H1 R2 (S1.trans S2) (it_enum n s r)⟩
  · cases h3
theorem di_zip (hg : Gl X "zip") (hm : X.mg "zip" = none) (ha : PA X [e, e2] (TDA X.mg fs))
    (hs : starEach [e, e2] X.env = (false, eval e X.env) :: starEach [e2] X.env :=
        by rfl) (hpl : (backTo pos (starEach [e2] X.env)).any (·.1) = false := by rfl) :
    PI X (.Tuple elts kk tpos) (.Call (.Name "zip" p) [e, e2] [] pos) (TDI X.mg (iZipD fs)) := by
  refine PI.of (PI.or (RZ.pi_zipA hg hm ha hs hpl) (pi_zipM hg hm ha hs hpl)) ?_
  rintro σ H Q ⟨q, env, ds, env', R, ev, k⟩
  obtain ⟨r1, e1, h1, ev1⟩ := eBind_some ev
  obtain ⟨d, e2, h2, ev2⟩ := eBind_some ev1
  obtain ⟨h3, rfl⟩ := eOpt_some ev2
  split at h3
  · cases h3
    refine .inl ⟨q, env, r1, e1, R, h1, fun vs H1 R1 S1 i1 => ?_⟩
    obtain ⟨R2, S2, hd⟩ := i1.forces R1 h2
    cases hd with
    | cons a t =>
      cases t with
      | cons b t =>
        cases t
        cases a with
        | lst n s r => cases b with
          | lst n2 s2 r2 => exact ⟨_, _, _, _, rfl, .inl ⟨SqL.of s, SqL.of s2, k _ H1 R2 (S1.trans S2) (it_zipLL n s r n2 s2 r2)⟩⟩
  · cases h3
    refine .inl ⟨q, env, r1, e1, R, h1, fun vs H1 R1 S1 i1 => ?_⟩
    obtain ⟨R2, S2, hd⟩ := i1.forces R1 h2
    cases hd with
    | cons a t =>
      cases t with
      | cons b t =>
        cases t
        cases a with
        | tup n s r => cases b with
          | tup n2 s2 r2 => exact ⟨_, _, _, _, rfl, .inr ⟨SqT.of s, SqT.of s2, k _ H1 R2 (S1.trans S2) (it_zipTT n s r n2 s2 r2)⟩⟩
  · cases h3
    refine .inr ⟨q, env, r1, e1, R, h1, fun vs H1 R1 S1 i1 => ?_⟩
    obtain ⟨R2, S2, hd⟩ := i1.forces R1 h2
    cases hd with
    | cons a t =>
      cases t with
      | cons b t =>
        cases t
        cases a with
        | lst n s r => cases b with
          | tup n2 s2 r2 => exact ⟨_, _, _, _, ⟨rfl, SqL.of s, SqT.of s2⟩, k _ H1 R2 (S1.trans S2) (it_zipLT n s r n2 s2 r2)⟩
  · cases h3
end
/-! ### stores -/
def sAsg (f : EM R) (g : Dat → EM Unit) : EM O := eBind f fun r => eBind (eForce r) fun d => eBind (g d) fun _ => eRet .nx
def sPar (i j : Nat) (fs : EM (List R)) : EM O := eBind fs fun rs => eBind (eForces rs) fun ds => match ds with
  | [a, b] => eBind (gPut i a) fun _ => eBind (gPut j b) fun _ => eRet .nx
  | _ => fun _ => none
def putAt (j : Nat) (k d : Dat) : EM O := fun env => match env[j]?, k with
  | some (some s), .int i => if s.wr = true then (match s.dat with
      | .lst ds => match ixN ds.length i with
        | some n => some (.nx, env.set j (some (s.put (.lst (ds.set n d)))))
        | none => none
      | _ => none) else none
  | _, _ => none
def sPut (j : Nat) (fi fe : EM R) : EM O := eBind fe fun r => eBind (eForce r) fun d => eBind (eVar j) fun _ => eBind fi fun k => eBind (eLook k) fun kd => putAt j kd d
def putEnd (j : Nat) (d : Dat) : EM R := fun env => match env[j]? with
  | some (some s) => if s.wr = true then (match s.dat with
      | .lst ds => if ds.length < 100000 then some (.val .non, env.set j (some (s.put (.lst (ds ++ [d]))))) else none
      | _ => none) else none
  | _ => none
/-- the slot holds a list that may be changed -/
def hasL (j : Nat) : EM Unit := fun env => match env[j]? with
  | some (some s) => if s.wr = true then (match s.dat with
      | .lst _ => some ((), env)
      | _ => none) else none
  | _ => none
def eApp (j : Nat) (fs : EM (List R)) : EM R := eBind fs fun rs => eBind (eForces rs) fun ds => match ds with
  | [d] => putEnd j d
  | _ => fun _ => none
section
variable {X : Cx} {tg e a b : Expr} {es : List Expr} {pos p tpos : Pos} {f g fi fe : EM R} {fs : EM (List R)} {gs : List Nat} {g1 : Dat → EM Unit}
theorem ds_asg (he : PE X e (TD X.mg f)) (hg : PG X tg (TDG X.mg gs g1)) (hs : swapsWithSole [tg] e pos.line X.env = pure false := by rfl) (hw : swappedStores [tg] e X.env = pure none := by rfl)
    (h1 : (assignEach [tg] X.env).map (·.2) = [assign tg X.env] := by rfl) : PS X (.Assign [tg] e pos) (TDS X.mg (sAsg f g1)) := by
  refine PS.of (ps_asg he hg hs hw h1) ?_
  rintro D σ H ⟨q, env, o, env', R, ev, k⟩
  obtain ⟨r1, e1, h1, ev1⟩ := eBind_some ev
  obtain ⟨d, e2, h2, ev2⟩ := eBind_some ev1
  obtain ⟨⟨⟩, e3, h3, ev3⟩ := eBind_some ev2
  obtain ⟨rfl, rfl⟩ := eRet_some ev3
  refine ⟨q, env, r1, e1, R, h1, fun v H1 R1 S1 i1 => ?_⟩
  obtain ⟨R2, S2, d2⟩ := i1.force R1 h2
  exact ⟨q, e2, d, _, R2, d2, h3, fun σ' R3 S3 => k σ' H1 R3 ((S1.trans S2).to.trans S3.to)⟩
theorem ds_par {i j : Nat} {x y : Str} {px py pt : Pos} {kt k2 : Nat} {pt2 : Pos} (hc : X.calm = true) (hN : X.N.Nodup) (hi : X.N[i]? = some x) (hj : X.N[j]? = some y) (hij : i ≠ j)
    (hx : X.env.scope.names.lookup x = some .local) (hy : X.env.scope.names.lookup y = some .local) (ha : PA X [a, b] (TDA X.mg fs))
    (hw : swappedStores [.Tuple [.Name x px, .Name y py]
        kt pt] (.Tuple [a, b] k2 pt2) X.env = pure (some [x, y]))
    (hs : swapsWithSole [.Tuple [.Name x px, .Name y py] kt pt]
        (.Tuple [a, b] k2 pt2) pos.line X.env = pure false := by rfl) :
    PS X (.Assign [.Tuple [.Name x px, .Name y py] kt pt] (.Tuple [a, b] k2 pt2) pos) (TDS X.mg (sPar i j fs)) := by
  refine PS.of (ps_par hc hN hi hj hij hx hy ha hw hs) ?_
  rintro D σ H ⟨q, env, o, env', R, ev, k⟩
  obtain ⟨r1, e1, h1, ev1⟩ := eBind_some ev
  obtain ⟨ds, e2, h2, ev2⟩ := eBind_some ev1
  refine ⟨q, env, r1, e1, R, h1, fun vs H1 R1 S1 i1 => ?_⟩
  obtain ⟨R2, S2, hd⟩ := i1.forces R1 h2
  split at ev2
  · obtain ⟨⟨⟩, e3, h3, ev3⟩ := eBind_some ev2
    obtain ⟨⟨⟩, e4, h4, ev4⟩ := eBind_some ev3
    obtain ⟨rfl, rfl⟩ := eRet_some ev4
    cases hd with
    | cons d1 t =>
      cases t with
      | cons d2 t =>
        cases t
        obtain ⟨R3, S3⟩ := gPut_ok R2 d1 h3
        obtain ⟨R4, S4⟩ := gPut_ok R3 (Step.isD (H' := H1) S3.to d2) h4
        exact ⟨_, _, rfl, k _ H1 R4 (((S1.trans S2).to.trans S3.to).trans S4.to)⟩
  · cases ev2
theorem ds_put {j : Nat} {x : Str} {px : Pos} {i : Expr} (hN : X.N[j]? = some x) (hv : Vis X.env.scope x) (hd : (x == ("__debug__" : Str)) = false) (hcd : (x == ("__classdict__" : Str)) = false) (hi : PE X i (TD X.mg fi)) (he : PE X e (TD X.mg fe))
    (ha : ∀ v, assign (.Subscript (.Name x px) i tpos) X.env v = (do let ov ← holding [v] (eval (.Name x px) X.env); let iv ← holding [v, ov] (eval i X.env); standAt tpos; holding [v, ov, iv] (setItem ov iv v); release [v, ov, iv] []) := by intro _; rfl)
    (hs : swapsWithSole [.Subscript (.Name x px) i tpos] e pos.line X.env = pure false := by rfl) (hw : swappedStores [.Subscript (.Name x px) i tpos] e X.env = pure none := by rfl)
    (h1 : (assignEach [.Subscript (.Name x px) i tpos] X.env).map (·.2) = [assign (.Subscript (.Name x px) i tpos) X.env] := by rfl) : PS X (.Assign [.Subscript (.Name x px) i tpos] e pos) (TDS X.mg (sPut j fi fe)) := by
  refine PS.of (ps_asg he (pg_sub (pe_var hN hv hd hcd) hi set_list ha) hs hw h1) ?_
  rintro D σ H ⟨q, env, o, env', R, ev, k⟩
  obtain ⟨r1, e1, h1, ev1⟩ := eBind_some ev
  obtain ⟨d, e2, h2, ev2⟩ := eBind_some ev1
  obtain ⟨r0, e0, h0, ev2⟩ := eBind_some ev2
  unfold eVar at h0
  split at h0
  · rename_i s0 hs0
    cases h0
    obtain ⟨r3, e3, h3, ev3⟩ := eBind_some ev2
    obtain ⟨kd, e4, h4, ev4⟩ := eBind_some ev3
    obtain ⟨h4', rfl⟩ := eLook_some h4
    refine ⟨q, env, r1, e1, R, h1, fun v H1 R1 S1 i1 => ?_⟩
    obtain ⟨R2, S2, d2⟩ := i1.force R1 h2
    obtain ⟨v0, hv0⟩ := R2.slot hs0
    refine ⟨v0, hv0, q, e2, r3, e4, R2, h3, fun kv H2 R3 S3 i3 => ?_⟩
    have ik := i3.look R3 h4'
    have dv := S3.isD d2
    unfold putAt at ev4
    split at ev4
    · rename_i s i hs
      split at ev4
      · rename_i hwr
        split at ev4
        · rename_i ds hds
          split at ev4
          · rename_i n hn
            cases ev4
            obtain ⟨a, ha, nq, t⟩ := R3.wr j s hs hwr
            rw [ha] at hv0
            cases hv0
            rw [hds] at t
            obtain ⟨vs, ea, it⟩ := t
            have pa : Prot q e4 σ a := .inr ⟨j, s, hs, hwr, ha⟩
            obtain ⟨R4, S4⟩ := R3.change (o := .lst (vs.set n v)) (d := .lst (ds.set n d)) hs hwr ha ⟨_, upd_same, (it.set n dv).mono (fun _ z => z) fun b u e nb => by
              rw [upd_ne fun z => nb (by rw [z]; exact pa)]
              exact e⟩
            exact ⟨a, vs, i, n, rfl, ik.intE, ea, by rw [← it.length]; exact hn, k σ _ R4 (((S1.trans S2).trans S3).trans S4).to⟩
          · cases ev4
        · cases ev4
      · cases ev4
    · cases ev4
  · cases h0
theorem d_app {j : Nat} {x : Str} {px apos : Pos} (hN : X.N[j]? = some x) (hv : Vis X.env.scope x) (hd : (x == ("__debug__" : Str)) = false) (hcd : (x == ("__classdict__" : Str)) = false) (ha : PA X (e :: es) (TDA X.mg fs))
    (hbase : attributeBase (.Name x px) "append" X.env (eval (.Name x px) X.env) = eval (.Name x px) X.env := by rfl)
    (hfew : ((backTo pos (starEach (e :: es) X.env)).all (fun x => !x.1) && (backToKw pos (keywordEach [] X.env)).all (fun x => x.1.isSome) && decide ((e :: es).length + ([] : List Keyword).length + (if ([] : List Keyword).isEmpty then 0 else 1) < 30)) = true := by rfl)
    (hline : (apos.endLine == pos.line) = true := by rfl) (hs : starEach (e :: es) X.env = (false, eval e X.env) :: starEach es X.env := by rfl) (hpl : (backTo pos (starEach es X.env)).any (·.1) = false := by rfl) :
    PE X (.Call (.Attribute (.Name x px) "append" apos) (e :: es) [] pos) (TD X.mg (eBind (hasL j) fun _ => eApp j fs)) := by
  refine PE.of (pe_bm PySem.F.plainAttrs_list PySem.F.slot_list_append PySem.F.type_list_append mt_append (pe_var hN hv hd hcd) ha hbase hfew hline hs hpl) ?_
  rintro σ H Q ⟨q, env, o, env', R, ev, k⟩
  obtain ⟨⟨⟩, e0, h0, ev⟩ := eBind_some ev
  unfold hasL at h0
  split at h0
  · rename_i s0 hs0
    split at h0
    · rename_i hw0
      split at h0
      · rename_i ds0 hd0
        cases h0
        obtain ⟨rs, e1, h1, ev1⟩ := eBind_some ev
        obtain ⟨ds, e2, h2, ev2⟩ := eBind_some ev1
        obtain ⟨a, ha, nq, t⟩ := R.wr j s0 hs0 hw0
        rw [hd0] at t
        obtain ⟨vs0, ea0, it0⟩ := t
        refine ⟨_, ha, .inl ⟨rfl, vs0, SqL.of ea0⟩, q, env, rs, e1, R, h1, fun us H1 R1 S1 i1 => ?_⟩
        obtain ⟨R2, S2, hd⟩ := i1.forces R1 h2
        split at ev2
        · rename_i d
          unfold putEnd at ev2
          split at ev2
          · rename_i s hs
            split at ev2
            · rename_i hwr
              split at ev2
              · rename_i xs hds
                split at ev2
                · rename_i hz
                  cases ev2
                  obtain ⟨a2, ha2, nq2, t⟩ := R2.wr j s hs hwr
                  rw [ha] at ha2
                  cases ha2
                  rw [hds] at t
                  obtain ⟨vs, ea, it⟩ := t
                  cases hd with
                  | cons dv t =>
                    cases t
                    rename_i v
                    have pa : Prot q e2 σ a := .inr ⟨j, s, hs, hwr, ha⟩
                    obtain ⟨R3, S3⟩ := R2.change (o := .lst (vs ++ [v])) (d := .lst (xs ++ [d])) hs hwr ha ⟨_, upd_same, (it.append (.one dv)).mono (fun _ z => z) fun b u e nb => by
                      rw [upd_ne fun z => nb (by rw [z]; exact pa)]
                      exact e⟩
                    exact ⟨a, vs, v, rfl, rfl, ea, by rw [← it.length]; exact Nat.lt_of_lt_of_le hz (sz_ok (Nat.le_refl _)), k .non _ R3 ((S1.trans S2).trans S3) .non⟩
                · cases ev2
              · cases ev2
            · cases ev2
          · cases ev2
        · cases ev2
      · cases h0
    · cases h0
  · cases h0
end
def strsD : List Dat → Option (List Str)
  | [] => some []
  | .str z :: ds => (strsD ds).map fun zs => z :: zs
  | _ => none
def rowD : Dat → Option (List Str)
  | .lst ds => strsD ds
  | .tup ds => strsD ds
  | _ => none
def eJoin (f g : EM R) : EM R := eBind f fun r => eBind (eLook r) fun a => match a with
  | .str z => eBind g fun s => eBind (eLook s) fun b => eBind (eOpt (rowD b)) fun zs => eOpt (if (zs.map (·.length)).sum + zs.length * z.length ≤ 100000 then some (.val (.str (Txt.join z zs))) else none)
  | _ => fun _ => none
section
variable {X : Cx} {tg e a b : Expr} {es : List Expr} {pos p tpos : Pos} {f g fi fe : EM R} {fs : EM (List R)}
theorem strs_vs {mg : Str → Option Value} {p : Addr → Prop} {H : Hp} : ∀ {ds : List Dat} {vs : List V} {zs : List Str}, IsDs mg p H ds vs → strsD ds = some zs → vs = zs.map V.str
  | _, _, _, .nil, h => by cases h; rfl
  | _, _, _, .cons (d := d) a t, h => by
    cases d with
    | str b =>
      obtain ⟨bs', e, rfl⟩ := omap h
      cases a
      rw [strs_vs t e]
      rfl
    | _ => cases h
theorem d_join {apos : Pos} (ho : PE X a (TD X.mg f)) (he : PE X e (TD X.mg g)) (hs : starEach [e] X.env = [(false, eval e X.env)] := by rfl) (hbase : attributeBase a "join" X.env (eval a X.env) = eval a X.env := by rfl) (hline : (apos.endLine == pos.line) = true := by rfl) :
    PE X (.Call (.Attribute a "join" apos) [e] [] pos) (TD X.mg (eJoin f g)) := by
  refine PE.of (pe_join ho he hs hbase hline) ?_
  rintro σ H Q ⟨q, env, o, env', R, ev, k⟩
  obtain ⟨r1, e1, h1, ev1⟩ := eBind_some ev
  obtain ⟨d1, e2, h2, ev2⟩ := eBind_some ev1
  obtain ⟨h2', rfl⟩ := eLook_some h2
  split at ev2
  · rename_i z
    obtain ⟨r3, e3, h3, ev3⟩ := eBind_some ev2
    obtain ⟨d4, e4, h4, ev4⟩ := eBind_some ev3
    obtain ⟨h4', rfl⟩ := eLook_some h4
    obtain ⟨zs, e5, h5, ev5⟩ := eBind_some ev4
    obtain ⟨h5', rfl⟩ := eOpt_some h5
    obtain ⟨h6, rfl⟩ := eOpt_some ev5
    split at h6
    · rename_i hz
      cases h6
      refine ⟨q, env, r1, e2, R, h1, fun v H1 R1 S1 i1 => ?_⟩
      have iv := i1.look R1 h2'
      refine ⟨⟨z, iv.strE⟩, q, e2, r3, env', R1, h3, fun w H2 R2 S2 i2 => ?_⟩
      have iw := i2.look R2 h4'
      have hz2 : (zs.map (·.length)).sum + zs.length * z.length ≤ 16777216 := by omega
      cases d4 with
      | lst ds =>
        obtain ⟨a1, xs, rfl, ea, d1⟩ := iw.lstE
        have := strs_vs d1 h5'
        subst this
        exact ⟨z, a1, zs, iv.strE, rfl, .inl (SqL.of ea), hz2, k _ H2 R2 (S1.trans S2) .str⟩
      | tup ds =>
        obtain ⟨a1, xs, rfl, n1, ea, d1⟩ := iw.tupE
        have := strs_vs d1 h5'
        subst this
        exact ⟨z, a1, zs, iv.strE, rfl, .inr (SqT.of ea), hz2, k _ H2 R2 (S1.trans S2) .str⟩
      | _ => cases h5'
    · cases h6
  · cases ev2
end
end DL
/-! The rules in short: for derivations that a printer writes. -/
namespace DL
open PySem PySem.Spec L2
open PyProof.Rows hiding St
/-- the built-in names stand for themselves -/
structure MgB (mg : Str → Option Value) : Prop where
  isinstance : mg "isinstance" = none
  list : mg "list" = none
  tuple : mg "tuple" = none
  dict : mg "dict" = none
  int : mg "int" = none
  bool : mg "bool" = none
  str : mg "str" = none
  len : mg "len" = none
  all : mg "all" = none
  any : mg "any" = none
  zip : mg "zip" = none
  set : mg "set" = none
  enumerate : mg "enumerate" = none
  range : mg "range" = none
  abs : mg "abs" = none
section
variable {X : Cx} {a b c d e : Expr} {es : List Expr} {pos : Pos} {f g h : EM R} {fs : EM (List R)} {u v : EM Bool}
theorem dv (i : Nat) {x : Str} (hN : X.N[i]? = some x := by rfl) (hv : Vis X.env.scope x := by first | exact Or.inl rfl | exact Or.inr (Or.inl rfl) | exact Or.inr (Or.inr rfl)) (hd : (x == ("__debug__" : Str)) = false := by decide)
    (hcd : (x == ("__classdict__" : Str)) = false := by decide) : PE X (.Name x pos) (TD X.mg (eVar i)) := d_var hN hv hd hcd
theorem dint {i : Int} {j} : PE X (.Constant (.int i) j pos) (TD X.mg (eCon (.int i))) := d_con (fun _ _ => .int) pe_int
theorem dstr {i : Str} {j} : PE X (.Constant (.str i) j pos) (TD X.mg (eCon (.str i))) := d_con (fun _ _ => .str) pe_str
theorem dbl {i : Bool} {j} : PE X (.Constant (.bool i) j pos) (TD X.mg (eCon (.bl i))) := d_con (fun _ _ => .bl) pe_bl
theorem dnon {j} : PE X (.Constant .none j pos) (TD X.mg (eCon .non)) := d_con (fun _ _ => .non) pe_non
theorem dty {x : Str} (T : String) (hm : X.mg x = none) (hg : Gl X x := by rfl) (hv : bootBuiltins x = some (.type T) := by decide +kernel) (hn : x ≠ "__name__" := by decide) (hd : (x == ("__debug__" : Str)) = false := by decide) : PE X (.Name x pos) (TD X.mg (eCon (.ty T))) :=
  d_con (v := .ty T) (fun _ _ => .ty) (pe_bltn hg hm hv rfl hn hd)
theorem dn : PA X [] (TDA X.mg eNil) := d_nil
theorem dl (h1 : PE X e (TD X.mg f)) (hs : notStar e = true := by rfl) : PA X [e] (TDA X.mg (eOne f)) := d_last hs h1
theorem dc (h1 : PE X e (TD X.mg f)) (h2 : PA X es (TDA X.mg fs)) (hs : notStar e = true := by rfl) : PA X (e :: es) (TDA X.mg (eCons f fs)) := d_cons hs h1 h2
theorem dop {bo : Operator} {op : Dat → Dat → Option Out} (r : Rule2 X (binaryOp bo) op) (ha : PE X a (TD X.mg f)) (hb : PE X b (TD X.mg g)) : PE X (.BinOp a bo b pos) (TD X.mg (eOp2 op f g)) := by
  obtain ⟨r, h1, h2⟩ := r.ok
  exact d_op2 h1 h2 ha hb
theorem dcmp {co : CmpOp} {op : Dat → Dat → Option Out} (r : Rule2 X (compareOp co) op) (ha : PE X a (TD X.mg f)) (hb : PE X b (TD X.mg g)) (hm : behindInMarks co b = false := by first | exact nomark _ | with_unfolding_all rfl) : PE X (.Compare a [co] [b] pos) (TD X.mg (eOp2 op f g)) := by
  obtain ⟨r, h1, h2⟩ := r.ok
  exact d_cmp h1 h2 hm ha hb
def tCmp (op : Dat → Dat → Option Out) (f g : EM R) : EM Bool := eBind (eOp2 op f g) fun r => match r with
  | .val (.bl k) => eRet k
  | _ => fun _ => none
theorem tcmp {co : CmpOp} {op : Dat → Dat → Option Out} (r : Rule2 X (compareOp co) op) (ha : PE X a (TD X.mg f)) (hb : PE X b (TD X.mg g)) (hm : behindInMarks co b = false := by first | exact nomark _ | with_unfolding_all rfl) : PT X (.Compare a [co] [b] pos) (TDT X.mg (tCmp op f g)) := by
  obtain ⟨r, h1, h2⟩ := r.ok
  exact dt_cmp h1 h2 hm ha hb
theorem dchain {o1 o2 : CmpOp} {op op' : Dat → Dat → Option Out} (r : Rule2 X (compareOp o1) op) (r' : Rule2 X (compareOp o2) op') (ha : PE X a (TD X.mg f)) (hb : PE X b (TD X.mg g)) (hc : PE X c (TD X.mg h)) (hm : behindInMarks o2 c = false := by first | exact nomark _ | with_unfolding_all rfl) : PE X (.Compare a [o1, o2] [b, c] pos) (TD X.mg (eChain op op' f g h)) := by
  obtain ⟨r, h1, h2⟩ := r.ok
  obtain ⟨r', h3, h4⟩ := r'.ok
  exact d_chain h1 h3 h2 h4 hm ha hb hc
def tChn (op op' : Dat → Dat → Option Out) (f g h : EM R) : EM Bool := eBind (eChain op op' f g h) fun r => match r with
  | .val (.bl k) => eRet k
  | _ => fun _ => none
theorem tchain {o1 o2 : CmpOp} {op op' : Dat → Dat → Option Out} (r : Rule2 X (compareOp o1) op) (r' : Rule2 X (compareOp o2) op') (ha : PE X a (TD X.mg f)) (hb : PE X b (TD X.mg g)) (hc : PE X c (TD X.mg h)) (hm : behindInMarks o2 c = false := by first | exact nomark _ | with_unfolding_all rfl) : PT X (.Compare a [o1, o2] [b, c] pos) (TDT X.mg (tChn op op' f g h)) := by
  obtain ⟨r, h1, h2⟩ := r.ok
  obtain ⟨r', h3, h4⟩ := r'.ok
  refine PT.of (pt_chain h1 h3 ha hb hc hm) ?_
  rintro σ H Q ⟨q, env, o, env', R, ev, k⟩
  obtain ⟨r1, e1, g1, ev⟩ := eBind_some ev
  refine redC h2 h4 σ H _ ⟨q, env, r1, e1, R, g1, fun v H1 R1 S1 i1 => ?_⟩
  split at ev
  · obtain ⟨rfl, rfl⟩ := eRet_some ev
    cases i1
    exact ⟨_, rfl, k H1 R1 S1⟩
  · cases ev
theorem dix (ha : PE X a (TD X.mg f)) (hb : PE X b (TD X.mg g)) (hs : PlainIx b := by exact fun _ _ => rfl) : PE X (.Subscript a b pos) (TD X.mg (eOp2 dIx f g)) := by
  obtain ⟨r, h1, h2⟩ := (r_ix (X := X)).ok
  exact d_ix h1 h2 hs ha hb
theorem dB {x : Str} {id : String} {p : Pos} {op : List Dat → Option Out} (r : RuleN X (.builtin id) op) (hm : X.mg x = none) (ha : PA X (e :: es) (TDA X.mg fs)) (hg : Gl X x := by rfl) (hv : bootBuiltins x = some (.builtin id) := by decide +kernel) (hn : x ≠ "__name__" := by decide) (hdb : (x == ("__debug__" : Str)) = false := by decide)
    (hs : notStar e = true := by rfl) (hpl : (backTo pos (starEach es X.env)).any (·.1) = false := by rfl) : PE X (.Call (.Name x p) (e :: es) [] pos) (TD X.mg (eOpN op fs)) := by
  obtain ⟨r, h1, h2⟩ := r.ok
  exact d_bi h1 h2 hg hm hv hn hdb hs hpl ha
theorem dT {x : Str} {id : String} {p : Pos} {op : List Dat → Option Out} (r : RuleN X (.type id) op) (hm : X.mg x = none) (ha : PA X (e :: es) (TDA X.mg fs)) (hg : Gl X x := by rfl) (hv : bootBuiltins x = some (.type id) := by decide +kernel) (hn : x ≠ "__name__" := by decide) (hdb : (x == ("__debug__" : Str)) = false := by decide)
    (hs : notStar e = true := by rfl) (hpl : (backTo pos (starEach es X.env)).any (·.1) = false := by rfl) : PE X (.Call (.Name x p) (e :: es) [] pos) (TD X.mg (eOpN op fs)) := by
  obtain ⟨r, h1, h2⟩ := r.ok
  exact d_ty h1 h2 hg hm hv hn hdb hs hpl ha
theorem tv (ha : PE X a (TD X.mg f)) (he : ∀ whole, isTrue a X.env whole = (do let v ← whole; standAt a.pos; holding [v] (truthy v)) := by intro _; rfl) : PT X a (TDT X.mg (eTruth f)) := dt_truth he ha
end
def dNeg : Dat → Option Out
  | .int i => some (false, .int (-i))
  | _ => none
theorem r_neg {X : Cx} : Op1 X.mg (rU fun i => V.int (-i)) dNeg := by
  intro p H a v out hp h1 ho Q k
  unfold dNeg at ho
  split at ho
  · cases ho
    rw [h1.intE]
    exact ⟨_, rfl, k _ H (fun _ _ e => e) .int⟩
  · cases ho
theorem dneg {X : Cx} {a : Expr} {pos : Pos} {f : EM R} (ha : PE X a (TD X.mg f)) : PE X (.UnaryOp .USub a pos) (TD X.mg (eOp1 dNeg f)) := d_un un_neg r_neg ha
/-! ### own functions -/
structure Fnk (P : Program) (w : World) (K : PySem.W.Frag) (mg : Str → Option Value) (base : Heap) (x : Str) (k n : Nat) (F : EM R) : Prop where
  ex : ∃ f fd ps, mg x = some (.ref f) ∧ PySem.W.keepIn K (.ref f) = true ∧ Binds K fd ps [] ∧ FnOk P w K mg base CX0 k f fd ps (spF mg n F)
  hn : ∀ env, F env ≠ none → env.length = n
theorem runF_len {n np : Nat} {body : EM O} (env : Env) (h : runF n np body env ≠ none) : env.length = np := by
  unfold runF at h
  split at h
  · rename_i hc
    exact hc.2
  · exact absurd rfl h
section
variable {X : Cx} {x : Str} {p pos : Pos} {e : Expr} {es : List Expr} {fs : EM (List R)} {F : EM R} {j k n : Nat}
theorem dcall (G : Fnk X.prog X.w X.K X.mg X.base x k n F) (hr : Room j X.A) (ha : PA X (e :: es) (TDA X.mg fs)) (hj : k ≤ j := by omega) (hg : Gl X x := by rfl) (hdb : (x == ("__debug__" : Str)) = false := by decide) (hs : notStar e = true := by rfl) (hpl : (backTo pos (starEach es X.env)).any (·.1) = false := by rfl) :
    PE X (.Call (.Name x p) (e :: es) [] pos) (TD X.mg (eCallV F fs)) := by
  obtain ⟨f, fd, ps, hm, hk, hb, G1⟩ := G.ex
  exact d_callV G1 (hr.mono hj) hg hm hk hb G.hn ha hdb hs hpl
theorem dcallM (G : Fnk X.prog X.w X.K X.mg X.base x k n F) (hr : Room j X.A) (ha : PA X (e :: es) (TDA X.mg fs)) (hj : k ≤ j := by omega) (hg : Gl X x := by rfl) (hdb : (x == ("__debug__" : Str)) = false := by decide) (hs : notStar e = true := by rfl) (hpl : (backTo pos (starEach es X.env)).any (·.1) = false := by rfl) :
    PE X (.Call (.Name x p) (e :: es) [] pos) (TD X.mg (eCallM F fs)) := by
  obtain ⟨f, fd, ps, hm, hk, hb, G1⟩ := G.ex
  exact d_callM G1 (hr.mono hj) hg hm hk hb G.hn ha hdb hs hpl
/-- a call without arguments -/
def eCall0 (F : EM R) : EM R := fun env => match F [] with
  | some (.val d, _) => some (.val d, env)
  | some (.new d, _) => some (.new d, env)
  | _ => none
theorem dcall0 (G : Fnk X.prog X.w X.K X.mg X.base x k 0 F) (hr : Room j X.A) (hj : k ≤ j := by omega) (hg : Gl X x := by rfl) (hdb : (x == ("__debug__" : Str)) = false := by decide) : PE X (.Call (.Name x p) [] [] pos) (TD X.mg (eCall0 F)) := by
  obtain ⟨f, fd, ps, hm, hk, hb, G1⟩ := G.ex
  refine PE.of (pe_call0 G1 (hr.mono hj) hg hm hk hb .nil (E := E0) pass0 hdb) ?_
  rintro σ H Q ⟨q, env, r, env', R, ev, kk⟩
  have key : ∀ (r : DL.R) (e2 : Env), F [] = some (r, e2) → (∀ i, r ≠ .bor i) → (∀ v H', Rel X.mg q env σ H' → StepE env σ H env H' → IsR X.mg q env σ H H' r v → Q v H') → spF X.mg 0 F [] H Q E0 := fun r e2 hf hb kk =>
    call_val (ds := []) (vs := []) rfl R .nil hf hb kk
  show spF X.mg 0 F [] H Q E0
  unfold eCall0 at ev
  split at ev
  · rename_i d e2 hf
    cases ev
    exact key _ e2 hf (fun i z => by cases z) kk
  · rename_i d e2 hf
    cases ev
    exact key _ e2 hf (fun i z => by cases z) kk
  · cases ev
end
section
variable {P : Program} {w : World} {K : PySem.W.Frag}
    {mg : Str → Option Value} {base : Heap}
theorem fnk_ok {x qual : Str} {params : Arguments} {body : List Stmt} {scope : Scope} {f : Addr} {fd : FuncData} {N ps : List Str} {k : Nat} {fb : EM O} (m : mg x = some (.ref f)) (F : FunD K x qual params body scope [] [] f fd) (S : FnScope N ps scope)
    (bd : ∀ (kV doc pm : Value) (an : Option Addr) (cdv ct : Value) (us : List Value), us.length = ps.length → bindArgs (PySem.W.fnOf x qual params body scope .none kV doc pm an cdv ct) ⟨us, []⟩ = pure (ps.zip us))
    (hb : ∀ (cdv : Value) (A : Around) (outer : List PySem.Env) (s : Shared) (H : Hp) (E : XK), Room k (A.deeper (envOfC qual scope s.heap.objs.size f cdv)) → PSs (cxOf CX0 P w K mg base N qual scope f cdv A outer s H E).nox body (TDS mg fb)) :
    Fnk P w K mg base x (k + 1) ps.length (runF N.length ps.length fb) :=
  ⟨⟨f, fd, ps, m, F.kp, F.bindsN bd, fn_ok F S fun cdv A outer s H E hr => PSs.nox (hb cdv A outer s H E hr)⟩, fun env h => runF_len env h⟩
theorem fnk_none {x qual : Str} {params : Arguments} {body : List Stmt} {scope : Scope} {f : Addr} {fd : FuncData} {N ps : List Str} {k : Nat} (m : mg x = some (.ref f)) (F : FunD K x qual params body scope [] [] f fd)
    (bd : ∀ (kV doc pm : Value) (an : Option Addr) (cdv ct : Value) (us : List Value), us.length = ps.length → bindArgs (PySem.W.fnOf x qual params body scope .none kV doc pm an cdv ct) ⟨us, []⟩ = pure (ps.zip us)) :
    Fnk P w K mg base x k ps.length (fun _ => none) :=
  ⟨⟨f, fd, ps, m, F.kp, F.bindsN bd, ⟨fun vs H Q E h => h.1, fun A outer s H args us vs Q E _ _ _ _ h => by
    obtain ⟨_, q, env, r, env', _, e, _⟩ := h
    cases e⟩⟩, fun env h => absurd rfl h⟩
end
end DL
/-! A tuple turned about: t[::-1]. -/
namespace RvT
open PySem PySem.Spec PyProof.Rows L2 HT
theorem pick_back (xs : Array Value) : ((List.range xs.size).filterMap fun (k : Nat) => xs[(((xs.size : Int) - 1) + (k : Int) * -1).toNat]?).toArray = xs.toList.reverse.toArray := by
  have e1 : ((List.range xs.size).filterMap fun (k : Nat) => xs[(((xs.size : Int) - 1) + (k : Int) * -1).toNat]?) = ((List.range xs.size).map fun k => xs.size - 1 - k).filterMap (xs[·]?) := by
    rw [List.filterMap_map]
    congr 1
    funext k
    have : (((xs.size : Int) - 1) + (k : Int) * -1).toNat = xs.size - 1 - k := by omega
    rw [this]
    rfl
  rw [e1, PySem.W.krv_range, List.filterMap_reverse, PySem.W.krv_all]
theorem adjust_back (n : Nat) : Builtin.Slice.sliceAdjust none none (-1) (n : Int) = ((n : Int) - 1, -1) := by
  unfold
      Builtin.Slice.sliceAdjust
  simp
theorem places_back (n : Nat) : Builtin.Slice.slicePlaces ((n : Int) - 1) (-1) (-1) = n := by
  unfold
      Builtin.Slice.slicePlaces
  have h1 : ¬ ((-1 : Int) > 0) := by omega
  simp only [h1, if_false]
  rw [show (- (-1) : Int) = 1 by decide, Int.ediv_one]
  split <;> omega
section
variable {prog : Program} {w : World} {A :
    Around} {E : Value → Shared → Prop} {s : Shared}
theorem applied_back {sl : Addr} {vs : Value} {n : Nat} {Q : Int × Int × Nat → Shared → Prop} (hs : s.heap.IsSliceOf sl .none .none vs) (ps : IsPart vs (some (-1))) (h : Q ((n : Int) - 1, -1, n) s) : wpAny (model prog w) A (Builtin.Slice.sliceApplied (.ref sl) (pure (n : Int))) Q E s := by
  obtain ⟨os, hos, hcs, hds⟩ :=
      id hs
  unfold Builtin.Slice.sliceApplied
      Builtin.Slice.sliceFields
  refine wpAny_bind (wpAny_bind (wpAny_field hos hds (x := .none) rfl (wpAny_bind (wpAny_field hos hds (x := .none) rfl (wpAny_bind (wpAny_field hos hds (x := vs) rfl (wpAny_pure ?_)))))))
  refine wpAny_bind (slicePart_ ps ?_)
  show wpAny _ _ (if ((-1 : Int) == 0) = true then _ else _) _ _ s
  rw [if_neg (by decide)]
  refine wpAny_bind (slicePart_none (wpAny_bind (slicePart_none (wpAny_bind (wpAny_pure ?_)))))
  show wpAny _ _ (match Builtin.Slice.sliceAdjust none none (-1) (n : Int) with | (lo, hi) => pure (lo, (-1 : Int), Builtin.Slice.slicePlaces lo hi (-1))) _ _ s
  rw [adjust_back n]
  show wpAny _ _ (pure (((n : Int) - 1), (-1 : Int), Builtin.Slice.slicePlaces ((n : Int) - 1) (-1) (-1))) _ _ s
  rw [places_back]
  exact wpAny_pure h
theorem item_back {t sl : Addr} {items : Array Value} {vs : Value} {Q : Value → Shared → Prop} (ht : IsTup s.heap t items) (hs : s.heap.IsSliceOf sl .none .none vs) (ps : IsPart vs (some (-1)))
    (h : Q (.ref s.heap.objs.size) { s with heap := s.heap.push { cls := .type "tuple", data := .seq items.toList.reverse.toArray } }) (hsz : items.size ≤ sizeLine) : wpAny (model prog w) A (getItem (.ref t) (.ref sl)) Q E s := by
  have hok : sizeOk (.seq items.toList.reverse.toArray) := by
    show items.toList.reverse.toArray.size ≤ sizeLine
    rw [List.size_toArray, List.length_reverse, Array.length_toList]
    exact hsz
  obtain ⟨os, hos, hcs, hds⟩ :=
      id hs
  have hT : s.TypeIs (.ref sl) "slice" := ⟨os, hos, hcs⟩
  unfold getItem
  try with_reducible
      refine wpAny_holding ?_
  first
      | refine wpAny_bind (wpAny_pure ?_) | skip
  refine wpAny_bind (wpAny_sequenceKey
      ht.typeIs (by decide) ?_)
  refine wpAny_bind (wpAny_callSpecial?_slot (name := Str.ofString "__getitem__") ht.typeIs slot_tuple_getitem (wpAny_call_entry slot_tuple_getitem ht.typeIs entry_tuple_getitem ?_ (args_tuple_getitem _ _)))
  show wpAny _ _ (Builtin.Tuple.tupleItemsOf (.ref t)
      >>= _) _ _ s
  refine wpAny_bind
      (tupleItemsOf_ ht ?_)
  refine wpAny_bind
      (wpAny_typeOf hT ?_)
  rw [if_pos (by decide)]
  refine wpAny_bind (applied_back hs ps ?_)
  have hno : ¬ ((((items.size : Int) - 1) == 0 && (-1 : Int) == 1 && items.size == items.size) = true) := by simp
  show wpAny _ _ (if (((items.size : Int) - 1) == 0 && (-1 : Int) == 1 && items.size == items.size) = true then _ else _) _ _ s
  rw [if_neg hno, pick_back]
  first
    | exact wpAny_bind (m := Builtin.Tuple.tupleExact _) (wpAny_newObj_type (wpAny_pure ⟨_, rfl, wpAny_pure h⟩) hok)
    | exact wpAny_bind (m := Builtin.Tuple.tupleExact _) (wpAny_newObj_type (wpAny_bind (wpAny_pure (wpAny_pure ⟨_, rfl, wpAny_pure h⟩))) hok)
    | exact wpAny_bind (wpAny_bind (m := Builtin.Tuple.tupleExact _) (wpAny_newObj_type (wpAny_pure (wpAny_pure ⟨_, rfl, wpAny_pure h⟩)) hok))
    | exact wpAny_bind (wpAny_bind (m := Builtin.Tuple.tupleExact _) (wpAny_newObj_type (wpAny_pure ⟨_, rfl, wpAny_pure h⟩) hok))
end
section
variable {X : Cx}
/-- t[::-1] of a tuple is a new one -/
def tRev (K : PySem.W.Frag) (te : TE) : TE := fun σ H Q => te σ H fun x H1 => ∃ a xs, x = .ref a ∧ SqT K H1 a xs ∧ ∀ p, H1 p = none → Q (.ref p) (upd H1 p (.tup xs.reverse))
theorem pe_rev {e : Expr} {te : TE} {k : Nat} {p1 p2 p3 pos : Pos} (he : PE X e te) : PE X (.Subscript e (.Slice none none (some (.UnaryOp .USub (.Constant (.int 1) k p1) p2)) p3) pos) (tRev X.K te) := by
  refine ⟨fun pins s σ H Q J h => ?_⟩
  refine Subscript_ (thn (he.run pins s σ H _ J h) fun v s1 ⟨x, H1, I1, r1, q1⟩ => ?_)
  obtain ⟨a, xs,
      ex, hx, q⟩ := q1
  subst ex
  cases r1
  have hst : PO X (some (.UnaryOp .USub (.Constant (.int 1) k p1) p2)) (tPart (tUn (rU fun i =>
      .int (-i)) (tC (.int 1)))) := po_some (pe_un un_neg pe_int)
  refine wpAny_Slice (thn (po_none.run pins s1 σ H1 (fun o H2 =>
      o = none ∧ H2 = H1) I1 ⟨rfl, rfl⟩) fun vl s2 ⟨l, H2, I2, pl, el, e2⟩ => ?_)
  subst el e2
  cases pl
  refine thn (po_none.run pins s2 σ H2 (fun o H3 =>
      o = none ∧ H3 = H2) I2 ⟨rfl, rfl⟩) fun vu s3 ⟨u, H3, I3, pu, eu, e3⟩ => ?_
  subst eu e3
  cases pu
  refine thn (hst.run pins s3 σ H3 (fun o H4 => o = some (-1) ∧ H4 = H3)
      I3 ⟨1, rfl, -1, rfl, rfl, rfl⟩) fun vs s4 ⟨o, H4, I4, ps, eo, e4⟩ => ?_
  subst eo e4
  have I5 : Inv X pins σ H4 { s4 with heap := s4.heap.push { cls := .type "slice", data := .fields #[.none, .none, vs] } } := I4.kept (t' := s4.toks) fun b ob q => Heap.get?_push_of_some _ q
  obtain ⟨its, r, ht, hz⟩ := I5.tuple hx
  have hlen := r.length
  show wpAny (model X.prog X.w) X.A (subscriptTail e (.Slice none none (some (.UnaryOp .USub (.Constant (.int 1) k p1) p2)) p3) (.ref a) (.ref s4.heap.objs.size)) (EP X pins σ Q) X.xe { s4 with heap := s4.heap.push { cls := .type "slice", data := .fields #[.none, .none, vs] } }
  refine tail_any (ops := [.ref a, .ref s4.heap.objs.size]) ht.typeIs (slot_tuple_getitem.lookup) ?_ (by with_unfolding_all rfl)
  refine item_back ht (Heap.IsSliceOf.new _ .none .none vs) ps ?_ (by rw [List.size_toArray]; omega)
  refine ⟨.ref _, _, I5.laid (t' := s4.toks) (o := .tup xs.reverse) (fun b ob q => Heap.get?_push_of_some _ q) (Nat.le_refl _) ?_, rfl, q _ (I5.hok.fresh (Nat.le_refl _))⟩
  exact ⟨by rw [List.length_reverse]; exact hz, _, r.reverse, IsTup.new _ _⟩
end
end RvT
/-! len(set(texts)): texts may be alike. -/
namespace DL
open PySem PySem.Spec L2
open PyProof.Rows hiding St
/-- how many unlike ones there are -/
def setN : List Str → Nat
  | [] => 0
  | z :: zs => (if zs.any (fun y => y == z) = true then 0 else 1) + setN zs
theorem setN_snoc (x : Str) : ∀ l : List Str, setN (l ++ [x]) = (if l.any (fun y => y == x) = true then setN l else setN l + 1)
  | [] => rfl
  | z :: zs => by
    show (if (zs ++ [x]).any (fun y => y == z) = true then 0 else 1) + setN (zs ++ [x]) = _
    rw [setN_snoc x zs, List.any_append]
    show _ = (if (z == x || zs.any fun y => y == x) = true then (if zs.any (fun y => y == z) = true then 0 else 1) + setN zs else (if zs.any (fun y => y == z) = true then 0 else 1) + setN zs + 1)
    by_cases e : z = x
    · subst e
      simp only [beq_self_eq_true, List.any_cons, List.any_nil, Bool.or_false, Bool.or_true, Bool.true_or, if_true]
      split <;> omega
    · have e1 : (z == x) = false := by simpa using e
      have e2 : (x == z) = false := by simpa using fun q => e q.symm
      simp only [e1, e2, List.any_cons, List.any_nil, Bool.or_false, Bool.false_or]
      split <;> split <;> omega
theorem setN_le : ∀ l : List Str, setN l ≤ l.length
  | [] => Nat.le_refl 0
  | z :: zs => by
    show (if zs.any (fun y => y == z) = true then 0 else 1) + setN zs ≤ zs.length + 1
    have := setN_le zs
    split <;> omega
section
variable {prog : Program} {w : World} {A :
    Around} {E : Value → Shared → Prop} {s : Shared}
/-- the set at S has just the first i of the texts -/
def Got (prog : Program) (w : World) (S : Addr) (xs : List Str) (i : Nat) (h : Heap) : Prop := h.SetOf (strKind prog w) S (fun k => (xs.take i).any (fun y => y == k)) (setN (xs.take i))
theorem Got.keep {S : Addr} {xs : List Str} {i : Nat} {h h' : Heap} (g : Got prog w S xs i h) (k : ∀ o, h.get? S = some o → h'.get? S = some o) : Got prog w S xs i h' := by
  obtain ⟨o, es, ep, t, ho, r⟩ := g
  exact ⟨o, es, ep,
      t, k o ho, r⟩
theorem texts_loop {I : Addr} {fp wr : List Addr} {G : Array GenState → Array GenState → Prop} {n : Nat} {Pv : Nat → Value → Prop} {St : Nat → Shared → Prop} {R : Result → Shared → Prop} (W : WalksS prog w A.in1 I fp wr G n Pv St)
    (S : Addr) (out : S ∉ fp) (xs : List Str) (hn : xs.length = n) (room : n + 1 < scanBound) (val : ∀ i v, Pv i v → ∃ t, v = .str (xs.getD i Str.empty) t) :
    ∀ (m i : Nat) (s : Shared), n - i = m ∧ i ≤ n → St i s → Got prog w S xs i s.heap → (∀ s', Moved (S :: wr) G s s' → Got prog w S xs n s'.heap → R (.ok (.ret .none)) s') →
      codeAny (model prog w) A (.builtin "set.update.loop" ⟨[.ref S,
          .ref I], []⟩) R s := by
  have out2 : S ∉ wr := fun h => out (W.sub _ h)
  have more : ∀ b ∈ wr, b ∈ S :: wr := fun b hb => List.mem_cons_of_mem _ hb
  intro m
  induction m with
  | zero =>
    rintro i s ⟨e1, e2⟩ st g fin
    obtain rfl : i = n := by omega
    refine codeAny_builtin PyProof.Rows.F.entry_set_update_loop ?_; rw [Around.under_plainId PyProof.Rows.F.plain_set_update_loop _]; show wpAny _ A.in1 (pyNext (.ref I) >>= _) _ _ s
    refine wpAny_bind (W.done s _ _ st fun s' mv => wpAny_pure (fin s' (mv.mono more) (g.keep fun o => mv.heap S o out2)))
  | succ m ih =>
    rintro i s ⟨e1, e2⟩ st g fin
    have lt : i < n := by omega
    refine codeAny_builtin PyProof.Rows.F.entry_set_update_loop ?_; rw [Around.under_plainId PyProof.Rows.F.plain_set_update_loop _]; show wpAny _ A.in1 (pyNext (.ref I) >>= _) _ _ s
    refine wpAny_bind (W.item i s _ _ lt st fun v s' pv st' mv => ?_)
    obtain ⟨t, rfl⟩ := val i v pv
    have g' := g.keep fun o => mv.heap S o out2
    have le : setN (xs.take i) ≤ i := Nat.le_trans (setN_le _) (by rw [List.length_take]; omega)
    show wpAny _ A.in1 (holding [Value.str (xs.getD i Str.empty)
        t] (setAdd S (.str (xs.getD i Str.empty) t)) >>= _) _ _ s'
    refine wpAny_bind (wpAny_holding ?_); unfold setAdd; refine wpAny_holding ?_; refine wpAny_bind ((strKind prog w).pyHash (k := xs.getD i Str.empty) (strKind_is _ _ _ _) ?_)
    refine wpAny_setAddHashed_of (knd := strKind prog w) (s := { s' with toks := s'.toks + 1 }) (strKind_is _ _ _ _) rfl g' (by omega) fun h' sb new => ?_
    have take1 : xs.take (i + 1) = xs.take i ++ [xs.getD i Str.empty] := by
      have lx : i < xs.length := by omega
      rw [List.take_add_one, List.getD_eq_getElem?_getD, List.getElem?_eq_getElem lx] <;> rfl
    have g2 : Got prog w S xs (i + 1) h' := by
      unfold Got
      rw [take1, setN_snoc]
      refine SetOf_congr new (fun k => ?_) rfl
      rw [List.any_append, List.any_cons, List.any_nil, Bool.or_false]
      by_cases e : k = xs.getD i Str.empty
      · simp [e]
      · have e2 : (xs.getD i Str.empty == k) = false := beq_eq_false_iff_ne.mpr fun q => e q.symm
        rw [e2, decide_eq_false e]
    refine wpAny_pure ⟨plainId_quiet PyProof.Rows.F.plain_set_update_loop _, ih (i + 1) _ ⟨by omega, lt⟩ (W.frame _ s' _ _ st' (Nat.le_succ _) fun b hb o e => ?_) g2 fun s'' mv2 g3 => fin s'' (Moved.trans W.gtrans ((mv.mono more).then_heap (Nat.le_succ _) fun b o hb e => ?_) mv2) g3⟩
    · exact (sb.2 b fun q => out (q ▸ hb)).trans e
    · exact (sb.2 b fun q => hb (q ▸ List.mem_cons_self)).trans e
/-- the row of values at l, of type T -/
def RowAt (T : String) (h : Heap) (l : Addr) (items : Array Value) : Prop := ∃ o, h.get? l = some o ∧ o.cls = .type T ∧ ∃ n, o.data = .seq items n
theorem RowAt.keep {T : String} {h h' : Heap} {l : Addr} {items : Array Value} (r : RowAt T h l items) (k : ∀ o, h.get? l = some o → h'.get? l = some o) : RowAt T h' l items := by
  obtain ⟨o, e, r⟩ := r
  exact ⟨o, k o e, r⟩
/-- lists, tuples: what it takes to go over one -/
structure RowTy (P : Program) (w : World) (T I : String) : Prop where
  noSet : isSubtype (.type T) (.type "set") = pure false
  noFro : isSubtype (.type T) (.type "frozenset") = pure false
  noDic : (Value.type T == Value.type "dict") = false
  begun : ∀ {A : Around} {E Q : Value → Shared → Prop} {s : Shared} {l : Addr} {items : Array Value}, RowAt T s.heap l items → Q (.ref s.heap.objs.size) { s with heap := s.heap.push { cls := .type I, data := .fields #[.ref l, .int 0 0] } } → wpAny (model P w) A (pyIter (.ref l)) Q E s
  walk : ∀ {A : Around}, A.handled = none → ∀ (it l : Addr), l ≠ it → ∀ items : Array Value, Walks P w A it [it, l] [it] items.size (fun i v => items[i]? = some v) (fun i h => (∃ o, h.get? it = some o ∧ o.cls = .type I ∧ o.data = .fields #[.ref l, .int i 0]) ∧ RowAt T h l items)
theorem rowList : RowTy prog w "list" "list_iterator" := ⟨PySem.F.sub_list_set, PySem.F.sub_list_frozenset, by decide, fun r q => wpAny_pyIter_list r q, fun hh it l ne items => Walks.list hh it l ne items⟩
theorem rowTup : RowTy prog w "tuple" "tuple_iterator" := ⟨PySem.F.sub_tuple_set, PySem.F.sub_tuple_frozenset, by decide, fun r q => wpAny_pyIter_tuple r q, fun hh it l ne items => Walks.tuple hh it l ne items⟩
theorem set_txts {T I : String} (ty : RowTy prog w T I) {l : Addr} {items : Array Value} {xs : List Str} {Q : Value → Shared → Prop} (hh : A.handled = none) (hl : RowAt T s.heap l items) (hi : PyProof.Rows.StrsAre items.toList xs)
    (room : items.size + 1 < scanBound) (fin : ∀ (h' : Heap) (tk : Nat), Got prog w s.heap.objs.size xs items.size h' → (∀ b o, b < s.heap.objs.size → s.heap.get? b = some o → h'.get? b = some o) → Q (.ref s.heap.objs.size) { s with heap := h', toks := tk }) :
    wpAny (model prog w) A (call (.type "set")
        [.ref l]) Q E s := by
  obtain ⟨c, tl, hmro⟩ :=
      PySem.F.called_set.mro
  have made := PySem.F.called_set.made; have subs := PySem.F.called_set.sub; have nt := PySem.F.called_set.notType; have cc := PySem.F.called_set.canCreate; have tc := PySem.F.typeCall_set_1 (.ref l)
  refine wpAny_call
      (codeAny_of_tree ?_)
  show wpAny _ _ (callAny
      (.type "set") _) _ _ _
  refine wpAny_pure ⟨Code.quiet_builtin _ (by decide +kernel), codeAny_builtin PySem.F.entry_type_call ?_⟩; rw [Around.under_plain (weight_type_call_type "set" [.ref l] []) rfl]
  repeat (any_goals
      (first | assumption | wp_step))
  refine codeAny_mono (code_set_new_1 (.ref l) (E := E) (Q₁ := fun v t => ∃ led : Bool, v = .ref s.heap.objs.size ∧ t = { s with heap := s.heap.push { cls := .type "set", dict := none, data := .set #[] 0 (.fresh 0 0 led) } }) fun led => ⟨led, rfl, rfl⟩) fun r t hr => ?_
  rcases r with e | fl
  · exact hr
  cases fl with
  | ret v =>
    obtain ⟨led, rfl, rfl⟩ := hr
    generalize hn : s.heap.push { cls := .type "set", dict := none, data := .set #[] 0 (.fresh 0 0 led) } = hp
    have at0 : hp.get? s.heap.objs.size = some { cls := .type "set", dict := none, data := .set #[] 0 (.fresh 0 0 led) } := by rw [← hn]; exact Heap.get?_push_size _ rfl
    have sz : hp.objs.size = s.heap.objs.size + 1 := by rw [← hn]; exact Heap.size_push ..
    have old : ∀ b o, s.heap.get? b = some o → hp.get? b = some o := fun b o e => by rw [← hn]; exact Heap.get?_push_of_some _ e
    have isSet : Shared.TypeIs { s with heap := hp } (.ref s.heap.objs.size) "set" := ⟨_, at0, rfl⟩
    have li := PySem.F.called_set.init.lookup; have bi := PySem.F.called_set.init.bind (.ref s.heap.objs.size)
    repeat (any_goals
        (first | assumption | wp_step))
    refine codeAny_mono (codeAny_call_builtin (R := wants (fun r t => r = .none ∧ ∃ h' tk, t = { s with heap := h', toks := tk } ∧ Got prog w s.heap.objs.size xs items.size h' ∧
      (∀ b o, b < s.heap.objs.size → s.heap.get? b = some o → h'.get? b = some o)) E) PySem.F.called_set.init.plain PySem.F.entry_set_init (check_set_init_1 isSet ?_)) fun r2 t2 hr2 => ?_
    · have hl1 : RowAt T hp l items := hl.keep (old l)
      obtain ⟨⟨ocls, od, odt, osl⟩, ho, hc, nl, hd⟩ := id hl1
      simp only at hc hd
      subst hc hd
      have hs1 := ty.noSet; have hs2 := ty.noFro; have hne := ty.noDic
      unfold Builtin.«set.__init__» noKeywords Builtin.Frozenset.updateFrom; generalize hPI : pyIter = PI
      wp_walk
      subst hPI; refine ty.begun hl1 ?_; refine wpAny_bind (wpAny_runValue ?_)
      have lS : l < s.heap.objs.size := by obtain ⟨o, e, _⟩ := hl; exact Heap.lt_size e
      have up : s.heap.objs.size < hp.objs.size := by rw [sz]; exact Nat.lt_succ_self _
      have neI : l ≠ hp.objs.size := Nat.ne_of_lt (Nat.lt_trans lS up)
      have outS : s.heap.objs.size ∉ [hp.objs.size, l] := fun q => by
        rcases List.mem_cons.mp q with q | q
        · exact Nat.ne_of_lt up q
        · exact Nat.ne_of_gt lS (List.mem_singleton.mp q)
      have hx : xs.length = items.size := by rw [← PyProof.Rows.StrsAre.len_eq hi, Array.length_toList]
      have val : ∀ (i : Nat) (v : Value), items[i]? = some v → ∃ t, v = .str (xs.getD i Str.empty) t := fun i v hv => SS.strs_at hi i v (by rw [Array.getElem?_toList]; exact hv)
      refine texts_loop (ty.walk (by simp [hh]) _ l neI items).toS s.heap.objs.size outS xs hx room val items.size 0 _ ⟨rfl, Nat.zero_le _⟩ ⟨⟨_, Heap.get?_push_size _ rfl, rfl, rfl⟩, hl1.keep fun o e => Heap.get?_push_of_some _ e⟩ ?_ fun s' mv g => ?_
      · exact SetOf_congr ((setObjOf_fresh (knd := strKind prog w) led).setOf (Heap.get?_push_of_some _ at0) (by unfold scanBound; omega)) (fun _ => rfl) rfl
      · obtain ⟨h', g',
            d', tk', os'⟩ := s'
        obtain ⟨m1, m2, m3, m4, _⟩ := mv
        simp only at m1 m2 m3 m4
        subst m2 m3 m4
        refine wpAny_pure (wpAny_pure ⟨rfl, h', tk', rfl, g, fun b o hb e => ?_⟩)
        refine m1 b o (fun q => ?_) (Heap.get?_push_of_some _ (old b o e))
        rcases List.mem_cons.mp q with q | q
        · exact Nat.ne_of_lt hb q
        · exact Nat.ne_of_lt (Nat.lt_trans hb up) (List.mem_singleton.mp q)
    · rcases r2 with e | fl2
      · exact hr2
      cases fl2 with
      | ret r =>
        obtain ⟨rfl, h', tk, rfl, g, k⟩ := hr2
        repeat (any_goals
            (first | assumption | wp_step))
        exact fin _ _ g k
      | _ => exact hr2.elim
  | _ => exact hr.elim
end
def tLenSetT (K : PySem.W.Frag) (ta : TE) : TE := fun σ H Q => ta σ H fun x H1 => ∃ l, ∃ xs : List Str, x = .ref l ∧ (SqL K H1 l (xs.map V.str) ∨ SqT K H1 l (xs.map V.str)) ∧ xs.length ≤ 100 ∧ Q (.int (setN xs)) H1
theorem pe_lenSetT {X : Cx} {a : Expr} {ta : TE} {p p2 q pos : Pos} (hc : X.calm = true) (hg : Gl X "len") (hm : X.mg "len" = none) (hg2 : Gl X "set") (hm2 : X.mg "set" = none) (ha : PE X a ta) (na : notStar a = true) : PE X (.Call (.Name "len" p) [.Call (.Name "set" p2) [a] [] q] [] pos) (tLenSetT X.K ta) := by
  refine ⟨fun pins s σ H Q I h => Call_ (ld_blt I hg hm boot_len (PyProof.Rows.callWith_builtin1 (PyProof.Rows.args_cons (Call_ (ld_blt I hg2 hm2 boot_set ?_)) rfl) rfl rfl))⟩
  refine PyProof.Rows.callWith_type1 (PyProof.Rows.args_cons (thn (ha.run pins s σ H _ I h) fun v s1 ⟨x, H1, I1, r1, q1⟩ => PyProof.Rows.args_nil ?_) (star_no na)) (star_no na) rfl
  obtain ⟨l, xs, rfl,
      hq, h1, q1⟩ := q1
  cases r1
  have fin : ∀ (us : List Value), Vals (xs.map V.str) us → ∀ (h' : Heap) (tk : Nat), Got X.prog X.w s1.heap.objs.size xs us.toArray.size h' → (∀ b o, b < s1.heap.objs.size → s1.heap.get? b = some o → h'.get? b = some o) →
      wpAny (model X.prog X.w) X.A (spliced (backTo pos (starEach [] X.env))) (fun vs s₂ => wpAny (model X.prog X.w) X.A (call (.builtin "len") (Value.ref s1.heap.objs.size :: vs)) (EP X pins σ Q) X.xe s₂) X.xe { s1 with heap := h', toks := tk } := fun us r h' tk g k => by
    refine
        PyProof.Rows.args_nil ?_
    have e : us.toArray.size = xs.length := by rw [List.size_toArray, ← r.length, List.length_map]
    unfold Got at g
    rw [e, List.take_length] at g
    obtain ⟨o, es, ep, t, ho, hex, hd, _, _, _, hf, hn⟩ := g
    have I2 : Inv X pins σ H1 { s1 with heap := h', toks := tk } := I1.kept fun b o e => k b o (Heap.lt_size e) e
    have le := setN_le xs
    exact call_len_set ho hex hd hf (by rw [hn]; omega) ⟨.int (setN xs), H1, I2.tok _, ⟨_, by rw [hn]⟩, q1⟩
  have small : ∀ us : List Value, Vals (xs.map V.str) us → us.toArray.size + 1 < scanBound := fun us r => by
    rw [List.size_toArray, ← r.length, List.length_map]
    unfold scanBound
    omega
  rcases hq with hq | hq
  · obtain ⟨us, r, pl, _⟩ := I1.list hq
    exact set_txts rowList (I1.ok.hd hc) pl.isList (by simpa using strsAre_of r) (small us r) fun h' tk g k => fin us r h' tk g k
  · obtain ⟨us, r, pl, _⟩ := I1.tuple hq
    exact set_txts rowTup (I1.ok.hd hc) pl (by simpa using strsAre_of r) (small us r) fun h' tk g k => fin us r h' tk g k
end DL
/-! More rules in short. -/
namespace DL
open PySem PySem.Spec L2
open PyProof.Rows hiding St
theorem bt_len : bootBuiltins (Str.ofString "len") = some (.builtin "len") := by decide +kernel
theorem bt_all : bootBuiltins (Str.ofString "all") = some (.builtin "all") := by decide +kernel
theorem bt_any : bootBuiltins (Str.ofString "any") = some (.builtin "any") := by decide +kernel
theorem bt_abs : bootBuiltins (Str.ofString "abs") = some (.builtin "abs") := by decide +kernel
theorem bt_isinstance : bootBuiltins (Str.ofString "isinstance") = some (.builtin "isinstance") := by decide +kernel
theorem bt_int : bootBuiltins (Str.ofString "int") = some (.type "int") := by decide +kernel
theorem bt_bool : bootBuiltins (Str.ofString "bool") = some (.type "bool") := by decide +kernel
theorem bt_str : bootBuiltins (Str.ofString "str") = some (.type "str") := by decide +kernel
theorem bt_tuple : bootBuiltins (Str.ofString "tuple") = some (.type "tuple") := by decide +kernel
theorem bt_list : bootBuiltins (Str.ofString "list") = some (.type "list") := by decide +kernel
theorem bt_dict : bootBuiltins (Str.ofString "dict") = some (.type "dict") := by decide +kernel
section
variable {X : Cx} {a b c d e i : Expr} {es : List Expr} {pos : Pos} {f g h fi fe : EM R} {fs : EM (List R)} {u v : EM Bool}
theorem dapp (j : Nat) {x : Str} {px apos : Pos} (ha : PA X (e :: es) (TDA X.mg fs)) (hN : X.N[j]? = some x := by rfl) (hv : Vis X.env.scope x := by first | exact Or.inl rfl | exact Or.inr (Or.inl rfl) | exact Or.inr (Or.inr rfl)) (hd : (x == ("__debug__" : Str)) = false := by decide) (hcd : (x == ("__classdict__" : Str)) = false := by decide)
    (hbase : attributeBase (.Name x px) "append" X.env (eval (.Name x px) X.env) = eval (.Name x px) X.env := by rfl)
    (hfew : ((backTo pos (starEach (e :: es) X.env)).all (fun x => !x.1) && (backToKw pos (keywordEach [] X.env)).all (fun x => x.1.isSome) && decide ((e :: es).length + ([] : List Keyword).length + (if ([] : List Keyword).isEmpty then 0 else 1) < 30)) = true := by rfl)
    (hline : (apos.endLine == pos.line) = true := by rfl) (hs : starEach (e :: es) X.env = (false, eval e X.env) :: starEach es X.env := by rfl) (hpl : (backTo pos (starEach es X.env)).any (·.1) = false := by rfl) :
    PE X (.Call (.Attribute (.Name x px) "append" apos) (e :: es) [] pos) (TD X.mg (eBind (hasL j) fun _ => eApp j fs)) := d_app hN hv hd hcd ha hbase hfew hline hs hpl
theorem dput (j : Nat) {x : Str} {px tpos : Pos} (hi : PE X i (TD X.mg fi)) (he : PE X e (TD X.mg fe)) (hN : X.N[j]? = some x := by rfl) (hv : Vis X.env.scope x := by first | exact Or.inl rfl | exact Or.inr (Or.inl rfl) | exact Or.inr (Or.inr rfl)) (hd : (x == ("__debug__" : Str)) = false := by decide) (hcd : (x == ("__classdict__" : Str)) = false := by decide)
    (ha : ∀ v, assign (.Subscript (.Name x px) i tpos) X.env v = (do let ov ← holding [v] (eval (.Name x px) X.env); let iv ← holding [v, ov] (eval i X.env); standAt tpos; holding [v, ov, iv] (setItem ov iv v); release [v, ov, iv] []) := by intro _; rfl)
    (hs : swapsWithSole [.Subscript (.Name x px) i tpos] e pos.line X.env = pure false := by rfl) (hw : swappedStores [.Subscript (.Name x px) i tpos] e X.env = pure none := by rfl)
    (h1 : (assignEach [.Subscript (.Name x px) i tpos] X.env).map (·.2) = [assign (.Subscript (.Name x px) i tpos) X.env] := by rfl) : PS X (.Assign [.Subscript (.Name x px) i tpos] e pos) (TDS X.mg (sPut j fi fe)) := ds_put hN hv hd hcd hi he ha hs hw h1
end
/-! ### xs[::-1] -/
def dRev : Dat → Option Out
  | .lst ds => some (true, .lst ds.reverse)
  | .tup ds => some (false, .tup ds.reverse)
  | _ => none
def eRev (f : EM R) : EM R := eOp1 dRev f
theorem pe_revT {X : Cx} {e : Expr} {te : TE} {k : Nat} {p1 p2 p3 pos : Pos} (he : PE X e te) : PE X (.Subscript e (.Slice none none (some (.UnaryOp .USub (.Constant (.int 1) k p1) p2)) p3) pos) (RvT.tRev X.K te) := RvT.pe_rev he
theorem d_rev {X : Cx} {e : Expr} {f : EM R} {k : Nat} {p1 p2 p3 pos : Pos} (he : PE X e (TD X.mg f)) : PE X (.Subscript e (.Slice none none (some (.UnaryOp .USub (.Constant (.int 1) k p1) p2)) p3) pos) (TD X.mg (eRev f)) := by
  refine PE.of (PE.or (pe_revL he) (pe_revT he)) ?_
  rintro σ H Q ⟨q, env, out, env', R, ev, k⟩
  obtain ⟨r1, e1, h1, ev1⟩ := eBind_some ev
  obtain ⟨d, e2, h2, ev2⟩ := eBind_some ev1
  obtain ⟨h2', rfl⟩ := eLook_some h2
  obtain ⟨o, e3, h3, ev3⟩ := eBind_some ev2
  obtain ⟨h3', rfl⟩ := eOpt_some h3
  obtain ⟨rfl, rfl⟩ := eRet_some ev3
  cases d with
  | lst ds =>
    cases h3'
    refine .inl ⟨q, env, r1, env', R, h1, fun v H1 R1 S1 i1 => ?_⟩
    obtain ⟨a, vs, rfl, ea, hd⟩ := (i1.look R1 h2').lstE
    exact ⟨a, vs, rfl, SqL.of ea, fun p hp => k _ _ (R1.ext (ext_new hp)) (S1.trans (.new hp)) ((IsO.isR R1 (ext_new hp) (newL hp hd.reverse)).back S1.dom)⟩
  | tup ds =>
    cases h3'
    refine .inr ⟨q, env, r1, env', R, h1, fun v H1 R1 S1 i1 => ?_⟩
    obtain ⟨a, vs, rfl, na, ea, hd⟩ := (i1.look R1 h2').tupE
    exact ⟨a, vs, rfl, SqT.of ea, fun p hp => k _ _ (R1.ext (ext_new hp)) (S1.trans (.new hp)) (newT (fun x hx => R1.prot_in hx) hp hd.reverse)⟩
  | _ => cases h3'
/-! ### len(set(texts)) -/
def eLenSet (f : EM R) : EM R := eBind f fun r => eBind (eLook r) fun d => eBind (eOpt (rowD d)) fun zs => eOpt (if zs.length ≤ 100 then some (.val (.int (setN zs))) else none)
theorem d_lenSet {X : Cx} {a : Expr} {f : EM R} {p p2 q pos : Pos} (hm : X.mg "len" = none) (hm2 : X.mg "set" = none) (ha : PE X a (TD X.mg f)) (hc : X.calm = true := by rfl) (hg : Gl X "len" := by rfl) (hg2 : Gl X "set" := by rfl) (na : notStar a = true := by rfl) : PE X (.Call (.Name "len" p) [.Call (.Name "set" p2) [a] [] q] [] pos) (TD X.mg (eLenSet f)) := by
  refine PE.of (pe_lenSetT hc hg hm hg2 hm2 ha na) ?_
  rintro σ H Q ⟨q, env, out, env', R, ev, k⟩
  obtain ⟨r1, e1, h1, ev1⟩ := eBind_some ev
  obtain ⟨d, e2, h2, ev2⟩ := eBind_some ev1
  obtain ⟨h2', rfl⟩ := eLook_some h2
  obtain ⟨zs, e3, h3, ev3⟩ := eBind_some ev2
  obtain ⟨h3', rfl⟩ := eOpt_some h3
  obtain ⟨h4, rfl⟩ := eOpt_some ev3
  split at h4
  · rename_i hz
    cases h4
    refine ⟨q, env, r1, env', R, h1, fun v H1 R1 S1 i1 => ?_⟩
    cases d with
    | lst ds =>
      obtain ⟨a, vs, rfl, ea, hd⟩ := (i1.look R1 h2').lstE
      have := strs_vs hd h3'
      subst this
      exact ⟨a, zs, rfl, .inl (SqL.of ea), hz, k _ H1 R1 S1 .int⟩
    | tup ds =>
      obtain ⟨a, vs, rfl, na, ea, hd⟩ := (i1.look R1 h2').tupE
      have := strs_vs hd h3'
      subst this
      exact ⟨a, zs, rfl, .inr (SqT.of ea), hz, k _ H1 R1 S1 .int⟩
    | _ => cases h3'
  · cases h4
/-! ### dicts -/
theorem eDict0_ok {X : Cx} {pos : Pos} : PE X (.Dict [] [] pos) (TD X.mg (fun env => some (.new (.dct [] []), env))) := by
  refine PE.of pe_dnewK ?_
  rintro σ H Q ⟨q, env, r, env', R, ev, k⟩
  cases ev
  exact fun p hp => k _ _ (R.ext (ext_new hp)) (.new hp) (IsO.isR (out := (true, .dct [] [])) R (ext_new hp) ⟨p, rfl, hp, [], upd_same, rfl, .nil⟩)
def keyD : Dat → Option Key
  | .int i => some (.inl i)
  | .str z => some (.inr z)
  | _ => none
def eDict1 (f g : EM R) : EM R := eBind f fun r => eBind (eLook r) fun kd => eBind (eOpt (keyD kd)) fun key => eBind g fun s => eBind (eForce s) fun d => eRet (.new (.dct [key] [d]))
theorem d_dict1 {X : Cx} {a b : Expr} {f g : EM R} {pos : Pos} (ha : PE X a (TD X.mg f)) (hb : PE X b (TD X.mg g)) : PE X (.Dict [some a] [b] pos) (TD X.mg (eDict1 f g)) := by
  refine PE.of (pe_disp (pps_cons ha hb pps_nil) rfl rfl (by simp) (by simp)) ?_
  rintro σ H Q ⟨q, env, r, env', R, ev, k⟩
  obtain ⟨r1, e1, h1, ev1⟩ := eBind_some ev
  obtain ⟨kd, e2, h2, ev2⟩ := eBind_some ev1
  obtain ⟨h2', rfl⟩ := eLook_some h2
  obtain ⟨key, e3, h3, ev3⟩ := eBind_some ev2
  obtain ⟨h3', rfl⟩ := eOpt_some h3
  obtain ⟨r2, e4, h4, ev4⟩ := eBind_some ev3
  obtain ⟨d, e5, h5, ev5⟩ := eBind_some ev4
  obtain ⟨rfl, rfl⟩ := eRet_some ev5
  intro p hp
  have R0 := R.guard hp (ext_new (o := .dK []) hp) (by rw [upd_same]; simp)
  refine ⟨fun b => q b ∨ b = p, env, r1, e3, R0, h1, fun v H1 R1 S1 i1 => ⟨fun b => q b ∨ b = p, e3, r2, e4, R1, h4, fun w H2 R2 S2 i2 => ?_⟩⟩
  obtain ⟨R3, S3, hd⟩ := i2.force R2 h5
  have np : ∀ {ee : Env} {HH : Hp}, StepE env σ (upd H p (.dK [])) ee HH → ¬ MutAt env σ p → HH p = some (.dK []) := fun S n => S.keep p _ upd_same n
  have nm : ¬ MutAt env σ p := fun m => R.prot_new hp (.inr m)
  have S13 := (S1.trans S2).trans S3
  have hp2 : H2 p = some (.dK []) := np S13 nm
  have hv : v = kV key := by
    have iv := i1.look R1 h2'
    cases kd with
    | int i => cases h3'; exact iv.intE
    | str z => cases h3'; exact iv.strE
    | _ => cases h3'
  refine ⟨hp2, [(key, w)], by rw [hv]; rfl, by simp, ?_⟩
  have kp : ∀ b u, H2 b = some u → ¬ Prot (fun b => q b ∨ b = p) env' σ b → upd H2 p (.dK (mergeK [] [(key, w)])) b = some u := fun b u e n => by
    rw [upd_ne fun z => n (.inl (.inr z))]
    exact e
  have Rx : Rel X.mg (fun b => q b ∨ b = p) env' σ (upd H2 p (.dK (mergeK [] [(key, w)]))) := by
    refine ⟨R3.len, fun j d e => ?_, fun j s e w => ?_, R3.inj, fun b z => ?_⟩
    · obtain ⟨u, a1, a2⟩ := R3.val j d e
      exact ⟨u, a1, a2.mono (fun _ z => z) kp⟩
    · obtain ⟨a, a1, a2, a3⟩ := R3.wr j s e w
      exact ⟨a, a1, a2, a3.mono (fun _ z => z) kp fun u e => by
        rw [upd_ne fun z => a2 (.inr z)]
        exact e⟩
    · by_cases hb : b = p
      · rw [hb, upd_same]; simp
      · rw [upd_ne hb]; exact R3.qin b z
  have Sx : StepE env σ H env' (upd H2 p (.dK (mergeK [] [(key, w)]))) := by
    refine ⟨fun b u e n => ?_, fun b z => ?_, S13.mono, S13.there, S13.muts, S13.len⟩
    · rw [upd_ne (ne_of_none e hp)]
      exact S13.keep b u (ext_new hp b u e) n
    · by_cases hb : b = p
      · rw [hb, upd_same]; simp
      · rw [upd_ne hb]
        refine S13.dom b ?_
        rw [upd_ne hb]
        exact z
  refine k _ _ (Rx.less fun b z => .inl z) Sx ⟨p, rfl, hp, fun z => R.qin p z hp, ⟨mergeK [] [(key, w)], upd_same, rfl, ?_⟩, Rx⟩
  refine (IsDs.one hd).mono (fun b z => ?_) kp
  rcases z with (z | z) | z
  · exact .inl (.inl z)
  · exact .inr z
  · exact .inl (.inr z)
/-! ### three at once -/
def sPar3 (i j l : Nat) (fs : EM (List R)) : EM O := eBind fs fun rs => eBind (eForces rs) fun ds => match ds with
  | [a, b, c] => eBind (gPut i a) fun _ => eBind (gPut j b) fun _ => eBind (gPut l c) fun _ => eRet .nx
  | _ => fun _ => none
theorem ds_par3 {X : Cx} {a b c : Expr} {fs : EM (List R)} {i j l : Nat} {x y z : Str} {px py pz pt pos : Pos} {kt k2 : Nat} {pt2 : Pos} (hc : X.calm = true) (hN : X.N.Nodup) (hi : X.N[i]? = some x) (hj : X.N[j]? = some y) (hl : X.N[l]? = some z) (hij : i ≠ j) (hil : i ≠ l) (hjl : j ≠ l) (hx : X.env.scope.names.lookup x = some .local) (hy : X.env.scope.names.lookup y = some .local) (hz : X.env.scope.names.lookup z = some .local) (ha : PA X [a, b, c] (TDA X.mg fs))
    (hw : swappedStores [.Tuple [.Name x px, .Name y py, .Name z pz]
        kt pt] (.Tuple [a, b, c] k2 pt2) X.env = pure (some [x, y, z]))
    (hs : swapsWithSole [.Tuple [.Name x px, .Name y py, .Name z pz] kt pt] (.Tuple [a, b, c] k2 pt2) pos.line X.env = pure false := by rfl) : PS X (.Assign [.Tuple [.Name x px, .Name y py, .Name z pz] kt pt] (.Tuple [a, b, c] k2 pt2) pos) (TDS X.mg (sPar3 i j l fs)) := by
  refine PS.of (ps_par3 hc hN hi hj hl hij hil hjl hx hy hz ha hw hs) ?_
  rintro D σ H ⟨q, env, o, env', R, ev, k⟩
  obtain ⟨r1, e1, h1, ev1⟩ := eBind_some ev
  obtain ⟨ds, e2, h2, ev2⟩ := eBind_some ev1
  refine ⟨q, env, r1, e1, R, h1, fun vs H1 R1 S1 i1 => ?_⟩
  obtain ⟨R2, S2, hd⟩ := i1.forces R1 h2
  split at ev2
  · obtain ⟨⟨⟩, e3, h3, ev3⟩ := eBind_some ev2
    obtain ⟨⟨⟩, e4, h4, ev4⟩ := eBind_some ev3
    obtain ⟨⟨⟩, e5, h5, ev5⟩ := eBind_some ev4
    obtain ⟨rfl, rfl⟩ := eRet_some ev5
    cases hd with
    | cons d1 t =>
      cases t with
      | cons d2 t =>
        cases t with
        | cons d3 t =>
          cases t
          obtain ⟨R3, S3⟩ := gPut_ok R2 d1 h3
          have d2' := Step.isD (H' := H1) S3.to d2
          have d3' := Step.isD (H' := H1) S3.to d3
          obtain ⟨R4, S4⟩ := gPut_ok R3 d2' h4
          have d3'' := Step.isD (H' := H1) S4.to d3'
          obtain ⟨R5, S5⟩ := gPut_ok R4 d3'' h5
          exact ⟨_, _, _, rfl, k _ H1 R5 ((((S1.trans S2).to.trans S3.to).trans S4.to).trans S5.to)⟩
  · cases ev2
end DL
/-! A static method that is read off its class and called: by position, by names. -/
namespace StM
open PySem PySem.Spec PyProof.Rows L2 ClX
/-- C.m is a static method: its record at p, its def at g -/
structure SMet (K : PySem.W.Frag) (C : Addr) (mc : Value) (m : Str) (p g : Addr) : Prop where
  found : PySem.W.findCls K (.ref C) mc m = some (.get (.builtin "staticmethod.__get__") (.ref p) .none (.ref C))
  recd : ∃ rest, PySem.W.recIn K p "staticmethod" = some (.ref g :: rest)
section
variable {X : Cx} {pins : List (Addr × Obj)} {σ : L2.St} {H : Hp} {s : Shared} {C p g : Addr} {mc : Value} {m : Str} {A : Around} {E : Value → Shared → Prop}
theorem getsm_ok {b : Bool} {Q : Value → Shared → Prop} (I : Inv X pins σ H s) (r : CRead X.K C mc) (k : SMet X.K C mc m p g)
    (h : ∀ s', Inv X pins σ H s' → Q (.ref g) s') : wpAny (model X.prog X.w) A (getAttr (.ref C) m b) Q E s := by
  obtain ⟨rest, hp⟩ := k.recd
  refine PySem.W.cls_bind I.kIn r.rd k.found ?_
  refine wpAny_call (PySem.W.sm_get (s := { s with toks := s.toks + 1 }) I.kIn hp (PySem.W.handed_on rfl ?_))
  exact h _ (I.tok _)
theorem getmethsm_ok {pl : Sem Bool} {Q : Value × List Value → Shared → Prop} (I : Inv X pins σ H s) (r : CRead X.K C mc) (k : SMet X.K C mc m p g)
    (h : ∀ s', Inv X pins σ H s' → Q (.ref g, []) s') : wpAny (model X.prog X.w) A (getMethod (.ref C) m pl) Q E s :=
  PySem.W.method_cls I.kIn r.ga (getsm_ok I r k h)
end
section
variable {X : Cx} {CX : CXT} {k : Nat} {C p g : Addr} {mc : Value} {sp : Sp} {E : XK} {e : Expr} {es : List Expr} {x m : Str} {np pos apos : Pos} {t tk : TA} {pl : Sem Bool} {fd : FuncData} {ps ks : List Str} {ds : List Value} {dvs : List V} {kws : List Keyword}
theorem pe_smeth (hg : Gl X x) (hm : X.mg x = some (.ref C)) (r : CRead X.K C mc) (c : SMet X.K C mc m p g) (F : FnOk X.prog X.w X.K X.mg X.base CX k g fd ps sp) (hr : Room k X.A) (hk : PySem.W.keepIn X.K (.ref g) = true) (hb : Binds X.K fd ps ds) (hd : Vals dvs ds) (hx : Passes CX X E) (ha : PA X (e :: es) t)
    (hdb : (x == ("__debug__" : Str)) = false := by decide) (hst : starEach (e :: es) X.env = (false, eval e X.env) :: starEach es X.env := by rfl) (hpl : (backTo pos (starEach es X.env)).any (·.1) = false := by rfl)
    (ht : eval (.Call (.Attribute (.Name x np) m apos) (e :: es) [] pos) X.env = (do let ov ← eval (.Name x np) X.env; standAt apos.atName; let (f, first) ← holding [ov] (getMethod ov m pl); callWith pos f first (backTo pos (starEach (e :: es) X.env)) (backToKw pos (keywordEach [] X.env))) := by rfl) :
    PE X (.Call (.Attribute (.Name x np) m apos) (e :: es) [] pos) (tCall sp dvs E t) := by
  refine ⟨fun pins s σ H Q J h => ?_⟩
  refine PySem.W.methodCall_KW (pl := pl) (ld_glob J hg hm ?_ hdb) ht
  refine getmethsm_ok J r c fun s2 I2 => ?_
  refine PySem.W.callWith_K (h₀ := X.base) I2.ok.mod.kin hk (thn (ha.run pos pins s2 σ H _ I2 h) fun us s3 ⟨vs, H2, I3, rv, q2⟩ => ⟨I3.kIn, ?_⟩) hst hpl
  exact run_fn F hr hb hd hx I3 rv q2
variable {gg : List Value → List Value → List Value} {gV : List V → List V → List V}
theorem pe_smethK (hg : Gl X x) (hm : X.mg x = some (.ref C)) (r : CRead X.K C mc) (c : SMet X.K C mc m p g) (F : FnOk X.prog X.w X.K X.mg X.base CX k g fd ps sp) (hr : Room k X.A) (hk : PySem.W.keepIn X.K (.ref g) = true) (hb : KBinds X.K fd ps ks gg gV) (hx : Passes CX X E)
    (hkw : PK X kws tk) (hall : (backToKw pos (keywordEach kws X.env)).all (·.1.isSome) = true := by rfl) (hks : (backToKw pos (keywordEach kws X.env)).filterMap (·.1) = ks := by rfl)
    (hdb : (x == ("__debug__" : Str)) = false := by decide) (hpl : ((backTo pos (starEach [] X.env)).any (·.1) || (backToKw pos (keywordEach kws X.env)).any (·.1.isNone)) = false := by rfl)
    (ht : eval (.Call (.Attribute (.Name x np) m apos) [] kws pos) X.env = (do let ov ← eval (.Name x np) X.env; standAt apos.atName; let (f, first) ← holding [ov] (getMethod ov m pl); callWith pos f first (backTo pos (starEach [] X.env)) (backToKw pos (keywordEach kws X.env))) := by rfl) :
    PE X (.Call (.Attribute (.Name x np) m apos) [] kws pos) (tCallK sp gV E tNil tk) := by
  refine ⟨fun pins s σ H Q J h => ?_⟩
  refine PySem.W.methodCall_KW (pl := pl) (ld_glob J hg hm ?_ hdb) ht
  refine getmethsm_ok J r c fun s2 I2 => ?_
  refine PySem.W.callWith_KW0 (h₀ := X.base) I2.ok.mod.kin hk hall (thn (hkw.run pos pins s2 σ H _ I2 h) fun ws s3 ⟨zs, H2, I3, rz, q2⟩ => ⟨I3.kIn, ?_⟩) hpl
  rw [hks]
  exact run_fnk (us := []) (vs := []) F hr hb hx I3 .nil rz q2
end
end StM
/-! Static methods over data. -/
namespace DL
open PySem PySem.Spec L2
open PyProof.Rows hiding St
/-- by names alone -/
def byN {α : Type} : List α → List α → List α
  | [], ws => ws
  | _, _ => []
/-- the static method x.m answers F -/
structure Smk (P : Program) (w : World) (K : PySem.W.Frag) (mg : Str → Option Value) (base : Heap) (x m : Str) (ps : List Str) (k n : Nat) (F : EM R) : Prop where
  ex : ∃ C mc p g fd, mg x = some (.ref C) ∧ ClX.CRead K C mc ∧ StM.SMet K C mc m p g ∧ PySem.W.keepIn K (.ref g) = true ∧ Binds K fd ps [] ∧ KBinds K fd ps ps byN byN ∧ FnOk P w K mg base CX0 k g fd ps (spF mg n F)
  hn : ∀ env, F env ≠ none → env.length = n
section
variable {X : Cx} {x m : Str} {np pos apos : Pos} {e : Expr} {es : List Expr} {ps : List Str} {fs : EM (List R)} {f : EM R} {F : EM R} {j k n : Nat} {pl : Sem Bool} {kws : List Keyword} {nm : Option Str} {kpos : Pos}
theorem dsm (G : Smk X.prog X.w X.K X.mg X.base x m ps k n F) (hr : Room j X.A) (ha : PA X (e :: es) (TDA X.mg fs)) (hj : k ≤ j := by omega) (hg : Gl X x := by rfl) (hdb : (x == ("__debug__" : Str)) = false := by decide) (hs : notStar e = true := by rfl) (hpl : (backTo pos (starEach es X.env)).any (·.1) = false := by rfl)
    (ht : eval (.Call (.Attribute (.Name x np) m apos) (e :: es) [] pos) X.env = (do let ov ← eval (.Name x np) X.env; standAt apos.atName; let (f, first) ← holding [ov] (getMethod ov m pl); callWith pos f first (backTo pos (starEach (e :: es) X.env)) (backToKw pos (keywordEach [] X.env))) := by rfl) :
    PE X (.Call (.Attribute (.Name x np) m apos) (e :: es) [] pos) (TD X.mg (eCallV F fs)) := by
  obtain ⟨C, mc, p, g, fd, hm, r, c, hk, hb, _, G1⟩ := G.ex
  exact PE.of (StM.pe_smeth hg hm r c G1 (hr.mono hj) hk hb .nil (E := E0) pass0 ha hdb (star_no hs) hpl ht) fun σ H Q h => red_callV σ H Q G.hn h
theorem PK.of {t t' : TA} (h : PK X kws t) (w : ∀ σ H Q, t' σ H Q → t σ H Q) : PK X kws t' := ⟨fun p pins s σ H Q J y => h.run p pins s σ H Q J (w σ H Q y)⟩
theorem dkc (h1 : PE X e (TD X.mg f)) (h2 : PK X kws (TDA X.mg fs)) : PK X (⟨nm, e, kpos⟩ :: kws) (TDA X.mg (eCons f fs)) := by
  refine PK.of (pk_cons h1 h2) ?_
  rintro σ H Q ⟨q, env, r, env', R, ev, k⟩
  obtain ⟨r1, e1, h1, ev_1⟩ := eBind_some ev
  obtain ⟨r2, e2, h2, ev_2⟩ := eBind_some ev_1
  obtain ⟨rfl, rfl⟩ := eRet_some ev_2
  refine ⟨q, env, r1, e1, R, h1, fun v H1 R1 S1 i1 => ⟨q, e1, r2, env', R1, h2, fun vs H2 R2 S2 i2 => k (v :: vs) H2 R2 (S1.trans S2) (.cons (i1.step S2) (i2.back S1.dom))⟩⟩
theorem dkl (h1 : PE X e (TD X.mg f)) : PK X [⟨nm, e, kpos⟩] (TDA X.mg (eOne f)) := by
  refine PK.of (pk_cons h1 pk_nil) ?_
  rintro σ H Q ⟨q, env, r, env', R, ev, k⟩
  obtain ⟨r1, e1, h1, ev_1⟩ := eBind_some ev
  obtain ⟨rfl, rfl⟩ := eRet_some ev_1
  exact ⟨q, env, r1, env', R, h1, fun v H1 R1 S1 i1 => k [v] H1 R1 S1 (.cons i1 .nil)⟩
theorem dsmK (G : Smk X.prog X.w X.K X.mg X.base x m ps k n F) (hr : Room j X.A) (hkw : PK X kws (TDA X.mg fs)) (hj : k ≤ j := by omega) (hg : Gl X x := by rfl) (hall : (backToKw pos (keywordEach kws X.env)).all (·.1.isSome) = true := by rfl) (hks : (backToKw pos (keywordEach kws X.env)).filterMap (·.1) = ps := by rfl)
    (hdb : (x == ("__debug__" : Str)) = false := by decide) (hpl : ((backTo pos (starEach [] X.env)).any (·.1) || (backToKw pos (keywordEach kws X.env)).any (·.1.isNone)) = false := by rfl)
    (ht : eval (.Call (.Attribute (.Name x np) m apos) [] kws pos) X.env = (do let ov ← eval (.Name x np) X.env; standAt apos.atName; let (f, first) ← holding [ov] (getMethod ov m pl); callWith pos f first (backTo pos (starEach [] X.env)) (backToKw pos (keywordEach kws X.env))) := by rfl) :
    PE X (.Call (.Attribute (.Name x np) m apos) [] kws pos) (TD X.mg (eCallV F fs)) := by
  obtain ⟨C, mc, p, g, fd, hm, r, c, hk, _, hb, G1⟩ := G.ex
  refine PE.of (StM.pe_smethK hg hm r c G1 (hr.mono hj) hk hb (E := E0) pass0 hkw hall hks hdb hpl ht) fun σ H Q h => ?_
  have := red_callV (E := E0) σ H Q G.hn h
  unfold tCall at this
  simp only [List.append_nil] at this
  exact this
end
section
variable {P : Program} {w : World} {K : PySem.W.Frag}
    {mg : Str → Option Value} {base : Heap}
theorem byN_rel {vs : List V} {us : List Value} {zs : List V} {ws : List Value} (r : Vals vs us) (q : Vals zs ws) : Vals (byN vs zs) (byN us ws) := by
  cases r with
  | nil => exact q
  | cons _ _ => exact .nil
theorem kbinds_of {fd : FuncData} {ps : List Str} (hne : ps ≠ []) (h : ∀ ws : List Value, ws.length = ps.length → bindArgs fd ⟨[], ps.zip ws⟩ = pure (ps.zip ws)) : KBinds K fd ps ps byN byN where
  to := fun s us ws hs hl => by
    cases us with
    | nil => exact .of_eq (h ws hl)
    | cons u us => exact absurd (List.length_eq_zero_iff.mp hl.symm) hne
  rel := byN_rel
theorem smk_ok {x m qual : Str} {params : Arguments} {body : List Stmt} {scope : Scope} {C p g : Addr} {mc : Value} {fd : FuncData} {N ps : List Str} {k : Nat} {fb : EM O} (hm : mg x = some (.ref C)) (r : ClX.CRead K C mc) (c : StM.SMet K C mc m p g) (F : FunD K m qual params body scope [] [] g fd) (S : FnScope N ps scope) (hne : ps ≠ [])
    (bd : ∀ (kV doc pm : Value) (an : Option Addr) (cdv ct : Value) (us : List Value), us.length = ps.length → bindArgs (PySem.W.fnOf m qual params body scope .none kV doc pm an cdv ct) ⟨us, []⟩ = pure (ps.zip us))
    (bk : ∀ (kV doc pm : Value) (an : Option Addr) (cdv ct : Value) (ws : List Value), ws.length = ps.length → bindArgs (PySem.W.fnOf m qual params body scope .none kV doc pm an cdv ct) ⟨[], ps.zip ws⟩ = pure (ps.zip ws))
    (hb : ∀ (cdv : Value) (A : Around) (outer : List PySem.Env) (s : Shared) (H : Hp) (E : XK), Room k (A.deeper (envOfC qual scope s.heap.objs.size g cdv)) → PSs (cxOf CX0 P w K mg base N qual scope g cdv A outer s H E).nox body (TDS mg fb)) :
    Smk P w K mg base x m ps (k + 1) ps.length (runF N.length ps.length fb) := by
  refine ⟨⟨C, mc, p, g, fd, hm, r, c, F.kp, F.bindsN bd, ?_, fn_ok F S fun cdv A outer s H E hr => PSs.nox (hb cdv A outer s H E hr)⟩, fun env h => runF_len env h⟩
  obtain ⟨oc, od, dV, kV, doc, pm, an, cdv, ct, osl, rfl, lk, hcd, hd, hk⟩ := F.ex
  rcases hd with ⟨_, rfl⟩ | ⟨e, _⟩
  · exact kbinds_of hne (bk kV doc pm an cdv ct)
  · exact absurd rfl e
end
end DL
/-! name = [..], on one row. -/
namespace DL
open PySem PySem.Spec L2
open PyProof.Rows hiding St
section
variable {X : Cx} {elt tg iter : Expr} {ifs : List Expr} {scope : Scope} {own : List (Str × Nat)} {pos spos : Pos} {it : EM (List Dat)} {gs : List Nat} {g : Dat → EM Unit} {t : EM Bool} {f : EM R}
theorem ds_setLc {i : Nat} {y : Str} {py : Pos} (hy : X.N[i]? = some y) (hyl : X.env.scope.names.lookup y = some .local)
    (hsw : swapsWith (.ListComp elt [⟨tg, iter, ifs, 0⟩] scope pos) (some (.Name y py)) spos.line X.env = pure true) (hc : X.calm = true) (hN : X.N.Nodup) (hi : PI X tg iter (TDI X.mg it)) (ok : BlkOk X.N X.env.scope scope own) (hv : ∀ j, j ∈ gs → j ∈ own.map (·.2))
    (hg : ∀ (s : Shared) (H : Hp) (C : Addr) (cl : List (Str × Addr)) (fp : List Addr), PG (X.blk s H scope (compEnvC scope cl C X.env) fp) tg (TDG X.mg gs g)) (ht : ∀ (s : Shared) (H : Hp) (C : Addr) (cl : List (Str × Addr)) (fp : List Addr), PTs (X.blk s H scope (compEnvC scope cl C X.env) fp) ifs (TDT X.mg t))
    (he : ∀ (s : Shared) (H : Hp) (C : Addr) (cl : List (Str × Addr)) (fp : List Addr), PE (X.blk s H scope (compEnvC scope cl C X.env) fp) elt (TD X.mg f)) (hs : ∀ x, foldedSetIterable iter X.env x = pure x := by intro _; rfl) :
    PS X (.Assign [.Name y py] (.ListComp elt [⟨tg, iter, ifs, 0⟩] scope pos) spos) (TDS X.mg (sSet i (eLc it g t f (own.map (·.2))))) := by
  refine PS.of (ps_setLc hc hN hy hyl hsw hi ok hg ht he hs) ?_
  rintro D σ H ⟨q, env, o, env', R, ev, k⟩
  obtain ⟨r1, e1, h1, ev1⟩ := eBind_some ev
  obtain ⟨⟨⟩, e2, h2, ev2⟩ := eBind_some ev1
  obtain ⟨rfl, rfl⟩ := eRet_some ev2
  refine red_lc _ hv σ H _ ⟨q, env, r1, e1, R, h1, fun v H1 R1 S1 i1 => ?_⟩
  obtain ⟨R2, S2⟩ := eSet_ok R1 i1 h2
  exact k _ H1 R2 (S2 env S1)
end
end DL
/-! Running functions of environments, step by step. -/
namespace DL
open PySem PySem.Spec L2
open PyProof.Rows hiding St
section
variable {α β : Type} {f g h : EM R} {env : Env}
/-- what a step hands on -/
def andThen {α β : Type} (o : Option (α × Env)) (g : α → EM β) : Option (β × Env) := match o with
  | some (a, e1) => g a e1
  | none => none
@[simp] theorem at_some {α β : Type} (a : α) (e1 : Env) (g : α → EM β) : andThen (some (a, e1)) g = g a e1 := rfl
@[simp] theorem at_none {α β : Type} (g : α → EM β) : andThen none g = none := rfl
@[simp] theorem a_bind {α β : Type} (f : EM α) (g : α → EM β) (env : Env) : eBind f g env = andThen (f env) g := rfl
@[simp] theorem a_ret {α : Type} (a : α) (env : Env) : eRet a env = some (a, env) := rfl
def slotV (o : Option (Option Slot)) (i : Nat) (env : Env) : Option (R × Env) := match o with
  | some (some _) => some (.bor i, env)
  | _ => none
@[simp] theorem slotV_s (s : Slot) (i : Nat) (env : Env) : slotV (some (some s)) i env = some (.bor i, env) := rfl
@[simp] theorem a_var (i : Nat) (env : Env) : eVar i env = slotV env[i]? i env := rfl
@[simp] theorem a_con (d : Dat) (env : Env) : eCon d env = some (.val d, env) := rfl
@[simp] theorem a_nil (env : Env) : eNil env = some ([], env) := rfl
@[simp] theorem a_cons (f : EM R) (g : EM (List R)) (env : Env) : eCons f g env = andThen (f env) fun r e1 => andThen (g e1) fun rs e2 => some (r.weak :: rs, e2) := rfl
@[simp] theorem a_one (f : EM R) (env : Env) : eOne f env = andThen (f env) fun r e1 => some ([r], e1) := rfl
def slotD (o : Option (Option Slot)) : Option Dat := match o with
  | some (some s) => some s.dat
  | _ => none
@[simp] theorem slotD_s (s : Slot) : slotD (some (some s)) = some s.dat := rfl
@[simp] theorem l_val (d : Dat) (env : Env) : look env (.val d) = some d := rfl
@[simp] theorem l_new (d : Dat) (env : Env) : look env (.new d) = some d := rfl
@[simp] theorem l_bor (i : Nat) (env : Env) : look env (.bor i) = slotD env[i]? := rfl
@[simp] theorem w_val (d : Dat) : R.weak (.val d) = .val d := rfl
@[simp] theorem w_new (d : Dat) : R.weak (.new d) = .val d := rfl
@[simp] theorem w_bor (i : Nat) : R.weak (.bor i) = .bor i := rfl
def withEnv {α : Type} (o : Option α) (env : Env) : Option (α × Env) := o.map fun a => (a, env)
@[simp] theorem we_some {α : Type} (a : α) (env : Env) : withEnv (some a) env = some (a, env) := rfl
@[simp] theorem we_none {α : Type} (env : Env) : withEnv (none : Option α) env = none := rfl
@[simp] theorem a_look (r : R) (env : Env) : eLook r env = withEnv (look env r) env := rfl
@[simp] theorem a_opt {α : Type} (o : Option α) (env : Env) : eOpt o env = withEnv o env := rfl
def slotF (o : Option (Option Slot)) (i : Nat) (env : Env) : Option (Dat × Env) := match o with
  | some (some (.val d)) => some (d, env)
  | some (some (.own d)) => some (d, env.set i (some (.val d)))
  | _ => none
@[simp] theorem slotF_v (d : Dat) (i : Nat) (env : Env) : slotF (some (some (.val d))) i env = some (d, env) := rfl
@[simp] theorem slotF_o (d : Dat) (i : Nat) (env : Env) : slotF (some (some (.own d))) i env = some (d, env.set i (some (.val d))) := rfl
@[simp] theorem f_val (d : Dat) (env : Env) : eForce (.val d) env = some (d, env) := rfl
@[simp] theorem f_new (d : Dat) (env : Env) : eForce (.new d) env = some (d, env) := rfl
@[simp] theorem f_bor (i : Nat) (env : Env) : eForce (.bor i) env = slotF env[i]? i env := rfl
@[simp] theorem fs_nil (env : Env) : eForces [] env = some ([], env) := rfl
@[simp] theorem fs_cons (r : R) (rs : List R) (env : Env) : eForces (r :: rs) env = andThen (eForce r env) fun d e1 => andThen (eForces rs e1) fun ds e2 => some (d :: ds, e2) := rfl
@[simp] theorem ls_nil (env : Env) : eLooks [] env = some ([], env) := rfl
@[simp] theorem ls_cons (r : R) (rs : List R) (env : Env) : eLooks (r :: rs) env = andThen (eLook r env) fun d e1 => andThen (eLooks rs e1) fun ds e2 => some (d :: ds, e2) := rfl
@[simp] theorem o_f (d : Dat) : Out.r (false, d) = .val d := rfl
@[simp] theorem o_t (d : Dat) : Out.r (true, d) = .new d := rfl
@[simp] theorem a_tup (fs : EM (List R)) (env : Env) : eTup fs env = andThen (fs env) fun rs e1 => andThen (eForces rs e1) fun ds e2 => withEnv (if ds.length ≤ 100000 then some (.val (.tup ds)) else none) e2 := rfl
@[simp] theorem a_lst (fs : EM (List R)) (env : Env) : eLst fs env = andThen (fs env) fun rs e1 => andThen (eForces rs e1) fun ds e2 => withEnv (if ds.length ≤ 100000 then some (.new (.lst ds)) else none) e2 := rfl
@[simp] theorem a_op2 (op : Dat → Dat → Option Out) (f g : EM R) (env : Env) : eOp2 op f g env = andThen (f env) fun r e1 => andThen (g e1) fun s e2 => andThen (eLook r e2) fun a e3 => andThen (eLook s e3) fun b e4 => andThen (withEnv (op a b) e4) fun o e5 => some (o.r, e5) := rfl
@[simp] theorem a_op1 (op : Dat → Option Out) (f : EM R) (env : Env) : eOp1 op f env = andThen (f env) fun r e1 => andThen (eLook r e1) fun a e3 => andThen (withEnv (op a) e3) fun o e5 => some (o.r, e5) := rfl
@[simp] theorem a_opN (op : List Dat → Option Out) (fs : EM (List R)) (env : Env) : eOpN op fs env = andThen (fs env) fun rs e1 => andThen (eLooks rs e1) fun ds e2 => andThen (withEnv (op ds) e2) fun o e5 => some (o.r, e5) := rfl
@[simp] theorem a_truth (f : EM R) (env : Env) : eTruth f env = andThen (f env) fun r e1 => andThen (eLook r e1) fun d e2 => withEnv (truD d) e2 := rfl
@[simp] theorem a_tno (f : EM Bool) (env : Env) : tNo f env = andThen (f env) fun b e1 => some (!b, e1) := rfl
def ifB {α : Type} (b : Bool) (x y : Option α) : Option α := if b = true then x else y
@[simp] theorem ifB_t {α : Type} (x y : Option α) : ifB true x y = x := rfl
@[simp] theorem ifB_f {α : Type} (x y : Option α) : ifB false x y = y := rfl
theorem ifB_app {α : Type} (b : Bool) (f g : EM α) (env : Env) : (if b = true then f else g) env = ifB b (f env) (g env) := by cases b <;> rfl
@[simp] theorem a_tand (f g : EM Bool) (env : Env) : tAnd2 f g env = andThen (f env) fun b e1 => ifB b (g e1) (some (false, e1)) := by
  show andThen (f env) _ = _
  congr 1
  funext b e1
  cases b <;> rfl
@[simp] theorem a_tor (f g : EM Bool) (env : Env) : tOr2 f g env = andThen (f env) fun b e1 => ifB b (some (true, e1)) (g e1) := by
  show andThen (f env) _ = _
  congr 1
  funext b e1
  cases b <;> rfl
@[simp] theorem a_if {α : Type} (c : EM Bool) (f g : EM α) (env : Env) : eIf c f g env = andThen (c env) fun b e1 => ifB b (f e1) (g e1) := by
  show andThen (c env) _ = _
  congr 1
  funext b e1
  cases b <;> rfl
@[simp] theorem a_or (f g : EM R) (env : Env) : eOr2 f g env = andThen (f env) fun r e1 => andThen (eLook r e1) fun d e2 => andThen (withEnv (truD d) e2) fun b e3 => ifB b (some (r, e3)) (g e3) := by
  show andThen (f env) _ = _
  congr 1
  funext r e1
  show andThen (eLook r e1) _ = _
  congr 1
  funext d e2
  show andThen (withEnv (truD d) e2) _ = _
  congr 1
  funext b e3
  cases b <;> rfl
@[simp] theorem a_and (f g : EM R) (env : Env) : eAnd2 f g env = andThen (f env) fun r e1 => andThen (eLook r e1) fun d e2 => andThen (withEnv (truD d) e2) fun b e3 => ifB b (g e3) (some (r, e3)) := by
  show andThen (f env) _ = _
  congr 1
  funext r e1
  show andThen (eLook r e1) _ = _
  congr 1
  funext d e2
  show andThen (withEnv (truD d) e2) _ = _
  congr 1
  funext b e3
  cases b <;> rfl
@[simp] theorem a_not (f : EM R) (env : Env) : eNot f env = andThen (f env) fun r e1 => andThen (eLook r e1) fun d e2 => andThen (withEnv (truD d) e2) fun b e3 => some (.val (.bl (!b)), e3) := rfl
def boolR (r : R) (env : Env) : Option (Bool × Env) := match r with
  | .val (.bl k) => some (k, env)
  | _ => none
@[simp] theorem boolR_b (k : Bool) (env : Env) : boolR (.val (.bl k)) env = some (k, env) := rfl
@[simp] theorem a_tcmp (op : Dat → Dat → Option Out) (f g : EM R) (env : Env) : DL.tCmp op f g env = andThen (eOp2 op f g env) boolR := by
  show andThen (eOp2 op f g env) _ = _
  congr 1
  funext r e1
  cases r with
  | val d => cases d <;> rfl
  | _ => rfl
@[simp] theorem a_tchn (op op' : Dat → Dat → Option Out) (f g h : EM R) (env : Env) : tChn op op' f g h env = andThen (eChain op op' f g h env) boolR := by
  show andThen (eChain op op' f g h env) _ = _
  congr 1
  funext r e1
  cases r with
  | val d => cases d <;> rfl
  | _ => rfl
def chO (o : Out) (x y : Option (R × Env)) : Option (R × Env) := match o with
  | (false, .bl true) => x
  | (false, .bl false) => y
  | _ => none
@[simp] theorem chO_t (k : Bool) (x y : Option (R × Env)) : chO (false, .bl k) x y = ifB k x y := by cases k <;> rfl
@[simp] theorem a_chain (op op' : Dat → Dat → Option Out) (f g h : EM R) (env : Env) : eChain op op' f g h env = andThen (f env) fun r e1 => andThen (g e1) fun s e2 => andThen (eLook r e2) fun a e3 => andThen (eLook s e3) fun b e4 => andThen (withEnv (op a b) e4) fun o e5 =>
    chO o (andThen (h e5) fun t e6 => andThen (eLook s e6) fun b' e7 => andThen (eLook t e7) fun c e8 => andThen (withEnv (op' b' c) e8) fun o e9 => some (o.r, e9)) (some (.val (.bl false), e5)) := by
  show andThen (f env) _ = _
  congr 1
  funext r e1
  show andThen (g e1) _ = _
  congr 1
  funext s e2
  show andThen (eLook r e2) _ = _
  congr 1
  funext a e3
  show andThen (eLook s e3) _ = _
  congr 1
  funext b e4
  show andThen (withEnv (op a b) e4) _ = _
  congr 1
  funext o e5
  obtain ⟨k, d⟩ := o
  cases k with
  | true => rfl
  | false => cases d with
    | bl k => cases k <;> rfl
    | _ => rfl
/-! statements -/
def seqO (o : O) (g : EM O) (env : Env) : Option (O × Env) := match o with
  | .nx => g env
  | o => some (o, env)
@[simp] theorem seqO_n (g : EM O) (env : Env) : seqO .nx g env = g env := rfl
@[simp] theorem seqO_r (r : R) (g : EM O) (env : Env) : seqO (.rt r) g env = some (.rt r, env) := rfl
@[simp] theorem seqO_b (g : EM O) (env : Env) : seqO .bk g env = some (.bk, env) := rfl
@[simp] theorem seqO_c (g : EM O) (env : Env) : seqO .ct g env = some (.ct, env) := rfl
@[simp] theorem a_seq (f g : EM O) (env : Env) : sSeq f g env = andThen (f env) fun o e1 => seqO o g e1 := by
  show andThen (f env) _ = _
  congr 1
  funext o e1
  cases o <;> rfl
@[simp] theorem a_sexp (f : EM R) (env : Env) : sExp f env = andThen (f env) fun _ e1 => some (.nx, e1) := rfl
@[simp] theorem a_sret (f : EM R) (env : Env) : sRet f env = andThen (f env) fun r e1 => some (.rt r, e1) := rfl
@[simp] theorem a_sset (i : Nat) (f : EM R) (env : Env) : sSet i f env = andThen (f env) fun r e1 => andThen (eSet i r e1) fun _ e2 => some (.nx, e2) := rfl
@[simp] theorem m_v (d : Dat) : isMtb (some (some (.val d))) = false := rfl
@[simp] theorem m_o (d : Dat) : isMtb (some (some (.own d))) = false := rfl
@[simp] theorem m_m (d : Dat) : isMtb (some (some (.mtb d))) = true := rfl
@[simp] theorem m_n : isMtb (some none) = false := rfl
@[simp] theorem a_setn (i : Nat) (d : Dat) (env : Env) : eSet i (.new d) env = if i < env.length ∧ isMtb env[i]? = false then some ((), env.set i (some (.own d))) else none := rfl
@[simp] theorem a_setv (i : Nat) (d : Dat) (env : Env) : eSet i (.val d) env = if i < env.length ∧ isMtb env[i]? = false then (if isMtb env[i]? = false then some ((), env.set i (some (.val d))) else none) else none := rfl
theorem a_setb (i j : Nat) (env : Env) : eSet i (.bor j) env = if i < env.length ∧ isMtb env[i]? = false then andThen (eForce (.bor j) env) fun d e1 => (if isMtb e1[i]? = false then some ((), e1.set i (some (.val d))) else none) else none := by
  show (if i < env.length ∧ isMtb env[i]? = false then (match force env (.bor j) with
    | some (d, e1) => if isMtb e1[i]? = false then some ((), e1.set i (some (.val d))) else none
    | none => none) else none) = _
  show _ = (if i < env.length ∧ isMtb env[i]? = false then andThen (force env (.bor j)) (fun d e1 => (if isMtb e1[i]? = false then some ((), e1.set i (some (.val d))) else none)) else none)
  generalize force env (.bor j) = x
  cases x with
  | none => rfl
  | some p => rfl
@[simp] theorem a_put (i : Nat) (d : Dat) (env : Env) : gPut i d env = if i < env.length ∧ isMtb env[i]? = false then some ((), env.set i (some (.val d))) else none := rfl
def par2 (i j : Nat) (ds : List Dat) (env : Env) : Option (O × Env) := match ds with
  | [a, b] => andThen (gPut i a env) fun _ e1 => andThen (gPut j b e1) fun _ e2 => some (.nx, e2)
  | _ => none
@[simp] theorem par2_e (i j : Nat) (a b : Dat) (env : Env) : par2 i j [a, b] env = andThen (gPut i a env) fun _ e1 => andThen (gPut j b e1) fun _ e2 => some (.nx, e2) := rfl
@[simp] theorem a_par (i j : Nat) (fs : EM (List R)) (env : Env) : sPar i j fs env = andThen (fs env) fun rs e1 => andThen (eForces rs e1) fun ds e2 => par2 i j ds e2 := by
  show andThen (fs env) _ = _
  congr 1
  funext rs e1
  show andThen (eForces rs e1) _ = _
  congr 1
  funext ds e2
  match ds with
  | [] => rfl
  | [a] => rfl
  | [a, b] => rfl
  | a :: b :: c :: ds => rfl
@[simp] theorem a_asg (f : EM R) (g : Dat → EM Unit) (env : Env) : sAsg f g env = andThen (f env) fun r e1 => andThen (eForce r e1) fun d e2 => andThen (g d e2) fun _ e3 => some (.nx, e3) := rfl
@[simp] theorem a_cut (f : EM R) (lo hi : EM (Option Int)) (env : Env) : eCut f lo hi env = andThen (f env) fun r e1 => andThen (lo e1) fun l e2 => andThen (hi e2) fun h e3 => andThen (eLook r e3) fun d e4 => andThen (withEnv (dCut d l h) e4) fun o e5 => some (o.r, e5) := rfl
@[simp] theorem a_onone (env : Env) : oNone env = some (none, env) := rfl
def intO (d : Dat) (env : Env) : Option (Option Int × Env) := match d with
  | .int i => some (some i, env)
  | _ => none
@[simp] theorem intO_i (i : Int) (env : Env) : intO (.int i) env = some (some i, env) := rfl
@[simp] theorem a_oint (f : EM R) (env : Env) : oInt f env = andThen (f env) fun r e1 => andThen (eLook r e1) intO := by
  show andThen (f env) _ = _
  congr 1
  funext r e1
  show andThen (eLook r e1) _ = _
  congr 1
  funext d e2
  cases d <;> rfl
@[simp] theorem a_sput (j : Nat) (fi fe : EM R) (env : Env) : sPut j fi fe env = andThen (fe env) fun r e1 => andThen (eForce r e1) fun d e2 => andThen (eVar j e2) fun _ e3 => andThen (fi e3) fun k e4 => andThen (eLook k e4) fun kd e5 => putAt j kd d e5 := rfl
def putL (s : Slot) (j : Nat) (i : Int) (d : Dat) (env : Env) : Option (O × Env) := if s.wr = true then (match s.dat with
      | .lst ds => match ixN ds.length i with
        | some n => some (.nx, env.set j (some (s.put (.lst (ds.set n d)))))
        | none => none
      | _ => none) else none
def putO (o : Option (Option Slot)) (j : Nat) (i : Int) (d : Dat) (env : Env) : Option (O × Env) := match o with
  | some (some s) => putL s j i d env
  | _ => none
@[simp] theorem putO_s (s : Slot) (j : Nat) (i : Int) (d : Dat) (env : Env) : putO (some (some s)) j i d env = putL s j i d env := rfl
@[simp] theorem a_putAt (j : Nat) (i : Int) (d : Dat) (env : Env) : putAt j (.int i) d env = putO env[j]? j i d env := by
  unfold putAt putO putL
  cases env[j]? with
  | none => rfl
  | some o => cases o <;> rfl
def putX (ds : List Dat) (o : Option Nat) (j : Nat) (f : Dat → Slot) (d : Dat) (env : Env) : Option (O × Env) := match o with
  | some n => some (.nx, env.set j (some (f (.lst (ds.set n d)))))
  | none => none
@[simp] theorem putX_s (ds : List Dat) (n : Nat) (j : Nat) (f : Dat → Slot) (d : Dat) (env : Env) : putX ds (some n) j f d env = some (.nx, env.set j (some (f (.lst (ds.set n d))))) := rfl
@[simp] theorem putL_m (ds : List Dat) (j : Nat) (i : Int) (d : Dat) (env : Env) : putL (.mtb (.lst ds)) j i d env = putX ds (ixN ds.length i) j .mtb d env := by
  show (match ixN ds.length i with
    | some n => _
    | none => _) = _
  cases ixN ds.length i <;> rfl
@[simp] theorem putL_o (ds : List Dat) (j : Nat) (i : Int) (d : Dat) (env : Env) : putL (.own (.lst ds)) j i d env = putX ds (ixN ds.length i) j .own d env := by
  show (match ixN ds.length i with
    | some n => _
    | none => _) = _
  cases ixN ds.length i <;> rfl
/-! runs and calls -/
def outE (o : Option R) (env : Env) (e1 : Env) : Option (R × Env) := match o with
  | some r => some (r, merge env e1)
  | none => none
@[simp] theorem outE_s (r : R) (env e1 : Env) : outE (some r) env e1 = some (r, merge env e1) := rfl
def endB (env : Env) (o : O) (e1 : Env) : Option (R × Env) := match o with
  | .rt r => outE (out e1 r) env e1
  | .nx => some (.val .non, merge env e1)
  | _ => none
@[simp] theorem endB_r (env : Env) (r : R) (e1 : Env) : endB env (.rt r) e1 = outE (out e1 r) env e1 := rfl
@[simp] theorem endB_n (env : Env) (e1 : Env) : endB env .nx e1 = some (.val .non, merge env e1) := rfl
def slotR (o : Option (Option Slot)) : Option R := match o with
  | some (some (.val d)) => some (.val d)
  | some (some (.own d)) => some (.new d)
  | _ => none
@[simp] theorem slotR_v (d : Dat) : slotR (some (some (.val d))) = some (.val d) := rfl
@[simp] theorem slotR_o (d : Dat) : slotR (some (some (.own d))) = some (.new d) := rfl
@[simp] theorem out_v (d : Dat) (env : Env) : out env (.val d) = some (.val d) := rfl
@[simp] theorem out_n (d : Dat) (env : Env) : out env (.new d) = some (.new d) := rfl
@[simp] theorem out_b (i : Nat) (env : Env) : out env (.bor i) = slotR env[i]? := rfl
theorem a_run (n np : Nat) (body : EM O) (env : Env) : runF n np body env = if noOwnB env = true ∧ env.length = np then andThen (body (env ++ List.replicate (n - env.length) none)) (endB env) else none := by
  unfold runF
  split
  · unfold runB
    cases body (env ++ List.replicate (n - env.length) none) with
    | none => rfl
    | some p =>
      obtain ⟨o, e1⟩ := p
      cases o with
      | nx => rfl
      | rt r =>
        show (out e1 r).map _ = outE (out e1 r) env e1
        cases out e1 r <;> rfl
      | _ => rfl
  · rfl
@[simp] theorem mg_nil (b : Env) : merge [] b = [] := rfl
@[simp] theorem mg_v (d : Dat) (es fs : Env) (f : Option Slot) : merge (some (.val d) :: es) (f :: fs) = some (.val d) :: merge es fs := rfl
@[simp] theorem mg_m (d : Dat) (es fs : Env) (f : Option Slot) : merge (some (.mtb d) :: es) (f :: fs) = f :: merge es fs := rfl
def callO (o : Option (R × Env)) (env : Env) : Option (R × Env) := match o with
  | some (.val d, _) => some (.val d, env)
  | some (.new d, _) => some (.new d, env)
  | _ => none
@[simp] theorem callO_v (d : Dat) (e env : Env) : callO (some (.val d, e)) env = some (.val d, env) := rfl
@[simp] theorem callO_n (d : Dat) (e env : Env) : callO (some (.new d, e)) env = some (.new d, env) := rfl
@[simp] theorem a_callV (F : EM R) (fs : EM (List R)) (env : Env) : eCallV F fs env = andThen (fs env) fun rs e1 => andThen (eForces rs e1) fun ds e2 => callO (F (ds.map fun d => some (.val d))) e2 := by
  show andThen (fs env) _ = _
  refine congrArg _ (funext fun rs => funext fun e1 => ?_)
  show andThen (eForces rs e1) _ = _
  refine congrArg _ (funext fun ds => funext fun e2 => ?_)
  show (match F (ds.map fun d => some (Slot.val d)) with
    | some (.val d, _) => some (R.val d, e2)
    | some (.new d, _) => some (R.new d, e2)
    | _ => none) = callO (F (ds.map fun d => some (Slot.val d))) e2
  generalize F (ds.map fun d => some (Slot.val d)) = x
  unfold callO
  rfl
def callMO (o : Option (R × Env)) (s : Slot) (j : Nat) (env : Env) : Option (R × Env) := match o with
  | some (.val d, some (.mtb d') :: _) => some (.val d, env.set j (some (s.put d')))
  | some (.new d, some (.mtb d') :: _) => some (.new d, env.set j (some (s.put d')))
  | _ => none
@[simp] theorem callMO_v (d d' : Dat) (e : Env) (s : Slot) (j : Nat) (env : Env) : callMO (some (.val d, some (.mtb d') :: e)) s j env = some (.val d, env.set j (some (s.put d'))) := rfl
@[simp] theorem callMO_n (d d' : Dat) (e : Env) (s : Slot) (j : Nat) (env : Env) : callMO (some (.new d, some (.mtb d') :: e)) s j env = some (.new d, env.set j (some (s.put d'))) := rfl
def callMS (F : EM R) (o : Option (Option Slot)) (j : Nat) (ds : List Dat) (env : Env) : Option (R × Env) := match o with
  | some (some s) => if s.wr = true then callMO (F (some (.mtb s.dat) :: ds.map fun d => some (.val d))) s j env else none
  | _ => none
@[simp] theorem callMS_m (F : EM R) (d : Dat) (j : Nat) (ds : List Dat) (env : Env) : callMS F (some (some (.mtb d))) j ds env = callMO (F (some (.mtb d) :: ds.map fun d => some (.val d))) (.mtb d) j env := rfl
@[simp] theorem callMS_o (F : EM R) (d : Dat) (j : Nat) (ds : List Dat) (env : Env) : callMS F (some (some (.own d))) j ds env = callMO (F (some (.mtb d) :: ds.map fun d => some (.val d))) (.own d) j env := rfl
def callMR (F : EM R) (rs : List R) (env : Env) : Option (R × Env) := match rs with
  | .bor j :: rs => andThen (eForces rs env) fun ds e2 => callMS F e2[j]? j ds e2
  | [.new d0] => callO (F [some (.mtb d0)]) env
  | _ => none
@[simp] theorem callMR_b (F : EM R) (j : Nat) (rs : List R) (env : Env) : callMR F (.bor j :: rs) env = andThen (eForces rs env) fun ds e2 => callMS F e2[j]? j ds e2 := rfl
@[simp] theorem callMR_n (F : EM R) (d0 : Dat) (env : Env) : callMR F [.new d0] env = callO (F [some (.mtb d0)]) env := rfl
@[simp] theorem a_callM (F : EM R) (fs : EM (List R)) (env : Env) : eCallM F fs env = andThen (fs env) fun rs e1 => callMR F rs e1 := by
  show andThen (fs env) _ = _
  refine congrArg _ (funext fun rs => funext fun e1 => ?_)
  match rs with
  | [] => rfl
  | .bor j :: rs =>
    show andThen (eForces rs e1) _ = andThen (eForces rs e1) _
    refine congrArg _ (funext fun ds => funext fun e2 => ?_)
    show (match e2[j]? with
      | some (some s) => if s.wr = true then (match F (some (.mtb s.dat) :: ds.map fun d => some (.val d)) with
            | some (.val d, some (.mtb d') :: _) => some (R.val d, e2.set j (some (s.put d')))
            | some (.new d, some (.mtb d') :: _) => some (R.new d, e2.set j (some (s.put d')))
            | _ => none) else none
      | _ => none) = callMS F e2[j]? j ds e2
    unfold callMS callMO
    rfl
  | [.val d] => rfl
  | .val d :: r :: rs => rfl
  | [.new d0] =>
    show (match F [some (.mtb d0)] with
      | some (.val d, _) => some (R.val d, e1)
      | some (.new d, _) => some (R.new d, e1)
      | _ => none) = callO (F [some (.mtb d0)]) e1
    unfold callO
    rfl
  | .new d :: r :: rs => rfl
end
/-! ### comprehensions whose items change nothing -/
theorem wipe1 {i : Nat} {env : Env} {d : Dat} (h : env[i]? = some none) : eWipe [i] (env.set i (some (.val d))) = some ((), env) := by
  have hi : i < env.length := (List.getElem?_eq_some_iff.mp h).1
  show (if isMtb (env.set i (some (.val d)))[i]? = false then some ((), (env.set i (some (.val d))).set i none) else none) = _
  rw [List.getElem?_set_self hi, m_v, if_pos rfl, List.set_set]
  have : env.set i none = env := by
    apply List.ext_getElem?
    intro j
    by_cases hj : i = j
    · subst hj
      rw [List.getElem?_set_self hi, h]
    · rw [List.getElem?_set_ne hj]
  rw [this]
theorem loopC_each {i : Nat} {f : EM R} {env : Env} {hf : Dat → Dat} {hr : Dat → R} (h : env[i]? = some none) : ∀ (ds acc : List Dat), (∀ d ∈ ds, f (env.set i (some (.val d))) = some (hr d, env.set i (some (.val d))) ∧ eForce (hr d) (env.set i (some (.val d))) = some (hf d, env.set i (some (.val d)))) → acc.length + ds.length ≤ 100000 →
    loopC (gPut i) (eRet true) f [i] ds acc env = some (acc ++ ds.map hf, env)
  | [], acc, _, _ => by
    show some (acc, env) = _
    simp
  | d :: ds, acc, hd, hl => by
    have hi : i < env.length := (List.getElem?_eq_some_iff.mp h).1
    obtain ⟨h1, h2⟩ := hd d (by simp)
    have hp : gPut i d env = some ((), env.set i (some (.val d))) := by
      rw [a_put, if_pos ⟨hi, by rw [h]; rfl⟩]
    show eBind (gPut i d) _ env = _
    rw [a_bind, hp, at_some, a_bind, a_ret, at_some, if_pos rfl, a_bind, h1, at_some, a_bind, h2, at_some, a_bind, wipe1 h, at_some, if_pos (by simp at hl; omega)]
    rw [loopC_each h ds (acc ++ [hf d]) (fun e he => hd e (by simp [he])) (by simp at hl ⊢; omega)]
    simp
theorem eLc_each {i : Nat} {it : EM (List Dat)} {f : EM R} {env env1 : Env} {ds : List Dat} (hf : Dat → Dat) (hr : Dat → R) (hi : it env = some (ds, env1)) (h : env1[i]? = some none) (hl : ds.length ≤ 100000)
    (hd : ∀ d ∈ ds, f (env1.set i (some (.val d))) = some (hr d, env1.set i (some (.val d))) ∧ eForce (hr d) (env1.set i (some (.val d))) = some (hf d, env1.set i (some (.val d)))) :
    eLc it (gPut i) (eRet true) f [i] env = some (.new (.lst (ds.map hf)), env1) := by
  unfold eLc
  rw [a_bind, hi, at_some]
  have hfr : freeAt [i] env1 = true := by
    simp [freeAt, h]
  rw [if_pos hfr, a_bind, loopC_each h ds [] hd (by simpa using hl)]
  rfl
theorem bools_map (p : Dat → Bool) : ∀ ds : List Dat, bools (ds.map fun d => .bl (p d)) = some (ds.map p)
  | [] => rfl
  | d :: ds => by
    show (bools (ds.map fun d => .bl (p d))).map _ = _
    rw [bools_map p ds]
    rfl
theorem all_map (p : Dat → Bool) (ds : List Dat) : dAll [.lst (ds.map fun d => .bl (p d))] = some (false, .bl (ds.all p)) := by
  show (bools (ds.map fun d => .bl (p d))).map _ = _
  rw [bools_map]
  simp [List.all_map]
@[simp] theorem a_iany (f : EM R) (env : Env) : iAny f env = andThen (f env) fun r e1 => andThen (eForce r e1) fun d e2 => withEnv (itemsD d) e2 := rfl
end DL
/-! Running loops, append, join. -/
namespace DL
open PySem PySem.Spec L2
def hasS (o : Option (Option Slot)) (env : DL.Env) : Option (Unit × DL.Env) := match o with
  | some (some s) => if s.wr = true then (match s.dat with
      | .lst _ => some ((), env)
      | _ => none) else none
  | _ => none
@[simp] theorem hasS_o (ds : List Dat) (env : DL.Env) : hasS (some (some (.own (.lst ds)))) env = some ((), env) := rfl
@[simp] theorem hasS_m (ds : List Dat) (env : DL.Env) : hasS (some (some (.mtb (.lst ds)))) env = some ((), env) := rfl
@[simp] theorem a_hasL (j : Nat) (env : DL.Env) : hasL j env = hasS env[j]? env := rfl
def endS (o : Option (Option Slot)) (j : Nat) (d : Dat) (env : DL.Env) : Option (R × DL.Env) := match o with
  | some (some s) => if s.wr = true then (match s.dat with
      | .lst ds => if ds.length < 100000 then some (.val .non, env.set j (some (s.put (.lst (ds ++ [d]))))) else none
      | _ => none) else none
  | _ => none
@[simp] theorem endS_o (ds : List Dat) (j : Nat) (d : Dat) (env : DL.Env) : endS (some (some (.own (.lst ds)))) j d env = if ds.length < 100000 then some (.val .non, env.set j (some (.own (.lst (ds ++ [d]))))) else none := rfl
@[simp] theorem a_putEnd (j : Nat) (d : Dat) (env : DL.Env) : putEnd j d env = endS env[j]? j d env := rfl
def app1 (j : Nat) (ds : List Dat) (env : DL.Env) : Option (R × DL.Env) := match ds with
  | [d] => putEnd j d env
  | _ => none
@[simp] theorem app1_e (j : Nat) (d : Dat) (env : DL.Env) : app1 j [d] env = putEnd j d env := rfl
@[simp] theorem a_app (j : Nat) (fs : EM (List R)) (env : DL.Env) : eApp j fs env = andThen (fs env) fun rs e1 => andThen (eForces rs e1) fun ds e2 => app1 j ds e2 := by
  show andThen (fs env) _ = _
  refine congrArg _ (funext fun rs => funext fun e1 => ?_)
  show andThen (eForces rs e1) _ = _
  refine congrArg _ (funext fun ds => funext fun e2 => ?_)
  match ds with
  | [] => rfl
  | [d] => rfl
  | d :: e :: ds => rfl
@[simp] theorem a_sfor (it : EM (List Dat)) (g : Dat → EM Unit) (b : EM O) (env : DL.Env) : sFor it g b env = andThen (it env) fun ds e1 => loopS g b ds e1 := rfl
def rangeO (ds : List Dat) (env : DL.Env) : Option (List Dat × DL.Env) := match ds with
  | [.int j] => withEnv (if -(2 ^ 62) ≤ j ∧ j < 2 ^ 62 then some (rngD 0 j.toNat) else none) env
  | _ => none
theorem rangeO_e (j : Int) (env : DL.Env) (h : -(2 ^ 62) ≤ j ∧ j < 2 ^ 62) : rangeO [.int j] env = some (rngD 0 j.toNat, env) := by
  show withEnv (if _ then _ else _) env = _
  rw [if_pos h]
  rfl
@[simp] theorem a_irange (fs : EM (List R)) (env : DL.Env) : iRange fs env = andThen (fs env) fun rs e1 => andThen (eLooks rs e1) fun ds e2 => rangeO ds e2 := by
  show andThen (fs env) _ = _
  refine congrArg _ (funext fun rs => funext fun e1 => ?_)
  show andThen (eLooks rs e1) _ = _
  refine congrArg _ (funext fun ds => funext fun e2 => ?_)
  match ds with
  | [] => rfl
  | [d] => cases d <;> rfl
  | d :: e :: ds => cases d <;> rfl
def joinO (a : Dat) (g : EM R) (env : DL.Env) : Option (R × DL.Env) := match a with
  | .str z => andThen (g env) fun s e3 => andThen (eLook s e3) fun b e4 => andThen (withEnv (rowD b) e4) fun zs e5 => withEnv (if (zs.map (·.length)).sum + zs.length * z.length ≤ 100000 then some (.val (.str (Txt.join z zs))) else none) e5
  | _ => none
@[simp] theorem joinO_s (z : Str) (g : EM R) (env : DL.Env) : joinO (.str z) g env = andThen (g env) fun s e3 => andThen (eLook s e3) fun b e4 => andThen (withEnv (rowD b) e4) fun zs e5 => withEnv (if (zs.map (·.length)).sum + zs.length * z.length ≤ 100000 then some (.val (.str (Txt.join z zs))) else none) e5 := rfl
@[simp] theorem a_join (f g : EM R) (env : DL.Env) : eJoin f g env = andThen (f env) fun r e1 => andThen (eLook r e1) fun a e2 => joinO a g e2 := by
  show andThen (f env) _ = _
  refine congrArg _ (funext fun rs => funext fun e1 => ?_)
  show andThen (eLook rs e1) _ = _
  refine congrArg _ (funext fun ds => funext fun e2 => ?_)
  cases ds <;> rfl
/-- a loop by an invariant of environments -/
theorem loop_inv {g : Dat → EM Unit} {body : EM O} (I : Nat → DL.Env → Prop) : ∀ (ds : List Dat) (i : Nat) (env : DL.Env), I i env →
    (∀ (j : Nat) (x : Dat) (env : DL.Env), ds[j]? = some x → I (i + j) env → ∃ e1 e2, g x env = some ((), e1) ∧ body e1 = some (.nx, e2) ∧ I (i + j + 1) e2) → ∃ env', loopS g body ds env = some (.nx, env') ∧ I (i + ds.length) env'
  | [], i, env, h, _ => ⟨env, rfl, h⟩
  | d :: ds, i, env, h, hs => by
    obtain ⟨e1, e2, h1, h2, h3⟩ := hs 0 d env rfl h
    obtain ⟨e3, h4, h5⟩ := loop_inv I ds (i + 1) e2 h3 fun j x env hx hI => by
      have := hs (j + 1) x env (by simpa using hx) (by rw [show i + (j + 1) = i + 1 + j by omega]; exact hI)
      rw [show i + (j + 1) + 1 = i + 1 + j + 1 by omega] at this
      exact this
    refine ⟨e3, ?_, by rw [List.length_cons, show i + (ds.length + 1) = i + 1 + ds.length by omega]; exact h5⟩
    show eBind (g d) _ env = _
    rw [a_bind, h1, at_some, a_bind, h2, at_some]
    exact h4
/-- a loop that may end with a result -/
theorem loop_inv_rt {g : Dat → EM Unit} {body : EM O} {r : R} (I : Nat → DL.Env → Prop) (J : DL.Env → Prop) : ∀ (ds : List Dat) (i : Nat) (env : DL.Env), I i env →
    (∀ (j : Nat) (x : Dat) (env : DL.Env), ds[j]? = some x → I (i + j) env → ∃ e1 e2, g x env = some ((), e1) ∧ ((body e1 = some (.nx, e2) ∧ I (i + j + 1) e2) ∨ (body e1 = some (.rt r, e2) ∧ J e2))) → ∃ env', (loopS g body ds env = some (.nx, env') ∧ I (i + ds.length) env') ∨ (loopS g body ds env = some (.rt r, env') ∧ J env')
  | [], i, env, h, _ => ⟨env, .inl ⟨rfl, h⟩⟩
  | d :: ds, i, env, h, hs => by
    obtain ⟨e1, e2, h1, h2⟩ := hs 0 d env rfl h
    rcases h2 with ⟨h2, h3⟩ | ⟨h2, h3⟩
    · obtain ⟨e3, h4⟩ := loop_inv_rt I J ds (i + 1) e2 h3 fun j x env hx hI => by
        have := hs (j + 1) x env (by simpa using hx) (by rw [show i + (j + 1) = i + 1 + j by omega]; exact hI)
        rw [show i + (j + 1) + 1 = i + 1 + j + 1 by omega] at this
        exact this
      refine ⟨e3, ?_⟩
      have e : loopS g body (d :: ds) env = loopS g body ds e2 := by
        show eBind (g d) _ env = _
        rw [a_bind, h1, at_some, a_bind, h2, at_some]
      rw [e, List.length_cons, show i + (ds.length + 1) = i + 1 + ds.length by omega]
      exact h4
    · refine ⟨e2, .inr ⟨?_, h3⟩⟩
      show eBind (g d) _ env = _
      rw [a_bind, h1, at_some, a_bind, h2, at_some]
      rfl
/-- a comprehension whose items change the first slot alone -/
theorem loopC_draw {i : Nat} {f : EM R} {rest : DL.Env} {P : Dat → Prop} {B : Nat → Dat → Prop} {k M : Nat} (hr : rest[i]? = some none) : ∀ (ds acc : List Dat) (m : Nat) (d : Dat), B m d → m + ds.length * k ≤ M →
    (∀ (x : Dat) (m' : Nat) (d : Dat), x ∈ ds → B m' d → m' + k ≤ M → ∃ (r : R) (v d' : Dat), f (some (.mtb d) :: rest.set i (some (.val x))) = some (r, some (.mtb d') :: rest.set i (some (.val x))) ∧ eForce r (some (.mtb d') :: rest.set i (some (.val x))) = some (v, some (.mtb d') :: rest.set i (some (.val x))) ∧ P v ∧ B (m' + k) d') →
    acc.length + ds.length ≤ 100000 →
    ∃ (vs : List Dat) (d' : Dat), loopC (gPut (i + 1)) (eRet true) f [i + 1] ds acc (some (.mtb d) :: rest) = some (acc ++ vs, some (.mtb d') :: rest) ∧ vs.length = ds.length ∧ (∀ v ∈ vs, P v) ∧ B (m + ds.length * k) d'
  | [], acc, m, d, hB, hM, _, _ => ⟨[], d, by show some (acc, _) = _; simp, rfl, by simp, by simpa using hB⟩
  | x :: ds, acc, m, d, hB, hM, hf, hl => by
    have hi : i < rest.length := (List.getElem?_eq_some_iff.mp hr).1
    have hk : m + k ≤ M := by
      rw [List.length_cons, Nat.succ_mul] at hM
      omega
    obtain ⟨r, v, d1, h1, h2, hP, hB1⟩ := hf x m d (by simp) hB hk
    obtain ⟨vs, d2, h3, h4, h5, h6⟩ := loopC_draw hr ds (acc ++ [v]) (m + k) d1 hB1 (by rw [List.length_cons, Nat.succ_mul] at hM; omega) (fun y m' d hy => hf y m' d (by simp [hy])) (by simp at hl ⊢; omega)
    refine ⟨v :: vs, d2, ?_, by simp [h4], fun y hy => ?_, by rw [List.length_cons, Nat.succ_mul, show m + (ds.length * k + k) = m + k + ds.length * k by omega]; exact h6⟩
    · have hp : gPut (i + 1) x (some (.mtb d) :: rest) = some ((), some (.mtb d) :: rest.set i (some (.val x))) := by
        rw [a_put, if_pos ⟨by simp; omega, by rw [List.getElem?_cons_succ, hr]; rfl⟩]
        rfl
      have hw : eWipe [i + 1] (some (.mtb d1) :: rest.set i (some (.val x))) = some ((), some (.mtb d1) :: rest) := by
        have := wipe1 (i := i + 1) (env := some (Slot.mtb d1) :: rest) (d := x) (by rw [List.getElem?_cons_succ]; exact hr)
        rw [List.set_cons_succ] at this
        exact this
      show eBind (gPut (i + 1) x) _ _ = _
      rw [a_bind, hp, at_some, a_bind, a_ret, at_some, if_pos rfl, a_bind, h1, at_some, a_bind, h2, at_some, a_bind, hw, at_some, if_pos (by simp at hl; omega), h3]
      simp
    · rcases List.mem_cons.mp hy with z | z
      · rw [z]; exact hP
      · exact h5 y z
theorem eLc_draw {i : Nat} {it : EM (List Dat)} {f : EM R} {env0 rest : DL.Env} {P : Dat → Prop} {B : Nat → Dat → Prop} {k M m : Nat} {ds : List Dat} {d : Dat} (hit : it env0 = some (ds, some (.mtb d) :: rest)) (hr : rest[i]? = some none) (hB : B m d) (hM : m + ds.length * k ≤ M) (hl : ds.length ≤ 100000)
    (hf : ∀ (x : Dat) (m' : Nat) (d : Dat), x ∈ ds → B m' d → m' + k ≤ M → ∃ (r : R) (v d' : Dat), f (some (.mtb d) :: rest.set i (some (.val x))) = some (r, some (.mtb d') :: rest.set i (some (.val x))) ∧ eForce r (some (.mtb d') :: rest.set i (some (.val x))) = some (v, some (.mtb d') :: rest.set i (some (.val x))) ∧ P v ∧ B (m' + k) d') :
    ∃ (vs : List Dat) (d' : Dat), eLc it (gPut (i + 1)) (eRet true) f [i + 1] env0 = some (.new (.lst vs), some (.mtb d') :: rest) ∧ vs.length = ds.length ∧ (∀ v ∈ vs, P v) ∧ B (m + ds.length * k) d' := by
  obtain ⟨vs, d', h1, h2, h3, h4⟩ := loopC_draw hr ds [] m d hB hM hf (by simpa using hl)
  refine ⟨vs, d', ?_, h2, h3, h4⟩
  unfold eLc
  rw [a_bind, hit, at_some]
  have hfr : freeAt [i + 1] (some (Slot.mtb d) :: rest) = true := by
    simp [freeAt, hr]
  rw [if_pos hfr, a_bind, h1]
  rfl
end DL
namespace Prg
open PySem PySem.Spec L2 DL
open PyProof.Rows hiding St
def top (i : Nat) : Stmt := PySem.Challenge.pw_stillgood_k00_kinds_or_none.main.body.getD i (.Pass ⟨0, 0, 0, 0⟩)
def inCls (st : Stmt) (j : Nat) : Stmt := match st with
  | .ClassDef _ _ _ body .. => body.getD j (.Pass ⟨0, 0, 0, 0⟩)
  | _ => .Pass ⟨0, 0, 0, 0⟩
abbrev FnP (K : PySem.W.Frag) (x : Str) (st : Stmt) (f : Addr) (fd : FuncData) : Prop :=
    FunD K x x (defArgs st) (defBody st) (defScope st) [] [] f fd
section
variable {P : Program} {w : World} {K : PySem.W.Frag}
    {mg : Str → Option Value} {base : Heap}
/-! ### is_number -/
abbrev s_is_number : Stmt := top 2
def fb_is_number : EM O := (sRet (eAnd2 (eOpN dIsi (eCons (eVar 0) (eOne (eCon (.ty "int"))))) (eNot (eOpN dIsi (eCons (eVar 0) (eOne (eCon (.ty "bool"))))))))
def F_is_number : EM R := runF 1 1 fb_is_number
theorem sc_is_number : FnScope ["value"] ["value"] (defScope s_is_number) := ⟨rfl, rfl, rfl, by decide +kernel, rfl, by decide +kernel, by decide +kernel⟩
theorem ok_is_number {f : Addr} {fd : FuncData} (M : MgB mg) (m : mg "is_number" = some (.ref f)) (F : FnP K "is_number" s_is_number f fd) : Fnk P w K mg base "is_number" 1 1 F_is_number :=
  fnk_ok (N := ["value"]) (ps := ["value"]) m F sc_is_number (fun _ _ _ _ _ _ us hl => match us, hl with | [_], _ => rfl) fun cdv A outer s H E hr => (ds_one (ds_ret (d_and (dB r_isi M.isinstance (dc (dv 0) (dl (dty "int" M.int (hv := bt_int)))) (hv := bt_isinstance)) (d_one (d_not (dB r_isi M.isinstance (dc (dv 0) (dl (dty "bool" M.bool (hv := bt_bool)))) (hv := bt_isinstance)))))))
/-! ### is_name -/
abbrev s_is_name : Stmt := top 3
def fb_is_name : EM O := (sSeq (eIf (tNo (eTruth (eOpN dIsi (eCons (eVar 0) (eOne (eCon (.ty "str"))))))) (sRet (eCon (.bl false))) (eRet .nx)) (sRet (eAnd2 (eChain dLe dLe (eCon (.int 1)) (eOpN dLen (eOne (eVar 0))) (eCon (.int 8))) (eOpN dAll (eOne (eLc (iAny (eVar 0)) (gPut 1) (eRet true) (eChain dLe dLe (eCon (.str (Str.ofString "a"))) (eVar 1) (eCon (.str (Str.ofString "z")))) [1]))))))
def F_is_name : EM R := runF 2 1 fb_is_name
theorem sc_is_name : FnScope ["value", "sign"] ["value"] (defScope s_is_name) := ⟨rfl, rfl, rfl, by decide +kernel, rfl, by decide +kernel, by decide +kernel⟩
theorem ok_is_name {f : Addr} {fd : FuncData} (M : MgB mg) (m : mg "is_name" = some (.ref f)) (F : FnP K "is_name" s_is_name f fd) : Fnk P w K mg base "is_name" 1 1 F_is_name :=
  fnk_ok (N := ["value", "sign"]) (ps := ["value"]) m F sc_is_name (fun _ _ _ _ _ _ us hl => match us, hl with | [_], _ => rfl) fun cdv A outer s H E hr => (ds_cons (ds_if (dt_not (tv (dB r_isi M.isinstance (dc (dv 0) (dl (dty "str" M.str (hv := bt_str)))) (hv := bt_isinstance)))) (ds_one (ds_ret dbl)) ds_nil) (ds_one (ds_ret (d_and (dchain r_le r_le dint (dB r_len M.len (dl (dv 0)) (hv := bt_len)) dint) (d_one (dB (r_all rfl) M.all (dl (d_lc (own := [("sign", 1)]) rfl sc_is_name.nd (di_any (dv 0)) (blkOk_by (own := [("sign", 1)]) (N := ["value", "sign"]) (sc := defScope s_is_name) (by decide +kernel)) (by decide) (fun _ _ _ _ _ => (dg_name (i := 1) sc_is_name.nd rfl (by first | exact Or.inl rfl | exact Or.inr rfl) (by first | exact Or.inl rfl | exact Or.inr rfl))) (fun _ _ _ _ _ => dts_nil) (fun _ _ _ _ _ => (dchain r_le r_le dstr (dv 1) dstr)))) (hv := bt_all)))))))
/-! ### are_names -/
abbrev s_are_names : Stmt := top 4
def fb_are_names : EM O := (sSeq (eIf (tOr2 (tNo (eTruth (eOpN dIsi (eCons (eVar 0) (eOne (eCon (.ty "tuple"))))))) (tNo (tChn dLe dLe (eVar 1) (eOpN dLen (eOne (eVar 0))) (eVar 2)))) (sRet (eCon (.bl false))) (eRet .nx)) (sRet (eAnd2 (eOpN dAll (eOne (eLc (iAny (eVar 0)) (gPut 3) (eRet true) (eCallV F_is_name (eOne (eVar 3))) [3]))) (eOp2 dEq (eLenSet (eVar 0)) (eOpN dLen (eOne (eVar 0)))))))
def F_are_names : EM R := runF 4 3 fb_are_names
theorem sc_are_names : FnScope ["value", "least", "most", "name"] ["value", "least", "most"] (defScope s_are_names) := ⟨rfl, rfl, rfl, by decide +kernel, rfl, by decide +kernel, by decide +kernel⟩
theorem ok_are_names {f : Addr} {fd : FuncData} (G_is_name : Fnk P w K mg base "is_name" 1 1 F_is_name) (M : MgB mg) (m : mg "are_names" = some (.ref f)) (F : FnP K "are_names" s_are_names f fd) : Fnk P w K mg base "are_names" 2 3 F_are_names :=
  fnk_ok (N := ["value", "least", "most", "name"]) (ps := ["value", "least", "most"]) m F sc_are_names (fun _ _ _ _ _ _ us hl => match us, hl with | [_, _, _], _ => rfl) fun cdv A outer s H E hr => (ds_cons (ds_if (PW.pt (dw_or (dt_not (tv (dB r_isi M.isinstance (dc (dv 0) (dl (dty "tuple" M.tuple (hv := bt_tuple)))) (hv := bt_isinstance)))) (dw_or1 (dt_not (tchain r_le r_le (dv 1) (dB r_len M.len (dl (dv 0)) (hv := bt_len)) (dv 2)))))) (ds_one (ds_ret dbl)) ds_nil) (ds_one (ds_ret (d_and (dB (r_all rfl) M.all (dl (d_lc (own := [("name", 3)]) rfl sc_are_names.nd (di_any (dv 0)) (blkOk_by (own := [("name", 3)]) (N := ["value", "least", "most", "name"]) (sc := defScope s_are_names) (by decide +kernel)) (by decide) (fun _ _ _ _ _ => (dg_name (i := 3) sc_are_names.nd rfl (by first | exact Or.inl rfl | exact Or.inr rfl) (by first | exact Or.inl rfl | exact Or.inr rfl))) (fun _ _ _ _ _ => dts_nil) (fun _ _ _ _ _ => (dcall G_is_name hr (dl (dv 3)))))) (hv := bt_all)) (d_one (dcmp (r_eq hr.units) (d_lenSet M.len M.set (dv 0)) (dB r_len M.len (dl (dv 0)) (hv := bt_len))))))))
/-! ### are_parameters -/
abbrev s_are_parameters : Stmt := top 15
def fb_are_parameters : EM O := (sRet (eCallV F_are_names (eCons (eVar 0) (eCons (eCon (.int 0)) (eOne (eCon (.int 2)))))))
def F_are_parameters : EM R := runF 1 1 fb_are_parameters
theorem sc_are_parameters : FnScope ["value"] ["value"] (defScope s_are_parameters) := ⟨rfl, rfl, rfl, by decide +kernel, rfl, by decide +kernel, by decide +kernel⟩
theorem ok_are_parameters {f : Addr} {fd : FuncData} (G_are_names : Fnk P w K mg base "are_names" 2 3 F_are_names) (M : MgB mg) (m : mg "are_parameters" = some (.ref f)) (F : FnP K "are_parameters" s_are_parameters f fd) : Fnk P w K mg base "are_parameters" 3 1 F_are_parameters :=
  fnk_ok (N := ["value"]) (ps := ["value"]) m F sc_are_parameters (fun _ _ _ _ _ _ us hl => match us, hl with | [_], _ => rfl) fun cdv A outer s H E hr => (ds_one (ds_ret (dcall G_are_names hr (dc (dv 0) (dc dint (dl dint))))))
/-! ### is_term -/
abbrev s_is_term : Stmt := top 21
def fb_is_term : EM O := (sRet (eOr2 (eCallV F_is_number (eOne (eVar 1))) (eAnd2 (eOpN dIsi (eCons (eVar 1) (eOne (eCon (.ty "str"))))) (eOp2 dIn (eVar 1) (eOp2 dIx (eVar 0) (eCon (.int 0)))))))
def F_is_term : EM R := runF 2 2 fb_is_term
theorem sc_is_term : FnScope ["scope", "value"] ["scope", "value"] (defScope s_is_term) := ⟨rfl, rfl, rfl, by decide +kernel, rfl, by decide +kernel, by decide +kernel⟩
theorem ok_is_term {f : Addr} {fd : FuncData} (G_is_number : Fnk P w K mg base "is_number" 1 1 F_is_number) (M : MgB mg) (m : mg "is_term" = some (.ref f)) (F : FnP K "is_term" s_is_term f fd) : Fnk P w K mg base "is_term" 2 2 F_is_term :=
  fnk_ok (N := ["scope", "value"]) (ps := ["scope", "value"]) m F sc_is_term (fun _ _ _ _ _ _ us hl => match us, hl with | [_, _], _ => rfl) fun cdv A outer s H E hr => (ds_one (ds_ret (d_or (dcall G_is_number hr (dl (dv 1))) (d_one (d_and (dB r_isi M.isinstance (dc (dv 1) (dl (dty "str" M.str (hv := bt_str)))) (hv := bt_isinstance)) (d_one (dcmp (r_in hr.units) (dv 1) (dix (dv 0) dint))))))))
/-! ### is_tested -/
abbrev s_is_tested : Stmt := top 22
def fb_is_tested : EM O := (sRet (eAnd2 (eCallV F_is_term (eCons (eVar 0) (eOne (eVar 1)))) (eOp2 dIn (eVar 1) (eOp2 dIx (eVar 0) (eCon (.int 1))))))
def F_is_tested : EM R := runF 2 2 fb_is_tested
theorem sc_is_tested : FnScope ["scope", "value"] ["scope", "value"] (defScope s_is_tested) := ⟨rfl, rfl, rfl, by decide +kernel, rfl, by decide +kernel, by decide +kernel⟩
theorem ok_is_tested {f : Addr} {fd : FuncData} (G_is_term : Fnk P w K mg base "is_term" 2 2 F_is_term) (M : MgB mg) (m : mg "is_tested" = some (.ref f)) (F : FnP K "is_tested" s_is_tested f fd) : Fnk P w K mg base "is_tested" 3 2 F_is_tested :=
  fnk_ok (N := ["scope", "value"]) (ps := ["scope", "value"]) m F sc_is_tested (fun _ _ _ _ _ _ us hl => match us, hl with | [_, _], _ => rfl) fun cdv A outer s H E hr => (ds_one (ds_ret (d_and (dcall G_is_term hr (dc (dv 0) (dl (dv 1)))) (d_one (dcmp (r_in hr.units) (dv 1) (dix (dv 0) dint))))))
/-! ### is_new_name -/
abbrev s_is_new_name : Stmt := top 23
def fb_is_new_name : EM O := (sRet (eAnd2 (eCallV F_is_name (eOne (eVar 1))) (eOp2 dNotIn (eVar 1) (eOp2 dIx (eVar 0) (eCon (.int 0))))))
def F_is_new_name : EM R := runF 2 2 fb_is_new_name
theorem sc_is_new_name : FnScope ["scope", "value"] ["scope", "value"] (defScope s_is_new_name) := ⟨rfl, rfl, rfl, by decide +kernel, rfl, by decide +kernel, by decide +kernel⟩
theorem ok_is_new_name {f : Addr} {fd : FuncData} (G_is_name : Fnk P w K mg base "is_name" 1 1 F_is_name) (M : MgB mg) (m : mg "is_new_name" = some (.ref f)) (F : FnP K "is_new_name" s_is_new_name f fd) : Fnk P w K mg base "is_new_name" 2 2 F_is_new_name :=
  fnk_ok (N := ["scope", "value"]) (ps := ["scope", "value"]) m F sc_is_new_name (fun _ _ _ _ _ _ us hl => match us, hl with | [_, _], _ => rfl) fun cdv A outer s H E hr => (ds_one (ds_ret (d_and (dcall G_is_name hr (dl (dv 1))) (d_one (dcmp (r_notIn hr.units) (dv 1) (dix (dv 0) dint))))))
/-! ### are_record_terms -/
abbrev s_are_record_terms : Stmt := top 25
def fb_are_record_terms : EM O := (sSeq (eIf (tOr2 (tNo (eTruth (eOpN dIsi (eCons (eVar 2) (eOne (eCon (.ty "tuple"))))))) (tCmp dNe (eOpN dLen (eOne (eVar 2))) (eOpN dLen (eOne (eVar 0))))) (sRet (eCon (.bl false))) (eRet .nx)) (sRet (eOpN dAll (eOne (eLc (iAny (eVar 2)) (gPut 3) (eRet true) (eCallV F_is_term (eCons (eVar 1) (eOne (eVar 3)))) [3])))))
def F_are_record_terms : EM R := runF 4 3 fb_are_record_terms
theorem sc_are_record_terms : FnScope ["fields", "scope", "value", "term"] ["fields", "scope", "value"] (defScope s_are_record_terms) := ⟨rfl, rfl, rfl, by decide +kernel, rfl, by decide +kernel, by decide +kernel⟩
theorem ok_are_record_terms {f : Addr} {fd : FuncData} (G_is_term : Fnk P w K mg base "is_term" 2 2 F_is_term) (M : MgB mg) (m : mg "are_record_terms" = some (.ref f)) (F : FnP K "are_record_terms" s_are_record_terms f fd) : Fnk P w K mg base "are_record_terms" 3 3 F_are_record_terms :=
  fnk_ok (N := ["fields", "scope", "value", "term"]) (ps := ["fields", "scope", "value"]) m F sc_are_record_terms (fun _ _ _ _ _ _ us hl => match us, hl with | [_, _, _], _ => rfl) fun cdv A outer s H E hr => (ds_cons (ds_if (PW.pt (dw_or (dt_not (tv (dB r_isi M.isinstance (dc (dv 2) (dl (dty "tuple" M.tuple (hv := bt_tuple)))) (hv := bt_isinstance)))) (dw_or1 (tcmp (r_ne hr.units) (dB r_len M.len (dl (dv 2)) (hv := bt_len)) (dB r_len M.len (dl (dv 0)) (hv := bt_len)))))) (ds_one (ds_ret dbl)) ds_nil) (ds_one (ds_ret (dB (r_all rfl) M.all (dl (d_lc (own := [("term", 3)]) rfl sc_are_record_terms.nd (di_any (dv 2)) (blkOk_by (own := [("term", 3)]) (N := ["fields", "scope", "value", "term"]) (sc := defScope s_are_record_terms) (by decide +kernel)) (by decide) (fun _ _ _ _ _ => (dg_name (i := 3) sc_are_record_terms.nd rfl (by first | exact Or.inl rfl | exact Or.inr rfl) (by first | exact Or.inl rfl | exact Or.inr rfl))) (fun _ _ _ _ _ => dts_nil) (fun _ _ _ _ _ => (dcall G_is_term hr (dc (dv 1) (dl (dv 3))))))) (hv := bt_all)))))
/-! ### is_change -/
abbrev s_is_change : Stmt := top 24
def fb_is_change : EM O := (sSeq (eIf (tOr2 (tNo (eTruth (eOpN dIsi (eCons (eVar 2) (eOne (eCon (.ty "tuple"))))))) (tOr2 (tCmp dLt (eOpN dLen (eOne (eVar 2))) (eCon (.int 2))) (tNo (eTruth (eCallV F_is_term (eCons (eVar 1) (eOne (eOp2 dIx (eVar 2) (eCon (.int 1)))))))))) (sRet (eCon (.bl false))) (eRet .nx)) (sSeq (eIf (tCmp dEq (eOp2 dIx (eVar 2) (eCon (.int 0))) (eCon (.str (Str.ofString "make")))) (sRet (eAnd2 (eOp2 dEq (eOpN dLen (eOne (eVar 2))) (eCon (.int 3))) (eCallV F_are_record_terms (eCons (eVar 0) (eCons (eVar 1) (eOne (eOp2 dIx (eVar 2) (eCon (.int 2))))))))) (eRet .nx)) (sSeq (eIf (tCmp dEq (eOp2 dIx (eVar 2) (eCon (.int 0))) (eCon (.str (Str.ofString "set")))) (sRet (eAnd2 (eOp2 dEq (eOpN dLen (eOne (eVar 2))) (eCon (.int 4))) (eAnd2 (eOp2 dIn (eOp2 dIx (eVar 2) (eCon (.int 2))) (eVar 0)) (eCallV F_is_term (eCons (eVar 1) (eOne (eOp2 dIx (eVar 2) (eCon (.int 3))))))))) (eRet .nx)) (sRet (eAnd2 (eOp2 dEq (eOp2 dIx (eVar 2) (eCon (.int 0))) (eCon (.str (Str.ofString "drop")))) (eOp2 dEq (eOpN dLen (eOne (eVar 2))) (eCon (.int 2))))))))
def F_is_change : EM R := runF 3 3 fb_is_change
theorem sc_is_change : FnScope ["fields", "scope", "value"] ["fields", "scope", "value"] (defScope s_is_change) := ⟨rfl, rfl, rfl, by decide +kernel, rfl, by decide +kernel, by decide +kernel⟩
theorem ok_is_change {f : Addr} {fd : FuncData} (G_is_term : Fnk P w K mg base "is_term" 2 2 F_is_term) (G_are_record_terms : Fnk P w K mg base "are_record_terms" 3 3 F_are_record_terms) (M : MgB mg) (m : mg "is_change" = some (.ref f)) (F : FnP K "is_change" s_is_change f fd) : Fnk P w K mg base "is_change" 4 3 F_is_change :=
  fnk_ok (N := ["fields", "scope", "value"]) (ps := ["fields", "scope", "value"]) m F sc_is_change (fun _ _ _ _ _ _ us hl => match us, hl with | [_, _, _], _ => rfl) fun cdv A outer s H E hr => (ds_cons (ds_if (PW.pt (dw_or (dt_not (tv (dB r_isi M.isinstance (dc (dv 2) (dl (dty "tuple" M.tuple (hv := bt_tuple)))) (hv := bt_isinstance)))) (dw_or (tcmp r_lt (dB r_len M.len (dl (dv 2)) (hv := bt_len)) dint) (dw_or1 (dt_not (tv (dcall G_is_term hr (dc (dv 1) (dl (dix (dv 2) dint)))))))))) (ds_one (ds_ret dbl)) ds_nil) (ds_cons (ds_if (tcmp (r_eq hr.units) (dix (dv 2) dint) dstr) (ds_one (ds_ret (d_and (dcmp (r_eq hr.units) (dB r_len M.len (dl (dv 2)) (hv := bt_len)) dint) (d_one (dcall G_are_record_terms hr (dc (dv 0) (dc (dv 1) (dl (dix (dv 2) dint))))))))) ds_nil) (ds_cons (ds_if (tcmp (r_eq hr.units) (dix (dv 2) dint) dstr) (ds_one (ds_ret (d_and (dcmp (r_eq hr.units) (dB r_len M.len (dl (dv 2)) (hv := bt_len)) dint) (d_and (dcmp (r_in hr.units) (dix (dv 2) dint) (dv 0)) (d_one (dcall G_is_term hr (dc (dv 1) (dl (dix (dv 2) dint))))))))) ds_nil) (ds_one (ds_ret (d_and (dcmp (r_eq hr.units) (dix (dv 2) dint) dstr) (d_one (dcmp (r_eq hr.units) (dB r_len M.len (dl (dv 2)) (hv := bt_len)) dint))))))))
/-! ### is_say -/
abbrev s_is_say : Stmt := top 17
def fb_is_say : EM O := (sSeq (eIf (tOr2 (tCmp dNe (eOpN dLen (eOne (eVar 2))) (eCon (.int 3))) (tNo (eTruth (eOpN dIsi (eCons (eOp2 dIx (eVar 2) (eCon (.int 1))) (eOne (eCon (.ty "tuple")))))))) (sRet (eCon (.bl false))) (eRet .nx)) (sRet (eAnd2 (eOpN dAll (eOne (eLc (iAny (eOp2 dIx (eVar 2) (eCon (.int 1)))) (gPut 3) (eRet true) (eCallV F_is_change (eCons (eVar 0) (eCons (eVar 1) (eOne (eVar 3))))) [3]))) (eCallV F_is_name (eOne (eOp2 dIx (eVar 2) (eCon (.int 2))))))))
def F_is_say : EM R := runF 4 3 fb_is_say
theorem sc_is_say : FnScope ["fields", "scope", "value", "change"] ["fields", "scope", "value"] (defScope s_is_say) := ⟨rfl, rfl, rfl, by decide +kernel, rfl, by decide +kernel, by decide +kernel⟩
theorem ok_is_say {f : Addr} {fd : FuncData} (G_is_change : Fnk P w K mg base "is_change" 4 3 F_is_change) (G_is_name : Fnk P w K mg base "is_name" 1 1 F_is_name) (M : MgB mg) (m : mg "is_say" = some (.ref f)) (F : FnP K "is_say" s_is_say f fd) : Fnk P w K mg base "is_say" 5 3 F_is_say :=
  fnk_ok (N := ["fields", "scope", "value", "change"]) (ps := ["fields", "scope", "value"]) m F sc_is_say (fun _ _ _ _ _ _ us hl => match us, hl with | [_, _, _], _ => rfl) fun cdv A outer s H E hr => (ds_cons (ds_if (PW.pt (dw_or (tcmp (r_ne hr.units) (dB r_len M.len (dl (dv 2)) (hv := bt_len)) dint) (dw_or1 (dt_not (tv (dB r_isi M.isinstance (dc (dix (dv 2) dint) (dl (dty "tuple" M.tuple (hv := bt_tuple)))) (hv := bt_isinstance))))))) (ds_one (ds_ret dbl)) ds_nil) (ds_one (ds_ret (d_and (dB (r_all rfl) M.all (dl (d_lc (own := [("change", 3)]) rfl sc_is_say.nd (di_any (dix (dv 2) dint)) (blkOk_by (own := [("change", 3)]) (N := ["fields", "scope", "value", "change"]) (sc := defScope s_is_say) (by decide +kernel)) (by decide) (fun _ _ _ _ _ => (dg_name (i := 3) sc_is_say.nd rfl (by first | exact Or.inl rfl | exact Or.inr rfl) (by first | exact Or.inl rfl | exact Or.inr rfl))) (fun _ _ _ _ _ => dts_nil) (fun _ _ _ _ _ => (dcall G_is_change hr (dc (dv 0) (dc (dv 1) (dl (dv 3)))))))) (hv := bt_all)) (d_one (dcall G_is_name hr (dl (dix (dv 2) dint))))))))
/-! ### divided -/
abbrev s_divided : Stmt := top 18
def fb_divided : EM O := (sSeq (eIf (tCmp dIn (eCut (eVar 0) oNone (oInt (eCon (.int 1)))) (eTup (eCons (eTup (eOne (eCon (.str (Str.ofString "has"))))) (eOne (eTup (eOne (eCon (.str (Str.ofString "is"))))))))) (sRet (eTup (eCons (eCut (eVar 0) oNone (oInt (eOp1 dNeg (eCon (.int 2))))) (eOne (eCut (eVar 0) (oInt (eOp1 dNeg (eCon (.int 2)))) oNone))))) (eRet .nx)) (sRet (eTup (eCons (eCut (eVar 0) oNone (oInt (eOp1 dNeg (eCon (.int 1))))) (eOne (eCut (eVar 0) (oInt (eOp1 dNeg (eCon (.int 1)))) oNone))))))
def F_divided : EM R := runF 1 1 fb_divided
theorem sc_divided : FnScope ["body"] ["body"] (defScope s_divided) := ⟨rfl, rfl, rfl, by decide +kernel, rfl, by decide +kernel, by decide +kernel⟩
theorem ok_divided {f : Addr} {fd : FuncData} (M : MgB mg) (m : mg "divided" = some (.ref f)) (F : FnP K "divided" s_divided f fd) : Fnk P w K mg base "divided" 1 1 F_divided :=
  fnk_ok (N := ["body"]) (ps := ["body"]) m F sc_divided (fun _ _ _ _ _ _ us hl => match us, hl with | [_], _ => rfl) fun cdv A outer s H E hr => (ds_cons (ds_if (tcmp (r_in hr.units) (d_cut (dv 0) do_none (do_some dint)) (d_tup (dc (d_tup (dl dstr)) (dl (d_tup (dl dstr)))))) (ds_one (ds_ret (d_tup (dc (d_cut (dv 0) do_none (do_some (dneg dint))) (dl (d_cut (dv 0) (do_some (dneg dint)) do_none)))))) ds_nil) (ds_one (ds_ret (d_tup (dc (d_cut (dv 0) do_none (do_some (dneg dint))) (dl (d_cut (dv 0) (do_some (dneg dint)) do_none)))))))
/-! ### is_head -/
abbrev s_is_head : Stmt := top 19
def fb_is_head : EM O := (sSeq (eIf (tCmp dEq (eCut (eVar 2) oNone (oInt (eCon (.int 1)))) (eTup (eOne (eCon (.str (Str.ofString "has")))))) (sRet (eAnd2 (eOp2 dEq (eOpN dLen (eOne (eVar 2))) (eCon (.int 2))) (eCallV F_is_term (eCons (eVar 1) (eOne (eOp2 dIx (eVar 2) (eCon (.int 1)))))))) (eRet .nx)) (sSeq (eIf (tAnd2 (tCmp dEq (eCut (eVar 2) oNone (oInt (eCon (.int 1)))) (eTup (eOne (eCon (.str (Str.ofString "is")))))) (tCmp dEq (eOpN dLen (eOne (eVar 2))) (eCon (.int 4)))) (sRet (eAnd2 (eCallV F_is_tested (eCons (eVar 1) (eOne (eOp2 dIx (eVar 2) (eCon (.int 1)))))) (eAnd2 (eOp2 dIn (eOp2 dIx (eVar 2) (eCon (.int 2))) (eVar 0)) (eCallV F_is_term (eCons (eVar 1) (eOne (eOp2 dIx (eVar 2) (eCon (.int 3))))))))) (eRet .nx)) (sSeq (eIf (tAnd2 (tCmp dEq (eCut (eVar 2) oNone (oInt (eCon (.int 1)))) (eTup (eOne (eCon (.str (Str.ofString "let")))))) (tCmp dEq (eOpN dLen (eOne (eVar 2))) (eCon (.int 4)))) (sRet (eAnd2 (eCallV F_is_new_name (eCons (eVar 1) (eOne (eOp2 dIx (eVar 2) (eCon (.int 1)))))) (eAnd2 (eCallV F_is_tested (eCons (eVar 1) (eOne (eOp2 dIx (eVar 2) (eCon (.int 2)))))) (eOp2 dIn (eOp2 dIx (eVar 2) (eCon (.int 3))) (eVar 0))))) (eRet .nx)) (sRet (eCon (.bl false))))))
def F_is_head : EM R := runF 3 3 fb_is_head
theorem sc_is_head : FnScope ["fields", "scope", "head"] ["fields", "scope", "head"] (defScope s_is_head) := ⟨rfl, rfl, rfl, by decide +kernel, rfl, by decide +kernel, by decide +kernel⟩
theorem ok_is_head {f : Addr} {fd : FuncData} (G_is_term : Fnk P w K mg base "is_term" 2 2 F_is_term) (G_is_tested : Fnk P w K mg base "is_tested" 3 2 F_is_tested) (G_is_new_name : Fnk P w K mg base "is_new_name" 2 2 F_is_new_name) (M : MgB mg) (m : mg "is_head" = some (.ref f)) (F : FnP K "is_head" s_is_head f fd) : Fnk P w K mg base "is_head" 4 3 F_is_head :=
  fnk_ok (N := ["fields", "scope", "head"]) (ps := ["fields", "scope", "head"]) m F sc_is_head (fun _ _ _ _ _ _ us hl => match us, hl with | [_, _, _], _ => rfl) fun cdv A outer s H E hr => (ds_cons (ds_if (tcmp (r_eq hr.units) (d_cut (dv 2) do_none (do_some dint)) (d_tup (dl dstr))) (ds_one (ds_ret (d_and (dcmp (r_eq hr.units) (dB r_len M.len (dl (dv 2)) (hv := bt_len)) dint) (d_one (dcall G_is_term hr (dc (dv 1) (dl (dix (dv 2) dint)))))))) ds_nil) (ds_cons (ds_if (PW.pt (dw_and (tcmp (r_eq hr.units) (d_cut (dv 2) do_none (do_some dint)) (d_tup (dl dstr))) (dw_and1 (tcmp (r_eq hr.units) (dB r_len M.len (dl (dv 2)) (hv := bt_len)) dint)))) (ds_one (ds_ret (d_and (dcall G_is_tested hr (dc (dv 1) (dl (dix (dv 2) dint)))) (d_and (dcmp (r_in hr.units) (dix (dv 2) dint) (dv 0)) (d_one (dcall G_is_term hr (dc (dv 1) (dl (dix (dv 2) dint))))))))) ds_nil) (ds_cons (ds_if (PW.pt (dw_and (tcmp (r_eq hr.units) (d_cut (dv 2) do_none (do_some dint)) (d_tup (dl dstr))) (dw_and1 (tcmp (r_eq hr.units) (dB r_len M.len (dl (dv 2)) (hv := bt_len)) dint)))) (ds_one (ds_ret (d_and (dcall G_is_new_name hr (dc (dv 1) (dl (dix (dv 2) dint)))) (d_and (dcall G_is_tested hr (dc (dv 1) (dl (dix (dv 2) dint)))) (d_one (dcmp (r_in hr.units) (dix (dv 2) dint) (dv 0))))))) ds_nil) (ds_one (ds_ret dbl)))))
/-! ### inner_scopes -/
abbrev s_inner_scopes : Stmt := top 20
def fb_inner_scopes : EM O := (sSeq (sAsg (eVar 0) (gTupD 2 (gConsD (gPut 2) (gConsD (gPut 3) gNilD)))) (sSeq (eIf (tCmp dEq (eOp2 dIx (eVar 1) (eCon (.int 0))) (eCon (.str (Str.ofString "has")))) (sRet (eLst (eCons (eTup (eCons (eVar 2) (eOne (eOp2 dAdd (eVar 3) (eTup (eOne (eOp2 dIx (eVar 1) (eCon (.int 1))))))))) (eOne (eVar 0))))) (eRet .nx)) (sSeq (eIf (tCmp dEq (eOp2 dIx (eVar 1) (eCon (.int 0))) (eCon (.str (Str.ofString "let")))) (sRet (eLst (eOne (eTup (eCons (eOp2 dAdd (eVar 2) (eTup (eOne (eOp2 dIx (eVar 1) (eCon (.int 1)))))) (eOne (eVar 3))))))) (eRet .nx)) (sRet (eLst (eCons (eVar 0) (eOne (eVar 0))))))))
def F_inner_scopes : EM R := runF 4 2 fb_inner_scopes
theorem sc_inner_scopes : FnScope ["scope", "head", "names", "tested"] ["scope", "head"] (defScope s_inner_scopes) := ⟨rfl, rfl, rfl, by decide +kernel, rfl, by decide +kernel, by decide +kernel⟩
theorem ok_inner_scopes {f : Addr} {fd : FuncData} (M : MgB mg) (m : mg "inner_scopes" = some (.ref f)) (F : FnP K "inner_scopes" s_inner_scopes f fd) : Fnk P w K mg base "inner_scopes" 1 2 F_inner_scopes :=
  fnk_ok (N := ["scope", "head", "names", "tested"]) (ps := ["scope", "head"]) m F sc_inner_scopes (fun _ _ _ _ _ _ us hl => match us, hl with | [_, _], _ => rfl) fun cdv A outer s H E hr => (ds_cons (ds_asg (dv 0) (dg_tup rfl (dgs_cons (dg_name (i := 2) sc_inner_scopes.nd rfl (by first | exact Or.inl rfl | exact Or.inr rfl) (by first | exact Or.inl rfl | exact Or.inr rfl)) (dgs_cons (dg_name (i := 3) sc_inner_scopes.nd rfl (by first | exact Or.inl rfl | exact Or.inr rfl) (by first | exact Or.inl rfl | exact Or.inr rfl)) dgs_nil)))) (ds_cons (ds_if (tcmp (r_eq hr.units) (dix (dv 1) dint) dstr) (ds_one (ds_ret (d_lst (dc (d_tup (dc (dv 2) (dl (dop r_add (dv 3) (d_tup (dl (dix (dv 1) dint))))))) (dl (dv 0)))))) ds_nil) (ds_cons (ds_if (tcmp (r_eq hr.units) (dix (dv 1) dint) dstr) (ds_one (ds_ret (d_lst (dl (d_tup (dc (dop r_add (dv 2) (d_tup (dl (dix (dv 1) dint)))) (dl (dv 3)))))))) ds_nil) (ds_one (ds_ret (d_lst (dc (dv 0) (dl (dv 0)))))))))
/-! ### is_body -/
abbrev s_is_body : Stmt := top 16
def fb_is_body (F_is_body : EM R) : EM O := (sSeq (eIf (tNo (eTruth (eOpN dIsi (eCons (eVar 2) (eOne (eCon (.ty "tuple"))))))) (sRet (eCon (.bl false))) (eRet .nx)) (sSeq (eIf (tCmp dEq (eCut (eVar 2) oNone (oInt (eCon (.int 1)))) (eTup (eOne (eCon (.str (Str.ofString "say")))))) (sRet (eCallV F_is_say (eCons (eVar 0) (eCons (eVar 1) (eOne (eVar 2)))))) (eRet .nx)) (sSeq (sAsg (eCallV F_divided (eOne (eVar 2))) (gTupD 2 (gConsD (gPut 3) (gConsD (gPut 4) gNilD)))) (sSeq (eIf (tNo (eTruth (eCallV F_is_head (eCons (eVar 0) (eCons (eVar 1) (eOne (eVar 3))))))) (sRet (eCon (.bl false))) (eRet .nx)) (sRet (eOpN dAll (eOne (eLc (iZipD (eCons (eCallV F_inner_scopes (eCons (eVar 1) (eOne (eVar 3)))) (eOne (eVar 4)))) (gTupD 2 (gConsD (gPut 5) (gConsD (gPut 6) gNilD))) (eRet true) (eCallV F_is_body (eCons (eVar 0) (eCons (eVar 5) (eOne (eVar 6))))) [5, 6]))))))))
def FR_is_body : Nat → EM R
  | 0 => fun _ => none
  | n + 1 => runF 7 3 (fb_is_body (FR_is_body n))
abbrev F_is_body : EM R := FR_is_body 60
theorem sc_is_body : FnScope ["fields", "scope", "value", "head", "inner", "within", "part"] ["fields", "scope", "value"] (defScope s_is_body) := ⟨rfl, rfl, rfl, by decide +kernel, rfl, by decide +kernel, by decide +kernel⟩
theorem okR_is_body {f : Addr} {fd : FuncData} (G_is_say : Fnk P w K mg base "is_say" 5 3 F_is_say) (G_divided : Fnk P w K mg base "divided" 1 1 F_divided) (G_is_head : Fnk P w K mg base "is_head" 4 3 F_is_head) (G_inner_scopes : Fnk P w K mg base "inner_scopes" 1 2 F_inner_scopes) (M : MgB mg) (m : mg "is_body" = some (.ref f)) (F : FnP K "is_body" s_is_body f fd) : ∀ n, Fnk P w K mg base "is_body" (5 + n) 3 (FR_is_body n)
  | 0 => fnk_none (N := ["fields", "scope", "value", "head", "inner", "within", "part"]) (ps := ["fields", "scope", "value"]) m F (fun _ _ _ _ _ _ us hl => match us, hl with | [_, _, _], _ => rfl)
  | n + 1 => by
    have G_is_body := okR_is_body G_is_say G_divided G_is_head G_inner_scopes M m F n
    exact fnk_ok (k := 5 + n) (N := ["fields", "scope", "value", "head", "inner", "within", "part"]) (ps := ["fields", "scope", "value"]) m F sc_is_body (fun _ _ _ _ _ _ us hl => match us, hl with | [_, _, _], _ => rfl) fun cdv A outer s H E hr => (ds_cons (ds_if (dt_not (tv (dB r_isi M.isinstance (dc (dv 2) (dl (dty "tuple" M.tuple (hv := bt_tuple)))) (hv := bt_isinstance)))) (ds_one (ds_ret dbl)) ds_nil) (ds_cons (ds_if (tcmp (r_eq hr.units) (d_cut (dv 2) do_none (do_some dint)) (d_tup (dl dstr))) (ds_one (ds_ret (dcall G_is_say hr (dc (dv 0) (dc (dv 1) (dl (dv 2))))))) ds_nil) (ds_cons (ds_asg (dcall G_divided hr (dl (dv 2))) (dg_tup rfl (dgs_cons (dg_name (i := 3) sc_is_body.nd rfl (by first | exact Or.inl rfl | exact Or.inr rfl) (by first | exact Or.inl rfl | exact Or.inr rfl)) (dgs_cons (dg_name (i := 4) sc_is_body.nd rfl (by first | exact Or.inl rfl | exact Or.inr rfl) (by first | exact Or.inl rfl | exact Or.inr rfl)) dgs_nil)))) (ds_cons (ds_if (dt_not (tv (dcall G_is_head hr (dc (dv 0) (dc (dv 1) (dl (dv 3))))))) (ds_one (ds_ret dbl)) ds_nil) (ds_one (ds_ret (dB (r_all rfl) M.all (dl (d_lc (own := [("within", 5), ("part", 6)]) rfl sc_is_body.nd (di_zip rfl M.zip (dc (dcall G_inner_scopes hr (dc (dv 1) (dl (dv 3)))) (dl (dv 4)))) (blkOk_by (own := [("within", 5), ("part", 6)]) (N := ["fields", "scope", "value", "head", "inner", "within", "part"]) (sc := defScope s_is_body) (by decide +kernel)) (by decide) (fun _ _ _ _ _ => (dg_tup rfl (dgs_cons (dg_name (i := 5) sc_is_body.nd rfl (by first | exact Or.inl rfl | exact Or.inr rfl) (by first | exact Or.inl rfl | exact Or.inr rfl)) (dgs_cons (dg_name (i := 6) sc_is_body.nd rfl (by first | exact Or.inl rfl | exact Or.inr rfl) (by first | exact Or.inl rfl | exact Or.inr rfl)) dgs_nil)))) (fun _ _ _ _ _ => dts_nil) (fun _ _ _ _ _ => (dcall G_is_body hr (dc (dv 0) (dc (dv 5) (dl (dv 6)))))))) (hv := bt_all))))))))
theorem ok_is_body {f : Addr} {fd : FuncData} (G_is_say : Fnk P w K mg base "is_say" 5 3 F_is_say) (G_divided : Fnk P w K mg base "divided" 1 1 F_divided) (G_is_head : Fnk P w K mg base "is_head" 4 3 F_is_head) (G_inner_scopes : Fnk P w K mg base "inner_scopes" 1 2 F_inner_scopes) (M : MgB mg) (m : mg "is_body" = some (.ref f)) (F : FnP K "is_body" s_is_body f fd) : Fnk P w K mg base "is_body" 65 3 F_is_body := okR_is_body G_is_say G_divided G_is_head G_inner_scopes M m F 60
/-! ### is_kind_for -/
abbrev s_is_kind_for : Stmt := top 14
def fb_is_kind_for : EM O := (sSeq (eIf (tOr2 (tNo (eTruth (eOpN dIsi (eCons (eVar 1) (eOne (eCon (.ty "tuple"))))))) (tCmp dNe (eOpN dLen (eOne (eVar 1))) (eCon (.int 3)))) (sRet (eCon (.bl false))) (eRet .nx)) (sSeq (sAsg (eVar 1) (gTupD 3 (gConsD (gPut 2) (gConsD (gPut 3) (gConsD (gPut 4) gNilD))))) (sRet (eAnd2 (eCallV F_is_name (eOne (eVar 2))) (eAnd2 (eCallV F_are_parameters (eOne (eVar 3))) (eCallV F_is_body (eCons (eVar 0) (eCons (eTup (eCons (eVar 3) (eOne (eTup eNil)))) (eOne (eVar 4))))))))))
def F_is_kind_for : EM R := runF 5 2 fb_is_kind_for
theorem sc_is_kind_for : FnScope ["fields", "value", "name", "parameters", "body"] ["fields", "value"] (defScope s_is_kind_for) := ⟨rfl, rfl, rfl, by decide +kernel, rfl, by decide +kernel, by decide +kernel⟩
theorem ok_is_kind_for {f : Addr} {fd : FuncData} (G_is_name : Fnk P w K mg base "is_name" 1 1 F_is_name) (G_are_parameters : Fnk P w K mg base "are_parameters" 3 1 F_are_parameters) (G_is_body : Fnk P w K mg base "is_body" 65 3 F_is_body) (M : MgB mg) (m : mg "is_kind_for" = some (.ref f)) (F : FnP K "is_kind_for" s_is_kind_for f fd) : Fnk P w K mg base "is_kind_for" 66 2 F_is_kind_for :=
  fnk_ok (N := ["fields", "value", "name", "parameters", "body"]) (ps := ["fields", "value"]) m F sc_is_kind_for (fun _ _ _ _ _ _ us hl => match us, hl with | [_, _], _ => rfl) fun cdv A outer s H E hr => (ds_cons (ds_if (PW.pt (dw_or (dt_not (tv (dB r_isi M.isinstance (dc (dv 1) (dl (dty "tuple" M.tuple (hv := bt_tuple)))) (hv := bt_isinstance)))) (dw_or1 (tcmp (r_ne hr.units) (dB r_len M.len (dl (dv 1)) (hv := bt_len)) dint)))) (ds_one (ds_ret dbl)) ds_nil) (ds_cons (ds_asg (dv 1) (dg_tup rfl (dgs_cons (dg_name (i := 2) sc_is_kind_for.nd rfl (by first | exact Or.inl rfl | exact Or.inr rfl) (by first | exact Or.inl rfl | exact Or.inr rfl)) (dgs_cons (dg_name (i := 3) sc_is_kind_for.nd rfl (by first | exact Or.inl rfl | exact Or.inr rfl) (by first | exact Or.inl rfl | exact Or.inr rfl)) (dgs_cons (dg_name (i := 4) sc_is_kind_for.nd rfl (by first | exact Or.inl rfl | exact Or.inr rfl) (by first | exact Or.inl rfl | exact Or.inr rfl)) dgs_nil))))) (ds_one (ds_ret (d_and (dcall G_is_name hr (dl (dv 2))) (d_and (dcall G_are_parameters hr (dl (dv 3))) (d_one (dcall G_is_body hr (dc (dv 0) (dc (d_tup (dc (dv 3) (dl (d_tup dn)))) (dl (dv 4))))))))))))
/-! ### Book.is_kind -/
abbrev s_Book_is_kind : Stmt := inCls (top 27) 14
def fb_Book_is_kind : EM O := (sRet (eCallV F_is_kind_for (eCons (eOpN dTuple (eOne (eVar 0))) (eOne (eVar 1)))))
def F_Book_is_kind : EM R := runF 2 2 fb_Book_is_kind
theorem sc_Book_is_kind : FnScope ["fields", "thing"] ["fields", "thing"] (defScope s_Book_is_kind) := ⟨rfl, rfl, rfl, by decide +kernel, rfl, by decide +kernel, by decide +kernel⟩
theorem ok_Book_is_kind {C p g : Addr} {mc : Value} {fd : FuncData} (G_is_kind_for : Fnk P w K mg base "is_kind_for" 66 2 F_is_kind_for) (M : MgB mg) (m : mg "Book" = some (.ref C)) (r : ClX.CRead K C mc) (c : StM.SMet K C mc "is_kind" p g) (F : FunD K "is_kind" "Book.is_kind" (defArgs s_Book_is_kind) (defBody s_Book_is_kind) (defScope s_Book_is_kind) [] [] g fd) : Smk P w K mg base "Book" "is_kind" ["fields", "thing"] 67 2 F_Book_is_kind :=
  smk_ok (N := ["fields", "thing"]) (ps := ["fields", "thing"]) m r c F sc_Book_is_kind (by decide) (fun _ _ _ _ _ _ us hl => match us, hl with | [_, _], _ => rfl) (fun _ _ _ _ _ _ ws hl => match ws, hl with | [_, _], _ => rfl) fun cdv A outer s H E hr => (ds_one (ds_ret (dcall G_is_kind_for hr (dc (dT r_tuple M.tuple (dl (dv 0)) (hv := bt_tuple)) (dl (dv 1))))))
/-! ### _law_box -/
abbrev s_L_box : Stmt := top 33
def fb_L_box : EM O := (sSeq (sSet 2 (eIf (tCmp dLt (eVar 1) (eOpN dLen (eOne (eVar 0)))) (eOp2 dIx (eVar 0) (eVar 1)) (eCon (.int 0)))) (sRet (eLst (eCons (eOp2 dMul (eOpN dAbs (eOne (eVar 2))) (eOpN dInt (eOne (eOp2 dGe (eOpN dAbs (eOne (eVar 2))) (eOp2 dPow (eCon (.int 10)) (eCon (.int 18))))))) (eCons (eOp2 dAdd (eOp2 dAdd (eOp2 dMod (eOpN dInt (eOne (eVar 2))) (eCon (.int 2305843009213693951))) (eOp2 dMul (eCon (.int 39373)) (eVar 1))) (eCon (.int 58500))) (eOne (eCon (.int 0))))))))
def F_L_box : EM R := runF 3 2 fb_L_box
theorem sc_L_box : FnScope ["_law_script", "_law_k", "_law_cell"] ["_law_script", "_law_k"] (defScope s_L_box) := ⟨rfl, rfl, rfl, by decide +kernel, rfl, by decide +kernel, by decide +kernel⟩
theorem ok_L_box {f : Addr} {fd : FuncData} (M : MgB mg) (m : mg "_law_box" = some (.ref f)) (F : FnP K "_law_box" s_L_box f fd) : Fnk P w K mg base "_law_box" 1 2 F_L_box :=
  fnk_ok (N := ["_law_script", "_law_k", "_law_cell"]) (ps := ["_law_script", "_law_k"]) m F sc_L_box (fun _ _ _ _ _ _ us hl => match us, hl with | [_, _], _ => rfl) fun cdv A outer s H E hr => (ds_cons (ds_set (i := 2) sc_L_box.nd rfl (by first | exact Or.inl rfl | exact Or.inr rfl) (by first | exact Or.inl rfl | exact Or.inr rfl) rfl (d_ife (tcmp r_lt (dv 1) (dB r_len M.len (dl (dv 0)) (hv := bt_len))) (dix (dv 0) (dv 1)) dint)) (ds_one (ds_ret (d_lst (dc (dop r_mul (dB r_abs M.abs (dl (dv 2)) (hv := bt_abs)) (dT r_int M.int (dl (dcmp r_ge (dB r_abs M.abs (dl (dv 2)) (hv := bt_abs)) (dop r_pow dint dint))) (hv := bt_int))) (dc (dop r_add (dop r_add (dop r_mod (dT r_int M.int (dl (dv 2)) (hv := bt_int)) dint) (dop r_mul dint (dv 1))) dint) (dl dint)))))))
/-! ### _law_take -/
abbrev s_L_take : Stmt := top 34
def fb_L_take : EM O := (sSeq (eIf (tCmp dGt (eOp2 dIx (eVar 0) (eCon (.int 0))) (eCon (.int 0))) (sSeq (sSet 2 (eOp2 dMod (eOpN dInt (eOne (eOp2 dIx (eVar 0) (eCon (.int 0))))) (eVar 1))) (sSeq (sPut 0 (eCon (.int 0)) (eOp2 dFdv (eOp2 dIx (eVar 0) (eCon (.int 0))) (eVar 1))) (sRet (eVar 2)))) (eRet .nx)) (sSeq (sPut 0 (eCon (.int 2)) (eOp2 dAdd (eOp2 dIx (eVar 0) (eCon (.int 2))) (eCon (.int 1)))) (sSeq (sSet 3 (eOp2 dMod (eOpN dInt (eOne (eOp2 dMul (eOp2 dAdd (eOp2 dIx (eVar 0) (eCon (.int 1))) (eOp2 dMul (eCon (.int 48271)) (eOp2 dIx (eVar 0) (eCon (.int 2))))) (eOp2 dAdd (eCon (.int 39373)) (eOp2 dIx (eVar 0) (eCon (.int 2))))))) (eCon (.int 2147483647)))) (sSeq (sSet 4 (eOp2 dAdd (eOp2 dMod (eOpN dInt (eOne (eVar 3))) (eCon (.int 40009))) (eCon (.int 7)))) (sSeq (sSet 5 (eOp2 dMod (eOpN dInt (eOne (eOp2 dMul (eOp2 dAdd (eOp2 dAdd (eVar 3) (eOp2 dIx (eVar 0) (eCon (.int 2)))) (eOp2 dFdv (eOp2 dIx (eVar 0) (eCon (.int 1))) (eCon (.int 1000003)))) (eVar 4)))) (eCon (.int 2147483629)))) (sRet (eOp2 dMod (eOpN dInt (eOne (eOp2 dFdv (eOp2 dMod (eOpN dInt (eOne (eOp2 dAdd (eOp2 dMul (eVar 5) (eCon (.int 48271))) (eVar 3)))) (eCon (.int 2147483587))) (eCon (.int 64))))) (eVar 1))))))))
def F_L_take : EM R := runF 6 2 fb_L_take
theorem sc_L_take : FnScope ["_law_box_here", "_law_below", "_law_drawn", "_law_once", "_law_odd_here", "_law_twice"] ["_law_box_here", "_law_below"] (defScope s_L_take) := ⟨rfl, rfl, rfl, by decide +kernel, rfl, by decide +kernel, by decide +kernel⟩
theorem ok_L_take {f : Addr} {fd : FuncData} (M : MgB mg) (m : mg "_law_take" = some (.ref f)) (F : FnP K "_law_take" s_L_take f fd) : Fnk P w K mg base "_law_take" 1 2 F_L_take :=
  fnk_ok (N := ["_law_box_here", "_law_below", "_law_drawn", "_law_once", "_law_odd_here", "_law_twice"]) (ps := ["_law_box_here", "_law_below"]) m F sc_L_take (fun _ _ _ _ _ _ us hl => match us, hl with | [_, _], _ => rfl) fun cdv A outer s H E hr => (ds_cons (ds_if (tcmp r_gt (dix (dv 0) dint) dint) (ds_cons (ds_set (i := 2) sc_L_take.nd rfl (by first | exact Or.inl rfl | exact Or.inr rfl) (by first | exact Or.inl rfl | exact Or.inr rfl) rfl (dop r_mod (dT r_int M.int (dl (dix (dv 0) dint)) (hv := bt_int)) (dv 1))) (ds_cons (dput 0 dint (dop r_fdv (dix (dv 0) dint) (dv 1))) (ds_one (ds_ret (dv 2))))) ds_nil) (ds_cons (dput 0 dint (dop r_add (dix (dv 0) dint) dint)) (ds_cons (ds_set (i := 3) sc_L_take.nd rfl (by first | exact Or.inl rfl | exact Or.inr rfl) (by first | exact Or.inl rfl | exact Or.inr rfl) rfl (dop r_mod (dT r_int M.int (dl (dop r_mul (dop r_add (dix (dv 0) dint) (dop r_mul dint (dix (dv 0) dint))) (dop r_add dint (dix (dv 0) dint)))) (hv := bt_int)) dint)) (ds_cons (ds_set (i := 4) sc_L_take.nd rfl (by first | exact Or.inl rfl | exact Or.inr rfl) (by first | exact Or.inl rfl | exact Or.inr rfl) rfl (dop r_add (dop r_mod (dT r_int M.int (dl (dv 3)) (hv := bt_int)) dint) dint)) (ds_cons (ds_set (i := 5) sc_L_take.nd rfl (by first | exact Or.inl rfl | exact Or.inr rfl) (by first | exact Or.inl rfl | exact Or.inr rfl) rfl (dop r_mod (dT r_int M.int (dl (dop r_mul (dop r_add (dop r_add (dv 3) (dix (dv 0) dint)) (dop r_fdv (dix (dv 0) dint) dint)) (dv 4))) (hv := bt_int)) dint)) (ds_one (ds_ret (dop r_mod (dT r_int M.int (dl (dop r_fdv (dop r_mod (dT r_int M.int (dl (dop r_add (dop r_mul (dv 5) dint) (dv 3))) (hv := bt_int)) dint) dint)) (hv := bt_int)) (dv 1)))))))))
/-! ### _law_cells -/
abbrev s_L_cells : Stmt := top 35
def fb_L_cells : EM O := (sSeq (sSet 2 (eOr2 (eOpN dList (eOne (eCut (eVar 0) oNone (oInt (eVar 1))))) (eLst (eOne (eCon (.int 0)))))) (sSeq (sFor (iEnumD (eOne (eCut (eVar 0) (oInt (eVar 1)) (oInt (eCon (.int 63)))))) (gTupD 2 (gConsD (gPut 3) (gConsD (gPut 4) gNilD))) (sSeq (sSet 5 (eOp2 dMod (eOpN dInt (eOne (eVar 3))) (eVar 1))) (sPut 2 (eVar 5) (eOp2 dAdd (eOp2 dIx (eVar 2) (eVar 5)) (eOp2 dMul (eVar 4) (eOp2 dAdd (eVar 3) (eCon (.int 2)))))))) (sRet (eVar 2))))
def F_L_cells : EM R := runF 6 2 fb_L_cells
theorem sc_L_cells : FnScope ["_law_script", "_law_most_so", "_law_cells_here", "_law_k", "_law_cell", "_law_at_so"] ["_law_script", "_law_most_so"] (defScope s_L_cells) := ⟨rfl, rfl, rfl, by decide +kernel, rfl, by decide +kernel, by decide +kernel⟩
theorem ok_L_cells {f : Addr} {fd : FuncData} (M : MgB mg) (m : mg "_law_cells" = some (.ref f)) (F : FnP K "_law_cells" s_L_cells f fd) : Fnk P w K mg base "_law_cells" 1 2 F_L_cells :=
  fnk_ok (N := ["_law_script", "_law_most_so", "_law_cells_here", "_law_k", "_law_cell", "_law_at_so"]) (ps := ["_law_script", "_law_most_so"]) m F sc_L_cells (fun _ _ _ _ _ _ us hl => match us, hl with | [_, _], _ => rfl) fun cdv A outer s H E hr => (ds_cons (ds_set (i := 2) sc_L_cells.nd rfl (by first | exact Or.inl rfl | exact Or.inr rfl) (by first | exact Or.inl rfl | exact Or.inr rfl) rfl (d_or (dT r_list M.list (dl (d_cut (dv 0) do_none (do_some (dv 1)))) (hv := bt_list)) (d_one (d_lst (dl dint))))) (ds_cons (ds_for PassesOwn.never rfl (di_enum rfl M.enumerate (dl (d_cut (dv 0) (do_some (dv 1)) (do_some dint)))) (dg_tup rfl (dgs_cons (dg_name (i := 3) sc_L_cells.nd rfl (by first | exact Or.inl rfl | exact Or.inr rfl) (by first | exact Or.inl rfl | exact Or.inr rfl)) (dgs_cons (dg_name (i := 4) sc_L_cells.nd rfl (by first | exact Or.inl rfl | exact Or.inr rfl) (by first | exact Or.inl rfl | exact Or.inr rfl)) dgs_nil))) (ds_cons (ds_set (i := 5) sc_L_cells.nd rfl (by first | exact Or.inl rfl | exact Or.inr rfl) (by first | exact Or.inl rfl | exact Or.inr rfl) rfl (dop r_mod (dT r_int M.int (dl (dv 3)) (hv := bt_int)) (dv 1))) (ds_one (dput 2 (dv 5) (dop r_add (dix (dv 2) (dv 5)) (dop r_mul (dv 4) (dop r_add (dv 3) dint))))))) (ds_one (ds_ret (dv 2)))))
/-! ### _law_of -/
abbrev s_L_of : Stmt := top 36
def fb_L_of : EM O := (sRet (eOp2 dIx (eVar 1) (eCallM F_L_take (eCons (eVar 0) (eOne (eOpN dLen (eOne (eVar 1))))))))
def F_L_of : EM R := runF 2 2 fb_L_of
theorem sc_L_of : FnScope ["_law_box_here", "_law_some"] ["_law_box_here", "_law_some"] (defScope s_L_of) := ⟨rfl, rfl, rfl, by decide +kernel, rfl, by decide +kernel, by decide +kernel⟩
theorem ok_L_of {f : Addr} {fd : FuncData} (G_L_take : Fnk P w K mg base "_law_take" 1 2 F_L_take) (M : MgB mg) (m : mg "_law_of" = some (.ref f)) (F : FnP K "_law_of" s_L_of f fd) : Fnk P w K mg base "_law_of" 2 2 F_L_of :=
  fnk_ok (N := ["_law_box_here", "_law_some"]) (ps := ["_law_box_here", "_law_some"]) m F sc_L_of (fun _ _ _ _ _ _ us hl => match us, hl with | [_, _], _ => rfl) fun cdv A outer s H E hr => (ds_one (ds_ret (dix (dv 1) (dcallM G_L_take hr (dc (dv 0) (dl (dB r_len M.len (dl (dv 1)) (hv := bt_len))))))))
/-! ### _law_lists -/
/- row 210: call dict -/
abbrev s_L_lists : Stmt := top 37
def fb_L_lists (F_L_lists : EM R) : EM O := (sSeq (eIf (eTruth (eOpN dIsi (eCons (eVar 0) (eOne (eCon (.ty "dict")))))) (fun _ => none) (eRet .nx)) (sRet (eIf (eTruth (eOpN dIsi (eCons (eVar 0) (eOne (eTup (eCons (eCon (.ty "list")) (eOne (eCon (.ty "tuple"))))))))) (eLc (iAny (eVar 0)) (gPut 2) (eRet true) (eCallV F_L_lists (eOne (eVar 2))) [2]) (eVar 0))))
def FR_L_lists : Nat → EM R
  | 0 => fun _ => none
  | n + 1 => runF 3 1 (fb_L_lists (FR_L_lists n))
abbrev F_L_lists : EM R := FR_L_lists 60
theorem sc_L_lists : FnScope ["_law_matter", "_law_key", "_law_bit"] ["_law_matter"] (defScope s_L_lists) := ⟨rfl, rfl, rfl, by decide +kernel, rfl, by decide +kernel, by decide +kernel⟩
theorem okR_L_lists {f : Addr} {fd : FuncData} (M : MgB mg) (m : mg "_law_lists" = some (.ref f)) (F : FnP K "_law_lists" s_L_lists f fd) : ∀ n, Fnk P w K mg base "_law_lists" (0 + n) 1 (FR_L_lists n)
  | 0 => fnk_none (N := ["_law_matter", "_law_key", "_law_bit"]) (ps := ["_law_matter"]) m F (fun _ _ _ _ _ _ us hl => match us, hl with | [_], _ => rfl)
  | n + 1 => by
    have G_L_lists := okR_L_lists M m F n
    exact fnk_ok (k := 0 + n) (N := ["_law_matter", "_law_key", "_law_bit"]) (ps := ["_law_matter"]) m F sc_L_lists (fun _ _ _ _ _ _ us hl => match us, hl with | [_], _ => rfl) fun cdv A outer s H E hr => (ds_cons (ds_if (tv (dB r_isi M.isinstance (dc (dv 0) (dl (dty "dict" M.dict (hv := bt_dict)))) (hv := bt_isinstance))) (ds_one ds_never) ds_nil) (ds_one (ds_ret (d_ife (tv (dB r_isi M.isinstance (dc (dv 0) (dl (d_tup (dc (dty "list" M.list (hv := bt_list)) (dl (dty "tuple" M.tuple (hv := bt_tuple))))))) (hv := bt_isinstance))) (d_lc (own := [("_law_bit", 2)]) rfl sc_L_lists.nd (di_any (dv 0)) (blkOk_by (own := [("_law_bit", 2)]) (N := ["_law_matter", "_law_key", "_law_bit"]) (sc := defScope s_L_lists) (by decide +kernel)) (by decide) (fun _ _ _ _ _ => (dg_name (i := 2) sc_L_lists.nd rfl (by first | exact Or.inl rfl | exact Or.inr rfl) (by first | exact Or.inl rfl | exact Or.inr rfl))) (fun _ _ _ _ _ => dts_nil) (fun _ _ _ _ _ => (dcall G_L_lists hr (dl (dv 2))))) (dv 0)))))
theorem ok_L_lists {f : Addr} {fd : FuncData} (M : MgB mg) (m : mg "_law_lists" = some (.ref f)) (F : FnP K "_law_lists" s_L_lists f fd) : Fnk P w K mg base "_law_lists" 60 1 F_L_lists := okR_L_lists M m F 60
/-! ### _law_is_number -/
abbrev s_L_is_number : Stmt := top 39
def fb_L_is_number : EM O := (sRet (eAnd2 (eOpN dIsi (eCons (eVar 0) (eOne (eCon (.ty "int"))))) (eNot (eOpN dIsi (eCons (eVar 0) (eOne (eCon (.ty "bool"))))))))
def F_L_is_number : EM R := runF 1 1 fb_L_is_number
theorem sc_L_is_number : FnScope ["_law_matter"] ["_law_matter"] (defScope s_L_is_number) := ⟨rfl, rfl, rfl, by decide +kernel, rfl, by decide +kernel, by decide +kernel⟩
theorem ok_L_is_number {f : Addr} {fd : FuncData} (M : MgB mg) (m : mg "_law_is_number" = some (.ref f)) (F : FnP K "_law_is_number" s_L_is_number f fd) : Fnk P w K mg base "_law_is_number" 1 1 F_L_is_number :=
  fnk_ok (N := ["_law_matter"]) (ps := ["_law_matter"]) m F sc_L_is_number (fun _ _ _ _ _ _ us hl => match us, hl with | [_], _ => rfl) fun cdv A outer s H E hr => (ds_one (ds_ret (d_and (dB r_isi M.isinstance (dc (dv 0) (dl (dty "int" M.int (hv := bt_int)))) (hv := bt_isinstance)) (d_one (d_not (dB r_isi M.isinstance (dc (dv 0) (dl (dty "bool" M.bool (hv := bt_bool)))) (hv := bt_isinstance)))))))
/-! ### _law_same -/
abbrev s_L_same : Stmt := top 38
def fb_L_same (F_L_same : EM R) : EM O := (sSeq (eIf (eTruth (eOpN dIsi (eCons (eVar 1) (eOne (eCon (.ty "dict")))))) (sSeq (eIf (tOr2 (tNo (eTruth (eOpN dIsi (eCons (eVar 0) (eOne (eCon (.ty "dict"))))))) (tCmp dNe (eOpN dLen (eOne (eVar 0))) (eOpN dLen (eOne (eVar 1))))) (sRet (eCon (.bl false))) (eRet .nx)) (sRet (eOpN dAll (eOne (eLc (iAny (eVar 1)) (gPut 2) (eRet true) (eAnd2 (eOp2 dIn (eVar 2) (eVar 0)) (eAnd2 (eCallV F_L_is_number (eOne (eVar 2))) (eCallV F_L_same (eCons (eOp2 dIx (eVar 0) (eVar 2)) (eOne (eOp2 dIx (eVar 1) (eVar 2))))))) [2]))))) (eRet .nx)) (sSeq (eIf (eTruth (eOpN dIsi (eCons (eVar 1) (eOne (eTup (eCons (eCon (.ty "list")) (eOne (eCon (.ty "tuple"))))))))) (sSeq (eIf (tOr2 (tCmp dNe (eOpN dIsi (eCons (eVar 0) (eOne (eCon (.ty "list"))))) (eOpN dIsi (eCons (eVar 1) (eOne (eCon (.ty "list")))))) (tCmp dNe (eOpN dIsi (eCons (eVar 0) (eOne (eCon (.ty "tuple"))))) (eOpN dIsi (eCons (eVar 1) (eOne (eCon (.ty "tuple"))))))) (sRet (eCon (.bl false))) (eRet .nx)) (sRet (eAnd2 (eOp2 dEq (eOpN dLen (eOne (eVar 0))) (eOpN dLen (eOne (eVar 1)))) (eOpN dAll (eOne (eLc (iZipD (eCons (eVar 0) (eOne (eVar 1)))) (gTupD 2 (gConsD (gPut 3) (gConsD (gPut 4) gNilD))) (eRet true) (eCallV F_L_same (eCons (eVar 3) (eOne (eVar 4)))) [3, 4])))))) (eRet .nx)) (sSeq (eIf (tOr2 (tCmp dIs (eVar 1) (eCon .non)) (eTruth (eOpN dIsi (eCons (eVar 1) (eOne (eTup (eCons (eCon (.ty "bool")) (eOne (eCon (.ty "str")))))))))) (sRet (eAnd2 (eOp2 dEq (eVar 0) (eVar 1)) (eAnd2 (eOp2 dEq (eOpN dIsi (eCons (eVar 0) (eOne (eCon (.ty "bool"))))) (eOpN dIsi (eCons (eVar 1) (eOne (eCon (.ty "bool")))))) (eOp2 dEq (eOp2 dIs (eVar 0) (eCon .non)) (eOp2 dIs (eVar 1) (eCon .non)))))) (eRet .nx)) (sRet (eAnd2 (eCallV F_L_is_number (eOne (eVar 0))) (eOp2 dEq (eVar 0) (eVar 1)))))))
def FR_L_same : Nat → EM R
  | 0 => fun _ => none
  | n + 1 => runF 5 2 (fb_L_same (FR_L_same n))
abbrev F_L_same : EM R := FR_L_same 60
theorem sc_L_same : FnScope ["_law_got", "_law_due", "_law_key", "_law_mine", "_law_its"] ["_law_got", "_law_due"] (defScope s_L_same) := ⟨rfl, rfl, rfl, by decide +kernel, rfl, by decide +kernel, by decide +kernel⟩
theorem okR_L_same {f : Addr} {fd : FuncData} (G_L_is_number : Fnk P w K mg base "_law_is_number" 1 1 F_L_is_number) (M : MgB mg) (m : mg "_law_same" = some (.ref f)) (F : FnP K "_law_same" s_L_same f fd) : ∀ n, Fnk P w K mg base "_law_same" (1 + n) 2 (FR_L_same n)
  | 0 => fnk_none (N := ["_law_got", "_law_due", "_law_key", "_law_mine", "_law_its"]) (ps := ["_law_got", "_law_due"]) m F (fun _ _ _ _ _ _ us hl => match us, hl with | [_, _], _ => rfl)
  | n + 1 => by
    have G_L_same := okR_L_same G_L_is_number M m F n
    exact fnk_ok (k := 1 + n) (N := ["_law_got", "_law_due", "_law_key", "_law_mine", "_law_its"]) (ps := ["_law_got", "_law_due"]) m F sc_L_same (fun _ _ _ _ _ _ us hl => match us, hl with | [_, _], _ => rfl) fun cdv A outer s H E hr => (ds_cons (ds_if (tv (dB r_isi M.isinstance (dc (dv 1) (dl (dty "dict" M.dict (hv := bt_dict)))) (hv := bt_isinstance))) (ds_cons (ds_if (PW.pt (dw_or (dt_not (tv (dB r_isi M.isinstance (dc (dv 0) (dl (dty "dict" M.dict (hv := bt_dict)))) (hv := bt_isinstance)))) (dw_or1 (tcmp (r_ne hr.units) (dB r_len M.len (dl (dv 0)) (hv := bt_len)) (dB r_len M.len (dl (dv 1)) (hv := bt_len)))))) (ds_one (ds_ret dbl)) ds_nil) (ds_one (ds_ret (dB (r_all rfl) M.all (dl (d_lc (own := [("_law_key", 2)]) rfl sc_L_same.nd (di_any (dv 1)) (blkOk_by (own := [("_law_key", 2)]) (N := ["_law_got", "_law_due", "_law_key", "_law_mine", "_law_its"]) (sc := defScope s_L_same) (by decide +kernel)) (by decide) (fun _ _ _ _ _ => (dg_name (i := 2) sc_L_same.nd rfl (by first | exact Or.inl rfl | exact Or.inr rfl) (by first | exact Or.inl rfl | exact Or.inr rfl))) (fun _ _ _ _ _ => dts_nil) (fun _ _ _ _ _ => (d_and (dcmp (r_in hr.units) (dv 2) (dv 0)) (d_and (dcall G_L_is_number hr (dl (dv 2))) (d_one (dcall G_L_same hr (dc (dix (dv 0) (dv 2)) (dl (dix (dv 1) (dv 2))))))))))) (hv := bt_all))))) ds_nil) (ds_cons (ds_if (tv (dB r_isi M.isinstance (dc (dv 1) (dl (d_tup (dc (dty "list" M.list (hv := bt_list)) (dl (dty "tuple" M.tuple (hv := bt_tuple))))))) (hv := bt_isinstance))) (ds_cons (ds_if (PW.pt (dw_or (tcmp (r_ne hr.units) (dB r_isi M.isinstance (dc (dv 0) (dl (dty "list" M.list (hv := bt_list)))) (hv := bt_isinstance)) (dB r_isi M.isinstance (dc (dv 1) (dl (dty "list" M.list (hv := bt_list)))) (hv := bt_isinstance))) (dw_or1 (tcmp (r_ne hr.units) (dB r_isi M.isinstance (dc (dv 0) (dl (dty "tuple" M.tuple (hv := bt_tuple)))) (hv := bt_isinstance)) (dB r_isi M.isinstance (dc (dv 1) (dl (dty "tuple" M.tuple (hv := bt_tuple)))) (hv := bt_isinstance)))))) (ds_one (ds_ret dbl)) ds_nil) (ds_one (ds_ret (d_and (dcmp (r_eq hr.units) (dB r_len M.len (dl (dv 0)) (hv := bt_len)) (dB r_len M.len (dl (dv 1)) (hv := bt_len))) (d_one (dB (r_all rfl) M.all (dl (d_lc (own := [("_law_mine", 3), ("_law_its", 4)]) rfl sc_L_same.nd (di_zip rfl M.zip (dc (dv 0) (dl (dv 1)))) (blkOk_by (own := [("_law_mine", 3), ("_law_its", 4)]) (N := ["_law_got", "_law_due", "_law_key", "_law_mine", "_law_its"]) (sc := defScope s_L_same) (by decide +kernel)) (by decide) (fun _ _ _ _ _ => (dg_tup rfl (dgs_cons (dg_name (i := 3) sc_L_same.nd rfl (by first | exact Or.inl rfl | exact Or.inr rfl) (by first | exact Or.inl rfl | exact Or.inr rfl)) (dgs_cons (dg_name (i := 4) sc_L_same.nd rfl (by first | exact Or.inl rfl | exact Or.inr rfl) (by first | exact Or.inl rfl | exact Or.inr rfl)) dgs_nil)))) (fun _ _ _ _ _ => dts_nil) (fun _ _ _ _ _ => (dcall G_L_same hr (dc (dv 3) (dl (dv 4))))))) (hv := bt_all))))))) ds_nil) (ds_cons (ds_if (PW.pt (dw_or (tcmp r_is (dv 1) dnon) (dw_or1 (tv (dB r_isi M.isinstance (dc (dv 1) (dl (d_tup (dc (dty "bool" M.bool (hv := bt_bool)) (dl (dty "str" M.str (hv := bt_str))))))) (hv := bt_isinstance)))))) (ds_one (ds_ret (d_and (dcmp (r_eq hr.units) (dv 0) (dv 1)) (d_and (dcmp (r_eq hr.units) (dB r_isi M.isinstance (dc (dv 0) (dl (dty "bool" M.bool (hv := bt_bool)))) (hv := bt_isinstance)) (dB r_isi M.isinstance (dc (dv 1) (dl (dty "bool" M.bool (hv := bt_bool)))) (hv := bt_isinstance))) (d_one (dcmp (r_eq hr.units) (dcmp r_is (dv 0) dnon) (dcmp r_is (dv 1) dnon))))))) ds_nil) (ds_one (ds_ret (d_and (dcall G_L_is_number hr (dl (dv 0))) (d_one (dcmp (r_eq hr.units) (dv 0) (dv 1)))))))))
theorem ok_L_same {f : Addr} {fd : FuncData} (G_L_is_number : Fnk P w K mg base "_law_is_number" 1 1 F_L_is_number) (M : MgB mg) (m : mg "_law_same" = some (.ref f)) (F : FnP K "_law_same" s_L_same f fd) : Fnk P w K mg base "_law_same" 61 2 F_L_same := okR_L_same G_L_is_number M m F 60
/-! ### _law_names -/
abbrev s_L_names : Stmt := top 40
def fb_L_names : EM O := (sSeq (sSet 2 (eLst eNil)) (sSeq (sFor (iRange (eOne (eVar 1))) (gPut 3) (sSeq (sSet 4 (eJoin (eCon (.str (Str.ofString ""))) (eLc (iRange (eOne (eOp2 dAdd (eCon (.int 1)) (eCallM F_L_take (eCons (eVar 0) (eOne (eCon (.int 4)))))))) (gPut 5) (eRet true) (eCallM F_L_of (eCons (eVar 0) (eOne (eCon (.str (Str.ofString "abcdefghijklmnopqrstuvwxyz")))))) [5]))) (sSeq (eIf (tCmp dIn (eVar 4) (eVar 2)) (sSet 4 (eOp2 dAdd (eCut (eOp2 dAdd (eVar 4) (eCon (.str (Str.ofString "jjjj")))) oNone (oInt (eCon (.int 4)))) (eOp2 dMul (eOp2 dIx (eCon (.str (Str.ofString "abcdefghijklmnopqrstuvwxyz"))) (eVar 3)) (eCon (.int 2))))) (eRet .nx)) (sExp (eBind (hasL 2) fun _ => eApp 2 (eOne (eVar 4))))))) (sRet (eVar 2))))
def F_L_names : EM R := runF 6 2 fb_L_names
theorem sc_L_names : FnScope ["_law_box_here", "_law_many", "_law_found", "_law_k", "_law_word_so", "_law_lap"] ["_law_box_here", "_law_many"] (defScope s_L_names) := ⟨rfl, rfl, rfl, by decide +kernel, rfl, by decide +kernel, by decide +kernel⟩
theorem ok_L_names {f : Addr} {fd : FuncData} (G_L_take : Fnk P w K mg base "_law_take" 1 2 F_L_take) (G_L_of : Fnk P w K mg base "_law_of" 2 2 F_L_of) (M : MgB mg) (m : mg "_law_names" = some (.ref f)) (F : FnP K "_law_names" s_L_names f fd) : Fnk P w K mg base "_law_names" 3 2 F_L_names :=
  fnk_ok (N := ["_law_box_here", "_law_many", "_law_found", "_law_k", "_law_word_so", "_law_lap"]) (ps := ["_law_box_here", "_law_many"]) m F sc_L_names (fun _ _ _ _ _ _ us hl => match us, hl with | [_, _], _ => rfl) fun cdv A outer s H E hr => (ds_cons (ds_set (i := 2) sc_L_names.nd rfl (by first | exact Or.inl rfl | exact Or.inr rfl) (by first | exact Or.inl rfl | exact Or.inr rfl) rfl (d_lst dn)) (ds_cons (ds_for PassesOwn.never rfl (di_range rfl M.range (dl (dv 1))) (dg_name (i := 3) sc_L_names.nd rfl (by first | exact Or.inl rfl | exact Or.inr rfl) (by first | exact Or.inl rfl | exact Or.inr rfl)) (ds_cons (ds_set (i := 4) sc_L_names.nd rfl (by first | exact Or.inl rfl | exact Or.inr rfl) (by first | exact Or.inl rfl | exact Or.inr rfl) rfl (d_join dstr (d_lc (own := [("_law_lap", 5)]) rfl sc_L_names.nd (di_range rfl M.range (dl (dop r_add dint (dcallM G_L_take hr (dc (dv 0) (dl dint)))))) (blkOk_by (own := [("_law_lap", 5)]) (N := ["_law_box_here", "_law_many", "_law_found", "_law_k", "_law_word_so", "_law_lap"]) (sc := defScope s_L_names) (by decide +kernel)) (by decide) (fun _ _ _ _ _ => (dg_name (i := 5) sc_L_names.nd rfl (by first | exact Or.inl rfl | exact Or.inr rfl) (by first | exact Or.inl rfl | exact Or.inr rfl))) (fun _ _ _ _ _ => dts_nil) (fun _ _ _ _ _ => (dcallM G_L_of hr (dc (dv 0) (dl dstr))))))) (ds_cons (ds_if (tcmp (r_in hr.units) (dv 4) (dv 2)) (ds_one (ds_set (i := 4) sc_L_names.nd rfl (by first | exact Or.inl rfl | exact Or.inr rfl) (by first | exact Or.inl rfl | exact Or.inr rfl) rfl (dop r_add (d_cut (dop r_add (dv 4) dstr) do_none (do_some dint)) (dop r_mul (dix dstr (dv 3)) dint)))) ds_nil) (ds_one (ds_expr rfl (dapp 2 (dl (dv 4)))))))) (ds_one (ds_ret (dv 2)))))
/-! ### _law_say -/
abbrev s_L_say : Stmt := top 41
def fb_L_say : EM O := (sSeq (sSet 4 (eLst eNil)) (sSeq (sFor (iRange (eOne (eIf (tCmp dNe (eVar 2) (eLst eNil)) (eCallM F_L_of (eCons (eVar 0) (eOne (eLst (eCons (eCon (.int 0)) (eCons (eCon (.int 1)) (eCons (eCon (.int 1)) (eOne (eCon (.int 2)))))))))) (eCon (.int 0))))) (gPut 5) (sSeq (sPar 6 7 (eCons (eCallM F_L_of (eCons (eVar 0) (eOne (eVar 2)))) (eOne (eCallM F_L_take (eCons (eVar 0) (eOne (eCon (.int 4)))))))) (eIf (tCmp dLt (eVar 7) (eCon (.int 2))) (sExp (eBind (hasL 4) fun _ => eApp 4 (eOne (eTup (eCons (eCon (.str (Str.ofString "make"))) (eCons (eVar 6) (eOne (eOpN dTuple (eOne (eLc (iAny (eVar 1)) (gPut 8) (eRet true) (eCallM F_L_of (eCons (eVar 0) (eOne (eOp2 dAdd (eVar 2) (eLst (eOne (eCon (.int 0)))))))) [8])))))))))) (eIf (tCmp dEq (eVar 7) (eCon (.int 2))) (sExp (eBind (hasL 4) fun _ => eApp 4 (eOne (eTup (eCons (eCon (.str (Str.ofString "set"))) (eCons (eVar 6) (eCons (eCallM F_L_of (eCons (eVar 0) (eOne (eVar 1)))) (eOne (eCallM F_L_of (eCons (eVar 0) (eOne (eOp2 dAdd (eVar 2) (eLst (eOne (eCon (.int 0)))))))))))))))) (sExp (eBind (hasL 4) fun _ => eApp 4 (eOne (eTup (eCons (eCon (.str (Str.ofString "drop"))) (eOne (eVar 6))))))))))) (sRet (eTup (eCons (eCon (.str (Str.ofString "say"))) (eCons (eOpN dTuple (eOne (eVar 4))) (eOne (eCallM F_L_of (eCons (eVar 0) (eOne (eVar 3)))))))))))
def F_L_say : EM R := runF 9 4 fb_L_say
theorem sc_L_say : FnScope ["_law_box_here", "_law_fields_so", "_law_terms_so", "_law_words_so", "_law_changes_so", "_law_lap", "_law_key_so", "_law_sort_so", "_law_own"] ["_law_box_here", "_law_fields_so", "_law_terms_so", "_law_words_so"] (defScope s_L_say) := ⟨rfl, rfl, rfl, by decide +kernel, rfl, by decide +kernel, by decide +kernel⟩
theorem ok_L_say {f : Addr} {fd : FuncData} (G_L_of : Fnk P w K mg base "_law_of" 2 2 F_L_of) (G_L_take : Fnk P w K mg base "_law_take" 1 2 F_L_take) (M : MgB mg) (m : mg "_law_say" = some (.ref f)) (F : FnP K "_law_say" s_L_say f fd) : Fnk P w K mg base "_law_say" 3 4 F_L_say :=
  fnk_ok (N := ["_law_box_here", "_law_fields_so", "_law_terms_so", "_law_words_so", "_law_changes_so", "_law_lap", "_law_key_so", "_law_sort_so", "_law_own"]) (ps := ["_law_box_here", "_law_fields_so", "_law_terms_so", "_law_words_so"]) m F sc_L_say (fun _ _ _ _ _ _ us hl => match us, hl with | [_, _, _, _], _ => rfl) fun cdv A outer s H E hr => (ds_cons (ds_set (i := 4) sc_L_say.nd rfl (by first | exact Or.inl rfl | exact Or.inr rfl) (by first | exact Or.inl rfl | exact Or.inr rfl) rfl (d_lst dn)) (ds_cons (ds_for PassesOwn.never rfl (di_range rfl M.range (dl (d_ife (tcmp (r_ne hr.units) (dv 2) (d_lst dn)) (dcallM G_L_of hr (dc (dv 0) (dl (d_lst (dc dint (dc dint (dc dint (dl dint)))))))) dint))) (dg_name (i := 5) sc_L_say.nd rfl (by first | exact Or.inl rfl | exact Or.inr rfl) (by first | exact Or.inl rfl | exact Or.inr rfl)) (ds_cons (ds_par (i := 6) (j := 7) rfl sc_L_say.nd rfl rfl (by decide) rfl rfl (dc (dcallM G_L_of hr (dc (dv 0) (dl (dv 2)))) (dl (dcallM G_L_take hr (dc (dv 0) (dl dint))))) rfl) (ds_one (ds_if (tcmp r_lt (dv 7) dint) (ds_one (ds_expr rfl (dapp 4 (dl (d_tup (dc dstr (dc (dv 6) (dl (dT r_tuple M.tuple (dl (d_lc (own := [("_law_own", 8)]) rfl sc_L_say.nd (di_any (dv 1)) (blkOk_by (own := [("_law_own", 8)]) (N := ["_law_box_here", "_law_fields_so", "_law_terms_so", "_law_words_so", "_law_changes_so", "_law_lap", "_law_key_so", "_law_sort_so", "_law_own"]) (sc := defScope s_L_say) (by decide +kernel)) (by decide) (fun _ _ _ _ _ => (dg_name (i := 8) sc_L_say.nd rfl (by first | exact Or.inl rfl | exact Or.inr rfl) (by first | exact Or.inl rfl | exact Or.inr rfl))) (fun _ _ _ _ _ => dts_nil) (fun _ _ _ _ _ => (dcallM G_L_of hr (dc (dv 0) (dl (dop r_add (dv 2) (d_lst (dl dint))))))))) (hv := bt_tuple)))))))))) (ds_one (ds_if (tcmp (r_eq hr.units) (dv 7) dint) (ds_one (ds_expr rfl (dapp 4 (dl (d_tup (dc dstr (dc (dv 6) (dc (dcallM G_L_of hr (dc (dv 0) (dl (dv 1)))) (dl (dcallM G_L_of hr (dc (dv 0) (dl (dop r_add (dv 2) (d_lst (dl dint))))))))))))))) (ds_one (ds_expr rfl (dapp 4 (dl (d_tup (dc dstr (dl (dv 6)))))))))))))) (ds_one (ds_ret (d_tup (dc dstr (dc (dT r_tuple M.tuple (dl (dv 4)) (hv := bt_tuple)) (dl (dcallM G_L_of hr (dc (dv 0) (dl (dv 3))))))))))))
/-! ### _law_body -/
abbrev s_L_body : Stmt := top 42
def fb_L_body (F_L_body : EM R) : EM O := (sSeq (eIf (tAnd2 (tCmp dNe (eVar 3) (eLst eNil)) (tAnd2 (tCmp dGt (eVar 5) (eCon (.int 0))) (tCmp dEq (eCallM F_L_take (eCons (eVar 0) (eOne (eCon (.int 3))))) (eCon (.int 0))))) (sSeq (sSet 7 (eIf (tCmp dNotIn (eCon (.str (Str.ofString "x"))) (eVar 2)) (eCon (.str (Str.ofString "x"))) (eCon (.str (Str.ofString "xx"))))) (sSeq (sPar 8 9 (eCons (eCallM F_L_of (eCons (eVar 0) (eOne (eVar 3)))) (eOne (eCallM F_L_of (eCons (eVar 0) (eOne (eVar 1))))))) (sSeq (sSet 10 (eCallM F_L_body (eCons (eVar 0) (eCons (eVar 1) (eCons (eOp2 dAdd (eVar 2) (eLst (eOne (eVar 7)))) (eCons (eVar 3) (eCons (eVar 4) (eCons (eOp2 dSub (eVar 5) (eCon (.int 1))) (eOne (eVar 6)))))))))) (sRet (eTup (eCons (eCon (.str (Str.ofString "let"))) (eCons (eVar 7) (eCons (eVar 8) (eCons (eVar 9) (eOne (eVar 10))))))))))) (eRet .nx)) (sSeq (eIf (tOr2 (tCmp dEq (eVar 4) (eCon (.int 0))) (tCmp dEq (eVar 2) (eLst eNil))) (sRet (eCallM F_L_say (eCons (eVar 0) (eCons (eVar 1) (eCons (eVar 2) (eOne (eVar 6))))))) (eRet .nx)) (sSeq (sSet 11 (eCallM F_L_take (eCons (eVar 0) (eOne (eVar 4))))) (sSeq (eIf (tAnd2 (tCmp dNe (eVar 3) (eLst eNil)) (tCmp dEq (eCallM F_L_take (eCons (eVar 0) (eOne (eCon (.int 2))))) (eCon (.int 0)))) (sSeq (sSet 12 (eTup (eCons (eCon (.str (Str.ofString "is"))) (eCons (eCallM F_L_of (eCons (eVar 0) (eOne (eVar 3)))) (eCons (eCallM F_L_of (eCons (eVar 0) (eOne (eVar 1)))) (eOne (eCallM F_L_of (eCons (eVar 0) (eOne (eOp2 dAdd (eVar 2) (eLst (eOne (eCon (.int 0)))))))))))))) (sSet 13 (eCallM F_L_body (eCons (eVar 0) (eCons (eVar 1) (eCons (eVar 2) (eCons (eVar 3) (eCons (eVar 11) (eCons (eVar 5) (eOne (eVar 6))))))))))) (sSeq (sSet 14 (eCallM F_L_of (eCons (eVar 0) (eOne (eVar 2))))) (sSeq (sSet 12 (eTup (eCons (eCon (.str (Str.ofString "has"))) (eOne (eVar 14))))) (sSet 13 (eCallM F_L_body (eCons (eVar 0) (eCons (eVar 1) (eCons (eVar 2) (eCons (eOp2 dAdd (eVar 3) (eLst (eOne (eVar 14)))) (eCons (eVar 11) (eCons (eVar 5) (eOne (eVar 6))))))))))))) (sSeq (sSet 15 (eCallM F_L_body (eCons (eVar 0) (eCons (eVar 1) (eCons (eVar 2) (eCons (eVar 3) (eCons (eOp2 dSub (eOp2 dSub (eVar 4) (eCon (.int 1))) (eVar 11)) (eCons (eVar 5) (eOne (eVar 6)))))))))) (sRet (eOp2 dAdd (eVar 12) (eTup (eCons (eVar 13) (eOne (eVar 15)))))))))))
def FR_L_body : Nat → EM R
  | 0 => fun _ => none
  | n + 1 => runF 16 7 (fb_L_body (FR_L_body n))
abbrev F_L_body : EM R := FR_L_body 60
theorem sc_L_body : FnScope ["_law_box_here", "_law_fields_so", "_law_terms_so", "_law_sure_so", "_law_tests_so", "_law_lets_so", "_law_words_so", "_law_name_so", "_law_spot", "_law_field_so", "_law_rest", "_law_first_so", "_law_head", "_law_one_so", "_law_key_so", "_law_other_so"] ["_law_box_here", "_law_fields_so", "_law_terms_so", "_law_sure_so", "_law_tests_so", "_law_lets_so", "_law_words_so"] (defScope s_L_body) := ⟨rfl, rfl, rfl, by decide +kernel, rfl, by decide +kernel, by decide +kernel⟩
theorem okR_L_body {f : Addr} {fd : FuncData} (G_L_take : Fnk P w K mg base "_law_take" 1 2 F_L_take) (G_L_of : Fnk P w K mg base "_law_of" 2 2 F_L_of) (G_L_say : Fnk P w K mg base "_law_say" 3 4 F_L_say) (M : MgB mg) (m : mg "_law_body" = some (.ref f)) (F : FnP K "_law_body" s_L_body f fd) : ∀ n, Fnk P w K mg base "_law_body" (3 + n) 7 (FR_L_body n)
  | 0 => fnk_none (N := ["_law_box_here", "_law_fields_so", "_law_terms_so", "_law_sure_so", "_law_tests_so", "_law_lets_so", "_law_words_so", "_law_name_so", "_law_spot", "_law_field_so", "_law_rest", "_law_first_so", "_law_head", "_law_one_so", "_law_key_so", "_law_other_so"]) (ps := ["_law_box_here", "_law_fields_so", "_law_terms_so", "_law_sure_so", "_law_tests_so", "_law_lets_so", "_law_words_so"]) m F (fun _ _ _ _ _ _ us hl => match us, hl with | [_, _, _, _, _, _, _], _ => rfl)
  | n + 1 => by
    have G_L_body := okR_L_body G_L_take G_L_of G_L_say M m F n
    exact fnk_ok (k := 3 + n) (N := ["_law_box_here", "_law_fields_so", "_law_terms_so", "_law_sure_so", "_law_tests_so", "_law_lets_so", "_law_words_so", "_law_name_so", "_law_spot", "_law_field_so", "_law_rest", "_law_first_so", "_law_head", "_law_one_so", "_law_key_so", "_law_other_so"]) (ps := ["_law_box_here", "_law_fields_so", "_law_terms_so", "_law_sure_so", "_law_tests_so", "_law_lets_so", "_law_words_so"]) m F sc_L_body (fun _ _ _ _ _ _ us hl => match us, hl with | [_, _, _, _, _, _, _], _ => rfl) fun cdv A outer s H E hr => (ds_cons (ds_if (PW.pt (dw_and (tcmp (r_ne hr.units) (dv 3) (d_lst dn)) (dw_and (tcmp r_gt (dv 5) dint) (dw_and1 (tcmp (r_eq hr.units) (dcallM G_L_take hr (dc (dv 0) (dl dint))) dint))))) (ds_cons (ds_set (i := 7) sc_L_body.nd rfl (by first | exact Or.inl rfl | exact Or.inr rfl) (by first | exact Or.inl rfl | exact Or.inr rfl) rfl (d_ife (tcmp (r_notIn hr.units) dstr (dv 2)) dstr dstr)) (ds_cons (ds_par (i := 8) (j := 9) rfl sc_L_body.nd rfl rfl (by decide) rfl rfl (dc (dcallM G_L_of hr (dc (dv 0) (dl (dv 3)))) (dl (dcallM G_L_of hr (dc (dv 0) (dl (dv 1)))))) rfl) (ds_cons (ds_set (i := 10) sc_L_body.nd rfl (by first | exact Or.inl rfl | exact Or.inr rfl) (by first | exact Or.inl rfl | exact Or.inr rfl) rfl (dcallM G_L_body hr (dc (dv 0) (dc (dv 1) (dc (dop r_add (dv 2) (d_lst (dl (dv 7)))) (dc (dv 3) (dc (dv 4) (dc (dop r_sub (dv 5) dint) (dl (dv 6)))))))))) (ds_one (ds_ret (d_tup (dc dstr (dc (dv 7) (dc (dv 8) (dc (dv 9) (dl (dv 10)))))))))))) ds_nil) (ds_cons (ds_if (PW.pt (dw_or (tcmp (r_eq hr.units) (dv 4) dint) (dw_or1 (tcmp (r_eq hr.units) (dv 2) (d_lst dn))))) (ds_one (ds_ret (dcallM G_L_say hr (dc (dv 0) (dc (dv 1) (dc (dv 2) (dl (dv 6)))))))) ds_nil) (ds_cons (ds_set (i := 11) sc_L_body.nd rfl (by first | exact Or.inl rfl | exact Or.inr rfl) (by first | exact Or.inl rfl | exact Or.inr rfl) rfl (dcallM G_L_take hr (dc (dv 0) (dl (dv 4))))) (ds_cons (ds_if (PW.pt (dw_and (tcmp (r_ne hr.units) (dv 3) (d_lst dn)) (dw_and1 (tcmp (r_eq hr.units) (dcallM G_L_take hr (dc (dv 0) (dl dint))) dint)))) (ds_cons (ds_set (i := 12) sc_L_body.nd rfl (by first | exact Or.inl rfl | exact Or.inr rfl) (by first | exact Or.inl rfl | exact Or.inr rfl) rfl (d_tup (dc dstr (dc (dcallM G_L_of hr (dc (dv 0) (dl (dv 3)))) (dc (dcallM G_L_of hr (dc (dv 0) (dl (dv 1)))) (dl (dcallM G_L_of hr (dc (dv 0) (dl (dop r_add (dv 2) (d_lst (dl dint)))))))))))) (ds_one (ds_set (i := 13) sc_L_body.nd rfl (by first | exact Or.inl rfl | exact Or.inr rfl) (by first | exact Or.inl rfl | exact Or.inr rfl) rfl (dcallM G_L_body hr (dc (dv 0) (dc (dv 1) (dc (dv 2) (dc (dv 3) (dc (dv 11) (dc (dv 5) (dl (dv 6)))))))))))) (ds_cons (ds_set (i := 14) sc_L_body.nd rfl (by first | exact Or.inl rfl | exact Or.inr rfl) (by first | exact Or.inl rfl | exact Or.inr rfl) rfl (dcallM G_L_of hr (dc (dv 0) (dl (dv 2))))) (ds_cons (ds_set (i := 12) sc_L_body.nd rfl (by first | exact Or.inl rfl | exact Or.inr rfl) (by first | exact Or.inl rfl | exact Or.inr rfl) rfl (d_tup (dc dstr (dl (dv 14))))) (ds_one (ds_set (i := 13) sc_L_body.nd rfl (by first | exact Or.inl rfl | exact Or.inr rfl) (by first | exact Or.inl rfl | exact Or.inr rfl) rfl (dcallM G_L_body hr (dc (dv 0) (dc (dv 1) (dc (dv 2) (dc (dop r_add (dv 3) (d_lst (dl (dv 14)))) (dc (dv 11) (dc (dv 5) (dl (dv 6)))))))))))))) (ds_cons (ds_set (i := 15) sc_L_body.nd rfl (by first | exact Or.inl rfl | exact Or.inr rfl) (by first | exact Or.inl rfl | exact Or.inr rfl) rfl (dcallM G_L_body hr (dc (dv 0) (dc (dv 1) (dc (dv 2) (dc (dv 3) (dc (dop r_sub (dop r_sub (dv 4) dint) (dv 11)) (dc (dv 5) (dl (dv 6)))))))))) (ds_one (ds_ret (dop r_add (dv 12) (d_tup (dc (dv 13) (dl (dv 15))))))))))))
theorem ok_L_body {f : Addr} {fd : FuncData} (G_L_take : Fnk P w K mg base "_law_take" 1 2 F_L_take) (G_L_of : Fnk P w K mg base "_law_of" 2 2 F_L_of) (G_L_say : Fnk P w K mg base "_law_say" 3 4 F_L_say) (M : MgB mg) (m : mg "_law_body" = some (.ref f)) (F : FnP K "_law_body" s_L_body f fd) : Fnk P w K mg base "_law_body" 63 7 F_L_body := okR_L_body G_L_take G_L_of G_L_say M m F 60
/-! ### _law_kind -/
abbrev s_L_kind : Stmt := top 43
def fb_L_kind : EM O := (sSeq (sSet 7 (eLst (eCons (eCallM F_L_of (eCons (eVar 0) (eOne (eLst (eCons (eCon (.str (Str.ofString "a"))) (eCons (eCon (.str (Str.ofString "k"))) (eOne (eCon (.str (Str.ofString "key")))))))))) (eOne (eCallM F_L_of (eCons (eVar 0) (eOne (eLst (eCons (eCon (.str (Str.ofString "b"))) (eCons (eCon (.str (Str.ofString "v"))) (eOne (eCon (.str (Str.ofString "value")))))))))))))) (sSeq (sSet 7 (eCut (eVar 7) oNone (oInt (eCallM F_L_of (eCons (eVar 0) (eOne (eLst (eCons (eCon (.int 0)) (eCons (eCon (.int 1)) (eCons (eCon (.int 1)) (eCons (eCon (.int 1)) (eCons (eCon (.int 2)) (eOne (eCon (.int 2))))))))))))))) (sSeq (sSet 8 (eOp2 dAdd (eVar 7) (eOpN dList (eOne (eVar 6))))) (sSeq (sSet 9 (eCallM F_L_body (eCons (eVar 0) (eCons (eVar 1) (eCons (eVar 8) (eCons (eLst eNil) (eCons (eOp2 dAdd (eCon (.int 1)) (eCallM F_L_take (eCons (eVar 0) (eOne (eVar 5))))) (eCons (eVar 4) (eOne (eVar 3)))))))))) (sRet (eTup (eCons (eVar 2) (eCons (eOpN dTuple (eOne (eVar 7))) (eOne (eVar 9))))))))))
def F_L_kind : EM R := runF 10 7 fb_L_kind
theorem sc_L_kind : FnScope ["_law_box_here", "_law_fields_so", "_law_name_so", "_law_words_so", "_law_lets_so", "_law_most_tests", "_law_consts_so", "_law_names_so", "_law_terms_so", "_law_body_so"] ["_law_box_here", "_law_fields_so", "_law_name_so", "_law_words_so", "_law_lets_so", "_law_most_tests", "_law_consts_so"] (defScope s_L_kind) := ⟨rfl, rfl, rfl, by decide +kernel, rfl, by decide +kernel, by decide +kernel⟩
theorem ok_L_kind {f : Addr} {fd : FuncData} (G_L_of : Fnk P w K mg base "_law_of" 2 2 F_L_of) (G_L_body : Fnk P w K mg base "_law_body" 63 7 F_L_body) (G_L_take : Fnk P w K mg base "_law_take" 1 2 F_L_take) (M : MgB mg) (m : mg "_law_kind" = some (.ref f)) (F : FnP K "_law_kind" s_L_kind f fd) : Fnk P w K mg base "_law_kind" 64 7 F_L_kind :=
  fnk_ok (N := ["_law_box_here", "_law_fields_so", "_law_name_so", "_law_words_so", "_law_lets_so", "_law_most_tests", "_law_consts_so", "_law_names_so", "_law_terms_so", "_law_body_so"]) (ps := ["_law_box_here", "_law_fields_so", "_law_name_so", "_law_words_so", "_law_lets_so", "_law_most_tests", "_law_consts_so"]) m F sc_L_kind (fun _ _ _ _ _ _ us hl => match us, hl with | [_, _, _, _, _, _, _], _ => rfl) fun cdv A outer s H E hr => (ds_cons (ds_set (i := 7) sc_L_kind.nd rfl (by first | exact Or.inl rfl | exact Or.inr rfl) (by first | exact Or.inl rfl | exact Or.inr rfl) rfl (d_lst (dc (dcallM G_L_of hr (dc (dv 0) (dl (d_lst (dc dstr (dc dstr (dl dstr))))))) (dl (dcallM G_L_of hr (dc (dv 0) (dl (d_lst (dc dstr (dc dstr (dl dstr))))))))))) (ds_cons (ds_set (i := 7) sc_L_kind.nd rfl (by first | exact Or.inl rfl | exact Or.inr rfl) (by first | exact Or.inl rfl | exact Or.inr rfl) rfl (d_cut (dv 7) do_none (do_some (dcallM G_L_of hr (dc (dv 0) (dl (d_lst (dc dint (dc dint (dc dint (dc dint (dc dint (dl dint))))))))))))) (ds_cons (ds_set (i := 8) sc_L_kind.nd rfl (by first | exact Or.inl rfl | exact Or.inr rfl) (by first | exact Or.inl rfl | exact Or.inr rfl) rfl (dop r_add (dv 7) (dT r_list M.list (dl (dv 6)) (hv := bt_list)))) (ds_cons (ds_set (i := 9) sc_L_kind.nd rfl (by first | exact Or.inl rfl | exact Or.inr rfl) (by first | exact Or.inl rfl | exact Or.inr rfl) rfl (dcallM G_L_body hr (dc (dv 0) (dc (dv 1) (dc (dv 8) (dc (d_lst dn) (dc (dop r_add dint (dcallM G_L_take hr (dc (dv 0) (dl (dv 5))))) (dc (dv 4) (dl (dv 3)))))))))) (ds_one (ds_ret (d_tup (dc (dv 2) (dc (dT r_tuple M.tuple (dl (dv 7)) (hv := bt_tuple)) (dl (dv 9)))))))))))
/-! ### _law_is_name -/
abbrev s_L_is_name : Stmt := top 44
def fb_L_is_name : EM O := (sSeq (eIf (tOr2 (tNo (eTruth (eOpN dIsi (eCons (eVar 0) (eOne (eCon (.ty "str"))))))) (tNo (tChn dLt dLt (eCon (.int 0)) (eOpN dLen (eOne (eVar 0))) (eCon (.int 9))))) (sRet (eCon (.bl false))) (eRet .nx)) (sRet (eOpN dAll (eOne (eLc (iAny (eVar 0)) (gPut 1) (eRet true) (eOp2 dIn (eVar 1) (eCon (.str (Str.ofString "abcdefghijklmnopqrstuvwxyz")))) [1])))))
def F_L_is_name : EM R := runF 2 1 fb_L_is_name
theorem sc_L_is_name : FnScope ["_law_matter", "_law_sign"] ["_law_matter"] (defScope s_L_is_name) := ⟨rfl, rfl, rfl, by decide +kernel, rfl, by decide +kernel, by decide +kernel⟩
theorem ok_L_is_name {f : Addr} {fd : FuncData} (M : MgB mg) (m : mg "_law_is_name" = some (.ref f)) (F : FnP K "_law_is_name" s_L_is_name f fd) : Fnk P w K mg base "_law_is_name" 1 1 F_L_is_name :=
  fnk_ok (N := ["_law_matter", "_law_sign"]) (ps := ["_law_matter"]) m F sc_L_is_name (fun _ _ _ _ _ _ us hl => match us, hl with | [_], _ => rfl) fun cdv A outer s H E hr => (ds_cons (ds_if (PW.pt (dw_or (dt_not (tv (dB r_isi M.isinstance (dc (dv 0) (dl (dty "str" M.str (hv := bt_str)))) (hv := bt_isinstance)))) (dw_or1 (dt_not (tchain r_lt r_lt dint (dB r_len M.len (dl (dv 0)) (hv := bt_len)) dint))))) (ds_one (ds_ret dbl)) ds_nil) (ds_one (ds_ret (dB (r_all rfl) M.all (dl (d_lc (own := [("_law_sign", 1)]) rfl sc_L_is_name.nd (di_any (dv 0)) (blkOk_by (own := [("_law_sign", 1)]) (N := ["_law_matter", "_law_sign"]) (sc := defScope s_L_is_name) (by decide +kernel)) (by decide) (fun _ _ _ _ _ => (dg_name (i := 1) sc_L_is_name.nd rfl (by first | exact Or.inl rfl | exact Or.inr rfl) (by first | exact Or.inl rfl | exact Or.inr rfl))) (fun _ _ _ _ _ => dts_nil) (fun _ _ _ _ _ => (dcmp (r_in hr.units) (dv 1) dstr)))) (hv := bt_all)))))
/-! ### _law_is_term -/
abbrev s_L_is_term : Stmt := top 45
def fb_L_is_term : EM O := (sRet (eOr2 (eCallV F_L_is_number (eOne (eVar 0))) (eAnd2 (eOpN dIsi (eCons (eVar 0) (eOne (eCon (.ty "str"))))) (eOp2 dIn (eVar 0) (eVar 1)))))
def F_L_is_term : EM R := runF 2 2 fb_L_is_term
theorem sc_L_is_term : FnScope ["_law_matter", "_law_names_so"] ["_law_matter", "_law_names_so"] (defScope s_L_is_term) := ⟨rfl, rfl, rfl, by decide +kernel, rfl, by decide +kernel, by decide +kernel⟩
theorem ok_L_is_term {f : Addr} {fd : FuncData} (G_L_is_number : Fnk P w K mg base "_law_is_number" 1 1 F_L_is_number) (M : MgB mg) (m : mg "_law_is_term" = some (.ref f)) (F : FnP K "_law_is_term" s_L_is_term f fd) : Fnk P w K mg base "_law_is_term" 2 2 F_L_is_term :=
  fnk_ok (N := ["_law_matter", "_law_names_so"]) (ps := ["_law_matter", "_law_names_so"]) m F sc_L_is_term (fun _ _ _ _ _ _ us hl => match us, hl with | [_, _], _ => rfl) fun cdv A outer s H E hr => (ds_one (ds_ret (d_or (dcall G_L_is_number hr (dl (dv 0))) (d_one (d_and (dB r_isi M.isinstance (dc (dv 0) (dl (dty "str" M.str (hv := bt_str)))) (hv := bt_isinstance)) (d_one (dcmp (r_in hr.units) (dv 0) (dv 1))))))))
/-! ### _law_is_change -/
abbrev s_L_is_change : Stmt := top 46
def fb_L_is_change : EM O := (sSeq (eIf (tOr2 (tNo (eTruth (eOpN dIsi (eCons (eVar 1) (eOne (eCon (.ty "tuple"))))))) (tOr2 (tCmp dNotIn (eOpN dLen (eOne (eVar 1))) (eTup (eCons (eCon (.int 2)) (eCons (eCon (.int 3)) (eOne (eCon (.int 4))))))) (tNo (eTruth (eCallV F_L_is_term (eCons (eOp2 dIx (eVar 1) (eCon (.int 1))) (eOne (eVar 2)))))))) (sRet (eCon (.bl false))) (eRet .nx)) (sSeq (eIf (tCmp dEq (eOpN dLen (eOne (eVar 1))) (eCon (.int 2))) (sRet (eOp2 dEq (eOp2 dIx (eVar 1) (eCon (.int 0))) (eCon (.str (Str.ofString "drop"))))) (eRet .nx)) (sSeq (eIf (tCmp dEq (eOpN dLen (eOne (eVar 1))) (eCon (.int 4))) (sRet (eAnd2 (eOp2 dEq (eOp2 dIx (eVar 1) (eCon (.int 0))) (eCon (.str (Str.ofString "set")))) (eAnd2 (eOp2 dIn (eOp2 dIx (eVar 1) (eCon (.int 2))) (eVar 0)) (eCallV F_L_is_term (eCons (eOp2 dIx (eVar 1) (eCon (.int 3))) (eOne (eVar 2))))))) (eRet .nx)) (sSeq (eIf (tOr2 (tCmp dNe (eOp2 dIx (eVar 1) (eCon (.int 0))) (eCon (.str (Str.ofString "make")))) (tOr2 (tNo (eTruth (eOpN dIsi (eCons (eOp2 dIx (eVar 1) (eCon (.int 2))) (eOne (eCon (.ty "tuple"))))))) (tCmp dNe (eOpN dLen (eOne (eOp2 dIx (eVar 1) (eCon (.int 2))))) (eOpN dLen (eOne (eVar 0)))))) (sRet (eCon (.bl false))) (eRet .nx)) (sRet (eOpN dAll (eOne (eLc (iAny (eOp2 dIx (eVar 1) (eCon (.int 2)))) (gPut 3) (eRet true) (eCallV F_L_is_term (eCons (eVar 3) (eOne (eVar 2)))) [3]))))))))
def F_L_is_change : EM R := runF 4 3 fb_L_is_change
theorem sc_L_is_change : FnScope ["_law_fields_so", "_law_matter", "_law_names_so", "_law_bit"] ["_law_fields_so", "_law_matter", "_law_names_so"] (defScope s_L_is_change) := ⟨rfl, rfl, rfl, by decide +kernel, rfl, by decide +kernel, by decide +kernel⟩
theorem ok_L_is_change {f : Addr} {fd : FuncData} (G_L_is_term : Fnk P w K mg base "_law_is_term" 2 2 F_L_is_term) (M : MgB mg) (m : mg "_law_is_change" = some (.ref f)) (F : FnP K "_law_is_change" s_L_is_change f fd) : Fnk P w K mg base "_law_is_change" 3 3 F_L_is_change :=
  fnk_ok (N := ["_law_fields_so", "_law_matter", "_law_names_so", "_law_bit"]) (ps := ["_law_fields_so", "_law_matter", "_law_names_so"]) m F sc_L_is_change (fun _ _ _ _ _ _ us hl => match us, hl with | [_, _, _], _ => rfl) fun cdv A outer s H E hr => (ds_cons (ds_if (PW.pt (dw_or (dt_not (tv (dB r_isi M.isinstance (dc (dv 1) (dl (dty "tuple" M.tuple (hv := bt_tuple)))) (hv := bt_isinstance)))) (dw_or (tcmp (r_notIn hr.units) (dB r_len M.len (dl (dv 1)) (hv := bt_len)) (d_tup (dc dint (dc dint (dl dint))))) (dw_or1 (dt_not (tv (dcall G_L_is_term hr (dc (dix (dv 1) dint) (dl (dv 2)))))))))) (ds_one (ds_ret dbl)) ds_nil) (ds_cons (ds_if (tcmp (r_eq hr.units) (dB r_len M.len (dl (dv 1)) (hv := bt_len)) dint) (ds_one (ds_ret (dcmp (r_eq hr.units) (dix (dv 1) dint) dstr))) ds_nil) (ds_cons (ds_if (tcmp (r_eq hr.units) (dB r_len M.len (dl (dv 1)) (hv := bt_len)) dint) (ds_one (ds_ret (d_and (dcmp (r_eq hr.units) (dix (dv 1) dint) dstr) (d_and (dcmp (r_in hr.units) (dix (dv 1) dint) (dv 0)) (d_one (dcall G_L_is_term hr (dc (dix (dv 1) dint) (dl (dv 2))))))))) ds_nil) (ds_cons (ds_if (PW.pt (dw_or (tcmp (r_ne hr.units) (dix (dv 1) dint) dstr) (dw_or (dt_not (tv (dB r_isi M.isinstance (dc (dix (dv 1) dint) (dl (dty "tuple" M.tuple (hv := bt_tuple)))) (hv := bt_isinstance)))) (dw_or1 (tcmp (r_ne hr.units) (dB r_len M.len (dl (dix (dv 1) dint)) (hv := bt_len)) (dB r_len M.len (dl (dv 0)) (hv := bt_len))))))) (ds_one (ds_ret dbl)) ds_nil) (ds_one (ds_ret (dB (r_all rfl) M.all (dl (d_lc (own := [("_law_bit", 3)]) rfl sc_L_is_change.nd (di_any (dix (dv 1) dint)) (blkOk_by (own := [("_law_bit", 3)]) (N := ["_law_fields_so", "_law_matter", "_law_names_so", "_law_bit"]) (sc := defScope s_L_is_change) (by decide +kernel)) (by decide) (fun _ _ _ _ _ => (dg_name (i := 3) sc_L_is_change.nd rfl (by first | exact Or.inl rfl | exact Or.inr rfl) (by first | exact Or.inl rfl | exact Or.inr rfl))) (fun _ _ _ _ _ => dts_nil) (fun _ _ _ _ _ => (dcall G_L_is_term hr (dc (dv 3) (dl (dv 2))))))) (hv := bt_all))))))))
/-! ### _law_is_say -/
abbrev s_L_is_say : Stmt := top 47
def fb_L_is_say : EM O := (sSeq (eIf (tOr2 (tNo (eTruth (eCallV F_L_is_name (eOne (eOp2 dIx (eVar 1) (eCon (.int 2))))))) (tNo (eTruth (eOpN dIsi (eCons (eOp2 dIx (eVar 1) (eCon (.int 1))) (eOne (eCon (.ty "tuple")))))))) (sRet (eCon (.bl false))) (eRet .nx)) (sRet (eOpN dAll (eOne (eLc (iAny (eOp2 dIx (eVar 1) (eCon (.int 1)))) (gPut 3) (eRet true) (eCallV F_L_is_change (eCons (eVar 0) (eCons (eVar 3) (eOne (eVar 2))))) [3])))))
def F_L_is_say : EM R := runF 4 3 fb_L_is_say
theorem sc_L_is_say : FnScope ["_law_fields_so", "_law_matter", "_law_names_so", "_law_own"] ["_law_fields_so", "_law_matter", "_law_names_so"] (defScope s_L_is_say) := ⟨rfl, rfl, rfl, by decide +kernel, rfl, by decide +kernel, by decide +kernel⟩
theorem ok_L_is_say {f : Addr} {fd : FuncData} (G_L_is_name : Fnk P w K mg base "_law_is_name" 1 1 F_L_is_name) (G_L_is_change : Fnk P w K mg base "_law_is_change" 3 3 F_L_is_change) (M : MgB mg) (m : mg "_law_is_say" = some (.ref f)) (F : FnP K "_law_is_say" s_L_is_say f fd) : Fnk P w K mg base "_law_is_say" 4 3 F_L_is_say :=
  fnk_ok (N := ["_law_fields_so", "_law_matter", "_law_names_so", "_law_own"]) (ps := ["_law_fields_so", "_law_matter", "_law_names_so"]) m F sc_L_is_say (fun _ _ _ _ _ _ us hl => match us, hl with | [_, _, _], _ => rfl) fun cdv A outer s H E hr => (ds_cons (ds_if (PW.pt (dw_or (dt_not (tv (dcall G_L_is_name hr (dl (dix (dv 1) dint))))) (dw_or1 (dt_not (tv (dB r_isi M.isinstance (dc (dix (dv 1) dint) (dl (dty "tuple" M.tuple (hv := bt_tuple)))) (hv := bt_isinstance))))))) (ds_one (ds_ret dbl)) ds_nil) (ds_one (ds_ret (dB (r_all rfl) M.all (dl (d_lc (own := [("_law_own", 3)]) rfl sc_L_is_say.nd (di_any (dix (dv 1) dint)) (blkOk_by (own := [("_law_own", 3)]) (N := ["_law_fields_so", "_law_matter", "_law_names_so", "_law_own"]) (sc := defScope s_L_is_say) (by decide +kernel)) (by decide) (fun _ _ _ _ _ => (dg_name (i := 3) sc_L_is_say.nd rfl (by first | exact Or.inl rfl | exact Or.inr rfl) (by first | exact Or.inl rfl | exact Or.inr rfl))) (fun _ _ _ _ _ => dts_nil) (fun _ _ _ _ _ => (dcall G_L_is_change hr (dc (dv 0) (dc (dv 3) (dl (dv 2)))))))) (hv := bt_all)))))
/-! ### _law_is_body -/
abbrev s_L_is_body : Stmt := top 48
def fb_L_is_body (F_L_is_body : EM R) : EM O := (sSeq (eIf (tOr2 (tNo (eTruth (eOpN dIsi (eCons (eVar 1) (eOne (eCon (.ty "tuple"))))))) (tOr2 (tCmp dEq (eVar 1) (eTup eNil)) (tNo (eTruth (eOpN dIsi (eCons (eOp2 dIx (eVar 1) (eCon (.int 0))) (eOne (eCon (.ty "str"))))))))) (sRet (eCon (.bl false))) (eRet .nx)) (sSeq (sPar 4 5 (eCons (eOp2 dIx (eVar 1) (eCon (.int 0))) (eOne (eOpN dLen (eOne (eVar 1)))))) (sSeq (eIf (tCmp dEq (eVar 4) (eCon (.str (Str.ofString "say")))) (sRet (eAnd2 (eOp2 dEq (eVar 5) (eCon (.int 3))) (eCallV F_L_is_say (eCons (eVar 0) (eCons (eVar 1) (eOne (eVar 2))))))) (eRet .nx)) (sSeq (eIf (tCmp dEq (eVar 4) (eCon (.str (Str.ofString "has")))) (sSeq (eIf (tOr2 (tCmp dNe (eVar 5) (eCon (.int 4))) (tNo (eTruth (eCallV F_L_is_term (eCons (eOp2 dIx (eVar 1) (eCon (.int 1))) (eOne (eVar 2))))))) (sRet (eCon (.bl false))) (eRet .nx)) (sSeq (eIf (tNo (eTruth (eCallV F_L_is_body (eCons (eVar 0) (eCons (eOp2 dIx (eVar 1) (eCon (.int 2))) (eCons (eVar 2) (eOne (eOp2 dAdd (eVar 3) (eLst (eOne (eOp2 dIx (eVar 1) (eCon (.int 1))))))))))))) (sRet (eCon (.bl false))) (eRet .nx)) (sRet (eCallV F_L_is_body (eCons (eVar 0) (eCons (eOp2 dIx (eVar 1) (eCon (.int 3))) (eCons (eVar 2) (eOne (eVar 3))))))))) (eRet .nx)) (sSeq (eIf (tCmp dEq (eVar 4) (eCon (.str (Str.ofString "is")))) (sSeq (eIf (tOr2 (tCmp dNe (eVar 5) (eCon (.int 6))) (tOr2 (tNo (eTruth (eCallV F_L_is_term (eCons (eOp2 dIx (eVar 1) (eCon (.int 1))) (eOne (eVar 2)))))) (tNo (eTruth (eCallV F_L_is_term (eCons (eOp2 dIx (eVar 1) (eCon (.int 3))) (eOne (eVar 2)))))))) (sRet (eCon (.bl false))) (eRet .nx)) (sSeq (eIf (tOr2 (tCmp dNotIn (eOp2 dIx (eVar 1) (eCon (.int 1))) (eVar 3)) (tCmp dNotIn (eOp2 dIx (eVar 1) (eCon (.int 2))) (eVar 0))) (sRet (eCon (.bl false))) (eRet .nx)) (sRet (eOpN dAll (eOne (eLc (iAny (eCut (eVar 1) (oInt (eCon (.int 4))) oNone)) (gPut 6) (eRet true) (eCallV F_L_is_body (eCons (eVar 0) (eCons (eVar 6) (eCons (eVar 2) (eOne (eVar 3)))))) [6])))))) (eRet .nx)) (sSeq (eIf (tOr2 (tCmp dNe (eVar 4) (eCon (.str (Str.ofString "let")))) (tOr2 (tCmp dNe (eVar 5) (eCon (.int 5))) (tOr2 (tNo (eTruth (eCallV F_L_is_name (eOne (eOp2 dIx (eVar 1) (eCon (.int 1))))))) (tCmp dIn (eOp2 dIx (eVar 1) (eCon (.int 1))) (eVar 2))))) (sRet (eCon (.bl false))) (eRet .nx)) (sSeq (eIf (tOr2 (tNo (eTruth (eCallV F_L_is_term (eCons (eOp2 dIx (eVar 1) (eCon (.int 2))) (eOne (eVar 2)))))) (tOr2 (tCmp dNotIn (eOp2 dIx (eVar 1) (eCon (.int 2))) (eVar 3)) (tCmp dNotIn (eOp2 dIx (eVar 1) (eCon (.int 3))) (eVar 0)))) (sRet (eCon (.bl false))) (eRet .nx)) (sRet (eCallV F_L_is_body (eCons (eVar 0) (eCons (eOp2 dIx (eVar 1) (eCon (.int 4))) (eCons (eOp2 dAdd (eVar 2) (eLst (eOne (eOp2 dIx (eVar 1) (eCon (.int 1)))))) (eOne (eVar 3))))))))))))))
def FR_L_is_body : Nat → EM R
  | 0 => fun _ => none
  | n + 1 => runF 7 4 (fb_L_is_body (FR_L_is_body n))
abbrev F_L_is_body : EM R := FR_L_is_body 60
theorem sc_L_is_body : FnScope ["_law_fields_so", "_law_matter", "_law_names_so", "_law_sure_so", "_law_word_so", "_law_size_so", "_law_own"] ["_law_fields_so", "_law_matter", "_law_names_so", "_law_sure_so"] (defScope s_L_is_body) := ⟨rfl, rfl, rfl, by decide +kernel, rfl, by decide +kernel, by decide +kernel⟩
theorem okR_L_is_body {f : Addr} {fd : FuncData} (G_L_is_say : Fnk P w K mg base "_law_is_say" 4 3 F_L_is_say) (G_L_is_term : Fnk P w K mg base "_law_is_term" 2 2 F_L_is_term) (G_L_is_name : Fnk P w K mg base "_law_is_name" 1 1 F_L_is_name) (M : MgB mg) (m : mg "_law_is_body" = some (.ref f)) (F : FnP K "_law_is_body" s_L_is_body f fd) : ∀ n, Fnk P w K mg base "_law_is_body" (4 + n) 4 (FR_L_is_body n)
  | 0 => fnk_none (N := ["_law_fields_so", "_law_matter", "_law_names_so", "_law_sure_so", "_law_word_so", "_law_size_so", "_law_own"]) (ps := ["_law_fields_so", "_law_matter", "_law_names_so", "_law_sure_so"]) m F (fun _ _ _ _ _ _ us hl => match us, hl with | [_, _, _, _], _ => rfl)
  | n + 1 => by
    have G_L_is_body := okR_L_is_body G_L_is_say G_L_is_term G_L_is_name M m F n
    exact fnk_ok (k := 4 + n) (N := ["_law_fields_so", "_law_matter", "_law_names_so", "_law_sure_so", "_law_word_so", "_law_size_so", "_law_own"]) (ps := ["_law_fields_so", "_law_matter", "_law_names_so", "_law_sure_so"]) m F sc_L_is_body (fun _ _ _ _ _ _ us hl => match us, hl with | [_, _, _, _], _ => rfl) fun cdv A outer s H E hr => (ds_cons (ds_if (PW.pt (dw_or (dt_not (tv (dB r_isi M.isinstance (dc (dv 1) (dl (dty "tuple" M.tuple (hv := bt_tuple)))) (hv := bt_isinstance)))) (dw_or (tcmp (r_eq hr.units) (dv 1) (d_tup dn)) (dw_or1 (dt_not (tv (dB r_isi M.isinstance (dc (dix (dv 1) dint) (dl (dty "str" M.str (hv := bt_str)))) (hv := bt_isinstance)))))))) (ds_one (ds_ret dbl)) ds_nil) (ds_cons (ds_par (i := 4) (j := 5) rfl sc_L_is_body.nd rfl rfl (by decide) rfl rfl (dc (dix (dv 1) dint) (dl (dB r_len M.len (dl (dv 1)) (hv := bt_len)))) rfl) (ds_cons (ds_if (tcmp (r_eq hr.units) (dv 4) dstr) (ds_one (ds_ret (d_and (dcmp (r_eq hr.units) (dv 5) dint) (d_one (dcall G_L_is_say hr (dc (dv 0) (dc (dv 1) (dl (dv 2))))))))) ds_nil) (ds_cons (ds_if (tcmp (r_eq hr.units) (dv 4) dstr) (ds_cons (ds_if (PW.pt (dw_or (tcmp (r_ne hr.units) (dv 5) dint) (dw_or1 (dt_not (tv (dcall G_L_is_term hr (dc (dix (dv 1) dint) (dl (dv 2))))))))) (ds_one (ds_ret dbl)) ds_nil) (ds_cons (ds_if (dt_not (tv (dcall G_L_is_body hr (dc (dv 0) (dc (dix (dv 1) dint) (dc (dv 2) (dl (dop r_add (dv 3) (d_lst (dl (dix (dv 1) dint))))))))))) (ds_one (ds_ret dbl)) ds_nil) (ds_one (ds_ret (dcall G_L_is_body hr (dc (dv 0) (dc (dix (dv 1) dint) (dc (dv 2) (dl (dv 3)))))))))) ds_nil) (ds_cons (ds_if (tcmp (r_eq hr.units) (dv 4) dstr) (ds_cons (ds_if (PW.pt (dw_or (tcmp (r_ne hr.units) (dv 5) dint) (dw_or (dt_not (tv (dcall G_L_is_term hr (dc (dix (dv 1) dint) (dl (dv 2)))))) (dw_or1 (dt_not (tv (dcall G_L_is_term hr (dc (dix (dv 1) dint) (dl (dv 2)))))))))) (ds_one (ds_ret dbl)) ds_nil) (ds_cons (ds_if (PW.pt (dw_or (tcmp (r_notIn hr.units) (dix (dv 1) dint) (dv 3)) (dw_or1 (tcmp (r_notIn hr.units) (dix (dv 1) dint) (dv 0))))) (ds_one (ds_ret dbl)) ds_nil) (ds_one (ds_ret (dB (r_all rfl) M.all (dl (d_lc (own := [("_law_own", 6)]) rfl sc_L_is_body.nd (di_any (d_cut (dv 1) (do_some dint) do_none)) (blkOk_by (own := [("_law_own", 6)]) (N := ["_law_fields_so", "_law_matter", "_law_names_so", "_law_sure_so", "_law_word_so", "_law_size_so", "_law_own"]) (sc := defScope s_L_is_body) (by decide +kernel)) (by decide) (fun _ _ _ _ _ => (dg_name (i := 6) sc_L_is_body.nd rfl (by first | exact Or.inl rfl | exact Or.inr rfl) (by first | exact Or.inl rfl | exact Or.inr rfl))) (fun _ _ _ _ _ => dts_nil) (fun _ _ _ _ _ => (dcall G_L_is_body hr (dc (dv 0) (dc (dv 6) (dc (dv 2) (dl (dv 3))))))))) (hv := bt_all)))))) ds_nil) (ds_cons (ds_if (PW.pt (dw_or (tcmp (r_ne hr.units) (dv 4) dstr) (dw_or (tcmp (r_ne hr.units) (dv 5) dint) (dw_or (dt_not (tv (dcall G_L_is_name hr (dl (dix (dv 1) dint))))) (dw_or1 (tcmp (r_in hr.units) (dix (dv 1) dint) (dv 2))))))) (ds_one (ds_ret dbl)) ds_nil) (ds_cons (ds_if (PW.pt (dw_or (dt_not (tv (dcall G_L_is_term hr (dc (dix (dv 1) dint) (dl (dv 2)))))) (dw_or (tcmp (r_notIn hr.units) (dix (dv 1) dint) (dv 3)) (dw_or1 (tcmp (r_notIn hr.units) (dix (dv 1) dint) (dv 0)))))) (ds_one (ds_ret dbl)) ds_nil) (ds_one (ds_ret (dcall G_L_is_body hr (dc (dv 0) (dc (dix (dv 1) dint) (dc (dop r_add (dv 2) (d_lst (dl (dix (dv 1) dint)))) (dl (dv 3)))))))))))))))
theorem ok_L_is_body {f : Addr} {fd : FuncData} (G_L_is_say : Fnk P w K mg base "_law_is_say" 4 3 F_L_is_say) (G_L_is_term : Fnk P w K mg base "_law_is_term" 2 2 F_L_is_term) (G_L_is_name : Fnk P w K mg base "_law_is_name" 1 1 F_L_is_name) (M : MgB mg) (m : mg "_law_is_body" = some (.ref f)) (F : FnP K "_law_is_body" s_L_is_body f fd) : Fnk P w K mg base "_law_is_body" 64 4 F_L_is_body := okR_L_is_body G_L_is_say G_L_is_term G_L_is_name M m F 60
/-! ### _law_is_kind -/
abbrev s_L_is_kind : Stmt := top 49
def fb_L_is_kind : EM O := (sSeq (eIf (tOr2 (tNo (eTruth (eOpN dIsi (eCons (eVar 1) (eOne (eCon (.ty "tuple"))))))) (tOr2 (tCmp dNe (eOpN dLen (eOne (eVar 1))) (eCon (.int 3))) (tNo (eTruth (eCallV F_L_is_name (eOne (eOp2 dIx (eVar 1) (eCon (.int 0))))))))) (sRet (eCon (.bl false))) (eRet .nx)) (sSeq (sSet 2 (eOp2 dIx (eVar 1) (eCon (.int 1)))) (sSeq (eIf (tOr2 (tNo (eTruth (eOpN dIsi (eCons (eVar 2) (eOne (eCon (.ty "tuple"))))))) (tOr2 (tCmp dGt (eOpN dLen (eOne (eVar 2))) (eCon (.int 2))) (tNo (eTruth (eOpN dAll (eOne (eLc (iAny (eVar 2)) (gPut 3) (eRet true) (eCallV F_L_is_name (eOne (eVar 3))) [3]))))))) (sRet (eCon (.bl false))) (eRet .nx)) (sRet (eAnd2 (eOp2 dEq (eLenSet (eVar 2)) (eOpN dLen (eOne (eVar 2)))) (eCallV F_L_is_body (eCons (eVar 0) (eCons (eOp2 dIx (eVar 1) (eCon (.int 2))) (eCons (eOpN dList (eOne (eVar 2))) (eOne (eLst eNil)))))))))))
def F_L_is_kind : EM R := runF 4 2 fb_L_is_kind
theorem sc_L_is_kind : FnScope ["_law_fields_so", "_law_matter", "_law_names_so", "_law_own"] ["_law_fields_so", "_law_matter"] (defScope s_L_is_kind) := ⟨rfl, rfl, rfl, by decide +kernel, rfl, by decide +kernel, by decide +kernel⟩
theorem ok_L_is_kind {f : Addr} {fd : FuncData} (G_L_is_name : Fnk P w K mg base "_law_is_name" 1 1 F_L_is_name) (G_L_is_body : Fnk P w K mg base "_law_is_body" 64 4 F_L_is_body) (M : MgB mg) (m : mg "_law_is_kind" = some (.ref f)) (F : FnP K "_law_is_kind" s_L_is_kind f fd) : Fnk P w K mg base "_law_is_kind" 65 2 F_L_is_kind :=
  fnk_ok (N := ["_law_fields_so", "_law_matter", "_law_names_so", "_law_own"]) (ps := ["_law_fields_so", "_law_matter"]) m F sc_L_is_kind (fun _ _ _ _ _ _ us hl => match us, hl with | [_, _], _ => rfl) fun cdv A outer s H E hr => (ds_cons (ds_if (PW.pt (dw_or (dt_not (tv (dB r_isi M.isinstance (dc (dv 1) (dl (dty "tuple" M.tuple (hv := bt_tuple)))) (hv := bt_isinstance)))) (dw_or (tcmp (r_ne hr.units) (dB r_len M.len (dl (dv 1)) (hv := bt_len)) dint) (dw_or1 (dt_not (tv (dcall G_L_is_name hr (dl (dix (dv 1) dint))))))))) (ds_one (ds_ret dbl)) ds_nil) (ds_cons (ds_set (i := 2) sc_L_is_kind.nd rfl (by first | exact Or.inl rfl | exact Or.inr rfl) (by first | exact Or.inl rfl | exact Or.inr rfl) rfl (dix (dv 1) dint)) (ds_cons (ds_if (PW.pt (dw_or (dt_not (tv (dB r_isi M.isinstance (dc (dv 2) (dl (dty "tuple" M.tuple (hv := bt_tuple)))) (hv := bt_isinstance)))) (dw_or (tcmp r_gt (dB r_len M.len (dl (dv 2)) (hv := bt_len)) dint) (dw_or1 (dt_not (tv (dB (r_all rfl) M.all (dl (d_lc (own := [("_law_own", 3)]) rfl sc_L_is_kind.nd (di_any (dv 2)) (blkOk_by (own := [("_law_own", 3)]) (N := ["_law_fields_so", "_law_matter", "_law_names_so", "_law_own"]) (sc := defScope s_L_is_kind) (by decide +kernel)) (by decide) (fun _ _ _ _ _ => (dg_name (i := 3) sc_L_is_kind.nd rfl (by first | exact Or.inl rfl | exact Or.inr rfl) (by first | exact Or.inl rfl | exact Or.inr rfl))) (fun _ _ _ _ _ => dts_nil) (fun _ _ _ _ _ => (dcall G_L_is_name hr (dl (dv 3)))))) (hv := bt_all)))))))) (ds_one (ds_ret dbl)) ds_nil) (ds_one (ds_ret (d_and (dcmp (r_eq hr.units) (d_lenSet M.len M.set (dv 2)) (dB r_len M.len (dl (dv 2)) (hv := bt_len))) (d_one (dcall G_L_is_body hr (dc (dv 0) (dc (dix (dv 1) dint) (dc (dT r_list M.list (dl (dv 2)) (hv := bt_list)) (dl (d_lst dn)))))))))))))
/-! ### _law_odd -/
abbrev s_L_odd : Stmt := top 50
def fb_L_odd : EM O := (sSeq (sSet 2 (eLst (eCons (eCon .non) (eCons (eCon (.bl true)) (eCons (eCon (.bl false)) (eCons (eCon (.int 0)) (eCons (eCon (.int 7)) (eCons (eOp1 dNeg (eCon (.int 2))) (eCons (eOp2 dPow (eCon (.int 10)) (eCon (.int 30))) (eCons (eCon (.str (Str.ofString ""))) (eCons (eCon (.str (Str.ofString "a"))) (eCons (eCon (.str (Str.ofString "k"))) (eCons (eCon (.str (Str.ofString "x"))) (eCons (eCon (.str (Str.ofString "A"))) (eCons (eCon (.str (Str.ofString "abcdefgh"))) (eCons (eCon (.str (Str.ofString "abcdefghi"))) (eCons (eCon (.str (Str.ofString "a b"))) (eOne (eCon (.str (Str.ofString "say"))))))))))))))))))))) (sSeq (sSet 2 (eOp2 dAdd (eVar 2) (eLst (eCons (eTup eNil) (eCons (eLst eNil) (eCons (eTup (eCons (eCon (.str (Str.ofString "say"))) (eCons (eTup eNil) (eOne (eCon (.str (Str.ofString "a"))))))) (eCons (eLst (eCons (eCon (.str (Str.ofString "say"))) (eCons (eLst eNil) (eOne (eCon (.str (Str.ofString "a"))))))) (eCons (eTup (eCons (eCon (.str (Str.ofString "drop"))) (eOne (eCon (.str (Str.ofString "k")))))) (eCons (eTup (eCons (eCon (.str (Str.ofString "has"))) (eOne (eCon (.str (Str.ofString "k")))))) (eCons (eTup (eOne (eCon (.str (Str.ofString "k"))))) (eOne (eTup (eCons (eCon (.str (Str.ofString "k"))) (eOne (eCon (.str (Str.ofString "k"))))))))))))))))) (sSeq (sSet 2 (eOp2 dAdd (eVar 2) (eLst (eCons (eCon (.str (Str.ofString "has"))) (eCons (fun env => some (.new (.dct [] []), env)) (eCons (eDict1 (eCon (.int 1)) (eTup (eOne (eCon (.int 2))))) (eCons (eCon (.str (Str.ofString "make"))) (eCons (eCon (.str (Str.ofString "set"))) (eOne (eCon (.str (Str.ofString "let")))))))))))) (sSeq (sExp (eBind (hasL 2) fun _ => eApp 2 (eOne (eTup (eCons (eCon (.str (Str.ofString "is"))) (eCons (eCon (.str (Str.ofString "k"))) (eCons (eOp2 dIx (eVar 1) (eCon (.int 0))) (eCons (eCon (.int 0)) (eCons (eTup (eCons (eCon (.str (Str.ofString "say"))) (eCons (eTup eNil) (eOne (eCon (.str (Str.ofString "a"))))))) (eOne (eTup (eCons (eCon (.str (Str.ofString "say"))) (eCons (eTup eNil) (eOne (eCon (.str (Str.ofString "b"))))))))))))))))) (sSeq (sExp (eBind (hasL 2) fun _ => eApp 2 (eOne (eTup (eCons (eCon (.str (Str.ofString "has"))) (eCons (eCon (.str (Str.ofString "k"))) (eCons (eTup (eCons (eCon (.str (Str.ofString "say"))) (eCons (eTup eNil) (eOne (eCon (.str (Str.ofString "a"))))))) (eOne (eTup (eCons (eCon (.str (Str.ofString "let"))) (eCons (eCon (.str (Str.ofString "x"))) (eCons (eCon (.str (Str.ofString "k"))) (eCons (eOp2 dIx (eVar 1) (eCon (.int 0))) (eOne (eTup (eCons (eCon (.str (Str.ofString "say"))) (eCons (eTup eNil) (eOne (eCon (.str (Str.ofString "b"))))))))))))))))))))) (sRet (eCallM F_L_of (eCons (eVar 0) (eOne (eOp2 dAdd (eVar 2) (eOpN dList (eOne (eVar 1)))))))))))))
def F_L_odd : EM R := runF 3 2 fb_L_odd
theorem sc_L_odd : FnScope ["_law_box_here", "_law_names_so", "_law_some"] ["_law_box_here", "_law_names_so"] (defScope s_L_odd) := ⟨rfl, rfl, rfl, by decide +kernel, rfl, by decide +kernel, by decide +kernel⟩
theorem ok_L_odd {f : Addr} {fd : FuncData} (G_L_of : Fnk P w K mg base "_law_of" 2 2 F_L_of) (M : MgB mg) (m : mg "_law_odd" = some (.ref f)) (F : FnP K "_law_odd" s_L_odd f fd) : Fnk P w K mg base "_law_odd" 3 2 F_L_odd :=
  fnk_ok (N := ["_law_box_here", "_law_names_so", "_law_some"]) (ps := ["_law_box_here", "_law_names_so"]) m F sc_L_odd (fun _ _ _ _ _ _ us hl => match us, hl with | [_, _], _ => rfl) fun cdv A outer s H E hr => (ds_cons (ds_set (i := 2) sc_L_odd.nd rfl (by first | exact Or.inl rfl | exact Or.inr rfl) (by first | exact Or.inl rfl | exact Or.inr rfl) rfl (d_lst (dc dnon (dc dbl (dc dbl (dc dint (dc dint (dc (dneg dint) (dc (dop r_pow dint dint) (dc dstr (dc dstr (dc dstr (dc dstr (dc dstr (dc dstr (dc dstr (dc dstr (dl dstr)))))))))))))))))) (ds_cons (ds_set (i := 2) sc_L_odd.nd rfl (by first | exact Or.inl rfl | exact Or.inr rfl) (by first | exact Or.inl rfl | exact Or.inr rfl) rfl (dop r_add (dv 2) (d_lst (dc (d_tup dn) (dc (d_lst dn) (dc (d_tup (dc dstr (dc (d_tup dn) (dl dstr)))) (dc (d_lst (dc dstr (dc (d_lst dn) (dl dstr)))) (dc (d_tup (dc dstr (dl dstr))) (dc (d_tup (dc dstr (dl dstr))) (dc (d_tup (dl dstr)) (dl (d_tup (dc dstr (dl dstr)))))))))))))) (ds_cons (ds_set (i := 2) sc_L_odd.nd rfl (by first | exact Or.inl rfl | exact Or.inr rfl) (by first | exact Or.inl rfl | exact Or.inr rfl) rfl (dop r_add (dv 2) (d_lst (dc dstr (dc eDict0_ok (dc (d_dict1 dint (d_tup (dl dint))) (dc dstr (dc dstr (dl dstr))))))))) (ds_cons (ds_expr rfl (dapp 2 (dl (d_tup (dc dstr (dc dstr (dc (dix (dv 1) dint) (dc dint (dc (d_tup (dc dstr (dc (d_tup dn) (dl dstr)))) (dl (d_tup (dc dstr (dc (d_tup dn) (dl dstr)))))))))))))) (ds_cons (ds_expr rfl (dapp 2 (dl (d_tup (dc dstr (dc dstr (dc (d_tup (dc dstr (dc (d_tup dn) (dl dstr)))) (dl (d_tup (dc dstr (dc dstr (dc dstr (dc (dix (dv 1) dint) (dl (d_tup (dc dstr (dc (d_tup dn) (dl dstr)))))))))))))))))) (ds_one (ds_ret (dcallM G_L_of hr (dc (dv 0) (dl (dop r_add (dv 2) (dT r_list M.list (dl (dv 1)) (hv := bt_list)))))))))))))
/-! ### _law_bent -/
abbrev s_L_bent : Stmt := top 51
def fb_L_bent (F_L_bent : EM R) : EM O := (sSeq (eIf (tOr2 (tNo (eTruth (eOpN dIsi (eCons (eVar 1) (eOne (eCon (.ty "tuple"))))))) (tOr2 (tCmp dEq (eVar 1) (eTup eNil)) (tOr2 (tCmp dEq (eVar 3) (eCon (.int 0))) (tCmp dEq (eCallM F_L_take (eCons (eVar 0) (eOne (eCon (.int 5))))) (eCon (.int 0)))))) (sRet (eCallM F_L_odd (eCons (eVar 0) (eOne (eVar 2))))) (eRet .nx)) (sSeq (sPar 4 5 (eCons (eCallM F_L_take (eCons (eVar 0) (eOne (eOpN dLen (eOne (eVar 1)))))) (eOne (eCallM F_L_take (eCons (eVar 0) (eOne (eCon (.int 12)))))))) (sSeq (eIf (tCmp dEq (eVar 5) (eCon (.int 0))) (sRet (eOp2 dAdd (eCut (eVar 1) oNone (oInt (eVar 4))) (eCut (eVar 1) (oInt (eOp2 dAdd (eVar 4) (eCon (.int 1)))) oNone))) (eRet .nx)) (sSeq (eIf (tCmp dEq (eVar 5) (eCon (.int 1))) (sRet (eOp2 dAdd (eOp2 dAdd (eCut (eVar 1) oNone (oInt (eVar 4))) (eTup (eOne (eOp2 dIx (eVar 1) (eVar 4))))) (eCut (eVar 1) (oInt (eVar 4)) oNone))) (eRet .nx)) (sSeq (eIf (tCmp dEq (eVar 5) (eCon (.int 2))) (sRet (eOp2 dAdd (eOp2 dAdd (eCut (eVar 1) oNone (oInt (eVar 4))) (eTup (eOne (eCallM F_L_odd (eCons (eVar 0) (eOne (eVar 2))))))) (eCut (eVar 1) (oInt (eVar 4)) oNone))) (eRet .nx)) (sSeq (eIf (tCmp dEq (eVar 5) (eCon (.int 3))) (sRet (eOp2 dAdd (eOp2 dAdd (eCut (eVar 1) oNone (oInt (eVar 4))) (eRev (eCut (eVar 1) (oInt (eVar 4)) (oInt (eOp2 dAdd (eVar 4) (eCon (.int 2))))))) (eCut (eVar 1) (oInt (eOp2 dAdd (eVar 4) (eCon (.int 2)))) oNone))) (eRet .nx)) (sSeq (eIf (tCmp dEq (eVar 5) (eCon (.int 4))) (sRet (eOpN dList (eOne (eVar 1)))) (eRet .nx)) (sSeq (sSet 6 (eCallM F_L_bent (eCons (eVar 0) (eCons (eOp2 dIx (eVar 1) (eVar 4)) (eCons (eVar 2) (eOne (eOp2 dSub (eVar 3) (eCon (.int 1))))))))) (sRet (eOp2 dAdd (eOp2 dAdd (eCut (eVar 1) oNone (oInt (eVar 4))) (eTup (eOne (eVar 6)))) (eCut (eVar 1) (oInt (eOp2 dAdd (eVar 4) (eCon (.int 1)))) oNone)))))))))))
def FR_L_bent : Nat → EM R
  | 0 => fun _ => none
  | n + 1 => runF 7 4 (fb_L_bent (FR_L_bent n))
abbrev F_L_bent : EM R := FR_L_bent 60
theorem sc_L_bent : FnScope ["_law_box_here", "_law_matter", "_law_names_so", "_law_deep_so", "_law_k", "_law_sort_so", "_law_inner"] ["_law_box_here", "_law_matter", "_law_names_so", "_law_deep_so"] (defScope s_L_bent) := ⟨rfl, rfl, rfl, by decide +kernel, rfl, by decide +kernel, by decide +kernel⟩
theorem okR_L_bent {f : Addr} {fd : FuncData} (G_L_take : Fnk P w K mg base "_law_take" 1 2 F_L_take) (G_L_odd : Fnk P w K mg base "_law_odd" 3 2 F_L_odd) (M : MgB mg) (m : mg "_law_bent" = some (.ref f)) (F : FnP K "_law_bent" s_L_bent f fd) : ∀ n, Fnk P w K mg base "_law_bent" (3 + n) 4 (FR_L_bent n)
  | 0 => fnk_none (N := ["_law_box_here", "_law_matter", "_law_names_so", "_law_deep_so", "_law_k", "_law_sort_so", "_law_inner"]) (ps := ["_law_box_here", "_law_matter", "_law_names_so", "_law_deep_so"]) m F (fun _ _ _ _ _ _ us hl => match us, hl with | [_, _, _, _], _ => rfl)
  | n + 1 => by
    have G_L_bent := okR_L_bent G_L_take G_L_odd M m F n
    exact fnk_ok (k := 3 + n) (N := ["_law_box_here", "_law_matter", "_law_names_so", "_law_deep_so", "_law_k", "_law_sort_so", "_law_inner"]) (ps := ["_law_box_here", "_law_matter", "_law_names_so", "_law_deep_so"]) m F sc_L_bent (fun _ _ _ _ _ _ us hl => match us, hl with | [_, _, _, _], _ => rfl) fun cdv A outer s H E hr => (ds_cons (ds_if (PW.pt (dw_or (dt_not (tv (dB r_isi M.isinstance (dc (dv 1) (dl (dty "tuple" M.tuple (hv := bt_tuple)))) (hv := bt_isinstance)))) (dw_or (tcmp (r_eq hr.units) (dv 1) (d_tup dn)) (dw_or (tcmp (r_eq hr.units) (dv 3) dint) (dw_or1 (tcmp (r_eq hr.units) (dcallM G_L_take hr (dc (dv 0) (dl dint))) dint)))))) (ds_one (ds_ret (dcallM G_L_odd hr (dc (dv 0) (dl (dv 2)))))) ds_nil) (ds_cons (ds_par (i := 4) (j := 5) rfl sc_L_bent.nd rfl rfl (by decide) rfl rfl (dc (dcallM G_L_take hr (dc (dv 0) (dl (dB r_len M.len (dl (dv 1)) (hv := bt_len))))) (dl (dcallM G_L_take hr (dc (dv 0) (dl dint))))) rfl) (ds_cons (ds_if (tcmp (r_eq hr.units) (dv 5) dint) (ds_one (ds_ret (dop r_add (d_cut (dv 1) do_none (do_some (dv 4))) (d_cut (dv 1) (do_some (dop r_add (dv 4) dint)) do_none)))) ds_nil) (ds_cons (ds_if (tcmp (r_eq hr.units) (dv 5) dint) (ds_one (ds_ret (dop r_add (dop r_add (d_cut (dv 1) do_none (do_some (dv 4))) (d_tup (dl (dix (dv 1) (dv 4))))) (d_cut (dv 1) (do_some (dv 4)) do_none)))) ds_nil) (ds_cons (ds_if (tcmp (r_eq hr.units) (dv 5) dint) (ds_one (ds_ret (dop r_add (dop r_add (d_cut (dv 1) do_none (do_some (dv 4))) (d_tup (dl (dcallM G_L_odd hr (dc (dv 0) (dl (dv 2))))))) (d_cut (dv 1) (do_some (dv 4)) do_none)))) ds_nil) (ds_cons (ds_if (tcmp (r_eq hr.units) (dv 5) dint) (ds_one (ds_ret (dop r_add (dop r_add (d_cut (dv 1) do_none (do_some (dv 4))) (d_rev (d_cut (dv 1) (do_some (dv 4)) (do_some (dop r_add (dv 4) dint))))) (d_cut (dv 1) (do_some (dop r_add (dv 4) dint)) do_none)))) ds_nil) (ds_cons (ds_if (tcmp (r_eq hr.units) (dv 5) dint) (ds_one (ds_ret (dT r_list M.list (dl (dv 1)) (hv := bt_list)))) ds_nil) (ds_cons (ds_set (i := 6) sc_L_bent.nd rfl (by first | exact Or.inl rfl | exact Or.inr rfl) (by first | exact Or.inl rfl | exact Or.inr rfl) rfl (dcallM G_L_bent hr (dc (dv 0) (dc (dix (dv 1) (dv 4)) (dc (dv 2) (dl (dop r_sub (dv 3) dint))))))) (ds_one (ds_ret (dop r_add (dop r_add (d_cut (dv 1) do_none (do_some (dv 4))) (d_tup (dl (dv 6)))) (d_cut (dv 1) (do_some (dop r_add (dv 4) dint)) do_none))))))))))))
theorem ok_L_bent {f : Addr} {fd : FuncData} (G_L_take : Fnk P w K mg base "_law_take" 1 2 F_L_take) (G_L_odd : Fnk P w K mg base "_law_odd" 3 2 F_L_odd) (M : MgB mg) (m : mg "_law_bent" = some (.ref f)) (F : FnP K "_law_bent" s_L_bent f fd) : Fnk P w K mg base "_law_bent" 63 4 F_L_bent := okR_L_bent G_L_take G_L_odd M m F 60
end
end Prg
namespace Prg
open PySem PySem.Spec L2 DL
open PyProof.Rows hiding St
section
variable {P : Program} {w : World} {K : PySem.W.Frag}
    {mg : Str → Option Value} {base : Heap}
/-! ### _law_by_hand_right -/
abbrev s_L_by_hand_right : Stmt := top 52
def fb_L_by_hand_right : EM O := (sSeq (sAsg (eTup (eCons (eTup (eCons (eCon (.str (Str.ofString "say"))) (eCons (eTup eNil) (eOne (eCon (.str (Str.ofString "yes"))))))) (eOne (eTup (eCons (eCon (.str (Str.ofString "say"))) (eCons (eTup eNil) (eOne (eCon (.str (Str.ofString "no")))))))))) (gTupD 2 (gConsD (gPut 0) (gConsD (gPut 1) gNilD)))) (sSeq (sAsg (eTup (eCons (eTup (eCons (eCon (.str (Str.ofString "is"))) (eCons (eCon (.str (Str.ofString "k"))) (eCons (eCon (.str (Str.ofString "f"))) (eCons (eCon (.int 0)) (eCons (eVar 0) (eOne (eVar 1)))))))) (eCons (eTup (eOne (eCon (.str (Str.ofString "k"))))) (eOne (eTup (eCons (eCon (.str (Str.ofString "k"))) (eOne (eCon (.str (Str.ofString "v")))))))))) (gTupD 3 (gConsD (gPut 2) (gConsD (gPut 3) (gConsD (gPut 4) gNilD))))) (sSeq (sSet 5 (eLst (eCons (eTup (eCons (eCon (.str (Str.ofString "a"))) (eCons (eTup eNil) (eOne (eVar 0))))) (eCons (eTup (eCons (eCon (.str (Str.ofString "a"))) (eCons (eVar 3) (eOne (eTup (eCons (eCon (.str (Str.ofString "has"))) (eCons (eCon (.str (Str.ofString "k"))) (eCons (eVar 2) (eOne (eVar 1)))))))))) (eOne (eTup (eCons (eCon (.str (Str.ofString "a"))) (eCons (eTup (eCons (eCon (.str (Str.ofString "f"))) (eOne (eCon (.str (Str.ofString "k")))))) (eOne (eTup (eCons (eCon (.str (Str.ofString "has"))) (eCons (eCon (.str (Str.ofString "f"))) (eCons (eVar 0) (eOne (eVar 1))))))))))))))) (sSeq (sExp (eBind (hasL 5) fun _ => eApp 5 (eOne (eTup (eCons (eCon (.str (Str.ofString "a"))) (eCons (eTup eNil) (eOne (eTup (eCons (eCon (.str (Str.ofString "has"))) (eCons (eCon (.int 5)) (eCons (eTup (eCons (eCon (.str (Str.ofString "is"))) (eCons (eCon (.int 5)) (eCons (eCon (.str (Str.ofString "f"))) (eCons (eCon (.int 5)) (eCons (eVar 0) (eOne (eVar 1)))))))) (eOne (eVar 1))))))))))))) (sSeq (sExp (eBind (hasL 5) fun _ => eApp 5 (eOne (eTup (eCons (eCon (.str (Str.ofString "has"))) (eCons (eTup (eOne (eCon (.str (Str.ofString "say"))))) (eOne (eTup (eCons (eCon (.str (Str.ofString "has"))) (eCons (eCon (.str (Str.ofString "say"))) (eCons (eVar 0) (eOne (eVar 1))))))))))))) (sSeq (sSet 6 (eTup (eCons (eCon (.str (Str.ofString "let"))) (eCons (eCon (.str (Str.ofString "x"))) (eCons (eCon (.str (Str.ofString "k"))) (eCons (eCon (.str (Str.ofString "f"))) (eOne (eTup (eCons (eCon (.str (Str.ofString "has"))) (eCons (eCon (.str (Str.ofString "x"))) (eCons (eTup (eCons (eCon (.str (Str.ofString "is"))) (eCons (eCon (.str (Str.ofString "x"))) (eCons (eCon (.str (Str.ofString "f"))) (eCons (eCon (.str (Str.ofString "k"))) (eCons (eVar 0) (eOne (eVar 1)))))))) (eOne (eVar 1))))))))))))) (sSeq (sExp (eBind (hasL 5) fun _ => eApp 5 (eOne (eTup (eCons (eCon (.str (Str.ofString "a"))) (eCons (eVar 3) (eOne (eTup (eCons (eCon (.str (Str.ofString "has"))) (eCons (eCon (.str (Str.ofString "k"))) (eCons (eVar 6) (eOne (eVar 1))))))))))))) (sSeq (sExp (eBind (hasL 5) fun _ => eApp 5 (eOne (eTup (eCons (eCon (.str (Str.ofString "a"))) (eCons (eVar 3) (eOne (eTup (eCons (eCon (.str (Str.ofString "has"))) (eCons (eCon (.str (Str.ofString "k"))) (eCons (eTup (eCons (eCon (.str (Str.ofString "has"))) (eCons (eCon (.str (Str.ofString "k"))) (eCons (eVar 2) (eOne (eVar 2)))))) (eOne (eVar 1))))))))))))) (sSeq (sSet 7 (eTup (eCons (eCon (.str (Str.ofString "let"))) (eCons (eCon (.str (Str.ofString "x"))) (eCons (eCon (.str (Str.ofString "k"))) (eCons (eCon (.str (Str.ofString "f"))) (eOne (eVar 0)))))))) (sSeq (sExp (eBind (hasL 5) fun _ => eApp 5 (eOne (eTup (eCons (eCon (.str (Str.ofString "a"))) (eCons (eVar 3) (eOne (eTup (eCons (eCon (.str (Str.ofString "has"))) (eCons (eCon (.str (Str.ofString "k"))) (eCons (eTup (eCons (eCon (.str (Str.ofString "is"))) (eCons (eCon (.str (Str.ofString "k"))) (eCons (eCon (.str (Str.ofString "f"))) (eCons (eCon (.int 0)) (eCons (eVar 7) (eOne (eVar 7)))))))) (eOne (eVar 1))))))))))))) (sSeq (sExp (eBind (hasL 5) fun _ => eApp 5 (eOne (eTup (eCons (eCon (.str (Str.ofString "abcdefgh"))) (eCons (eVar 3) (eOne (eTup (eCons (eCon (.str (Str.ofString "say"))) (eCons (eTup (eCons (eTup (eCons (eCon (.str (Str.ofString "make"))) (eCons (eCon (.str (Str.ofString "k"))) (eOne (eTup (eOne (eCon (.int 0)))))))) (eCons (eTup (eCons (eCon (.str (Str.ofString "set"))) (eCons (eCon (.str (Str.ofString "k"))) (eCons (eCon (.str (Str.ofString "f"))) (eOne (eCon (.str (Str.ofString "k")))))))) (eOne (eTup (eCons (eCon (.str (Str.ofString "drop"))) (eOne (eCon (.int 3))))))))) (eOne (eCon (.str (Str.ofString "a")))))))))))))) (sSeq (sSet 8 (eLst (eCons (eTup (eCons (eCon (.str (Str.ofString "a"))) (eCons (eVar 3) (eOne (eVar 2))))) (eCons (eTup (eCons (eCon (.str (Str.ofString "a"))) (eCons (eVar 3) (eOne (eTup (eCons (eCon (.str (Str.ofString "has"))) (eCons (eCon (.str (Str.ofString "k"))) (eCons (eVar 1) (eOne (eVar 2)))))))))) (eOne (eTup (eCons (eCon (.str (Str.ofString "a"))) (eCons (eTup (eCons (eCon (.str (Str.ofString "k"))) (eOne (eCon (.str (Str.ofString "k")))))) (eOne (eVar 0)))))))))) (sSeq (sSet 8 (eOp2 dAdd (eVar 8) (eLst (eCons (eTup (eCons (eCon (.str (Str.ofString "a"))) (eCons (eVar 4) (eOne (eTup (eCons (eCon (.str (Str.ofString "has"))) (eCons (eCon (.str (Str.ofString "v"))) (eCons (eVar 2) (eOne (eVar 1)))))))))) (eCons (eTup (eCons (eCon (.str (Str.ofString "a"))) (eCons (eTup (eCons (eCon (.str (Str.ofString "k"))) (eCons (eCon (.str (Str.ofString "v"))) (eOne (eCon (.str (Str.ofString "w"))))))) (eOne (eVar 0))))) (eOne (eTup (eCons (eCon (.str (Str.ofString "abcdefghi"))) (eCons (eTup eNil) (eOne (eVar 0))))))))))) (sSeq (sSet 8 (eOp2 dAdd (eVar 8) (eLst (eCons (eTup (eCons (eCon (.str (Str.ofString "a"))) (eCons (eVar 3) (eOne (eTup (eCons (eCon (.str (Str.ofString "has"))) (eCons (eCon (.int 0)) (eCons (eVar 2) (eOne (eVar 1)))))))))) (eCons (eTup (eCons (eCon (.str (Str.ofString "a"))) (eCons (eTup eNil) (eOne (eTup (eCons (eCon (.str (Str.ofString "has"))) (eCons (eCon (.bl true)) (eCons (eVar 0) (eOne (eVar 1)))))))))) (eOne (eTup (eCons (eCon (.str (Str.ofString "a"))) (eCons (eLst eNil) (eOne (eVar 0))))))))))) (sSeq (sSet 8 (eOp2 dAdd (eVar 8) (eLst (eCons (eLst (eCons (eCon (.str (Str.ofString "a"))) (eCons (eTup eNil) (eOne (eVar 0))))) (eOne (eTup (eCons (eCon (.str (Str.ofString "a"))) (eCons (eVar 3) (eOne (eTup (eCons (eCon (.str (Str.ofString "has"))) (eCons (eCon (.str (Str.ofString "k"))) (eCons (eTup (eCons (eCon (.str (Str.ofString "let"))) (eCons (eCon (.str (Str.ofString "k"))) (eCons (eCon (.str (Str.ofString "k"))) (eCons (eCon (.str (Str.ofString "f"))) (eOne (eVar 0))))))) (eOne (eVar 1))))))))))))))) (sSeq (sExp (eBind (hasL 8) fun _ => eApp 8 (eOne (eTup (eCons (eCon (.str (Str.ofString "a"))) (eCons (eVar 3) (eOne (eTup (eCons (eCon (.str (Str.ofString "has"))) (eCons (eCon (.str (Str.ofString "k"))) (eCons (eTup (eCons (eCon (.str (Str.ofString "let"))) (eCons (eCon (.str (Str.ofString "x"))) (eCons (eCon (.str (Str.ofString "k"))) (eCons (eCon (.str (Str.ofString "f"))) (eOne (eTup (eCons (eCon (.str (Str.ofString "let"))) (eCons (eCon (.str (Str.ofString "x"))) (eCons (eCon (.str (Str.ofString "k"))) (eCons (eCon (.str (Str.ofString "f"))) (eOne (eVar 0))))))))))))) (eOne (eVar 1))))))))))))) (sSeq (sExp (eBind (hasL 8) fun _ => eApp 8 (eOne (eTup (eCons (eCon (.str (Str.ofString "a"))) (eCons (eVar 3) (eOne (eTup (eCons (eCon (.str (Str.ofString "has"))) (eCons (eCon (.str (Str.ofString "k"))) (eCons (eTup (eCons (eCon (.str (Str.ofString "let"))) (eCons (eCon (.str (Str.ofString "x"))) (eCons (eCon (.str (Str.ofString "k"))) (eCons (eCon (.str (Str.ofString "f"))) (eOne (eTup (eCons (eCon (.str (Str.ofString "is"))) (eCons (eCon (.str (Str.ofString "x"))) (eCons (eCon (.str (Str.ofString "f"))) (eCons (eCon (.int 0)) (eCons (eVar 0) (eOne (eVar 1)))))))))))))) (eOne (eVar 1))))))))))))) (sSeq (sExp (eBind (hasL 8) fun _ => eApp 8 (eOne (eTup (eCons (eCon (.str (Str.ofString "a"))) (eCons (eVar 3) (eOne (eTup (eCons (eCon (.str (Str.ofString "has"))) (eCons (eCon (.str (Str.ofString "k"))) (eCons (eTup (eCons (eCon (.str (Str.ofString "let"))) (eCons (eCon (.str (Str.ofString "x"))) (eCons (eCon (.str (Str.ofString "k"))) (eCons (eCon (.str (Str.ofString "f"))) (eOne (eVar 0))))))) (eOne (eTup (eCons (eCon (.str (Str.ofString "has"))) (eCons (eCon (.str (Str.ofString "x"))) (eCons (eVar 0) (eOne (eVar 1)))))))))))))))))) (sSeq (sSet 8 (eOp2 dAdd (eVar 8) (eLc (iAny (eTup (eCons (eTup eNil) (eCons (eTup (eCons (eCon (.int 0)) (eOne (eCon (.int 0))))) (eCons (eLst (eOne (eCon (.int 0)))) (eOne (eTup (eOne (eCon (.str (Str.ofString "v"))))))))))) (gPut 9) (eRet true) (eTup (eCons (eCon (.str (Str.ofString "a"))) (eCons (eVar 3) (eOne (eTup (eCons (eCon (.str (Str.ofString "say"))) (eCons (eTup (eOne (eTup (eCons (eCon (.str (Str.ofString "make"))) (eCons (eCon (.str (Str.ofString "k"))) (eOne (eVar 9))))))) (eOne (eCon (.str (Str.ofString "a"))))))))))) [9]))) (sSeq (sExp (eBind (hasL 8) fun _ => eApp 8 (eOne (eTup (eCons (eCon (.str (Str.ofString "a"))) (eCons (eVar 3) (eOne (eTup (eCons (eCon (.str (Str.ofString "say"))) (eCons (eTup (eOne (eTup (eCons (eCon (.str (Str.ofString "drop"))) (eOne (eCon (.str (Str.ofString "v")))))))) (eOne (eCon (.str (Str.ofString "a")))))))))))))) (sSeq (sExp (eBind (hasL 8) fun _ => eApp 8 (eOne (eTup (eCons (eCon (.str (Str.ofString "a"))) (eCons (eVar 3) (eOne (eTup (eCons (eCon (.str (Str.ofString "say"))) (eCons (eTup (eOne (eTup (eCons (eCon (.str (Str.ofString "set"))) (eCons (eCon (.str (Str.ofString "k"))) (eCons (eCon (.str (Str.ofString "g"))) (eOne (eCon (.int 0))))))))) (eOne (eCon (.str (Str.ofString "a")))))))))))))) (sSeq (sSet 8 (eOp2 dAdd (eVar 8) (eLst (eCons (eTup (eCons (eCon (.str (Str.ofString "a"))) (eCons (eTup eNil) (eOne (eTup (eCons (eCon (.str (Str.ofString "say"))) (eCons (eTup eNil) (eOne (eCon (.str (Str.ofString "A"))))))))))) (eCons (eTup (eCons (eCon (.str (Str.ofString "a"))) (eCons (eTup eNil) (eOne (eTup (eCons (eCon (.str (Str.ofString "say"))) (eCons (eTup eNil) (eOne (eCon (.str (Str.ofString ""))))))))))) (eOne (eTup (eCons (eCon (.str (Str.ofString "a"))) (eCons (eTup eNil) (eOne (eTup (eCons (eCon (.str (Str.ofString "say"))) (eCons (eLst eNil) (eOne (eCon (.str (Str.ofString "a"))))))))))))))))) (sSeq (sSet 8 (eOp2 dAdd (eVar 8) (eLst (eCons (eTup (eCons (eCon (.str (Str.ofString "a"))) (eCons (eTup eNil) (eOne (eTup (eOne (eCon (.str (Str.ofString "stop"))))))))) (eCons (eTup (eCons (eCon (.str (Str.ofString "a"))) (eCons (eTup eNil) (eOne (eTup eNil))))) (eCons (eTup (eCons (eCon (.str (Str.ofString "a"))) (eOne (eTup eNil)))) (eOne (eTup (eCons (eCon (.str (Str.ofString "a"))) (eCons (eVar 3) (eOne (eTup (eCons (eCon (.str (Str.ofString "say"))) (eCons (eTup (eOne (eTup (eOne (eCon (.str (Str.ofString "drop"))))))) (eOne (eCon (.str (Str.ofString "a")))))))))))))))))) (sSeq (sSet 10 (eLc (iAny (eVar 5)) (gPut 11) (eRet true) (eCallV F_Book_is_kind (eCons (eTup (eOne (eCon (.str (Str.ofString "f"))))) (eOne (eVar 11)))) [11])) (sSeq (sSet 10 (eOp2 dAdd (eVar 10) (eLc (iAny (eVar 8)) (gPut 11) (eRet true) (eCallV F_Book_is_kind (eCons (eTup (eOne (eCon (.str (Str.ofString "f"))))) (eOne (eVar 11)))) [11]))) (sRet (eCallV F_L_same (eCons (eVar 10) (eOne (eOp2 dAdd (eOp2 dMul (eLst (eOne (eCon (.bl true)))) (eOpN dLen (eOne (eVar 5)))) (eOp2 dMul (eLst (eOne (eCon (.bl false)))) (eOpN dLen (eOne (eVar 8))))))))))))))))))))))))))))))))))
def F_L_by_hand_right : EM R := runF 12 0 fb_L_by_hand_right
theorem sc_L_by_hand_right : FnScope ["_law_yes", "_law_no", "_law_test_so", "_law_own", "_law_two", "_law_right_here", "_law_read_so", "_law_both_so", "_law_wrong", "_law_own_so", "_law_told_so", "_law_matter"] [] (defScope s_L_by_hand_right) := ⟨rfl, rfl, rfl, by decide +kernel, rfl, by decide +kernel, by decide +kernel⟩
theorem ok_L_by_hand_right {f : Addr} {fd : FuncData} (G_Book_is_kind : Smk P w K mg base "Book" "is_kind" ["fields", "thing"] 67 2 F_Book_is_kind) (G_L_same : Fnk P w K mg base "_law_same" 61 2 F_L_same) (M : MgB mg) (m : mg "_law_by_hand_right" = some (.ref f)) (F : FnP K "_law_by_hand_right" s_L_by_hand_right f fd) : Fnk P w K mg base "_law_by_hand_right" 68 0 F_L_by_hand_right :=
  fnk_ok (N := ["_law_yes", "_law_no", "_law_test_so", "_law_own", "_law_two", "_law_right_here", "_law_read_so", "_law_both_so", "_law_wrong", "_law_own_so", "_law_told_so", "_law_matter"]) (ps := []) m F sc_L_by_hand_right (fun _ _ _ _ _ _ us hl => match us, hl with | [], _ => rfl) fun cdv A outer s H E hr => (ds_cons (ds_asg (d_tup (dc (d_tup (dc dstr (dc (d_tup dn) (dl dstr)))) (dl (d_tup (dc dstr (dc (d_tup dn) (dl dstr))))))) (dg_tup rfl (dgs_cons (dg_name (i := 0) sc_L_by_hand_right.nd rfl (by first | exact Or.inl rfl | exact Or.inr rfl) (by first | exact Or.inl rfl | exact Or.inr rfl)) (dgs_cons (dg_name (i := 1) sc_L_by_hand_right.nd rfl (by first | exact Or.inl rfl | exact Or.inr rfl) (by first | exact Or.inl rfl | exact Or.inr rfl)) dgs_nil)))) (ds_cons (ds_asg (d_tup (dc (d_tup (dc dstr (dc dstr (dc dstr (dc dint (dc (dv 0) (dl (dv 1)))))))) (dc (d_tup (dl dstr)) (dl (d_tup (dc dstr (dl dstr))))))) (dg_tup rfl (dgs_cons (dg_name (i := 2) sc_L_by_hand_right.nd rfl (by first | exact Or.inl rfl | exact Or.inr rfl) (by first | exact Or.inl rfl | exact Or.inr rfl)) (dgs_cons (dg_name (i := 3) sc_L_by_hand_right.nd rfl (by first | exact Or.inl rfl | exact Or.inr rfl) (by first | exact Or.inl rfl | exact Or.inr rfl)) (dgs_cons (dg_name (i := 4) sc_L_by_hand_right.nd rfl (by first | exact Or.inl rfl | exact Or.inr rfl) (by first | exact Or.inl rfl | exact Or.inr rfl)) dgs_nil))))) (ds_cons (ds_set (i := 5) sc_L_by_hand_right.nd rfl (by first | exact Or.inl rfl | exact Or.inr rfl) (by first | exact Or.inl rfl | exact Or.inr rfl) rfl (d_lst (dc (d_tup (dc dstr (dc (d_tup dn) (dl (dv 0))))) (dc (d_tup (dc dstr (dc (dv 3) (dl (d_tup (dc dstr (dc dstr (dc (dv 2) (dl (dv 1)))))))))) (dl (d_tup (dc dstr (dc (d_tup (dc dstr (dl dstr))) (dl (d_tup (dc dstr (dc dstr (dc (dv 0) (dl (dv 1))))))))))))))) (ds_cons (ds_expr rfl (dapp 5 (dl (d_tup (dc dstr (dc (d_tup dn) (dl (d_tup (dc dstr (dc dint (dc (d_tup (dc dstr (dc dint (dc dstr (dc dint (dc (dv 0) (dl (dv 1)))))))) (dl (dv 1))))))))))))) (ds_cons (ds_expr rfl (dapp 5 (dl (d_tup (dc dstr (dc (d_tup (dl dstr)) (dl (d_tup (dc dstr (dc dstr (dc (dv 0) (dl (dv 1))))))))))))) (ds_cons (ds_set (i := 6) sc_L_by_hand_right.nd rfl (by first | exact Or.inl rfl | exact Or.inr rfl) (by first | exact Or.inl rfl | exact Or.inr rfl) rfl (d_tup (dc dstr (dc dstr (dc dstr (dc dstr (dl (d_tup (dc dstr (dc dstr (dc (d_tup (dc dstr (dc dstr (dc dstr (dc dstr (dc (dv 0) (dl (dv 1)))))))) (dl (dv 1))))))))))))) (ds_cons (ds_expr rfl (dapp 5 (dl (d_tup (dc dstr (dc (dv 3) (dl (d_tup (dc dstr (dc dstr (dc (dv 6) (dl (dv 1))))))))))))) (ds_cons (ds_expr rfl (dapp 5 (dl (d_tup (dc dstr (dc (dv 3) (dl (d_tup (dc dstr (dc dstr (dc (d_tup (dc dstr (dc dstr (dc (dv 2) (dl (dv 2)))))) (dl (dv 1))))))))))))) (ds_cons (ds_set (i := 7) sc_L_by_hand_right.nd rfl (by first | exact Or.inl rfl | exact Or.inr rfl) (by first | exact Or.inl rfl | exact Or.inr rfl) rfl (d_tup (dc dstr (dc dstr (dc dstr (dc dstr (dl (dv 0)))))))) (ds_cons (ds_expr rfl (dapp 5 (dl (d_tup (dc dstr (dc (dv 3) (dl (d_tup (dc dstr (dc dstr (dc (d_tup (dc dstr (dc dstr (dc dstr (dc dint (dc (dv 7) (dl (dv 7)))))))) (dl (dv 1))))))))))))) (ds_cons (ds_expr rfl (dapp 5 (dl (d_tup (dc dstr (dc (dv 3) (dl (d_tup (dc dstr (dc (d_tup (dc (d_tup (dc dstr (dc dstr (dl (d_tup (dl dint)))))) (dc (d_tup (dc dstr (dc dstr (dc dstr (dl dstr))))) (dl (d_tup (dc dstr (dl dint))))))) (dl dstr))))))))))) (ds_cons (ds_set (i := 8) sc_L_by_hand_right.nd rfl (by first | exact Or.inl rfl | exact Or.inr rfl) (by first | exact Or.inl rfl | exact Or.inr rfl) rfl (d_lst (dc (d_tup (dc dstr (dc (dv 3) (dl (dv 2))))) (dc (d_tup (dc dstr (dc (dv 3) (dl (d_tup (dc dstr (dc dstr (dc (dv 1) (dl (dv 2)))))))))) (dl (d_tup (dc dstr (dc (d_tup (dc dstr (dl dstr))) (dl (dv 0)))))))))) (ds_cons (ds_set (i := 8) sc_L_by_hand_right.nd rfl (by first | exact Or.inl rfl | exact Or.inr rfl) (by first | exact Or.inl rfl | exact Or.inr rfl) rfl (dop r_add (dv 8) (d_lst (dc (d_tup (dc dstr (dc (dv 4) (dl (d_tup (dc dstr (dc dstr (dc (dv 2) (dl (dv 1)))))))))) (dc (d_tup (dc dstr (dc (d_tup (dc dstr (dc dstr (dl dstr)))) (dl (dv 0))))) (dl (d_tup (dc dstr (dc (d_tup dn) (dl (dv 0))))))))))) (ds_cons (ds_set (i := 8) sc_L_by_hand_right.nd rfl (by first | exact Or.inl rfl | exact Or.inr rfl) (by first | exact Or.inl rfl | exact Or.inr rfl) rfl (dop r_add (dv 8) (d_lst (dc (d_tup (dc dstr (dc (dv 3) (dl (d_tup (dc dstr (dc dint (dc (dv 2) (dl (dv 1)))))))))) (dc (d_tup (dc dstr (dc (d_tup dn) (dl (d_tup (dc dstr (dc dbl (dc (dv 0) (dl (dv 1)))))))))) (dl (d_tup (dc dstr (dc (d_lst dn) (dl (dv 0))))))))))) (ds_cons (ds_set (i := 8) sc_L_by_hand_right.nd rfl (by first | exact Or.inl rfl | exact Or.inr rfl) (by first | exact Or.inl rfl | exact Or.inr rfl) rfl (dop r_add (dv 8) (d_lst (dc (d_lst (dc dstr (dc (d_tup dn) (dl (dv 0))))) (dl (d_tup (dc dstr (dc (dv 3) (dl (d_tup (dc dstr (dc dstr (dc (d_tup (dc dstr (dc dstr (dc dstr (dc dstr (dl (dv 0))))))) (dl (dv 1))))))))))))))) (ds_cons (ds_expr rfl (dapp 8 (dl (d_tup (dc dstr (dc (dv 3) (dl (d_tup (dc dstr (dc dstr (dc (d_tup (dc dstr (dc dstr (dc dstr (dc dstr (dl (d_tup (dc dstr (dc dstr (dc dstr (dc dstr (dl (dv 0))))))))))))) (dl (dv 1))))))))))))) (ds_cons (ds_expr rfl (dapp 8 (dl (d_tup (dc dstr (dc (dv 3) (dl (d_tup (dc dstr (dc dstr (dc (d_tup (dc dstr (dc dstr (dc dstr (dc dstr (dl (d_tup (dc dstr (dc dstr (dc dstr (dc dint (dc (dv 0) (dl (dv 1)))))))))))))) (dl (dv 1))))))))))))) (ds_cons (ds_expr rfl (dapp 8 (dl (d_tup (dc dstr (dc (dv 3) (dl (d_tup (dc dstr (dc dstr (dc (d_tup (dc dstr (dc dstr (dc dstr (dc dstr (dl (dv 0))))))) (dl (d_tup (dc dstr (dc dstr (dc (dv 0) (dl (dv 1)))))))))))))))))) (ds_cons (ds_set (i := 8) sc_L_by_hand_right.nd rfl (by first | exact Or.inl rfl | exact Or.inr rfl) (by first | exact Or.inl rfl | exact Or.inr rfl) rfl (dop r_add (dv 8) (d_lc (own := [("_law_own_so", 9)]) rfl sc_L_by_hand_right.nd (di_any (d_tup (dc (d_tup dn) (dc (d_tup (dc dint (dl dint))) (dc (d_lst (dl dint)) (dl (d_tup (dl dstr)))))))) (blkOk_by (own := [("_law_own_so", 9)]) (N := ["_law_yes", "_law_no", "_law_test_so", "_law_own", "_law_two", "_law_right_here", "_law_read_so", "_law_both_so", "_law_wrong", "_law_own_so", "_law_told_so", "_law_matter"]) (sc := defScope s_L_by_hand_right) (by decide +kernel)) (by decide) (fun _ _ _ _ _ => (dg_name (i := 9) sc_L_by_hand_right.nd rfl (by first | exact Or.inl rfl | exact Or.inr rfl) (by first | exact Or.inl rfl | exact Or.inr rfl))) (fun _ _ _ _ _ => dts_nil) (fun _ _ _ _ _ => (d_tup (dc dstr (dc (dv 3) (dl (d_tup (dc dstr (dc (d_tup (dl (d_tup (dc dstr (dc dstr (dl (dv 9))))))) (dl dstr)))))))))))) (ds_cons (ds_expr rfl (dapp 8 (dl (d_tup (dc dstr (dc (dv 3) (dl (d_tup (dc dstr (dc (d_tup (dl (d_tup (dc dstr (dl dstr))))) (dl dstr))))))))))) (ds_cons (ds_expr rfl (dapp 8 (dl (d_tup (dc dstr (dc (dv 3) (dl (d_tup (dc dstr (dc (d_tup (dl (d_tup (dc dstr (dc dstr (dc dstr (dl dint))))))) (dl dstr))))))))))) (ds_cons (ds_set (i := 8) sc_L_by_hand_right.nd rfl (by first | exact Or.inl rfl | exact Or.inr rfl) (by first | exact Or.inl rfl | exact Or.inr rfl) rfl (dop r_add (dv 8) (d_lst (dc (d_tup (dc dstr (dc (d_tup dn) (dl (d_tup (dc dstr (dc (d_tup dn) (dl dstr)))))))) (dc (d_tup (dc dstr (dc (d_tup dn) (dl (d_tup (dc dstr (dc (d_tup dn) (dl dstr)))))))) (dl (d_tup (dc dstr (dc (d_tup dn) (dl (d_tup (dc dstr (dc (d_lst dn) (dl dstr)))))))))))))) (ds_cons (ds_set (i := 8) sc_L_by_hand_right.nd rfl (by first | exact Or.inl rfl | exact Or.inr rfl) (by first | exact Or.inl rfl | exact Or.inr rfl) rfl (dop r_add (dv 8) (d_lst (dc (d_tup (dc dstr (dc (d_tup dn) (dl (d_tup (dl dstr)))))) (dc (d_tup (dc dstr (dc (d_tup dn) (dl (d_tup dn))))) (dc (d_tup (dc dstr (dl (d_tup dn)))) (dl (d_tup (dc dstr (dc (dv 3) (dl (d_tup (dc dstr (dc (d_tup (dl (d_tup (dl dstr)))) (dl dstr))))))))))))))) (ds_cons (ds_setLc (i := 10) rfl rfl (sw_true rfl rfl rfl rfl) (own := [("_law_matter", 11)]) rfl sc_L_by_hand_right.nd (di_any (dv 5)) (blkOk_by (own := [("_law_matter", 11)]) (N := ["_law_yes", "_law_no", "_law_test_so", "_law_own", "_law_two", "_law_right_here", "_law_read_so", "_law_both_so", "_law_wrong", "_law_own_so", "_law_told_so", "_law_matter"]) (sc := defScope s_L_by_hand_right) (by decide +kernel)) (by decide) (fun _ _ _ _ _ => (dg_name (i := 11) sc_L_by_hand_right.nd rfl (by first | exact Or.inl rfl | exact Or.inr rfl) (by first | exact Or.inl rfl | exact Or.inr rfl))) (fun _ _ _ _ _ => dts_nil) (fun _ _ _ _ _ => (dsm G_Book_is_kind hr (dc (d_tup (dl dstr)) (dl (dv 11)))))) (ds_cons (ds_set (i := 10) sc_L_by_hand_right.nd rfl (by first | exact Or.inl rfl | exact Or.inr rfl) (by first | exact Or.inl rfl | exact Or.inr rfl) rfl (dop r_add (dv 10) (d_lc (own := [("_law_matter", 11)]) rfl sc_L_by_hand_right.nd (di_any (dv 8)) (blkOk_by (own := [("_law_matter", 11)]) (N := ["_law_yes", "_law_no", "_law_test_so", "_law_own", "_law_two", "_law_right_here", "_law_read_so", "_law_both_so", "_law_wrong", "_law_own_so", "_law_told_so", "_law_matter"]) (sc := defScope s_L_by_hand_right) (by decide +kernel)) (by decide) (fun _ _ _ _ _ => (dg_name (i := 11) sc_L_by_hand_right.nd rfl (by first | exact Or.inl rfl | exact Or.inr rfl) (by first | exact Or.inl rfl | exact Or.inr rfl))) (fun _ _ _ _ _ => dts_nil) (fun _ _ _ _ _ => (dsmK G_Book_is_kind hr (dkc (d_tup (dl dstr)) (dkl (dv 11)))))))) (ds_one (ds_ret (dcall G_L_same hr (dc (dv 10) (dl (dop r_add (dop r_mul (d_lst (dl dbl)) (dB r_len M.len (dl (dv 5)) (hv := bt_len))) (dop r_mul (d_lst (dl dbl)) (dB r_len M.len (dl (dv 8)) (hv := bt_len))))))))))))))))))))))))))))))))))
/-! ### _law_right -/
abbrev s_L_right : Stmt := top 53
def fb_L_right : EM O := (sSeq (eIf (tNo (eTruth (eCall0 F_L_by_hand_right))) (sRet (eCon (.bl false))) (eRet .nx)) (sSeq (sFor (iRange (eOne (eCon (.int 6)))) (gPut 1) (sSeq (sPar 2 3 (eCons (eOpN dTuple (eOne (eCallM F_L_names (eCons (eVar 0) (eOne (eOp2 dAdd (eCon (.int 1)) (eOp2 dMod (eVar 1) (eCon (.int 2))))))))) (eOne (eOp2 dMul (eLst (eOne (eCallM F_L_take (eCons (eVar 0) (eOne (eCon (.int 9))))))) (eOp2 dFdv (eVar 1) (eCon (.int 4))))))) (sSeq (sSet 4 (eCallM F_L_kind (eCons (eVar 0) (eCons (eVar 2) (eCons (eOp2 dIx (eCallM F_L_names (eCons (eVar 0) (eOne (eCon (.int 1))))) (eCon (.int 0))) (eCons (eCallM F_L_names (eCons (eVar 0) (eOne (eCon (.int 4))))) (eCons (eCon (.int 1)) (eCons (eCon (.int 3)) (eOne (eVar 3)))))))))) (sSeq (sSet 5 (eLst (eCons (eVar 4) (eOne (eCallV F_L_lists (eOne (eVar 4))))))) (sSeq (sFor (iRange (eOne (eCon (.int 7)))) (gPut 6) (sExp (eBind (hasL 5) fun _ => eApp 5 (eOne (eCallM F_L_bent (eCons (eVar 0) (eCons (eVar 4) (eCons (eVar 2) (eOne (eCon (.int 8))))))))))) (sFor (iAny (eVar 5)) (gPut 7) (sSeq (sSet 8 (eCallV F_L_is_kind (eCons (eVar 2) (eOne (eVar 7))))) (sSeq (sSet 9 (eLst (eCons (eCallV F_Book_is_kind (eCons (eVar 2) (eOne (eVar 7)))) (eOne (eCallV F_Book_is_kind (eCons (eOpN dList (eOne (eVar 2))) (eOne (eVar 7)))))))) (eIf (tNo (eTruth (eCallV F_L_same (eCons (eVar 9) (eOne (eLst (eCons (eVar 8) (eOne (eVar 8))))))))) (sRet (eCon (.bl false))) (eRet .nx)))))))))) (sRet (eCallV F_L_same (eCons (eCallV F_Book_is_kind (eCons (eTup (eCons (eCon (.str (Str.ofString "a"))) (eOne (eCon (.str (Str.ofString "b")))))) (eOne (eTup (eCons (eCon (.str (Str.ofString "k"))) (eCons (eTup (eOne (eCon (.str (Str.ofString "a"))))) (eOne (eTup (eCons (eCon (.str (Str.ofString "say"))) (eCons (eTup (eOne (eTup (eCons (eCon (.str (Str.ofString "make"))) (eCons (eCon (.str (Str.ofString "a"))) (eOne (eTup (eCons (eCon (.int 1)) (eOne (eCon (.int 2))))))))))) (eOne (eCon (.str (Str.ofString "b")))))))))))))) (eOne (eCon (.bl true))))))))
def F_L_right : EM R := runF 10 1 fb_L_right
theorem sc_L_right : FnScope ["_law_box_here", "_law_turn", "_law_names_so", "_law_consts_so", "_law_own", "_law_some", "_law_lap", "_law_matter", "_law_due", "_law_told_so"] ["_law_box_here"] (defScope s_L_right) := ⟨rfl, rfl, rfl, by decide +kernel, rfl, by decide +kernel, by decide +kernel⟩
theorem ok_L_right {f : Addr} {fd : FuncData} (G_L_by_hand_right : Fnk P w K mg base "_law_by_hand_right" 68 0 F_L_by_hand_right) (G_L_names : Fnk P w K mg base "_law_names" 3 2 F_L_names) (G_L_take : Fnk P w K mg base "_law_take" 1 2 F_L_take) (G_L_kind : Fnk P w K mg base "_law_kind" 64 7 F_L_kind) (G_L_lists : Fnk P w K mg base "_law_lists" 60 1 F_L_lists) (G_L_bent : Fnk P w K mg base "_law_bent" 63 4 F_L_bent) (G_L_is_kind : Fnk P w K mg base "_law_is_kind" 65 2 F_L_is_kind) (G_Book_is_kind : Smk P w K mg base "Book" "is_kind" ["fields", "thing"] 67 2 F_Book_is_kind) (G_L_same : Fnk P w K mg base "_law_same" 61 2 F_L_same) (M : MgB mg) (m : mg "_law_right" = some (.ref f)) (F : FnP K "_law_right" s_L_right f fd) : Fnk P w K mg base "_law_right" 69 1 F_L_right :=
  fnk_ok (N := ["_law_box_here", "_law_turn", "_law_names_so", "_law_consts_so", "_law_own", "_law_some", "_law_lap", "_law_matter", "_law_due", "_law_told_so"]) (ps := ["_law_box_here"]) m F sc_L_right (fun _ _ _ _ _ _ us hl => match us, hl with | [_], _ => rfl) fun cdv A outer s H E hr => (ds_cons (ds_if (dt_not (tv (dcall0 G_L_by_hand_right hr))) (ds_one (ds_ret dbl)) ds_nil) (ds_cons (ds_for PassesOwn.never rfl (di_range rfl M.range (dl dint)) (dg_name (i := 1) sc_L_right.nd rfl (by first | exact Or.inl rfl | exact Or.inr rfl) (by first | exact Or.inl rfl | exact Or.inr rfl)) (ds_cons (ds_par (i := 2) (j := 3) rfl sc_L_right.nd rfl rfl (by decide) rfl rfl (dc (dT r_tuple M.tuple (dl (dcallM G_L_names hr (dc (dv 0) (dl (dop r_add dint (dop r_mod (dv 1) dint)))))) (hv := bt_tuple)) (dl (dop r_mul (d_lst (dl (dcallM G_L_take hr (dc (dv 0) (dl dint))))) (dop r_fdv (dv 1) dint)))) rfl) (ds_cons (ds_set (i := 4) sc_L_right.nd rfl (by first | exact Or.inl rfl | exact Or.inr rfl) (by first | exact Or.inl rfl | exact Or.inr rfl) rfl (dcallM G_L_kind hr (dc (dv 0) (dc (dv 2) (dc (dix (dcallM G_L_names hr (dc (dv 0) (dl dint))) dint) (dc (dcallM G_L_names hr (dc (dv 0) (dl dint))) (dc dint (dc dint (dl (dv 3)))))))))) (ds_cons (ds_set (i := 5) sc_L_right.nd rfl (by first | exact Or.inl rfl | exact Or.inr rfl) (by first | exact Or.inl rfl | exact Or.inr rfl) rfl (d_lst (dc (dv 4) (dl (dcall G_L_lists hr (dl (dv 4))))))) (ds_cons (ds_for PassesOwn.never rfl (di_range rfl M.range (dl dint)) (dg_name (i := 6) sc_L_right.nd rfl (by first | exact Or.inl rfl | exact Or.inr rfl) (by first | exact Or.inl rfl | exact Or.inr rfl)) (ds_one (ds_expr rfl (dapp 5 (dl (dcallM G_L_bent hr (dc (dv 0) (dc (dv 4) (dc (dv 2) (dl dint)))))))))) (ds_one (ds_for PassesOwn.never rfl (di_any (dv 5)) (dg_name (i := 7) sc_L_right.nd rfl (by first | exact Or.inl rfl | exact Or.inr rfl) (by first | exact Or.inl rfl | exact Or.inr rfl)) (ds_cons (ds_set (i := 8) sc_L_right.nd rfl (by first | exact Or.inl rfl | exact Or.inr rfl) (by first | exact Or.inl rfl | exact Or.inr rfl) rfl (dcall G_L_is_kind hr (dc (dv 2) (dl (dv 7))))) (ds_cons (ds_set (i := 9) sc_L_right.nd rfl (by first | exact Or.inl rfl | exact Or.inr rfl) (by first | exact Or.inl rfl | exact Or.inr rfl) rfl (d_lst (dc (dsm G_Book_is_kind hr (dc (dv 2) (dl (dv 7)))) (dl (dsm G_Book_is_kind hr (dc (dT r_list M.list (dl (dv 2)) (hv := bt_list)) (dl (dv 7)))))))) (ds_one (ds_if (dt_not (tv (dcall G_L_same hr (dc (dv 9) (dl (d_lst (dc (dv 8) (dl (dv 8))))))))) (ds_one (ds_ret dbl)) ds_nil))))))))))) (ds_one (ds_ret (dcall G_L_same hr (dc (dsm G_Book_is_kind hr (dc (d_tup (dc dstr (dl dstr))) (dl (d_tup (dc dstr (dc (d_tup (dl dstr)) (dl (d_tup (dc dstr (dc (d_tup (dl (d_tup (dc dstr (dc dstr (dl (d_tup (dc dint (dl dint))))))))) (dl dstr))))))))))) (dl dbl)))))))
/-! ### law -/
abbrev s_law : Stmt := top 54
def fb_law : EM O := (sSeq (sSet 1 (eCallV F_L_cells (eCons (eVar 0) (eOne (eCon (.int 3)))))) (sRet (eOpN dAll (eOne (eLc (iRange (eOne (eOpN dLen (eOne (eVar 1))))) (gPut 2) (eRet true) (eCallM F_L_right (eOne (eCallV F_L_box (eCons (eVar 1) (eOne (eVar 2)))))) [2])))))
def F_law : EM R := runF 3 1 fb_law
theorem sc_law : FnScope ["_law_script", "_law_cells_here", "_law_k"] ["_law_script"] (defScope s_law) := ⟨rfl, rfl, rfl, by decide +kernel, rfl, by decide +kernel, by decide +kernel⟩
theorem ok_law {f : Addr} {fd : FuncData} (G_L_cells : Fnk P w K mg base "_law_cells" 1 2 F_L_cells) (G_L_right : Fnk P w K mg base "_law_right" 69 1 F_L_right) (G_L_box : Fnk P w K mg base "_law_box" 1 2 F_L_box) (M : MgB mg) (m : mg "law" = some (.ref f)) (F : FnP K "law" s_law f fd) : Fnk P w K mg base "law" 70 1 F_law :=
  fnk_ok (N := ["_law_script", "_law_cells_here", "_law_k"]) (ps := ["_law_script"]) m F sc_law (fun _ _ _ _ _ _ us hl => match us, hl with | [_], _ => rfl) fun cdv A outer s H E hr => (ds_cons (ds_set (i := 1) sc_law.nd rfl (by first | exact Or.inl rfl | exact Or.inr rfl) (by first | exact Or.inl rfl | exact Or.inr rfl) rfl (dcall G_L_cells hr (dc (dv 0) (dl dint)))) (ds_one (ds_ret (dB (r_all rfl) M.all (dl (d_lc (own := [("_law_k", 2)]) rfl sc_law.nd (di_range rfl M.range (dl (dB r_len M.len (dl (dv 1)) (hv := bt_len)))) (blkOk_by (own := [("_law_k", 2)]) (N := ["_law_script", "_law_cells_here", "_law_k"]) (sc := defScope s_law) (by decide +kernel)) (by decide) (fun _ _ _ _ _ => (dg_name (i := 2) sc_law.nd rfl (by first | exact Or.inl rfl | exact Or.inr rfl) (by first | exact Or.inl rfl | exact Or.inr rfl))) (fun _ _ _ _ _ => dts_nil) (fun _ _ _ _ _ => (dcallM G_L_right hr (dl (dcall G_L_box hr (dc (dv 1) (dl (dv 2))))))))) (hv := bt_all)))))
end
end Prg
/-! Mirrors: numbers, names, terms. -/
namespace Prg
open PySem PySem.Spec L2 DL
open PyProof.Rows hiding St
/-- no object, no type -/
def pl (d : Dat) : Bool := (tyN d).isSome
def numD : Dat → Bool
  | .int _ => true
  | _ => false
def strD : Dat → Bool
  | .str _ => true
  | _ => false
def tupD : Dat → Bool
  | .tup _ => true
  | _ => false
def letterC (c : Nat) : Bool := decide (97 ≤ c ∧ c < 123)
def nameS (z : Str) : Bool := decide (1 ≤ z.length ∧ z.length ≤ 8) && z.cps.toList.all letterC
def nmD : Dat → Bool
  | .str z => nameS z
  | _ => false
def tmD (N : List Str) : Dat → Bool
  | .int _ => true
  | .str z => N.any fun y => y == z
  | _ => false
/-- texts that are not too long to be measured -/
def szD : Dat → Bool
  | .str z => decide (z.length ≤ 100000)
  | _ => true
theorem isInt (d : Dat) (h : pl d = true) : dIsi [d, .ty "int"] = some (false, .bl (numD d || (match d with | .bl _ => true | _ => false))) := by
  cases d <;> first | rfl | (cases h; done)
theorem isBool (d : Dat) (h : pl d = true) : dIsi [d, .ty "bool"] = some (false, .bl (match d with | .bl _ => true | _ => false)) := by
  cases d <;> first | rfl | (cases h; done)
theorem isStr (d : Dat) (h : pl d = true) : dIsi [d, .ty "str"] = some (false, .bl (strD d)) := by
  cases d <;> first | rfl | (cases h; done)
theorem isTup (d : Dat) (h : pl d = true) : dIsi [d, .ty "tuple"] = some (false, .bl (tupD d)) := by
  cases d <;> first | rfl | (cases h; done)
theorem F_num (d : Dat) (h : pl d = true) : F_is_number [some (.val d)] = some (.val (.bl (numD d)), [some (.val d)]) := by
  cases d <;> first | rfl | (cases h; done)
theorem F_Lnum (d : Dat) (h : pl d = true) : F_L_is_number [some (.val d)] = some (.val (.bl (numD d)), [some (.val d)]) := by
  cases d <;> first | rfl | (cases h; done)
theorem allNames (z : Str) (h : z.length ≤ 100000) : True := trivial
end Prg
/-! is_name, is_term of both sides. -/
namespace Prg
open PySem PySem.Spec L2 DL
open PyProof.Rows hiding St
theorem occ_one (z : Str) (c : Nat) : occ z ⟨#[c]⟩ = decide (c ∈ z.cps.toList) := (PySem.StrLaws.found_one z c).symm ▸ rfl
theorem abc_has (c : Nat) : decide (c ∈ (Str.ofString "abcdefghijklmnopqrstuvwxyz").cps.toList) = letterC c := by
  have e : (Str.ofString "abcdefghijklmnopqrstuvwxyz").cps.toList = List.range' 97 26 := by decide +kernel
  rw [e]
  unfold letterC
  congr 1
  simp [List.mem_range'_1]
theorem az_le (c : Nat) : ((!decide ((⟨#[c]⟩ : Str).cps.toList < (Str.ofString "a").cps.toList)) && (!decide ((Str.ofString "z").cps.toList < (⟨#[c]⟩ : Str).cps.toList))) = letterC c := by
  show ((!decide ([c] < [97])) && (!decide ([122] < [c]))) = letterC c
  have h1 : ([c] < [97]) ↔ c < 97 := by rw [List.cons_lt_cons_iff]; simp
  have h2 : ([122] < [c]) ↔ 122 < c := by rw [List.cons_lt_cons_iff]; simp
  unfold letterC
  rw [Bool.eq_iff_iff]
  simp only [Bool.and_eq_true, Bool.not_eq_true', decide_eq_false_iff_not, decide_eq_true_eq, h1, h2]
  omega
theorem all_chs {p : Nat → Bool} {f : Dat → Bool} (h : ∀ c, f (chS c) = p c) (cs : List Nat) : (cs.map chS).all f = cs.all p := by
  induction cs with
  | nil => rfl
  | cons c cs ih => simp [h, ih]
theorem mem_chs {cs : List Nat} {d : Dat} (h : d ∈ cs.map chS) : ∃ c, d = chS c := by
  obtain ⟨c, _, e⟩ := List.mem_map.mp h
  exact ⟨c, e.symm⟩
def sgD (d : Dat) : Bool := match d with
  | .str ⟨#[c]⟩ => letterC c
  | _ => false
theorem F_Lname (d : Dat) (h : pl d = true) (hz : szD d = true) : F_L_is_name [some (.val d)] = some (.val (.bl (nmD d)), [some (.val d)]) := by
  cases d with
  | str z =>
    have hz' : z.length ≤ 100000 := by simpa [szD] using hz
    unfold F_L_is_name fb_L_is_name
    obtain ⟨L, comp, hall⟩ : ∃ L, eLc (iAny (eVar 0)) (gPut 1) (eRet true) (eOp2 dIn (eVar 1) (eCon (.str (Str.ofString "abcdefghijklmnopqrstuvwxyz")))) [1] [some (.val (.str z)), none] = some (.new (.lst L), [some (.val (.str z)), none]) ∧ dAll [.lst L] = some (false, .bl (z.cps.toList.all letterC)) := by
      refine ⟨(z.cps.toList.map chS).map fun d => .bl (sgD d), ?_, by rw [all_map, all_chs (p := letterC) (fun c => rfl)]⟩
      refine eLc_each (fun d => .bl (sgD d)) (fun d => .val (.bl (sgD d))) (by simp [itemsD]) rfl (by rw [List.length_map, Array.length_toList]; exact hz') fun d hd => ?_
      obtain ⟨c, rfl⟩ := mem_chs hd
      have e : sgD (chS c) = decide (c ∈ (Str.ofString "abcdefghijklmnopqrstuvwxyz").cps.toList) := (abc_has c).symm
      rw [e]
      simp [dIn, chS, occ_one]
    by_cases h1 : 0 < z.length
    · by_cases h2 : z.length < 9
      · have hn : nmD (.str z) = z.cps.toList.all letterC := by
          show (decide (1 ≤ z.length ∧ z.length ≤ 8) && _) = _
          rw [decide_eq_true ⟨h1, by omega⟩, Bool.true_and]
        rw [hn]
        have h2i : (z.length : Int) < 9 := by omega
        simp [a_run, noOwnB, isStr _ h, strD, truD, dLen, hz', dLt, h1, h2i, comp, hall]
      · have hn : nmD (.str z) = false := by
          show (decide (1 ≤ z.length ∧ z.length ≤ 8) && _) = _
          rw [decide_eq_false (by omega), Bool.false_and]
        have h2' : ¬ ((z.length : Int) < 9) := by omega
        rw [hn]
        simp [a_run, noOwnB, isStr _ h, strD, truD, dLen, hz', dLt, h1, h2']
    · have hn : nmD (.str z) = false := by
        show (decide (1 ≤ z.length ∧ z.length ≤ 8) && _) = _
        rw [decide_eq_false (by omega), Bool.false_and]
      have h1' : z.length = 0 := by omega
      rw [hn]
      simp [a_run, noOwnB, isStr _ h, strD, truD, dLen, dLt, h1']
  | _ => first | (cases h; done) | rfl
theorem F_name (d : Dat) (h : pl d = true) (hz : szD d = true) : F_is_name [some (.val d)] = some (.val (.bl (nmD d)), [some (.val d)]) := by
  cases d with
  | str z =>
    have hz' : z.length ≤ 100000 := by simpa [szD] using hz
    unfold F_is_name fb_is_name
    obtain ⟨L, comp, hall⟩ : ∃ L, eLc (iAny (eVar 0)) (gPut 1) (eRet true) (eChain dLe dLe (eCon (.str (Str.ofString "a"))) (eVar 1) (eCon (.str (Str.ofString "z")))) [1] [some (.val (.str z)), none] = some (.new (.lst L), [some (.val (.str z)), none]) ∧ dAll [.lst L] = some (false, .bl (z.cps.toList.all letterC)) := by
      refine ⟨(z.cps.toList.map chS).map fun d => .bl (sgD d), ?_, by rw [all_map, all_chs (p := letterC) (fun c => rfl)]⟩
      refine eLc_each (fun d => .bl (sgD d)) (fun d => .val (.bl (sgD d))) (by simp [itemsD]) rfl (by rw [List.length_map, Array.length_toList]; exact hz') fun d hd => ?_
      obtain ⟨c, rfl⟩ := mem_chs hd
      have e : sgD (chS c) = _ := (az_le c).symm
      rw [e]
      simp only [a_chain, a_con, at_some, a_var, List.set_cons_succ, List.set_cons_zero, List.getElem?_cons_succ, List.getElem?_cons_zero, slotV_s, a_look, l_val, we_some, l_bor, slotD_s, chS, dLe, chO_t]
      cases (decide ((⟨#[c]⟩ : Str).cps.toList < (Str.ofString "a").cps.toList)) <;> simp
    by_cases h1 : 1 ≤ z.length
    · by_cases h2 : z.length ≤ 8
      · have hn : nmD (.str z) = z.cps.toList.all letterC := by
          show (decide (1 ≤ z.length ∧ z.length ≤ 8) && _) = _
          rw [decide_eq_true ⟨h1, h2⟩, Bool.true_and]
        have h1' : (1 : Int) ≤ (z.length : Int) := by omega
        have h2' : (z.length : Int) ≤ 8 := by omega
        rw [hn]
        simp [a_run, noOwnB, isStr _ h, strD, truD, dLen, hz', dLe, h1', h2', comp, hall]
      · have hn : nmD (.str z) = false := by
          show (decide (1 ≤ z.length ∧ z.length ≤ 8) && _) = _
          rw [decide_eq_false (by omega), Bool.false_and]
        have h1' : (1 : Int) ≤ (z.length : Int) := by omega
        have h2' : ¬ ((z.length : Int) ≤ 8) := by omega
        rw [hn]
        simp [a_run, noOwnB, isStr _ h, strD, truD, dLen, hz', dLe, h1', h2']
    · have hn : nmD (.str z) = false := by
        show (decide (1 ≤ z.length ∧ z.length ≤ 8) && _) = _
        rw [decide_eq_false (by omega), Bool.false_and]
      have h1' : z.length = 0 := by omega
      rw [hn]
      simp [a_run, noOwnB, isStr _ h, strD, truD, dLen, dLe, h1']
  | _ => first | (cases h; done) | rfl
theorem in_strs (z : Str) : ∀ N : List Str, inDs (.str z) (N.map .str) = some (N.any fun y => y == z)
  | [] => rfl
  | y :: N => by
    have e : eqQ (.str y) (.str z) = some (y == z) := by
      simp [eqQ, depD, noObj, eqD]
    show (match eqQ (.str y) (.str z), inDs (.str z) (N.map .str) with
      | some a, some b => some (a || b)
      | _, _ => none) = _
    rw [e, in_strs z N]
    rfl
theorem F_Lterm (N : List Str) (d : Dat) (h : pl d = true) : F_L_is_term [some (.val d), some (.val (.lst (N.map .str)))] = some (.val (.bl (tmD N d)), [some (.val d), some (.val (.lst (N.map .str)))]) := by
  unfold F_L_is_term fb_L_is_term
  cases d <;> first | (cases h; done) | simp [a_run, noOwnB, F_Lnum, h, numD, truD, isStr _ h, strD, dIn, in_strs, tmD]
theorem F_term (N : List Str) (s : List Dat) (d : Dat) (h : pl d = true) : F_is_term [some (.val (.tup (.tup (N.map .str) :: s))), some (.val d)] = some (.val (.bl (tmD N d)), [some (.val (.tup (.tup (N.map .str) :: s))), some (.val d)]) := by
  unfold F_is_term fb_is_term
  cases d <;> first | (cases h; done) | simp [a_run, noOwnB, F_num, h, numD, truD, isStr _ h, strD, dIn, in_strs, tmD, dIx, atI, ixN]
end Prg
/-! The law's is_change, is_say, is_body. -/
namespace Prg
open PySem PySem.Spec L2 DL
open PyProof.Rows hiding St
def okF : Dat → Prop
  | .non => True
  | .bl _ => True
  | .int _ => True
  | .str z => z.length ≤ 1000
  | .dct _ ds => depDs ds ≤ 3 ∧ noObjs ds = true
  | _ => False
/-- data no deeper than that, none too long -/
def okD : Nat → Dat → Prop
  | 0, d => okF d
  | n + 1, .tup ds => ds.length ≤ 1000 ∧ ∀ x ∈ ds, okD n x
  | n + 1, .lst ds => ds.length ≤ 1000 ∧ ∀ x ∈ ds, okD n x
  | _ + 1, d => okF d
theorem okD.facts : ∀ {n : Nat} {d : Dat}, okD n d → pl d = true ∧ szD d = true ∧ noObj d = true ∧ depD d ≤ n + 4
  | 0, d, h => by
    cases d with
    | str z =>
      have : z.length ≤ 1000 := h
      refine ⟨rfl, ?_, rfl, Nat.zero_le _⟩
      simp only [szD, decide_eq_true_eq]
      omega
    | dct ks ds => exact ⟨rfl, rfl, h.2, by rw [depD]; have := h.1; omega⟩
    | non => exact ⟨rfl, rfl, rfl, Nat.zero_le _⟩
    | bl => exact ⟨rfl, rfl, rfl, Nat.zero_le _⟩
    | int => exact ⟨rfl, rfl, rfl, Nat.zero_le _⟩
    | _ => exact h.elim
  | n + 1, .tup ds, h => by
    have key : ∀ es : List Dat, (∀ x ∈ es, okD n x) → noObjs es = true ∧ depDs es ≤ n + 4 := fun es => by
      induction es with
      | nil => intro _; exact ⟨rfl, Nat.zero_le _⟩
      | cons e es ih =>
        intro hx
        have h1 := okD.facts (hx e (by simp))
        have h2 := ih fun x hx' => hx x (by simp [hx'])
        exact ⟨by rw [noObjs, h1.2.2.1, h2.1]; rfl, by rw [depDs]; exact Nat.max_le.mpr ⟨h1.2.2.2, h2.2⟩⟩
    have := key ds h.2
    exact ⟨rfl, rfl, this.1, by rw [depD]; omega⟩
  | n + 1, .lst ds, h => by
    have key : ∀ es : List Dat, (∀ x ∈ es, okD n x) → noObjs es = true ∧ depDs es ≤ n + 4 := fun es => by
      induction es with
      | nil => intro _; exact ⟨rfl, Nat.zero_le _⟩
      | cons e es ih =>
        intro hx
        have h1 := okD.facts (hx e (by simp))
        have h2 := ih fun x hx' => hx x (by simp [hx'])
        exact ⟨by rw [noObjs, h1.2.2.1, h2.1]; rfl, by rw [depDs]; exact Nat.max_le.mpr ⟨h1.2.2.2, h2.2⟩⟩
    have := key ds h.2
    exact ⟨rfl, rfl, this.1, by rw [depD]; omega⟩
  | n + 1, .non, _ => ⟨rfl, rfl, rfl, Nat.zero_le _⟩
  | n + 1, .bl _, _ => ⟨rfl, rfl, rfl, Nat.zero_le _⟩
  | n + 1, .int _, _ => ⟨rfl, rfl, rfl, Nat.zero_le _⟩
  | n + 1, .str z, h => by
    have : z.length ≤ 1000 := h
    refine ⟨rfl, ?_, rfl, Nat.zero_le _⟩
    simp only [szD, decide_eq_true_eq]
    omega
  | n + 1, .dct ks ds, h => ⟨rfl, rfl, h.2, by rw [depD]; have := h.1; omega⟩
  | n + 1, .ty _, h => h.elim
  | n + 1, .obj _ _ _, h => h.elim
theorem okD.pl {n : Nat} {d : Dat} (h : okD n d) : pl d = true := h.facts.1
theorem okD.sz {n : Nat} {d : Dat} (h : okD n d) : szD d = true := h.facts.2.1
/-- a text, that one -/
def isS (s : Str) : Dat → Bool
  | .str z => s == z
  | _ => false
theorem eqD_s (s : Str) {d : Dat} (h : pl d = true) : eqD (.str s) d = some (isS s d) := by
  cases d <;> first | (cases h; done) | simp [eqD, isS]
theorem eqD_s' (s : Str) {d : Dat} (h : pl d = true) : eqD d (.str s) = some (isS s d) := by
  cases d with
  | str z =>
    simp only [eqD, isS]
    rw [Bool.beq_comm]
  | _ => first | (cases h; done) | simp [eqD, isS]
theorem eqQ_s {n : Nat} (s : Str) {d : Dat} (h : okD n d) : eqQ (.str s) d = some (isS s d) := by
  unfold eqQ
  rw [if_pos ⟨Nat.zero_le _, rfl, h.facts.2.2.1⟩]
  exact eqD_s s h.pl
theorem eqQ_s' {n : Nat} (s : Str) {d : Dat} (h : okD n d) (hn : n ≤ 40) : eqQ d (.str s) = some (isS s d) := by
  unfold eqQ
  rw [if_pos ⟨by have := h.facts.2.2.2; omega, h.facts.2.2.1, rfl⟩]
  exact eqD_s' s h.pl
@[simp] theorem eqQ_ii (i j : Int) : eqQ (.int i) (.int j) = some (i == j) := by
  simp [eqQ, depD, noObj, eqD]
@[simp] theorem eqQ_ss (i j : Str) : eqQ (.str i) (.str j) = some (i == j) := by
  simp [eqQ, depD, noObj, eqD]
def inF (F : List Str) (d : Dat) : Bool := F.any fun s => isS s d
theorem inDs_F {n : Nat} {d : Dat} (h : okD n d) : ∀ F : List Str, inDs d (F.map .str) = some (inF F d)
  | [] => rfl
  | s :: F => by
    show (match eqQ (.str s) d, inDs d (F.map .str) with
      | some a, some b => some (a || b)
      | _, _ => none) = _
    rw [eqQ_s s h, inDs_F h F]
    rfl
theorem dIn_F {n : Nat} {d : Dat} (h : okD n d) (F : List Str) : dIn d (.tup (F.map .str)) = some (false, .bl (inF F d)) := by
  have e : dIn d (.tup (F.map .str)) = (inDs d (F.map .str)).map fun k => (false, .bl k) := by
    cases d <;> rfl
  rw [e, inDs_F h]
  rfl
theorem dNotIn_F {n : Nat} {d : Dat} (h : okD n d) (F : List Str) : dNotIn d (.tup (F.map .str)) = some (false, .bl (!inF F d)) := by
  have e : dNotIn d (.tup (F.map .str)) = (inDs d (F.map .str)).map fun k => (false, .bl (!k)) := by
    cases d <;> rfl
  rw [e, inDs_F h]
  rfl
def recD (F N : List Str) : Dat → Bool
  | .tup ts => ts.length == F.length && ts.all (tmD N)
  | _ => false
@[simp] theorem tupD_t (ds : List Dat) : tupD (.tup ds) = true := rfl
def chD (F N : List Str) : Dat → Bool
  | .tup [x, t] => isS (Str.ofString "drop") x && tmD N t
  | .tup [x, t, v] => isS (Str.ofString "make") x && (tmD N t && recD F N v)
  | .tup [x, t, f, u] => isS (Str.ofString "set") x && (tmD N t && (inF F f && tmD N u))
  | _ => false
theorem chD_no {F N : List Str} {d : Dat} (h : tupD d = false) : chD F N d = false := by
  cases d <;> first | rfl | cases h
theorem chD_len {F N : List Str} {ds : List Dat} (h : ds.length ≠ 2 ∧ ds.length ≠ 3 ∧ ds.length ≠ 4) : chD F N (.tup ds) = false := by
  match ds, h with
  | [], _ => rfl
  | [_], _ => rfl
  | [_, _], h => exact absurd rfl h.1
  | [_, _, _], h => exact absurd rfl h.2.1
  | [_, _, _, _], h => exact absurd rfl h.2.2
  | _ :: _ :: _ :: _ :: _ :: _, _ => rfl
theorem okD.at {n : Nat} {ds : List Dat} (h : okD (n + 1) (.tup ds)) : ds.length ≤ 1000 ∧ ∀ x ∈ ds, okD n x := h
theorem okD.up : ∀ {n : Nat} {d : Dat}, okD n d → tupD d = true → ∃ m ds, n = m + 1 ∧ d = .tup ds
  | 0, d, h, t => by cases d <;> first | exact h.elim | cases t
  | n + 1, d, h, t => by cases d <;> first | exact ⟨n, _, rfl, rfl⟩ | cases t
/-- no tuple, no change -/
theorem L_change (F N : List Str) {n : Nat} {d : Dat} (h : okD n d) (hn : n ≤ 40) (hF : F.length ≤ 1000) :
    F_L_is_change [some (.val (.tup (F.map .str))), some (.val d), some (.val (.lst (N.map .str)))] = some (.val (.bl (chD F N d)), [some (.val (.tup (F.map .str))), some (.val d), some (.val (.lst (N.map .str)))]) := by
  unfold F_L_is_change fb_L_is_change
  cases ht : tupD d with
  | false =>
    rw [chD_no ht]
    simp [a_run, noOwnB, isTup _ h.pl, ht, truD]
  | true =>
    obtain ⟨m, ds, rfl, rfl⟩ := h.up ht
    obtain ⟨hl, hx⟩ := h.at
    by_cases hlen : ds.length ≠ 2 ∧ ds.length ≠ 3 ∧ ds.length ≠ 4
    · rw [chD_len hlen]
      have e : dNotIn (.int ds.length) (.tup [.int 2, .int 3, .int 4]) = some (false, .bl true) := by
        have h1 : (2 : Int) ≠ (ds.length : Int) := by omega
        have h2 : (3 : Int) ≠ (ds.length : Int) := by omega
        have h3 : (4 : Int) ≠ (ds.length : Int) := by omega
        simp [dNotIn, inDs, h1, h2, h3]
      simp [a_run, noOwnB, isTup _ h.pl, truD, dLen, e]
    · match ds, hlen, hx with
      | [x, t], _, hx =>
        have h0 := hx x (by simp)
        have h1 := hx t (by simp)
        cases c1 : tmD N t <;> cases c2 : isS (Str.ofString "drop") x <;>
        simp [a_run, noOwnB, isTup _ h.pl, truD, dLen, dNotIn, inDs, dIx, atI, ixN, F_Lterm, h1.pl, c1, c2, dEq, eqQ_s' _ h0 (by omega), chD]
      | [x, t, v], _, hx =>
        have h0 := hx x (by simp)
        have h1 := hx t (by simp)
        have h2 := hx v (by simp)
        cases ht2 : tupD v with
        | false =>
          have e : recD F N v = false := by cases v <;> first | rfl | cases ht2
          cases c1 : tmD N t <;> cases c2 : isS (Str.ofString "make") x <;>
          simp [a_run, noOwnB, isTup _ h.pl, isTup _ h2.pl, ht2, truD, dLen, dNotIn, inDs, dIx, atI, ixN, F_Lterm, h1.pl, c1, c2, dEq, dNe, eqQ_s' _ h0 (by omega), chD, e]
        | true =>
          obtain ⟨k, ts, rfl, rfl⟩ := h2.up ht2
          obtain ⟨hl2, hx2⟩ := h2.at
          have comp : ∀ x t : Dat, eLc (iAny (eOp2 dIx (eVar 1) (eCon (.int 2)))) (gPut 3) (eRet true) (eCallV F_L_is_term (eCons (eVar 3) (eOne (eVar 2)))) [3] [some (.val (.tup (F.map .str))), some (.val (.tup [x, t, .tup ts])), some (.val (.lst (N.map .str))), none] =
              some (.new (.lst (ts.map fun d => .bl (tmD N d))), [some (.val (.tup (F.map .str))), some (.val (.tup [x, t, .tup ts])), some (.val (.lst (N.map .str))), none]) := fun x t => by
            refine eLc_each (fun d => .bl (tmD N d)) (fun d => .val (.bl (tmD N d))) (by simp [itemsD, dIx, atI, ixN]) rfl (by omega) fun d hd => ?_
            simp [F_Lterm, (hx2 d hd).pl]
          have e2 : ((ts.length : Int) == (F.length : Int)) = (ts.length == F.length) := by
            rw [Bool.eq_iff_iff]
            simp
            omega
          cases c1 : tmD N t <;> cases c2 : isS (Str.ofString "make") x <;> cases c3 : (ts.length == F.length) <;>
          simp [a_run, noOwnB, isTup _ h.pl, isTup _ h2.pl, truD, dLen, dNotIn, inDs, dIx, atI, ixN, F_Lterm, h1.pl, c1, c2, dEq, dNe, eqQ_s' _ h0 (by omega), chD, recD, e2, c3, comp, all_map]
      | [x, t, f, u], _, hx =>
        have h0 := hx x (by simp)
        have h1 := hx t (by simp)
        have h2 := hx f (by simp)
        have h3 := hx u (by simp)
        cases c1 : tmD N t <;> cases c2 : isS (Str.ofString "set") x <;> cases c3 : inF F f <;> cases c4 : tmD N u <;>
        simp [a_run, noOwnB, isTup _ h.pl, truD, dLen, dNotIn, inDs, dIx, atI, ixN, F_Lterm, h1.pl, h3.pl, c1, c2, c3, c4, dEq, dNe, eqQ_s' _ h0 (by omega), chD, dIn_F h2]
      | [], hlen, _ => exact absurd (by simp) hlen
      | [_], hlen, _ => exact absurd (by simp) hlen
      | _ :: _ :: _ :: _ :: _ :: _, hlen, _ => exact absurd (by simp) hlen
def syD (F N : List Str) (c w : Dat) : Bool := nmD w && (match c with
  | .tup cs => cs.all (chD F N)
  | _ => false)
theorem L_say (F N : List Str) {n : Nat} {x c w : Dat} (h : okD (n + 1) (.tup [x, c, w])) (hn : n ≤ 40) (hF : F.length ≤ 1000) :
    F_L_is_say [some (.val (.tup (F.map .str))), some (.val (.tup [x, c, w])), some (.val (.lst (N.map .str)))] = some (.val (.bl (syD F N c w)), [some (.val (.tup (F.map .str))), some (.val (.tup [x, c, w])), some (.val (.lst (N.map .str)))]) := by
  unfold F_L_is_say fb_L_is_say
  obtain ⟨hl, hx⟩ := h.at
  have h1 := hx c (by simp)
  have h2 := hx w (by simp)
  cases ht : tupD c with
  | false =>
    have e : syD F N c w = false := by
      unfold syD
      cases c <;> first | (exact Bool.and_false _) | cases ht
    rw [e]
    cases c1 : nmD w <;> simp [a_run, noOwnB, isTup _ h1.pl, ht, truD, dIx, atI, ixN, F_Lname, h2.pl, h2.sz, c1]
  | true =>
    obtain ⟨m, cs, rfl, rfl⟩ := h1.up ht
    obtain ⟨hl2, hx2⟩ := h1.at
    have comp : eLc (iAny (eOp2 dIx (eVar 1) (eCon (.int 1)))) (gPut 3) (eRet true) (eCallV F_L_is_change (eCons (eVar 0) (eCons (eVar 3) (eOne (eVar 2))))) [3] [some (.val (.tup (F.map .str))), some (.val (.tup [x, .tup cs, w])), some (.val (.lst (N.map .str))), none] =
        some (.new (.lst (cs.map fun d => .bl (chD F N d))), [some (.val (.tup (F.map .str))), some (.val (.tup [x, .tup cs, w])), some (.val (.lst (N.map .str))), none]) := by
      refine eLc_each (fun d => .bl (chD F N d)) (fun d => .val (.bl (chD F N d))) (by simp [itemsD, dIx, atI, ixN]) rfl (by omega) fun d hd => ?_
      simp [L_change F N (hx2 d hd) (by omega) hF]
    cases c1 : nmD w <;> simp [a_run, noOwnB, isTup _ h1.pl, truD, dIx, atI, ixN, F_Lname, h2.pl, h2.sz, c1, comp, all_map, syD]
end Prg
/-! The law's is_body. -/
namespace Prg
open PySem PySem.Spec L2 DL
open PyProof.Rows hiding St
/-- a number or a text -/
def kyD : Dat → Bool
  | .int _ => true
  | .str _ => true
  | _ => false
def eqB (s d : Dat) : Bool := match eqD s d with
  | some b => b
  | none => false
def inT (T : List Dat) (d : Dat) : Bool := T.any fun s => eqB s d
theorem kyD_tm {N : List Str} {d : Dat} (h : tmD N d = true) : kyD d = true := by
  cases d <;> first | rfl | cases h
theorem eqQ_ky {s d : Dat} (h1 : kyD s = true) (h2 : kyD d = true) : eqQ s d = some (eqB s d) := by
  cases s <;> first | (cases h1; done) | (cases d <;> first | (cases h2; done) | simp [eqQ, depD, noObj, eqD, eqB])
theorem inDs_T {d : Dat} (h : kyD d = true) : ∀ T : List Dat, (∀ s ∈ T, kyD s = true) → inDs d T = some (inT T d)
  | [], _ => rfl
  | s :: T, hT => by
    show (match eqQ s d, inDs d T with
      | some a, some b => some (a || b)
      | _, _ => none) = _
    rw [eqQ_ky (hT s (by simp)) h, inDs_T h T fun x hx => hT x (by simp [hx])]
    rfl
theorem dNotIn_T {d : Dat} (h : kyD d = true) {T : List Dat} (hT : ∀ s ∈ T, kyD s = true) : dNotIn d (.lst T) = some (false, .bl (!inT T d)) := by
  have e : dNotIn d (.lst T) = (inDs d T).map fun k => (false, .bl (!k)) := by
    cases d <;> rfl
  rw [e, inDs_T h T hT]
  rfl
theorem dIn_N (z : Str) (N : List Str) : dIn (.str z) (.lst (N.map .str)) = some (false, .bl (N.any fun y => y == z)) := by
  have e : dIn (.str z) (.lst (N.map .str)) = (inDs (.str z) (N.map .str)).map fun k => (false, .bl k) := rfl
  rw [e, in_strs]
  rfl
def strOf : Dat → Str
  | .str z => z
  | _ => ⟨#[]⟩
def inN (N : List Str) (d : Dat) : Bool := N.any fun y => y == strOf d
theorem nmD_str {d : Dat} (h : nmD d = true) : d = .str (strOf d) := by
  cases d <;> first | rfl | cases h
def bodyD (F : List Str) : Nat → List Str → List Dat → Dat → Bool
  | n + 1, N, T, .tup (x :: ds) =>
    if isS (Str.ofString "say") x = true then (match ds with
      | [c, w] => syD F N c w
      | _ => false)
    else if isS (Str.ofString "has") x = true then (match ds with
      | [t, a, b] => tmD N t && (bodyD F n N (T ++ [t]) a && bodyD F n N T b)
      | _ => false)
    else if isS (Str.ofString "is") x = true then (match ds with
      | [t, f, u, a, b] => (tmD N t && tmD N u) && ((inT T t && inF F f) && (bodyD F n N T a && bodyD F n N T b))
      | _ => false)
    else if isS (Str.ofString "let") x = true then (match ds with
      | [y, t, f, a] => (nmD y && !inN N y) && (tmD N t && (inT T t && (inF F f && bodyD F n (N ++ [strOf y]) T a)))
      | _ => false)
    else false
  | _, _, _, _ => false
abbrev eB (F N : List Str) (T : List Dat) (d : Dat) : DL.Env := [some (.val (.tup (F.map .str))), some (.val d), some (.val (.lst (N.map .str))), some (.val (.lst T))]
theorem isS_str {s : Str} {x : Dat} (h : isS s x = true) : x = .str s := by
  cases x with
  | str z =>
    have : s = z := by simpa [isS] using h
    rw [this]
  | _ => cases h
theorem len_ne (n k : Nat) (h : n ≠ k) : ((n : Int) == (k : Int)) = false := by
  rw [beq_eq_false_iff_ne]
  omega
theorem L_body (F : List Str) (hF : F.length ≤ 1000) : ∀ (m n : Nat) (N : List Str) (T : List Dat) (d : Dat), n < m → n ≤ 40 → okD n d → (∀ s ∈ T, kyD s = true) → T.length + m ≤ 2000 → N.length + m ≤ 2000 →
    FR_L_is_body m (eB F N T d) = some (.val (.bl (bodyD F m N T d)), eB F N T d) := by
  intro m
  induction m with
  | zero => intro n N T d h; omega
  | succ m ih =>
    intro n N T d hnm hn hd hT hTl hNl
    show runF 7 4 (fb_L_is_body (FR_L_is_body m)) _ = _
    unfold fb_L_is_body
    cases ht : tupD d with
    | false =>
      have e : bodyD F (m + 1) N T d = false := by cases d <;> first | rfl | cases ht
      rw [e]
      simp [a_run, noOwnB, isTup _ hd.pl, ht, truD]
    | true =>
      obtain ⟨k, ds, rfl, rfl⟩ := hd.up ht
      obtain ⟨hl, hx⟩ := hd.at
      match ds, hd, hl, hx with
      | [], hd, hl, hx =>
        have e : eqQ (.tup []) (.tup []) = some true := by simp [eqQ, depD, depDs, noObj, noObjs, eqD, eqDs]
        have e2 : bodyD F (m + 1) N T (.tup []) = false := rfl
        rw [e2]
        simp [a_run, noOwnB, isTup _ hd.pl, truD, dEq, e]
      | x :: ds, hd, hl, hx =>
        have hx0 := hx x (by simp)
        have e : eqQ (.tup (x :: ds)) (.tup []) = some false := by
          have h1 := hd.facts
          unfold eqQ
          rw [if_pos ⟨by omega, h1.2.2.1, rfl⟩]
          simp [eqD, eqDs]
        cases hs : strD x with
        | false =>
          have no : ∀ z, isS z x = false := fun z => by cases x <;> first | rfl | cases hs
          have e2 : bodyD F (m + 1) N T (.tup (x :: ds)) = false := by simp [bodyD, no]
          rw [e2]
          simp [a_run, noOwnB, isTup _ hd.pl, truD, dEq, e, dIx, atI, ixN, isStr _ hx0.pl, hs]
        | true =>
          have hz : ∃ z, x = .str z := by cases x <;> first | exact ⟨_, rfl⟩ | cases hs
          obtain ⟨z, rfl⟩ := hz
          have hlen : (((.str z : Dat) :: ds).length : Int) = (ds.length : Int) + 1 := by simp
          by_cases z1 : Str.ofString "say" = z
          · subst z1
            by_cases hq : ds.length = 2
            · match ds, hq, hd, hl, hx, e with
              | [c, w], _, hd, hl, hx, e =>
                simp [a_run, noOwnB, isTup _ hd.pl, truD, dEq, e, dIx, atI, ixN, isStr _ hx0.pl, strD, dLen, L_say F N hd (by omega : k ≤ 40) hF, bodyD, isS]
            · have e2 : bodyD F (m + 1) N T (.tup (.str (Str.ofString "say") :: ds)) = false := by
                match ds, hq with
                | [], _ => rfl
                | [_], _ => rfl
                | [_, _], h => exact absurd rfl h
                | _ :: _ :: _ :: _, _ => rfl
              have hq' : ((ds.length : Int) + 1 == 3) = false := by rw [beq_eq_false_iff_ne]; omega
              rw [e2]
              simp [a_run, noOwnB, isTup _ hd.pl, truD, dEq, e, dIx, atI, ixN, isStr _ hx0.pl, strD, dLen, hq']
          · have n1 : (z == Str.ofString "say") = false := by rw [beq_eq_false_iff_ne]; exact fun h => z1 h.symm
            have n1' : (Str.ofString "say" == z) = false := by rw [beq_eq_false_iff_ne]; exact z1
            by_cases z2 : Str.ofString "has" = z
            · subst z2
              by_cases hq : ds.length = 3
              · match ds, hq, hd, hl, hx, e with
                | [t, a, b], _, hd, hl, hx, e =>
                  have ht := hx t (by simp)
                  have ha := hx a (by simp)
                  have hb := hx b (by simp)
                  cases c1 : tmD N t with
                  | false => simp [a_run, noOwnB, isTup _ hd.pl, truD, dEq, dNe, e, dIx, atI, ixN, isStr _ hx0.pl, strD, dLen, n1, F_Lterm, ht.pl, c1, bodyD, isS, n1']
                  | true =>
                    have i1 := ih k N (T ++ [t]) a (by omega) (by omega) ha (fun s hs => by
                      rcases List.mem_append.mp hs with h | h
                      · exact hT s h
                      · rw [List.mem_singleton.mp h]; exact kyD_tm c1) (by simp; omega) (by omega)
                    have i2 := ih k N T b (by omega) (by omega) hb hT (by omega) (by omega)
                    have hTl' : T.length + 1 ≤ 100000 := by omega
                    cases c2 : bodyD F m N (T ++ [t]) a with
                    | false =>
                      rw [c2] at i1
                      simp [a_run, noOwnB, isTup _ hd.pl, truD, dEq, dNe, e, dIx, atI, ixN, isStr _ hx0.pl, strD, dLen, n1, F_Lterm, ht.pl, c1, dAdd, hTl', i1, c2, bodyD, isS, n1']
                    | true =>
                      rw [c2] at i1
                      simp [a_run, noOwnB, isTup _ hd.pl, truD, dEq, dNe, e, dIx, atI, ixN, isStr _ hx0.pl, strD, dLen, n1, F_Lterm, ht.pl, c1, dAdd, hTl', i1, i2, c2, bodyD, isS, n1']
              · have e2 : bodyD F (m + 1) N T (.tup (.str (Str.ofString "has") :: ds)) = false := by
                  match ds, hq with
                  | [], _ => rfl
                  | [_], _ => rfl
                  | [_, _], _ => rfl
                  | [_, _, _], h => exact absurd rfl h
                  | _ :: _ :: _ :: _ :: _, _ => rfl
                have hq' : ((ds.length : Int) + 1 == 4) = false := by rw [beq_eq_false_iff_ne]; omega
                rw [e2]
                simp [a_run, noOwnB, isTup _ hd.pl, truD, dEq, dNe, e, dIx, atI, ixN, isStr _ hx0.pl, strD, dLen, n1, hq']
            · have n2 : (z == Str.ofString "has") = false := by rw [beq_eq_false_iff_ne]; exact fun h => z2 h.symm
              have n2' : (Str.ofString "has" == z) = false := by rw [beq_eq_false_iff_ne]; exact z2
              by_cases z3 : Str.ofString "is" = z
              · subst z3
                by_cases hq : ds.length = 5
                · match ds, hq, hd, hl, hx, e with
                  | [t, f, u, a, b], _, hd, hl, hx, e =>
                    have ht := hx t (by simp)
                    have hf := hx f (by simp)
                    have hu := hx u (by simp)
                    have ha := hx a (by simp)
                    have hb := hx b (by simp)
                    cases c1 : tmD N t with
                    | false => simp [a_run, noOwnB, isTup _ hd.pl, truD, dEq, dNe, e, dIx, atI, ixN, isStr _ hx0.pl, strD, dLen, n1, n2, F_Lterm, ht.pl, c1, bodyD, isS, n1', n2']
                    | true =>
                      cases c2 : tmD N u with
                      | false => simp [a_run, noOwnB, isTup _ hd.pl, truD, dEq, dNe, e, dIx, atI, ixN, isStr _ hx0.pl, strD, dLen, n1, n2, F_Lterm, ht.pl, hu.pl, c1, c2, bodyD, isS, n1', n2']
                      | true =>
                        have hin := dNotIn_T (kyD_tm c1) hT
                        cases c3 : inT T t with
                        | false =>
                          rw [c3] at hin
                          simp [a_run, noOwnB, isTup _ hd.pl, truD, dEq, dNe, e, dIx, atI, ixN, isStr _ hx0.pl, strD, dLen, n1, n2, F_Lterm, ht.pl, hu.pl, c1, c2, hin, c3, bodyD, isS, n1', n2']
                        | true =>
                          rw [c3] at hin
                          have hif := dNotIn_F hf F
                          cases c4 : inF F f with
                          | false =>
                            rw [c4] at hif
                            simp [a_run, noOwnB, isTup _ hd.pl, truD, dEq, dNe, e, dIx, atI, ixN, isStr _ hx0.pl, strD, dLen, n1, n2, F_Lterm, ht.pl, hu.pl, c1, c2, hin, c3, hif, c4, bodyD, isS, n1', n2']
                          | true =>
                            rw [c4] at hif
                            have i1 := ih k N T a (by omega) (by omega) ha hT (by omega) (by omega)
                            have i2 := ih k N T b (by omega) (by omega) hb hT (by omega) (by omega)
                            have comp : eLc (iAny (eCut (eVar 1) (oInt (eCon (.int 4))) oNone)) (gPut 6) (eRet true) (eCallV (FR_L_is_body m) (eCons (eVar 0) (eCons (eVar 6) (eCons (eVar 2) (eOne (eVar 3)))))) [6] [some (.val (.tup (F.map .str))), some (.val (.tup [.str (Str.ofString "is"), t, f, u, a, b])), some (.val (.lst (N.map .str))), some (.val (.lst T)), some (.val (.str (Str.ofString "is"))), some (.val (.int 6)), none] =
                                some (.new (.lst ([a, b].map fun d => .bl (bodyD F m N T d))), [some (.val (.tup (F.map .str))), some (.val (.tup [.str (Str.ofString "is"), t, f, u, a, b])), some (.val (.lst (N.map .str))), some (.val (.lst T)), some (.val (.str (Str.ofString "is"))), some (.val (.int 6)), none]) := by
                              refine eLc_each (fun d => .bl (bodyD F m N T d)) (fun d => .val (.bl (bodyD F m N T d))) (by simp [itemsD, dCut, DL.cutD, HT.sIx]) rfl (by simp) fun d hd2 => ?_
                              rcases List.mem_cons.mp hd2 with h | h
                              · subst h
                                simp [i1]
                              · rw [List.mem_singleton.mp h]
                                simp [i2]
                            have hall := all_map (fun d => bodyD F m N T d) [a, b]
                            simp only [List.map_cons, List.map_nil] at comp hall
                            simp [a_run, noOwnB, isTup _ hd.pl, truD, dEq, dNe, e, dIx, atI, ixN, isStr _ hx0.pl, strD, dLen, n1, n2, F_Lterm, ht.pl, hu.pl, c1, c2, hin, c3, hif, c4, comp, hall, bodyD, isS, n1', n2']
                · have e2 : bodyD F (m + 1) N T (.tup (.str (Str.ofString "is") :: ds)) = false := by
                    match ds, hq with
                    | [], _ => rfl
                    | [_], _ => rfl
                    | [_, _], _ => rfl
                    | [_, _, _], _ => rfl
                    | [_, _, _, _], _ => rfl
                    | [_, _, _, _, _], h => exact absurd rfl h
                    | _ :: _ :: _ :: _ :: _ :: _ :: _, _ => rfl
                  have hq' : ((ds.length : Int) + 1 == 6) = false := by rw [beq_eq_false_iff_ne]; omega
                  rw [e2]
                  simp [a_run, noOwnB, isTup _ hd.pl, truD, dEq, dNe, e, dIx, atI, ixN, isStr _ hx0.pl, strD, dLen, n1, n2, hq']
              · have n3 : (z == Str.ofString "is") = false := by rw [beq_eq_false_iff_ne]; exact fun h => z3 h.symm
                have n3' : (Str.ofString "is" == z) = false := by rw [beq_eq_false_iff_ne]; exact z3
                by_cases z4 : Str.ofString "let" = z
                · subst z4
                  by_cases hq : ds.length = 4
                  · match ds, hq, hd, hl, hx, e with
                    | [y, t, f, a], _, hd, hl, hx, e =>
                      have hy := hx y (by simp)
                      have ht := hx t (by simp)
                      have hf := hx f (by simp)
                      have ha := hx a (by simp)
                      cases c0 : nmD y with
                      | false => simp [a_run, noOwnB, isTup _ hd.pl, truD, dEq, dNe, e, dIx, atI, ixN, isStr _ hx0.pl, strD, dLen, n1, n2, n3, F_Lname, hy.pl, hy.sz, c0, bodyD, isS, n1', n2', n3']
                      | true =>
                        have ey := nmD_str c0
                        have hin0 : dIn y (.lst (N.map .str)) = some (false, .bl (inN N y)) := by
                          rw [ey]
                          exact dIn_N _ N
                        cases c5 : inN N y with
                        | true =>
                          rw [c5] at hin0
                          simp [a_run, noOwnB, isTup _ hd.pl, truD, dEq, dNe, e, dIx, atI, ixN, isStr _ hx0.pl, strD, dLen, n1, n2, n3, F_Lname, hy.pl, hy.sz, c0, hin0, c5, bodyD, isS, n1', n2', n3']
                        | false =>
                          rw [c5] at hin0
                          cases c1 : tmD N t with
                          | false => simp [a_run, noOwnB, isTup _ hd.pl, truD, dEq, dNe, e, dIx, atI, ixN, isStr _ hx0.pl, strD, dLen, n1, n2, n3, F_Lname, hy.pl, hy.sz, c0, hin0, c5, F_Lterm, ht.pl, c1, bodyD, isS, n1', n2', n3']
                          | true =>
                            have hin := dNotIn_T (kyD_tm c1) hT
                            cases c3 : inT T t with
                            | false =>
                              rw [c3] at hin
                              simp [a_run, noOwnB, isTup _ hd.pl, truD, dEq, dNe, e, dIx, atI, ixN, isStr _ hx0.pl, strD, dLen, n1, n2, n3, F_Lname, hy.pl, hy.sz, c0, hin0, c5, F_Lterm, ht.pl, c1, hin, c3, bodyD, isS, n1', n2', n3']
                            | true =>
                              rw [c3] at hin
                              have hif := dNotIn_F hf F
                              cases c4 : inF F f with
                              | false =>
                                rw [c4] at hif
                                simp [a_run, noOwnB, isTup _ hd.pl, truD, dEq, dNe, e, dIx, atI, ixN, isStr _ hx0.pl, strD, dLen, n1, n2, n3, F_Lname, hy.pl, hy.sz, c0, hin0, c5, F_Lterm, ht.pl, c1, hin, c3, hif, c4, bodyD, isS, n1', n2', n3']
                              | true =>
                                rw [c4] at hif
                                have i1 := ih k (N ++ [strOf y]) T a (by omega) (by omega) ha hT (by omega) (by simp; omega)
                                have hNl' : N.length + 1 ≤ 100000 := by omega
                                simp only [eB, List.map_append, List.map_cons, List.map_nil, ← ey] at i1
                                simp [a_run, noOwnB, isTup _ hd.pl, truD, dEq, dNe, e, dIx, atI, ixN, isStr _ hx0.pl, strD, dLen, n1, n2, n3, F_Lname, hy.pl, hy.sz, c0, hin0, c5, F_Lterm, ht.pl, c1, hin, c3, hif, c4, dAdd, hNl', i1, bodyD, isS, n1', n2', n3']
                  · have e2 : bodyD F (m + 1) N T (.tup (.str (Str.ofString "let") :: ds)) = false := by
                      match ds, hq with
                      | [], _ => rfl
                      | [_], _ => rfl
                      | [_, _], _ => rfl
                      | [_, _, _], _ => rfl
                      | [_, _, _, _], h => exact absurd rfl h
                      | _ :: _ :: _ :: _ :: _ :: _, _ => rfl
                    have hq' : ((ds.length : Int) + 1 == 5) = false := by rw [beq_eq_false_iff_ne]; omega
                    rw [e2]
                    simp [a_run, noOwnB, isTup _ hd.pl, truD, dEq, dNe, e, dIx, atI, ixN, isStr _ hx0.pl, strD, dLen, n1, n2, n3, hq']
                · have n4 : (z == Str.ofString "let") = false := by rw [beq_eq_false_iff_ne]; exact fun h => z4 h.symm
                  have n4' : (Str.ofString "let" == z) = false := by rw [beq_eq_false_iff_ne]; exact z4
                  simp [a_run, noOwnB, isTup _ hd.pl, truD, dEq, dNe, e, dIx, atI, ixN, isStr _ hx0.pl, strD, dLen, n1, n2, n3, n4, bodyD, isS, n1', n2', n3', n4']
end Prg
/-! The program's is_change, is_say, is_body. -/
namespace Prg
open PySem PySem.Spec L2 DL
open PyProof.Rows hiding St
theorem at0 {α : Type} (x : α) (ds : List α) : atI (x :: ds) 0 = some x := by
  simp [atI, ixN]
theorem at1 {α : Type} (x y : α) (ds : List α) : atI (x :: y :: ds) 1 = some y := by
  have h : (1 : Int) < ((x :: y :: ds).length : Int) := by simp; omega
  simp only [atI, ixN, if_pos h]
  rfl
theorem at2 {α : Type} (x y z : α) (ds : List α) : atI (x :: y :: z :: ds) 2 = some z := by
  have h : (2 : Int) < ((x :: y :: z :: ds).length : Int) := by simp; omega
  simp only [atI, ixN, if_pos h]
  rfl
theorem at3 {α : Type} (x y z w : α) (ds : List α) : atI (x :: y :: z :: w :: ds) 3 = some w := by
  have h : (3 : Int) < ((x :: y :: z :: w :: ds).length : Int) := by simp; omega
  simp only [atI, ixN, if_pos h]
  rfl
@[simp] theorem w_say_has : (Str.ofString "say" == Str.ofString "has") = false := by decide +kernel
@[simp] theorem w_say_is : (Str.ofString "say" == Str.ofString "is") = false := by decide +kernel
@[simp] theorem w_say_let : (Str.ofString "say" == Str.ofString "let") = false := by decide +kernel
@[simp] theorem w_say_make : (Str.ofString "say" == Str.ofString "make") = false := by decide +kernel
@[simp] theorem w_say_set : (Str.ofString "say" == Str.ofString "set") = false := by decide +kernel
@[simp] theorem w_say_drop : (Str.ofString "say" == Str.ofString "drop") = false := by decide +kernel
@[simp] theorem w_has_say : (Str.ofString "has" == Str.ofString "say") = false := by decide +kernel
@[simp] theorem w_has_is : (Str.ofString "has" == Str.ofString "is") = false := by decide +kernel
@[simp] theorem w_has_let : (Str.ofString "has" == Str.ofString "let") = false := by decide +kernel
@[simp] theorem w_has_make : (Str.ofString "has" == Str.ofString "make") = false := by decide +kernel
@[simp] theorem w_has_set : (Str.ofString "has" == Str.ofString "set") = false := by decide +kernel
@[simp] theorem w_has_drop : (Str.ofString "has" == Str.ofString "drop") = false := by decide +kernel
@[simp] theorem w_is_say : (Str.ofString "is" == Str.ofString "say") = false := by decide +kernel
@[simp] theorem w_is_has : (Str.ofString "is" == Str.ofString "has") = false := by decide +kernel
@[simp] theorem w_is_let : (Str.ofString "is" == Str.ofString "let") = false := by decide +kernel
@[simp] theorem w_is_make : (Str.ofString "is" == Str.ofString "make") = false := by decide +kernel
@[simp] theorem w_is_set : (Str.ofString "is" == Str.ofString "set") = false := by decide +kernel
@[simp] theorem w_is_drop : (Str.ofString "is" == Str.ofString "drop") = false := by decide +kernel
@[simp] theorem w_let_say : (Str.ofString "let" == Str.ofString "say") = false := by decide +kernel
@[simp] theorem w_let_has : (Str.ofString "let" == Str.ofString "has") = false := by decide +kernel
@[simp] theorem w_let_is : (Str.ofString "let" == Str.ofString "is") = false := by decide +kernel
@[simp] theorem w_let_make : (Str.ofString "let" == Str.ofString "make") = false := by decide +kernel
@[simp] theorem w_let_set : (Str.ofString "let" == Str.ofString "set") = false := by decide +kernel
@[simp] theorem w_let_drop : (Str.ofString "let" == Str.ofString "drop") = false := by decide +kernel
@[simp] theorem w_make_say : (Str.ofString "make" == Str.ofString "say") = false := by decide +kernel
@[simp] theorem w_make_has : (Str.ofString "make" == Str.ofString "has") = false := by decide +kernel
@[simp] theorem w_make_is : (Str.ofString "make" == Str.ofString "is") = false := by decide +kernel
@[simp] theorem w_make_let : (Str.ofString "make" == Str.ofString "let") = false := by decide +kernel
@[simp] theorem w_make_set : (Str.ofString "make" == Str.ofString "set") = false := by decide +kernel
@[simp] theorem w_make_drop : (Str.ofString "make" == Str.ofString "drop") = false := by decide +kernel
@[simp] theorem w_set_say : (Str.ofString "set" == Str.ofString "say") = false := by decide +kernel
@[simp] theorem w_set_has : (Str.ofString "set" == Str.ofString "has") = false := by decide +kernel
@[simp] theorem w_set_is : (Str.ofString "set" == Str.ofString "is") = false := by decide +kernel
@[simp] theorem w_set_let : (Str.ofString "set" == Str.ofString "let") = false := by decide +kernel
@[simp] theorem w_set_make : (Str.ofString "set" == Str.ofString "make") = false := by decide +kernel
@[simp] theorem w_set_drop : (Str.ofString "set" == Str.ofString "drop") = false := by decide +kernel
@[simp] theorem w_drop_say : (Str.ofString "drop" == Str.ofString "say") = false := by decide +kernel
@[simp] theorem w_drop_has : (Str.ofString "drop" == Str.ofString "has") = false := by decide +kernel
@[simp] theorem w_drop_is : (Str.ofString "drop" == Str.ofString "is") = false := by decide +kernel
@[simp] theorem w_drop_let : (Str.ofString "drop" == Str.ofString "let") = false := by decide +kernel
@[simp] theorem w_drop_make : (Str.ofString "drop" == Str.ofString "make") = false := by decide +kernel
@[simp] theorem w_drop_set : (Str.ofString "drop" == Str.ofString "set") = false := by decide +kernel
def sayD (F N : List Str) : List Dat → Bool
  | [c, w] => syD F N c w
  | _ => false
abbrev scD (N : List Str) (T : List Dat) : Dat := .tup [.tup (N.map .str), .tup T]
abbrev eC (F N : List Str) (T : List Dat) (d : Dat) : DL.Env := [some (.val (.tup (F.map .str))), some (.val (scD N T)), some (.val d)]
theorem P_term (N : List Str) (T : List Dat) (d : Dat) (h : pl d = true) : F_is_term [some (.val (scD N T)), some (.val d)] = some (.val (.bl (tmD N d)), [some (.val (scD N T)), some (.val d)]) := F_term N _ d h
theorem dIn_T {d : Dat} (h : kyD d = true) {T : List Dat} (hT : ∀ s ∈ T, kyD s = true) : dIn d (.tup T) = some (false, .bl (inT T d)) := by
  have e : dIn d (.tup T) = (inDs d T).map fun k => (false, .bl k) := by
    cases d <;> rfl
  rw [e, inDs_T h T hT]
  rfl
theorem P_tested (N : List Str) (T : List Dat) (hT : ∀ s ∈ T, kyD s = true) (d : Dat) (h : pl d = true) : F_is_tested [some (.val (scD N T)), some (.val d)] = some (.val (.bl (tmD N d && inT T d)), [some (.val (scD N T)), some (.val d)]) := by
  unfold F_is_tested fb_is_tested
  cases c : tmD N d with
  | false => simp [a_run, noOwnB, F_term, h, c, truD]
  | true => simp [a_run, noOwnB, F_term, h, c, truD, dIx, at0, at1, at2, at3, dIn_T (kyD_tm c) hT]
theorem dNotIn_N (z : Str) (N : List Str) : dNotIn (.str z) (.tup (N.map .str)) = some (false, .bl (!N.any fun y => y == z)) := by
  have e : dNotIn (.str z) (.tup (N.map .str)) = (inDs (.str z) (N.map .str)).map fun k => (false, .bl (!k)) := rfl
  rw [e, in_strs]
  rfl
theorem P_new (N : List Str) (T : List Dat) (d : Dat) (h : pl d = true) (hz : szD d = true) : F_is_new_name [some (.val (scD N T)), some (.val d)] = some (.val (.bl (nmD d && !inN N d)), [some (.val (scD N T)), some (.val d)]) := by
  unfold F_is_new_name fb_is_new_name
  cases c : nmD d with
  | false => simp [a_run, noOwnB, F_name, h, hz, c, truD]
  | true =>
    have e : dNotIn d (.tup (N.map .str)) = some (false, .bl (!inN N d)) := by
      rw [nmD_str c]
      exact dNotIn_N _ N
    simp [a_run, noOwnB, F_name, h, hz, c, truD, dIx, at0, at1, at2, at3, e]
theorem P_rec (F N : List Str) (T : List Dat) {n : Nat} {d : Dat} (h : okD n d) : F_are_record_terms (eC F N T d) = some (.val (.bl (recD F N d)), eC F N T d) := by
  unfold F_are_record_terms fb_are_record_terms
  cases ht : tupD d with
  | false =>
    have e : recD F N d = false := by cases d <;> first | rfl | cases ht
    rw [e]
    simp [a_run, noOwnB, isTup _ h.pl, ht, truD]
  | true =>
    obtain ⟨m, ts, rfl, rfl⟩ := h.up ht
    obtain ⟨hl, hx⟩ := h.at
    have comp : eLc (iAny (eVar 2)) (gPut 3) (eRet true) (eCallV F_is_term (eCons (eVar 1) (eOne (eVar 3)))) [3] (eC F N T (.tup ts) ++ [none]) = some (.new (.lst (ts.map fun d => .bl (tmD N d))), eC F N T (.tup ts) ++ [none]) := by
      refine eLc_each (fun d => .bl (tmD N d)) (fun d => .val (.bl (tmD N d))) (by simp [itemsD]) rfl (by omega) fun d hd => ?_
      simp [F_term, (hx d hd).pl]
    simp only [eC, scD, List.cons_append, List.nil_append] at comp
    have e2 : ((ts.length : Int) == (F.length : Int)) = (ts.length == F.length) := by
      rw [Bool.eq_iff_iff]
      simp
      omega
    cases c3 : (ts.length == F.length) <;>
    simp [a_run, noOwnB, isTup _ h.pl, truD, dLen, dNe, e2, c3, comp, all_map, recD]
theorem P_change (F N : List Str) (T : List Dat) {n : Nat} {d : Dat} (h : okD n d) (hn : n ≤ 40) : F_is_change (eC F N T d) = some (.val (.bl (chD F N d)), eC F N T d) := by
  unfold F_is_change fb_is_change
  cases ht : tupD d with
  | false =>
    rw [chD_no ht]
    simp [a_run, noOwnB, isTup _ h.pl, ht, truD]
  | true =>
    obtain ⟨m, ds, rfl, rfl⟩ := h.up ht
    obtain ⟨hl, hx⟩ := h.at
    match ds, h, hl, hx with
    | [], h, hl, hx => simp [a_run, noOwnB, isTup _ h.pl, truD, dLen, dLt, chD]
    | [x], h, hl, hx => simp [a_run, noOwnB, isTup _ h.pl, truD, dLen, dLt, chD]
    | x :: t :: ds, h, hl, hx =>
      have h0 := hx x (by simp)
      have h1 := hx t (by simp)
      have hlt : ¬ ((ds.length : Int) + 1 + 1 < 2) := by omega
      cases c1 : tmD N t with
      | false =>
        have e : chD F N (.tup (x :: t :: ds)) = false := by
          match ds with
          | [] => simp [chD, c1]
          | [v] => simp [chD, c1]
          | [v, u] => simp [chD, c1]
          | _ :: _ :: _ :: _ => rfl
        rw [e]
        simp [a_run, noOwnB, isTup _ h.pl, truD, dLen, dLt, hlt, dIx, at0, at1, at2, at3, F_term, h1.pl, c1]
      | true =>
        have q0 := fun s => eqQ_s' s h0 (by omega : m ≤ 40)
        cases s1 : isS (Str.ofString "make") x with
        | true =>
          have ex := isS_str s1
          subst ex
          by_cases hq : ds.length = 1
          · match ds, hq, h, hx with
            | [v], _, h, hx =>
              have h2 := hx v (by simp)
              have r := P_rec F N T h2
              simp only [eC, scD] at r
              cases c2 : recD F N v <;>
              simp [a_run, noOwnB, isTup _ h.pl, truD, dLen, dLt, dIx, at0, at1, at2, at3, F_term, h1.pl, c1, dEq, r, c2, chD, isS]
          · have hq' : ((ds.length : Int) + 1 + 1 == 3) = false := by rw [beq_eq_false_iff_ne]; omega
            have e : chD F N (.tup (.str (Str.ofString "make") :: t :: ds)) = false := by
              match ds, hq with
              | [], _ => rfl
              | [v], hq => exact absurd rfl hq
              | [v, u], _ => rfl
              | _ :: _ :: _ :: _, _ => rfl
            rw [e]
            simp [a_run, noOwnB, isTup _ h.pl, truD, dLen, dLt, hlt, dIx, at0, at1, at2, at3, F_term, h1.pl, c1, dEq, hq']
        | false =>
          cases s2 : isS (Str.ofString "set") x with
          | true =>
            have ex := isS_str s2
            subst ex
            by_cases hq : ds.length = 2
            · match ds, hq, h, hx with
              | [f, u], _, h, hx =>
                have h2 := hx f (by simp)
                have h3 := hx u (by simp)
                cases c3 : inF F f <;> cases c4 : tmD N u <;>
                simp [a_run, noOwnB, isTup _ h.pl, truD, dLen, dLt, dIx, at0, at1, at2, at3, F_term, h1.pl, h3.pl, c1, dEq, dIn_F h2, c3, c4, chD, isS]
            · have hq' : ((ds.length : Int) + 1 + 1 == 4) = false := by rw [beq_eq_false_iff_ne]; omega
              have e : chD F N (.tup (.str (Str.ofString "set") :: t :: ds)) = false := by
                match ds, hq with
                | [], _ => rfl
                | [v], _ => rfl
                | [v, u], hq => exact absurd rfl hq
                | _ :: _ :: _ :: _, _ => rfl
              rw [e]
              simp [a_run, noOwnB, isTup _ h.pl, truD, dLen, dLt, hlt, dIx, at0, at1, at2, at3, F_term, h1.pl, c1, dEq, hq']
          | false =>
            by_cases hq : ds.length = 0
            · match ds, hq, h, hx with
              | [], _, h, hx =>
                cases s3 : isS (Str.ofString "drop") x <;>
                simp [a_run, noOwnB, isTup _ h.pl, truD, dLen, dLt, dIx, at0, at1, at2, at3, F_term, h1.pl, c1, dEq, q0, s1, s2, s3, chD]
            · have hq' : ((ds.length : Int) + 1 + 1 == 2) = false := by rw [beq_eq_false_iff_ne]; omega
              have e : chD F N (.tup (x :: t :: ds)) = false := by
                match ds, hq with
                | [], hq => exact absurd rfl hq
                | [v], _ => simp [chD, s1]
                | [v, u], _ => simp [chD, s2]
                | _ :: _ :: _ :: _, _ => rfl
              rw [e]
              cases s3 : isS (Str.ofString "drop") x <;>
              simp [a_run, noOwnB, isTup _ h.pl, truD, dLen, dLt, hlt, dIx, at0, at1, at2, at3, F_term, h1.pl, c1, dEq, q0, s1, s2, s3, hq']
theorem P_say (F N : List Str) (T : List Dat) {n : Nat} {x : Dat} {ds : List Dat} (h : okD (n + 1) (.tup (x :: ds))) (hn : n ≤ 40) :
    F_is_say (eC F N T (.tup (x :: ds))) = some (.val (.bl (sayD F N ds)), eC F N T (.tup (x :: ds))) := by
  unfold F_is_say fb_is_say
  obtain ⟨hl, hx⟩ := h.at
  by_cases hq : ds.length = 2
  · match ds, hq, h, hl, hx with
    | [c, w], _, h, hl, hx =>
      have h1 := hx c (by simp)
      have h2 := hx w (by simp)
      cases ht : tupD c with
      | false =>
        have e : syD F N c w = false := by
          unfold syD
          cases c <;> first | (exact Bool.and_false _) | cases ht
        simp [a_run, noOwnB, isTup _ h1.pl, ht, truD, dLen, dNe, dIx, at0, at1, at2, at3, e, sayD]
      | true =>
        obtain ⟨m, cs, rfl, rfl⟩ := h1.up ht
        obtain ⟨hl2, hx2⟩ := h1.at
        have comp : eLc (iAny (eOp2 dIx (eVar 2) (eCon (.int 1)))) (gPut 3) (eRet true) (eCallV F_is_change (eCons (eVar 0) (eCons (eVar 1) (eOne (eVar 3))))) [3] (eC F N T (.tup [x, .tup cs, w]) ++ [none]) = some (.new (.lst (cs.map fun d => .bl (chD F N d))), eC F N T (.tup [x, .tup cs, w]) ++ [none]) := by
          refine eLc_each (fun d => .bl (chD F N d)) (fun d => .val (.bl (chD F N d))) (by simp [itemsD, dIx, at0, at1, at2, at3]) rfl (by omega) fun d hd => ?_
          have r := P_change F N T (hx2 d hd) (by omega)
          simp only [eC, scD] at r
          simp [r]
        simp only [eC, scD, List.cons_append, List.nil_append] at comp
        cases c1 : nmD w <;> cases c2 : cs.all (chD F N) <;> simp [a_run, noOwnB, isTup _ h1.pl, truD, dLen, dNe, dIx, at0, at1, at2, at3, F_name, h2.pl, h2.sz, c1, c2, comp, all_map, sayD, syD]
  · have e : sayD F N ds = false := by
      match ds, hq with
      | [], _ => rfl
      | [_], _ => rfl
      | [_, _], h => exact absurd rfl h
      | _ :: _ :: _ :: _, _ => rfl
    have hq' : ((ds.length : Int) + 1 == 3) = false := by rw [beq_eq_false_iff_ne]; omega
    rw [e]
    simp [a_run, noOwnB, truD, dLen, dNe, hq']
end Prg
/-! The program's is_body. -/
namespace Prg
open PySem PySem.Spec L2 DL
open PyProof.Rows hiding St
/-! the beginning of a tuple against one word -/
theorem okD.take1 {n : Nat} {x : Dat} {ds : List Dat} (h : okD (n + 1) (.tup (x :: ds))) : okD (n + 1) (.tup [x]) := ⟨by simp, fun y hy => by
  rw [List.mem_singleton.mp hy]
  exact h.2 x (by simp)⟩
theorem eqQ_1 (s : Str) {n : Nat} {x : Dat} (h : okD (n + 1) (.tup [x])) (hn : n ≤ 40) : eqQ (.tup [x]) (.tup [.str s]) = some (isS s x) := by
  have hf := h.facts
  unfold eqQ
  rw [if_pos ⟨by omega, hf.2.2.1, rfl⟩]
  rw [eqD, eqDs, eqD_s' s (h.2 x (by simp)).pl, eqDs]
  simp
theorem eqQ_0 (s : Str) : eqQ (.tup []) (.tup [.str s]) = some false := by
  simp [eqQ, depD, depDs, noObj, noObjs, eqD, eqDs]
theorem eqQ_1' (s : Str) {n : Nat} {x : Dat} (h : okD (n + 1) (.tup [x])) : eqQ (.tup [.str s]) (.tup [x]) = some (isS s x) := by
  have hf := h.facts
  unfold eqQ
  rw [if_pos ⟨by simp [depD, depDs], rfl, hf.2.2.1⟩]
  rw [eqD, eqDs, eqD_s s (h.2 x (by simp)).pl, eqDs]
  simp
theorem cut1 {α : Type} (x : α) (ds : List α) : DL.cutD (x :: ds) none (some 1) = [x] := by
  simp [DL.cutD, HT.sIx]
theorem cut_n2 {α : Type} (ds : List α) : DL.cutD ds none (some (-2)) = ds.take (ds.length - 2) := by
  simp [DL.cutD, HT.sIx]
  congr 1
  omega
theorem cut_2n {α : Type} (ds : List α) : DL.cutD ds (some (-2)) none = ds.drop (ds.length - 2) := by
  have e : ((-2 : Int) + (ds.length : Int)).toNat = ds.length - 2 := by omega
  simp [DL.cutD, HT.sIx, e]
  exact List.take_of_length_le
      (by simp)
theorem cut_n1 {α : Type} (ds : List α) : DL.cutD ds none (some (-1)) = ds.take (ds.length - 1) := by
  simp [DL.cutD, HT.sIx]
  congr 1
  omega
theorem cut_1n {α : Type} (ds : List α) : DL.cutD ds (some (-1)) none = ds.drop (ds.length - 1) := by
  have e : ((-1 : Int) + (ds.length : Int)).toNat = ds.length - 1 := by omega
  simp [DL.cutD, HT.sIx, e]
  exact List.take_of_length_le
      (by simp)
theorem P_divided {n : Nat} {x : Dat} {ds : List Dat} (h : okD (n + 1) (.tup (x :: ds))) (hn : n ≤ 40) : F_divided [some (.val (.tup (x :: ds)))] =
    some (.val (.tup (if (isS (Str.ofString "has") x || isS (Str.ofString "is") x) = true then [.tup ((x :: ds).take ((x :: ds).length - 2)), .tup ((x :: ds).drop ((x :: ds).length - 2))] else [.tup ((x :: ds).take ((x :: ds).length - 1)), .tup ((x :: ds).drop ((x :: ds).length - 1))])), [some (.val (.tup (x :: ds)))]) := by
  unfold F_divided fb_divided
  have h1 := h.take1
  have e : dIn (.tup [x]) (.tup [.tup [.str (Str.ofString "has")], .tup [.str (Str.ofString "is")]]) = some (false, .bl (isS (Str.ofString "has") x || isS (Str.ofString "is") x)) := by
    simp [dIn, inDs, eqQ_1' _ h1]
  cases c : (isS (Str.ofString "has") x || isS (Str.ofString "is") x) <;> rw [c] at e <;>
  simp [a_run, noOwnB, dCut, cut1, cut_n2, cut_2n, cut_n1, cut_1n, dNeg, e]
theorem eqQ_0' (s : Str) : eqQ (.tup [.str s]) (.tup []) = some false := by
  simp [eqQ, depD, depDs, noObj, noObjs, eqD, eqDs]
theorem cut10 {α : Type} (lo hi : Option Int) : DL.cutD ([] : List α) lo hi = [] := by
  simp [DL.cutD]
theorem P_divided0 : F_divided [some (.val (.tup []))] = some (.val (.tup [.tup [], .tup []]), [some (.val (.tup []))]) := by
  unfold F_divided fb_divided
  have e : dIn (.tup []) (.tup [.tup [.str (Str.ofString "has")], .tup [.str (Str.ofString "is")]]) = some (false, .bl false) := by
    simp [dIn, inDs, eqQ_0']
  simp [a_run, noOwnB, dCut, cut10, dNeg, e]
def headD (F N : List Str) (T : List Dat) : List Dat → Bool
  | x :: r => if isS (Str.ofString "has") x = true then (match r with
      | [t] => tmD N t
      | _ => false)
    else if isS (Str.ofString "is") x = true then (match r with
      | [t, f, u] => (tmD N t && inT T t) && (inF F f && tmD N u)
      | _ => false)
    else if isS (Str.ofString "let") x = true then (match r with
      | [y, t, f] => (nmD y && !inN N y) && ((tmD N t && inT T t) && inF F f)
      | _ => false)
    else false
  | [] => false
theorem P_head (F N : List Str) (T : List Dat) (hT : ∀ s ∈ T, kyD s = true) {n : Nat} {hd : List Dat} (h : okD (n + 1) (.tup hd)) (hn : n ≤ 40) : F_is_head (eC F N T (.tup hd)) = some (.val (.bl (headD F N T hd)), eC F N T (.tup hd)) := by
  unfold F_is_head fb_is_head
  obtain ⟨hl, hx⟩ := h.at
  match hd, h, hl, hx with
  | [], h, hl, hx => simp [a_run, noOwnB, dCut, cut10, dEq, eqQ_0, headD]
  | x :: r, h, hl, hx =>
    have h1 := h.take1
    have q1 := fun s => eqQ_1 s h1 hn
    cases s1 : isS (Str.ofString "has") x with
    | true =>
      by_cases hq : r.length = 1
      · match r, hq, h, hx with
        | [t], _, h, hx =>
          have ht := hx t (by simp)
          cases c1 : tmD N t <;> simp [a_run, noOwnB, dCut, cut1, dEq, q1, s1, dLen, dIx, at0, at1, at2, at3, F_term, ht.pl, c1, headD, truD]
      · have e : headD F N T (x :: r) = false := by
          simp only [headD, s1, if_true]
          match r, hq with
          | [], _ => rfl
          | [_], hq => exact absurd rfl hq
          | _ :: _ :: _, _ => rfl
        have hq' : ((r.length : Int) + 1 == 2) = false := by rw [beq_eq_false_iff_ne]; omega
        rw [e]
        simp [a_run, noOwnB, dCut, cut1, dEq, q1, s1, dLen, hq', truD]
    | false =>
      cases s2 : isS (Str.ofString "is") x with
      | true =>
        have s3 : isS (Str.ofString "let") x = false := by
          rw [isS_str s2]
          simp [isS]
        by_cases hq : r.length = 3
        · match r, hq, h, hx with
          | [t, f, u], _, h, hx =>
            have ht := hx t (by simp)
            have hf := hx f (by simp)
            have hu := hx u (by simp)
            have r1 := P_tested N T hT t ht.pl
            simp only [scD] at r1
            have e : headD F N T [x, t, f, u] = ((tmD N t && inT T t) && (inF F f && tmD N u)) := by
              simp only [headD, s1, s2, if_true, Bool.false_eq_true, if_false]
            rw [e]
            cases c1 : (tmD N t && inT T t) <;> cases c2 : inF F f <;> cases c3 : tmD N u <;> rw [c1] at r1 <;>
            simp [a_run, noOwnB, dCut, cut1, dEq, q1, s1, s2, dLen, dIx, at0, at1, at2, at3, F_term, hu.pl, r1, dIn_F hf, c2, c3, truD]
        · have e : headD F N T (x :: r) = false := by
            simp only [headD, s1, s2, if_true, Bool.false_eq_true, if_false]
            match r, hq with
            | [], _ => rfl
            | [_], _ => rfl
            | [_, _], _ => rfl
            | [_, _, _], hq => exact absurd rfl hq
            | _ :: _ :: _ :: _ :: _, _ => rfl
          have hq' : ((r.length : Int) + 1 == 4) = false := by rw [beq_eq_false_iff_ne]; omega
          rw [e]
          simp [a_run, noOwnB, dCut, cut1, dEq, q1, s1, s2, s3, dLen, hq', truD]
      | false =>
        cases s3 : isS (Str.ofString "let") x with
        | true =>
          by_cases hq : r.length = 3
          · match r, hq, h, hx with
            | [y, t, f], _, h, hx =>
              have hy := hx y (by simp)
              have ht := hx t (by simp)
              have hf := hx f (by simp)
              have r1 := P_tested N T hT t ht.pl
              have r2 := P_new N T y hy.pl hy.sz
              simp only [scD] at r1 r2
              have e : headD F N T [x, y, t, f] = ((nmD y && !inN N y) && ((tmD N t && inT T t) && inF F f)) := by
                simp only [headD, s1, s2, s3, if_true, Bool.false_eq_true, if_false]
              rw [e]
              cases c1 : (tmD N t && inT T t) <;> cases c2 : inF F f <;> cases c3 : (nmD y && !inN N y) <;> rw [c1] at r1 <;> rw [c3] at r2 <;>
              simp [a_run, noOwnB, dCut, cut1, dEq, q1, s1, s2, s3, dLen, dIx, at0, at1, at2, at3, r1, r2, dIn_F hf, c2, truD]
          · have e : headD F N T (x :: r) = false := by
              simp only [headD, s1, s2, s3, if_true, Bool.false_eq_true, if_false]
              match r, hq with
              | [], _ => rfl
              | [_], _ => rfl
              | [_, _], _ => rfl
              | [_, _, _], hq => exact absurd rfl hq
              | _ :: _ :: _ :: _ :: _, _ => rfl
            have hq' : ((r.length : Int) + 1 == 4) = false := by rw [beq_eq_false_iff_ne]; omega
            rw [e]
            simp [a_run, noOwnB, dCut, cut1, dEq, q1, s1, s2, s3, dLen, hq', truD]
        | false =>
          simp [a_run, noOwnB, dCut, cut1, dEq, q1, s1, s2, s3, headD]
end Prg
/-! The program's is_body. -/
namespace Prg
open PySem PySem.Spec L2 DL
open PyProof.Rows hiding St
/-- a loop over two, the body's slots 5 and 6 -/
theorem wipe2 (a b c d e x y : Option Slot) (hx : isMtb (some x) = false) (hy : isMtb (some y) = false) : eWipe [5, 6] [a, b, c, d, e, x, y] = some ((), [a, b, c, d, e, none, none]) := by
  show andThen (andThen (some ((), [a, b, c, d, e, x, y])) fun _ e1 => (if isMtb e1[6]? = false then some ((), e1.set 6 none) else none)) (fun _ e1 => (if isMtb e1[5]? = false then some ((), e1.set 5 none) else none)) = _
  simp [hx, hy]
theorem loop2 {f : EM R} {a b c d e : Option Slot} : ∀ (ps : List (Dat × Dat × Bool)) (acc : List Dat), (∀ p ∈ ps, f [a, b, c, d, e, some (.val p.1), some (.val p.2.1)] = some (.val (.bl p.2.2), [a, b, c, d, e, some (.val p.1), some (.val p.2.1)])) → acc.length + ps.length ≤ 100000 →
    loopC (gTupD 2 (gConsD (gPut 5) (gConsD (gPut 6) gNilD))) (eRet true) f [5, 6] (ps.map fun p => .tup [p.1, p.2.1]) acc [a, b, c, d, e, none, none] = some (acc ++ ps.map (fun p => .bl p.2.2), [a, b, c, d, e, none, none])
  | [], acc, _, _ => by
    show some (acc, _) = _
    simp
  | p :: ps, acc, hd, hl => by
    have h1 := hd p (by simp)
    have hp : gTupD 2 (gConsD (gPut 5) (gConsD (gPut 6) gNilD)) (.tup [p.1, p.2.1]) [a, b, c, d, e, none, none] = some ((), [a, b, c, d, e, some (.val p.1), some (.val p.2.1)]) := rfl
    show eBind (gTupD 2 _ (.tup [p.1, p.2.1])) _ _ = _
    rw [a_bind, hp, at_some, a_bind, a_ret, at_some, if_pos rfl, a_bind, h1, at_some, a_bind, f_val, at_some, a_bind, wipe2 _ _ _ _ _ _ _ rfl rfl, at_some, if_pos (by simp at hl; omega)]
    rw [loop2 ps (acc ++ [Dat.bl p.2.2]) (fun e he => hd e (by simp [he])) (by simp at hl ⊢; omega)]
    simp
theorem eLc2 {it : EM (List Dat)} {f : EM R} {a b c d e : Option Slot} {ps : List (Dat × Dat × Bool)} (hi : it [a, b, c, d, e, none, none] = some (ps.map fun p => .tup [p.1, p.2.1], [a, b, c, d, e, none, none])) (hl : ps.length ≤ 100000)
    (hd : ∀ p ∈ ps, f [a, b, c, d, e, some (.val p.1), some (.val p.2.1)] = some (.val (.bl p.2.2), [a, b, c, d, e, some (.val p.1), some (.val p.2.1)])) :
    eLc it (gTupD 2 (gConsD (gPut 5) (gConsD (gPut 6) gNilD))) (eRet true) f [5, 6] [a, b, c, d, e, none, none] = some (.new (.lst (ps.map fun p => .bl p.2.2)), [a, b, c, d, e, none, none]) := by
  unfold eLc
  rw [a_bind, hi, at_some]
  rw [if_pos (by rfl), a_bind, loop2 ps [] hd (by simpa using hl)]
  rfl
theorem all_bl : ∀ ps : List (Dat × Dat × Bool), dAll [.lst (ps.map fun p => .bl p.2.2)] = some (false, .bl (ps.all fun p => p.2.2)) := fun ps => by
  have h : ∀ ps : List (Dat × Dat × Bool), bools (ps.map fun p => .bl p.2.2) = some (ps.map fun p => p.2.2) := fun ps => by
    induction ps with
    | nil => rfl
    | cons p ps ih =>
      show (bools (ps.map fun p => .bl p.2.2)).map _ = _
      rw [ih]
      rfl
  show (bools (ps.map fun p => .bl p.2.2)).map _ = _
  rw [h]
  simp [List.all_map]
theorem P_inner_has (N : List Str) (T : List Dat) (t : Dat) (hT : T.length ≤ 5000) : F_inner_scopes [some (.val (scD N T)), some (.val (.tup [.str (Str.ofString "has"), t]))] = some (.new (.lst [scD N (T ++ [t]), scD N T]), [some (.val (scD N T)), some (.val (.tup [.str (Str.ofString "has"), t]))]) := by
  have h : T.length + 1 ≤ 100000 := by omega
  unfold F_inner_scopes fb_inner_scopes
  simp [a_run, noOwnB, gTupD, gConsD, gNilD, dIx, at0, at1, dEq, dAdd, h]
theorem P_inner_let (N : List Str) (T : List Dat) (y t f : Dat) (hN : N.length ≤ 5000) (hy : y = .str (strOf y)) : F_inner_scopes [some (.val (scD N T)), some (.val (.tup [.str (Str.ofString "let"), y, t, f]))] = some (.new (.lst [scD (N ++ [strOf y]) T]), [some (.val (scD N T)), some (.val (.tup [.str (Str.ofString "let"), y, t, f]))]) := by
  have h : N.length + 1 ≤ 100000 := by omega
  unfold F_inner_scopes fb_inner_scopes
  have e : scD (N ++ [strOf y]) T = .tup [.tup (N.map .str ++ [y]), .tup T] := by
    rw [scD, List.map_append, List.map_cons, List.map_nil, ← hy]
  rw [e]
  simp [a_run, noOwnB, gTupD, gConsD, gNilD, dIx, at0, at1, dEq, dAdd, h]
theorem P_inner_is (N : List Str) (T : List Dat) (t f u : Dat) : F_inner_scopes [some (.val (scD N T)), some (.val (.tup [.str (Str.ofString "is"), t, f, u]))] = some (.new (.lst [scD N T, scD N T]), [some (.val (scD N T)), some (.val (.tup [.str (Str.ofString "is"), t, f, u]))]) := by
  unfold F_inner_scopes fb_inner_scopes
  simp [a_run, noOwnB, gTupD, gConsD, gNilD, dIx, at0, at1, dEq]
theorem okD.sub {n : Nat} {ds es : List Dat} (h : okD (n + 1) (.tup ds)) (hl : es.length ≤ ds.length) (hs : ∀ x ∈ es, x ∈ ds) : okD (n + 1) (.tup es) := ⟨Nat.le_trans hl h.1, fun x hx => h.2 x (hs x hx)⟩
@[simp] theorem a_izip (fs : EM (List R)) (env : DL.Env) : iZipD fs env = andThen (fs env) fun rs e1 => andThen (eForces rs e1) fun ds e2 => withEnv (match ds with
  | [.lst as, .lst bs] => some (pairsD as bs)
  | [.tup as, .tup bs] => some (pairsD as bs)
  | [.lst as, .tup bs] => some (pairsD as bs)
  | _ => none) e2 := rfl
theorem headD_no {F N : List Str} {T : List Dat} {x : Dat} {r : List Dat} (h1 : isS (Str.ofString "has") x = false) (h2 : isS (Str.ofString "is") x = false) (h3 : isS (Str.ofString "let") x = false) : headD F N T (x :: r) = false := by
  simp [headD, h1, h2, h3]
theorem P_body (F : List Str) : ∀ (m n : Nat) (N : List Str) (T : List Dat) (d : Dat), n < m → n ≤ 40 → okD n d → (∀ s ∈ T, kyD s = true) → T.length + m ≤ 2000 → N.length + m ≤ 2000 →
    FR_is_body m (eC F N T d) = some (.val (.bl (bodyD F m N T d)), eC F N T d) := by
  intro m
  induction m with
  | zero => intro n N T d h; omega
  | succ m ih =>
    intro n N T d hnm hn hd hT hTl hNl
    show runF 7 3 (fb_is_body (FR_is_body m)) _ = _
    unfold fb_is_body
    cases ht : tupD d with
    | false =>
      have e : bodyD F (m + 1) N T d = false := by cases d <;> first | rfl | cases ht
      rw [e]
      simp [a_run, noOwnB, isTup _ hd.pl, ht, truD]
    | true =>
      obtain ⟨k, ds, rfl, rfl⟩ := hd.up ht
      obtain ⟨hl, hx⟩ := hd.at
      match ds, hd, hl, hx with
      | [], hd, hl, hx =>
        have e2 : bodyD F (m + 1) N T (.tup []) = false := rfl
        have r := P_head F N T hT (n := 0) (hd := []) ⟨by simp, by simp⟩ (by omega)
        simp only [eC, scD] at r
        rw [e2]
        simp [a_run, noOwnB, isTup _ hd.pl, truD, dCut, cut10, dEq, eqQ_0, P_divided0, gTupD, gConsD, gNilD, r, headD]
      | x :: ds, hd, hl, hx =>
        have hx0 := hx x (by simp)
        have h1 := hd.take1
        have hn' : k ≤ 40 := by omega
        have q1 := fun s => eqQ_1 s h1 hn'
        have dv := P_divided hd hn'
        -- a head that is none
        have bad : isS (Str.ofString "say") x = false → ∀ A B : List Dat, F_divided [some (.val (.tup (x :: ds)))] = some (.val (.tup [.tup A, .tup B]), [some (.val (.tup (x :: ds)))]) → okD (k + 1) (.tup A) → headD F N T A = false →
            runF 7 3 (fb_is_body (FR_is_body m)) (eC F N T (.tup (x :: ds))) = some (.val (.bl false), eC F N T (.tup (x :: ds))) := fun s1 A B hA hok hno => by
          have r := P_head F N T hT hok hn'
          simp only [eC, scD] at r
          rw [hno] at r
          unfold fb_is_body
          simp [a_run, noOwnB, isTup _ hd.pl, truD, dCut, cut1, dEq, q1, s1, hA, gTupD, gConsD, gNilD, r]
        have good : isS (Str.ofString "say") x = false → ∀ (A B scs : List Dat) (ps : List (Dat × Dat × Bool)), F_divided [some (.val (.tup (x :: ds)))] = some (.val (.tup [.tup A, .tup B]), [some (.val (.tup (x :: ds)))]) → okD (k + 1) (.tup A) → headD F N T A = true →
            F_inner_scopes [some (.val (scD N T)), some (.val (.tup A))] = some (.new (.lst scs), [some (.val (scD N T)), some (.val (.tup A))]) → pairsD scs B = (ps.map fun p => .tup [p.1, p.2.1]) → ps.length ≤ 10 →
            (∀ p ∈ ps, FR_is_body m [some (.val (.tup (F.map .str))), some (.val p.1), some (.val p.2.1)] = some (.val (.bl p.2.2), [some (.val (.tup (F.map .str))), some (.val p.1), some (.val p.2.1)])) →
            runF 7 3 (fb_is_body (FR_is_body m)) (eC F N T (.tup (x :: ds))) = some (.val (.bl (ps.all fun p => p.2.2)), eC F N T (.tup (x :: ds))) := fun s1 A B scs ps hA hok hyes hin hz hlp hp => by
          have r := P_head F N T hT hok hn'
          simp only [eC, scD] at r
          rw [hyes] at r
          have comp : eLc (iZipD (eCons (eCallV F_inner_scopes (eCons (eVar 1) (eOne (eVar 3)))) (eOne (eVar 4)))) (gTupD 2 (gConsD (gPut 5) (gConsD (gPut 6) gNilD))) (eRet true) (eCallV (FR_is_body m) (eCons (eVar 0) (eCons (eVar 5) (eOne (eVar 6))))) [5, 6] [some (.val (.tup (F.map .str))), some (.val (scD N T)), some (.val (.tup (x :: ds))), some (.val (.tup A)), some (.val (.tup B)), none, none] =
              some (.new (.lst (ps.map fun p => .bl p.2.2)), [some (.val (.tup (F.map .str))), some (.val (scD N T)), some (.val (.tup (x :: ds))), some (.val (.tup A)), some (.val (.tup B)), none, none]) := by
            refine eLc2 (by simp only [scD] at hin; simp [hin, hz]) (by omega) fun p hp2 => ?_
            simp [hp p hp2]
          simp only [scD] at comp
          have e := all_bl ps
          unfold fb_is_body
          generalize (ps.map fun p => Dat.bl p.2.2) = L at comp e
          simp [a_run, noOwnB, isTup _ hd.pl, truD, dCut, cut1, dEq, q1, s1, hA, gTupD, gConsD, gNilD, r, comp, e]
        show runF 7 3 (fb_is_body (FR_is_body m)) _ = _
        cases s1 : isS (Str.ofString "say") x with
        | true =>
          have r := P_say F N T hd hn'
          simp only [eC, scD] at r
          have e : bodyD F (m + 1) N T (.tup (x :: ds)) = sayD F N ds := by
            simp only [bodyD, s1, if_true]
            match ds with
            | [] => rfl
            | [_] => rfl
            | [_, _] => rfl
            | _ :: _ :: _ :: _ => rfl
          rw [e]
          unfold fb_is_body
          simp [a_run, noOwnB, isTup _ hd.pl, truD, dCut, cut1, dEq, q1, s1, r]
        | false =>
          have bad := bad s1
          have good := good s1
          cases s2 : isS (Str.ofString "has") x with
          | true =>
            have ex := isS_str s2
            subst ex
            rw [s2, Bool.true_or, if_pos rfl] at dv
            by_cases hq : ds.length = 3
            · match ds, hq, hd, hl, hx, dv, bad, good with
              | [t, a, b], _, hd, hl, hx, dv, bad, good =>
                have ht := hx t (by simp)
                have ha := hx a (by simp)
                have hb := hx b (by simp)
                have hok : okD (k + 1) (.tup [.str (Str.ofString "has"), t]) := hd.sub (by simp) (by simp)
                cases c1 : tmD N t with
                | false =>
                  rw [bad _ _ dv hok (by simp [headD, isS, c1])]
                  simp [bodyD, isS, c1]
                | true =>
                  have i1 := ih k N (T ++ [t]) a (by omega) (by omega) ha (fun s hs => by
                    rcases List.mem_append.mp hs with h | h
                    · exact hT s h
                    · rw [List.mem_singleton.mp h]; exact kyD_tm c1) (by simp; omega) (by omega)
                  have i2 := ih k N T b (by omega) (by omega) hb hT (by omega) (by omega)
                  rw [good [.str (Str.ofString "has"), t] [a, b] [scD N (T ++ [t]), scD N T] [(scD N (T ++ [t]), a, bodyD F m N (T ++ [t]) a), (scD N T, b, bodyD F m N T b)] dv hok (by simp [headD, isS, c1]) (P_inner_has N T t (by omega)) rfl (by simp) fun p hp => by
                    rcases List.mem_cons.mp hp with h | h
                    · rw [h]; exact i1
                    · rw [List.mem_singleton.mp h]; exact i2]
                  simp [bodyD, isS, c1]
            · have e : bodyD F (m + 1) N T (.tup (.str (Str.ofString "has") :: ds)) = false := by
                match ds, hq with
                | [], _ => rfl
                | [_], _ => rfl
                | [_, _], _ => rfl
                | [_, _, _], h => exact absurd rfl h
                | _ :: _ :: _ :: _ :: _, _ => rfl
              rw [e]
              refine bad _ _ dv (hd.sub (List.length_take_le' _ _) fun x hx => List.mem_of_mem_take hx) ?_
              match ds, hq with
              | [], _ => rfl
              | [_], _ => rfl
              | [_, _], _ => rfl
              | [_, _, _], h => exact absurd rfl h
              | a :: b :: c :: d :: r, _ =>
                have e3 : (Dat.str (Str.ofString "has") :: a :: b :: c :: d :: r).length - 2 = r.length + 3 := by simp
                rw [e3]
                rfl
          | false =>
            cases s3 : isS (Str.ofString "is") x with
            | true =>
              have ex := isS_str s3
              subst ex
              rw [s2, s3, Bool.false_or, if_pos rfl] at dv
              by_cases hq : ds.length = 5
              · match ds, hq, hd, hl, hx, dv, bad, good with
                | [t, f, u, a, b], _, hd, hl, hx, dv, bad, good =>
                  have ha := hx a (by simp)
                  have hb := hx b (by simp)
                  have hok : okD (k + 1) (.tup [.str (Str.ofString "is"), t, f, u]) := hd.sub (by simp) (by simp)
                  have hh : headD F N T [.str (Str.ofString "is"), t, f, u] = ((tmD N t && inT T t) && (inF F f && tmD N u)) := by simp [headD, isS]
                  cases c1 : ((tmD N t && inT T t) && (inF F f && tmD N u)) with
                  | false =>
                    rw [bad _ _ dv hok (hh.trans c1)]
                    have e : bodyD F (m + 1) N T (.tup [.str (Str.ofString "is"), t, f, u, a, b]) = (((tmD N t && inT T t) && (inF F f && tmD N u)) && (bodyD F m N T a && bodyD F m N T b)) := by
                      simp only [bodyD, isS, w_say_is, w_has_is, BEq.rfl, if_true, Bool.false_eq_true, if_false]
                      cases tmD N t <;> cases inT T t <;> cases inF F f <;> cases tmD N u <;> rfl
                    rw [e, c1, Bool.false_and]
                  | true =>
                    have i1 := ih k N T a (by omega) (by omega) ha hT (by omega) (by omega)
                    have i2 := ih k N T b (by omega) (by omega) hb hT (by omega) (by omega)
                    rw [good [.str (Str.ofString "is"), t, f, u] [a, b] [scD N T, scD N T] [(scD N T, a, bodyD F m N T a), (scD N T, b, bodyD F m N T b)] dv hok (hh.trans c1) (P_inner_is N T t f u) rfl (by simp) fun p hp => by
                      rcases List.mem_cons.mp hp with h | h
                      · rw [h]; exact i1
                      · rw [List.mem_singleton.mp h]; exact i2]
                    have e : bodyD F (m + 1) N T (.tup [.str (Str.ofString "is"), t, f, u, a, b]) = (((tmD N t && inT T t) && (inF F f && tmD N u)) && (bodyD F m N T a && bodyD F m N T b)) := by
                      simp only [bodyD, isS, w_say_is, w_has_is, BEq.rfl, if_true, Bool.false_eq_true, if_false]
                      cases tmD N t <;> cases inT T t <;> cases inF F f <;> cases tmD N u <;> rfl
                    rw [e, c1]
                    simp
              · have e : bodyD F (m + 1) N T (.tup (.str (Str.ofString "is") :: ds)) = false := by
                  match ds, hq with
                  | [], _ => rfl
                  | [_], _ => rfl
                  | [_, _], _ => rfl
                  | [_, _, _], _ => rfl
                  | [_, _, _, _], _ => rfl
                  | [_, _, _, _, _], h => exact absurd rfl h
                  | _ :: _ :: _ :: _ :: _ :: _ :: _, _ => rfl
                rw [e]
                refine bad _ _ dv (hd.sub (List.length_take_le' _ _) fun x hx => List.mem_of_mem_take hx) ?_
                match ds, hq with
                | [], _ => rfl
                | [_], _ => rfl
                | [_, _], _ => rfl
                | [_, _, _], _ => rfl
                | [_, _, _, _], _ => rfl
                | [_, _, _, _, _], h => exact absurd rfl h
                | a :: b :: c :: d :: e :: g :: r, _ =>
                  have e3 : (Dat.str (Str.ofString "is") :: a :: b :: c :: d :: e :: g :: r).length - 2 = r.length + 5 := by simp
                  rw [e3]
                  rfl
            | false =>
              rw [s2, s3, Bool.false_or, if_neg Bool.false_ne_true] at dv
              cases s4 : isS (Str.ofString "let") x with
              | true =>
                have ex := isS_str s4
                subst ex
                by_cases hq : ds.length = 4
                · match ds, hq, hd, hl, hx, dv, bad, good with
                  | [y, t, f, a], _, hd, hl, hx, dv, bad, good =>
                    have ha := hx a (by simp)
                    have hok : okD (k + 1) (.tup [.str (Str.ofString "let"), y, t, f]) := hd.sub (by simp) (by simp)
                    have hh : headD F N T [.str (Str.ofString "let"), y, t, f] = ((nmD y && !inN N y) && ((tmD N t && inT T t) && inF F f)) := by simp [headD, isS]
                    have e : bodyD F (m + 1) N T (.tup [.str (Str.ofString "let"), y, t, f, a]) = (((nmD y && !inN N y) && ((tmD N t && inT T t) && inF F f)) && bodyD F m (N ++ [strOf y]) T a) := by
                      simp only [bodyD, isS, w_say_let, w_has_let, w_is_let, BEq.rfl, if_true, Bool.false_eq_true, if_false]
                      cases nmD y <;> cases inN N y <;> cases tmD N t <;> cases inT T t <;> cases inF F f <;> rfl
                    cases c1 : ((nmD y && !inN N y) && ((tmD N t && inT T t) && inF F f)) with
                    | false =>
                      rw [bad _ _ dv hok (hh.trans c1), e, c1, Bool.false_and]
                    | true =>
                      have hy : nmD y = true := by
                        cases q : nmD y with
                        | true => rfl
                        | false => rw [q] at c1; cases c1
                      have i1 := ih k (N ++ [strOf y]) T a (by omega) (by omega) ha hT (by omega) (by simp; omega)
                      rw [good [.str (Str.ofString "let"), y, t, f] [a] [scD (N ++ [strOf y]) T] [(scD (N ++ [strOf y]) T, a, bodyD F m (N ++ [strOf y]) T a)] dv hok (hh.trans c1) (P_inner_let N T y t f (by omega) (nmD_str hy)) rfl (by simp) fun p hp => by
                        rw [List.mem_singleton.mp hp]; exact i1]
                      rw [e, c1]
                      simp
                · have e : bodyD F (m + 1) N T (.tup (.str (Str.ofString "let") :: ds)) = false := by
                    match ds, hq with
                    | [], _ => rfl
                    | [_], _ => rfl
                    | [_, _], _ => rfl
                    | [_, _, _], _ => rfl
                    | [_, _, _, _], h => exact absurd rfl h
                    | _ :: _ :: _ :: _ :: _ :: _, _ => rfl
                  rw [e]
                  refine bad _ _ dv (hd.sub (List.length_take_le' _ _) fun x hx => List.mem_of_mem_take hx) ?_
                  match ds, hq with
                  | [], _ => rfl
                  | [_], _ => rfl
                  | [_, _], _ => rfl
                  | [_, _, _], _ => rfl
                  | [_, _, _, _], h => exact absurd rfl h
                  | a :: b :: c :: d :: e :: r, _ =>
                    have e3 : (Dat.str (Str.ofString "let") :: a :: b :: c :: d :: e :: r).length - 1 = r.length + 5 := by simp
                    rw [e3]
                    rfl
              | false =>
                have e : bodyD F (m + 1) N T (.tup (x :: ds)) = false := by simp [bodyD, s1, s2, s3, s4]
                rw [e]
                refine bad _ _ dv (hd.sub (List.length_take_le' _ _) fun x hx => List.mem_of_mem_take hx) ?_
                cases hc : (x :: ds).take ((x :: ds).length - 1) with
                | nil => rfl
                | cons y r =>
                  have hy : y = x := by
                    cases hm : (x :: ds).length - 1 with
                    | zero => rw [hm] at hc; cases hc
                    | succ j =>
                      rw [hm, List.take_succ_cons] at hc
                      exact (List.cons.inj hc).1.symm
                  rw [hy]
                  exact headD_no s2 s3 s4
end Prg
/-! is_kind of both sides. -/
namespace Prg
open PySem PySem.Spec L2 DL
open PyProof.Rows hiding St
@[simp] theorem a_lenset (f : EM R) (env : DL.Env) : eLenSet f env = andThen (f env) fun r e1 => andThen (eLook r e1) fun d e2 => andThen (withEnv (rowD d) e2) fun zs e3 => withEnv (if zs.length ≤ 100 then some (.val (.int (setN zs))) else none) e3 := rfl
theorem names_strs : ∀ {ps : List Dat}, ps.all nmD = true → strsD ps = some (ps.map strOf) ∧ ps = (ps.map strOf).map .str
  | [], _ => ⟨rfl, rfl⟩
  | p :: ps, h => by
    rw [List.all_cons,
        Bool.and_eq_true] at h
    obtain ⟨h1, h2⟩ := names_strs h.2
    have e := nmD_str h.1
    refine ⟨?_, by rw [List.map_cons, List.map_cons, ← e, ← h2]⟩
    rw [e]
    show (strsD ps).map _ = _
    rw [h1]
    rfl
/-- parameters: at most two NAMEs, unlike -/
def parD : Dat → Bool
  | .tup ps => decide (ps.length ≤ 2) && (ps.all nmD && (setN (ps.map strOf) == ps.length))
  | _ => false
def parN : Dat → List Str
  | .tup ps => ps.map strOf
  | _ => []
def kindD (F : List Str) : Dat → Bool
  | .tup [n, ps, b] => nmD n && (parD ps && bodyD F 60 (parN ps) [] b)
  | _ => false
theorem int_eq (a b : Nat) : ((a : Int) == (b : Int)) = (a == b) := by
  rw [Bool.eq_iff_iff]
  simp
  omega
theorem P_params {n : Nat} {d : Dat} (h : okD n d) (hn : n ≤ 40) : F_are_parameters [some (.val d)] = some (.val (.bl (parD d)), [some (.val d)]) := by
  unfold F_are_parameters fb_are_parameters
  have key : F_are_names [some (.val d), some (.val (.int 0)), some (.val (.int 2))] = some (.val (.bl (parD d)), [some (.val d), some (.val (.int 0)), some (.val (.int 2))]) := by
    unfold F_are_names fb_are_names
    cases ht : tupD d with
    | false =>
      have e : parD d = false := by cases d <;> first | rfl | cases ht
      rw [e]
      simp [a_run, noOwnB, isTup _ h.pl, ht, truD]
    | true =>
      obtain ⟨m, ps, rfl, rfl⟩ := h.up ht
      obtain ⟨hl, hx⟩ := h.at
      by_cases h2 : ps.length ≤ 2
      · have h2' : (ps.length : Int) ≤ 2 := by omega
        have comp : eLc (iAny (eVar 0)) (gPut 3) (eRet true) (eCallV F_is_name (eOne (eVar 3))) [3] [some (.val (.tup ps)), some (.val (.int 0)), some (.val (.int 2)), none] =
            some (.new (.lst (ps.map fun d => .bl (nmD d))), [some (.val (.tup ps)), some (.val (.int 0)), some (.val (.int 2)), none]) := by
          refine eLc_each (fun d => .bl (nmD d)) (fun d => .val (.bl (nmD d))) (by simp [itemsD]) rfl (by omega) fun d hd => ?_
          simp [F_name, (hx d hd).pl, (hx d hd).sz]
        have hall := all_map nmD ps
        cases c : ps.all nmD with
        | false =>
          have e : parD (.tup ps) = false := by simp [parD, c]
          rw [c] at hall
          rw [e]
          simp [a_run, noOwnB, isTup _ h.pl, truD, dLen, dLe, h2', comp, hall]
        | true =>
          obtain ⟨e1, e2⟩ := names_strs c
          have e : parD (.tup ps) = (setN (ps.map strOf) == ps.length) := by simp [parD, c, h2]
          rw [c] at hall
          rw [e]
          have hl2 : ps.length ≤ 100 := by omega
          simp [a_run, noOwnB, isTup _ h.pl, truD, dLen, dLe, h2', comp, hall, rowD, e1, hl2, dEq, int_eq]
      · have h2' : ¬ ((ps.length : Int) ≤ 2) := by omega
        have e : parD (.tup ps) = false := by simp [parD, h2]
        rw [e]
        simp [a_run, noOwnB, isTup _ h.pl, truD, dLen, dLe, h2']
  simp [a_run, noOwnB, key]
theorem P_kind (F : List Str) {n : Nat} {d : Dat} (h : okD n d) (hn : n ≤ 40) : F_is_kind_for [some (.val (.tup (F.map .str))), some (.val d)] = some (.val (.bl (kindD F d)), [some (.val (.tup (F.map .str))), some (.val d)]) := by
  unfold F_is_kind_for fb_is_kind_for
  cases ht : tupD d with
  | false =>
    have e : kindD F d = false := by cases d <;> first | rfl | cases ht
    rw [e]
    simp [a_run, noOwnB, isTup _ h.pl, ht, truD]
  | true =>
    obtain ⟨m, ds, rfl, rfl⟩ := h.up ht
    obtain ⟨hl, hx⟩ := h.at
    by_cases hq : ds.length = 3
    · match ds, hq, h, hx with
      | [nm, ps, b], _, h, hx =>
        have h0 := hx nm (by simp)
        have h1 := hx ps (by simp)
        have h2 := hx b (by simp)
        have r1 := P_params h1 (by omega)
        cases c0 : nmD nm with
        | false => simp [a_run, noOwnB, isTup _ h.pl, truD, dLen, dNe, gTupD, gConsD, gNilD, F_name, h0.pl, h0.sz, c0, kindD]
        | true =>
          cases c1 : parD ps with
          | false =>
            rw [c1] at r1
            simp [a_run, noOwnB, isTup _ h.pl, truD, dLen, dNe, gTupD, gConsD, gNilD, F_name, h0.pl, h0.sz, c0, r1, c1, kindD]
          | true =>
            rw [c1] at r1
            have hps : ∃ qs, ps = .tup qs ∧ qs.length ≤ 2 ∧ qs.all nmD = true := by
              obtain ⟨qs, e⟩ : ∃ qs, ps = .tup qs := by cases ps <;> first | exact ⟨_, rfl⟩ | cases c1
              refine ⟨qs, e, ?_⟩
              rw [e] at c1
              have := c1
              simp only [parD, Bool.and_eq_true, decide_eq_true_eq] at this
              exact ⟨this.1, this.2.1⟩
            obtain ⟨qs, rfl, hql, hqa⟩ := hps
            obtain ⟨_, e2⟩ := names_strs hqa
            have r2 := P_body F 60 m (qs.map strOf) [] b (by omega) (by omega) h2 (by simp) (by simp) (by simp; omega)
            simp only [eC, scD, ← e2] at r2
            simp [a_run, noOwnB, isTup _ h.pl, truD, dLen, dNe, gTupD, gConsD, gNilD, F_name, h0.pl, h0.sz, c0, r1, c1, r2, kindD, parN]
    · have e : kindD F (.tup ds) = false := by
        match ds, hq with
        | [], _ => rfl
        | [_], _ => rfl
        | [_, _], _ => rfl
        | [_, _, _], h => exact absurd rfl h
        | _ :: _ :: _ :: _ :: _, _ => rfl
      have hq' : ((ds.length : Int) == 3) = false := by rw [beq_eq_false_iff_ne]; omega
      rw [e]
      simp [a_run, noOwnB, isTup _ h.pl, truD, dLen, dNe, hq']
theorem L_kind (F : List Str) (hF : F.length ≤ 1000) {n : Nat} {d : Dat} (h : okD n d) (hn : n ≤ 40) : F_L_is_kind [some (.val (.tup (F.map .str))), some (.val d)] = some (.val (.bl (kindD F d)), [some (.val (.tup (F.map .str))), some (.val d)]) := by
  unfold F_L_is_kind fb_L_is_kind
  cases ht : tupD d with
  | false =>
    have e : kindD F d = false := by cases d <;> first | rfl | cases ht
    rw [e]
    simp [a_run, noOwnB, isTup _ h.pl, ht, truD]
  | true =>
    obtain ⟨m, ds, rfl, rfl⟩ := h.up ht
    obtain ⟨hl, hx⟩ := h.at
    by_cases hq : ds.length = 3
    · match ds, hq, h, hx with
      | [nm, ps, b], _, h, hx =>
        have h0 := hx nm (by simp)
        have h1 := hx ps (by simp)
        have h2 := hx b (by simp)
        cases c0 : nmD nm with
        | false => simp [a_run, noOwnB, isTup _ h.pl, truD, dLen, dNe, dIx, at0, F_Lname, h0.pl, h0.sz, c0, kindD]
        | true =>
          cases ht2 : tupD ps with
          | false =>
            have e : kindD F (.tup [nm, ps, b]) = false := by
              have : parD ps = false := by cases ps <;> first | rfl | cases ht2
              simp [kindD, this]
            rw [e]
            simp [a_run, noOwnB, isTup _ h.pl, isTup _ h1.pl, ht2, truD, dLen, dNe, dIx, at0, at1, F_Lname, h0.pl, h0.sz, c0]
          | true =>
            obtain ⟨k, qs, rfl, rfl⟩ := h1.up ht2
            obtain ⟨hl2, hx2⟩ := h1.at
            by_cases hq2 : qs.length ≤ 2
            · have hq2' : ¬ ((2 : Int) < (qs.length : Int)) := by omega
              have comp : eLc (iAny (eVar 2)) (gPut 3) (eRet true) (eCallV F_L_is_name (eOne (eVar 3))) [3] [some (.val (.tup (F.map .str))), some (.val (.tup [nm, .tup qs, b])), some (.val (.tup qs)), none] =
                  some (.new (.lst (qs.map fun d => .bl (nmD d))), [some (.val (.tup (F.map .str))), some (.val (.tup [nm, .tup qs, b])), some (.val (.tup qs)), none]) := by
                refine eLc_each (fun d => .bl (nmD d)) (fun d => .val (.bl (nmD d))) (by simp [itemsD]) rfl (by omega) fun d hd => ?_
                simp [F_Lname, (hx2 d hd).pl, (hx2 d hd).sz]
              have hall := all_map nmD qs
              cases c : qs.all nmD with
              | false =>
                have e : kindD F (.tup [nm, .tup qs, b]) = false := by simp [kindD, parD, c]
                rw [c] at hall
                rw [e]
                simp [a_run, noOwnB, isTup _ h.pl, isTup _ h1.pl, truD, dLen, dNe, dGt, hq2', dIx, at0, at1, F_Lname, h0.pl, h0.sz, c0, comp, hall]
              | true =>
                obtain ⟨e1, e2⟩ := names_strs c
                rw [c] at hall
                have hl3 : qs.length ≤ 100 := by omega
                have r2 := L_body F hF 60 (k + 1) (qs.map strOf) [] b (by omega) (by omega) h2 (by simp) (by simp) (by simp; omega)
                simp only [eB, ← e2] at r2
                cases c3 : (setN (qs.map strOf) == qs.length) with
                | false =>
                  have e : kindD F (.tup [nm, .tup qs, b]) = false := by simp only [kindD, parD, c3, Bool.and_false, Bool.false_and]
                  rw [e]
                  simp [a_run, noOwnB, isTup _ h.pl, isTup _ h1.pl, truD, dLen, dNe, dGt, hq2', dIx, at0, at1, F_Lname, h0.pl, h0.sz, c0, comp, hall, rowD, e1, hl3, dEq, int_eq, c3]
                | true =>
                  have e : kindD F (.tup [nm, .tup qs, b]) = bodyD F 60 (qs.map strOf) [] b := by
                    simp only [kindD, parD, c, c3, c0, decide_eq_true hq2, Bool.true_and, parN]
                  rw [e]
                  simp [a_run, noOwnB, isTup _ h.pl, isTup _ h1.pl, truD, dLen, dNe, dGt, hq2', dIx, at0, at1, at2, F_Lname, h0.pl, h0.sz, c0, comp, hall, rowD, e1, hl3, dEq, int_eq, c3, dList, r2]
            · have hq2' : ((2 : Int) < (qs.length : Int)) := by omega
              have e : kindD F (.tup [nm, .tup qs, b]) = false := by simp [kindD, parD, hq2]
              rw [e]
              simp [a_run, noOwnB, isTup _ h.pl, isTup _ h1.pl, truD, dLen, dNe, dGt, hq2', dIx, at0, at1, F_Lname, h0.pl, h0.sz, c0]
    · have e : kindD F (.tup ds) = false := by
        match ds, hq with
        | [], _ => rfl
        | [_], _ => rfl
        | [_, _], _ => rfl
        | [_, _, _], h => exact absurd rfl h
        | _ :: _ :: _ :: _ :: _, _ => rfl
      have hq' : ((ds.length : Int) == 3) = false := by rw [beq_eq_false_iff_ne]; omega
      rw [e]
      simp [a_run, noOwnB, isTup _ h.pl, truD, dLen, dNe, hq']
end Prg
/-! Draws: take, of, names. -/
namespace Prg
open PySem PySem.Spec L2 DL
open PyProof.Rows hiding St
/-- the source of draws, m of them at most drawn by counting -/
def Bx (m : Nat) (d : Dat) : Prop := ∃ a b c : Int, d = .lst [.int a, .int b, .int c] ∧ 0 ≤ c ∧ c ≤ m
theorem Bx.mono {m k : Nat} {d : Dat} (h : Bx m d) (hk : m ≤ k) : Bx k d := by
  obtain ⟨a, b, c, e, h1, h2⟩ := h
  exact ⟨a, b, c, e, h1, by omega⟩
theorem dMul_i {i j : Int} (h : (-(2 ^ 64) < i ∧ i < 2 ^ 64) ∨ (-(2 ^ 64) < j ∧ j < 2 ^ 64)) : dMul (.int i) (.int j) = some (false, .int (i * j)) := if_pos h
theorem D_take {m : Nat} {d : Dat} (h : Bx m d) (hm : m ≤ 1000000) {n : Int} (h0 : 0 < n) (h1 : n < 1073741824) :
    ∃ (x : Int) (d' : Dat), F_L_take [some (.mtb d), some (.val (.int n))] = some (.val (.int x), [some (.mtb d'), some (.val (.int n))]) ∧ 0 ≤ x ∧ x < n ∧ Bx (m + 1) d' := by
  obtain ⟨a, b, c, rfl, hc0, hc1⟩ := h
  by_cases ha : 0 < a
  · refine ⟨a % n, .lst [.int (a / n), .int b, .int c], ?_, Int.emod_nonneg _ (by omega), Int.emod_lt_of_pos _ h0, _, _, _, rfl, hc0, by omega⟩
    unfold F_L_take fb_L_take
    simp [a_run, noOwnB, dIx, atI, ixN, dGt, dMod, dInt, int2, ha, h0, dFdv, h1]
  · have hmul : ∀ i : Int, dMul (.int i) (.int (39373 + (c + 1))) = some (false, .int (i * (39373 + (c + 1)))) := fun i => dMul_i (.inr ⟨by omega, by omega⟩)
    have hmul2 : ∀ i : Int, dMul (.int 48271) (.int i) = some (false, .int (48271 * i)) := fun i => dMul_i (.inl ⟨by decide, by decide⟩)
    have hmul3 : ∀ i : Int, dMul (.int i) (.int 48271) = some (false, .int (i * 48271)) := fun i => dMul_i (.inr ⟨by decide, by decide⟩)
    have hmul4 : ∀ i j : Int, dMul (.int i) (.int (j % 40009 + 7)) = some (false, .int (i * (j % 40009 + 7))) := fun i j => by
      have g1 := Int.emod_nonneg j (by decide : (40009 : Int) ≠ 0)
      have g2 := Int.emod_lt_of_pos j (by decide : (0 : Int) < 40009)
      exact dMul_i (.inr ⟨by omega, by omega⟩)
    have key : ∃ x : Int, F_L_take [some (.mtb (.lst [.int a, .int b, .int c])), some (.val (.int n))] = some (.val (.int (x % n)), [some (.mtb (.lst [.int a, .int b, .int (c + 1)])), some (.val (.int n))]) := by
      unfold F_L_take fb_L_take
      simp [a_run, noOwnB, dIx, atI, ixN, dGt, dMod, dInt, int2, ha, h0, dFdv, h1, dAdd, hmul, hmul2, hmul3, hmul4]
      exact ⟨_, rfl⟩
    obtain ⟨x, e⟩ := key
    exact ⟨x % n, .lst [.int a, .int b, .int (c + 1)], e, Int.emod_nonneg _ (by omega), Int.emod_lt_of_pos _ h0, a, b, c + 1, rfl, by omega, by push_cast; omega⟩
/-! ### of -/
theorem atI_in {α : Type} {ds : List α} {x : Int} (h0 : 0 ≤ x) (h1 : x < (ds.length : Int)) : ∃ y, atI ds x = some y ∧ y ∈ ds := by
  obtain ⟨j, rfl⟩ :=
      Int.eq_ofNat_of_zero_le h0
  have hj : j < ds.length := by omega
  refine ⟨ds[j], ?_, List.getElem_mem hj⟩
  have e : ixN ds.length (j : Int) = some j := by
    unfold ixN
    rw [if_pos h0, if_pos h1]
    rfl
  show (ixN ds.length (j : Int)).bind _ = _
  rw [e]
  exact List.getElem?_eq_getElem hj
theorem D_ofL {m : Nat} {d : Dat} (h : Bx m d) (hm : m ≤ 1000000) {ds : List Dat} (hne : ds ≠ []) (hl : ds.length ≤ 100000) :
    ∃ (x d' : Dat), F_L_of [some (.mtb d), some (.val (.lst ds))] = some (.val x, [some (.mtb d'), some (.val (.lst ds))]) ∧ x ∈ ds ∧ Bx (m + 1) d' := by
  have hp : 0 < ds.length := List.length_pos_iff.mpr hne
  obtain ⟨x, d', e, h0, h1, hb⟩ := D_take h hm (n := (ds.length : Int)) (by omega) (by omega)
  obtain ⟨y, e2, hy⟩ := atI_in h0 h1
  refine ⟨y, d', ?_, hy, hb⟩
  unfold F_L_of fb_L_of
  simp [a_run, noOwnB, dLen, e, dIx, e2]
theorem D_ofT {m : Nat} {d : Dat} (h : Bx m d) (hm : m ≤ 1000000) {ds : List Dat} (hne : ds ≠ []) (hl : ds.length ≤ 100000) :
    ∃ (x d' : Dat), F_L_of [some (.mtb d), some (.val (.tup ds))] = some (.val x, [some (.mtb d'), some (.val (.tup ds))]) ∧ x ∈ ds ∧ Bx (m + 1) d' := by
  have hp : 0 < ds.length := List.length_pos_iff.mpr hne
  obtain ⟨x, d', e, h0, h1, hb⟩ := D_take h hm (n := (ds.length : Int)) (by omega) (by omega)
  obtain ⟨y, e2, hy⟩ := atI_in h0 h1
  refine ⟨y, d', ?_, hy, hb⟩
  unfold F_L_of fb_L_of
  simp [a_run, noOwnB, dLen, e, dIx, e2]
theorem D_ofS {m : Nat} {d : Dat} (h : Bx m d) (hm : m ≤ 1000000) {z : Str} (hne : 0 < z.length) (hl : z.length ≤ 100000) :
    ∃ (c : Nat) (d' : Dat), F_L_of [some (.mtb d), some (.val (.str z))] = some (.val (chS c), [some (.mtb d'), some (.val (.str z))]) ∧ Bx (m + 1) d' := by
  obtain ⟨x, d', e, h0, h1, hb⟩ := D_take h hm (n := (z.length : Int)) (by omega) (by omega)
  obtain ⟨y, e2, hy⟩ := atI_in (ds := z.cps.toList) h0 (by rw [Array.length_toList]; exact h1)
  refine ⟨y, d', ?_, hb⟩
  unfold F_L_of fb_L_of
  simp [a_run, noOwnB, dLen, hl, e, dIx, e2]
/-! ### names -/
theorem chars_strs : ∀ {vs : List Dat}, (∀ v ∈ vs, ∃ c, v = chS c) → ∃ zs, strsD vs = some zs ∧ zs.length = vs.length ∧ ∀ z ∈ zs, z.length = 1
  | [], _ => ⟨[], rfl, rfl, by simp⟩
  | v :: vs, h => by
    obtain ⟨c, rfl⟩ := h v (by simp)
    obtain ⟨zs, h1, h2, h3⟩ := chars_strs (vs := vs) fun x hx => h x (by simp [hx])
    refine ⟨⟨#[c]⟩ :: zs, ?_, by simp [h2], fun z hz => ?_⟩
    · show (strsD vs).map _ = _
      rw [h1]
      rfl
    · rcases List.mem_cons.mp hz with q | q
      · rw [q]; rfl
      · exact h3 z q
theorem sum_ones : ∀ {zs : List Str}, (∀ z ∈ zs, z.length = 1) → (zs.map (·.length)).sum = zs.length
  | [], _ => rfl
  | z :: zs, h => by
    rw [List.map_cons, List.sum_cons, h z (by simp), sum_ones fun x hx => h x (by simp [hx])]
    simp
    omega
def wordOk (w : Str) : Prop := w.length ≤ 8
theorem abc_len : (Str.ofString "abcdefghijklmnopqrstuvwxyz").length = 26 := by decide +kernel
theorem D_word {m : Nat} {d : Dat} (h : Bx m d) (hm : m ≤ 100000) (k : Dat) (fnd : List Dat) (s3 s4 : Option Slot) :
    ∃ (w : Str) (d' : Dat), eJoin (eCon (.str (Str.ofString ""))) (eLc (iRange (eOne (eOp2 dAdd (eCon (.int 1)) (eCallM F_L_take (eCons (eVar 0) (eOne (eCon (.int 4)))))))) (gPut 5) (eRet true) (eCallM F_L_of (eCons (eVar 0) (eOne (eCon (.str (Str.ofString "abcdefghijklmnopqrstuvwxyz")))))) [5]) [some (.mtb d), some (.val k), some (.own (.lst fnd)), s3, s4, none] =
      some (.val (.str w), [some (.mtb d'), some (.val k), some (.own (.lst fnd)), s3, s4, none]) ∧ w.length ≤ 4 ∧ Bx (m + 5) d' := by
  obtain ⟨x, d1, e1, h0, h1, hb1⟩ := D_take h (by omega) (n := 4) (by decide) (by decide)
  have hit : iRange (eOne (eOp2 dAdd (eCon (.int 1)) (eCallM F_L_take (eCons (eVar 0) (eOne (eCon (.int 4))))))) [some (.mtb d), some (.val k), some (.own (.lst fnd)), s3, s4, none] = some (rngD 0 (1 + x).toNat, [some (.mtb d1), some (.val k), some (.own (.lst fnd)), s3, s4, none]) := by
    simp [e1, dAdd]
    rw [rangeO_e _ _ (by constructor <;> omega)]
  obtain ⟨vs, d2, e2, hl, hP, hb2⟩ := eLc_draw (i := 4) (P := fun v => ∃ c, v = chS c) (B := Bx) (k := 1) (M := 1000000) (f := eCallM F_L_of (eCons (eVar 0) (eOne (eCon (.str (Str.ofString "abcdefghijklmnopqrstuvwxyz")))))) hit rfl hb1 (by rw [rngD_len]; omega) (by rw [rngD_len]; omega) fun y m' d' _ hB hM => by
    obtain ⟨c, d3, e3, hb3⟩ := D_ofS hB (by omega) (z := Str.ofString "abcdefghijklmnopqrstuvwxyz") (by rw [abc_len]; decide) (by rw [abc_len]; decide)
    refine ⟨.val (chS c), chS c, d3, ?_, rfl, ⟨c, rfl⟩, hb3⟩
    simp [e3]
  obtain ⟨zs, g1, g2, g3⟩ := chars_strs hP
  have hs := sum_ones g3
  have e0 : (Str.ofString "").length = 0 := by decide +kernel
  have hx : (1 + x).toNat ≤ 4 := by omega
  rw [rngD_len] at hl hb2
  refine ⟨Txt.join (Str.ofString "") zs, d2, ?_, ?_, hb2.mono (by omega)⟩
  · have hcond : (zs.map (·.length)).sum + zs.length * (Str.ofString "").length ≤ 100000 := by
      rw [hs, e0]
      omega
    simp [e2, rowD, g1, hcond]
  · have := PySem.W.KT.join_ones zs g3
    have e4 : (Txt.join (Str.ofString "") zs).length = zs.length := this
    omega
end Prg
/-! Drawn names; a drawn say. -/
namespace Prg
open PySem PySem.Spec L2 DL
open PyProof.Rows hiding St
theorem rngD_get {n i : Nat} {x : Dat} (h : (rngD 0 n)[i]? = some x) : x = .int i ∧ i < n := by
  unfold rngD at h
  rw [List.getElem?_map] at h
  by_cases hi : i < n
  · rw [List.getElem?_range hi] at h
    refine ⟨?_, hi⟩
    have := Option.some.inj h
    rw [← this]
    simp
  · rw [List.getElem?_eq_none (by simp; omega)] at h
    cases h
theorem cutS_le (z : Str) (lo hi : Option Int) : (cutS z lo hi).length ≤ z.length := cutS_length z lo hi
def wordE : EM R := eJoin (eCon (.str (Str.ofString ""))) (eLc (iRange (eOne (eOp2 dAdd (eCon (.int 1)) (eCallM F_L_take (eCons (eVar 0) (eOne (eCon (.int 4)))))))) (gPut 5) (eRet true) (eCallM F_L_of (eCons (eVar 0) (eOne (eCon (.str (Str.ofString "abcdefghijklmnopqrstuvwxyz")))))) [5])
def nameB : EM O := (sSeq (sSet 4 wordE) (sSeq (eIf (DL.tCmp dIn (eVar 4) (eVar 2)) (sSet 4 (eOp2 dAdd (eCut (eOp2 dAdd (eVar 4) (eCon (.str (Str.ofString "jjjj")))) oNone (oInt (eCon (.int 4)))) (eOp2 dMul (eOp2 dIx (eCon (.str (Str.ofString "abcdefghijklmnopqrstuvwxyz"))) (eVar 3)) (eCon (.int 2))))) (eRet .nx)) (sExp (eBind (hasL 2) fun _ => eApp 2 (eOne (eVar 4))))))
theorem fb_names : fb_L_names = sSeq (sSet 2 (eLst eNil)) (sSeq (sFor (iRange (eOne (eVar 1))) (gPut 3) nameB) (sRet (eVar 2))) := rfl
theorem D_word' {m : Nat} {d : Dat} (h : Bx m d) (hm : m ≤ 100000) (k : Dat) (fnd : List Dat) (s3 s4 : Option Slot) :
    ∃ (w : Str) (d' : Dat), wordE [some (.mtb d), some (.val k), some (.own (.lst fnd)), s3, s4, none] = some (.val (.str w), [some (.mtb d'), some (.val k), some (.own (.lst fnd)), s3, s4, none]) ∧ w.length ≤ 4 ∧ Bx (m + 5) d' := D_word h hm k fnd s3 s4
abbrev eN (d k : Dat) (f : List Dat) (s3 s4 : Option Slot) : DL.Env := [some (.mtb d), some (.val k), some (.own (.lst f)), s3, s4, none]
theorem nameB_no {d d1 : Dat} {k : Nat} {ws : List Str} {j : Nat} {s4 : Option Slot} {w : Str} (hs4 : isMtb (some s4) = false) (ew : wordE (eN d (.int k) (ws.map .str) (some (.val (.int j))) s4) = some (.val (.str w), eN d1 (.int k) (ws.map .str) (some (.val (.int j))) s4))
    (hl : ws.length < 100000) (c : (ws.any fun y => y == w) = false) : nameB (eN d (.int k) (ws.map .str) (some (.val (.int j))) s4) = some (.nx, eN d1 (.int k) ((ws ++ [w]).map .str) (some (.val (.int j))) (some (.val (.str w)))) := by
  have hin : dIn (.str w) (.lst (ws.map .str)) = some (false, .bl false) := (dIn_N w ws).trans (by rw [c])
  unfold nameB
  simp [ew, hs4, hin, hl]
theorem len1 (ch : Nat) : (⟨#[ch]⟩ : Str).length = 1 := rfl
theorem mul2 (ch : Nat) : (Txt.mul (⟨#[ch]⟩ : Str) 2).length = 2 := by
  have := mulS_len (z := ⟨#[ch]⟩) (i := 2) (by decide)
  rw [len1] at this
  omega
theorem cut4 (z : Str) : (cutS z none (some 4)).length ≤ 4 := by
  have h : HT.sIx z.length z.length (some 4) ≤ 4 := Nat.min_le_left 4 z.length
  unfold cutS
  show (List.toArray _).size ≤ 4
  rw [List.size_toArray, List.length_take]
  omega
theorem nameB_yes {d d1 : Dat} {k : Nat} {ws : List Str} {j : Nat} {s4 : Option Slot} {w : Str} (hj : j < 26) (hw : w.length ≤ 4) (hs4 : isMtb (some s4) = false) (ew : wordE (eN d (.int k) (ws.map .str) (some (.val (.int j))) s4) = some (.val (.str w), eN d1 (.int k) (ws.map .str) (some (.val (.int j))) s4))
    (hl : ws.length < 100000) (c : (ws.any fun y => y == w) = true) : ∃ v : Str, v.length ≤ 8 ∧ nameB (eN d (.int k) (ws.map .str) (some (.val (.int j))) s4) = some (.nx, eN d1 (.int k) ((ws ++ [v]).map .str) (some (.val (.int j))) (some (.val (.str v)))) := by
  have hin : dIn (.str w) (.lst (ws.map .str)) = some (false, .bl true) := (dIn_N w ws).trans (by rw [c])
  obtain ⟨ch, ec, _⟩ := atI_in (ds := (Str.ofString "abcdefghijklmnopqrstuvwxyz").cps.toList) (x := (j : Int)) (by omega) (by
    rw [Array.length_toList]
    have := abc_len
    show (j : Int) < ((Str.ofString "abcdefghijklmnopqrstuvwxyz").length : Int)
    omega)
  have ha : (Str.ofString "abcdefghijklmnopqrstuvwxyz").length ≤ 100000 := by rw [abc_len]; omega
  have e4 : (Str.ofString "jjjj").length = 4 := by decide +kernel
  generalize hab : Str.ofString "abcdefghijklmnopqrstuvwxyz" = abc at ec ha
  have h5 := mul2 ch
  have h6 := cut4 (w ++ Str.ofString "jjjj")
  refine ⟨cutS (w ++ Str.ofString "jjjj") none (some 4) ++ Txt.mul (⟨#[ch]⟩ : Str) 2, by rw [PySem.Str.length_append]; omega, ?_⟩
  generalize hq : Str.ofString "jjjj" = jj at e4 h6
  generalize hv : cutS (w ++ jj) none (some 4) = v1 at h6
  generalize hm : Txt.mul (⟨#[ch]⟩ : Str) 2 = v2 at h5
  have x1 : dAdd (.str w) (.str jj) = some (false, .str (w ++ jj)) := if_pos (by omega)
  have x2 : dCut (.str (w ++ jj)) none (some 4) = some (false, .str v1) := by
    rw [← hv]
    exact if_pos (by rw [PySem.Str.length_append]; omega)
  have x3 : dIx (.str abc) (.int j) = some (false, .str ⟨#[ch]⟩) := by
    show (if abc.length ≤ 100000 then (atI abc.cps.toList (j : Int)).map fun c => (false, chS c) else none) = _
    rw [if_pos ha, ec]
    rfl
  have x4 : dMul (.str ⟨#[ch]⟩) (.int 2) = some (false, .str v2) := by
    rw [← hm]
    show (if (⟨#[ch]⟩ : Str).length ≤ 16 ∧ (0 : Int) ≤ 2 ∧ (2 : Int) ≤ 1000 then some (false, Dat.str (Txt.mul (⟨#[ch]⟩ : Str) 2)) else none) = _
    rw [if_pos ⟨by rw [len1]; omega, by omega, by omega⟩]
  have x5 : dAdd (.str v1) (.str v2) = some (false, .str (v1 ++ v2)) := if_pos (by omega)
  unfold nameB
  simp only [hq, hab]
  simp [ew, hs4, hin, hl, x1, x2, x3, x4, x5]
end Prg
/-! Drawn names; a drawn say. -/
namespace Prg
open PySem PySem.Spec L2 DL
open PyProof.Rows hiding St
theorem D_names {m : Nat} {d : Dat} (h : Bx m d) (hm : m ≤ 50000) {k : Nat} (hk : k ≤ 5) :
    ∃ (ws : List Str) (d' : Dat), F_L_names [some (.mtb d), some (.val (.int k))] = some (.new (.lst (ws.map .str)), [some (.mtb d'), some (.val (.int k))]) ∧ ws.length = k ∧ (∀ w ∈ ws, w.length ≤ 8) ∧ Bx (m + 5 * k) d' := by
  obtain ⟨e3, hloop, hI⟩ := loop_inv (g := gPut 3) (body := nameB)
    (fun i env => ∃ (d : Dat) (ws : List Str) (s3 s4 : Option Slot), env = eN d (.int k) (ws.map .str) s3 s4 ∧ Bx (m + 5 * i) d ∧ ws.length = i ∧ (∀ w ∈ ws, w.length ≤ 8) ∧ isMtb (some s3) = false ∧ isMtb (some s4) = false)
    (rngD 0 k) 0 (eN d (.int k) [] none none) ⟨d, [], none, none, rfl, h, rfl, by simp, rfl, rfl⟩ (by
      rintro j x env hx ⟨d, ws, s3, s4, rfl, hB, hl, hw, hs3, hs4⟩
      obtain ⟨rfl, hj⟩ := rngD_get hx
      rw [Nat.zero_add] at hB hl
      obtain ⟨w, d1, ew, hwl, hB1⟩ := D_word' hB (by omega) (.int k) (ws.map .str) (some (.val (.int j))) s4
      have hp : gPut 3 (.int j) (eN d (.int k) (ws.map .str) s3 s4) = some ((), eN d (.int k) (ws.map .str) (some (.val (.int j))) s4) := by
        simp [hs3]
      refine ⟨eN d (.int k) (ws.map .str) (some (.val (.int j))) s4, ?_⟩
      cases c : ws.any fun y => y == w with
      | false =>
        refine ⟨_, hp, nameB_no hs4 ew (by omega) c, d1, ws ++ [w], _, _, rfl, hB1.mono (by omega), by simp [hl], fun v hv => ?_, rfl, rfl⟩
        rcases List.mem_append.mp hv with q | q
        · exact hw v q
        · rw [List.mem_singleton.mp q]
          omega
      | true =>
        obtain ⟨v0, hv0, e0⟩ := nameB_yes (by omega) hwl hs4 ew (by omega) c
        refine ⟨_, hp, e0, d1, ws ++ [v0], _, _, rfl, hB1.mono (by omega), by simp [hl], fun v hv => ?_, rfl, rfl⟩
        rcases List.mem_append.mp hv with q | q
        · exact hw v q
        · rw [List.mem_singleton.mp q]
          exact hv0)
  obtain ⟨d', ws, s3, s4, rfl, hB, hl, hw, hs3, hs4⟩ := hI
  rw [rngD_len, Nat.zero_add] at hB hl
  refine ⟨ws, d', ?_, hl, hw, hB⟩
  have hr : ∀ env, rangeO [.int (k : Int)] env = some (rngD 0 k, env) := fun env => by
    have := rangeO_e (k : Int) env (by constructor <;> omega)
    rw [show (k : Int).toNat = k by omega] at this
    exact this
  have e1 : sSet 2 (eLst eNil) [some (.mtb d), some (.val (.int k)), none, none, none, none] = some (.nx, eN d (.int k) [] none none) := by simp
  have e2 : sFor (iRange (eOne (eVar 1))) (gPut 3) nameB (eN d (.int k) [] none none) = some (.nx, eN d' (.int k) (ws.map .str) s3 s4) := by
    have hi : iRange (eOne (eVar 1)) (eN d (.int k) [] none none) = some (rngD 0 k, eN d (.int k) [] none none) := by
      rw [a_irange, a_one, a_var, List.getElem?_cons_succ, List.getElem?_cons_zero, slotV_s, at_some, at_some, ls_cons, a_look, l_bor, List.getElem?_cons_succ, List.getElem?_cons_zero, slotD_s, we_some, at_some, ls_nil, at_some, at_some]
      exact hr _
    rw [a_sfor, hi, at_some]
    exact hloop
  have e3 : sRet (eVar 2) (eN d' (.int k) (ws.map .str) s3 s4) = some (.rt (.bor 2), eN d' (.int k) (ws.map .str) s3 s4) := by simp
  have eb : fb_L_names [some (.mtb d), some (.val (.int k)), none, none, none, none] = some (.rt (.bor 2), eN d' (.int k) (ws.map .str) s3 s4) := by
    rw [fb_names, a_seq, e1, at_some, seqO_n, a_seq, e2, at_some, seqO_n, e3]
  show runF 6 2 fb_L_names _ = _
  rw [a_run, if_pos ⟨rfl, rfl⟩]
  show andThen (fb_L_names [some (.mtb d), some (.val (.int k)), none, none, none, none]) _ = _
  rw [eb, at_some]
  rfl
/-! ### a say -/
/-- drawn data: short, no dicts -/
def okW : Nat → Dat → Prop
  | n + 1, .tup ds => ds.length ≤ 20 ∧ ∀ x ∈ ds, okW n x
  | _, .non => True
  | _, .bl _ => True
  | _, .int _ => True
  | _, .str z => z.length ≤ 20
  | _, _ => False
theorem okW.up : ∀ {n : Nat} {d : Dat}, okW n d → okW (n + 1) d
  | 0, d, h => by
    cases d <;> first | exact h | exact h.elim
  | n + 1, .tup ds, h => ⟨h.1, fun x hx => (h.2 x hx).up⟩
  | n + 1, .non, h => h
  | n + 1, .bl _, h => h
  | n + 1, .int _, h => h
  | n + 1, .str _, h => h
  | n + 1, .lst _, h => h.elim
  | n + 1, .dct _ _, h => h.elim
  | n + 1, .obj _ _ _, h => h.elim
  | n + 1, .ty _, h => h.elim
theorem okW.mono {n k : Nat} {d : Dat} (h : okW n d) (hk : n ≤ k) : okW k d := by
  induction hk with
  | refl => exact h
  | step _ ih => exact ih.up
theorem okW.okD : ∀ {n : Nat} {d : Dat}, okW n d → Prg.okD n d
  | 0, d, h => by
    cases d with
    | str z => have : z.length ≤ 20 := h; show z.length ≤ 1000; omega
    | _ => first | exact h | exact h.elim
  | n + 1, .tup ds, h => ⟨by have := h.1; omega, fun x hx => (h.2 x hx).okD⟩
  | n + 1, .non, h => h
  | n + 1, .bl _, h => h
  | n + 1, .int _, h => h
  | n + 1, .str z, h => by have : z.length ≤ 20 := h; show z.length ≤ 1000; omega
  | n + 1, .lst _, h => h.elim
  | n + 1, .dct _ _, h => h.elim
  | n + 1, .obj _ _ _, h => h.elim
  | n + 1, .ty _, h => h.elim
/-- the change that is put -/
def makeE : EM R := eOpN dTuple (eOne (eLc (iAny (eVar 1)) (gPut 8) (eRet true) (eCallM F_L_of (eCons (eVar 0) (eOne (eOp2 dAdd (eVar 2) (eLst (eOne (eCon (.int 0)))))))) [8]))
def sayB : EM O := (sSeq (sPar 6 7 (eCons (eCallM F_L_of (eCons (eVar 0) (eOne (eVar 2)))) (eOne (eCallM F_L_take (eCons (eVar 0) (eOne (eCon (.int 4)))))))) (eIf (DL.tCmp dLt (eVar 7) (eCon (.int 2))) (sExp (eBind (hasL 4) fun _ => eApp 4 (eOne (eTup (eCons (eCon (.str (Str.ofString "make"))) (eCons (eVar 6) (eOne makeE))))))) (eIf (DL.tCmp dEq (eVar 7) (eCon (.int 2))) (sExp (eBind (hasL 4) fun _ => eApp 4 (eOne (eTup (eCons (eCon (.str (Str.ofString "set"))) (eCons (eVar 6) (eCons (eCallM F_L_of (eCons (eVar 0) (eOne (eVar 1)))) (eOne (eCallM F_L_of (eCons (eVar 0) (eOne (eOp2 dAdd (eVar 2) (eLst (eOne (eCon (.int 0)))))))))))))))) (sExp (eBind (hasL 4) fun _ => eApp 4 (eOne (eTup (eCons (eCon (.str (Str.ofString "drop"))) (eOne (eVar 6))))))))))
theorem fb_say : fb_L_say = (sSeq (sSet 4 (eLst eNil)) (sSeq (sFor (iRange (eOne (eIf (DL.tCmp dNe (eVar 2) (eLst eNil)) (eCallM F_L_of (eCons (eVar 0) (eOne (eLst (eCons (eCon (.int 0)) (eCons (eCon (.int 1)) (eCons (eCon (.int 1)) (eOne (eCon (.int 2)))))))))) (eCon (.int 0))))) (gPut 5) sayB) (sRet (eTup (eCons (eCon (.str (Str.ofString "say"))) (eCons (eOpN dTuple (eOne (eVar 4))) (eOne (eCallM F_L_of (eCons (eVar 0) (eOne (eVar 3))))))))))) := rfl
/-- rows that are drawn from -/
structure Rows (F ts W : List Dat) : Prop where
  fne : F ≠ []
  fl : F.length ≤ 5
  fk : ∀ x ∈ F, okW 0 x
  tl : ts.length ≤ 100
  tk : ∀ x ∈ ts, okW 0 x
  td : depDs ts = 0 ∧ noObjs ts = true
  wne : W ≠ []
  wl : W.length ≤ 100
  wk : ∀ x ∈ W, okW 0 x
abbrev eS (d : Dat) (F ts W cs : List Dat) (s5 s6 s7 : Option Slot) : DL.Env := [some (.mtb d), some (.val (.tup F)), some (.val (.lst ts)), some (.val (.lst W)), some (.own (.lst cs)), s5, s6, s7, none]
theorem D_make {m : Nat} {d : Dat} {F ts W cs : List Dat} (R : Rows F ts W) (h : Bx m d) (hm : m ≤ 100000) (s5 s6 s7 : Option Slot) :
    ∃ (v d' : Dat), makeE (eS d F ts W cs s5 s6 s7) = some (.val v, eS d' F ts W cs s5 s6 s7) ∧ okW 1 v ∧ Bx (m + 5) d' := by
  have hl := R.fl
  obtain ⟨vs, d2, e2, hvl, hP, hb2⟩ := eLc_draw (i := 7) (it := iAny (eVar 1)) (env0 := eS d F ts W cs s5 s6 s7) (P := okW 0) (B := Bx) (k := 1) (M := 1000000) (f := eCallM F_L_of (eCons (eVar 0) (eOne (eOp2 dAdd (eVar 2) (eLst (eOne (eCon (.int 0)))))))) (rest := [some (.val (.tup F)), some (.val (.lst ts)), some (.val (.lst W)), some (.own (.lst cs)), s5, s6, s7, none]) (ds := F) (d := d) (by simp [itemsD]) rfl h (by omega) (by omega) fun y m' d' _ hB hM => by
    obtain ⟨x, d3, e3, hx, hb3⟩ := D_ofL hB (by omega) (ds := ts ++ [.int 0]) (by simp) (by have := R.tl; simp; omega)
    have h1 : ts.length + 1 ≤ 100000 := by have := R.tl; omega
    refine ⟨.val x, x, d3, by simp [dAdd, h1, e3], rfl, ?_, hb3⟩
    rcases List.mem_append.mp hx
        with q | q
    · exact R.tk x q
    · rw [List.mem_singleton.mp q]
      trivial
  refine ⟨.tup vs, d2, ?_, ⟨by omega, hP⟩, hb2.mono (by omega)⟩
  simp only [eS] at e2 ⊢
  unfold makeE
  simp [e2, dTuple]
theorem sayB_ok {m : Nat} {d : Dat} {F ts W cs : List Dat} (R : Rows F ts W) (htn : ts ≠ []) (h : Bx m d) (hm : m ≤ 90000) (hc : cs.length ≤ 10) {s5 s6 s7 : Option Slot} (hs6 : isMtb (some s6) = false) (hs7 : isMtb (some s7) = false) :
    ∃ (v d' : Dat) (t6 t7 : Option Slot), sayB (eS d F ts W cs s5 s6 s7) = some (.nx, eS d' F ts W (cs ++ [v]) s5 t6 t7) ∧ okW 2 v ∧ Bx (m + 10) d' ∧ isMtb (some t6) = false ∧ isMtb (some t7) = false := by
  have hcl : cs.length < 100000 := by omega
  obtain ⟨x, d1, e1, hx, hb1⟩ := D_ofL h (by omega) (ds := ts) htn (by have := R.tl; omega)
  obtain ⟨y, d2, e2, hy0, hy1, hb2⟩ := D_take hb1 (by omega) (n := 4) (by decide) (by decide)
  have hxk := R.tk x hx
  by_cases c1 : y < 2
  · obtain ⟨v, d3, e3, hv, hb3⟩ := D_make (cs := cs) R hb2 (by omega) s5 (some (.val x)) (some (.val (.int y)))
    simp only [eS] at e3
    refine ⟨.tup [.str (Str.ofString "make"), x, v], d3, some (.val x), some (.val (.int y)), ?_, ⟨by simp, ?_⟩, hb3.mono (by omega), rfl, rfl⟩
    · unfold sayB
      simp [e1, e2, hs6, hs7, dLt, c1, hcl, e3]
    · intro z hz
      simp at hz
      rcases hz with q | q | q <;> rw [q]
      · have : (Str.ofString "make").length ≤ 20 := by decide +kernel
        exact this
      · exact hxk.up
      · exact hv
  · by_cases c2 : y = 2
    · subst c2
      obtain ⟨f, d3, e3, hf, hb3⟩ := D_ofT hb2 (by omega) (ds := F) R.fne (by have := R.fl; omega)
      obtain ⟨u, d4, e4, hu, hb4⟩ := D_ofL hb3 (by omega) (ds := ts ++ [.int 0]) (by simp) (by have := R.tl; simp; omega)
      have h1 : ts.length + 1 ≤ 100000 := by have := R.tl; omega
      refine ⟨.tup [.str (Str.ofString "set"), x, f, u], d4, some (.val x), some (.val (.int 2)), ?_, ⟨by simp, ?_⟩, hb4.mono (by omega), rfl, rfl⟩
      · unfold sayB
        simp [e1, e2, hs6, hs7, dLt, dEq, hcl, e3, e4, dAdd, h1]
      · intro z hz
        simp at hz
        rcases hz with q | q | q | q <;> rw [q]
        · have : (Str.ofString "set").length ≤ 20 := by decide +kernel
          exact this
        · exact hxk.up
        · exact (R.fk f hf).up
        · rcases List.mem_append.mp hu with q | q
          · exact (R.tk u q).up
          · rw [List.mem_singleton.mp q]; trivial
    · have c2' : (y == 2) = false := by rw [beq_eq_false_iff_ne]; exact c2
      refine ⟨.tup [.str (Str.ofString "drop"), x], d2, some (.val x), some (.val (.int y)), ?_, ⟨by simp, ?_⟩, hb2.mono (by omega), rfl, rfl⟩
      · unfold sayB
        simp [e1, e2, hs6, hs7, dLt, c1, dEq, c2', hcl]
      · intro z hz
        simp at hz
        rcases hz with q | q <;> rw [q]
        · have : (Str.ofString "drop").length ≤ 20 := by decide +kernel
          exact this
        · exact hxk.up
end Prg
/-! A drawn say. -/
namespace Prg
open PySem PySem.Spec L2 DL
open PyProof.Rows hiding St
abbrev eW (d : Dat) (F ts W : List Dat) : DL.Env := [some (.mtb d), some (.val (.tup F)), some (.val (.lst ts)), some (.val (.lst W))]
theorem eqQ_l0 {ts : List Dat} (h : ts ≠ []) (hd : depDs ts = 0 ∧ noObjs ts = true) : eqQ (.lst ts) (.lst []) = some false := by
  have hl : ts.length ≠ 0 := fun e => h (List.length_eq_zero_iff.mp e)
  unfold eqQ
  rw [if_pos ⟨by rw [depD, hd.1]; decide, hd.2, rfl⟩, eqD, if_neg (by simpa using h)]
theorem eqQ_00 : eqQ (.lst []) (.lst []) = some true := by
  simp [eqQ, depD, depDs, noObj, noObjs, eqD, eqDs]
theorem sayLoop {F ts W : List Dat} (R : Rows F ts W) (htn : ts ≠ []) : ∀ (n : Nat), n ≤ 2 → ∀ {m : Nat} {d : Dat}, Bx m d → m ≤ 80000 →
    ∃ (cs : List Dat) (d' : Dat) (s5 s6 s7 : Option Slot), loopS (gPut 5) sayB (rngD 0 n) (eS d F ts W [] none none none) = some (.nx, eS d' F ts W cs s5 s6 s7) ∧ cs.length = n ∧ (∀ c ∈ cs, okW 2 c) ∧ Bx (m + 10 * n) d' := by
  intro n hn m d hB hm
  obtain ⟨e3, hloop, hI⟩ := loop_inv (g := gPut 5) (body := sayB)
    (fun i env => ∃ (d : Dat) (cs : List Dat) (s5 s6 s7 : Option Slot), env = eS d F ts W cs s5 s6 s7 ∧ Bx (m + 10 * i) d ∧ cs.length = i ∧ (∀ c ∈ cs, okW 2 c) ∧ isMtb (some s5) = false ∧ isMtb (some s6) = false ∧ isMtb (some s7) = false)
    (rngD 0 n) 0 (eS d F ts W [] none none none) ⟨d, [], none, none, none, rfl, hB, rfl, by simp, rfl, rfl, rfl⟩ (by
      rintro j x env hx ⟨d, cs, s5, s6, s7, rfl, hB, hl, hc, h5, h6, h7⟩
      obtain ⟨rfl, hj⟩ := rngD_get hx
      rw [Nat.zero_add] at hB hl
      obtain ⟨v, d1, t6, t7, e1, hv, hB1, g6, g7⟩ := sayB_ok R htn hB (by omega) (cs := cs) (by omega) (s5 := some (.val (.int j))) h6 h7
      have hp : gPut 5 (.int j) (eS d F ts W cs s5 s6 s7) = some ((), eS d F ts W cs (some (.val (.int j))) s6 s7) := by
        rw [a_put, if_pos ⟨by simp, h5⟩]
        rfl
      refine ⟨_, _, hp, e1, d1, cs ++ [v], _, t6, t7, rfl, hB1.mono (by omega), by simp [hl], fun y hy => ?_, rfl, g6, g7⟩
      rcases List.mem_append.mp hy with q | q
      · exact hc y q
      · rw [List.mem_singleton.mp q]
        exact hv)
  obtain ⟨d', cs, s5, s6, s7, rfl, hB', hl, hc, _, _, _⟩ := hI
  rw [rngD_len, Nat.zero_add] at hB' hl
  exact ⟨cs, d', s5, s6, s7, hloop, hl, hc, hB'⟩
def manyE : EM R := (eIf (DL.tCmp dNe (eVar 2) (eLst eNil)) (eCallM F_L_of (eCons (eVar 0) (eOne (eLst (eCons (eCon (.int 0)) (eCons (eCon (.int 1)) (eCons (eCon (.int 1)) (eOne (eCon (.int 2))))))))) ) (eCon (.int 0)))
theorem D_many {F ts W : List Dat} (R : Rows F ts W) {m : Nat} {d : Dat} (h : Bx m d) (hm : m ≤ 80000) :
    ∃ (n : Nat) (d' : Dat), manyE (eS d F ts W [] none none none) = some (.val (.int n), eS d' F ts W [] none none none) ∧ n ≤ 2 ∧ (ts = [] → n = 0) ∧ Bx (m + 1) d' := by
  by_cases ht : ts = []
  · subst ht
    refine ⟨0, d, ?_, by omega, fun _ => rfl, h.mono (by omega)⟩
    unfold manyE
    simp [dNe, eqQ_00]
  · obtain ⟨x, d1, e1, hx, hb1⟩ := D_ofL h (by omega) (ds := [.int 0, .int 1, .int 1, .int 2]) (by simp) (by simp)
    have hn : ∃ n : Nat, x = .int n ∧ n ≤ 2 := by
      simp at hx
      rcases hx with q | q | q
      · exact ⟨0, q, by omega⟩
      · exact ⟨1, q, by omega⟩
      · exact ⟨2, q, by omega⟩
    obtain ⟨n, rfl, hn⟩ := hn
    refine ⟨n, d1, ?_, hn, fun e => absurd e ht, hb1⟩
    unfold manyE
    simp [dNe, eqQ_l0 ht R.td, e1]
theorem D_say {F ts W : List Dat} (R : Rows F ts W) {m : Nat} {d : Dat} (h : Bx m d) (hm : m ≤ 70000) :
    ∃ (v d' : Dat), F_L_say (eW d F ts W) = some (.val v, eW d' F ts W) ∧ okW 4 v ∧ Bx (m + 30) d' := by
  obtain ⟨n, d1, e1, hn, hn0, hb1⟩ := D_many R h (by omega)
  have loop : ∃ (cs : List Dat) (d2 : Dat) (s5 s6 s7 : Option Slot), loopS (gPut 5) sayB (rngD 0 n) (eS d1 F ts W [] none none none) = some (.nx, eS d2 F ts W cs s5 s6 s7) ∧ cs.length ≤ 2 ∧ (∀ c ∈ cs, okW 2 c) ∧ Bx (m + 1 + 20) d2 := by
    by_cases ht : ts = []
    · have := hn0 ht
      subst this
      exact ⟨[], d1, none, none, none, rfl, by simp, by simp, hb1.mono (by omega)⟩
    · obtain ⟨cs, d2, s5, s6, s7, e2, hl, hc, hb2⟩ := sayLoop R ht n hn hb1 (by omega)
      exact ⟨cs, d2, s5, s6, s7, e2, by omega, hc, hb2.mono (by omega)⟩
  obtain ⟨cs, d2, s5, s6, s7, e2, hl, hc, hb2⟩ := loop
  obtain ⟨w, d3, e3, hw, hb3⟩ := D_ofL hb2 (by omega) (ds := W) R.wne (by have := R.wl; omega)
  refine ⟨.tup [.str (Str.ofString "say"), .tup cs, w], d3, ?_, ⟨by simp, fun z hz => ?_⟩, hb3.mono (by omega)⟩
  · have x1 : sSet 4 (eLst eNil) (eW d F ts W ++ [none, none, none, none, none]) = some (.nx, eS d F ts W [] none none none) := by simp
    have x2 : iRange (eOne manyE) (eS d F ts W [] none none none) = some (rngD 0 n, eS d1 F ts W [] none none none) := by
      rw [a_irange, a_one, e1, at_some, at_some, ls_cons, a_look, l_val, we_some, at_some, ls_nil, at_some, at_some]
      have := rangeO_e (n : Int) (eS d1 F ts W [] none none none) (by constructor <;> omega)
      rw [show (n : Int).toNat = n by omega] at this
      exact this
    have x3 : sFor (iRange (eOne manyE)) (gPut 5) sayB (eS d F ts W [] none none none) = some (.nx, eS d2 F ts W cs s5 s6 s7) := by
      rw [a_sfor, x2, at_some]
      exact e2
    have x4 : sRet (eTup (eCons (eCon (.str (Str.ofString "say"))) (eCons (eOpN dTuple (eOne (eVar 4))) (eOne (eCallM F_L_of (eCons (eVar 0) (eOne (eVar 3)))))))) (eS d2 F ts W cs s5 s6 s7) = some (.rt (.val (.tup [.str (Str.ofString "say"), .tup cs, w])), eS d3 F ts W cs s5 s6 s7) := by
      simp [dTuple, e3]
    have eb : fb_L_say (eW d F ts W ++ [none, none, none, none, none]) = some (.rt (.val (.tup [.str (Str.ofString "say"), .tup cs, w])), eS d3 F ts W cs s5 s6 s7) := by
      rw [fb_say, a_seq, x1, at_some, seqO_n, a_seq]
      show andThen (sFor (iRange (eOne manyE)) (gPut 5) sayB (eS d F ts W [] none none none)) _ = _
      rw [x3, at_some, seqO_n, x4]
    show runF 9 4 fb_L_say _ = _
    rw [a_run, if_pos ⟨rfl, rfl⟩]
    show andThen (fb_L_say (eW d F ts W ++ [none, none, none, none, none])) _ = _
    rw [eb, at_some]
    rfl
  · simp at hz
    rcases hz with q | q | q <;> rw [q]
    · have : (Str.ofString "say").length ≤ 20 := by decide +kernel
      exact this
    · exact ⟨by omega, hc⟩
    · exact (R.wk w hw).mono (by omega)
end Prg
/-! A drawn BODY. -/
namespace Prg
open PySem PySem.Spec L2 DL
open PyProof.Rows hiding St
theorem merge_vals : ∀ (ds : List Dat) (fs : DL.Env), merge (ds.map fun d => some (.val d)) fs = ds.map fun d => some (.val d)
  | [], _ => rfl
  | d :: ds, [] => rfl
  | d :: ds, f :: fs => by
    show some (.val d) :: merge (ds.map fun d => some (.val d)) fs = _
    rw [merge_vals ds fs]
    rfl
theorem okW0 {x : Dat} (h : okW 0 x) : depD x = 0 ∧ noObj x = true := by
  cases x <;> first | exact ⟨rfl, rfl⟩ | exact h.elim
theorem flat_all : ∀ {ts : List Dat}, (∀ x ∈ ts, okW 0 x) → depDs ts = 0 ∧ noObjs ts = true
  | [], _ => ⟨rfl, rfl⟩
  | t :: ts, h => by
    obtain ⟨h1, h2⟩ := okW0 (h t (by simp))
    obtain ⟨h3, h4⟩ := flat_all (ts := ts) fun x hx => h x (by simp [hx])
    exact ⟨by rw [depDs, h1, h3]; rfl, by rw [noObjs, h2, h4]; rfl⟩
theorem dNotIn_w (z : Str) : ∀ {ts : List Dat}, (∀ x ∈ ts, okW 0 x) → ∃ b, dNotIn (.str z) (.lst ts) = some (false, .bl b) := by
  intro ts h
  have key : ∀ {ts : List Dat}, (∀ x ∈ ts, okW 0 x) → ∃ b, inDs (.str z) ts = some b := fun {ts} => by
    induction ts with
    | nil => intro _; exact ⟨false, rfl⟩
    | cons t ts ih =>
      intro h
      obtain ⟨b, hb⟩ := ih fun x hx => h x (by simp [hx])
      have hk := (h t (by simp)).okD
      refine ⟨isS z t || b, ?_⟩
      show (match eqQ t (.str z), inDs (.str z) ts with
        | some a, some b => some (a || b)
        | _, _ => none) = _
      rw [eqQ_s' z hk (by omega), hb]
  obtain ⟨b, hb⟩ := key h
  refine ⟨!b, ?_⟩
  show (inDs (.str z) ts).map (fun k => (false, Dat.bl (!k))) = _
  rw [hb]
  rfl
theorem Rows.add {F ts W : List Dat} (R : Rows F ts W) {x : Dat} (h : okW 0 x) (hl : ts.length + 1 ≤ 100) : Rows F (ts ++ [x]) W :=
  have hk : ∀ y ∈ ts ++ [x], okW 0 y := fun y hy => (List.mem_append.mp hy).elim (R.tk y) fun q => by rw [List.mem_singleton.mp q]; exact h
  ⟨R.fne, R.fl, R.fk, by simpa using hl, hk, flat_all hk, R.wne, R.wl, R.wk⟩
abbrev bArgs (F ts S : List Dat) (t l : Int) (W : List Dat) : List Dat := [.tup F, .lst ts, .lst S, .int t, .int l, .lst W]
abbrev eD (d : Dat) (as : List Dat) : DL.Env := some (.mtb d) :: as.map fun d => some (.val d)
abbrev nine : DL.Env := [none, none, none, none, none, none, none, none, none]
def bodyLet (fb : EM R) : EM O := (sSeq (sSet 7 (eIf (DL.tCmp dNotIn (eCon (.str (Str.ofString "x"))) (eVar 2)) (eCon (.str (Str.ofString "x"))) (eCon (.str (Str.ofString "xx"))))) (sSeq (sPar 8 9 (eCons (eCallM F_L_of (eCons (eVar 0) (eOne (eVar 3)))) (eOne (eCallM F_L_of (eCons (eVar 0) (eOne (eVar 1))))))) (sSeq (sSet 10 (eCallM fb (eCons (eVar 0) (eCons (eVar 1) (eCons (eOp2 dAdd (eVar 2) (eLst (eOne (eVar 7)))) (eCons (eVar 3) (eCons (eVar 4) (eCons (eOp2 dSub (eVar 5) (eCon (.int 1))) (eOne (eVar 6)))))))))) (sRet (eTup (eCons (eCon (.str (Str.ofString "let"))) (eCons (eVar 7) (eCons (eVar 8) (eCons (eVar 9) (eOne (eVar 10)))))))))))
def bodyIs (fb : EM R) : EM O := (sSeq (sSet 12 (eTup (eCons (eCon (.str (Str.ofString "is"))) (eCons (eCallM F_L_of (eCons (eVar 0) (eOne (eVar 3)))) (eCons (eCallM F_L_of (eCons (eVar 0) (eOne (eVar 1)))) (eOne (eCallM F_L_of (eCons (eVar 0) (eOne (eOp2 dAdd (eVar 2) (eLst (eOne (eCon (.int 0)))))))))))))) (sSet 13 (eCallM fb (eCons (eVar 0) (eCons (eVar 1) (eCons (eVar 2) (eCons (eVar 3) (eCons (eVar 11) (eCons (eVar 5) (eOne (eVar 6)))))))))))
def bodyHas (fb : EM R) : EM O := (sSeq (sSet 14 (eCallM F_L_of (eCons (eVar 0) (eOne (eVar 2))))) (sSeq (sSet 12 (eTup (eCons (eCon (.str (Str.ofString "has"))) (eOne (eVar 14))))) (sSet 13 (eCallM fb (eCons (eVar 0) (eCons (eVar 1) (eCons (eVar 2) (eCons (eOp2 dAdd (eVar 3) (eLst (eOne (eVar 14)))) (eCons (eVar 11) (eCons (eVar 5) (eOne (eVar 6))))))))))))
def bodyEnd (fb : EM R) : EM O := (sSeq (sSet 15 (eCallM fb (eCons (eVar 0) (eCons (eVar 1) (eCons (eVar 2) (eCons (eVar 3) (eCons (eOp2 dSub (eOp2 dSub (eVar 4) (eCon (.int 1))) (eVar 11)) (eCons (eVar 5) (eOne (eVar 6)))))))))) (sRet (eOp2 dAdd (eVar 12) (eTup (eCons (eVar 13) (eOne (eVar 15)))))))
theorem fb_body (fb : EM R) : fb_L_body fb = (sSeq (eIf (tAnd2 (DL.tCmp dNe (eVar 3) (eLst eNil)) (tAnd2 (DL.tCmp dGt (eVar 5) (eCon (.int 0))) (DL.tCmp dEq (eCallM F_L_take (eCons (eVar 0) (eOne (eCon (.int 3))))) (eCon (.int 0))))) (bodyLet fb) (eRet .nx)) (sSeq (eIf (tOr2 (DL.tCmp dEq (eVar 4) (eCon (.int 0))) (DL.tCmp dEq (eVar 2) (eLst eNil))) (sRet (eCallM F_L_say (eCons (eVar 0) (eCons (eVar 1) (eCons (eVar 2) (eOne (eVar 6))))))) (eRet .nx)) (sSeq (sSet 11 (eCallM F_L_take (eCons (eVar 0) (eOne (eVar 4))))) (sSeq (eIf (tAnd2 (DL.tCmp dNe (eVar 3) (eLst eNil)) (DL.tCmp dEq (eCallM F_L_take (eCons (eVar 0) (eOne (eCon (.int 2))))) (eCon (.int 0)))) (bodyIs fb) (bodyHas fb)) (bodyEnd fb))))) := rfl
/-- what a call of the def itself gives -/
def Rec (fb : EM R) (j : Nat) : Prop := ∀ {F ts W S : List Dat} {t l m : Nat} {d : Dat}, t + l ≤ j → Rows F ts W → ts.length + j ≤ 90 → (∀ x ∈ S, okW 0 x) → S.length + j ≤ 90 → Bx m d → m + 50 * 3 ^ j ≤ 60000 →
  ∃ (v d' : Dat), fb (eD d (bArgs F ts S t l W)) = some (.val v, eD d' (bArgs F ts S t l W)) ∧ okW (4 + j) v ∧ Bx (m + 50 * 3 ^ j) d'
theorem w20 (s : String) (h : (Str.ofString s).length ≤ 20) (n : Nat) : okW n (.str (Str.ofString s)) := by
  cases n <;> exact h
theorem ex_r {e : Option (O × DL.Env)} {o : O} {d : Dat} {B : Prop} (h : ∃ r, e = some (o, some (.mtb d) :: r)) (hB : B) : ∃ r, e = some (o, some (.mtb d) :: r) ∧ B :=
  h.elim fun r q => ⟨r, q, hB⟩
theorem let_ok {fb : EM R} {j : Nat} (ih : Rec fb j) {F ts W S : List Dat} {t l m : Nat} {d : Dat} (hj : t + l ≤ j + 1) (hl0 : 0 < l) (R : Rows F ts W) (ht : ts.length + (j + 1) ≤ 90) (hS : ∀ x ∈ S, okW 0 x) (hne : S ≠ []) (hSl : S.length + (j + 1) ≤ 90) (h : Bx m d) (hm : m + 2 + 50 * 3 ^ j ≤ 60000) :
    ∃ (v d' : Dat) (r : DL.Env), bodyLet fb (eD d (bArgs F ts S t l W) ++ nine) = some (.rt (.val v), some (.mtb d') :: r) ∧ okW (4 + (j + 1)) v ∧ Bx (m + 2 + 50 * 3 ^ j) d' := by
  have h3 : 50 * 3 ^ (j + 1) = 150 * 3 ^ j := by rw [Nat.pow_succ]; omega
  have h4 : 1 ≤ 3 ^ j := Nat.pow_pos (by decide)
  obtain ⟨b, hb⟩ := dNotIn_w (Str.ofString "x") R.tk
  obtain ⟨x, d1, e1, hx, hb1⟩ := D_ofL h (by omega) (ds := S) hne (by omega)
  obtain ⟨f, d2, e2, hf, hb2⟩ := D_ofT hb1 (by omega) (ds := F) R.fne (by have := R.fl; omega)
  have htl : ts.length + 1 ≤ 100000 := by omega
  have hy : ∀ y : Dat, okW 0 y → ∃ (v d' : Dat), fb (eD d2 (bArgs F (ts ++ [y]) S t ((l : Int) - 1) W)) = some (.val v, eD d' (bArgs F (ts ++ [y]) S t ((l : Int) - 1) W)) ∧ okW (4 + j) v ∧ Bx (m + 2 + 50 * 3 ^ j) d' := fun y hy => by
    have := ih (t := t) (l := l - 1) (by omega) (R.add hy (by omega)) (by simp; omega) hS (by omega) hb2 (by omega)
    rw [show ((l - 1 : Nat) : Int) = (l : Int) - 1 by omega] at this
    exact this
  have lx : (Str.ofString "x").length ≤ 20 := by decide +kernel
  have lxx : (Str.ofString "xx").length ≤ 20 := by decide +kernel
  have ll : (Str.ofString "let").length ≤ 20 := by decide +kernel
  have fin : ∀ y : Dat, okW 0 y → ∀ v : Dat, okW (4 + j) v → okW (4 + (j + 1)) (.tup [.str (Str.ofString "let"), y, x, f, v]) := fun y hy v hv => by
    refine ⟨by simp, fun z hz => ?_⟩
    simp at hz
    rcases hz with q | q | q | q | q <;> rw [q]
    · exact w20 "let" ll _
    · exact hy.mono (by omega)
    · exact (hS x hx).mono (by omega)
    · exact (R.fk f hf).mono (by omega)
    · exact hv
  unfold bodyLet
  cases b with
  | true =>
    have ok0 : okW 0 (.str (Str.ofString "x")) := w20 "x" lx 0
    obtain ⟨v, d3, e3, hv, hb3⟩ := hy _ ok0
    simp only [eD, bArgs, List.map_cons, List.map_nil] at e3
    exact ⟨_, d3, ex_r (by simp [hb, e1, e2, dAdd, htl, dSub, int2, e3]) ⟨fin _ ok0 v hv, hb3⟩⟩
  | false =>
    have ok0 : okW 0 (.str (Str.ofString "xx")) := w20 "xx" lxx 0
    obtain ⟨v, d3, e3, hv, hb3⟩ := hy _ ok0
    simp only [eD, bArgs, List.map_cons, List.map_nil] at e3
    exact ⟨_, d3, ex_r (by simp [hb, e1, e2, dAdd, htl, dSub, int2, e3]) ⟨fin _ ok0 v hv, hb3⟩⟩
end Prg
/-! A drawn BODY: the tests. -/
namespace Prg
open PySem PySem.Spec L2 DL
open PyProof.Rows hiding St
abbrev mid (c : Int) : DL.Env := [none, none, none, none, some (.val (.int c)), none, none, none, none]
abbrev aft (c : Int) (ms : List Dat) (v : Dat) (s : Option Slot) : DL.Env := [none, none, none, none, some (.val (.int c)), some (.val (.tup ms)), some (.val v), s, none]
theorem D_ofT0 {m : Nat} {d : Dat} {ts : List Dat} (h : Bx m d) (hm : m ≤ 100000) (hl : ts.length ≤ 1000) (hk : ∀ x ∈ ts, okW 0 x) :
    ∃ (y d' : Dat), F_L_of [some (.mtb d), some (.val (.lst (ts ++ [.int 0])))] = some (.val y, [some (.mtb d'), some (.val (.lst (ts ++ [.int 0])))]) ∧ okW 0 y ∧ Bx (m + 1) d' := by
  obtain ⟨y, d', e, hy, hb⟩ := D_ofL h (by omega) (ds := ts ++ [.int 0]) (by simp) (by simp; omega)
  refine ⟨y, d', e, ?_, hb⟩
  rcases List.mem_append.mp hy with q | q
  · exact hk y q
  · rw [List.mem_singleton.mp q]; trivial
theorem is_ok {fb : EM R} {j : Nat} (ih : Rec fb j) {F ts W S : List Dat} {t l m c : Nat} {d : Dat} (hj : c + l ≤ j) (R : Rows F ts W) (ht : ts.length + (j + 1) ≤ 90) (hS : ∀ x ∈ S, okW 0 x) (hne : S ≠ []) (hSl : S.length + (j + 1) ≤ 90) (h : Bx m d) (hm : m + 3 + 50 * 3 ^ j ≤ 60000) :
    ∃ (ms : List Dat) (v d' : Dat) (s : Option Slot), bodyIs fb (eD d (bArgs F ts S t l W) ++ mid c) = some (.nx, eD d' (bArgs F ts S t l W) ++ aft c ms v s) ∧ ms.length ≤ 4 ∧ (∀ x ∈ ms, okW 0 x) ∧ okW (4 + j) v ∧ Bx (m + 3 + 50 * 3 ^ j) d' := by
  obtain ⟨x, d1, e1, hx, hb1⟩ := D_ofL h (by omega) (ds := S) hne (by omega)
  obtain ⟨f, d2, e2, hf, hb2⟩ := D_ofT hb1 (by omega) (ds := F) R.fne (by have := R.fl; omega)
  obtain ⟨y, d3, e3, hy, hb3⟩ := D_ofT0 hb2 (by omega) (by omega) R.tk
  obtain ⟨v, d4, e4, hv, hb4⟩ := ih (t := c) (l := l) hj R (by omega) hS (by omega) hb3 (by omega)
  simp only [eD, bArgs, List.map_cons, List.map_nil] at e4
  have htl : ts.length + 1 ≤ 100000 := by omega
  have li : (Str.ofString "is").length ≤ 20 := by decide +kernel
  refine ⟨[.str (Str.ofString "is"), x, f, y], v, d4, none, ?_, by simp, fun z hz => ?_, hv, hb4⟩
  · unfold bodyIs
    simp [e1, e2, dAdd, htl, e3, e4]
  · simp at hz
    rcases hz with q | q | q | q <;> rw [q]
    · exact w20 "is" li 0
    · exact hS x hx
    · exact R.fk f hf
    · exact hy
theorem has_ok {fb : EM R} {j : Nat} (ih : Rec fb j) {F ts W S : List Dat} {t l m c : Nat} {d : Dat} (hj : c + l ≤ j) (R : Rows F ts W) (ht : ts.length + (j + 1) ≤ 90) (htn : ts ≠ []) (hS : ∀ x ∈ S, okW 0 x) (hSl : S.length + (j + 1) ≤ 90) (h : Bx m d) (hm : m + 3 + 50 * 3 ^ j ≤ 60000) :
    ∃ (ms : List Dat) (v d' : Dat) (s : Option Slot), bodyHas fb (eD d (bArgs F ts S t l W) ++ mid c) = some (.nx, eD d' (bArgs F ts S t l W) ++ aft c ms v s) ∧ ms.length ≤ 4 ∧ (∀ x ∈ ms, okW 0 x) ∧ okW (4 + j) v ∧ Bx (m + 3 + 50 * 3 ^ j) d' := by
  obtain ⟨y, d1, e1, hy, hb1⟩ := D_ofL h (by omega) (ds := ts) htn (by omega)
  have hS' : ∀ x ∈ S ++ [y], okW 0 x := fun x hx => (List.mem_append.mp hx).elim (hS x) fun q => by rw [List.mem_singleton.mp q]; exact R.tk y hy
  obtain ⟨v, d4, e4, hv, hb4⟩ := ih (t := c) (l := l) hj R (by omega) hS' (by simp; omega) hb1 (by omega)
  simp only [eD, bArgs, List.map_cons, List.map_nil] at e4
  have hsl : S.length + 1 ≤ 100000 := by omega
  have li : (Str.ofString "has").length ≤ 20 := by decide +kernel
  refine ⟨[.str (Str.ofString "has"), y], v, d4, some (.val y), ?_, by simp, fun z hz => ?_, hv, hb4.mono (by omega)⟩
  · unfold bodyHas
    simp [e1, dAdd, hsl, e4]
  · simp at hz
    rcases hz with q | q <;> rw [q]
    · exact w20 "has" li 0
    · exact R.tk y hy
theorem end_ok {fb : EM R} {j : Nat} (ih : Rec fb j) {F ts W S ms : List Dat} {t l m c : Nat} {d v : Dat} {s : Option Slot} (hj : t + l ≤ j + 1) (hc : c < t) (R : Rows F ts W) (ht : ts.length + (j + 1) ≤ 90) (hS : ∀ x ∈ S, okW 0 x) (hSl : S.length + (j + 1) ≤ 90) (hm4 : ms.length ≤ 4) (hms : ∀ x ∈ ms, okW 0 x) (hv : okW (4 + j) v) (h : Bx m d) (hm : m + 50 * 3 ^ j ≤ 60000) :
    ∃ (v' d' : Dat) (r : DL.Env), bodyEnd fb (eD d (bArgs F ts S t l W) ++ aft c ms v s) = some (.rt (.val v'), some (.mtb d') :: r) ∧ okW (4 + (j + 1)) v' ∧ Bx (m + 50 * 3 ^ j) d' := by
  obtain ⟨v2, d4, e4, hv2, hb4⟩ := ih (t := t - 1 - c) (l := l) (by omega) R (by omega) hS (by omega) h (by omega)
  rw [show ((t - 1 - c : Nat) : Int) = (t : Int) - 1 - c by omega] at e4
  simp only [eD, bArgs, List.map_cons, List.map_nil] at e4
  have hl : ms.length + 2 ≤ 100000 := by omega
  refine ⟨.tup (ms ++ [v, v2]), d4, ex_r ?_ ⟨⟨by simp; omega, fun z hz => ?_⟩, hb4⟩⟩
  · unfold bodyEnd
    simp [dSub, int2, e4, dAdd, hl]
  · rcases List.mem_append.mp hz with q | q
    · exact (hms z q).mono (by omega)
    · simp at q
      rcases q with q | q <;> rw [q] <;> assumption
end Prg
/-! A drawn BODY, whole. -/
namespace Prg
open PySem PySem.Spec L2 DL
open PyProof.Rows hiding St
theorem seq_rt {f g : EM O} {e e1 : DL.Env} {r : R} (h : f e = some (.rt r, e1)) : sSeq f g e = some (.rt r, e1) := by
  rw [a_seq, h]; rfl
theorem seq_nx {f g : EM O} {e e1 : DL.Env} (h : f e = some (.nx, e1)) : sSeq f g e = g e1 := by
  rw [a_seq, h]; rfl
theorem if_t {α : Type} {c : EM Bool} {f g : EM α} {e e1 : DL.Env} (h : c e = some (true, e1)) : eIf c f g e = f e1 := by
  unfold eIf
  rw [a_bind, h, at_some]; rfl
theorem if_f {α : Type} {c : EM Bool} {f g : EM α} {e e1 : DL.Env} (h : c e = some (false, e1)) : eIf c f g e = g e1 := by
  unfold eIf
  rw [a_bind, h, at_some]; rfl
def cLet : EM Bool := (tAnd2 (DL.tCmp dNe (eVar 3) (eLst eNil)) (tAnd2 (DL.tCmp dGt (eVar 5) (eCon (.int 0))) (DL.tCmp dEq (eCallM F_L_take (eCons (eVar 0) (eOne (eCon (.int 3))))) (eCon (.int 0)))))
def cEnd : EM Bool := (tOr2 (DL.tCmp dEq (eVar 4) (eCon (.int 0))) (DL.tCmp dEq (eVar 2) (eLst eNil)))
def cIs : EM Bool := (tAnd2 (DL.tCmp dNe (eVar 3) (eLst eNil)) (DL.tCmp dEq (eCallM F_L_take (eCons (eVar 0) (eOne (eCon (.int 2))))) (eCon (.int 0))))
def sayE : EM O := (sRet (eCallM F_L_say (eCons (eVar 0) (eCons (eVar 1) (eCons (eVar 2) (eOne (eVar 6)))))))
def takeE : EM O := (sSet 11 (eCallM F_L_take (eCons (eVar 0) (eOne (eVar 4)))))
theorem fb_body' (fb : EM R) : fb_L_body fb = sSeq (eIf cLet (bodyLet fb) (eRet .nx)) (sSeq (eIf cEnd sayE (eRet .nx)) (sSeq takeE (sSeq (eIf cIs (bodyIs fb) (bodyHas fb)) (bodyEnd fb)))) := rfl
section
variable {F ts W S : List Dat} {t l m : Nat} {d : Dat}
theorem cLet_ok (hS : ∀ x ∈ S, okW 0 x) (h : Bx m d) (hm : m ≤ 100000) :
    ∃ (b : Bool) (d' : Dat), cLet (eD d (bArgs F ts S t l W) ++ nine) = some (b, eD d' (bArgs F ts S t l W) ++ nine) ∧ (b = true → S ≠ [] ∧ 0 < l) ∧ Bx (m + 1) d' := by
  by_cases hs : S = []
  · subst hs
    refine ⟨false, d, ?_, by simp, h.mono (by omega)⟩
    unfold cLet
    simp [dNe, eqQ_00]
  · by_cases hl : 0 < l
    · obtain ⟨y, d1, e1, hy0, hy1, hb1⟩ := D_take h (by omega) (n := 3) (by decide) (by decide)
      refine ⟨y == 0, d1, ?_, fun _ => ⟨hs, hl⟩, hb1⟩
      unfold cLet
      simp [dNe, eqQ_l0 hs (flat_all hS), dGt, hl, e1, dEq]
    · have hl0 : l = 0 := by omega
      subst hl0
      refine ⟨false, d, ?_, by simp, h.mono (by omega)⟩
      unfold cLet
      simp [dNe, eqQ_l0 hs (flat_all hS), dGt]
theorem cEnd_ok (R : Rows F ts W) : ∃ b : Bool, cEnd (eD d (bArgs F ts S t l W) ++ nine) = some (b, eD d (bArgs F ts S t l W) ++ nine) ∧ (b = false → 0 < t ∧ ts ≠ []) := by
  by_cases ht : t = 0
  · subst ht
    refine ⟨true, ?_, by simp⟩
    unfold cEnd
    simp [dEq]
  · have h0 : ((t : Int) == 0) = false := by rw [beq_eq_false_iff_ne]; omega
    by_cases hs : ts = []
    · subst hs
      refine ⟨true, ?_, by simp⟩
      unfold cEnd
      simp [dEq, h0, eqQ_00]
    · refine ⟨false, ?_, fun _ => ⟨by omega, hs⟩⟩
      unfold cEnd
      simp [dEq, h0, eqQ_l0 hs R.td]
theorem take_ok (ht : 0 < t) (hl : t ≤ 100) (h : Bx m d) (hm : m ≤ 100000) :
    ∃ (c : Nat) (d' : Dat), takeE (eD d (bArgs F ts S t l W) ++ nine) = some (.nx, eD d' (bArgs F ts S t l W) ++ mid c) ∧ c < t ∧ Bx (m + 1) d' := by
  obtain ⟨y, d1, e1, hy0, hy1, hb1⟩ := D_take h (by omega) (n := (t : Int)) (by omega) (by omega)
  refine ⟨y.toNat, d1, ?_, by omega, hb1⟩
  rw [show (y.toNat : Int) = y by omega]
  unfold takeE
  simp [e1]
theorem cIs_ok {c : Int} (hS : ∀ x ∈ S, okW 0 x) (h : Bx m d) (hm : m ≤ 100000) :
    ∃ (b : Bool) (d' : Dat), cIs (eD d (bArgs F ts S t l W) ++ mid c) = some (b, eD d' (bArgs F ts S t l W) ++ mid c) ∧ (b = true → S ≠ []) ∧ Bx (m + 1) d' := by
  by_cases hs : S = []
  · subst hs
    refine ⟨false, d, ?_, by simp, h.mono (by omega)⟩
    unfold cIs
    simp [dNe, eqQ_00]
  · obtain ⟨y, d1, e1, hy0, hy1, hb1⟩ := D_take h (by omega) (n := 2) (by decide) (by decide)
    refine ⟨y == 0, d1, ?_, fun _ => hs, hb1⟩
    unfold cIs
    simp [dNe, eqQ_l0 hs (flat_all hS), e1, dEq]
theorem say_ok (R : Rows F ts W) (h : Bx m d) (hm : m ≤ 70000) :
    ∃ (v d' : Dat) (r : DL.Env), sayE (eD d (bArgs F ts S t l W) ++ nine) = some (.rt (.val v), some (.mtb d') :: r) ∧ okW 4 v ∧ Bx (m + 30) d' := by
  obtain ⟨v, d1, e1, hv, hb1⟩ := D_say R h hm
  refine ⟨v, d1, ex_r ?_ ⟨hv, hb1⟩⟩
  unfold sayE
  simp [e1]
end
theorem body_step {fb : EM R} {j : Nat} (ih : ∀ i, i + 1 = j → Rec fb i) (hj : j ≤ 60) {F ts W S : List Dat} {t l m : Nat} {d : Dat} (htl : t + l ≤ j) (R : Rows F ts W) (ht : ts.length + j ≤ 90) (hS : ∀ x ∈ S, okW 0 x) (hSl : S.length + j ≤ 90) (h : Bx m d) (hm : m + 50 * 3 ^ j ≤ 60000) :
    ∃ (v d' : Dat) (r : DL.Env), fb_L_body fb (eD d (bArgs F ts S t l W) ++ nine) = some (.rt (.val v), some (.mtb d') :: r) ∧ okW (4 + j) v ∧ Bx (m + 50 * 3 ^ j) d' := by
  have p1 : 1 ≤ 3 ^ j := Nat.pow_pos (by decide)
  rw [fb_body']
  obtain ⟨b, d1, e1, hc1, hb1⟩ := cLet_ok (F := F) (ts := ts) (W := W) (t := t) (l := l) hS h (by omega)
  cases b with
  | true =>
    obtain ⟨hs, hl⟩ := hc1 rfl
    obtain ⟨i, rfl⟩ : ∃ i, j = i + 1 := ⟨j - 1, by omega⟩
    have h3 : 50 * 3 ^ (i + 1) = 150 * 3 ^ i := by rw [Nat.pow_succ]; omega
    have p2 : 1 ≤ 3 ^ i := Nat.pow_pos (by decide)
    obtain ⟨v, d2, r, e2, hv, hb2⟩ := let_ok (ih i rfl) (t := t) (l := l) htl hl R ht hS hs hSl hb1 (by omega)
    exact ⟨v, d2, r, seq_rt ((if_t e1).trans e2), hv, hb2.mono (by omega)⟩
  | false =>
    have x1 : eIf cLet (bodyLet fb) (eRet .nx) (eD d (bArgs F ts S t l W) ++ nine) = some (.nx, eD d1 (bArgs F ts S t l W) ++ nine) := if_f e1
    rw [seq_nx x1]
    obtain ⟨b, e2, hc2⟩ := cEnd_ok (d := d1) (S := S) (t := t) (l := l) R
    cases b with
    | true =>
      obtain ⟨v, d2, r, e3, hv, hb2⟩ := say_ok (S := S) (t := t) (l := l) R hb1 (by omega)
      exact ⟨v, d2, r, seq_rt ((if_t e2).trans e3), hv.mono (by omega), hb2.mono (by omega)⟩
    | false =>
      obtain ⟨ht0, htn⟩ := hc2 rfl
      obtain ⟨i, rfl⟩ : ∃ i, j = i + 1 := ⟨j - 1, by omega⟩
      have h3 : 50 * 3 ^ (i + 1) = 150 * 3 ^ i := by rw [Nat.pow_succ]; omega
      have p2 : 1 ≤ 3 ^ i := Nat.pow_pos (by decide)
      have x2 : eIf cEnd sayE (eRet .nx) (eD d1 (bArgs F ts S t l W) ++ nine) = some (.nx, eD d1 (bArgs F ts S t l W) ++ nine) := if_f e2
      rw [seq_nx x2]
      obtain ⟨c, d3, e3, hc, hb3⟩ := take_ok (F := F) (ts := ts) (W := W) (S := S) (t := t) (l := l) ht0 (by omega) hb1 (by omega)
      rw [seq_nx e3]
      obtain ⟨b, d4, e4, hc4, hb4⟩ := cIs_ok (F := F) (ts := ts) (W := W) (t := t) (l := l) (c := c) hS hb3 (by omega)
      have key : ∃ (ms : List Dat) (v d' : Dat) (s : Option Slot), eIf cIs (bodyIs fb) (bodyHas fb) (eD d3 (bArgs F ts S t l W) ++ mid c) = some (.nx, eD d' (bArgs F ts S t l W) ++ aft c ms v s) ∧ ms.length ≤ 4 ∧ (∀ x ∈ ms, okW 0 x) ∧ okW (4 + i) v ∧ Bx (m + 6 + 50 * 3 ^ i) d' := by
        cases b with
        | true =>
          obtain ⟨ms, v, d5, s, e5, q1, q2, q3, hb5⟩ := is_ok (ih i rfl) (t := t) (l := l) (c := c) (by omega) R ht hS (hc4 rfl) hSl hb4 (by omega)
          exact ⟨ms, v, d5, s, (if_t e4).trans e5, q1, q2, q3, hb5.mono (by omega)⟩
        | false =>
          obtain ⟨ms, v, d5, s, e5, q1, q2, q3, hb5⟩ := has_ok (ih i rfl) (t := t) (l := l) (c := c) (by omega) R ht htn hS hSl hb4 (by omega)
          exact ⟨ms, v, d5, s, (if_f e4).trans e5, q1, q2, q3, hb5.mono (by omega)⟩
      obtain ⟨ms, v, d5, s, e5, q1, q2, q3, hb5⟩ := key
      rw [seq_nx e5]
      obtain ⟨v', d6, r, e6, hv', hb6⟩ := end_ok (ih i rfl) htl hc R ht hS hSl q1 q2 q3 hb5 (by omega)
      exact ⟨v', d6, r, e6, hv', hb6.mono (by omega)⟩
theorem D_bodyR : ∀ (j fuel : Nat), j < fuel → j ≤ 60 → Rec (FR_L_body fuel) j
  | j, fuel + 1, hf, hj => by
    rename_i F ts W S t l m d
    have ih : ∀ i, i + 1 = j → Rec (FR_L_body fuel) i := fun i hi => by
      subst hi
      exact D_bodyR i fuel (by omega) (by omega)
    intro htl R ht hS hSl h hm
    obtain ⟨v, d', r, e, hv, hb⟩ := body_step ih hj htl R ht hS hSl h hm
    refine ⟨v, d', ?_, hv, hb⟩
    show runF 16 7 (fb_L_body (FR_L_body fuel)) _ = _
    rw [a_run, if_pos ⟨rfl, rfl⟩]
    show andThen (fb_L_body (FR_L_body fuel) (eD d (bArgs F ts S t l W) ++ nine)) _ = _
    rw [e, at_some]
    show some (DL.R.val v, merge (eD d (bArgs F ts S t l W)) (some (.mtb d') :: r)) = _
    show some (DL.R.val v, some (.mtb d') :: merge ((bArgs F ts S t l W).map fun d => some (.val d)) r) = _
    rw [merge_vals]
/-- a drawn BODY -/
theorem D_body {F ts W S : List Dat} {t l m : Nat} {d : Dat} {j : Nat} (hj : j ≤ 6) (htl : t + l ≤ j) (R : Rows F ts W) (ht : ts.length + j ≤ 90) (hS : ∀ x ∈ S, okW 0 x) (hSl : S.length + j ≤ 90) (h : Bx m d) (hm : m + 50 * 3 ^ j ≤ 60000) :
    ∃ (v d' : Dat), F_L_body (eD d (bArgs F ts S t l W)) = some (.val v, eD d' (bArgs F ts S t l W)) ∧ okW (4 + j) v ∧ Bx (m + 50 * 3 ^ j) d' := by
  exact D_bodyR j 60 (by omega) (by omega) htl R ht hS hSl h hm
end Prg
/-! A drawn KIND. -/
namespace Prg
open PySem PySem.Spec L2 DL
open PyProof.Rows hiding St
theorem fb_kind : fb_L_kind = fb_L_kind := rfl
theorem D_ofC {m : Nat} {d : Dat} (h : Bx m d) (hm : m ≤ 100000) (ds : List Dat) (hne : ds ≠ []) (hl : ds.length ≤ 10) :
    ∃ (x : Dat) (d' : Dat), F_L_of [some (.mtb d), some (.val (.lst ds))] = some (.val x, [some (.mtb d'), some (.val (.lst ds))]) ∧ x ∈ ds ∧ Bx (m + 1) d' :=
  D_ofL h (by omega) hne (by omega)
theorem okW_tup {n : Nat} {zs : List Dat} (h1 : zs.length ≤ 20) (h2 : ∀ x ∈ zs, okW n x) : okW (n + 1) (.tup zs) := ⟨h1, h2⟩
abbrev kA (F : List Dat) (nm : Dat) (W cs : List Dat) : List Dat := [.tup F, nm, .lst W, .int 1, .int 3, .lst cs]
theorem cut2 (x y : Dat) {n : Int} (hn : n = 0 ∨ n = 1 ∨ n = 2) : ∃ zs : List Dat, dCut (.lst [x, y]) none (some n) = some (true, .lst zs) ∧ zs.length ≤ 2 ∧ ∀ z ∈ zs, z = x ∨ z = y := by
  rcases hn with q | q | q <;> subst q
  · exact ⟨[], rfl, by simp, by simp⟩
  · exact ⟨[x], rfl, by simp, by simp⟩
  · exact ⟨[x, y], rfl, by simp, by simp⟩
theorem D_kind {m : Nat} {d nm : Dat} {F W cs : List Dat} (hF : F ≠ []) (hFl : F.length ≤ 5) (hFk : ∀ x ∈ F, okW 0 x) (hn : okW 0 nm) (hW : W ≠ []) (hWl : W.length ≤ 100) (hWk : ∀ x ∈ W, okW 0 x) (hcl : cs.length ≤ 5) (hck : ∀ x ∈ cs, okW 0 x) (h : Bx m d) (hm : m ≤ 50000) :
    ∃ (v d' : Dat), F_L_kind (eD d (kA F nm W cs)) = some (.val v, eD d' (kA F nm W cs)) ∧ okW 10 v ∧ Bx (m + 5000) d' := by
  obtain ⟨x, d1, e1, hx, hb1⟩ := D_ofC h (by omega) [.str (Str.ofString "a"), .str (Str.ofString "k"), .str (Str.ofString "key")] (by simp) (by simp)
  obtain ⟨y, d2, e2, hy, hb2⟩ := D_ofC hb1 (by omega) [.str (Str.ofString "b"), .str (Str.ofString "v"), .str (Str.ofString "value")] (by simp) (by simp)
  obtain ⟨n, d3, e3, hnn, hb3⟩ := D_ofC hb2 (by omega) [.int 0, .int 1, .int 1, .int 1, .int 2, .int 2] (by simp) (by simp)
  have hx0 : okW 0 x := by
    simp at hx
    rcases hx with q | q | q <;> subst q
    · exact w20 "a" (by decide +kernel) 0
    · exact w20 "k" (by decide +kernel) 0
    · exact w20 "key" (by decide +kernel) 0
  have hy0 : okW 0 y := by
    simp at hy
    rcases hy with q | q | q <;> subst q
    · exact w20 "b" (by decide +kernel) 0
    · exact w20 "v" (by decide +kernel) 0
    · exact w20 "value" (by decide +kernel) 0
  obtain ⟨i, rfl, hi⟩ : ∃ i : Int, n = .int i ∧ (i = 0 ∨ i = 1 ∨ i = 2) := by
    simp at hnn
    rcases hnn with q | q | q <;> exact ⟨_, q, by simp⟩
  obtain ⟨zs, ez, hzl, hz⟩ := cut2 x y hi
  have hzk : ∀ z ∈ zs, okW 0 z := fun z q => by rcases hz z q with r | r <;> rw [r] <;> assumption
  have htk : ∀ z ∈ zs ++ cs, okW 0 z := fun z q => (List.mem_append.mp q).elim (hzk z) (hck z)
  have R : Rows F (zs ++ cs) W := ⟨hF, hFl, hFk, by simp; omega, htk, flat_all htk, hW, hWl, hWk⟩
  obtain ⟨t, d4, e4, ht0, ht1, hb4⟩ := D_take hb3 (by omega) (n := 3) (by decide) (by decide)
  obtain ⟨v, d5, e5, hv, hb5⟩ := D_body (j := 4) (t := 1 + t.toNat) (l := 1) (S := []) (by omega) (by omega) R (by simp; omega) (by simp) (by simp) hb4 (by omega)
  rw [show ((1 + t.toNat : Nat) : Int) = 1 + t by omega, show ((1 : Nat) : Int) = 1 from rfl] at e5
  simp only [eD, bArgs, List.map_cons, List.map_nil] at e5
  have hsl : zs.length + cs.length ≤ 100000 := by omega
  refine ⟨.tup [nm, .tup zs, v], d5, ?_, ⟨by simp, fun z q => ?_⟩, hb5.mono (by omega)⟩
  · show runF 10 7 fb_L_kind _ = _
    rw [a_run, if_pos ⟨rfl, rfl⟩]
    have eb : ∃ r, fb_L_kind (eD d (kA F nm W cs) ++ [none, none, none]) = some (.rt (.val (.tup [nm, .tup zs, v])), some (.mtb d5) :: r) := by
      unfold fb_L_kind
      simp [e1, e2, e3, ez, e4, e5, dAdd, dList, dTuple, hsl, int2]
    obtain ⟨r, eb⟩ := eb
    show andThen (fb_L_kind (eD d (kA F nm W cs) ++ [none, none, none])) _ = _
    rw [eb, at_some]
    show some (DL.R.val _, some (.mtb d5) :: merge ((kA F nm W cs).map fun d => some (.val d)) r) = _
    rw [merge_vals]
  · simp at q
    rcases q with q | q | q <;> rw [q]
    · exact hn.mono (by decide)
    · exact okW_tup (n := 8) (by omega) fun z q => (hzk z q).mono (by omega)
    · exact hv.mono (by decide)
end Prg
/-! Tuples as lists. -/
namespace Prg
open PySem PySem.Spec L2 DL
open PyProof.Rows hiding St
def lsD : Nat → Dat → Dat
  | n + 1, .tup ds => .lst (ds.map (lsD n))
  | _, d => d
def lsR (n : Nat) (d : Dat) : DL.R := match n, d with
  | n + 1, .tup ds => .new (.lst (ds.map (lsD n)))
  | _, d => .val d
def flat : Dat → Bool
  | .non => true
  | .bl _ => true
  | .int _ => true
  | .str _ => true
  | _ => false
theorem isiT_dict (ds : List Dat) : dIsi [.tup ds, .ty "dict"] = some (false, .bl false) := by rfl
theorem isiT_row (ds : List Dat) : dIsi [.tup ds, .tup [.ty "list", .ty "tuple"]] = some (false, .bl true) := by rfl
theorem isiF_dict {d : Dat} (h : flat d = true) : dIsi [d, .ty "dict"] = some (false, .bl false) := by
  cases d <;> first | rfl | cases h
theorem isiF_row {d : Dat} (h : flat d = true) : dIsi [d, .tup [.ty "list", .ty "tuple"]] = some (false, .bl false) := by
  cases d <;> first | rfl | cases h
theorem lsR_flat {d : Dat} (h : flat d = true) : ∀ n, lsR n d = .val d
  | 0 => rfl
  | n + 1 => by cases d <;> first | rfl | cases h
theorem lsD_flat {d : Dat} (h : flat d = true) : ∀ n, lsD n d = d
  | 0 => rfl
  | n + 1 => by cases d <;> first | rfl | cases h
theorem okW_up : ∀ {n : Nat} {d : Dat}, okW n d → flat d = true ∨ ∃ k ds, n = k + 1 ∧ d = .tup ds ∧ ds.length ≤ 20 ∧ ∀ x ∈ ds, okW k x
  | 0, d, h => by
    cases d <;> first | exact .inl rfl | exact h.elim
  | n + 1, d, h => by
    cases d <;> first | exact .inl rfl | exact .inr ⟨_, _, rfl, rfl, h.1, h.2⟩ | exact h.elim
theorem force_ls {n : Nat} {d : Dat} (env : DL.Env) : eForce (lsR n d) env = some (lsD n d, env) := by
  cases n <;> cases d <;> rfl
theorem call_ls {n : Nat} {d : Dat} (e env : DL.Env) : callO (some (lsR n d, e)) env = some (lsR n d, env) := by
  cases n <;> cases d <;> rfl
theorem L_lists : ∀ (fuel n : Nat) (d : Dat), n < fuel → okW n d → FR_L_lists fuel [some (.val d)] = some (lsR n d, [some (.val d)])
  | fuel + 1, n, d, hn, h => by
    show runF 3 1 (fb_L_lists (FR_L_lists fuel)) _ = _
    rcases okW_up h with hf | ⟨k, ds, rfl, rfl, hl, hx⟩
    · rw [lsR_flat hf]
      unfold fb_L_lists
      simp [a_run, noOwnB, isiF_dict hf, isiF_row hf, truD]
    · have comp : eLc (iAny (eVar 0)) (gPut 2) (eRet true) (eCallV (FR_L_lists fuel) (eOne (eVar 2))) [2] [some (.val (.tup ds)), none, none] = some (.new (.lst (ds.map (lsD k))), [some (.val (.tup ds)), none, none]) := by
        refine eLc_each (lsD k) (lsR k) (by simp [itemsD]) rfl (by omega) fun d hd => ?_
        have := L_lists fuel k d (by omega) (hx d hd)
        constructor
        · simp [this, call_ls]
        · exact force_ls _
      unfold fb_L_lists
      simp [a_run, noOwnB, isiT_dict, isiT_row, truD, comp, lsR]
theorem okD_ls : ∀ {n : Nat} {d : Dat}, okW n d → okD n (lsD n d)
  | n, d, h => by
    rcases okW_up h with hf | ⟨k, ds, rfl, rfl, hl, hx⟩
    · rw [lsD_flat hf]; exact h.okD
    · refine ⟨by simp; omega, fun x q => ?_⟩
      obtain ⟨y, hy, rfl⟩ := List.mem_map.mp q
      exact okD_ls (hx y hy)
end Prg
/-! Odd data. -/
namespace Prg
open PySem PySem.Spec L2 DL
open PyProof.Rows hiding St
def o1 : EM O := (sSet 2 (eLst (eCons (eCon .non) (eCons (eCon (.bl true)) (eCons (eCon (.bl false)) (eCons (eCon (.int 0)) (eCons (eCon (.int 7)) (eCons (eOp1 dNeg (eCon (.int 2))) (eCons (eOp2 dPow (eCon (.int 10)) (eCon (.int 30))) (eCons (eCon (.str (Str.ofString ""))) (eCons (eCon (.str (Str.ofString "a"))) (eCons (eCon (.str (Str.ofString "k"))) (eCons (eCon (.str (Str.ofString "x"))) (eCons (eCon (.str (Str.ofString "A"))) (eCons (eCon (.str (Str.ofString "abcdefgh"))) (eCons (eCon (.str (Str.ofString "abcdefghi"))) (eCons (eCon (.str (Str.ofString "a b"))) (eOne (eCon (.str (Str.ofString "say")))))))))))))))))))))
def o2 : EM O := (sSet 2 (eOp2 dAdd (eVar 2) (eLst (eCons (eTup eNil) (eCons (eLst eNil) (eCons (eTup (eCons (eCon (.str (Str.ofString "say"))) (eCons (eTup eNil) (eOne (eCon (.str (Str.ofString "a"))))))) (eCons (eLst (eCons (eCon (.str (Str.ofString "say"))) (eCons (eLst eNil) (eOne (eCon (.str (Str.ofString "a"))))))) (eCons (eTup (eCons (eCon (.str (Str.ofString "drop"))) (eOne (eCon (.str (Str.ofString "k")))))) (eCons (eTup (eCons (eCon (.str (Str.ofString "has"))) (eOne (eCon (.str (Str.ofString "k")))))) (eCons (eTup (eOne (eCon (.str (Str.ofString "k"))))) (eOne (eTup (eCons (eCon (.str (Str.ofString "k"))) (eOne (eCon (.str (Str.ofString "k")))))))))))))))))
def o3 : EM O := (sSet 2 (eOp2 dAdd (eVar 2) (eLst (eCons (eCon (.str (Str.ofString "has"))) (eCons (fun env => some (.new (.dct [] []), env)) (eCons (eDict1 (eCon (.int 1)) (eTup (eOne (eCon (.int 2))))) (eCons (eCon (.str (Str.ofString "make"))) (eCons (eCon (.str (Str.ofString "set"))) (eOne (eCon (.str (Str.ofString "let"))))))))))))
def o4 : EM O := (sExp (eBind (hasL 2) fun _ => eApp 2 (eOne (eTup (eCons (eCon (.str (Str.ofString "is"))) (eCons (eCon (.str (Str.ofString "k"))) (eCons (eOp2 dIx (eVar 1) (eCon (.int 0))) (eCons (eCon (.int 0)) (eCons (eTup (eCons (eCon (.str (Str.ofString "say"))) (eCons (eTup eNil) (eOne (eCon (.str (Str.ofString "a"))))))) (eOne (eTup (eCons (eCon (.str (Str.ofString "say"))) (eCons (eTup eNil) (eOne (eCon (.str (Str.ofString "b")))))))))))))))))
def o5 : EM O := (sExp (eBind (hasL 2) fun _ => eApp 2 (eOne (eTup (eCons (eCon (.str (Str.ofString "has"))) (eCons (eCon (.str (Str.ofString "k"))) (eCons (eTup (eCons (eCon (.str (Str.ofString "say"))) (eCons (eTup eNil) (eOne (eCon (.str (Str.ofString "a"))))))) (eOne (eTup (eCons (eCon (.str (Str.ofString "let"))) (eCons (eCon (.str (Str.ofString "x"))) (eCons (eCon (.str (Str.ofString "k"))) (eCons (eOp2 dIx (eVar 1) (eCon (.int 0))) (eOne (eTup (eCons (eCon (.str (Str.ofString "say"))) (eCons (eTup eNil) (eOne (eCon (.str (Str.ofString "b")))))))))))))))))))))
def o6 : EM O := (sRet (eCallM F_L_of (eCons (eVar 0) (eOne (eOp2 dAdd (eVar 2) (eOpN dList (eOne (eVar 1))))))))
theorem fb_odd : fb_L_odd = sSeq o1 (sSeq o2 (sSeq o3 (sSeq o4 (sSeq o5 o6)))) := rfl
abbrev tS (s : String) : Dat := .str (Str.ofString s)
def sayT (s : String) : Dat := .tup [tS "say", .tup [], tS s]
def oddA1 : List Dat := [.non, .bl true, .bl false, .int 0, .int 7, .int (-2), .int (10 ^ (30 : Int).toNat), tS "", tS "a"]
def oddA2 : List Dat := [tS "k", tS "x", tS "A", tS "abcdefgh", tS "abcdefghi", tS "a b", tS "say"]
def oddB : List Dat := [.tup [], .lst [], sayT "a", .lst [tS "say", .lst [], tS "a"], .tup [tS "drop", tS "k"], .tup [tS "has", tS "k"], .tup [tS "k"], .tup [tS "k", tS "k"]]
def oddC : List Dat := [tS "has", .dct [] [], .dct [.inl 1] [.tup [.int 2]], tS "make", tS "set", tS "let"]
def oddD1 (x : Dat) : Dat := .tup [tS "is", tS "k", x, .int 0, sayT "a", sayT "b"]
def oddD2 (x : Dat) : Dat := .tup [tS "has", tS "k", sayT "a", .tup [tS "let", tS "x", tS "k", x, sayT "b"]]
def oddL : List Dat := (oddA1 ++ oddA2) ++ oddB ++ oddC
theorem o1_ok (d n : Dat) : o1 [some (.mtb d), some (.val n), none] = some (.nx, [some (.mtb d), some (.val n), some (.own (.lst (oddA1 ++ oddA2)))]) := rfl
theorem o2_ok (d n : Dat) : o2 [some (.mtb d), some (.val n), some (.own (.lst (oddA1 ++ oddA2)))] = some (.nx, [some (.mtb d), some (.val n), some (.own (.lst ((oddA1 ++ oddA2) ++ oddB)))]) := rfl
theorem o3_ok (d n : Dat) : o3 [some (.mtb d), some (.val n), some (.own (.lst ((oddA1 ++ oddA2) ++ oddB)))] = some (.nx, [some (.mtb d), some (.val n), some (.own (.lst oddL))]) := rfl
theorem oddL_len : oddL.length = 30 := rfl
theorem o4_ok (d x : Dat) (xs : List Dat) : o4 [some (.mtb d), some (.val (.tup (x :: xs))), some (.own (.lst oddL))] = some (.nx, [some (.mtb d), some (.val (.tup (x :: xs))), some (.own (.lst (oddL ++ [oddD1 x])))]) := by
  unfold o4
  simp [dIx, atI, ixN, oddL_len]
  rfl
theorem o5_ok (d x : Dat) (xs : List Dat) : o5 [some (.mtb d), some (.val (.tup (x :: xs))), some (.own (.lst (oddL ++ [oddD1 x])))] = some (.nx, [some (.mtb d), some (.val (.tup (x :: xs))), some (.own (.lst (oddL ++ [oddD1 x] ++ [oddD2 x])))]) := by
  unfold o5
  simp [dIx, atI, ixN, oddL_len]
  rfl
theorem okS (s : String) (h : (Str.ofString s).length ≤ 1000) (n : Nat) : okD n (tS s) := by cases n <;> exact h
theorem okI (i : Int) (n : Nat) : okD n (.int i) := by cases n <;> trivial
theorem okT {n : Nat} {ds : List Dat} (hl : ds.length ≤ 1000) (h : ∀ x ∈ ds, okD n x) : okD (n + 1) (.tup ds) := ⟨hl, h⟩
theorem okLs {n : Nat} {ds : List Dat} (hl : ds.length ≤ 1000) (h : ∀ x ∈ ds, okD n x) : okD (n + 1) (.lst ds) := ⟨hl, h⟩
theorem okD_say {s : String} (h : (Str.ofString s).length ≤ 1000) (n : Nat) : okD (n + 2) (sayT s) := okT (by simp) fun x q => by
  simp at q
  rcases q with q | q | q <;> rw [q]
  · exact okS "say" (by decide +kernel) _
  · exact okT (by decide) (by simp)
  · exact okS s h _
theorem lenS : ∀ s ∈ ["", "a", "k", "x", "A", "abcdefgh", "abcdefghi", "a b", "say", "has", "make", "set", "let", "drop", "is", "b"], (Str.ofString s).length ≤ 1000 := by decide +kernel
theorem sOk (s : String) (h : s ∈ ["", "a", "k", "x", "A", "abcdefgh", "abcdefghi", "a b", "say", "has", "make", "set", "let", "drop", "is", "b"]) (n : Nat) : okD n (tS s) := okS s (lenS s h) n
theorem odd_ok {x y : Dat} {xs : List Dat} (hx : ∀ z ∈ x :: xs, okW 0 z) (h : y ∈ oddL ++ [oddD1 x] ++ [oddD2 x] ++ (x :: xs)) : okD 4 y := by
  have h0 : okD 0 x := (hx x (by simp)).okD
  have hxn : ∀ n, okD n x := fun n => ((hx x (by simp)).mono (Nat.zero_le n)).okD
  rcases List.mem_append.mp h
      with h | h
  · rcases List.mem_append.mp h
        with h | h
    · rcases List.mem_append.mp h
          with h | h
      · rcases List.mem_append.mp h
            with h | h
        · rcases List.mem_append.mp h
              with h | h
          · rcases List.mem_append.mp h
                with h | h
            · simp only [oddA1, List.mem_cons, List.not_mem_nil, or_false] at h
              rcases h with q | q | q | q | q | q | q | q | q <;> rw [q]
              · trivial
              · trivial
              · trivial
              · trivial
              · trivial
              · trivial
              · trivial
              · exact sOk _ (by decide) _
              · exact sOk _ (by decide) _
            · simp only [oddA2, List.mem_cons, List.not_mem_nil, or_false] at h
              rcases h with q | q | q | q | q | q | q <;> rw [q] <;> exact sOk _ (by decide) _
          · simp only [oddB, List.mem_cons, List.not_mem_nil, or_false] at h
            rcases h with q | q | q | q | q | q | q | q <;> rw [q]
            · exact okT (by decide) (by simp)
            · exact okLs (by decide) (by simp)
            · exact okD_say (lenS _ (by decide)) 2
            · refine okLs (by simp) fun z w => ?_
              simp only [List.mem_cons, List.not_mem_nil, or_false] at w
              rcases w with w | w | w <;> rw [w]
              · exact sOk _ (by decide) _
              · exact okLs (by decide) (by simp)
              · exact sOk _ (by decide) _
            all_goals
              refine okT (by simp) fun z w => ?_
              simp only [List.mem_cons, List.not_mem_nil, or_false] at w
            · rcases w with w | w <;> rw [w] <;> exact sOk _ (by decide) _
            · rcases w with w | w <;> rw [w] <;> exact sOk _ (by decide) _
            · rw [w]; exact sOk _ (by decide) _
            · rcases w with w | w <;> rw [w] <;> exact sOk _ (by decide) _
        · simp only [oddC, List.mem_cons, List.not_mem_nil, or_false] at h
          rcases h with q | q | q | q | q | q <;> rw [q]
          · exact sOk _ (by decide) _
          · exact ⟨by decide, by decide⟩
          · exact ⟨by decide, by decide⟩
          · exact sOk _ (by decide) _
          · exact sOk _ (by decide) _
          · exact sOk _ (by decide) _
      · rw [List.mem_singleton.mp h]
        refine okT (by simp) fun z w => ?_
        simp only [List.mem_cons, List.not_mem_nil, or_false] at w
        rcases w with w | w | w | w | w | w <;> rw [w]
        · exact sOk _ (by decide) _
        · exact sOk _ (by decide) _
        · exact hxn _
        · trivial
        · exact okD_say (lenS _ (by decide)) 1
        · exact okD_say (lenS _ (by decide)) 1
    · rw [List.mem_singleton.mp h]
      refine okT (by simp) fun z w => ?_
      simp only [List.mem_cons, List.not_mem_nil, or_false] at w
      rcases w with w | w | w | w <;> rw [w]
      · exact sOk _ (by decide) _
      · exact sOk _ (by decide) _
      · exact okD_say (lenS _ (by decide)) 1
      · refine okT (by simp) fun z w => ?_
        simp only [List.mem_cons, List.not_mem_nil, or_false] at w
        rcases w with w | w | w | w | w <;> rw [w]
        · exact sOk _ (by decide) _
        · exact sOk _ (by decide) _
        · exact sOk _ (by decide) _
        · exact hxn _
        · exact okD_say (lenS _ (by decide)) 0
  · exact ((hx y h).mono (by decide)).okD
theorem D_odd {m : Nat} {d x : Dat} {xs : List Dat} (h : Bx m d) (hm : m ≤ 100000) (hl : xs.length ≤ 10) (hx : ∀ z ∈ x :: xs, okW 0 z) :
    ∃ (y d' : Dat), F_L_odd [some (.mtb d), some (.val (.tup (x :: xs)))] = some (.val y, [some (.mtb d'), some (.val (.tup (x :: xs)))]) ∧ okD 4 y ∧ Bx (m + 1) d' := by
  obtain ⟨y, d', e, hy, hb⟩ := D_ofL h (by omega) (ds := oddL ++ [oddD1 x] ++ [oddD2 x] ++ (x :: xs)) (by simp) (by simp [oddL_len]; omega)
  refine ⟨y, d', ?_, odd_ok hx hy, hb⟩
  have e6 : o6 [some (.mtb d), some (.val (.tup (x :: xs))), some (.own (.lst (oddL ++ [oddD1 x] ++ [oddD2 x])))] = some (.rt (.val y), [some (.mtb d'), some (.val (.tup (x :: xs))), some (.own (.lst (oddL ++ [oddD1 x] ++ [oddD2 x])))]) := by
    have hn : (oddL ++ [oddD1 x] ++ [oddD2 x]).length + (x :: xs).length ≤ 100000 := by simp [oddL_len]; omega
    generalize hL : oddL ++ [oddD1 x] ++ [oddD2 x] = L at e hn
    unfold o6
    simp only [List.append_assoc] at hL
    have hn' : L.length + (xs.length + 1) ≤ 100000 := hn
    simp [dList, dAdd, hn', e]
  show runF 3 2 fb_L_odd _ = _
  rw [a_run, if_pos ⟨rfl, rfl⟩]
  have eb : fb_L_odd ([some (.mtb d), some (.val (.tup (x :: xs)))] ++ [none]) = some (.rt (.val y), [some (.mtb d'), some (.val (.tup (x :: xs))), some (.own (.lst (oddL ++ [oddD1 x] ++ [oddD2 x])))]) := by
    rw [fb_odd]
    exact (seq_nx (o1_ok d _)).trans ((seq_nx (o2_ok d _)).trans ((seq_nx (o3_ok d _)).trans ((seq_nx (o4_ok d x xs)).trans ((seq_nx (o5_ok d x xs)).trans e6))))
  show andThen (fb_L_odd ([some (.mtb d), some (.val (.tup (x :: xs)))] ++ [none])) _ = _
  rw [eb, at_some]
  rfl
end Prg
/-! Bent data. -/
namespace Prg
open PySem PySem.Spec L2 DL
open PyProof.Rows hiding St
def cBent : EM Bool := (tOr2 (tNo (eTruth (eOpN dIsi (eCons (eVar 1) (eOne (eCon (.ty "tuple"))))))) (tOr2 (DL.tCmp dEq (eVar 1) (eTup eNil)) (tOr2 (DL.tCmp dEq (eVar 3) (eCon (.int 0))) (DL.tCmp dEq (eCallM F_L_take (eCons (eVar 0) (eOne (eCon (.int 5))))) (eCon (.int 0))))))
def bOdd : EM O := (sRet (eCallM F_L_odd (eCons (eVar 0) (eOne (eVar 2)))))
def b1 : EM O := (sPar 4 5 (eCons (eCallM F_L_take (eCons (eVar 0) (eOne (eOpN dLen (eOne (eVar 1)))))) (eOne (eCallM F_L_take (eCons (eVar 0) (eOne (eCon (.int 12))))))))
def b2 : EM O := (sRet (eOp2 dAdd (eCut (eVar 1) oNone (oInt (eVar 4))) (eCut (eVar 1) (oInt (eOp2 dAdd (eVar 4) (eCon (.int 1)))) oNone)))
def b3 : EM O := (sRet (eOp2 dAdd (eOp2 dAdd (eCut (eVar 1) oNone (oInt (eVar 4))) (eTup (eOne (eOp2 dIx (eVar 1) (eVar 4))))) (eCut (eVar 1) (oInt (eVar 4)) oNone)))
def b4 : EM O := (sRet (eOp2 dAdd (eOp2 dAdd (eCut (eVar 1) oNone (oInt (eVar 4))) (eTup (eOne (eCallM F_L_odd (eCons (eVar 0) (eOne (eVar 2))))))) (eCut (eVar 1) (oInt (eVar 4)) oNone)))
def b5 : EM O := (sRet (eOp2 dAdd (eOp2 dAdd (eCut (eVar 1) oNone (oInt (eVar 4))) (eRev (eCut (eVar 1) (oInt (eVar 4)) (oInt (eOp2 dAdd (eVar 4) (eCon (.int 2))))))) (eCut (eVar 1) (oInt (eOp2 dAdd (eVar 4) (eCon (.int 2)))) oNone)))
def b6 : EM O := (sRet (eOpN dList (eOne (eVar 1))))
def b7 (fb : EM DL.R) : EM O := (sSet 6 (eCallM fb (eCons (eVar 0) (eCons (eOp2 dIx (eVar 1) (eVar 4)) (eCons (eVar 2) (eOne (eOp2 dSub (eVar 3) (eCon (.int 1)))))))))
def b8 : EM O := (sRet (eOp2 dAdd (eOp2 dAdd (eCut (eVar 1) oNone (oInt (eVar 4))) (eTup (eOne (eVar 6)))) (eCut (eVar 1) (oInt (eOp2 dAdd (eVar 4) (eCon (.int 1)))) oNone)))
def cI (i : Int) : EM Bool := (DL.tCmp dEq (eVar 5) (eCon (.int i)))
theorem fb_bent (fb : EM DL.R) : fb_L_bent fb = sSeq (eIf cBent bOdd (eRet .nx)) (sSeq b1 (sSeq (eIf (cI 0) b2 (eRet .nx)) (sSeq (eIf (cI 1) b3 (eRet .nx)) (sSeq (eIf (cI 2) b4 (eRet .nx)) (sSeq (eIf (cI 3) b5 (eRet .nx)) (sSeq (eIf (cI 4) b6 (eRet .nx)) (sSeq (b7 fb) b8))))))) := rfl
abbrev eT (d M N : Dat) (k : Int) (s4 s5 s6 : Option Slot) : DL.Env := [some (.mtb d), some (.val M), some (.val N), some (.val (.int k)), s4, s5, s6]
theorem eqQ_t0 {n : Nat} {ds : List Dat} (h : ds ≠ []) (hd : okD n (.tup ds)) (hn : n ≤ 40) : eqQ (.tup ds) (.tup []) = some false := by
  have F := hd.facts
  unfold eqQ
  rw [if_pos ⟨by have := F.2.2.2; omega, F.2.2.1, rfl⟩, eqD]
  cases ds with
  | nil => exact absurd rfl h
  | cons x xs => rfl
theorem eqQ_tt : eqQ (.tup []) (.tup []) = some true := by
  simp [eqQ, depD, depDs, noObj, noObjs, eqD, eqDs]
theorem isi_tupF {d : Dat} (h : flat d = true) : dIsi [d, .ty "tuple"] = some (false, .bl false) := by
  cases d <;> first | rfl | cases h
theorem isi_tupT (ds : List Dat) : dIsi [.tup ds, .ty "tuple"] = some (false, .bl true) := rfl
theorem cBent_ok {n m k : Nat} {d M : Dat} {N : Dat} (hM : okW n M) (hn : n ≤ 20) (h : Bx m d) (hm : m ≤ 90000) :
    ∃ (b : Bool) (d' : Dat), cBent (eT d M N k none none none) = some (b, eT d' M N k none none none) ∧ Bx (m + 1) d' ∧ (b = false → ∃ ds j, n = j + 1 ∧ M = .tup ds ∧ ds ≠ [] ∧ ds.length ≤ 20 ∧ (∀ x ∈ ds, okW j x) ∧ 0 < k) := by
  rcases okW_up hM with hf | ⟨j, ds, rfl, rfl, hl, hx⟩
  · refine ⟨true, d, ?_, h.mono (by omega), by simp⟩
    unfold cBent
    simp [isi_tupF hf, truD]
  · by_cases hd : ds = []
    · subst hd
      refine ⟨true, d, ?_, h.mono (by omega), by simp⟩
      unfold cBent
      simp [isi_tupT, truD, dEq, eqQ_tt]
    · have hq := eqQ_t0 hd hM.okD (by omega)
      by_cases hk : k = 0
      · subst hk
        refine ⟨true, d, ?_, h.mono (by omega), by simp⟩
        unfold cBent
        simp [isi_tupT, truD, dEq, hq]
      · have h0 : ((k : Int) == 0) = false := by rw [beq_eq_false_iff_ne]; omega
        obtain ⟨y, d1, e1, hy0, hy1, hb1⟩ := D_take h (by omega) (n := 5) (by decide) (by decide)
        refine ⟨y == 0, d1, ?_, hb1, fun _ => ⟨ds, j, rfl, rfl, hd, hl, hx, by omega⟩⟩
        unfold cBent
        simp [isi_tupT, truD, dEq, hq, h0, e1]
theorem cut_mem {ds : List Dat} {lo hi : Option Int} {x : Dat} (h : x ∈ DL.cutD ds lo hi) : x ∈ ds :=
  List.mem_of_mem_drop (List.mem_of_mem_take h)
theorem cut_len (ds : List Dat) (lo hi : Option Int) : (DL.cutD ds lo hi).length ≤ ds.length := by
  unfold DL.cutD
  simp
  omega
theorem dCut_t (ds : List Dat) (lo hi : Option Int) : dCut (.tup ds) lo hi = some (false, .tup (DL.cutD ds lo hi)) := rfl
theorem add_t {a b : List Dat} (h : a.length + b.length ≤ 1000) : dAdd (.tup a) (.tup b) = some (false, .tup (a ++ b)) := by
  have h' : a.length + b.length ≤ 100000 := by omega
  simp [dAdd, h']
theorem add_tt {a b c : List Dat} (h : a.length + b.length + c.length ≤ 1000) : dAdd (.tup (a ++ b)) (.tup c) = some (false, .tup (a ++ b ++ c)) := add_t (by simp; omega)
/-- what a call gives: a datum, new or not -/
def Gives (r : DL.R) (n : Nat) : Prop := ∃ y, (r = .val y ∨ r = .new y) ∧ okD n y
theorem Gives.tup {n j : Nat} {ys : List Dat} (hj : j + 1 ≤ n) (hl : ys.length ≤ 1000) (h : ∀ y ∈ ys, okD j y) (up : ∀ {d : Dat}, okD (j + 1) d → okD n d) : Gives (.val (.tup ys)) n := ⟨_, .inl rfl, up ⟨hl, h⟩⟩
theorem okD.up1 : ∀ {n : Nat} {d : Dat}, okD n d → okD (n + 1) d
  | 0, d, h => by cases d <;> first | exact h | exact h.elim
  | n + 1, d, h => by
    cases d <;> first
      | exact ⟨h.1, fun x q => okD.up1 (h.2 x q)⟩
      | exact h
theorem okD.mono {n k : Nat} {d : Dat} (h : okD n d) (hk : n ≤ k) : okD k d := by
  induction k with
  | zero => rw [show n = 0 by omega] at h; exact h
  | succ k ih =>
    by_cases c : n = k + 1
    · subst c; exact h
    · exact (ih (by omega)).up1
theorem gT {n j : Nat} {ys : List Dat} (hj : j + 1 ≤ n) (hl : ys.length ≤ 1000) (h : ∀ y ∈ ys, okD j y) : Gives (.val (.tup ys)) n := ⟨_, .inl rfl, okD.mono (n := j + 1) ⟨hl, h⟩ hj⟩
section
theorem add_i (i j : Int) : dAdd (.int i) (.int j) = some (false, .int (i + j)) := rfl
variable {d N : Dat} {ds : List Dat} {k s t : Int} {j : Nat}
theorem b2_ok (hl : ds.length ≤ 20) (hx : ∀ x ∈ ds, okW j x) : ∃ r, b2 (eT d (.tup ds) N k (some (.val (.int s))) (some (.val (.int t))) none) = some (.rt r, eT d (.tup ds) N k (some (.val (.int s))) (some (.val (.int t))) none) ∧ Gives r (j + 6) := by
  have l1 := cut_len ds none (some s)
  have l2 := cut_len ds (some (s + 1)) none
  refine ⟨_, ?_, gT (j := j) (by omega) (ys := DL.cutD ds none (some s) ++ DL.cutD ds (some (s + 1)) none) (by simp; omega) fun y q => ?_⟩
  · unfold b2
    simp [dCut_t, add_t (a := DL.cutD ds none (some s)) (b := DL.cutD ds (some (s + 1)) none) (by omega), add_i]
  · rcases List.mem_append.mp q with q | q <;> exact (hx y (cut_mem q)).okD
theorem b3_ok (hl : ds.length ≤ 20) (hx : ∀ x ∈ ds, okW j x) (h0 : 0 ≤ s) (h1 : s < ds.length) : ∃ r, b3 (eT d (.tup ds) N k (some (.val (.int s))) (some (.val (.int t))) none) = some (.rt r, eT d (.tup ds) N k (some (.val (.int s))) (some (.val (.int t))) none) ∧ Gives r (j + 6) := by
  have l1 := cut_len ds none (some s)
  have l2 := cut_len ds (some s) none
  obtain ⟨x, ex, hxm⟩ := atI_in h0 h1
  have ex' : dIx (.tup ds) (.int s) = some (false, x) := by simp [dIx, ex]
  refine ⟨_, ?_, gT (j := j) (by omega) (ys := DL.cutD ds none (some s) ++ [x] ++ DL.cutD ds (some s) none) (by simp; omega) fun y q => ?_⟩
  · unfold b3
    simp [dCut_t, ex', add_t (a := DL.cutD ds none (some s)) (b := [x]) (by simp; omega)]
    rw [add_tt (by simp; omega)]
    simp
  · rcases List.mem_append.mp q
        with q | q
    · rcases List.mem_append.mp q
          with q | q
      · exact (hx y (cut_mem q)).okD
      · rw [List.mem_singleton.mp q]; exact (hx x hxm).okD
    · exact (hx y (cut_mem q)).okD
theorem b5_ok (hl : ds.length ≤ 20) (hx : ∀ x ∈ ds, okW j x) : ∃ r, b5 (eT d (.tup ds) N k (some (.val (.int s))) (some (.val (.int t))) none) = some (.rt r, eT d (.tup ds) N k (some (.val (.int s))) (some (.val (.int t))) none) ∧ Gives r (j + 6) := by
  have l1 := cut_len ds none (some s)
  have l2 := cut_len ds (some s) (some (s + 2))
  have l3 := cut_len ds (some (s + 2)) none
  refine ⟨_, ?_, gT (j := j) (by omega) (ys := DL.cutD ds none (some s) ++ (DL.cutD ds (some s) (some (s + 2))).reverse ++ DL.cutD ds (some (s + 2)) none) (by simp; omega) fun y q => ?_⟩
  · unfold b5
    simp [eRev, dRev, dCut_t, add_i, add_t (a := DL.cutD ds none (some s)) (b := (DL.cutD ds (some s) (some (s + 2))).reverse) (by simp; omega)]
    rw [add_tt (by simp; omega)]
    simp
  · rcases List.mem_append.mp q
        with q | q
    · rcases List.mem_append.mp q
          with q | q
      · exact (hx y (cut_mem q)).okD
      · exact (hx y (cut_mem (List.mem_reverse.mp q))).okD
    · exact (hx y (cut_mem q)).okD
theorem b6_ok (hl : ds.length ≤ 20) (hx : ∀ x ∈ ds, okW j x) : ∃ r, b6 (eT d (.tup ds) N k (some (.val (.int s))) (some (.val (.int t))) none) = some (.rt r, eT d (.tup ds) N k (some (.val (.int s))) (some (.val (.int t))) none) ∧ Gives r (j + 6) := by
  refine ⟨.new (.lst ds), ?_, _, .inr rfl, okD.mono (n := j + 1) ⟨by omega, fun x q => (hx x q).okD⟩ (by omega)⟩
  unfold b6
  simp [dList]
end
section
variable {d x : Dat} {xs ds : List Dat} {k s t : Int} {j m : Nat}
theorem b4_ok (h : Bx m d) (hm : m ≤ 90000) (hxl : xs.length ≤ 10) (hxs : ∀ z ∈ x :: xs, okW 0 z) (hl : ds.length ≤ 20) (hx : ∀ x ∈ ds, okW j x) : ∃ r d', b4 (eT d (.tup ds) (.tup (x :: xs)) k (some (.val (.int s))) (some (.val (.int t))) none) = some (.rt r, eT d' (.tup ds) (.tup (x :: xs)) k (some (.val (.int s))) (some (.val (.int t))) none) ∧ Gives r (j + 6) ∧ Bx (m + 1) d' := by
  have l1 := cut_len ds none (some s)
  have l2 := cut_len ds (some s) none
  obtain ⟨y, d', e, hy, hb⟩ := D_odd h (by omega) hxl hxs
  refine ⟨_, d', ?_, gT (j := j + 5) (by omega) (ys := DL.cutD ds none (some s) ++ [y] ++ DL.cutD ds (some s) none) (by simp; omega) fun z q => ?_, hb⟩
  · unfold b4
    simp [dCut_t, e, add_t (a := DL.cutD ds none (some s)) (b := [y]) (by simp; omega)]
    rw [add_tt (by simp; omega)]
    simp
  · rcases List.mem_append.mp q
        with q | q
    · rcases List.mem_append.mp q
          with q | q
      · exact (hx z (cut_mem q)).okD.mono (by omega)
      · rw [List.mem_singleton.mp q]; exact hy.mono (by omega)
    · exact (hx z (cut_mem q)).okD.mono (by omega)
theorem b8_ok {N y : Dat} (hl : ds.length ≤ 20) (hx : ∀ x ∈ ds, okW j x) (hy : okD (j + 5) y) {s6 : Option Slot} (h6 : s6 = some (.val y) ∨ s6 = some (.own y)) : ∃ r e, b8 (eT d (.tup ds) N k (some (.val (.int s))) (some (.val (.int t))) s6) = some (.rt r, some (.mtb d) :: e) ∧ Gives r (j + 6) := by
  have l1 := cut_len ds none (some s)
  have l2 := cut_len ds (some (s + 1)) none
  have g : Gives (.val (.tup (DL.cutD ds none (some s) ++ [y] ++ DL.cutD ds (some (s + 1)) none))) (j + 6) := by
    refine gT (j := j + 5) (by omega) (by simp; omega) fun z q => ?_
    rcases List.mem_append.mp q with q | q
    · rcases List.mem_append.mp q
          with q | q
      · exact (hx z (cut_mem q)).okD.mono (by omega)
      · rw [List.mem_singleton.mp q]; exact hy
    · exact (hx z (cut_mem q)).okD.mono (by omega)
  have a1 : dAdd (.tup (DL.cutD ds none (some s))) (.tup [y]) = some (false, .tup (DL.cutD ds none (some s) ++ [y])) := add_t (by simp; omega)
  have a2 : dAdd (.tup (DL.cutD ds none (some s) ++ [y])) (.tup (DL.cutD ds (some (s + 1)) none)) = some (false, .tup (DL.cutD ds none (some s) ++ [y] ++ DL.cutD ds (some (s + 1)) none)) := add_tt (by simp; omega)
  rcases h6 with q | q <;> subst q
  · refine ⟨_, [some (.val (.tup ds)), some (.val N), some (.val (.int k)), some (.val (.int s)), some (.val (.int t)), some (.val y)], ?_, g⟩
    unfold b8
    simp only [a_ret, a_sret, a_op2, a_cut, a_var, a_tup, a_one, at_some]
    simp [dCut_t, a1, a2, add_i]
  · refine ⟨_, [some (.val (.tup ds)), some (.val N), some (.val (.int k)), some (.val (.int s)), some (.val (.int t)), some (.val y)], ?_, g⟩
    unfold b8
    simp [dCut_t, a1, a2, add_i]
end
end Prg
/-! Bent data, whole. -/
namespace Prg
open PySem PySem.Spec L2 DL
open PyProof.Rows hiding St
section
variable {d x M N : Dat} {xs ds : List Dat} {k s t : Int} {j m : Nat}
theorem bOdd_ok (h : Bx m d) (hm : m ≤ 90000) (hxl : xs.length ≤ 10) (hxs : ∀ z ∈ x :: xs, okW 0 z) : ∃ r d', bOdd (eT d M (.tup (x :: xs)) k none none none) = some (.rt r, eT d' M (.tup (x :: xs)) k none none none) ∧ Gives r 4 ∧ Bx (m + 1) d' := by
  obtain ⟨y, d', e, hy, hb⟩ := D_odd h (by omega) hxl hxs
  refine ⟨.val y, d', ?_, ⟨y, .inl rfl, hy⟩, hb⟩
  unfold bOdd
  simp [e]
theorem b1_ok (h : Bx m d) (hm : m ≤ 90000) (hne : ds ≠ []) (hl : ds.length ≤ 20) : ∃ (s t : Int) (d' : Dat), b1 (eT d (.tup ds) N k none none none) = some (.nx, eT d' (.tup ds) N k (some (.val (.int s))) (some (.val (.int t))) none) ∧ 0 ≤ s ∧ s < ds.length ∧ Bx (m + 2) d' := by
  have hp : 0 < ds.length := List.length_pos_iff.mpr hne
  obtain ⟨s, d1, e1, hs0, hs1, hb1⟩ := D_take h (by omega) (n := (ds.length : Int)) (by omega) (by omega)
  obtain ⟨t, d2, e2, ht0, ht1, hb2⟩ := D_take hb1 (by omega) (n := 12) (by decide) (by decide)
  refine ⟨s, t, d2, ?_, hs0, hs1, hb2⟩
  unfold b1
  simp [dLen, e1, e2]
theorem cI_ok (i : Int) {s6 : Option Slot} : cI i (eT d M N k (some (.val (.int s))) (some (.val (.int t))) s6) = some (t == i, eT d M N k (some (.val (.int s))) (some (.val (.int t))) s6) := by
  unfold cI
  simp [dEq]
end
theorem Gives.mono {r : DL.R} {n k : Nat} (h : Gives r n) (hk : n ≤ k) : Gives r k := by
  obtain ⟨y, hr, hy⟩ := h
  exact ⟨y, hr, hy.mono hk⟩
theorem skip {c : EM Bool} {f g : EM O} {e : DL.Env} {b : Bool} (h : c e = some (b, e)) : sSeq (eIf c f (eRet .nx)) g e = if b = true then (match f e with
    | some (.rt r, e1) => some (.rt r, e1)
    | _ => sSeq (eIf c f (eRet .nx)) g e) else g e := by
  cases b with
  | false => exact seq_nx (if_f h)
  | true =>
    rw [if_pos rfl]
    split
    · rename_i r e1 q
      exact seq_rt ((if_t h).trans q)
    · rfl
theorem D_bent : ∀ (fuel n k m : Nat) (d M x : Dat) (xs : List Dat), k < fuel → n ≤ 20 → okW n M → xs.length ≤ 10 → (∀ z ∈ x :: xs, okW 0 z) → Bx m d → m + 4 * (k + 1) ≤ 80000 →
    ∃ r d', FR_L_bent fuel [some (.mtb d), some (.val M), some (.val (.tup (x :: xs))), some (.val (.int k))] = some (r, [some (.mtb d'), some (.val M), some (.val (.tup (x :: xs))), some (.val (.int k))]) ∧ Gives r (n + 5) ∧ Bx (m + 4 * (k + 1)) d'
  | fuel + 1, n, k, m, d, M, x, xs, hk, hn, hM, hxl, hxs, h, hm => by
    have main : ∃ r d' e, fb_L_bent (FR_L_bent fuel) (eT d M (.tup (x :: xs)) k none none none) = some (.rt r, some (.mtb d') :: e) ∧ Gives r (n + 5) ∧ Bx (m + 4 * (k + 1)) d' := by
      rw [fb_bent]
      obtain ⟨b, d1, e1, hb1, hc⟩ := cBent_ok (k := k) (N := .tup (x :: xs)) hM hn h (by omega)
      cases b with
      | true =>
        obtain ⟨r, d2, e2, hg, hb2⟩ := bOdd_ok (M := M) (k := k) hb1 (by omega) hxl hxs
        exact ⟨r, d2, _, seq_rt ((if_t e1).trans e2), hg.mono (by omega), hb2.mono (by omega)⟩
      | false =>
        obtain ⟨ds, j, rfl, rfl, hne, hl, hx, hk0⟩ := hc rfl
        rw [seq_nx ((if_f e1).trans rfl)]
        obtain ⟨s, t, d2, e2, hs0, hs1, hb2⟩ := b1_ok (N := .tup (x :: xs)) (k := k) hb1 (by omega) hne hl
        rw [seq_nx e2]
        by_cases t0 : (t == 0) = true
        · obtain ⟨r, e, g⟩ := b2_ok (d := d2) (N := .tup (x :: xs)) (k := k) (s := s) (t := t) hl hx
          exact ⟨r, d2, _, seq_rt ((if_t ((cI_ok 0).trans (by rw [t0]))).trans e), g, hb2.mono (by omega)⟩
        rw [Bool.not_eq_true] at t0
        rw [seq_nx ((if_f ((cI_ok 0).trans (by rw [t0]))).trans rfl)]
        by_cases t1 : (t == 1) = true
        · obtain ⟨r, e, g⟩ := b3_ok (d := d2) (N := .tup (x :: xs)) (k := k) (s := s) (t := t) hl hx hs0 hs1
          exact ⟨r, d2, _, seq_rt ((if_t ((cI_ok 1).trans (by rw [t1]))).trans e), g, hb2.mono (by omega)⟩
        rw [Bool.not_eq_true] at t1
        rw [seq_nx ((if_f ((cI_ok 1).trans (by rw [t1]))).trans rfl)]
        by_cases t2 : (t == 2) = true
        · obtain ⟨r, d3, e, g, hb3⟩ := b4_ok (k := k) (s := s) (t := t) hb2 (by omega) hxl hxs hl hx
          exact ⟨r, d3, _, seq_rt ((if_t ((cI_ok 2).trans (by rw [t2]))).trans e), g, hb3.mono (by omega)⟩
        rw [Bool.not_eq_true] at t2
        rw [seq_nx ((if_f ((cI_ok 2).trans (by rw [t2]))).trans rfl)]
        by_cases t3 : (t == 3) = true
        · obtain ⟨r, e, g⟩ := b5_ok (d := d2) (N := .tup (x :: xs)) (k := k) (s := s) (t := t) hl hx
          exact ⟨r, d2, _, seq_rt ((if_t ((cI_ok 3).trans (by rw [t3]))).trans e), g, hb2.mono (by omega)⟩
        rw [Bool.not_eq_true] at t3
        rw [seq_nx ((if_f ((cI_ok 3).trans (by rw [t3]))).trans rfl)]
        by_cases t4 : (t == 4) = true
        · obtain ⟨r, e, g⟩ := b6_ok (d := d2) (N := .tup (x :: xs)) (k := k) (s := s) (t := t) hl hx
          exact ⟨r, d2, _, seq_rt ((if_t ((cI_ok 4).trans (by rw [t4]))).trans e), g, hb2.mono (by omega)⟩
        rw [Bool.not_eq_true] at t4
        rw [seq_nx ((if_f ((cI_ok 4).trans (by rw [t4]))).trans rfl)]
        obtain ⟨y, ey, hym⟩ := atI_in hs0 hs1
        have ey' : dIx (.tup ds) (.int s) = some (false, y) := by simp [dIx, ey]
        obtain ⟨r, d3, e3, ⟨z, hr, hz⟩, hb3⟩ := D_bent fuel j (k - 1) (m + 1 + 2) d2 y x xs (by omega) (by omega) (hx y hym) hxl hxs hb2 (by omega)
        rw [show ((k - 1 : Nat) : Int) = (k : Int) - 1 by omega] at e3
        have e7 : ∃ s6, b7 (FR_L_bent fuel) (eT d2 (.tup ds) (.tup (x :: xs)) k (some (.val (.int s))) (some (.val (.int t))) none) = some (.nx, eT d3 (.tup ds) (.tup (x :: xs)) k (some (.val (.int s))) (some (.val (.int t))) s6) ∧ (s6 = some (.val z) ∨ s6 = some (.own z)) := by
          rcases hr with rfl | rfl
          · refine ⟨_, ?_, .inl rfl⟩
            unfold b7
            simp [ey', dSub, int2, e3]
          · refine ⟨_, ?_, .inr rfl⟩
            unfold b7
            simp [ey', dSub, int2, e3]
        obtain ⟨s6, e7, h6⟩ := e7
        rw [seq_nx e7]
        obtain ⟨r', e', e8, g⟩ := b8_ok (d := d3) (N := .tup (x :: xs)) (k := k) (s := s) (t := t) hl hx hz h6
        exact ⟨r', d3, e', e8, g, hb3.mono (by omega)⟩
    obtain ⟨r, d', e, ev, g, hb⟩ := main
    refine ⟨r, d', ?_, g, hb⟩
    show runF 7 4 (fb_L_bent (FR_L_bent fuel)) _ = _
    rw [a_run, if_pos ⟨rfl, rfl⟩]
    show andThen (fb_L_bent (FR_L_bent fuel) (eT d M (.tup (x :: xs)) k none none none)) _ = _
    rw [ev, at_some]
    obtain ⟨y, hr, hy⟩ := g
    have hmg : merge ([M, .tup (x :: xs), .int k].map fun d => some (.val d)) e = [M, .tup (x :: xs), .int k].map fun d => some (.val d) := merge_vals _ e
    rcases hr with rfl | rfl
    · show some (DL.R.val y, some (.mtb d') :: merge ([M, .tup (x :: xs), .int k].map fun d => some (.val d)) e) = _
      rw [hmg]
      rfl
    · show some (DL.R.new y, some (.mtb d') :: merge ([M, .tup (x :: xs), .int k].map fun d => some (.val d)) e) = _
      rw [hmg]
      rfl
end Prg
/-! Rows of marks, compared. -/
namespace Prg
open PySem PySem.Spec L2 DL
open PyProof.Rows hiding St
theorem same_b (n : Nat) (a b : Bool) : FR_L_same (n + 1) [some (.val (.bl a)), some (.val (.bl b))] = some (.val (.bl (a == b)), [some (.val (.bl a)), some (.val (.bl b))]) := by
  have i1 : ∀ c : Bool, dIsi [.bl c, .ty "dict"] = some (false, .bl false) := fun _ => rfl
  have i2 : ∀ c : Bool, dIsi [.bl c, .tup [.ty "list", .ty "tuple"]] = some (false, .bl false) := fun _ => rfl
  have i3 : ∀ c : Bool, dIsi [.bl c, .tup [.ty "bool", .ty "str"]] = some (false, .bl true) := fun _ => rfl
  have i4 : ∀ c : Bool, dIsi [.bl c, .ty "bool"] = some (false, .bl true) := fun _ => rfl
  have j1 : ∀ c : Bool, dIs (.bl c) .non = some (false, .bl false) := fun _ => rfl
  have q1 : ∀ c e : Bool, dEq (.bl c) (.bl e) = some (false, .bl (c == e)) := fun c e => by cases c <;> cases e <;> rfl
  show runF 5 2 (fb_L_same (FR_L_same n)) _ = _
  unfold fb_L_same
  simp [a_run, noOwnB, i1, i2, i3, i4, j1, q1, truD]
  cases a <;> cases b <;> rfl
abbrev sE (as bs : List Bool) : DL.Env := [some (.val (.lst (as.map .bl))), some (.val (.lst (bs.map .bl))), none, none, none]
theorem same_loop {f : EM DL.R} {A B : Dat} (hf : ∀ a b : Bool, f [some (.val A), some (.val B), none, some (.val (.bl a)), some (.val (.bl b))] = some (.val (.bl (a == b)), [some (.val A), some (.val B), none, some (.val (.bl a)), some (.val (.bl b))])) : ∀ (as bs : List Bool) (acc : List Dat), acc.length + as.length ≤ 1000 →
    loopC (gTupD 2 (gConsD (gPut 3) (gConsD (gPut 4) gNilD))) (eRet true) f [3, 4] (pairsD (as.map .bl) (bs.map .bl)) acc [some (.val A), some (.val B), none, none, none] = some (acc ++ (List.zipWith (fun a b => Dat.bl (a == b)) as bs), [some (.val A), some (.val B), none, none, none])
  | [], bs, acc, _ => by
    show some (acc, _) = _
    simp
  | a :: as, [], acc, _ => by
    show some (acc, _) = _
    simp
  | a :: as, b :: bs, acc, h => by
    have hg : gTupD 2 (gConsD (gPut 3) (gConsD (gPut 4) gNilD)) (.tup [.bl a, .bl b]) [some (.val A), some (.val B), none, none, none] = some ((), [some (.val A), some (.val B), none, some (.val (.bl a)), some (.val (.bl b))]) := rfl
    have hw : eWipe [3, 4] [some (.val A), some (.val B), none, some (.val (.bl a)), some (.val (.bl b))] = some ((), [some (.val A), some (.val B), none, none, none]) := rfl
    have hl : acc.length < 100000 := by simp at h; omega
    show eBind (gTupD 2 (gConsD (gPut 3) (gConsD (gPut 4) gNilD)) (.tup [.bl a, .bl b])) _ _ = _
    rw [a_bind, hg, at_some, a_bind, a_ret, at_some, if_pos rfl, a_bind, hf a b, at_some, a_bind, f_val, at_some, a_bind, hw, at_some, if_pos hl]
    rw [same_loop hf as bs (acc ++ [Dat.bl (a == b)]) (by simp at h ⊢; omega), List.append_assoc]
    rfl
theorem bools_bl : ∀ zs : List Bool, bools (zs.map fun b => Dat.bl b) = some zs
  | [] => rfl
  | z :: zs => by
    show (bools (zs.map fun b => Dat.bl b)).map _ = _
    rw [bools_bl zs]
    rfl
theorem dAll_bl (zs : List Bool) : dAll [.lst (zs.map fun b => Dat.bl b)] = some (false, .bl (zs.all id)) := by
  show (bools (zs.map fun b => Dat.bl b)).map _ = _
  rw [bools_bl]
  rfl
theorem zip_all : ∀ {as bs : List Bool}, as.length = bs.length → List.zipWith (fun a b => Dat.bl (a == b)) as bs = (List.zipWith (fun a b => a == b) as bs).map (fun b => Dat.bl b)
  | [], [], _ => rfl
  | a :: as, b :: bs, h => by
    have h' : as.length = bs.length := by simpa using h
    show Dat.bl (a == b) :: List.zipWith (fun a b => Dat.bl (a == b)) as bs = Dat.bl (a == b) :: (List.zipWith (fun a b => a == b) as bs).map (fun b => Dat.bl b)
    rw [zip_all h']
theorem zip_same : ∀ {as bs : List Bool}, as.length = bs.length → (List.zipWith (fun a b => a == b) as bs).all id = (as == bs)
  | [], [], _ => rfl
  | a :: as, b :: bs, h => by
    simp at h
    have := zip_same h
    simp only [List.zipWith_cons_cons, List.all_cons, id, this]
    rfl
theorem same_l (n : Nat) {as bs : List Bool} (h : as.length = bs.length) (hl : as.length ≤ 500) : FR_L_same (n + 2) [some (.val (.lst (as.map .bl))), some (.val (.lst (bs.map .bl)))] = some (.val (.bl (as == bs)), [some (.val (.lst (as.map .bl))), some (.val (.lst (bs.map .bl)))]) := by
  have i1 : ∀ c : List Dat, dIsi [.lst c, .ty "dict"] = some (false, .bl false) := fun _ => rfl
  have i2 : ∀ c : List Dat, dIsi [.lst c, .tup [.ty "list", .ty "tuple"]] = some (false, .bl true) := fun _ => rfl
  have i3 : ∀ c : List Dat, dIsi [.lst c, .ty "list"] = some (false, .bl true) := fun _ => rfl
  have i4 : ∀ c : List Dat, dIsi [.lst c, .ty "tuple"] = some (false, .bl false) := fun _ => rfl
  have q1 : ∀ c e : Bool, dNe (.bl c) (.bl e) = some (false, .bl (!(c == e))) := fun c e => by cases c <;> cases e <;> rfl
  have loop := same_loop (f := eCallV (FR_L_same (n + 1)) (eCons (eVar 3) (eOne (eVar 4)))) (A := .lst (as.map .bl)) (B := .lst (bs.map .bl)) (fun a b => by simp [same_b]) as bs [] (by simp; omega)
  have comp : eLc (iZipD (eCons (eVar 0) (eOne (eVar 1)))) (gTupD 2 (gConsD (gPut 3) (gConsD (gPut 4) gNilD))) (eRet true) (eCallV (FR_L_same (n + 1)) (eCons (eVar 3) (eOne (eVar 4)))) [3, 4] (sE as bs) = some (.new (.lst (List.zipWith (fun a b => Dat.bl (a == b)) as bs)), sE as bs) := by
    unfold eLc
    have hz : iZipD (eCons (eVar 0) (eOne (eVar 1))) (sE as bs) = some (pairsD (as.map .bl) (bs.map .bl), sE as bs) := by
      unfold iZipD
      simp
    rw [a_bind, hz, at_some, if_pos (show freeAt [3, 4] (sE as bs) = true from rfl), a_bind, loop, at_some, List.nil_append]
    rfl
  have hall := dAll_bl (List.zipWith (fun a b => a == b) as bs)
  rw [zip_same h, ← zip_all h] at hall
  have hlen : dEq (.int ((as.map Dat.bl).length : Nat)) (.int ((bs.map Dat.bl).length : Nat)) = some (false, .bl true) := by
    simp [dEq, h]
  show runF 5 2 (fb_L_same (FR_L_same (n + 1))) _ = _
  simp only [sE] at comp
  unfold fb_L_same
  simp [a_run, noOwnB, i1, i2, i3, i4, q1, truD, dLen, comp, hall, dEq, h]
end Prg
/-! A row of KINDs, judged twice. -/
namespace Prg
open PySem PySem.Spec L2 DL
open PyProof.Rows hiding St
theorem book_t (F : List Str) {n : Nat} {d : Dat} (h : okD n d) (hn : n ≤ 40) : F_Book_is_kind [some (.val (.tup (F.map .str))), some (.val d)] = some (.val (.bl (kindD F d)), [some (.val (.tup (F.map .str))), some (.val d)]) := by
  unfold F_Book_is_kind fb_Book_is_kind
  simp [a_run, noOwnB, dTuple, P_kind F h hn]
theorem book_l (F : List Str) {n : Nat} {d : Dat} (h : okD n d) (hn : n ≤ 40) : F_Book_is_kind [some (.val (.lst (F.map .str))), some (.val d)] = some (.val (.bl (kindD F d)), [some (.val (.lst (F.map .str))), some (.val d)]) := by
  unfold F_Book_is_kind fb_Book_is_kind
  simp [a_run, noOwnB, dTuple, P_kind F h hn]
def judgeB : EM O := (sSeq (sSet 8 (eCallV F_L_is_kind (eCons (eVar 2) (eOne (eVar 7))))) (sSeq (sSet 9 (eLst (eCons (eCallV F_Book_is_kind (eCons (eVar 2) (eOne (eVar 7)))) (eOne (eCallV F_Book_is_kind (eCons (eOpN dList (eOne (eVar 2))) (eOne (eVar 7)))))))) (eIf (tNo (eTruth (eCallV F_L_same (eCons (eVar 9) (eOne (eLst (eCons (eVar 8) (eOne (eVar 8))))))))) (sRet (eCon (.bl false))) (eRet .nx))))
theorem judge_ok {F : List Str} (hF : F.length ≤ 1000) {n : Nat} {x : Dat} (h : okD n x) (hn : n ≤ 40) (s0 : Slot) (s1 s3 s4 s5 s6 s8 s9 : Option Slot) (h8 : isMtb (some s8) = false) (h9 : isMtb (some s9) = false) :
    judgeB [some s0, s1, some (.val (.tup (F.map .str))), s3, s4, s5, s6, some (.val x), s8, s9] = some (.nx, [some s0, s1, some (.val (.tup (F.map .str))), s3, s4, s5, s6, some (.val x), some (.val (.bl (kindD F x))), some (.val (.lst [Dat.bl (kindD F x), Dat.bl (kindD F x)]))]) := by
  have e1 := L_kind F hF h hn
  have e2 := book_t F h hn
  have e3 := book_l F h hn
  have e4 : F_L_same [some (.val (.lst [Dat.bl (kindD F x), Dat.bl (kindD F x)])), some (.val (.lst [Dat.bl (kindD F x), Dat.bl (kindD F x)]))] = some (.val (.bl true), [some (.val (.lst [Dat.bl (kindD F x), Dat.bl (kindD F x)])), some (.val (.lst [Dat.bl (kindD F x), Dat.bl (kindD F x)]))]) := by
    have := same_l 58 (as := [kindD F x, kindD F x]) (bs := [kindD F x, kindD F x]) rfl (by simp)
    rw [show ([kindD F x, kindD F x] == [kindD F x, kindD F x]) = true from beq_self_eq_true _] at this
    exact this
  unfold judgeB
  simp [e1, e2, e3, e4, h8, h9, dList, truD]
end Prg
/-! One turn of the law. -/
namespace Prg
open PySem PySem.Spec L2 DL
open PyProof.Rows hiding St
abbrev nm (s : Option Slot) : Prop := isMtb (some s) = false
def tA : EM O := (sPar 2 3 (eCons (eOpN dTuple (eOne (eCallM F_L_names (eCons (eVar 0) (eOne (eOp2 dAdd (eCon (.int 1)) (eOp2 dMod (eVar 1) (eCon (.int 2))))))))) (eOne (eOp2 dMul (eLst (eOne (eCallM F_L_take (eCons (eVar 0) (eOne (eCon (.int 9))))))) (eOp2 dFdv (eVar 1) (eCon (.int 4)))))))
def tB : EM O := (sSet 4 (eCallM F_L_kind (eCons (eVar 0) (eCons (eVar 2) (eCons (eOp2 dIx (eCallM F_L_names (eCons (eVar 0) (eOne (eCon (.int 1))))) (eCon (.int 0))) (eCons (eCallM F_L_names (eCons (eVar 0) (eOne (eCon (.int 4))))) (eCons (eCon (.int 1)) (eCons (eCon (.int 3)) (eOne (eVar 3))))))))))
def tC : EM O := (sSet 5 (eLst (eCons (eVar 4) (eOne (eCallV F_L_lists (eOne (eVar 4)))))))
def tD1 : EM O := (sExp (eBind (hasL 5) fun _ => eApp 5 (eOne (eCallM F_L_bent (eCons (eVar 0) (eCons (eVar 4) (eCons (eVar 2) (eOne (eCon (.int 8))))))))))
def tD : EM O := (sFor (iRange (eOne (eCon (.int 7)))) (gPut 6) tD1)
def tE : EM O := (sFor (iAny (eVar 5)) (gPut 7) judgeB)
def turnB : EM O := sSeq tA (sSeq tB (sSeq tC (sSeq tD tE)))
def lastB : EM O := (sRet (eCallV F_L_same (eCons (eCallV F_Book_is_kind (eCons (eTup (eCons (eCon (.str (Str.ofString "a"))) (eOne (eCon (.str (Str.ofString "b")))))) (eOne (eTup (eCons (eCon (.str (Str.ofString "k"))) (eCons (eTup (eOne (eCon (.str (Str.ofString "a"))))) (eOne (eTup (eCons (eCon (.str (Str.ofString "say"))) (eCons (eTup (eOne (eTup (eCons (eCon (.str (Str.ofString "make"))) (eCons (eCon (.str (Str.ofString "a"))) (eOne (eTup (eCons (eCon (.int 1)) (eOne (eCon (.int 2))))))))))) (eOne (eCon (.str (Str.ofString "b")))))))))))))) (eOne (eCon (.bl true))))))
theorem fb_right : fb_L_right = sSeq (eIf (tNo (eTruth (eCall0 F_L_by_hand_right))) (sRet (eCon (.bl false))) (eRet .nx)) (sSeq (sFor (iRange (eOne (eCon (.int 6)))) (gPut 1) turnB) lastB) := rfl
theorem mul_l (ds : List Dat) (k : Int) (h0 : 0 ≤ k) (h1 : k < 100000) (h2 : ds.length * k.toNat ≤ 100000) : dMul (.lst ds) (.int k) = some (true, .lst (List.replicate k.toNat ds).flatten) := by
  simp [dMul, h0, h1, h2]
theorem fdv4 (i : Int) : dFdv (.int i) (.int 4) = some (false, .int (i / 4)) := by simp [dFdv, int2]
theorem mod2 (i : Int) : dMod (.int i) (.int 2) = some (false, .int (i % 2)) := by simp [dMod, int2]
theorem tA_run {d d1 d2 : Dat} {i a b : Int} {y : Int} {ws : List Str} {cs : List Dat} {s2 s3 s4 s5 s6 s7 s8 s9 : Option Slot} (h2 : nm s2) (h3 : nm s3) (f1 : dFdv (.int i) (.int 4) = some (false, .int b)) (f2 : dMul (.lst [Dat.int y]) (.int b) = some (true, .lst cs)) (f3 : dMod (.int i) (.int 2) = some (false, .int a))
    (e1 : F_L_names [some (.mtb d), some (.val (.int (1 + a)))] = some (.new (.lst (ws.map .str)), [some (.mtb d1), some (.val (.int (1 + a)))])) (e2 : F_L_take [some (.mtb d1), some (.val (.int 9))] = some (.val (.int y), [some (.mtb d2), some (.val (.int 9))])) :
    tA [some (.mtb d), some (.val (.int i)), s2, s3, s4, s5, s6, s7, s8, s9] = some (.nx, [some (.mtb d2), some (.val (.int i)), some (.val (.tup (ws.map .str))), some (.val (.lst cs)), s4, s5, s6, s7, s8, s9]) := by
  unfold tA
  simp [e1, e2, dTuple, add_i, f1, f2, f3, h2, h3]
theorem tA_ok {m t : Nat} {d : Dat} (ht : t < 6) (h : Bx m d) (hm : m ≤ 40000) {s2 s3 s4 s5 s6 s7 s8 s9 : Option Slot} (h2 : nm s2) (h3 : nm s3) :
    ∃ (w0 : Str) (ws : List Str) (cs : List Dat) (d' : Dat), tA [some (.mtb d), some (.val (.int t)), s2, s3, s4, s5, s6, s7, s8, s9] = some (.nx, [some (.mtb d'), some (.val (.int t)), some (.val (.tup ((w0 :: ws).map .str))), some (.val (.lst cs)), s4, s5, s6, s7, s8, s9]) ∧ ws.length ≤ 4 ∧ (∀ w ∈ w0 :: ws, w.length ≤ 8) ∧ cs.length ≤ 5 ∧ (∀ x ∈ cs, okW 0 x) ∧ Bx (m + 20) d' := by
  obtain ⟨ws, d1, e1, hl, hw, hb1⟩ := D_names h (by omega) (k := 1 + t % 2) (by omega)
  obtain ⟨y, d2, e2, hy0, hy1, hb2⟩ := D_take hb1 (by omega) (n := 9) (by decide) (by decide)
  rw [show ((1 + t % 2 : Nat) : Int) = 1 + (t : Int) % 2 by omega] at e1
  cases ws with
  | nil => simp at hl; omega
  | cons w0 ws =>
    have f2 : dMul (.lst [Dat.int y]) (.int ((t : Int) / 4)) = some (true, .lst (List.replicate ((t : Int) / 4).toNat [Dat.int y]).flatten) := by
      exact mul_l _ _ (by omega) (by omega) (by rw [List.length_singleton]; omega)
    refine ⟨w0, ws, (List.replicate ((t : Int) / 4).toNat [Dat.int y]).flatten, d2, ?_, by simp at hl; omega, hw, ?_, ?_, hb2.mono (by omega)⟩
    · exact tA_run (cs := (List.replicate ((t : Int) / 4).toNat [Dat.int y]).flatten) (ws := w0 :: ws) h2 h3 (fdv4 _) f2 (mod2 _) e1 e2
    · simp
      omega
    · intro x hx
      simp at hx
      rw [hx.2]
      trivial
theorem tB_ok {m t : Nat} {d : Dat} (h : Bx m d) (hm : m ≤ 42000) {w0 : Str} {ws : List Str} {cs : List Dat} (hl : ws.length ≤ 4) (hw : ∀ w ∈ w0 :: ws, w.length ≤ 8) (hc : cs.length ≤ 5) (hck : ∀ x ∈ cs, okW 0 x) {s4 s5 s6 s7 s8 s9 : Option Slot} (h4 : nm s4) :
    ∃ (K d' : Dat), tB [some (.mtb d), some (.val (.int t)), some (.val (.tup ((w0 :: ws).map .str))), some (.val (.lst cs)), s4, s5, s6, s7, s8, s9] = some (.nx, [some (.mtb d'), some (.val (.int t)), some (.val (.tup ((w0 :: ws).map .str))), some (.val (.lst cs)), some (.val K), s5, s6, s7, s8, s9]) ∧ okW 10 K ∧ Bx (m + 5040) d' := by
  obtain ⟨n1, d1, e1, hl1, hw1, hb1⟩ := D_names h (by omega) (k := 1) (by omega)
  obtain ⟨n4, d2, e2, hl4, hw4, hb2⟩ := D_names hb1 (by omega) (k := 4) (by omega)
  obtain ⟨v, rfl⟩ : ∃ v, n1 = [v] := by
    match n1, hl1 with
    | [v], _ => exact ⟨v, rfl⟩
  have ok8 : ∀ {z : Str}, z.length ≤ 8 → okW 0 (.str z) := fun q => by
    show _ ≤ 20
    omega
  have okm : ∀ {zs : List Str}, (∀ w ∈ zs, w.length ≤ 8) → ∀ x ∈ zs.map Dat.str, okW 0 x := fun q x hx => by
    obtain ⟨z, hz, rfl⟩ := List.mem_map.mp hx
    exact ok8 (q z hz)
  obtain ⟨K, d3, e3, hK, hb3⟩ := D_kind (F := (w0 :: ws).map .str) (W := n4.map .str) (nm := .str v) (cs := cs) (by simp) (by simp; omega) (okm hw) (ok8 (hw1 v (by simp))) (by intro e; rw [List.map_eq_nil_iff] at e; rw [e] at hl4; cases hl4) (by simp; omega) (okm hw4) hc hck hb2 (by omega)
  simp only [eD, kA, List.map_cons, List.map_nil] at e3
  have e1' : F_L_names [some (.mtb d), some (.val (.int 1))] = some (.new (.lst [Dat.str v]), [some (.mtb d1), some (.val (.int 1))]) := e1
  have e2' : F_L_names [some (.mtb d1), some (.val (.int 4))] = some (.new (.lst (n4.map .str)), [some (.mtb d2), some (.val (.int 4))]) := e2
  refine ⟨K, d3, ?_, hK, hb3.mono (by omega)⟩
  unfold tB
  simp [e1', e2', dIx, atI, ixN, e3, h4]
theorem tC_ok {t : Nat} {s0 : Slot} {K N : Dat} (hK : okW 10 K) {s3 s5 s6 s7 s8 s9 : Option Slot} (h5 : nm s5) :
    tC [some s0, some (.val (.int t)), some (.val N), s3, some (.val K), s5, s6, s7, s8, s9] = some (.nx, [some s0, some (.val (.int t)), some (.val N), s3, some (.val K), some (.own (.lst [K, lsD 10 K])), s6, s7, s8, s9]) := by
  have e := L_lists 60 10 K (by omega) hK
  have hc := call_ls (n := 10) (d := K)
  unfold tC
  simp [e, hc, force_ls, h5]
end Prg
/-! A turn, whole. -/
namespace Prg
open PySem PySem.Spec L2 DL
open PyProof.Rows hiding St
abbrev eJ (d : Dat) (t : Int) (N : Dat) (s3 : Option Slot) (K : Dat) (s5 s6 s7 s8 s9 : Option Slot) : DL.Env := [some (.mtb d), some (.val (.int t)), some (.val N), s3, some (.val K), s5, s6, s7, s8, s9]
theorem tD1_ok {m : Nat} {d K : Dat} {t : Int} {w0 : Str} {ws : List Str} {L : List Dat} (h : Bx m d) (hm : m ≤ 79000) (hl : ws.length ≤ 4) (hw : ∀ w ∈ w0 :: ws, w.length ≤ 8) (hK : okW 10 K) (hL : L.length ≤ 100) {s3 s6 s7 s8 s9 : Option Slot} :
    ∃ (y d' : Dat), tD1 (eJ d t (.tup ((w0 :: ws).map .str)) s3 K (some (.own (.lst L))) s6 s7 s8 s9) = some (.nx, eJ d' t (.tup ((w0 :: ws).map .str)) s3 K (some (.own (.lst (L ++ [y])))) s6 s7 s8 s9) ∧ okD 15 y ∧ Bx (m + 36) d' := by
  have okm : ∀ x ∈ Dat.str w0 :: ws.map Dat.str, okW 0 x := fun x hx => by
    have : x ∈ (w0 :: ws).map Dat.str := hx
    obtain ⟨z, hz, rfl⟩ := List.mem_map.mp this
    have := hw z hz
    show _ ≤ 20
    omega
  obtain ⟨r, d', e, ⟨y, hr, hy⟩, hb⟩ := D_bent 60 10 8 m d K (.str w0) (ws.map .str) (by omega) (by omega) hK (by simp; omega) okm h (by omega)
  have e' : F_L_bent [some (.mtb d), some (.val K), some (.val (.tup (Dat.str w0 :: ws.map Dat.str))), some (.val (.int 8))] = some (r, [some (.mtb d'), some (.val K), some (.val (.tup (Dat.str w0 :: ws.map Dat.str))), some (.val (.int 8))]) := e
  have hl2 : L.length < 100000 := by omega
  refine ⟨y, d', ?_, hy, hb⟩
  rcases hr with rfl | rfl
  · unfold tD1
    simp [e', hl2]
  · unfold tD1
    simp [e', hl2]
theorem tD_ok {m : Nat} {d K : Dat} {t : Int} {w0 : Str} {ws : List Str} {L : List Dat} (h : Bx m d) (hm : m ≤ 78000) (hl : ws.length ≤ 4) (hw : ∀ w ∈ w0 :: ws, w.length ≤ 8) (hK : okW 10 K) (hL : L.length ≤ 10) (hLk : ∀ x ∈ L, okD 15 x) {s3 s6 s7 s8 s9 : Option Slot} (h6 : nm s6) :
    ∃ (L' : List Dat) (d' : Dat) (s6' : Option Slot), tD (eJ d t (.tup ((w0 :: ws).map .str)) s3 K (some (.own (.lst L))) s6 s7 s8 s9) = some (.nx, eJ d' t (.tup ((w0 :: ws).map .str)) s3 K (some (.own (.lst L'))) s6' s7 s8 s9) ∧ nm s6' ∧ L'.length ≤ 17 ∧ (∀ x ∈ L', okD 15 x) ∧ Bx (m + 252) d' := by
  obtain ⟨e3, hloop, d', L', s6', rfl, hb, hl', hk', hn⟩ := loop_inv (g := gPut 6) (body := tD1)
    (fun i env => ∃ (d : Dat) (L' : List Dat) (s6 : Option Slot), env = eJ d t (.tup ((w0 :: ws).map .str)) s3 K (some (.own (.lst L'))) s6 s7 s8 s9 ∧ Bx (m + 36 * i) d ∧ L'.length = L.length + i ∧ (∀ x ∈ L', okD 15 x) ∧ nm s6)
    (rngD 0 7) 0 (eJ d t (.tup ((w0 :: ws).map .str)) s3 K (some (.own (.lst L))) s6 s7 s8 s9) ⟨d, L, s6, rfl, h, rfl, hLk, h6⟩ fun j x env hx ⟨d, L', s6, he, hb, hl', hk', hn⟩ => by
      subst he
      obtain ⟨hxj, hj⟩ := rngD_get hx
      have hj2 : j < 7 := by have := (List.getElem?_eq_some_iff.mp hx).1; simpa [rngD] using this
      rw [show 0 + j = j by omega] at hb hl' ⊢
      obtain ⟨y, d2, e2, hy, hb2⟩ := tD1_ok (L := L') (s3 := s3) (s6 := some (.val x)) (s7 := s7) (s8 := s8) (s9 := s9) (t := t) hb (by omega) hl hw hK (by omega)
      refine ⟨eJ d t (.tup ((w0 :: ws).map .str)) s3 K (some (.own (.lst L'))) (some (.val x)) s7 s8 s9, _, ?_, e2, d2, L' ++ [y], some (.val x), rfl, ?_, by simp; omega, fun z hz => ?_, rfl⟩
      · rw [a_put, if_pos ⟨by simp, hn⟩]
        rfl
      · rw [show m + 36 * (j + 1) = m + 36 * j + 36 by omega]
        exact hb2
      · rcases List.mem_append.mp hz with q | q
        · exact hk' z q
        · rw [List.mem_singleton.mp q]; exact hy
  refine ⟨L', d', s6', ?_, hn, ?_, hk', ?_⟩
  · unfold tD
    rw [a_sfor, a_irange, a_one, a_con, at_some, at_some, ls_cons, a_look, l_val, we_some, at_some, ls_nil, at_some, at_some]
    rw [rangeO_e 7 _ (by decide), at_some]
    exact hloop
  · have : (rngD 0 7).length = 7 := rfl
    omega
  · have : (rngD 0 7).length = 7 := rfl
    rw [this] at hb
    exact hb
theorem tE_ok {d K : Dat} {t : Int} {F : List Str} (hF : F.length ≤ 1000) {L : List Dat} (hLk : ∀ x ∈ L, okD 15 x) {s3 s6 s7 s8 s9 : Option Slot} (h7 : nm s7) (h8 : nm s8) (h9 : nm s9) :
    ∃ (r7 r8 r9 : Option Slot), tE (eJ d t (.tup (F.map .str)) s3 K (some (.own (.lst L))) s6 s7 s8 s9) = some (.nx, eJ d t (.tup (F.map .str)) s3 K (some (.val (.lst L))) s6 r7 r8 r9) ∧ nm r7 ∧ nm r8 ∧ nm r9 := by
  obtain ⟨e3, hloop, r7, r8, r9, rfl, n7, n8, n9⟩ := loop_inv (g := gPut 7) (body := judgeB)
    (fun i env => ∃ (r7 r8 r9 : Option Slot), env = eJ d t (.tup (F.map .str)) s3 K (some (.val (.lst L))) s6 r7 r8 r9 ∧ nm r7 ∧ nm r8 ∧ nm r9)
    L 0 (eJ d t (.tup (F.map .str)) s3 K (some (.val (.lst L))) s6 s7 s8 s9) ⟨s7, s8, s9, rfl, h7, h8, h9⟩ fun j x env hx ⟨r7, r8, r9, he, n7, n8, n9⟩ => by
      subst he
      have hk := hLk x (List.mem_of_getElem? hx)
      refine ⟨eJ d t (.tup (F.map .str)) s3 K (some (.val (.lst L))) s6 (some (.val x)) r8 r9, _, ?_, judge_ok hF hk (by omega) _ _ _ _ _ _ _ _ n8 n9, _, _, _, rfl, rfl, rfl, rfl⟩
      rw [a_put, if_pos ⟨by simp, n7⟩]
      rfl
  refine ⟨r7, r8, r9, ?_, n7, n8, n9⟩
  unfold tE
  rw [a_sfor]
  have hi : iAny (eVar 5) (eJ d t (.tup (F.map .str)) s3 K (some (.own (.lst L))) s6 s7 s8 s9) = some (L, eJ d t (.tup (F.map .str)) s3 K (some (.val (.lst L))) s6 s7 s8 s9) := by simp [itemsD]
  rw [hi, at_some]
  exact hloop
theorem turn_ok {m t : Nat} {d : Dat} (ht : t < 6) (h : Bx m d) (hm : m ≤ 40000) {s2 s3 s4 s5 s6 s7 s8 s9 : Option Slot} (h2 : nm s2) (h3 : nm s3) (h4 : nm s4) (h5 : nm s5) (h6 : nm s6) (h7 : nm s7) (h8 : nm s8) (h9 : nm s9) :
    ∃ (d' : Dat) (r2 r3 r4 r5 r6 r7 r8 r9 : Option Slot), turnB [some (.mtb d), some (.val (.int t)), s2, s3, s4, s5, s6, s7, s8, s9] = some (.nx, [some (.mtb d'), some (.val (.int t)), r2, r3, r4, r5, r6, r7, r8, r9]) ∧ Bx (m + 5400) d' ∧ nm r2 ∧ nm r3 ∧ nm r4 ∧ nm r5 ∧ nm r6 ∧ nm r7 ∧ nm r8 ∧ nm r9 := by
  obtain ⟨w0, ws, cs, d1, e1, hl, hw, hc, hck, hb1⟩ := tA_ok ht h hm (s4 := s4) (s5 := s5) (s6 := s6) (s7 := s7) (s8 := s8) (s9 := s9) h2 h3
  obtain ⟨K, d2, e2, hK, hb2⟩ := tB_ok (t := t) hb1 (by omega) hl hw hc hck (s5 := s5) (s6 := s6) (s7 := s7) (s8 := s8) (s9 := s9) h4
  have e3 := tC_ok (t := t) (s0 := .mtb d2) (N := .tup ((w0 :: ws).map .str)) hK (s3 := some (.val (.lst cs))) (s6 := s6) (s7 := s7) (s8 := s8) (s9 := s9) h5
  obtain ⟨L, d3, r6, e4, n6, _, hLk, hb3⟩ := tD_ok (t := t) (L := [K, lsD 10 K]) (s3 := some (.val (.lst cs))) (s7 := s7) (s8 := s8) (s9 := s9) hb2 (by omega) hl hw hK (by simp) (fun x hx => by
    simp at hx
    rcases hx with q | q <;> rw [q]
    · exact hK.okD.mono (by omega)
    · exact (okD_ls hK).mono (by omega)) h6
  obtain ⟨r7, r8, r9, e5, n7, n8, n9⟩ := tE_ok (d := d3) (K := K) (t := t) (F := w0 :: ws) (by simp; omega) hLk (s3 := some (.val (.lst cs))) (s6 := r6) h7 h8 h9
  refine ⟨d3, some (.val (.tup ((w0 :: ws).map .str))), some (.val (.lst cs)), some (.val K), some (.val (.lst L)), r6, r7, r8, r9, (seq_nx e1).trans ((seq_nx e2).trans ((seq_nx e3).trans ((seq_nx e4).trans e5))), hb3.mono (by omega), rfl, rfl, rfl, rfl, n6, n7, n8, n9⟩
end Prg
/-! The law's turns, all. -/
namespace Prg
open PySem PySem.Spec L2 DL
open PyProof.Rows hiding St
theorem turns_ok {d : Dat} (h : Bx 0 d) :
    ∃ (d' : Dat) (r : DL.Env), sFor (iRange (eOne (eCon (.int 6)))) (gPut 1) turnB [some (.mtb d), none, none, none, none, none, none, none, none, none] = some (.nx, some (.mtb d') :: r) ∧ r.length = 9 := by
  obtain ⟨e3, hloop, d', r1, r2, r3, r4, r5, r6, r7, r8, r9, rfl, _⟩ := loop_inv (g := gPut 1) (body := turnB)
    (fun i env => ∃ (d : Dat) (r1 r2 r3 r4 r5 r6 r7 r8 r9 : Option Slot), env = [some (.mtb d), r1, r2, r3, r4, r5, r6, r7, r8, r9] ∧ Bx (5400 * i) d ∧ nm r1 ∧ nm r2 ∧ nm r3 ∧ nm r4 ∧ nm r5 ∧ nm r6 ∧ nm r7 ∧ nm r8 ∧ nm r9)
    (rngD 0 6) 0 [some (.mtb d), none, none, none, none, none, none, none, none, none] ⟨d, none, none, none, none, none, none, none, none, none, rfl, h, rfl, rfl, rfl, rfl, rfl, rfl, rfl, rfl, rfl⟩ fun j x env hx ⟨d, r1, r2, r3, r4, r5, r6, r7, r8, r9, he, hb, n1, n2, n3, n4, n5, n6, n7, n8, n9⟩ => by
      subst he
      obtain ⟨rfl, hj⟩ := rngD_get hx
      have hj6 : j < 6 := hj
      rw [show 0 + j = j by omega] at hb ⊢
      obtain ⟨d2, q2, q3, q4, q5, q6, q7, q8, q9, e2, hb2, m2, m3, m4, m5, m6, m7, m8, m9⟩ := turn_ok hj6 hb (by omega) n2 n3 n4 n5 n6 n7 n8 n9
      refine ⟨[some (.mtb d), some (.val (.int j)), r2, r3, r4, r5, r6, r7, r8, r9], _, ?_, e2, d2, _, q2, q3, q4, q5, q6, q7, q8, q9, rfl, ?_, rfl, m2, m3, m4, m5, m6, m7, m8, m9⟩
      · rw [a_put, if_pos ⟨by simp, n1⟩]
        rfl
      · rw [show 5400 * (j + 1) = 5400 * j + 5400 by omega]
        exact hb2
  refine ⟨d', [r1, r2, r3, r4, r5, r6, r7, r8, r9], ?_, rfl⟩
  rw [a_sfor, a_irange, a_one, a_con, at_some, at_some, ls_cons, a_look, l_val, we_some, at_some, ls_nil, at_some, at_some]
  rw [rangeO_e 6 _ (by decide), at_some]
  exact hloop
end Prg
/-! The last row. -/
namespace Prg
open PySem PySem.Spec L2 DL
open PyProof.Rows hiding St
theorem last_ok (env : DL.Env) : lastB env = some (.rt (.val (.bl true)), env) := by kernel_rfl
end Prg
/-! By hand. -/
namespace Prg
open PySem PySem.Spec L2 DL
open PyProof.Rows hiding St
theorem hand_ok : F_L_by_hand_right [] = some (.val (.bl true), []) := by kernel_rfl
end Prg
/-! The law's own answer. -/
namespace Prg
open PySem PySem.Spec L2 DL
open PyProof.Rows hiding St
theorem right_ok {d : Dat} (h : Bx 0 d) : ∃ d', F_L_right [some (.mtb d)] = some (.val (.bl true), [some (.mtb d')]) := by
  obtain ⟨d', r, e, hr⟩ := turns_ok h
  refine ⟨d', ?_⟩
  show runF 10 1 fb_L_right _ = _
  rw [a_run, if_pos ⟨rfl, rfl⟩]
  have hand : (tNo (eTruth (eCall0 F_L_by_hand_right))) [some (.mtb d), none, none, none, none, none, none, none, none, none] = some (false, [some (.mtb d), none, none, none, none, none, none, none, none, none]) := by
    have : eCall0 F_L_by_hand_right [some (.mtb d), none, none, none, none, none, none, none, none, none] = some (.val (.bl true), [some (.mtb d), none, none, none, none, none, none, none, none, none]) := by
      unfold eCall0
      rw [hand_ok]
    rw [a_tno, a_truth, this]
    rfl
  have eb : fb_L_right [some (.mtb d), none, none, none, none, none, none, none, none, none] = some (.rt (.val (.bl true)), some (.mtb d') :: r) := by
    rw [fb_right]
    exact (seq_nx ((if_f hand).trans rfl)).trans ((seq_nx e).trans (last_ok _))
  show andThen (fb_L_right [some (.mtb d), none, none, none, none, none, none, none, none, none]) _ = _
  rw [eb, at_some]
  rfl
theorem box_run {ns : List Int} {k : Nat} {c A G P M X B : Int} {g : Bool} (hk : k < ns.length) (hix : dIx (.lst (ns.map .int)) (.int k) = some (false, .int c)) (h1 : dAbs [.int c] = some (false, .int A)) (h2 : dPow (.int 10) (.int 18) = some (false, .int P)) (h3 : dGe (.int A) (.int P) = some (false, .bl g))
    (h4 : dInt [.bl g] = some (false, .int G)) (h5 : dMul (.int A) (.int G) = some (false, .int B)) (h6 : dMod (.int c) (.int 2305843009213693951) = some (false, .int M)) (h7 : dMul (.int 39373) (.int k) = some (false, .int X)) :
    F_L_box [some (.val (.lst (ns.map .int))), some (.val (.int k))] = some (.new (.lst [.int B, .int (M + X + 58500), .int 0]), [some (.val (.lst (ns.map .int))), some (.val (.int k))]) := by
  have hlt : (k : Int) < (ns.length : Int) := by omega
  have i1 : dInt [.int c] = some (false, .int c) := rfl
  show runF 3 2 fb_L_box _ = _
  unfold fb_L_box
  simp [a_run, noOwnB, dLen, dLt, hlt, hk, hix, h1, h2, h3, h4, h5, h6, h7, i1, add_i]
theorem g01 : ∀ g : Bool, (-(2 ^ 64) : Int) < (if g = true then 1 else 0) ∧ (if g = true then (1 : Int) else 0) < 2 ^ 64 := by decide
theorem box_ok {ns : List Int} {k : Nat} (hk : k < ns.length) (hl : ns.length ≤ 100) : ∃ d, F_L_box [some (.val (.lst (ns.map .int))), some (.val (.int k))] = some (.new d, [some (.val (.lst (ns.map .int))), some (.val (.int k))]) ∧ Bx 0 d := by
  have hix : dIx (.lst (ns.map .int)) (.int k) = some (false, .int ns[k]) := by
    simp [dIx, atI, ixN, hk]
  refine ⟨_, box_run hk hix rfl (P := 10 ^ (18 : Int).toNat) rfl rfl rfl (dMul_i (.inr ?_)) (M := ns[k] % 2305843009213693951) rfl (dMul_i (.inl ⟨by decide, by decide⟩)), _, _, _, rfl, by decide, by decide⟩
  exact g01 _
end Prg
/-! The cells. -/
namespace Prg
open PySem PySem.Spec L2 DL
open PyProof.Rows hiding St
def cellB : EM O := (sSeq (sSet 5 (eOp2 dMod (eOpN dInt (eOne (eVar 3))) (eVar 1))) (sPut 2 (eVar 5) (eOp2 dAdd (eOp2 dIx (eVar 2) (eVar 5)) (eOp2 dMul (eVar 4) (eOp2 dAdd (eVar 3) (eCon (.int 2)))))))
def cellS : EM O := (sSet 2 (eOr2 (eOpN dList (eOne (eCut (eVar 0) oNone (oInt (eVar 1))))) (eLst (eOne (eCon (.int 0))))))
def cellF : EM O := (sFor (iEnumD (eOne (eCut (eVar 0) (oInt (eVar 1)) (oInt (eCon (.int 63)))))) (gTupD 2 (gConsD (gPut 3) (gConsD (gPut 4) gNilD))) cellB)
theorem fb_cells : fb_L_cells = sSeq cellS (sSeq cellF (sRet (eVar 2))) := rfl
theorem mod3 (i : Int) : dMod (.int i) (.int 3) = some (false, .int (i % 3)) := by simp [dMod, int2]
theorem cell_step {s : Dat} {A : List Int} {j : Nat} {c : Int} (hj : j ≤ 100) (hA : A.length = 3) {s5 : Option Slot} (h5 : nm s5) :
    ∃ (A' : List Int), cellB [some (.val s), some (.val (.int 3)), some (.own (.lst (A.map .int))), some (.val (.int j)), some (.val (.int c)), s5] = some (.nx, [some (.val s), some (.val (.int 3)), some (.own (.lst (A'.map .int))), some (.val (.int j)), some (.val (.int c)), some (.val (.int ((j : Int) % 3)))]) ∧ A'.length = 3 := by
  have hm : dMul (.int c) (.int ((j : Int) + 2)) = some (false, .int (c * ((j : Int) + 2))) := dMul_i (.inr ⟨by omega, by omega⟩)
  have hi : dInt [.int (j : Int)] = some (false, .int j) := rfl
  have hlt : j % 3 < A.length := by omega
  have c0 : 0 ≤ (j : Int) % 3 := by omega
  have c1 : (j : Int) % 3 < (A.length : Int) := by omega
  have c2 : ((j : Int) % 3).toNat = j % 3 := by omega
  have hix : dIx (.lst (A.map .int)) (.int ((j : Int) % 3)) = some (false, .int A[j % 3]) := by
    simp [dIx, atI, ixN, c0, c1, c2, hlt]
  refine ⟨A.set (j % 3) (A[j % 3] + c * ((j : Int) + 2)), ?_, by simp [hA]⟩
  have hp : ∀ (s4 : Option Slot), DL.putAt 2 (.int ((j : Int) % 3)) (.int (A[j % 3] + c * ((j : Int) + 2))) [some (.val s), some (.val (.int 3)), some (.own (.lst (A.map .int))), some (.val (.int j)), s4, some (.val (.int ((j : Int) % 3)))] = some (.nx, [some (.val s), some (.val (.int 3)), some (.own (.lst ((A.set (j % 3) (A[j % 3] + c * ((j : Int) + 2))).map .int))), some (.val (.int j)), s4, some (.val (.int ((j : Int) % 3)))]) := fun s4 => by
    simp [DL.putAt, Slot.wr, ixN, c0, c1, c2, Slot.put, Slot.dat, List.map_set]
  unfold cellB
  simp [hi, mod3, h5, hix, add_i, hm, sPut, hp]
end Prg
/-! The cells, all. -/
namespace Prg
open PySem PySem.Spec L2 DL
open PyProof.Rows hiding St
theorem cut_a (xs : List Dat) : DL.cutD xs none (some 3) = xs.take 3 := by
  unfold DL.cutD HT.sIx
  simp
theorem cut_b (xs : List Dat) (h : xs.length ≤ 3) : DL.cutD xs (some 3) (some 63) = [] := by
  unfold DL.cutD HT.sIx
  simp
  omega
theorem cut_c {ns : List Int} {x : Dat} {lo hi : Option Int} (h : x ∈ DL.cutD (ns.map Dat.int) lo hi) : ∃ c, x = .int c := by
  obtain ⟨c, _, e⟩ := List.mem_map.mp (cut_mem h)
  exact ⟨c, e.symm⟩
theorem cells_run0 {ds : List Dat} (hc : dCut (.lst ds) none (some 3) = some (true, .lst [])) : cellS [some (.val (.lst ds)), some (.val (.int 3)), none, none, none, none] = some (.nx, [some (.val (.lst ds)), some (.val (.int 3)), some (.own (.lst [.int 0])), none, none, none]) := by
  unfold cellS
  simp [hc, dList, truD]
theorem cells_run {ds es : List Dat} {e : Dat} (hc : dCut (.lst ds) none (some 3) = some (true, .lst (e :: es))) : cellS [some (.val (.lst ds)), some (.val (.int 3)), none, none, none, none] = some (.nx, [some (.val (.lst ds)), some (.val (.int 3)), some (.own (.lst (e :: es))), none, none, none]) := by
  unfold cellS
  simp [hc, dList, truD]
theorem cells_start (ns : List Int) : ∃ A : List Int, cellS [some (.val (.lst (ns.map .int))), some (.val (.int 3)), none, none, none, none] = some (.nx, [some (.val (.lst (ns.map .int))), some (.val (.int 3)), some (.own (.lst (A.map .int))), none, none, none]) ∧ 1 ≤ A.length ∧ A.length ≤ 3 ∧ (3 < ns.length → A.length = 3) := by
  have hc : dCut (.lst (ns.map .int)) none (some 3) = some (true, .lst ((ns.take 3).map .int)) := by
    show some (true, Dat.lst (DL.cutD (ns.map Dat.int) none (some 3))) = _
    rw [cut_a, List.map_take]
  cases ns with
  | nil => exact ⟨[0], cells_run0 hc, by simp, by simp, by simp⟩
  | cons n ns => exact ⟨(n :: ns).take 3, cells_run hc, by simp, by simp; omega, fun h => by rw [List.length_take]; omega⟩
end Prg
/-! The cells' loop; the law. -/
namespace Prg
open PySem PySem.Spec L2 DL
open PyProof.Rows hiding St
abbrev eCl (S : Dat) (A : List Int) (s3 s4 s5 : Option Slot) : DL.Env := [some (.val S), some (.val (.int 3)), some (.own (.lst (A.map .int))), s3, s4, s5]
theorem cell_put {S : Dat} {A : List Int} {s3 s4 s5 : Option Slot} (j c : Int) (h3 : nm s3) (h4 : nm s4) : gTupD 2 (gConsD (gPut 3) (gConsD (gPut 4) gNilD)) (.tup [.int j, .int c]) (eCl S A s3 s4 s5) = some ((), eCl S A (some (.val (.int j))) (some (.val (.int c))) s5) := by
  simp [gTupD, gConsD, gNilD, h3, h4]
theorem cells_loop {ns : List Int} (hn : ns.length ≤ 63) {A : List Int} (h1 : 1 ≤ A.length) (h3 : A.length ≤ 3) (hA : 3 < ns.length → A.length = 3) :
    ∃ (A' : List Int) (s3 s4 s5 : Option Slot), cellF (eCl (.lst (ns.map .int)) A none none none) = some (.nx, eCl (.lst (ns.map .int)) A' s3 s4 s5) ∧ 1 ≤ A'.length ∧ A'.length ≤ 3 := by
  have hcut : dCut (.lst (ns.map .int)) (some 3) (some 63) = some (true, .lst (DL.cutD (ns.map Dat.int) (some 3) (some 63))) := rfl
  have hit : iEnumD (eOne (eCut (eVar 0) (oInt (eVar 1)) (oInt (eCon (.int 63))))) (eCl (.lst (ns.map .int)) A none none none) = some (numbered 0 (DL.cutD (ns.map Dat.int) (some 3) (some 63)), eCl (.lst (ns.map .int)) A none none none) := by
    unfold iEnumD
    generalize DL.cutD (ns.map Dat.int) (some 3) (some 63) = es at hcut
    generalize ns.map Dat.int = ds at hcut
    simp [hcut]
  unfold cellF
  rw [a_sfor, hit, at_some]
  by_cases hs : ns.length ≤ 3
  · rw [cut_b _ (by simpa using hs)]
    exact ⟨A, none, none, none, rfl, h1, h3⟩
  · obtain ⟨e3, hloop, A', s3, s4, s5, rfl, hl, _⟩ := loop_inv (g := gTupD 2 (gConsD (gPut 3) (gConsD (gPut 4) gNilD))) (body := cellB)
      (fun i env => ∃ (A' : List Int) (s3 s4 s5 : Option Slot), env = eCl (.lst (ns.map .int)) A' s3 s4 s5 ∧ A'.length = 3 ∧ nm s3 ∧ nm s4 ∧ nm s5)
      (numbered 0 (DL.cutD (ns.map Dat.int) (some 3) (some 63))) 0 (eCl (.lst (ns.map .int)) A none none none) ⟨A, none, none, none, rfl, hA (by omega), rfl, rfl, rfl⟩ fun j x env hx ⟨A', s3, s4, s5, he, hl, n3, n4, n5⟩ => by
        subst he
        rw [numbered_get] at hx
        obtain ⟨y, hy, rfl⟩ := Option.map_eq_some_iff.mp hx
        have hj : j < (DL.cutD (ns.map Dat.int) (some 3) (some 63)).length := (List.getElem?_eq_some_iff.mp hy).1
        have hcl := cut_len (ns.map Dat.int) (some 3) (some 63)
        rw [List.length_map] at hcl
        obtain ⟨c, rfl⟩ := cut_c (List.mem_of_getElem? hy)
        rw [show 0 + j = j by omega]
        obtain ⟨A2, e2, hl2⟩ := cell_step (s := .lst (ns.map .int)) (A := A') (j := j) (c := c) (by omega) hl n5
        exact ⟨_, _, cell_put _ _ n3 n4, e2, A2, _, _, _, rfl, hl2, rfl, rfl, rfl⟩
    exact ⟨A', s3, s4, s5, hloop, by omega, by omega⟩
theorem cells_ok {ns : List Int} (hn : ns.length ≤ 63) : ∃ A : List Int, F_L_cells [some (.val (.lst (ns.map .int))), some (.val (.int 3))] = some (.new (.lst (A.map .int)), [some (.val (.lst (ns.map .int))), some (.val (.int 3))]) ∧ 1 ≤ A.length ∧ A.length ≤ 3 := by
  obtain ⟨A, e1, h1, h3, hA⟩ := cells_start ns
  obtain ⟨A', s3, s4, s5, e2, k1, k3⟩ := cells_loop hn h1 h3 hA
  refine ⟨A', ?_, k1, k3⟩
  show runF 6 2 fb_L_cells _ = _
  rw [a_run, if_pos ⟨rfl, rfl⟩]
  have eb : fb_L_cells [some (.val (.lst (ns.map .int))), some (.val (.int 3)), none, none, none, none] = some (.rt (.bor 2), eCl (.lst (ns.map .int)) A' s3 s4 s5) := by
    rw [fb_cells]
    exact (seq_nx e1).trans ((seq_nx e2).trans rfl)
  show andThen (fb_L_cells [some (.val (.lst (ns.map .int))), some (.val (.int 3)), none, none, none, none]) _ = _
  rw [eb, at_some]
  rfl
end Prg
/-! The law answers True. -/
namespace Prg
open PySem PySem.Spec L2 DL
open PyProof.Rows hiding St
def oneE : EM DL.R := (eCallM F_L_right (eOne (eCallV F_L_box (eCons (eVar 1) (eOne (eVar 2))))))
def compE : EM DL.R := eLc (iRange (eOne (eOpN dLen (eOne (eVar 1))))) (gPut 2) (eRet true) oneE [2]
def tailE : EM DL.O := sRet (eOpN dAll (eOne compE))
theorem one_ok {x0 : Option Slot} {A : List Int} (hA : A.length ≤ 100) {k : Nat} (hk : k < A.length) {s1 : Slot} (h1 : s1 = .own (.lst (A.map .int)) ∨ s1 = .val (.lst (A.map .int))) :
    oneE [x0, some s1, some (.val (.int k))] = some (.val (.bl true), [x0, some (.val (.lst (A.map .int))), some (.val (.int k))]) := by
  obtain ⟨d, e1, hb⟩ := box_ok hk hA
  obtain ⟨d', e2⟩ := right_ok hb
  unfold oneE
  rcases h1 with rfl | rfl <;> simp [e1, e2]
theorem law_loop {x0 : Option Slot} {A : List Int} (hA : A.length ≤ 100) : ∀ (ds acc : List Dat) (s1 : Slot), (∀ x ∈ ds, ∃ k : Nat, k < A.length ∧ x = .int k) → (s1 = .own (.lst (A.map .int)) ∨ s1 = .val (.lst (A.map .int))) → acc.length + ds.length ≤ 1000 →
    ∃ s1', loopC (gPut 2) (eRet true) oneE [2] ds acc [x0, some s1, none] = some (acc ++ ds.map (fun _ => Dat.bl true), [x0, s1', none])
  | [], acc, s1, _, _, _ => ⟨some s1, by show some (acc, _) = _; simp⟩
  | x :: ds, acc, s1, hx, h1, hl => by
    obtain ⟨k, hk, rfl⟩ := hx x (by simp)
    obtain ⟨s1', ih⟩ := law_loop hA ds (acc ++ [Dat.bl true]) (.val (.lst (A.map .int))) (fun y hy => hx y (by simp [hy])) (.inr rfl) (by simp at hl ⊢; omega)
    refine ⟨s1', ?_⟩
    have hp : gPut 2 (.int (k : Int)) [x0, some s1, none] = some ((), [x0, some s1, some (.val (.int (k : Int)))]) := rfl
    have hw : eWipe [2] [x0, some (.val (.lst (A.map .int))), some (.val (.int (k : Int)))] = some ((), [x0, some (.val (.lst (A.map .int))), none]) := rfl
    have ha : acc.length < 100000 := by simp at hl; omega
    show eBind (gPut 2 (.int (k : Int))) _ _ = _
    rw [a_bind, hp, at_some, a_bind, a_ret, at_some, if_pos rfl, a_bind, one_ok hA hk h1, at_some, a_bind, f_val, at_some, a_bind, hw, at_some, if_pos ha, ih, List.append_assoc]
    rfl
theorem tail_ok {x0 : Option Slot} {A : List Int} (hA : A.length ≤ 100) : ∃ s1', tailE [x0, some (.own (.lst (A.map .int))), none] = some (.rt (.val (.bl true)), [x0, s1', none]) := by
  have hr : iRange (eOne (eOpN dLen (eOne (eVar 1)))) [x0, some (.own (.lst (A.map .int))), none] = some (rngD 0 A.length, [x0, some (.own (.lst (A.map .int))), none]) := by
    have hlen : eOpN dLen (eOne (eVar 1)) [x0, some (.own (.lst (A.map .int))), none] = some (.val (.int A.length), [x0, some (.own (.lst (A.map .int))), none]) := by simp [dLen]
    rw [a_irange, a_one, hlen, at_some, at_some, ls_cons, a_look, l_val, we_some, at_some, ls_nil, at_some, at_some]
    have := rangeO_e (A.length : Int) [x0, some (.own (.lst (A.map .int))), none] (by constructor <;> omega)
    rw [show (A.length : Int).toNat = A.length by omega] at this
    exact this
  have hrl : (rngD 0 A.length).length = A.length := by simp [rngD]
  obtain ⟨s1', el⟩ := law_loop (x0 := x0) (A := A) (by omega) (rngD 0 A.length) [] (.own (.lst (A.map .int))) (fun x hx => by
    obtain ⟨i, hi⟩ :=
        List.mem_iff_getElem?.mp hx
    obtain ⟨rfl, hi2⟩ := rngD_get hi
    exact ⟨i, hi2, rfl⟩) (.inl rfl) (by rw [hrl]; simp; omega)
  have ec : compE [x0, some (.own (.lst (A.map .int))), none] = some (.new (.lst ((rngD 0 A.length).map fun _ => Dat.bl true)), [x0, s1', none]) := by
    unfold compE eLc
    rw [a_bind, hr, at_some, if_pos (show freeAt [2] [x0, some (Slot.own (.lst (A.map .int))), none] = true from rfl), a_bind, el, at_some]
    rfl
  have hall := all_map (fun _ => true) (rngD 0 A.length)
  rw [List.all_eq_true.mpr (fun _ _ => rfl)] at hall
  refine ⟨s1', ?_⟩
  unfold tailE
  rw [a_sret, a_opN, a_one, ec, at_some, at_some, ls_cons, a_look, l_new, we_some, at_some, ls_nil, at_some, at_some, hall]
  rfl
end Prg
/-! The cells of the script by hand (the script is the caller's), then the law. -/
namespace Prg
open PySem PySem.Spec L2
open PyProof.Rows hiding St
namespace Cl
/-- a loop over enumerate(a list) -/
theorem for_enum {K : PySem.W.Frag} {a : Addr} {xs : List V} {g : TG} {tb : TS} {D : Ends} {σ : L2.St} {H : Hp} (Pv : Nat → L2.St → Hp → Prop) (h0 : Pv 0 σ H) (hl : ∀ i σ H, i ≤ xs.length → Pv i σ H → SqL K H a xs)
    (hs : ∀ i x T σ H, xs[i]? = some x → Pv i σ H → H T = none → g (.ref T) σ (upd H T (.tup [.int (i : Nat), x])) fun σ2 H2 => tb { D with nx := Pv (i + 1), ct := Pv (i + 1), bk := D.nx } σ2 H2) (hd : ∀ σ H, Pv xs.length σ H → D.nx σ H) :
    ∃ W : Nat → Nat → L2.St → Hp → Prop,
        (∃ m, W 0 m σ H) ∧ ∀ i m σ H, W i m σ H →
      ((Ite K a).stop i H ∧ D.nx σ H) ∨ ((Ite K a).go i H ∧ ∃ N : L2.St → Hp → Prop, (∀ σ' H', N σ' H' → ∃ m', m' < m ∧ W (i + 1) m' σ' H') ∧ ∀ x H', (Ite K a).yld i H x H' → g x σ H' fun σ2 H2 => tb { D with nx := N, ct := N, bk := D.nx } σ2 H2) := by
  refine ⟨fun i m σ H => m = xs.length - i ∧ i ≤ xs.length ∧ Pv i σ H,
      ⟨xs.length, by simp, Nat.zero_le _, h0⟩, ?_⟩
  rintro i m σ H ⟨rfl, hi, p⟩
  have q := hl i σ H hi p
  by_cases hlt : i < xs.length
  · refine .inr ⟨⟨xs, xs[i], q,
        by simp [hlt]⟩, Pv (i + 1), fun σ' H' p' => ⟨xs.length - (i + 1), by omega, rfl, hlt, p'⟩, fun x H' y => ?_⟩
    obtain ⟨T, z, rfl, hT, rfl, y⟩ := y
    exact hs i z T σ H (y xs q) p hT
  · have e : i = xs.length :=
        by omega
    subst e
    exact .inl ⟨⟨xs, q,
        Nat.le_refl _⟩, hd σ H p⟩
def spCells (K : PySem.W.Frag) : Sp := fun vs H Q _ => ∃ (a : Addr) (ns : List Int) (m : Nat), vs = [.ref a, .int (m : Int)] ∧ SqL K H a (ns.map V.int) ∧ ns.length ≤ 63 ∧ 0 < m ∧ m ≤ 10 ∧
  ∀ (l : Addr) (cs : List Int) (H' : Hp), cs.length ≤ m → H l = none → H' l = some (.lst (cs.map V.int)) → Same H H' → Q (.ref l) H'
/-- what follows the first row of _law_cells -/
def tCR (K : PySem.W.Frag) : TS := tSeq (tFor (iEnum K (tCons (tSl (rSlL K) (tVar 0) (tPart (tVar 1)) (tPart (L2.tC (.int 63)))) tNil)) (gTup K 2 (gCons (gName 3) (gCons (gName 4) gNil)))
  (tSeq (tAsg (tOp (rI (fun _ j => 0 < j) fun i j => .int (i % j)) (tCB (fun xs H Q => (∃ i, xs = [.int i] ∧ Q (.int i) H) ∨ ∃ k, xs = [.bl k] ∧ Q (.int (if k = true then 1 else 0)) H) (tCons (tVar 3) tNil)) (tVar 1)) (gName 5))
    (tAsg (tOp (rI0 fun i j => .int (i + j)) (tOp (rIxL K) (tVar 2) (tVar 5)) (tOp (rI CMul fun i j => .int (i * j)) (tVar 4) (tOp (rI0 fun i j => .int (i + j)) (tVar 3) (L2.tC (.int 2))))) (gSub (tVar 2) (tVar 5) rSetL)))) (tRet (tVar 2))
theorem cut_first (ns : List Int) (m : Nat) : ∃ cs : List Int, cutV (ns.map V.int) none (some (m : Int)) = cs.map V.int ∧ cs.length ≤ m ∧ (m < ns.length → cs.length = m) ∧ (0 < m → cs = [] → ns = []) := by
  refine ⟨ns.take (min m ns.length), ?_, ?_, fun h => ?_, fun h e => ?_⟩
  · unfold cutV
    rw [HT.sIx_nat, HT.sIx_none, List.drop_zero, Nat.sub_zero, List.length_map, List.map_take]
  · rw [List.length_take]
    omega
  · rw [List.length_take]
    omega
  · have z : (ns.take (min m ns.length)).length = 0 := by rw [e]; rfl
    rw [List.length_take] at z
    exact List.eq_nil_of_length_eq_zero (by omega)
theorem cut_rest (ns : List Int) (m : Nat) : ∃ zs : List Int, cutV (ns.map V.int) (some (m : Int)) (some (63 : Int)) = zs.map V.int ∧ (zs ≠ [] → m < ns.length) ∧ zs.length ≤ ns.length := by
  have h63 : (63 : Int) = ((63 : Nat) : Int) := rfl
  refine ⟨(ns.drop (min m ns.length)).take (min 63 ns.length - min m ns.length), ?_, fun h => ?_, ?_⟩
  · unfold cutV
    rw [h63, HT.sIx_nat, HT.sIx_nat, List.length_map, List.map_take, List.map_drop]
  · by_cases q : m < ns.length
    · exact q
    · exfalso
      apply h
      apply
          List.eq_nil_of_length_eq_zero
      rw [List.length_take,
          List.length_drop]
      omega
  · rw [List.length_take, List.length_drop]
    omega
theorem Same.upd {q : Addr} {H H' : Hp} {o : HO} (h : Same H H') (hq : H' q = none) : Same H (L2.upd H' q o) := fun b u e => by
  have z := h b u e
  rw [upd_ne (ne_of_none z hq)]
  exact z
theorem Same.put {q : Addr} {H H' : Hp} {o : HO} (h : Same H H') (hq : H q = none) : Same H (L2.upd H' q o) := fun b u e => by
  rw [upd_ne (ne_of_none e hq)]
  exact h b u e
section
variable {P : Program} {w : World} {K : PySem.W.Frag}
    {mg : Str → Option Value} {base : Heap}
theorem ok_cells {f : Addr} {fd : FuncData} (F : FnP K "_law_cells" s_L_cells f fd) (mInt : mg "int" = none) (mList : mg "list" = none) (mEnum : mg "enumerate" = none) : FnOk P w K mg base CX0 1 f fd ["_law_script", "_law_most_so"] (spCells K) := by
  refine F.ok sc_L_cells (fun vs H Q E h => ?_) (fun cdv A outer s H vs Q E hr h => ?_)
  · obtain ⟨a, ns, m, rfl, _⟩ := h
    rfl
  · obtain ⟨a, ns, m, rfl, hS, hl, hm0, hm, k⟩ := h
    refine ⟨_, PSs.nox (pss_cons (ps_set (i := 2) sc_L_cells.nd rfl (.inl rfl) (pe_orT (pe_callTy call_list_of (by rfl) mList (by decide +kernel) (pa_cons (pe_slice sl_list (pv 0) po_none (po_some (pv 1))) pa_nil)) (pe_one (pe_lst (pa_cons pe_int pa_nil)))))
      (pss_cons (ps_for PassesOwn.never rfl (pi_enum (by rfl) mEnum (pa_cons (pe_slice sl_list (pv 0) (po_some (pv 1)) (po_some pe_int)) pa_nil)) (pg_tup rfl (pgs_cons (pg_name (i := 3) sc_L_cells.nd rfl (.inl rfl)) (pgs_cons (pg_name (i := 4) sc_L_cells.nd rfl (.inl rfl)) pgs_nil)))
        (pss_cons (ps_set (i := 5) sc_L_cells.nd rfl (.inl rfl) (pe_op op_mod (pe_callTy call_int1 (by rfl) mInt (by decide +kernel) (pa_cons (pv 3) pa_nil)) (pv 1)))
        (pss_one (ps_asg (pe_op op_add (pe_ix ix_list (pv 2) (pv 5) (fun _ _ => rfl)) (pe_op op_mul (pv 4) (pe_op op_add (pv 3) pe_int))) (pg_sub (pv 2) (pv 5) set_list)))))
      (pss_one (ps_ret (pv 2))))), ?_⟩
    obtain ⟨cs1, ec1, lc1, fc1, z1⟩ := cut_first ns m
    obtain ⟨zs, ez, fz, lz⟩ := cut_rest ns m
    refine ⟨_, rfl, _, rfl, _, rfl, a, _, rfl, hS, fun p1 hp1 => ?_⟩
    refine ⟨p1, _, rfl, .inl (SqL.of upd_same), fun l1 hl1 => ?_⟩
    have s1 : Same H (L2.upd H p1 (.lst (cutV (ns.map V.int) none (some (m : Int))))) := Same.upd (Same.refl H) hp1
    have s2 : Same H (L2.upd (L2.upd H p1 (.lst (cutV (ns.map V.int) none (some (m : Int))))) l1 (.lst (cutV (ns.map V.int) none (some (m : Int))))) := Same.upd s1 hl1
    have f1 : H l1 = none := s1.free hl1
    refine ⟨_, .inl ⟨_, SqL.of upd_same, rfl⟩, ?_⟩
    have rest : ∀ (l : Addr) (cs : List Int) (H1 : Hp), cs.length ≤ m → (m < ns.length → cs.length = m) → H l = none → H1 l = some (.lst (cs.map V.int)) → Same H H1 →
        tCR K { nx := fun _ H' => Q .non H', rt := Q } [some (.ref a), some (.int (m : Int)), some (.ref l), none, none, none] H1 := by
      intro l cs H1 hc hf fl hl1 sm
      refine ⟨_, rfl, _, rfl, _, rfl, _, rfl, a, _, rfl, sm.seq hS, fun p3 hp3 => ⟨p3, _, rfl, SqL.of upd_same, ?_⟩⟩
      rw [ez]
      have n3l : p3 ≠ l := fun e => by
        rw [e, hl1] at hp3
        cases hp3
      refine for_enum (xs := zs.map V.int) (fun i σ H2 => ∃ (cs2 : List Int) (o1 o2 o3 : Option V), σ = [some (.ref a), some (.int (m : Int)), some (.ref l), o1, o2, o3] ∧ cs2.length = cs.length ∧ H2 l = some (.lst (cs2.map V.int)) ∧ H2 p3 = some (.lst (zs.map V.int)) ∧ Same H H2) ?_ ?_ ?_ ?_
      · exact ⟨cs, none, none, none, rfl, rfl, by rw [upd_ne (Ne.symm n3l)]; exact hl1, upd_same, Same.upd sm hp3⟩
      · rintro i σ H2 hi ⟨cs2, o1, o2, o3, rfl, e2, hl2, hp2, s2'⟩
        exact SqL.of hp2
      · rintro i x T σ H2 hx ⟨cs2, o1, o2, o3, rfl, e2, hl2, hp2, s2'⟩ hT
        have hi : i < zs.length := by
          have := (List.getElem?_eq_some_iff.mp hx).1
          rw [List.length_map] at this
          exact this
        obtain ⟨zv, rfl⟩ : ∃ zv : Int, x = .int zv := by
          rw [List.getElem?_map, List.getElem?_eq_getElem hi] at hx
          exact ⟨_, (Option.some.inj hx).symm⟩
        have hm' : cs2.length = m := by
          rw [e2]
          exact hf (fz fun e => by rw [e] at hi; exact absurd hi (Nat.not_lt_zero _))
        have nTl : T ≠ l := fun e => by
          rw [e, hl2] at hT
          cases hT
        have nT3 : T ≠ p3 := fun e => by
          rw [e, hp2] at hT
          cases hT
        refine ⟨T, _, rfl, SqT.of upd_same, rfl, _, _, rfl, _, _, rfl, rfl, ?_⟩
        have hl3 : (L2.upd H2 T (.tup [.int (i : Nat), .int zv])) l = some (.lst (cs2.map V.int)) := by
          rw [upd_ne (Ne.symm nTl)]
          exact hl2
        refine ⟨_, rfl, .inl ⟨_, rfl, _, rfl, _, _, rfl, rfl, (by show (0 : Int) < (m : Int); omega), ?_⟩⟩
        have hj : i % m < cs2.length := by
          rw [hm']
          exact Nat.mod_lt _ hm0
        have ej : ((i : Int) % (m : Int)) = ((i % m : Nat) : Int) := by omega
        have hat : atI (cs2.map V.int) ((i : Int) % (m : Int)) = some (.int cs2[i % m]) := by
          rw [ej]
          exact atI_nat (by rw [List.getElem?_map, List.getElem?_eq_getElem hj]; rfl)
        have hix : ixN (cs2.map V.int).length ((i : Int) % (m : Int)) = some (i % m) := by
          unfold ixN
          rw [ej, List.length_map, if_pos (by omega), if_pos (by omega)]
          exact congrArg some (Int.toNat_natCast _)
        refine ⟨_, rfl, _, rfl, l, _, _, _, rfl, rfl, SqL.of hl3, hat, _, rfl, _, rfl, _, _, rfl, rfl, _, _, rfl, rfl, .inr ⟨by omega, by omega⟩, _, _, rfl, rfl, _, rfl, _, rfl, l, _, _, i % m, rfl, rfl, hl3, hix, ?_⟩
        refine ⟨cs2.set (i % m) (cs2[i % m] + zv * ((i : Int) + 2)), _, _, _, rfl, by rw [List.length_set]; exact e2, by rw [upd_same, List.map_set], by rw [upd_ne (Ne.symm n3l).symm, upd_ne (Ne.symm nT3)]; exact hp2, ?_⟩
        exact Same.put (Same.upd s2' hT) fl
      · rintro σ H2 ⟨cs2, o1, o2, o3, rfl, e2, hl2, hp2, s2'⟩
        exact ⟨_, rfl, k l cs2 H2 (by omega) fl hl2 s2'⟩
    refine ite2 (fun c =>
        ?_) (fun c => ?_)
    · exact rest l1 cs1 _ lc1 fc1 f1 (by rw [upd_same, ec1]) s2
    · have en : ns = [] := by
        rw [ec1] at c
        refine z1 hm0 ?_
        cases cs1 with
        | nil => rfl
        | cons z r => exact absurd rfl c
      refine ⟨by show 1 ≤ sizeLine; decide, fun l2 hl2 => ?_⟩
      exact rest l2 [0] _ (by show 1 ≤ m; omega) (fun h => by rw [en] at h; exact absurd h (Nat.not_lt_zero _)) (s2.free hl2) upd_same (Same.upd s2 hl2)
end
/-! ### the law -/
open DL
section
variable {P : Program} {w : World} {K : PySem.W.Frag}
    {mg : Str → Option Value} {base : Heap}
def spLaw (K : PySem.W.Frag) : Sp := fun vs H Q _ => ∃ (a : Addr) (ns : List Int),
    vs = [.ref a] ∧ SqL K H a (ns.map V.int) ∧ ns.length ≤ 63 ∧ ∀ H', Q (.bl true) H'
theorem ints_ds {p : Addr → Prop} {H : Hp} : ∀ cs : List Int, IsDs mg p H (cs.map Dat.int) (cs.map V.int)
  | [] => .nil
  | c :: cs => .cons .int (ints_ds cs)
theorem rel_tail {a l : Addr} {cs : List Int} {H : Hp} (h : H l = some (.lst (cs.map V.int))) : Rel mg (fun _ => False) [none, some (.own (.lst (cs.map .int))), none] [some (.ref a), some (.ref l), none] H where
  len := rfl
  val := fun i d e => by
    rcases i with _ | _ | _ | i <;> simp at e
  wr := fun i s e ws => by
    rcases i with _ | _ | _ | i <;> simp at e
    subst e
    exact ⟨l, rfl, fun z => z, _, h, ints_ds cs⟩
  inj := fun i j s t b e _ f _ _ _ => by
    rcases i with _ | _ | _ | i <;> simp at e
    rcases j with _ | _ | _ | j <;> simp at f
    rfl
  qin := fun _ z => z.elim
theorem ok_lawH {fC f : Addr} {fdC fd : FuncData} (FC : FnP K "_law_cells" s_L_cells fC fdC) (mC : mg "_law_cells" = some (.ref fC)) (G_L_right : Fnk P w K mg base "_law_right" 69 1 F_L_right) (G_L_box : Fnk P w K mg base "_law_box" 1 2 F_L_box) (M : MgB mg) (F : FnP K "law" s_law f fd) : FnOk P w K mg base CX0 70 f fd ["_law_script"] (spLaw K) := by
  have GC := ok_cells (P := P) (w := w) (base := base) FC M.int M.list M.enumerate
  have bC : Binds K fdC ["_law_script", "_law_most_so"] [] := FC.bindsN fun _ _ _ _ _ _ us hl => match us, hl with | [_, _], _ => rfl
  refine F.ok sc_law (fun vs H Q _ h => ?_) (fun cdv A outer s H vs Q _ hr h => ?_)
  · obtain ⟨a, ns, rfl, _⟩ := h
    rfl
  · obtain ⟨a, ns, rfl, hS, hl, k⟩ := h
    have hr1 : Room 1 _ :=
        hr.mono (by decide)
    refine ⟨_, PSs.nox (pss_cons (ps_set (i := 1) sc_law.nd rfl (Or.inr rfl) (pe_call GC hr1 rfl mC FC.kp bC .nil pass0 (pa_cons (pv 0) (pa_cons pe_int pa_nil))))
      ((ds_one (ds_ret (dB (r_all rfl) M.all (dl (d_lc (own := [("_law_k", 2)]) rfl sc_law.nd (di_range rfl M.range (dl (dB r_len M.len (dl (dv 1)) (hv := bt_len)))) (blkOk_by (own := [("_law_k", 2)]) (N := ["_law_script", "_law_cells_here", "_law_k"]) (sc := defScope s_law) (by decide +kernel)) (by decide) (fun _ _ _ _ _ => (dg_name (i := 2) sc_law.nd rfl (by first | exact Or.inl rfl | exact Or.inr rfl) (by first | exact Or.inl rfl | exact Or.inr rfl))) (fun _ _ _ _ _ => dts_nil) (fun _ _ _ _ _ => (dcallM G_L_right hr (dl (dcall G_L_box hr (dc (dv 1) (dl (dv 2))))))))) (hv := bt_all)))))), ?_⟩
    refine ⟨_, rfl, a, ns, 3, rfl, hS, hl, by decide, by decide, fun l cs H1 hc hl1 h1 s1 => ?_⟩
    obtain ⟨s1', et⟩ := tail_ok (x0 := none) (A := cs) (by omega)
    exact ⟨_, _, _, _, rel_tail h1, et, fun v σ' H' _ _ i1 => by
      cases i1
      exact k H'⟩
end
end Cl
end Prg
/-! What the top leaves: defs by their names, the static method by its class. -/
namespace Prg
open PySem PySem.Spec L2 DL
open PyProof.Rows hiding St
namespace Hd
/-- the class of the books, its static method -/
def kC (K : PySem.W.Frag) : Addr := He.ga K "Book"
def kM (K : PySem.W.Frag) : Addr := He5.wf K (kC K) "staticmethod" "is_kind"
def clB (K : PySem.W.Frag) : Bool := PySem.W.readsIn K (kC K) (.type "type") && (He.eqO (PySem.W.specialIn K (.ref (kC K)) "__getattribute__") (some (some (.builtin "type.__getattribute__"))) && He5.wrapB K (kC K) "staticmethod" "staticmethod.__get__" "is_kind")
def hookS (n : Nat) (fa : List He.Fa) (fn : List He5.DefA) (ex : PySem.W.Frag → Bool) : PySem.W.Hook where
  α := He.AlD × Bool
  obs := fun s => (He5.obsAG n fa fn s.heap.get?, ex (He.frG s.heap.get? (He5.asA s.heap.get? n)))
  val := fun _ => (He5.valA fn, true)
  says := fun _ h => ∃ K : PySem.W.Frag, K.In h ∧ He5.SaysA fa fn K ∧ ex K = true
  of := fun _ _ e => ⟨_, He.frG_in, congrArg (fun z : He.AlD × Bool => z.1) e, congrArg (fun z : He.AlD × Bool => z.2) e⟩
  keeps := fun _ _ _ ⟨K, hK, c⟩ k =>
      ⟨K, PySem.W.Frag.In.keeps hK k, c⟩
def dF (x : Str) (st : Stmt) : He5.DefA := ⟨fun K => He.ga K x, x, x, defArgs st, defBody st, defScope st, [], []⟩
def dS : He5.DefA := ⟨kM, "is_kind", "Book.is_kind", defArgs s_Book_is_kind, defBody s_Book_is_kind, defScope s_Book_is_kind, [], []⟩
def fnA : List He5.DefA := dS :: [dF "is_number" s_is_number, dF "is_name" s_is_name, dF "are_names" s_are_names, dF "are_parameters" s_are_parameters, dF "is_term" s_is_term, dF "is_tested" s_is_tested, dF "is_new_name" s_is_new_name, dF "are_record_terms" s_are_record_terms, dF "is_change" s_is_change, dF "is_say" s_is_say, dF "divided" s_divided, dF "is_head" s_is_head, dF "inner_scopes" s_inner_scopes, dF "is_body" s_is_body, dF "is_kind_for" s_is_kind_for, dF "_law_box" s_L_box, dF "_law_take" s_L_take, dF "_law_cells" s_L_cells, dF "_law_of" s_L_of, dF "_law_lists" s_L_lists, dF "_law_is_number" s_L_is_number, dF "_law_same" s_L_same, dF "_law_names" s_L_names, dF "_law_say" s_L_say, dF "_law_body" s_L_body, dF "_law_kind" s_L_kind, dF "_law_is_name" s_L_is_name, dF "_law_is_term" s_L_is_term, dF "_law_is_change" s_L_is_change, dF "_law_is_say" s_L_is_say, dF "_law_is_body" s_L_is_body, dF "_law_is_kind" s_L_is_kind, dF "_law_odd" s_L_odd, dF "_law_bent" s_L_bent, dF "_law_by_hand_right" s_L_by_hand_right, dF "_law_right" s_L_right, dF "law" s_law]
def faG : List He.Fa := .glo "Book" :: [.glo "is_number", .glo "is_name", .glo "are_names", .glo "are_parameters", .glo "is_term", .glo "is_tested", .glo "is_new_name", .glo "are_record_terms", .glo "is_change", .glo "is_say", .glo "divided", .glo "is_head", .glo "inner_scopes", .glo "is_body", .glo "is_kind_for", .glo "_law_box", .glo "_law_take", .glo "_law_cells", .glo "_law_of", .glo "_law_lists", .glo "_law_is_number", .glo "_law_same", .glo "_law_names", .glo "_law_say", .glo "_law_body", .glo "_law_kind", .glo "_law_is_name", .glo "_law_is_term", .glo "_law_is_change", .glo "_law_is_say", .glo "_law_is_body", .glo "_law_is_kind", .glo "_law_odd", .glo "_law_bent", .glo "_law_by_hand_right", .glo "_law_right", .glo "law"]
def faF : List He.Fa := [.free "isinstance", .free "list", .free "tuple", .free "dict", .free "int", .free "bool", .free "str", .free "len", .free "all", .free "any", .free "zip", .free "set", .free "enumerate", .free "range", .free "abs"]
def faA : List He.Fa := faG ++ faF
abbrev R : PySem.W.OpenRow := PySem.W.OpenLaw.row PySem.Challenge.rw_stillgood_k00_kinds_or_none
abbrev hk : PySem.W.Hook := hookS 6 faA fnA clB
def ob (s : PySem.W.SharedT) : He.AlD × Bool := (He5.obsAG 6 faA fnA (HandSHeadRun.getT s), clB (He.frG (HandSHeadRun.getT s) (He5.asA (HandSHeadRun.getT s) 6)))
theorem ob_eq (s : PySem.W.SharedT) : ob s = hk.obs s.abs := by
  unfold ob
  rw [show HandSHeadRun.getT s = s.abs.heap.get? from funext (HandSHeadRun.getT_eq s)]
  rfl
def looseA : List Str := ["_wall", "is_number", "is_name", "are_names", "tupled", "NoKind", "BadFields", "BadKind", "Twice", "Unlike", "are_fields", "is_kind_for", "are_parameters", "is_body", "is_say", "divided", "is_head", "inner_scopes", "is_term", "is_tested", "is_new_name", "is_change", "are_record_terms", "Book"]
def looseB : List Str := ["checked_fields", "checked_kinds", "by_name", "joined", "_law_box", "_law_take", "_law_cells", "_law_of", "_law_lists", "_law_same", "_law_is_number", "_law_names", "_law_say", "_law_body", "_law_kind", "_law_is_name", "_law_is_term", "_law_is_change", "_law_is_say", "_law_is_body", "_law_is_kind", "_law_odd", "_law_bent", "_law_by_hand_right", "_law_right"]
def loose : List Str := looseA ++ looseB
theorem run (w : World) : HandSHeadRun.RunEq R (PySem.W.view R.prog [54]) hk ob 9000 loose w := by
  intro os
  kernel_rfl
end Hd
end Prg
/-! The end. -/
namespace Prg
open PySem PySem.Spec L2 DL
open PyProof.Rows hiding St
namespace Hd
theorem mgb_of {K : PySem.W.Frag} {h : Heap} {mg : Str → Option Value} (X : K.In h) (G : h.Ns mainGlobals mg) (c : He5.SaysA faA fnA K) : MgB mg where
  isinstance := He.free_ok X G (c.fact 38 (f := .free "isinstance") rfl)
  list := He.free_ok X G (c.fact 39 (f := .free "list") rfl)
  tuple := He.free_ok X G (c.fact 40 (f := .free "tuple") rfl)
  dict := He.free_ok X G (c.fact 41 (f := .free "dict") rfl)
  int := He.free_ok X G (c.fact 42 (f := .free "int") rfl)
  bool := He.free_ok X G (c.fact 43 (f := .free "bool") rfl)
  str := He.free_ok X G (c.fact 44 (f := .free "str") rfl)
  len := He.free_ok X G (c.fact 45 (f := .free "len") rfl)
  all := He.free_ok X G (c.fact 46 (f := .free "all") rfl)
  any := He.free_ok X G (c.fact 47 (f := .free "any") rfl)
  zip := He.free_ok X G (c.fact 48 (f := .free "zip") rfl)
  set := He.free_ok X G (c.fact 49 (f := .free "set") rfl)
  enumerate := He.free_ok X G (c.fact 50 (f := .free "enumerate") rfl)
  range := He.free_ok X G (c.fact 51 (f := .free "range") rfl)
  abs := He.free_ok X G (c.fact 52 (f := .free "abs") rfl)
theorem facts {P : Program} {w : World} {K : PySem.W.Frag} {h : Heap} {mg : Str → Option Value} {f : Addr} (X : K.In h) (G : h.Ns mainGlobals mg) (hfa : mg ("law" : Str) = some (.ref f)) (c : He5.SaysA faA fnA K) (e : clB K = true) :
    ∃ fd : FuncData, (∀ (s : Shared) (v : Value), BindsTo s fd ⟨[v], []⟩ [("_law_script", v)]) ∧ ∀ base : Heap, K.In base → base.Ns mainGlobals mg → FnOk P w K mg base CX0 70 f fd ["_law_script"] (Cl.spLaw K) := by
  have M := mgb_of X G c
  obtain ⟨e1, e⟩ := He.ba e
  obtain ⟨e2, e3⟩ := He.ba e
  obtain ⟨w1, w2⟩ := He5.wrapB_ok e3
  have rd : ClX.CRead K (kC K) (.type "type") := ⟨e1, He.eqO_ok e2⟩
  have sm : StM.SMet K (kC K) (.type "type") "is_kind" (He.ma K (kC K) "is_kind") (kM K) := ⟨w1, w2⟩
  have m_Book := He.glo_ok X G (c.fact 0 (f := .glo "Book") rfl)
  obtain ⟨fd_S, F_S⟩ := c.def_ 0 (d := dS) rfl
  obtain ⟨fd_is_number, D_is_number⟩ := c.def_ 1 (d := dF "is_number" s_is_number) rfl
  have m_is_number := He.glo_ok X G (c.fact 1 (f := .glo "is_number") rfl)
  obtain ⟨fd_is_name, D_is_name⟩ := c.def_ 2 (d := dF "is_name" s_is_name) rfl
  have m_is_name := He.glo_ok X G (c.fact 2 (f := .glo "is_name") rfl)
  obtain ⟨fd_are_names, D_are_names⟩ := c.def_ 3 (d := dF "are_names" s_are_names) rfl
  have m_are_names := He.glo_ok X G (c.fact 3 (f := .glo "are_names") rfl)
  obtain ⟨fd_are_parameters, D_are_parameters⟩ := c.def_ 4 (d := dF "are_parameters" s_are_parameters) rfl
  have m_are_parameters := He.glo_ok X G (c.fact 4 (f := .glo "are_parameters") rfl)
  obtain ⟨fd_is_term, D_is_term⟩ := c.def_ 5 (d := dF "is_term" s_is_term) rfl
  have m_is_term := He.glo_ok X G (c.fact 5 (f := .glo "is_term") rfl)
  obtain ⟨fd_is_tested, D_is_tested⟩ := c.def_ 6 (d := dF "is_tested" s_is_tested) rfl
  have m_is_tested := He.glo_ok X G (c.fact 6 (f := .glo "is_tested") rfl)
  obtain ⟨fd_is_new_name, D_is_new_name⟩ := c.def_ 7 (d := dF "is_new_name" s_is_new_name) rfl
  have m_is_new_name := He.glo_ok X G (c.fact 7 (f := .glo "is_new_name") rfl)
  obtain ⟨fd_are_record_terms, D_are_record_terms⟩ := c.def_ 8 (d := dF "are_record_terms" s_are_record_terms) rfl
  have m_are_record_terms := He.glo_ok X G (c.fact 8 (f := .glo "are_record_terms") rfl)
  obtain ⟨fd_is_change, D_is_change⟩ := c.def_ 9 (d := dF "is_change" s_is_change) rfl
  have m_is_change := He.glo_ok X G (c.fact 9 (f := .glo "is_change") rfl)
  obtain ⟨fd_is_say, D_is_say⟩ := c.def_ 10 (d := dF "is_say" s_is_say) rfl
  have m_is_say := He.glo_ok X G (c.fact 10 (f := .glo "is_say") rfl)
  obtain ⟨fd_divided, D_divided⟩ := c.def_ 11 (d := dF "divided" s_divided) rfl
  have m_divided := He.glo_ok X G (c.fact 11 (f := .glo "divided") rfl)
  obtain ⟨fd_is_head, D_is_head⟩ := c.def_ 12 (d := dF "is_head" s_is_head) rfl
  have m_is_head := He.glo_ok X G (c.fact 12 (f := .glo "is_head") rfl)
  obtain ⟨fd_inner_scopes, D_inner_scopes⟩ := c.def_ 13 (d := dF "inner_scopes" s_inner_scopes) rfl
  have m_inner_scopes := He.glo_ok X G (c.fact 13 (f := .glo "inner_scopes") rfl)
  obtain ⟨fd_is_body, D_is_body⟩ := c.def_ 14 (d := dF "is_body" s_is_body) rfl
  have m_is_body := He.glo_ok X G (c.fact 14 (f := .glo "is_body") rfl)
  obtain ⟨fd_is_kind_for, D_is_kind_for⟩ := c.def_ 15 (d := dF "is_kind_for" s_is_kind_for) rfl
  have m_is_kind_for := He.glo_ok X G (c.fact 15 (f := .glo "is_kind_for") rfl)
  obtain ⟨fd_L_box, D_L_box⟩ := c.def_ 16 (d := dF "_law_box" s_L_box) rfl
  have m_L_box := He.glo_ok X G (c.fact 16 (f := .glo "_law_box") rfl)
  obtain ⟨fd_L_take, D_L_take⟩ := c.def_ 17 (d := dF "_law_take" s_L_take) rfl
  have m_L_take := He.glo_ok X G (c.fact 17 (f := .glo "_law_take") rfl)
  obtain ⟨fd_L_cells, D_L_cells⟩ := c.def_ 18 (d := dF "_law_cells" s_L_cells) rfl
  have m_L_cells := He.glo_ok X G (c.fact 18 (f := .glo "_law_cells") rfl)
  obtain ⟨fd_L_of, D_L_of⟩ := c.def_ 19 (d := dF "_law_of" s_L_of) rfl
  have m_L_of := He.glo_ok X G (c.fact 19 (f := .glo "_law_of") rfl)
  obtain ⟨fd_L_lists, D_L_lists⟩ := c.def_ 20 (d := dF "_law_lists" s_L_lists) rfl
  have m_L_lists := He.glo_ok X G (c.fact 20 (f := .glo "_law_lists") rfl)
  obtain ⟨fd_L_is_number, D_L_is_number⟩ := c.def_ 21 (d := dF "_law_is_number" s_L_is_number) rfl
  have m_L_is_number := He.glo_ok X G (c.fact 21 (f := .glo "_law_is_number") rfl)
  obtain ⟨fd_L_same, D_L_same⟩ := c.def_ 22 (d := dF "_law_same" s_L_same) rfl
  have m_L_same := He.glo_ok X G (c.fact 22 (f := .glo "_law_same") rfl)
  obtain ⟨fd_L_names, D_L_names⟩ := c.def_ 23 (d := dF "_law_names" s_L_names) rfl
  have m_L_names := He.glo_ok X G (c.fact 23 (f := .glo "_law_names") rfl)
  obtain ⟨fd_L_say, D_L_say⟩ := c.def_ 24 (d := dF "_law_say" s_L_say) rfl
  have m_L_say := He.glo_ok X G (c.fact 24 (f := .glo "_law_say") rfl)
  obtain ⟨fd_L_body, D_L_body⟩ := c.def_ 25 (d := dF "_law_body" s_L_body) rfl
  have m_L_body := He.glo_ok X G (c.fact 25 (f := .glo "_law_body") rfl)
  obtain ⟨fd_L_kind, D_L_kind⟩ := c.def_ 26 (d := dF "_law_kind" s_L_kind) rfl
  have m_L_kind := He.glo_ok X G (c.fact 26 (f := .glo "_law_kind") rfl)
  obtain ⟨fd_L_is_name, D_L_is_name⟩ := c.def_ 27 (d := dF "_law_is_name" s_L_is_name) rfl
  have m_L_is_name := He.glo_ok X G (c.fact 27 (f := .glo "_law_is_name") rfl)
  obtain ⟨fd_L_is_term, D_L_is_term⟩ := c.def_ 28 (d := dF "_law_is_term" s_L_is_term) rfl
  have m_L_is_term := He.glo_ok X G (c.fact 28 (f := .glo "_law_is_term") rfl)
  obtain ⟨fd_L_is_change, D_L_is_change⟩ := c.def_ 29 (d := dF "_law_is_change" s_L_is_change) rfl
  have m_L_is_change := He.glo_ok X G (c.fact 29 (f := .glo "_law_is_change") rfl)
  obtain ⟨fd_L_is_say, D_L_is_say⟩ := c.def_ 30 (d := dF "_law_is_say" s_L_is_say) rfl
  have m_L_is_say := He.glo_ok X G (c.fact 30 (f := .glo "_law_is_say") rfl)
  obtain ⟨fd_L_is_body, D_L_is_body⟩ := c.def_ 31 (d := dF "_law_is_body" s_L_is_body) rfl
  have m_L_is_body := He.glo_ok X G (c.fact 31 (f := .glo "_law_is_body") rfl)
  obtain ⟨fd_L_is_kind, D_L_is_kind⟩ := c.def_ 32 (d := dF "_law_is_kind" s_L_is_kind) rfl
  have m_L_is_kind := He.glo_ok X G (c.fact 32 (f := .glo "_law_is_kind") rfl)
  obtain ⟨fd_L_odd, D_L_odd⟩ := c.def_ 33 (d := dF "_law_odd" s_L_odd) rfl
  have m_L_odd := He.glo_ok X G (c.fact 33 (f := .glo "_law_odd") rfl)
  obtain ⟨fd_L_bent, D_L_bent⟩ := c.def_ 34 (d := dF "_law_bent" s_L_bent) rfl
  have m_L_bent := He.glo_ok X G (c.fact 34 (f := .glo "_law_bent") rfl)
  obtain ⟨fd_L_by_hand_right, D_L_by_hand_right⟩ := c.def_ 35 (d := dF "_law_by_hand_right" s_L_by_hand_right) rfl
  have m_L_by_hand_right := He.glo_ok X G (c.fact 35 (f := .glo "_law_by_hand_right") rfl)
  obtain ⟨fd_L_right, D_L_right⟩ := c.def_ 36 (d := dF "_law_right" s_L_right) rfl
  have m_L_right := He.glo_ok X G (c.fact 36 (f := .glo "_law_right") rfl)
  obtain ⟨fd_law, D_law⟩ := c.def_ 37 (d := dF "law" s_law) rfl
  have m_law := He.glo_ok X G (c.fact 37 (f := .glo "law") rfl)
  have e0 := hfa.symm.trans m_law
  cases e0
  have b := FunD.bindsA (ps := ["_law_script"]) D_law fun _ _ _ _ _ _ us hl => match us, hl with | [_], _ => rfl
  refine ⟨fd_law, fun s v => b s [v] rfl, fun base _ _ => ?_⟩
  have G_is_number := ok_is_number (P := P) (w := w) (base := base) M m_is_number D_is_number
  have G_is_name := ok_is_name (P := P) (w := w) (base := base) M m_is_name D_is_name
  have G_are_names := ok_are_names (P := P) (w := w) (base := base) G_is_name M m_are_names D_are_names
  have G_are_parameters := ok_are_parameters (P := P) (w := w) (base := base) G_are_names M m_are_parameters D_are_parameters
  have G_is_term := ok_is_term (P := P) (w := w) (base := base) G_is_number M m_is_term D_is_term
  have G_is_tested := ok_is_tested (P := P) (w := w) (base := base) G_is_term M m_is_tested D_is_tested
  have G_is_new_name := ok_is_new_name (P := P) (w := w) (base := base) G_is_name M m_is_new_name D_is_new_name
  have G_are_record_terms := ok_are_record_terms (P := P) (w := w) (base := base) G_is_term M m_are_record_terms D_are_record_terms
  have G_is_change := ok_is_change (P := P) (w := w) (base := base) G_is_term G_are_record_terms M m_is_change D_is_change
  have G_is_say := ok_is_say (P := P) (w := w) (base := base) G_is_change G_is_name M m_is_say D_is_say
  have G_divided := ok_divided (P := P) (w := w) (base := base) M m_divided D_divided
  have G_is_head := ok_is_head (P := P) (w := w) (base := base) G_is_term G_is_tested G_is_new_name M m_is_head D_is_head
  have G_inner_scopes := ok_inner_scopes (P := P) (w := w) (base := base) M m_inner_scopes D_inner_scopes
  have G_is_body := ok_is_body (P := P) (w := w) (base := base) G_is_say G_divided G_is_head G_inner_scopes M m_is_body D_is_body
  have G_is_kind_for := ok_is_kind_for (P := P) (w := w) (base := base) G_is_name G_are_parameters G_is_body M m_is_kind_for D_is_kind_for
  have G_Book_is_kind := ok_Book_is_kind (P := P) (w := w) (base := base) G_is_kind_for M m_Book rd sm F_S
  have G_L_box := ok_L_box (P := P) (w := w) (base := base) M m_L_box D_L_box
  have G_L_take := ok_L_take (P := P) (w := w) (base := base) M m_L_take D_L_take
  have G_L_of := ok_L_of (P := P) (w := w) (base := base) G_L_take M m_L_of D_L_of
  have G_L_lists := ok_L_lists (P := P) (w := w) (base := base) M m_L_lists D_L_lists
  have G_L_is_number := ok_L_is_number (P := P) (w := w) (base := base) M m_L_is_number D_L_is_number
  have G_L_same := ok_L_same (P := P) (w := w) (base := base) G_L_is_number M m_L_same D_L_same
  have G_L_names := ok_L_names (P := P) (w := w) (base := base) G_L_take G_L_of M m_L_names D_L_names
  have G_L_say := ok_L_say (P := P) (w := w) (base := base) G_L_of G_L_take M m_L_say D_L_say
  have G_L_body := ok_L_body (P := P) (w := w) (base := base) G_L_take G_L_of G_L_say M m_L_body D_L_body
  have G_L_kind := ok_L_kind (P := P) (w := w) (base := base) G_L_of G_L_body G_L_take M m_L_kind D_L_kind
  have G_L_is_name := ok_L_is_name (P := P) (w := w) (base := base) M m_L_is_name D_L_is_name
  have G_L_is_term := ok_L_is_term (P := P) (w := w) (base := base) G_L_is_number M m_L_is_term D_L_is_term
  have G_L_is_change := ok_L_is_change (P := P) (w := w) (base := base) G_L_is_term M m_L_is_change D_L_is_change
  have G_L_is_say := ok_L_is_say (P := P) (w := w) (base := base) G_L_is_name G_L_is_change M m_L_is_say D_L_is_say
  have G_L_is_body := ok_L_is_body (P := P) (w := w) (base := base) G_L_is_say G_L_is_term G_L_is_name M m_L_is_body D_L_is_body
  have G_L_is_kind := ok_L_is_kind (P := P) (w := w) (base := base) G_L_is_name G_L_is_body M m_L_is_kind D_L_is_kind
  have G_L_odd := ok_L_odd (P := P) (w := w) (base := base) G_L_of M m_L_odd D_L_odd
  have G_L_bent := ok_L_bent (P := P) (w := w) (base := base) G_L_take G_L_odd M m_L_bent D_L_bent
  have G_L_by_hand_right := ok_L_by_hand_right (P := P) (w := w) (base := base) G_Book_is_kind G_L_same M m_L_by_hand_right D_L_by_hand_right
  have G_L_right := ok_L_right (P := P) (w := w) (base := base) G_L_by_hand_right G_L_names G_L_take G_L_kind G_L_lists G_L_bent G_L_is_kind G_Book_is_kind G_L_same M m_L_right D_L_right
  exact Cl.ok_lawH D_L_cells m_L_cells G_L_right G_L_box M D_law
end Hd
end Prg
open PySem PySem.W
    PySem.Calls PyProof.Rows
theorem PySem.Challenge.cw_stillgood_k00_kinds_or_none_holds : PySem.Challenge.rw_stillgood_k00_kinds_or_none.Holds := by
  w_on; o_law
  refine HandSHeadRun.head_any (r := OpenLaw.row PySem.Challenge.rw_stillgood_k00_kinds_or_none) (q := view (OpenLaw.row PySem.Challenge.rw_stillgood_k00_kinds_or_none).prog [54]) (H := Prg.Hd.hk) (ob := Prg.Hd.ob) (M := 9000) (loose := Prg.Hd.loose) (d := HandSHeadRun.topDef (OpenLaw.row PySem.Challenge.rw_stillgood_k00_kinds_or_none).prog 54) (kwd := []) Prg.Hd.ob_eq
    (by kernel_rfl) (fun s => by kernel_rfl) Prg.Hd.run (by kernel_rfl) (by kernel_rfl) (by kernel_rfl) (by rfl) (by first | assumption | decide +kernel) (by decide +kernel) ⟨rfl, rfl, rfl, rfl, rfl, by decide +kernel⟩ ?hw ?hc
  case hw => w_witness2
  case hc =>
    refine L2.walk_ofE (l := PySem.Challenge.rw_stillgood_k00_kinds_or_none) (n := 63) (k := 70) (x := "_law_script") (CX := L2.CX0) rfl (by decide) (by kernel_rfl) ⟨rfl, by decide, by decide⟩ ?F (fun _ _ _ _ z => z)
    intro w mg fa h Y G hmg0
    obtain ⟨K, KX, c, ce⟩ := Y
    have hmg : mg ("law" : PySem.Str)
        = some (.ref fa) := by
      have e : (HandSHeadRun.topDef (OpenLaw.row PySem.Challenge.rw_stillgood_k00_kinds_or_none).prog 54).name = ("law" : PySem.Str) := by kernel_rfl
      rw [← e]; exact hmg0
    obtain ⟨fd, hb, hF⟩ := Prg.Hd.facts (P := (PySem.Challenge.rw_stillgood_k00_kinds_or_none).prog) (w := w) KX G hmg c ce
    exact ⟨K, fd, Prg.Cl.spLaw K, KX, hb, fun H a ns hl _ hS => ⟨a, ns, rfl, hS, hl, fun _ => rfl⟩, hF⟩
