import PyProof.Rows.All
import Wide.All
import OpenK.AllK
import Wide.FinOn
import HandS.Base
import HandS.Call
import HandS.List
import HandS.DictTup
import HandS.Flow
import HandS.ForMost
import HandS.Defaults
import HandS.Comp
import HandS.Zip
import HandS.DictEq
import HandS.Deep
import PyProof.NeKinds
import HandS.TupAny
import HandS.Text
import HandS.IsInst
import HandS.Style
import HandS.TupMul
import HandS.Words
import HandS.Strs
import KE.KRevSl
import HandS.Dict
import HandS.ClsMeth
import HandS.Property
import HandS.Star
import HandS.SortKw
import KE.DataMinMax
import HandS.SetBool
import KE.KDictPairs
import KE.KDictWalk
import PyProof.Draws
import KE.GoesEnum
import KE.KStateDown
import Lean
import HandS.More
import HandS.Head0
import HandS.Head1
import HandS.Head2
import HandS.HeadEnd
import HandS.HeadHook1
import HandS.HeadHook2
import HandS.HeadNt
import HandS.Steps
import HandS.Exc
import HandS.Wide
import PySem.Challenge.RW_stillgood_k23_how_many_calls_at_most
set_option Elab.async false
set_option linter.all false
set_option maxRecDepth 100000
set_option maxHeartbeats 0
/-! Data apart from the heap; what it is that a value is a datum; environments of data; steps. -/
namespace DL
open PySem PySem.Spec L2
open PyProof.Rows hiding St
inductive Dat where
  | non
  | bl (b : Bool)
  | int (i : Int)
  | str (z : Str)
  | ty (n : String)
  | tup (ds : List Dat)
  | lst (ds : List Dat)
  | dct (ks : List Key) (ds : List Dat)
  | obj (c : Str) (fs : List Str) (ds : List Dat)
  | dcT (ks : List Dat) (ds : List Dat)
instance : Inhabited Dat := ⟨.non⟩
/-- a dict at a with these keys (tuples that stand at kas) and values, in order -/
def dtP (a : Addr) (kas : List Addr) (vs : List V) (h : Heap) : Prop := (a == sysModules) = false ∧ ∃ es ep us, DT.Raw h a es ep ∧ es.toList.map (fun e => (e.key, e.val)) = (kas.map Value.ref).zip us ∧ kas.length = us.length ∧ Vals vs us ∧ es.size ≤ sizeLine
def dtO (o : Obj) (a : Addr) (kas : List Addr) (vs : List V) : HO := .frz o (.ext (dtP a kas vs))
section
variable (mg : Str → Option Value) (p : Addr → Prop) (H : Hp)
mutual
inductive IsD : Dat → V → Prop
  | non : IsD .non .non
  | bl {b} : IsD (.bl b) (.bl b)
  | int {i} : IsD (.int i) (.int i)
  | str {z} : IsD (.str z) (.str z)
  | ty {n} : IsD (.ty n) (.ty n)
  | tup {a vs ds} : ¬ p a → H a = some (.tup vs) → IsDs ds vs → IsD (.tup ds) (.ref a)
  | lst {a vs ds} : ¬ p a → H a = some (.lst vs) → IsDs ds vs → IsD (.lst ds) (.ref a)
  | dct {a kvs ks ds} : ¬ p a → Rd H a (.dK kvs) → kvs.map (·.1) = ks → IsDs ds (kvs.map (·.2)) → IsD (.dct ks ds) (.ref a)
  | obj {a C dx fs c ns ds} : ¬ p a → mg c = some (.ref C) → H a = some (.ins C dx fs) → fs.map (·.1) = ns → IsDs ds (fs.map (·.2)) → IsD (.obj c ns ds) (.ref a)
  | dcT {a o kas vs ks ds} : ¬ p a → H a = some (dtO o a kas vs) → IsDs ks (kas.map V.ref) → IsDs ds vs → IsD (.dcT ks ds) (.ref a)
inductive IsDs : List Dat → List V → Prop
  | nil : IsDs [] []
  | cons {d v ds vs} : IsD d v → IsDs ds vs → IsDs (d :: ds) (v :: vs)
end
/-- the object at a is this one, its parts apart from p (a itself may be in p) -/
def IsTop : Dat → Addr → Prop
  | .lst ds, a => ∃ vs, H a = some (.lst vs) ∧ IsDs mg p H ds vs
  | .dct ks ds, a => ∃ kvs, H a = some (.dK kvs) ∧ kvs.map (·.1) = ks ∧ IsDs mg p H ds (kvs.map (·.2))
  | .obj c ns ds, a => ∃ C dx fs, mg c = some (.ref C) ∧ H a = some (.ins C dx fs) ∧ fs.map (·.1) = ns ∧ IsDs mg p H ds (fs.map (·.2))
  | .dcT ks ds, a => ∃ o kas vs, H a = some (dtO o a kas vs) ∧ IsDs mg p H ks (kas.map V.ref) ∧ IsDs mg p H ds vs
  | _, _ => False
end
/-- apart from p, or the object itself -/
def IsV (mg : Str → Option Value) (p : Addr → Prop) (H : Hp) (d : Dat) (v : V) : Prop := IsD mg p H d v ∨ ∃ a, v = .ref a ∧ p a ∧ IsTop mg p H d a
section
variable {mg : Str → Option Value} {p p' : Addr → Prop} {H H' : Hp}
theorem rd_mono {a : Addr} {u : HO} (h : ∀ o, H a = some o → H' a = some o) (r : Rd H a u) : Rd H' a u := by
  rcases r with r | ⟨o, r⟩
  · exact .inl (h _ r)
  · exact .inr ⟨o, h _ r⟩
mutual
theorem IsD.mono (hp : ∀ a, p' a → p a) (hs : ∀ b o, H b = some o → ¬ p b → H' b = some o) : ∀ {d : Dat} {v : V}, IsD mg p H d v → IsD mg p' H' d v
  | _, _, .non => .non
  | _, _, .bl => .bl
  | _, _, .int => .int
  | _, _, .str => .str
  | _, _, .ty => .ty
  | _, _, .tup n s r => .tup (fun q => n (hp _ q)) (hs _ _ s n) (IsDs.mono hp hs r)
  | _, _, .lst n s r => .lst (fun q => n (hp _ q)) (hs _ _ s n) (IsDs.mono hp hs r)
  | _, _, .dct n s e r => .dct (fun q => n (hp _ q)) (rd_mono (fun o e => hs _ o e n) s) e (IsDs.mono hp hs r)
  | _, _, .obj n m s e r => .obj (fun q => n (hp _ q)) m (hs _ _ s n) e (IsDs.mono hp hs r)
  | _, _, .dcT n s k r => .dcT (fun q => n (hp _ q)) (hs _ _ s n) (IsDs.mono hp hs k) (IsDs.mono hp hs r)
theorem IsDs.mono (hp : ∀ a, p' a → p a) (hs : ∀ b o, H b = some o → ¬ p b → H' b = some o) : ∀ {ds : List Dat} {vs : List V}, IsDs mg p H ds vs → IsDs mg p' H' ds vs
  | _, _, .nil => .nil
  | _, _, .cons h t => .cons (IsD.mono hp hs h) (IsDs.mono hp hs t)
end
theorem rd_ne {a b : Addr} {u : HO} (n : H a = none) (r : Rd H b u) : b ≠ a := by
  rintro rfl
  rcases r with r | ⟨o, r⟩ <;> (rw [n] at r; cases r)
mutual
/-- apart from a new place too -/
theorem IsD.off {a : Addr} (n : H a = none) : ∀ {d : Dat} {v : V}, IsD mg p H d v → IsD mg (fun b => p b ∨ b = a) H d v
  | _, _, .non => .non
  | _, _, .bl => .bl
  | _, _, .int => .int
  | _, _, .str => .str
  | _, _, .ty => .ty
  | _, _, .tup np s r => .tup (fun q => q.elim np (ne_of_none s n)) s (IsDs.off n r)
  | _, _, .lst np s r => .lst (fun q => q.elim np (ne_of_none s n)) s (IsDs.off n r)
  | _, _, .dct np s e r => .dct (fun q => q.elim np (rd_ne n s)) s e (IsDs.off n r)
  | _, _, .obj np m s e r => .obj (fun q => q.elim np (fun e => by
      subst e
      rw [n] at s
      cases s)) m s e (IsDs.off n r)
  | _, _, .dcT np s k r => .dcT (fun q => q.elim np (ne_of_none s n)) s (IsDs.off n k) (IsDs.off n r)
theorem IsDs.off {a : Addr} (n : H a = none) : ∀ {ds : List Dat} {vs : List V}, IsDs mg p H ds vs → IsDs mg (fun b => p b ∨ b = a) H ds vs
  | _, _, .nil => .nil
  | _, _, .cons h t => .cons (IsD.off n h) (IsDs.off n t)
end
mutual
/-- apart from all that is not tracked -/
theorem IsD.all : ∀ {d : Dat} {v : V}, IsD mg p H d v → IsD mg (fun b => p b ∨ H b = none) H d v
  | _, _, .non => .non
  | _, _, .bl => .bl
  | _, _, .int => .int
  | _, _, .str => .str
  | _, _, .ty => .ty
  | _, _, .tup np s r => .tup (fun q => q.elim np fun n => ne_of_none s n rfl) s (IsDs.all r)
  | _, _, .lst np s r => .lst (fun q => q.elim np fun n => ne_of_none s n rfl) s (IsDs.all r)
  | _, _, .dct np s e r => .dct (fun q => q.elim np fun n => rd_ne n s rfl) s e (IsDs.all r)
  | _, _, .obj np m s e r => .obj (fun q => q.elim np fun n => ne_of_none s n rfl) m s e (IsDs.all r)
  | _, _, .dcT np s k r => .dcT (fun q => q.elim np fun n => ne_of_none s n rfl) s (IsDs.all k) (IsDs.all r)
theorem IsDs.all : ∀ {ds : List Dat} {vs : List V}, IsDs mg p H ds vs → IsDs mg (fun b => p b ∨ H b = none) H ds vs
  | _, _, .nil => .nil
  | _, _, .cons h t => .cons (IsD.all h) (IsDs.all t)
end
theorem IsTop.mono {a : Addr} {d : Dat} (hp : ∀ a, p' a → p a) (hs : ∀ b o, H b = some o → ¬ p b → H' b = some o) (ha : ∀ o, H a = some o → H' a = some o) (h : IsTop mg p H d a) : IsTop mg p' H' d a := by
  cases d with
  | lst ds =>
    obtain ⟨vs, e, r⟩ := h
    exact ⟨vs, ha _ e, r.mono hp hs⟩
  | dct ks ds =>
    obtain ⟨kvs, e, k, r⟩ := h
    exact ⟨kvs, ha _ e, k, r.mono hp hs⟩
  | obj c ns ds =>
    obtain ⟨C, dx, fs, m, e, k, r⟩ := h
    exact ⟨C, dx, fs, m, ha _ e, k, r.mono hp hs⟩
  | dcT ks ds =>
    obtain ⟨o, kas, vs, e, k, r⟩ := h
    exact ⟨o, kas, vs, ha _ e, k.mono hp hs, r.mono hp hs⟩
  | _ => exact h
theorem IsTop.at {a : Addr} {d : Dat} (h : IsTop mg p H d a) : H a ≠ none := by
  cases d with
  | lst ds =>
    obtain ⟨vs, e, r⟩ := h
    rw [e]; simp
  | dct ks ds =>
    obtain ⟨kvs, e, k, r⟩ := h
    rw [e]; simp
  | obj c ns ds =>
    obtain ⟨C, dx, fs, m, e, k, r⟩ := h
    rw [e]; simp
  | dcT ks ds =>
    obtain ⟨o, kas, vs, e, k, r⟩ := h
    rw [e]; simp
  | _ => exact absurd h (fun z => z)
theorem IsTop.isD {a : Addr} {d : Dat} (n : ¬ p a) (h : IsTop mg p H d a) : IsD mg p H d (.ref a) := by
  cases d with
  | lst ds =>
    obtain ⟨vs, e, r⟩ := h
    exact .lst n e r
  | dct ks ds =>
    obtain ⟨kvs, e, k, r⟩ := h
    exact .dct n (.inl e) k r
  | obj c ns ds =>
    obtain ⟨C, dx, fs, m, e, k, r⟩ := h
    exact .obj n m e k r
  | dcT ks ds =>
    obtain ⟨o, kas, vs, e, k, r⟩ := h
    exact .dcT n e k r
  | _ => exact absurd h (fun z => z)
theorem IsTop.off {a c : Addr} {d : Dat} (n : H c = none) (h : IsTop mg p H d a) : IsTop mg (fun b => p b ∨ b = c) H d a := by
  cases d with
  | lst ds =>
    obtain ⟨vs, e, r⟩ := h
    exact ⟨vs, e, r.off n⟩
  | dct ks ds =>
    obtain ⟨kvs, e, k, r⟩ := h
    exact ⟨kvs, e, k, r.off n⟩
  | obj c ns ds =>
    obtain ⟨C, dx, fs, m, e, k, r⟩ := h
    exact ⟨C, dx, fs, m, e, k, r.off n⟩
  | dcT ks ds =>
    obtain ⟨o, kas, vs, e, k, r⟩ := h
    exact ⟨o, kas, vs, e, k.off n, r.off n⟩
  | _ => exact h
theorem IsTop.all {a : Addr} {d : Dat} (h : IsTop mg p H d a) : IsTop mg (fun b => p b ∨ H b = none) H d a := by
  cases d with
  | lst ds =>
    obtain ⟨vs, e, r⟩ := h
    exact ⟨vs, e, r.all⟩
  | dct ks ds =>
    obtain ⟨kvs, e, k, r⟩ := h
    exact ⟨kvs, e, k, r.all⟩
  | obj c ns ds =>
    obtain ⟨C, dx, fs, m, e, k, r⟩ := h
    exact ⟨C, dx, fs, m, e, k, r.all⟩
  | dcT ks ds =>
    obtain ⟨o, kas, vs, e, k, r⟩ := h
    exact ⟨o, kas, vs, e, k.all, r.all⟩
  | _ => exact h
theorem IsDs.length : ∀ {ds : List Dat} {vs : List V}, IsDs mg p H ds vs → ds.length = vs.length
  | _, _, .nil => rfl
  | _, _, .cons _ t => by simp [t.length]
theorem IsDs.get : ∀ {ds : List Dat} {vs : List V} {i : Nat} {d : Dat}, IsDs mg p H ds vs → ds[i]? = some d → ∃ v, vs[i]? = some v ∧ IsD mg p H d v
  | _, _, _, _, .nil, e =>
      by simp at e
  | _, _, 0, _, .cons h t, e => by simp at e; subst e; exact ⟨_, rfl, h⟩
  | _, _, i + 1, d, .cons _ t, e => by
    obtain ⟨v, h1, h2⟩ := IsDs.get (i := i) (d := d) t (by simpa using e)
    exact ⟨v, by simpa using h1, h2⟩
theorem IsDs.get' : ∀ {ds : List Dat} {vs : List V} {i : Nat} {v : V}, IsDs mg p H ds vs → vs[i]? = some v → ∃ d, ds[i]? = some d ∧ IsD mg p H d v
  | _, _, _, _, .nil, e =>
      by simp at e
  | _, _, 0, _, .cons h t, e => by simp at e; subst e; exact ⟨_, rfl, h⟩
  | _, _, i + 1, d, .cons _ t, e => by
    obtain ⟨v, h1, h2⟩ := IsDs.get' (i := i) (v := d) t (by simpa using e)
    exact ⟨v, by simpa using h1, h2⟩
theorem IsDs.append : ∀ {ds es : List Dat} {vs us : List V}, IsDs mg p H ds vs → IsDs mg p H es us → IsDs mg p H (ds ++ es) (vs ++ us)
  | _, _, _, _, .nil, h => h
  | _, _, _, _, .cons h t, r => .cons h (t.append r)
theorem IsDs.take : ∀ {ds : List Dat} {vs : List V} (n : Nat), IsDs mg p H ds vs → IsDs mg p H (ds.take n) (vs.take n)
  | _, _, 0, _ => by simp; exact .nil
  | _, _, _ + 1, .nil => by simp; exact .nil
  | _, _, n + 1, .cons h t => .cons h (t.take n)
theorem IsDs.drop : ∀ {ds : List Dat} {vs : List V} (n : Nat), IsDs mg p H ds vs → IsDs mg p H (ds.drop n) (vs.drop n)
  | _, _, 0, h => h
  | _, _, _ + 1, .nil => by simp; exact .nil
  | _, _, n + 1, .cons h t => t.drop n
theorem IsDs.set : ∀ {ds : List Dat} {vs : List V} {d : Dat} {v : V} (n : Nat), IsDs mg p H ds vs → IsD mg p H d v → IsDs mg p H (ds.set n d) (vs.set n v)
  | _, _, _, _, _, .nil, _ => .nil
  | _, _, _, _, 0, .cons _ t, r => .cons r t
  | _, _, _, _, n + 1, .cons h t, r => .cons h (t.set n r)
theorem IsDs.reverse : ∀ {ds : List Dat} {vs : List V}, IsDs mg p H ds vs → IsDs mg p H ds.reverse vs.reverse
  | _, _, .nil => .nil
  | _, _, .cons h t => by
    rw [List.reverse_cons,
        List.reverse_cons]
    exact t.reverse.append (.cons h .nil)
theorem IsDs.one {d : Dat} {v : V} (h : IsD mg p H d v) : IsDs mg p H [d] [v] := .cons h .nil
theorem IsV.mono {d : Dat} {v : V} (hp : ∀ a, p' a → p a) (hs : ∀ b o, H b = some o → ¬ p b → H' b = some o) (h : IsV mg p H d v) (ha : ∀ a, v = .ref a → p a → p' a ∧ ∀ o, H a = some o → H' a = some o) : IsV mg p' H' d v := by
  rcases h with h | ⟨a, rfl, hpa, h⟩
  · exact .inl (h.mono hp hs)
  · exact .inr ⟨a, rfl, (ha a rfl hpa).1, h.mono hp hs (ha a rfl hpa).2⟩
/-- what a readable list is -/
theorem IsV.lstE {ds : List Dat} {v : V} (h : IsV mg p H (.lst ds) v) : ∃ a vs, v = .ref a ∧ H a = some (.lst vs) ∧ IsDs mg p H ds vs := by
  rcases h with h | ⟨a, rfl, _, vs, e, r⟩
  · cases h with
    | lst n s r => exact ⟨_, _, rfl, s, r⟩
  · exact ⟨a, vs, rfl, e, r⟩
theorem IsV.tupE {ds : List Dat} {v : V} (h : IsV mg p H (.tup ds) v) : ∃ a vs, v = .ref a ∧ ¬ p a ∧ H a = some (.tup vs) ∧ IsDs mg p H ds vs := by
  rcases h with h | ⟨a, rfl, _, h⟩
  · cases h with
    | tup n s r => exact ⟨_, _, rfl, n, s, r⟩
  · exact absurd h (fun z => z)
theorem IsV.dctE {ks : List Key} {ds : List Dat} {v : V} (h : IsV mg p H (.dct ks ds) v) : ∃ a kvs, v = .ref a ∧ Rd H a (.dK kvs) ∧ kvs.map (·.1) = ks ∧ IsDs mg p H ds (kvs.map (·.2)) := by
  rcases h with h | ⟨a, rfl, _, kvs, e, k, r⟩
  · cases h with
    | dct n s k r => exact ⟨_, _, rfl, s, k, r⟩
  · exact ⟨a, kvs, rfl, .inl e, k, r⟩
theorem IsV.objE {c : Str} {ns : List Str} {ds : List Dat} {v : V} (h : IsV mg p H (.obj c ns ds) v) : ∃ a C dx fs, v = .ref a ∧ mg c = some (.ref C) ∧ H a = some (.ins C dx fs) ∧ fs.map (·.1) = ns ∧ IsDs mg p H ds (fs.map (·.2)) := by
  rcases h with h | ⟨a, rfl, _, C, dx, fs, m, e, k, r⟩
  · cases h with
    | obj n m s k r => exact ⟨_, _, _, _, rfl, m, s, k, r⟩
  · exact ⟨a, C, dx, fs, rfl, m, e, k, r⟩
theorem IsV.dcTE {ks ds : List Dat} {v : V} (h : IsV mg p H (.dcT ks ds) v) : ∃ a o kas vs, v = .ref a ∧ H a = some (dtO o a kas vs) ∧ IsDs mg p H ks (kas.map V.ref) ∧ IsDs mg p H ds vs := by
  rcases h with h | ⟨a, rfl, _, o, kas, vs, e, k, r⟩
  · cases h with
    | dcT n s k r => exact ⟨_, _, _, _, rfl, s, k, r⟩
  · exact ⟨a, o, kas, vs, rfl, e, k, r⟩
theorem IsV.intE {i : Int} {v : V} (h : IsV mg p H (.int i) v) : v = .int i := by
  rcases h with h | ⟨a, rfl, _, h⟩
  · cases h; rfl
  · exact absurd h (fun z => z)
theorem IsV.blE {i : Bool} {v : V} (h : IsV mg p H (.bl i) v) : v = .bl i := by
  rcases h with h | ⟨a, rfl, _, h⟩
  · cases h; rfl
  · exact absurd h (fun z => z)
theorem IsV.strE {i : Str} {v : V} (h : IsV mg p H (.str i) v) : v = .str i := by
  rcases h with h | ⟨a, rfl, _, h⟩
  · cases h; rfl
  · exact absurd h (fun z => z)
theorem IsV.tyE {i : String} {v : V} (h : IsV mg p H (.ty i) v) : v = .ty i := by
  rcases h with h | ⟨a, rfl, _, h⟩
  · cases h; rfl
  · exact absurd h (fun z => z)
theorem IsV.nonE {v : V} (h : IsV mg p H .non v) : v = .non := by
  rcases h with h | ⟨a, rfl, _, h⟩
  · cases h; rfl
  · exact absurd h (fun z => z)
end
/-! ### environments -/
/-- a slot: a datum that nothing changes; an object of the def's own, which nothing else holds; a caller's, to be changed -/
inductive Slot where
  | val (d : Dat)
  | own (d : Dat)
  | mtb (d : Dat)
instance : Inhabited Slot := ⟨.val .non⟩
@[reducible] def Slot.dat : Slot → Dat
  | .val d => d
  | .own d => d
  | .mtb d => d
@[reducible] def Slot.wr : Slot → Bool
  | .val _ => false
  | .own _ => true
  | .mtb _ => true
abbrev Env := List (Option Slot)
def MutAt (env : Env) (σ : St) (a : Addr) : Prop := ∃ (i : Nat) (s : Slot), env[i]? = some (some s) ∧ s.wr = true ∧ σ[i]? = some (some (.ref a))
def Prot (q : Addr → Prop) (env : Env) (σ : St) (a : Addr) : Prop := q a ∨ MutAt env σ a
structure Rel (mg : Str → Option Value) (q : Addr → Prop) (env : Env) (σ : St) (H : Hp) : Prop where
  len : env.length = σ.length
  val : ∀ (i : Nat) (d : Dat), env[i]? = some (some (.val d)) → ∃ v, σ[i]? = some (some v) ∧ IsD mg (Prot q env σ) H d v
  wr : ∀ (i : Nat) (s : Slot), env[i]? = some (some s) → s.wr = true → ∃ a, σ[i]? = some (some (.ref a)) ∧ ¬ q a ∧ IsTop mg (Prot q env σ) H s.dat a
  inj : ∀ (i j : Nat) (s t : Slot) (a : Addr), env[i]? = some (some s) → s.wr = true → env[j]? = some (some t) → t.wr = true → σ[i]? = some (some (.ref a)) → σ[j]? = some (some (.ref a)) → i = j
  qin : ∀ a, q a → H a ≠ none
/-- an expression's step -/
structure StepE (env : Env) (σ : St) (H : Hp) (env' : Env) (H' : Hp) : Prop where
  keep : ∀ b o, H b = some o → ¬ MutAt env σ b → H' b = some o
  dom : ∀ b, H b ≠ none → H' b ≠ none
  mono : ∀ b, MutAt env' σ b → MutAt env σ b
  there : ∀ (i : Nat) (s : Slot), env[i]? = some (some s) → ∃ s', env'[i]? = some (some s')
  muts : ∀ (i : Nat) (d : Dat), env[i]? = some (some (.mtb d)) → ∃ d', env'[i]? = some (some (.mtb d'))
  len : env'.length = env.length
theorem StepE.refl {env : Env} {σ : St} {H : Hp} : StepE env σ H env H := ⟨fun _ _ e _ => e, fun _ h => h, fun _ h => h, fun _ s e => ⟨s, e⟩, fun _ d e => ⟨d, e⟩, rfl⟩
theorem StepE.trans {e0 e1 e2 : Env} {σ : St} {H0 H1 H2 : Hp} (a : StepE e0 σ H0 e1 H1) (b : StepE e1 σ H1 e2 H2) : StepE e0 σ H0 e2 H2 where
  keep := fun c o e n => b.keep c o (a.keep c o e n) (fun m => n (a.mono c m))
  dom := fun c h => b.dom c (a.dom c h)
  mono := fun c h => a.mono c (b.mono c h)
  there := fun i s e => by
    obtain ⟨s', e'⟩ := a.there i s e
    exact b.there i s' e'
  muts := fun i d e => by
    obtain ⟨d', e'⟩ := a.muts i d e
    exact b.muts i d' e'
  len := b.len.trans a.len
/-- a new object -/
theorem StepE.new {env : Env} {σ : St} {H : Hp} {a : Addr} {o : HO} (n : H a = none) : StepE env σ H env (upd H a o) where
  keep := fun c u e _ => by rw [upd_ne (ne_of_none e n)]; exact e
  dom := fun c h => by
    by_cases e : c = a
    · rw [e, upd_same]; simp
    · rw [upd_ne e]; exact h
  mono := fun _ h => h
  there := fun _ s e => ⟨s, e⟩
  muts := fun _ d e => ⟨d, e⟩
  len := rfl
theorem StepE.ext {env : Env} {σ : St} {H H' : Hp} (h : ∀ b o, H b = some o → H' b = some o) : StepE env σ H env H' where
  keep := fun c u e _ => h _ _ e
  dom := fun c hc => by
    cases e : H c with
    | none => exact absurd e hc
    | some o => rw [h _ _ e]; simp
  mono := fun _ h => h
  there := fun _ s e => ⟨s, e⟩
  muts := fun _ d e => ⟨d, e⟩
  len := rfl
section
variable {mg : Str → Option Value} {q : Addr → Prop} {env env' : Env} {σ : St} {H H' : Hp}
theorem StepE.isD {d : Dat} {v : V} (s : StepE env σ H env' H') (h : IsD mg (Prot q env σ) H d v) : IsD mg (Prot q env' σ) H' d v :=
  h.mono (fun a z => z.elim .inl (fun m => .inr (s.mono a m))) (fun b o e n => s.keep b o e (fun m => n (.inr m)))
theorem StepE.isDs {ds : List Dat} {vs : List V} (s : StepE env σ H env' H') (h : IsDs mg (Prot q env σ) H ds vs) : IsDs mg (Prot q env' σ) H' ds vs :=
  h.mono (fun a z => z.elim .inl (fun m => .inr (s.mono a m))) (fun b o e n => s.keep b o e (fun m => n (.inr m)))
/-- the heap grows alone -/
theorem Rel.ext (R : Rel mg q env σ H) (h : ∀ b o, H b = some o → H' b = some o) : Rel mg q env σ H' where
  len := R.len
  val := fun i d e => by
    obtain ⟨v, e1, e2⟩ := R.val i d e
    exact ⟨v, e1, e2.mono (fun _ z => z) (fun b o e _ => h b o e)⟩
  wr := fun i s e w => by
    obtain ⟨a, e1, n, t⟩ := R.wr i s e w
    exact ⟨a, e1, n, t.mono (fun _ z => z) (fun b o e _ => h b o e) (fun o e => h a o e)⟩
  inj := R.inj
  qin := fun a z => by
    have := R.qin a z
    cases e : H a with
    | none => exact absurd e this
    | some o => rw [h _ _ e]; simp
theorem ext_new {H : Hp} {a : Addr} {o : HO} (n : H a = none) : ∀ b u, H b = some u → upd H a o b = some u := fun b u e => by
  rw [upd_ne (ne_of_none e n)]; exact e
theorem Rel.prot_in (R : Rel mg q env σ H) {a : Addr} (h : Prot q env σ a) : H a ≠ none := by
  rcases h with h | ⟨i, s, e, w, hs⟩
  · exact R.qin a h
  · obtain ⟨b, e1, _, t⟩ := R.wr i s e w
    rw [hs] at e1
    cases e1
    exact t.at
theorem Rel.prot_new (R : Rel mg q env σ H) {a : Addr} (n : H a = none) : ¬ Prot q env σ a := fun h => R.prot_in h n
/-- a slot is no more changed -/
theorem Rel.freeze (R : Rel mg q env σ H) {i : Nat} {d : Dat} (e : env[i]? = some (some (.own d))) : Rel mg q (env.set i (some (.val d))) σ H ∧ StepE env σ H (env.set i (some (.val d))) H ∧ ∃ v, σ[i]? = some (some v) ∧ IsD mg (Prot q (env.set i (some (.val d))) σ) H d v := by
  have hi : i < env.length := (List.getElem?_eq_some_iff.mp e).1
  have mm : ∀ b, MutAt (env.set i (some (.val d))) σ b → MutAt env σ b := by
    rintro b ⟨j, s, e1, w, hs⟩
    by_cases hj : i = j
    · subst hj
      rw [List.getElem?_set_self hi] at e1
      cases e1
      cases w
    · rw [List.getElem?_set_ne hj] at e1
      exact ⟨j, s, e1, w, hs⟩
  have hp : ∀ b, Prot q (env.set i (some (.val d))) σ b → Prot q env σ b := fun b z => z.elim .inl (fun m => .inr (mm b m))
  have st : StepE env σ H (env.set i (some (.val d))) H := ⟨fun _ _ e _ => e, fun _ h => h, mm, fun j s e1 => by
    by_cases hj : i = j
    · subst hj
      exact ⟨_, List.getElem?_set_self hi⟩
    · rw [List.getElem?_set_ne hj]
      exact ⟨s, e1⟩, fun j d' e1 => by
    by_cases hj : i = j
    · subst hj
      rw [e] at e1
      cases e1
    · rw [List.getElem?_set_ne hj]
      exact ⟨d', e1⟩, by simp⟩
  obtain ⟨a, ea, nq, t⟩ := R.wr i _ e rfl
  have na : ¬ Prot q (env.set i (some (.val d))) σ a := by
    rintro (z | ⟨j, s, e1, w, hs⟩)
    · exact nq z
    · by_cases hj : i = j
      · subst hj
        rw [List.getElem?_set_self hi] at e1
        cases e1
        cases w
      · rw [List.getElem?_set_ne hj] at e1
        exact hj (R.inj i j _ s a e rfl e1 w ea hs)
  have dd : IsD mg (Prot q (env.set i (some (.val d))) σ) H d (.ref a) := (t.mono hp (fun b o e _ => e) (fun o e => e)).isD na
  refine ⟨⟨by simpa using R.len, fun j d' e1 => ?_, fun j s e1 w => ?_, fun j k s t a e1 w1 e2 w2 => ?_, R.qin⟩, st, _, ea, dd⟩
  · by_cases hj : i = j
    · subst hj
      rw [List.getElem?_set_self hi] at e1
      cases e1
      exact ⟨_, ea, dd⟩
    · rw [List.getElem?_set_ne hj] at e1
      obtain ⟨v, h1, h2⟩ := R.val j d' e1
      exact ⟨v, h1, st.isD h2⟩
  · by_cases hj : i = j
    · subst hj
      rw [List.getElem?_set_self hi] at e1
      cases e1
      cases w
    · rw [List.getElem?_set_ne hj] at e1
      obtain ⟨b, h1, h2, h3⟩ := R.wr j s e1 w
      exact ⟨b, h1, h2, h3.mono hp (fun b o e _ => e) (fun o e => e)⟩
  · have h1 : i ≠ j := by
      intro hj
      subst hj
      rw [List.getElem?_set_self hi] at e1
      cases e1
      cases w1
    have h2 : i ≠ k := by
      intro hj
      subst hj
      rw [List.getElem?_set_self hi] at e2
      cases e2
      cases w2
    rw [List.getElem?_set_ne h1] at e1
    rw [List.getElem?_set_ne h2] at e2
    exact R.inj j k s t a e1 w1 e2 w2
end
/-- the heap grows by a, of which nothing speaks yet -/
theorem Rel.guard {mg : Str → Option Value} {q : Addr → Prop} {env : Env} {σ : L2.St} {H H' : Hp} {a : Addr} (R : Rel mg q env σ H) (n : H a = none) (h : ∀ b o, H b = some o → H' b = some o) (ha : H' a ≠ none) : Rel mg (fun b => q b ∨ b = a) env σ H' := by
  have hp : ∀ b, Prot (fun b => q b ∨ b = a) env σ b → Prot q env σ b ∨ b = a := fun b z => z.elim (fun z => z.elim (fun z => .inl (.inl z)) .inr) (fun m => .inl (.inr m))
  refine ⟨R.len, fun i d e => ?_, fun i s e w => ?_, R.inj, fun b z => ?_⟩
  · obtain ⟨v, e1, e2⟩ := R.val i d e
    exact ⟨v, e1, (e2.off n).mono hp fun b o e _ => h b o e⟩
  · obtain ⟨b, e1, nq, t⟩ := R.wr i s e w
    refine ⟨b, e1, fun z => z.elim nq fun e => t.at (by rw [e]; exact n), (t.off n).mono hp (fun b o e _ => h b o e) (fun o e => h b o e)⟩
  · rcases z with z | z
    · have := R.qin b z
      cases e : H b with
      | none => exact absurd e this
      | some o => rw [h _ _ e]; simp
    · rw [z]; exact ha
/-- fewer protected -/
theorem Rel.less {mg : Str → Option Value} {q q' : Addr → Prop} {env : Env} {σ : L2.St} {H : Hp} (R : Rel mg q env σ H) (h : ∀ b, q' b → q b) : Rel mg q' env σ H := by
  have hp : ∀ b, Prot q' env σ b → Prot q env σ b := fun b z => z.elim (fun z => .inl (h b z)) .inr
  refine ⟨R.len, fun i d e => ?_, fun i s e w => ?_, R.inj, fun b z => R.qin b (h b z)⟩
  · obtain ⟨v, e1, e2⟩ := R.val i d e
    exact ⟨v, e1, e2.mono hp fun b o e _ => e⟩
  · obtain ⟨b, e1, nq, t⟩ := R.wr i s e w
    exact ⟨b, e1, fun z => nq (h b z), t.mono hp (fun b o e _ => e) (fun o e => e)⟩
/-! ### results -/
/-- a result: a datum; a new object; what a slot holds -/
inductive R where
  | val (d : Dat)
  | new (d : Dat)
  | bor (i : Nat)
/-- no longer known as new -/
def R.weak : R → R
  | .new d => .val d
  | r => r
def IsR (mg : Str → Option Value) (q : Addr → Prop) (env : Env) (σ : L2.St) (H0 H : Hp) : R → V → Prop
  | .val d, v => IsD mg (Prot q env σ) H d v
  | .new d, v => ∃ a, v = .ref a ∧ H0 a = none ∧ ¬ q a ∧ IsTop mg (fun b => Prot q env σ b ∨ b = a) H d a ∧ Rel mg (fun b => q b ∨ b = a) env σ H
  | .bor i, v => σ[i]? = some (some v) ∧ ∃ s, env[i]? = some (some s)
def look (env : Env) : R → Option Dat
  | .val d => some d
  | .new d => some d
  | .bor i => match env[i]? with
    | some (some s) => some s.dat
    | _ => none
/-- made a datum that nothing changes -/
def force (env : Env) : R → Option (Dat × Env)
  | .val d => some (d, env)
  | .new d => some (d, env)
  | .bor i => match env[i]? with
    | some (some (.val d)) => some (d, env)
    | some (some (.own d)) => some (d, env.set i (some (.val d)))
    | _ => none
theorem look_weak (env : Env) (r : R) : look env r.weak = look env r := by cases r <;> rfl
theorem force_weak (env : Env) (r : R) : force env r.weak = force env r := by cases r <;> rfl
section
variable {mg : Str → Option Value} {q : Addr → Prop} {env env' : Env} {σ : L2.St} {H0 H H' : Hp}
theorem IsR.newN {d : Dat} {v : V} (h : IsR mg q env σ H0 H (.new d) v) : ∃ a, v = .ref a ∧ H0 a = none ∧ ¬ Prot q env σ a ∧ IsTop mg (fun b => Prot q env σ b ∨ b = a) H d a := by
  obtain ⟨a, rfl, n, nq, t, R⟩ := h
  refine ⟨a, rfl, n, ?_, t⟩
  intro hp
  rcases hp with hp | ⟨i, s, e, w, hs⟩
  · exact nq hp
  · obtain ⟨b, e1, nq, _⟩ := R.wr i s e w
    rw [hs] at e1
    cases e1
    exact nq (.inr rfl)
theorem IsR.newD {d : Dat} {v : V} (h : IsR mg q env σ H0 H (.new d) v) : IsD mg (Prot q env σ) H d v := by
  obtain ⟨a, rfl, n, np, t⟩ := h.newN
  exact (t.mono (p' := Prot q env σ) (fun _ z => .inl z) (fun _ _ e _ => e) (fun _ e => e)).isD np
theorem IsR.toWeak {r : R} {v : V} (h : IsR mg q env σ H0 H r v) : IsR mg q env σ H0 H r.weak v := by
  cases r with
  | val d => exact h
  | new d => exact h.newD
  | bor i => exact h
theorem IsR.step {r : R} {v : V} (s : StepE env σ H env' H') (h : IsR mg q env σ H0 H r v) : IsR mg q env' σ H0 H' r.weak v := by
  cases r with
  | val d => exact s.isD h
  | new d => exact s.isD h.newD
  | bor i =>
    obtain ⟨e, s', h⟩ := h
    exact ⟨e, s.there i s' h⟩
theorem IsR.back {H1 : Hp} {r : R} {v : V} (h : IsR mg q env σ H0 H r v) (b : ∀ a, H1 a ≠ none → H0 a ≠ none) : IsR mg q env σ H1 H r v := by
  cases r with
  | val d => exact h
  | new d =>
    obtain ⟨a, rfl, n, np, t⟩ := h
    refine ⟨a, rfl, ?_, np, t⟩
    cases e : H1 a with
    | none => rfl
    | some o => exact absurd n (b a (by rw [e]; simp))
  | bor i => exact h
theorem IsR.look {r : R} {v : V} {d : Dat} (R : Rel mg q env σ H) (h : IsR mg q env σ H0 H r v) (e : look env r = some d) : IsV mg (Prot q env σ) H d v := by
  cases r with
  | val d' =>
    cases e
    exact .inl h
  | new d' =>
    cases e
    exact .inl h.newD
  | bor i =>
    obtain ⟨ev, s, hs⟩ := h
    simp only [DL.look, hs] at e
    cases e
    cases hw : s.wr with
    | false =>
      cases s with
      | val d =>
        obtain ⟨v', e1, e2⟩ := R.val i d hs
        rw [ev] at e1
        cases e1
        exact .inl e2
      | own d => cases hw
      | mtb d => cases hw
    | true =>
      obtain ⟨a, e1, nq, t⟩ := R.wr i s hs hw
      rw [ev] at e1
      cases e1
      exact .inr ⟨a, rfl, .inr ⟨i, s, hs, hw, ev⟩, t⟩
theorem IsR.force {r : R} {v : V} {d : Dat} (R : Rel mg q env σ H) (h : IsR mg q env σ H0 H r v) (e : force env r = some (d, env')) : Rel mg q env' σ H ∧ StepE env σ H env' H ∧ IsD mg (Prot q env' σ) H d v := by
  cases r with
  | val d' =>
    cases e
    exact ⟨R, .refl, h⟩
  | new d' =>
    cases e
    exact ⟨R, .refl, h.newD⟩
  | bor i =>
    obtain ⟨ev, s, hs⟩ := h
    simp only [DL.force, hs] at e
    cases s with
    | val d' =>
      cases e
      obtain ⟨v', e1, e2⟩ := R.val i d hs
      rw [ev] at e1
      cases e1
      exact ⟨R, .refl, e2⟩
    | own d' =>
      cases e
      obtain ⟨R', S', v', e1, e2⟩ := R.freeze hs
      rw [ev] at e1
      cases e1
      exact ⟨R', S', e2⟩
    | mtb d' => cases e
end
end DL
/-! Expressions, arguments, tests as functions of environments; their rules. -/
namespace DL
open PySem PySem.Spec L2
open PyProof.Rows hiding St
abbrev EM (α : Type) := Env → Option (α × Env)
section
variable (mg : Str → Option Value)
def TD (f : EM R) : TE := fun σ H Q => ∃ q env r env', Rel mg q env σ H ∧ f env = some (r, env') ∧ ∀ v H', Rel mg q env' σ H' → StepE env σ H env' H' → IsR mg q env' σ H H' r v → Q v H'
def IsRs (q : Addr → Prop) (env : Env) (σ : L2.St) (H0 H : Hp) (rs : List R) (vs : List V) : Prop := Paired (fun r v => IsR mg q env σ H0 H r v) rs vs
def TDA (f : EM (List R)) : TA := fun σ H Q => ∃ q env r env', Rel mg q env σ H ∧ f env = some (r, env') ∧ ∀ v H', Rel mg q env' σ H' → StepE env σ H env' H' → IsRs mg q env' σ H H' r v → Q v H'
def TDT (f : EM Bool) : TT := fun σ H Q => ∃ q env r env', Rel mg q env σ H ∧ f env = some (r, env') ∧ ∀ H', Rel mg q env' σ H' → StepE env σ H env' H' → Q r H'
end
theorem PE.of {X : Cx} {e : Expr} {t t' : TE} (h : PE X e t) (w : ∀ σ H Q, t' σ H Q → t σ H Q) : PE X e t' := ⟨fun pins s σ H Q I x => h.run pins s σ H Q I (w σ H Q x)⟩
theorem PT.of {X : Cx} {e : Expr} {t t' : TT} (h : PT X e t) (w : ∀ σ H Q, t' σ H Q → t σ H Q) : PT X e t' := ⟨fun pins s σ H Q I x => h.run pins s σ H Q I (w σ H Q x)⟩
theorem PW.of {X : Cx} {e : Expr} {t t' : TT} (h : PW X e t) (w : ∀ σ H Q, t' σ H Q → t σ H Q) : PW X e t' := ⟨fun wh pins s σ H Q I x => h.run wh pins s σ H Q I (w σ H Q x)⟩
theorem PA.of {X : Cx} {es : List Expr} {t t' : TA} (h : PA X es t) (w : ∀ σ H Q, t' σ H Q → t σ H Q) : PA X es t' := ⟨fun p pins s σ H Q I x => h.run p pins s σ H Q I (w σ H Q x)⟩
theorem PE.or {X : Cx} {e : Expr} {t t' : TE} (h : PE X e t) (h' : PE X e t') : PE X e (fun σ H Q => t σ H Q ∨ t' σ H Q) := ⟨fun pins s σ H Q I x => x.elim (h.run pins s σ H Q I) (h'.run pins s σ H Q I)⟩
section
variable {mg : Str → Option Value} {q : Addr → Prop} {env env' env1 env2 : Env} {σ : L2.St} {H0 H H' H1 : Hp}
theorem IsRs.step (s : StepE env σ H env' H') : ∀ {rs : List R} {vs : List V}, IsRs mg q env σ H0 H rs vs → IsRs mg q env' σ H0 H' (rs.map R.weak) vs
  | _, _, .nil => .nil
  | _, _, .cons h t => .cons (h.step s) (IsRs.step s t)
theorem IsRs.back {rs : List R} {vs : List V} (h : IsRs mg q env σ H0 H rs vs) (b : ∀ a, H1 a ≠ none → H0 a ≠ none) : IsRs mg q env σ H1 H rs vs := Paired.mapP h fun _ _ z => z.back b
end
/-! ### the steps of evaluation -/
def eRet {α : Type} (a : α) : EM α := fun env => some (a, env)
def eBind {α β : Type} (f : EM α) (g : α → EM β) : EM β := fun env => match f env with
  | some (a, e1) => g a e1
  | none => none
theorem eBind_some {α β : Type} {f : EM α} {g : α → EM β} {env e2 : Env} {b : β} (h : eBind f g env = some (b, e2)) : ∃ a e1, f env = some (a, e1) ∧ g a e1 = some (b, e2) := by
  unfold eBind at h
  cases hf : f env with
  | none =>
      rw [hf] at h; cases h
  | some p => rw [hf] at h; exact ⟨p.1, p.2, rfl, h⟩
def eVar (i : Nat) : EM R := fun env => match env[i]? with
  | some (some _) => some (.bor i, env)
  | _ => none
def eCon (d : Dat) : EM R := eRet (.val d)
def eNil : EM (List R) := eRet []
def eCons (f : EM R) (g : EM (List R)) : EM (List R) := eBind f fun r => eBind g fun rs => eRet (r.weak :: rs)
/-- the last one: it may be new -/
def eOne (f : EM R) : EM (List R) := eBind f fun r => eRet [r]
def eLook (r : R) : EM Dat := fun env => (look env r).map fun d => (d, env)
def eForce (r : R) : EM Dat := fun env => force env r
def eForces : List R → EM (List Dat)
  | [] => eRet []
  | r :: rs => eBind (eForce r) fun d => eBind (eForces rs) fun ds => eRet (d :: ds)
theorem eLook_some {r : R} {env env' : Env} {d : Dat} (h : eLook r env = some (d, env')) : look env r = some d ∧ env' = env := by
  unfold eLook at h
  cases e : look env r with
  | none =>
      rw [e] at h; cases h
  | some x => rw [e] at h; cases h; exact ⟨rfl, rfl⟩
def eOpt {α : Type} (o : Option α) : EM α := fun env => o.map fun a => (a, env)
theorem eOpt_some {α : Type} {o : Option α} {env env' : Env} {a : α} (h : eOpt o env = some (a, env')) : o = some a ∧ env' = env := by
  unfold eOpt at h
  cases o with
  | none => cases h
  | some x => cases h; exact ⟨rfl, rfl⟩
theorem eRet_some {α : Type} {a b : α} {env env' : Env} (h : eRet a env = some (b, env')) : b = a ∧ env' = env := by
  cases h; exact ⟨rfl, rfl⟩
section
variable {mg : Str → Option Value} {q : Addr → Prop} {env env' env1 env2 : Env} {σ : L2.St} {H0 H H' H1 : Hp}
theorem forces_weak : ∀ (rs : List R), eForces (rs.map R.weak) = eForces rs
  | [] => rfl
  | r :: rs => by
    show eBind (eForce r.weak) _ = eBind (eForce r) _
    have e : eForce r.weak = eForce r := by
      funext env
      exact force_weak env r
    rw [e, forces_weak rs]
theorem IsRs.forces : ∀ {rs : List R} {vs : List V} {env : Env} {ds : List Dat}, Rel mg q env σ H → IsRs mg q env σ H0 H rs vs → eForces rs env = some (ds, env') → Rel mg q env' σ H ∧ StepE env σ H env' H ∧ IsDs mg (Prot q env' σ) H ds vs
  | [], _, _, _, R, .nil, e => by
    obtain ⟨rfl, rfl⟩ := eRet_some e
    exact ⟨R, .refl, .nil⟩
  | r :: rs, _, env, ds, R, .cons h t, e => by
    obtain ⟨d, e1, h1, e_1⟩ := eBind_some e
    obtain ⟨ds', e2, h2, e_2⟩ := eBind_some e_1
    obtain ⟨rfl, rfl⟩ := eRet_some e_2
    obtain ⟨R1, S1, d1⟩ := h.force R h1
    obtain ⟨R2, S2, d2⟩ := IsRs.forces (rs := rs.map DL.R.weak) R1 (IsRs.step S1 t) (by rw [forces_weak]; exact h2)
    exact ⟨R2, S1.trans S2, .cons (S2.isD d1) d2⟩
end
/-! ### rules -/
section
variable {X : Cx} {a b c e : Expr} {es : List Expr} {pos : Pos} {f g h : EM R} {fs : EM (List R)}
theorem Rel.slot {mg : Str → Option Value} {q : Addr → Prop} {env : Env} {σ : L2.St} {H : Hp} (R : Rel mg q env σ H) {i : Nat} {s : Slot} (e : env[i]? = some (some s)) : ∃ v, σ[i]? = some (some v) := by
  cases hw : s.wr with
  | false =>
    cases s with
    | val d =>
      obtain ⟨v, h, _⟩ := R.val i d e
      exact ⟨v, h⟩
    | own d => cases hw
    | mtb d => cases hw
  | true =>
    obtain ⟨a, h, _⟩ := R.wr i s e hw
    exact ⟨_, h⟩
theorem d_var {i : Nat} {x : Str} (hN : X.N[i]? = some x) (hv : Vis X.env.scope x) (hd : (x == ("__debug__" : Str)) = false) (hcd : (x == ("__classdict__" : Str)) = false) : PE X (.Name x pos) (TD X.mg (eVar i)) := by
  refine PE.of (pe_var hN hv hd hcd) ?_
  rintro σ H Q ⟨q, env, r, env', R, e, k⟩
  unfold eVar at e
  split at e
  · rename_i s hs
    cases e
    obtain ⟨v, hv⟩ := R.slot hs
    exact ⟨v, hv, k v H R .refl ⟨hv, s, hs⟩⟩
  · cases e
theorem d_con {v : V} {d : Dat} (hd : ∀ p H, IsD X.mg p H d v) (h : PE X e (tC v)) : PE X e (TD X.mg (eCon d)) := by
  refine PE.of h ?_
  rintro σ H Q ⟨q, env, r, env', R, e, k⟩
  obtain ⟨rfl, rfl⟩ := eRet_some e
  exact k v H R .refl (hd _ _)
theorem d_nil : PA X [] (TDA X.mg eNil) := by
  refine PA.of pa_nil ?_
  rintro σ H Q ⟨q, env, r, env', R, e, k⟩
  obtain ⟨rfl, rfl⟩ := eRet_some e
  exact k [] H R .refl .nil
def notStar : Expr → Bool
  | .Starred _ _ => false
  | _ => true
theorem star_no {env : PySem.Env} (h : notStar e = true) : starEach (e :: es) env = (false, eval e env) :: starEach es env := by
  cases e <;> first | rfl | cases h
theorem d_cons (hs : notStar e = true) (h1 : PE X e (TD X.mg f)) (h2 : PA X es (TDA X.mg fs)) : PA X (e :: es) (TDA X.mg (eCons f fs)) := by
  refine PA.of (pa_cons h1 h2 (star_no hs)) ?_
  rintro σ H Q ⟨q, env, r, env', R, ev, k⟩
  obtain ⟨r1, e1, h1, ev_1⟩ := eBind_some ev
  obtain ⟨r2, e2, h2, ev_2⟩ := eBind_some ev_1
  obtain ⟨rfl, rfl⟩ := eRet_some ev_2
  refine ⟨q, env, r1, e1, R, h1, fun v H1 R1 S1 i1 => ⟨q, e1, r2, env', R1, h2, fun vs H2 R2 S2 i2 => k (v :: vs) H2 R2 (S1.trans S2) (.cons (i1.step S2) (i2.back S1.dom))⟩⟩
theorem d_last (hs : notStar e = true) (h1 : PE X e (TD X.mg f)) : PA X [e] (TDA X.mg (eOne f)) := by
  refine PA.of (pa_cons h1 pa_nil (star_no hs)) ?_
  rintro σ H Q ⟨q, env, r, env', R, ev, k⟩
  obtain ⟨r1, e1, h1, ev⟩ := eBind_some ev
  obtain ⟨rfl, rfl⟩ := eRet_some ev
  exact ⟨q, env, r1, env', R, h1, fun v H1 R1 S1 i1 => k [v] H1 R1 S1 (.cons i1 .nil)⟩
/-- displays -/
def eTup (fs : EM (List R)) : EM R := eBind fs fun rs => eBind (eForces rs) fun ds => eOpt (if ds.length ≤ 100000 then some (.val (.tup ds)) else none)
def eLst (fs : EM (List R)) : EM R := eBind fs fun rs => eBind (eForces rs) fun ds => eOpt (if ds.length ≤ 100000 then some (.new (.lst ds)) else none)
theorem sz_ok {n : Nat} (h : n ≤ 100000) : n ≤ sizeLine := by rw [sizeLine_eq]; omega
theorem d_tup {x1 : Nat} (h : PA X es (TDA X.mg fs)) : PE X (.Tuple es x1 pos) (TD X.mg (eTup fs)) := by
  refine PE.of (pe_tup h) ?_
  rintro σ H Q ⟨q, env, r, env', R, ev, k⟩
  obtain ⟨rs, e1, h1, ev_1⟩ := eBind_some ev
  obtain ⟨ds, e2, h2, ev_2⟩ := eBind_some ev_1
  obtain ⟨hl, rfl⟩ := eOpt_some ev_2
  split at hl
  · rename_i hz
    cases hl
    refine ⟨q, env, rs, e1, R, h1, fun vs H1 R1 S1 i1 => ?_⟩
    obtain ⟨R2, S2, i2⟩ := i1.forces R1 h2
    refine ⟨sz_ok (by rw [← i2.length]; exact hz), fun p hp => k _ _ (R2.ext (ext_new hp)) ((S1.trans S2).trans (.new hp)) ?_⟩
    exact .tup (R2.prot_new hp) upd_same (i2.mono (fun _ z => z) fun b o e _ => ext_new hp b o e)
  · cases hl
theorem new_ok {mg : Str → Option Value} {q : Addr → Prop} {env : Env} {σ : L2.St} {H : Hp} {p : Addr} {o : HO} {d : Dat} (R : Rel mg q env σ H) (hp : H p = none) (h : IsTop mg (fun b => Prot q env σ b ∨ b = p) (upd H p o) d p) : IsR mg q env σ H (upd H p o) (.new d) (.ref p) :=
  ⟨p, rfl, hp, fun z => R.prot_new hp (.inl z), h, R.guard hp (ext_new hp) (by rw [upd_same]; simp)⟩
theorem IsDs.new {mg : Str → Option Value} {pr : Addr → Prop} {H : Hp} {p : Addr} {o : HO} {ds : List Dat} {vs : List V} (hp : H p = none) (h : IsDs mg pr H ds vs) : IsDs mg (fun b => pr b ∨ b = p) (upd H p o) ds vs :=
  (h.off hp).mono (fun _ z => z) fun b o e _ => ext_new hp b o e
theorem d_lst (h : PA X es (TDA X.mg fs)) : PE X (.List es pos) (TD X.mg (eLst fs)) := by
  refine PE.of (pe_lst h) ?_
  rintro σ H Q ⟨q, env, r, env', R, ev, k⟩
  obtain ⟨rs, e1, h1, ev_1⟩ := eBind_some ev
  obtain ⟨ds, e2, h2, ev_2⟩ := eBind_some ev_1
  obtain ⟨hl, rfl⟩ := eOpt_some ev_2
  split at hl
  · rename_i hz
    cases hl
    refine ⟨q, env, rs, e1, R, h1, fun vs H1 R1 S1 i1 => ?_⟩
    obtain ⟨R2, S2, i2⟩ := i1.forces R1 h2
    refine ⟨sz_ok (by rw [← i2.length]; exact hz), fun p hp => k _ _ (R2.ext (ext_new hp)) ((S1.trans S2).trans (.new hp)) ?_⟩
    exact IsR.back (r := .new (.lst ds)) (new_ok R2 hp (d := .lst ds) ⟨vs, upd_same, i2.new hp⟩) (S1.trans S2).dom
  · cases hl
end
/-! ### operations on data -/
/-- what an operation hands back: an old datum (false) or a new object (true) -/
abbrev Out := Bool × Dat
def Out.r : Out → R
  | (false, d) => .val d
  | (true, d) => .new d
def IsO (mg : Str → Option Value) (p : Addr → Prop) (H0 H : Hp) : Out → V → Prop
  | (false, d), v => IsD mg p H d v
  | (true, d), v => ∃ a, v = .ref a ∧ H0 a = none ∧ IsTop mg (fun b => p b ∨ b = a) H d a
/-- an operation of two data, by the rule r of values -/
def Op2 (mg : Str → Option Value) (r : R2) (op : Dat → Dat → Option Out) : Prop :=
  ∀ (p : Addr → Prop) (H : Hp) (a b : Dat) (v w : V) (out : Out), (∀ x, p x → H x ≠ none) → IsV mg p H a v → IsV mg p H b w → op a b = some out →
    ∀ Q : VK, (∀ z H', (∀ x o, H x = some o → H' x = some o) → IsO mg p H H' out z → Q z H') → r v w H Q
def Op1 (mg : Str → Option Value) (r : V → Hp → VK → Prop) (op : Dat → Option Out) : Prop :=
  ∀ (p : Addr → Prop) (H : Hp) (a : Dat) (v : V) (out : Out), (∀ x, p x → H x ≠ none) → IsV mg p H a v → op a = some out →
    ∀ Q : VK, (∀ z H', (∀ x o, H x = some o → H' x = some o) → IsO mg p H H' out z → Q z H') → r v H Q
/-- data of any number -/
def IsVs (mg : Str → Option Value) (p : Addr → Prop) (H : Hp) (ds : List Dat) (vs : List V) : Prop := Paired (fun d v => IsV mg p H d v) ds vs
def OpN (mg : Str → Option Value) (r : List V → Hp → VK → Prop) (op : List Dat → Option Out) : Prop :=
  ∀ (p : Addr → Prop) (H : Hp) (ds : List Dat) (vs : List V) (out : Out), (∀ x, p x → H x ≠ none) → IsVs mg p H ds vs → op ds = some out →
    ∀ Q : VK, (∀ z H', (∀ x o, H x = some o → H' x = some o) → IsO mg p H H' out z → Q z H') → r vs H Q
theorem IsO.isR {mg : Str → Option Value} {q : Addr → Prop} {env : Env} {σ : L2.St} {H H' : Hp} {out : Out} {v : V} (R : Rel mg q env σ H) (hx : ∀ x o, H x = some o → H' x = some o) (h : IsO mg (Prot q env σ) H H' out v) : IsR mg q env σ H H' out.r v := by
  obtain ⟨b, d⟩ := out
  cases b with
  | false => exact h
  | true =>
    obtain ⟨a, rfl, n, t⟩ := h
    exact ⟨a, rfl, n, fun z => R.prot_new n (.inl z), t, R.guard n hx t.at⟩
def eLooks : List R → EM (List Dat)
  | [] => eRet []
  | r :: rs => eBind (eLook r) fun d => eBind (eLooks rs) fun ds => eRet (d :: ds)
theorem IsRs.looks {mg : Str → Option Value} {q : Addr → Prop} {env env' : Env} {σ : L2.St} {H0 H : Hp} (R : Rel mg q env σ H) : ∀ {rs : List DL.R} {vs : List V} {ds : List Dat}, IsRs mg q env σ H0 H rs vs → eLooks rs env = some (ds, env') → IsVs mg (Prot q env σ) H ds vs ∧ env' = env
  | [], _, _, .nil, e => by
    obtain ⟨rfl, rfl⟩ := eRet_some e
    exact ⟨.nil, rfl⟩
  | r :: rs, _, ds, .cons h t, e => by
    obtain ⟨d, e1, h1, e_1⟩ := eBind_some e
    obtain ⟨h1', rfl⟩ := eLook_some h1
    obtain ⟨ds', e2, h2, e_2⟩ := eBind_some e_1
    obtain ⟨rfl, rfl⟩ := eRet_some e_2
    obtain ⟨i2, rfl⟩ := IsRs.looks R t h2
    exact ⟨(.cons (h.look R h1') i2), rfl⟩
def eOp2 (op : Dat → Dat → Option Out) (f g : EM R) : EM R := eBind f fun r => eBind g fun s => eBind (eLook r) fun a => eBind (eLook s) fun b => eBind (eOpt (op a b)) fun o => eRet o.r
def eOp1 (op : Dat → Option Out) (f : EM R) : EM R := eBind f fun r => eBind (eLook r) fun a => eBind (eOpt (op a)) fun o => eRet o.r
def eOpN (op : List Dat → Option Out) (fs : EM (List R)) : EM R := eBind fs fun rs => eBind (eLooks rs) fun ds => eBind (eOpt (op ds)) fun o => eRet o.r
section
variable {X : Cx} {a b c e : Expr} {es : List Expr} {pos : Pos} {f g h : EM R} {fs : EM (List R)} {op : Dat → Dat → Option Out} {op1 : Dat → Option Out} {opN : List Dat → Option Out} {r : R2} {r1 : V → Hp → VK → Prop} {rN : List V → Hp → VK → Prop}
theorem red2 (ho : Op2 X.mg r op) (σ : L2.St) (H : Hp) (Q : VK) (h : TD X.mg (eOp2 op f g) σ H Q) : tOp r (TD X.mg f) (TD X.mg g) σ H Q := by
  obtain ⟨q, env, out, env', R, ev, k⟩ := h
  obtain ⟨r1, e1, h1, ev_1⟩ := eBind_some ev
  obtain ⟨r2, e2, h2, ev_2⟩ := eBind_some ev_1
  obtain ⟨da, e3, h3, ev_3⟩ := eBind_some ev_2
  obtain ⟨h3', rfl⟩ := eLook_some h3
  obtain ⟨db, e4, h4, ev_4⟩ := eBind_some ev_3
  obtain ⟨h4', rfl⟩ := eLook_some h4
  obtain ⟨o, e5, h5, ev_5⟩ := eBind_some ev_4
  obtain ⟨h5', rfl⟩ := eOpt_some h5
  obtain ⟨rfl, rfl⟩ := eRet_some ev_5
  refine ⟨q, env, r1, e1, R, h1, fun v H1 R1 S1 i1 => ⟨q, e1, r2, env', R1, h2, fun w H2 R2 S2 i2 => ?_⟩⟩
  refine ho (Prot q env' σ) H2 da db v w o (fun x hx => R2.prot_in hx) ((i1.step S2).look R2 (by rw [look_weak]; exact h3')) (i2.look R2 h4') h5' Q fun z H' hx io => ?_
  exact k z H' (R2.ext hx) ((S1.trans S2).trans (.ext hx)) ((io.isR R2 hx).back (S1.trans S2).dom)
theorem d_op2 {bo : Operator} (hr : OpR X (binaryOp bo) r) (ho : Op2 X.mg r op) (ha : PE X a (TD X.mg f)) (hb : PE X b (TD X.mg g)) : PE X (.BinOp a bo b pos) (TD X.mg (eOp2 op f g)) :=
  PE.of (pe_op hr ha hb) (red2 ho)
theorem d_cmp {co : CmpOp} (hr : OpR X (compareOp co) r) (ho : Op2 X.mg r op) (hm : behindInMarks co b = false) (ha : PE X a (TD X.mg f)) (hb : PE X b (TD X.mg g)) : PE X (.Compare a [co] [b] pos) (TD X.mg (eOp2 op f g)) :=
  PE.of (pe_cmpR hr ha hb hm) (red2 ho)
theorem d_ix (hr : IxR X r) (ho : Op2 X.mg r op) (hs : PlainIx b) (ha : PE X a (TD X.mg f)) (hb : PE X b (TD X.mg g)) : PE X (.Subscript a b pos) (TD X.mg (eOp2 op f g)) :=
  PE.of (pe_ix hr ha hb hs) (red2 ho)
theorem red1 (ho : Op1 X.mg r1 op1) (σ : L2.St) (H : Hp) (Q : VK) (h : TD X.mg (eOp1 op1 f) σ H Q) : TD X.mg f σ H (fun v H1 => r1 v H1 Q) := by
  obtain ⟨q, env, out, env', R, ev, k⟩ := h
  obtain ⟨r1, e1, h1, ev_1⟩ := eBind_some ev
  obtain ⟨da, e3, h3, ev_2⟩ := eBind_some ev_1
  obtain ⟨h3', rfl⟩ := eLook_some h3
  obtain ⟨o, e5, h5, ev_3⟩ := eBind_some ev_2
  obtain ⟨h5', rfl⟩ := eOpt_some h5
  obtain ⟨rfl, rfl⟩ := eRet_some ev_3
  refine ⟨q, env, r1, env', R, h1, fun v H1 R1 S1 i1 => ?_⟩
  refine ho (Prot q env' σ) H1 da v o (fun x hx => R1.prot_in hx) (i1.look R1 h3') h5' Q fun z H' hx io => ?_
  exact k z H' (R1.ext hx) (S1.trans (.ext hx)) ((io.isR R1 hx).back S1.dom)
theorem d_un {uo : PySem.UnaryOp} (hr : UnR X (unaryOp uo) r1) (ho : Op1 X.mg r1 op1) (ha : PE X a (TD X.mg f)) : PE X (.UnaryOp uo a pos) (TD X.mg (eOp1 op1 f)) :=
  PE.of (pe_un hr ha) (red1 ho)
theorem redN (ho : OpN X.mg rN opN) (σ : L2.St) (H : Hp) (Q : VK) (h : TD X.mg (eOpN opN fs) σ H Q) : TDA X.mg fs σ H (fun v H1 => rN v H1 Q) := by
  obtain ⟨q, env, out, env', R, ev, k⟩ := h
  obtain ⟨r1, e1, h1, ev_1⟩ := eBind_some ev
  obtain ⟨da, e3, h3, ev_2⟩ := eBind_some ev_1
  obtain ⟨o, e5, h5, ev_3⟩ := eBind_some ev_2
  obtain ⟨h5', rfl⟩ := eOpt_some h5
  obtain ⟨rfl, rfl⟩ := eRet_some ev_3
  refine ⟨q, env, r1, e1, R, h1, fun v H1 R1 S1 i1 => ?_⟩
  obtain ⟨i3, rfl⟩ := i1.looks R1 h3
  refine ho _ H1 da v o (fun x hx => R1.prot_in hx) i3 h5' Q fun z H' hx io => ?_
  exact k z H' (R1.ext hx) (S1.trans (.ext hx)) ((io.isR R1 hx).back S1.dom)
theorem d_bi {x : Str} {id : String} {p : Pos} (hr : CallR X (.builtin id) rN) (ho : OpN X.mg rN opN) (hg : Gl X x) (hm : X.mg x = none) (hv : bootBuiltins x = some (.builtin id)) (hn : x ≠ "__name__") (hdb : (x == ("__debug__" : Str)) = false)
    (hs : notStar e = true) (hpl : (backTo pos (starEach es X.env)).any (·.1) = false) (ha : PA X (e :: es) (TDA X.mg fs)) : PE X (.Call (.Name x p) (e :: es) [] pos) (TD X.mg (eOpN opN fs)) :=
  PE.of (pe_callB hr hg hm hv ha hn hdb (star_no hs) hpl) (redN ho)
theorem d_ty {x : Str} {T : String} {p : Pos} (hr : CallR X (.type T) rN) (ho : OpN X.mg rN opN) (hg : Gl X x) (hm : X.mg x = none) (hv : bootBuiltins x = some (.type T)) (hn : x ≠ "__name__") (hdb : (x == ("__debug__" : Str)) = false)
    (hs : notStar e = true) (hpl : (backTo pos (starEach es X.env)).any (·.1) = false) (ha : PA X (e :: es) (TDA X.mg fs)) : PE X (.Call (.Name x p) (e :: es) [] pos) (TD X.mg (eOpN opN fs)) :=
  PE.of (pe_callTy hr hg hm hv ha hn hdb (star_no hs) hpl) (redN ho)
end
end DL
/-! Truth, tests, and / or / not, chains, choices. -/
namespace DL
open PySem PySem.Spec L2
open PyProof.Rows hiding St
def truD : Dat → Option Bool
  | .non => some false
  | .bl b => some b
  | .int i => some (i != 0)
  | .str z => if z.length ≤ 100000 then some ((z.length : Int) != 0) else none
  | .tup ds => some (!ds.isEmpty)
  | .lst ds => some (!ds.isEmpty)
  | _ => none
section
variable {mg : Str → Option Value} {p : Addr → Prop} {H : Hp}
theorem IsDs.isEmpty {ds : List Dat} {vs : List V} (h : IsDs mg p H ds vs) : vs.isEmpty = ds.isEmpty := by
  cases h <;> rfl
theorem truD_ok {K : PySem.W.Frag} {d : Dat} {v : V} {k : Bool} (h : IsV mg p H d v) (e : truD d = some k) : TruV K v H k := by
  cases d with
  | non => rw [h.nonE]; cases e; rfl
  | bl b => rw [h.blE]; cases e; rfl
  | int b => rw [h.intE]; cases e; rfl
  | str z =>
    rw [h.strE]
    have e2 : (if z.length ≤ 100000 then some ((z.length : Int) != 0) else none) = some k := e
    split at e2
    · rename_i hz
      cases e2
      exact ⟨sz_ok hz, rfl⟩
    · cases e2
  | tup ds =>
    obtain ⟨a, vs, rfl, _, ha, r⟩ := h.tupE
    cases e
    exact .inr (.inl ⟨vs, SqT.of ha, by rw [r.isEmpty]⟩)
  | lst ds =>
    obtain ⟨a, vs, rfl, ha, r⟩ := h.lstE
    cases e
    exact .inl ⟨vs, SqL.of ha, by rw [r.isEmpty]⟩
  | _ => cases e
end
def eTruth (f : EM R) : EM Bool := eBind f fun r => eBind (eLook r) fun d => eOpt (truD d)
def eTest (f : EM Bool) : EM R := eBind f fun b => eRet (.val (.bl b))
def tAnd2 (f g : EM Bool) : EM Bool := eBind f fun b => if b = true then g else eRet false
def tOr2 (f g : EM Bool) : EM Bool := eBind f fun b => if b = true then eRet true else g
def tNo (f : EM Bool) : EM Bool := eBind f fun b => eRet (!b)
/-- x or y, by truth -/
def eOr2 (f g : EM R) : EM R := eBind f fun r => eBind (eLook r) fun d => eBind (eOpt (truD d)) fun b => if b = true then eRet r else g
def eAnd2 (f g : EM R) : EM R := eBind f fun r => eBind (eLook r) fun d => eBind (eOpt (truD d)) fun b => if b = true then g else eRet r
def eNot (f : EM R) : EM R := eBind f fun r => eBind (eLook r) fun d => eBind (eOpt (truD d)) fun b => eRet (.val (.bl (!b)))
def eIf {α : Type} (c : EM Bool) (f g : EM α) : EM α := eBind c fun b => if b = true then f else g
/-- a op b op' c -/
def eChain (op op' : Dat → Dat → Option Out) (f g h : EM R) : EM R := eBind f fun r => eBind g fun s => eBind (eLook r) fun a => eBind (eLook s) fun b => eBind (eOpt (op a b)) fun o =>
  match o with
  | (false, .bl true) => eBind h fun t => eBind (eLook s) fun b' => eBind (eLook t) fun c => eBind (eOpt (op' b' c)) fun o => eRet o.r
  | (false, .bl false) => eRet (.val (.bl false))
  | _ => fun _ => none
section
variable {X : Cx} {a b c e : Expr} {es rest : List Expr} {pos : Pos} {f g h : EM R} {u v w : EM Bool}
theorem dt_truth (he : ∀ whole, isTrue a X.env whole = (do let v ← whole; standAt a.pos; holding [v] (truthy v))) (ha : PE X a (TD X.mg f)) : PT X a (TDT X.mg (eTruth f)) := by
  refine PT.of (pt_truth ha he) ?_
  rintro σ H Q ⟨q, env, r, env', R, ev, k⟩
  obtain ⟨r1, e1, h1, ev⟩ := eBind_some ev
  obtain ⟨d, e2, h2, ev2⟩ := eBind_some ev
  obtain ⟨h2', rfl⟩ := eLook_some h2
  obtain ⟨h3, rfl⟩ := eOpt_some ev2
  exact ⟨q, env, r1, env', R, h1, fun v H1 R1 S1 i1 => ⟨r, truD_ok (i1.look R1 h2') h3, k H1 R1 S1⟩⟩
theorem dt_not (ha : PT X a (TDT X.mg u)) : PT X (.UnaryOp .Not a pos) (TDT X.mg (tNo u)) := by
  refine PT.of (pt_not ha) ?_
  rintro σ H Q ⟨q, env, r, env', R, ev, k⟩
  obtain ⟨r1, e1, h1, ev⟩ := eBind_some ev
  obtain ⟨rfl, rfl⟩ := eRet_some ev
  exact ⟨q, env, r1, env', R, h1, fun H1 R1 S1 => k H1 R1 S1⟩
theorem dw_and1 (ha : PT X a (TDT X.mg u)) : PW X (.BoolOp .And [a] pos) (TDT X.mg u) := pw_and1 ha
theorem dw_or1 (ha : PT X a (TDT X.mg u)) : PW X (.BoolOp .Or [a] pos) (TDT X.mg u) := pw_or1 ha
theorem dw_and (ha : PT X a (TDT X.mg u)) (hb : PW X (.BoolOp .And (b :: rest) pos) (TDT X.mg v)) : PW X (.BoolOp .And (a :: b :: rest) pos) (TDT X.mg (tAnd2 u v)) := by
  refine PW.of (pw_and ha hb) ?_
  rintro σ H Q ⟨q, env, r, env', R, ev, k⟩
  obtain ⟨r1, e1, h1, ev⟩ := eBind_some ev
  refine ⟨q, env, r1, e1, R, h1, fun H1 R1 S1 => ?_⟩
  cases r1 with
  | true => exact ⟨q, e1, r, env', R1, ev, fun H2 R2 S2 => k H2 R2 (S1.trans S2)⟩
  | false =>
    obtain ⟨rfl, rfl⟩ := eRet_some ev
    exact k H1 R1 S1
theorem dw_or (ha : PT X a (TDT X.mg u)) (hb : PW X (.BoolOp .Or (b :: rest) pos) (TDT X.mg v)) : PW X (.BoolOp .Or (a :: b :: rest) pos) (TDT X.mg (tOr2 u v)) := by
  refine PW.of (pw_or ha hb) ?_
  rintro σ H Q ⟨q, env, r, env', R, ev, k⟩
  obtain ⟨r1, e1, h1, ev⟩ := eBind_some ev
  refine ⟨q, env, r1, e1, R, h1, fun H1 R1 S1 => ?_⟩
  cases r1 with
  | false => exact ⟨q, e1, r, env', R1, ev, fun H2 R2 S2 => k H2 R2 (S1.trans S2)⟩
  | true =>
    obtain ⟨rfl, rfl⟩ := eRet_some ev
    exact k H1 R1 S1
theorem d_one {bo : PySem.BoolOp} (ha : PE X a (TD X.mg f)) : PE X (.BoolOp bo [a] pos) (TD X.mg f) := pe_one ha
theorem d_or (ha : PE X a (TD X.mg f)) (hb : PE X (.BoolOp .Or (b :: rest) pos) (TD X.mg g)) : PE X (.BoolOp .Or (a :: b :: rest) pos) (TD X.mg (eOr2 f g)) := by
  refine PE.of (pe_orT ha hb) ?_
  rintro σ H Q ⟨q, env, r, env', R, ev, k⟩
  obtain ⟨r1, e1, h1, ev⟩ := eBind_some ev
  obtain ⟨d, e2, h2, ev2⟩ := eBind_some ev
  obtain ⟨h2', rfl⟩ := eLook_some h2
  obtain ⟨t, e3, h3, ev3⟩ := eBind_some ev2
  obtain ⟨h3', rfl⟩ := eOpt_some h3
  refine ⟨q, env, r1, e3, R, h1, fun v H1 R1 S1 i1 => ⟨t, truD_ok (i1.look R1 h2') h3', ?_⟩⟩
  cases t with
  | false => exact ⟨q, e3, r, env', R1, ev3, fun v H2 R2 S2 i2 => k v H2 R2 (S1.trans S2) (i2.back S1.dom)⟩
  | true =>
    obtain ⟨rfl, rfl⟩ := eRet_some ev3
    exact k v H1 R1 S1 i1
theorem d_and (ha : PE X a (TD X.mg f)) (hb : PE X (.BoolOp .And (b :: rest) pos) (TD X.mg g)) : PE X (.BoolOp .And (a :: b :: rest) pos) (TD X.mg (eAnd2 f g)) := by
  refine PE.of (pe_andT ha hb) ?_
  rintro σ H Q ⟨q, env, r, env', R, ev, k⟩
  obtain ⟨r1, e1, h1, ev⟩ := eBind_some ev
  obtain ⟨d, e2, h2, ev2⟩ := eBind_some ev
  obtain ⟨h2', rfl⟩ := eLook_some h2
  obtain ⟨t, e3, h3, ev3⟩ := eBind_some ev2
  obtain ⟨h3', rfl⟩ := eOpt_some h3
  refine ⟨q, env, r1, e3, R, h1, fun v H1 R1 S1 i1 => ⟨t, truD_ok (i1.look R1 h2') h3', ?_⟩⟩
  cases t with
  | true => exact ⟨q, e3, r, env', R1, ev3, fun v H2 R2 S2 i2 => k v H2 R2 (S1.trans S2) (i2.back S1.dom)⟩
  | false =>
    obtain ⟨rfl, rfl⟩ := eRet_some ev3
    exact k v H1 R1 S1 i1
theorem d_not (ha : PE X a (TD X.mg f)) : PE X (.UnaryOp .Not a pos) (TD X.mg (eNot f)) := by
  refine PE.of (pe_notT ha) ?_
  rintro σ H Q ⟨q, env, r, env', R, ev, k⟩
  obtain ⟨r1, e1, h1, ev⟩ := eBind_some ev
  obtain ⟨d, e2, h2, ev2⟩ := eBind_some ev
  obtain ⟨h2', rfl⟩ := eLook_some h2
  obtain ⟨t, e3, h3, ev3⟩ := eBind_some ev2
  obtain ⟨h3', rfl⟩ := eOpt_some h3
  obtain ⟨rfl, rfl⟩ := eRet_some ev3
  exact ⟨q, env, r1, env', R, h1, fun v H1 R1 S1 i1 => ⟨t, truD_ok (i1.look R1 h2') h3', k _ H1 R1 S1 .bl⟩⟩
theorem d_ife (hc : PT X c (TDT X.mg u)) (ha : PE X a (TD X.mg f)) (hb : PE X b (TD X.mg g)) : PE X (.IfExp c a b pos) (TD X.mg (eIf u f g)) := by
  refine PE.of (pe_ifExp hc ha hb) ?_
  rintro σ H Q ⟨q, env, r, env', R, ev, k⟩
  obtain ⟨t, e1, h1, ev⟩ := eBind_some ev
  refine ⟨q, env, t, e1, R, h1, fun H1 R1 S1 => ?_⟩
  cases t with
  | true => exact ⟨q, e1, r, env', R1, ev, fun v H2 R2 S2 i2 => k v H2 R2 (S1.trans S2) (i2.back S1.dom)⟩
  | false => exact ⟨q, e1, r, env', R1, ev, fun v H2 R2 S2 i2 => k v H2 R2 (S1.trans S2) (i2.back S1.dom)⟩
/-- a comparison as a test -/
theorem dt_cmp {co : CmpOp} {r : R2} {op : Dat → Dat → Option Out} (hr : OpR X (compareOp co) r) (ho : Op2 X.mg r op) (hm : behindInMarks co b = false) (ha : PE X a (TD X.mg f)) (hb : PE X b (TD X.mg g)) : PT X (.Compare a [co] [b] pos) (TDT X.mg (eBind (eOp2 op f g) fun r => match r with
    | .val (.bl k) => eRet k
    | _ => fun _ => none)) := by
  refine PT.of (pt_cmpR hr ha hb hm) ?_
  rintro σ H Q ⟨q, env, t, env', R, ev, k⟩
  obtain ⟨r1, e1, h1, ev⟩ := eBind_some ev
  refine red2 ho σ H _ ⟨q, env, r1, e1, R, h1, fun v H1 R1 S1 i1 => ?_⟩
  split at ev
  · obtain ⟨rfl, rfl⟩ := eRet_some ev
    cases i1
    exact ⟨_, rfl, k H1 R1 S1⟩
  · cases ev
theorem redC {r r' : R2} {op op' : Dat → Dat → Option Out} (ho : Op2 X.mg r op) (ho' : Op2 X.mg r' op') (σ : L2.St) (H : Hp) (Q : VK) (hh : TD X.mg (eChain op op' f g h) σ H Q) : tChain r r' (TD X.mg f) (TD X.mg g) (TD X.mg h) σ H Q := by
  obtain ⟨q, env, out, env', R, ev, k⟩ := hh
  obtain ⟨r1, e1, h1, ev⟩ := eBind_some ev
  obtain ⟨r2, e2, h2, ev1⟩ := eBind_some ev
  obtain ⟨da, e3, h3, ev2⟩ := eBind_some ev1
  obtain ⟨h3', rfl⟩ := eLook_some h3
  obtain ⟨db, e4, h4, ev3⟩ := eBind_some ev2
  obtain ⟨h4', rfl⟩ := eLook_some h4
  obtain ⟨o, e5, h5, ev4⟩ := eBind_some ev3
  obtain ⟨h5', rfl⟩ := eOpt_some h5
  refine ⟨q, env, r1, e1, R, h1, fun v H1 R1 S1 i1 => ⟨q, e1, r2, e5, R1, h2, fun w H2 R2 S2 i2 => ?_⟩⟩
  refine ho (Prot q e5 σ) H2 da db v w o (fun x hx => R2.prot_in hx) ((i1.step S2).look R2 (by rw [look_weak]; exact h3')) (i2.look R2 h4') h5' _ fun z H3 hx io => ?_
  have R3 := R2.ext hx
  have S3 : StepE e1 σ H1 e5 H3 := S2.trans (.ext hx)
  have i3 := i2.step (StepE.ext (env := e5) (σ := σ) hx)
  split at ev4
  · cases io
    refine ⟨true, rfl, ?_⟩
    obtain ⟨r3, e6, h6, ev5⟩ := eBind_some ev4
    obtain ⟨db', e7, h7, ev6⟩ := eBind_some ev5
    obtain ⟨h7', rfl⟩ := eLook_some h7
    obtain ⟨dc, e8, h8, ev7⟩ := eBind_some ev6
    obtain ⟨h8', rfl⟩ := eLook_some h8
    obtain ⟨o', e9, h9, ev8⟩ := eBind_some ev7
    obtain ⟨h9', rfl⟩ := eOpt_some h9
    obtain ⟨rfl, rfl⟩ := eRet_some ev8
    refine ⟨q, e5, r3, env', R3, h6, fun y H4 R4 S4 i4 => ?_⟩
    refine ho' (Prot q env' σ) H4 db' dc w y o' (fun x hx => R4.prot_in hx) ((i3.step S4).look R4 (by rw [look_weak, look_weak]; exact h7')) (i4.look R4 h8') h9' Q fun z' H' hx' io' => ?_
    exact k z' H' (R4.ext hx') (((S1.trans S3).trans S4).trans (.ext hx')) ((io'.isR R4 hx').back ((S1.trans S3).trans S4).dom)
  · cases io
    refine ⟨false, rfl, ?_⟩
    obtain ⟨rfl, rfl⟩ := eRet_some ev4
    exact k _ H3 R3 (S1.trans S3) .bl
  · cases ev4
theorem d_chain {o1 o2 : CmpOp} {r r' : R2} {op op' : Dat → Dat → Option Out} (hr : OpR X (compareOp o1) r) (hr' : OpR X (compareOp o2) r') (ho : Op2 X.mg r op) (ho' : Op2 X.mg r' op') (hm : behindInMarks o2 c = false)
    (ha : PE X a (TD X.mg f)) (hb : PE X b (TD X.mg g)) (hc : PE X c (TD X.mg h)) : PE X (.Compare a [o1, o2] [b, c] pos) (TD X.mg (eChain op op' f g h)) :=
  PE.of (pe_chain hr hr' ha hb hc hm) (redC ho ho')
end
end DL
/-! Statements as functions of environments; what a def hands back. -/
namespace DL
open PySem PySem.Spec L2
open PyProof.Rows hiding St
/-- how a statement ends -/
inductive O where
  | nx
  | rt (r : R)
  | bk
  | ct
structure Step (env : Env) (σ : L2.St) (H : Hp) (env' : Env) (σ' : L2.St) (H' : Hp) : Prop where
  keep : ∀ b o, H b = some o → ¬ MutAt env σ b → H' b = some o
  dom : ∀ b, H b ≠ none → H' b ≠ none
  mono : ∀ b, MutAt env' σ' b → MutAt env σ b ∨ H b = none
  muts : ∀ (i : Nat) (d : Dat), env[i]? = some (some (.mtb d)) → (∃ d', env'[i]? = some (some (.mtb d'))) ∧ σ'[i]? = σ[i]?
  len : env'.length = env.length
theorem StepE.to {env env' : Env} {σ : L2.St} {H H' : Hp} (s : StepE env σ H env' H') : Step env σ H env' σ H' :=
  ⟨s.keep, s.dom, fun b m => .inl (s.mono b m), fun i d e => ⟨s.muts i d e, rfl⟩, s.len⟩
theorem Step.refl {env : Env} {σ : L2.St} {H : Hp} : Step env σ H env σ H := StepE.refl.to
theorem Step.trans {e0 e1 e2 : Env} {σ0 σ1 σ2 : L2.St} {H0 H1 H2 : Hp} (a : Step e0 σ0 H0 e1 σ1 H1) (b : Step e1 σ1 H1 e2 σ2 H2) : Step e0 σ0 H0 e2 σ2 H2 where
  keep := fun c o e n => b.keep c o (a.keep c o e n) (fun m => (a.mono c m).elim n fun z => by rw [e] at z; cases z)
  dom := fun c h => b.dom c (a.dom c h)
  mono := fun c m => by
    rcases b.mono c m with m | z
    · exact a.mono c m
    · refine .inr ?_
      cases e : H0 c with
      | none => rfl
      | some o => exact absurd z (a.dom c (by rw [e]; simp))
  muts := fun i d e => by
    obtain ⟨⟨d', e'⟩, h⟩ := a.muts i d e
    obtain ⟨r, h'⟩ := b.muts i d' e'
    exact ⟨r, h'.trans h⟩
  len := b.len.trans a.len
section
variable (mg : Str → Option Value)
def TDS (f : EM O) : TS := fun D σ H => ∃ q env o env', Rel mg q env σ H ∧ f env = some (o, env') ∧ match o with
  | .nx => ∀ σ' H', Rel mg q env' σ' H' → Step env σ H env' σ' H' → D.nx σ' H'
  | .bk => ∀ σ' H', Rel mg q env' σ' H' → Step env σ H env' σ' H' → D.bk σ' H'
  | .ct => ∀ σ' H', Rel mg q env' σ' H' → Step env σ H env' σ' H' → D.ct σ' H'
  | .rt r => ∀ v σ' H', Rel mg q env' σ' H' → Step env σ H env' σ' H' → IsR mg q env' σ' H H' r v → D.rt v H'
end
def sSeq (f g : EM O) : EM O := eBind f fun o => match o with
  | .nx => g
  | o => eRet o
def sExp (f : EM R) : EM O := eBind f fun _ => eRet .nx
def sRet (f : EM R) : EM O := eBind f fun r => eRet (.rt r)
theorem PS.of {X : Cx} {st : Stmt} {t t' : TS} (h : PS X st t) (w : ∀ D σ H, t' D σ H → t D σ H) : PS X st t' := ⟨fun pins s σ H Q I x => h.run pins s σ H Q I (w Q σ H x)⟩
theorem PSs.of {X : Cx} {st : List Stmt} {t t' : TS} (h : PSs X st t) (w : ∀ D σ H, t' D σ H → t D σ H) : PSs X st t' := ⟨fun pins s σ H Q I x => h.run pins s σ H Q I (w Q σ H x)⟩
theorem IsR.backS {mg : Str → Option Value} {q : Addr → Prop} {env : Env} {σ : L2.St} {H0 H1 H : Hp} {r : R} {v : V} (h : IsR mg q env σ H0 H r v) (b : ∀ a, H1 a ≠ none → H0 a ≠ none) : IsR mg q env σ H1 H r v := h.back b
/-- a slot is stored: a datum -/
theorem Rel.setVal {mg : Str → Option Value} {q : Addr → Prop} {env : Env} {σ : L2.St} {H : Hp} {i : Nat} {d : Dat} {v : V} (R : Rel mg q env σ H) (hi : i < env.length) (nm : ∀ d, env[i]? ≠ some (some (.mtb d))) (h : IsD mg (Prot q env σ) H d v) :
    Rel mg q (env.set i (some (.val d))) (σ.set i (some v)) H ∧ Step env σ H (env.set i (some (.val d))) (σ.set i (some v)) H := by
  have hs : i < σ.length := by rw [← R.len]; exact hi
  have mm : ∀ b, MutAt (env.set i (some (.val d))) (σ.set i (some v)) b → MutAt env σ b := by
    rintro b ⟨j, s, e1, w, e2⟩
    by_cases hj : i = j
    · subst hj
      rw [List.getElem?_set_self hi] at e1
      cases e1
      cases w
    · rw [List.getElem?_set_ne hj] at e1 e2
      exact ⟨j, s, e1, w, e2⟩
  have hp : ∀ b, Prot q (env.set i (some (.val d))) (σ.set i (some v)) b → Prot q env σ b := fun b z => z.elim .inl (fun m => .inr (mm b m))
  refine ⟨⟨by simpa using R.len, fun j d' e => ?_, fun j s e w => ?_, fun j k s t a e1 w1 e2 w2 h1 h2 => ?_, R.qin⟩, ⟨fun _ _ e _ => e, fun _ z => z, fun b m => .inl (mm b m), fun j d' e => ?_, by simp⟩⟩
  · by_cases hj : i = j
    · subst hj
      rw [List.getElem?_set_self hi] at e
      cases e
      exact ⟨v, List.getElem?_set_self hs, h.mono hp fun _ _ e _ => e⟩
    · rw [List.getElem?_set_ne hj] at e ⊢
      obtain ⟨u, h1, h2⟩ := R.val j d' e
      exact ⟨u, h1, h2.mono hp fun _ _ e _ => e⟩
  · by_cases hj : i = j
    · subst hj
      rw [List.getElem?_set_self hi] at e
      cases e
      cases w
    · rw [List.getElem?_set_ne hj] at e ⊢
      obtain ⟨a, h1, h2, h3⟩ := R.wr j s e w
      exact ⟨a, h1, h2, h3.mono hp (fun _ _ e _ => e) (fun _ e => e)⟩
  · have n1 : i ≠ j := by
      rintro rfl
      rw [List.getElem?_set_self hi] at e1
      cases e1
      cases w1
    have n2 : i ≠ k := by
      rintro rfl
      rw [List.getElem?_set_self hi] at e2
      cases e2
      cases w2
    rw [List.getElem?_set_ne n1] at e1 h1
    rw [List.getElem?_set_ne n2] at e2 h2
    exact R.inj j k s t a e1 w1 e2 w2 h1 h2
  · have n1 : i ≠ j := by
      rintro rfl
      exact nm _ e
    rw [List.getElem?_set_ne n1, List.getElem?_set_ne n1]
    exact ⟨⟨d', e⟩, rfl⟩
/-- a slot is stored: a new object -/
theorem Rel.setOwn {mg : Str → Option Value} {q : Addr → Prop} {env : Env} {σ : L2.St} {H0 H : Hp} {i : Nat} {d : Dat} {v : V} (hi : i < env.length) (nm : ∀ d, env[i]? ≠ some (some (.mtb d))) (h : IsR mg q env σ H0 H (.new d) v) :
    Rel mg q (env.set i (some (.own d))) (σ.set i (some v)) H ∧ ∀ env0, StepE env0 σ H0 env H → Step env0 σ H0 (env.set i (some (.own d))) (σ.set i (some v)) H := by
  obtain ⟨a, rfl, n0, nq, t, R⟩ := h
  have hs : i < σ.length := by rw [← R.len]; exact hi
  have mm : ∀ b, MutAt (env.set i (some (.own d))) (σ.set i (some (.ref a))) b → MutAt env σ b ∨ b = a := by
    rintro b ⟨j, s, e1, w, e2⟩
    by_cases hj : i = j
    · subst hj
      rw [List.getElem?_set_self hs] at e2
      cases e2
      exact .inr rfl
    · rw [List.getElem?_set_ne hj] at e1 e2
      exact .inl ⟨j, s, e1, w, e2⟩
  have hp : ∀ b, Prot q (env.set i (some (.own d))) (σ.set i (some (.ref a))) b → Prot (fun b => q b ∨ b = a) env σ b := fun b z => z.elim (fun z => .inl (.inl z)) (fun m => (mm b m).elim (fun m => .inr m) (fun e => .inl (.inr e)))
  have hp2 : ∀ b, Prot q (env.set i (some (.own d))) (σ.set i (some (.ref a))) b → Prot q env σ b ∨ b = a := fun b z => z.elim (fun z => .inl (.inl z)) (fun m => (mm b m).elim (fun m => .inl (.inr m)) .inr)
  refine ⟨⟨by simpa using R.len, fun j d' e => ?_, fun j s e w => ?_, fun j k s t a' e1 w1 e2 w2 h1 h2 => ?_, fun b z => R.qin b (.inl z)⟩, fun env0 S => ⟨S.keep, S.dom, fun b m => ?_, fun j d' e => ?_, by simpa using S.len⟩⟩
  · by_cases hj : i = j
    · subst hj
      rw [List.getElem?_set_self hi] at e
      cases e
    · rw [List.getElem?_set_ne hj] at e ⊢
      obtain ⟨u, h1, h2⟩ := R.val j d' e
      exact ⟨u, h1, h2.mono hp fun _ _ e _ => e⟩
  · by_cases hj : i = j
    · subst hj
      rw [List.getElem?_set_self hi] at e
      cases e
      exact ⟨a, List.getElem?_set_self hs, nq, t.mono hp2 (fun _ _ e _ => e) (fun _ e => e)⟩
    · rw [List.getElem?_set_ne hj] at e ⊢
      obtain ⟨b, h1, h2, h3⟩ := R.wr j s e w
      exact ⟨b, h1, fun z => h2 (.inl z), h3.mono hp (fun _ _ e _ => e) (fun _ e => e)⟩
  · by_cases n1 : i = j
    · by_cases n2 : i = k
      · rw [← n1, ← n2]
      · subst n1
        rw [List.getElem?_set_self hs] at h1
        cases h1
        rw [List.getElem?_set_ne n2] at e2 h2
        obtain ⟨b, h3, h4, _⟩ := R.wr k t e2 w2
        rw [h2] at h3
        cases h3
        exact absurd (.inr rfl) h4
    · by_cases n2 : i = k
      · subst n2
        rw [List.getElem?_set_self hs] at h2
        cases h2
        rw [List.getElem?_set_ne n1] at e1 h1
        obtain ⟨b, h3, h4, _⟩ := R.wr j s e1 w1
        rw [h1] at h3
        cases h3
        exact absurd (.inr rfl) h4
      · rw [List.getElem?_set_ne n1] at e1 h1
        rw [List.getElem?_set_ne n2] at e2 h2
        exact R.inj j k s t a' e1 w1 e2 w2 h1 h2
  · rcases mm b m with m | m
    · exact .inl (S.mono b m)
    · exact .inr (by rw [m]; exact n0)
  · obtain ⟨d2, e2⟩ := S.muts j d' e
    have n1 : i ≠ j := by
      rintro rfl
      exact nm _ e2
    rw [List.getElem?_set_ne n1, List.getElem?_set_ne n1]
    exact ⟨⟨d2, e2⟩, rfl⟩
@[reducible] def Slot.put : Slot → Dat → Slot
  | .val _, d => .val d
  | .own _, d => .own d
  | .mtb _, d => .mtb d
theorem Slot.put_wr (s : Slot) (d : Dat) : (s.put d).wr = s.wr := by cases s <;> rfl
theorem Slot.put_dat (s : Slot) (d : Dat) : (s.put d).dat = d := by cases s <;> rfl
/-- the object that a slot holds is changed -/
theorem Rel.change {mg : Str → Option Value} {q : Addr → Prop} {env : Env} {σ : L2.St} {H : Hp} {i : Nat} {s : Slot} {a : Addr} {o : HO} {d : Dat} (R : Rel mg q env σ H) (e : env[i]? = some (some s)) (w : s.wr = true) (ha : σ[i]? = some (some (.ref a)))
    (h : IsTop mg (Prot q env σ) (upd H a o) d a) : Rel mg q (env.set i (some (s.put d))) σ (upd H a o) ∧ StepE env σ H (env.set i (some (s.put d))) (upd H a o) := by
  have hi : i < env.length := (List.getElem?_eq_some_iff.mp e).1
  have mm : ∀ b, MutAt (env.set i (some (s.put d))) σ b → MutAt env σ b := by
    rintro b ⟨j, s', e1, w', e2⟩
    by_cases hj : i = j
    · subst hj
      exact ⟨i, s, e, w, e2⟩
    · rw [List.getElem?_set_ne hj] at e1
      exact ⟨j, s', e1, w', e2⟩
  have hp : ∀ b, Prot q (env.set i (some (s.put d))) σ b → Prot q env σ b := fun b z => z.elim .inl (fun m => .inr (mm b m))
  have pa : Prot q env σ a := .inr ⟨i, s, e, w, ha⟩
  have kp : ∀ b u, H b = some u → ¬ Prot q env σ b → upd H a o b = some u := fun b u e n => by
    rw [upd_ne (fun z => n (by rw [z]; exact pa))]
    exact e
  refine ⟨⟨by simpa using R.len, fun j d' e1 => ?_, fun j s' e1 w1 => ?_, fun j k s' t a' e1 w1 e2 w2 h1 h2 => ?_, fun b z => ?_⟩, ⟨fun b u e1 n => ?_, fun b z => ?_, mm, fun j s' e1 => ?_, fun j d' e1 => ?_, by simp⟩⟩
  · by_cases hj : i = j
    · subst hj
      rw [List.getElem?_set_self hi] at e1
      have e2 : s.put d = .val d' := Option.some.inj (Option.some.inj e1)
      have := Slot.put_wr s d
      rw [e2, w] at this
      cases this
    · rw [List.getElem?_set_ne hj] at e1
      obtain ⟨u, h1, h2⟩ := R.val j d' e1
      exact ⟨u, h1, h2.mono hp kp⟩
  · by_cases hj : i = j
    · subst hj
      rw [List.getElem?_set_self hi] at e1
      have e2 : s.put d = s' := Option.some.inj (Option.some.inj e1)
      obtain ⟨b, h1, h2, _⟩ := R.wr i s e w
      rw [ha] at h1
      cases h1
      rw [← e2, Slot.put_dat]
      exact ⟨a, ha, h2, h.mono hp (fun _ _ e _ => e) (fun _ e => e)⟩
    · rw [List.getElem?_set_ne hj] at e1
      obtain ⟨b, h1, h2, h3⟩ := R.wr j s' e1 w1
      have nb : b ≠ a := by
        rintro rfl
        exact hj (R.inj i j s s' b e w e1 w1 ha h1)
      exact ⟨b, h1, h2, h3.mono hp kp (fun u e => by rw [upd_ne nb]; exact e)⟩
  · have g1 : ∃ t1, env[j]? = some (some t1) ∧ t1.wr = true := by
      by_cases hj : i = j
      · subst hj
        exact ⟨s, e, w⟩
      · rw [List.getElem?_set_ne hj] at e1
        exact ⟨s', e1, w1⟩
    have g2 : ∃ t1, env[k]? = some (some t1) ∧ t1.wr = true := by
      by_cases hj : i = k
      · subst hj
        exact ⟨s, e, w⟩
      · rw [List.getElem?_set_ne hj] at e2
        exact ⟨t, e2, w2⟩
    obtain ⟨t1, f1, f2⟩ := g1
    obtain ⟨t2, f3, f4⟩ := g2
    exact R.inj j k t1 t2 a' f1 f2 f3 f4 h1 h2
  · by_cases hb : b = a
    · rw [hb, upd_same]; simp
    · rw [upd_ne hb]; exact R.qin b z
  · rw [upd_ne (fun z => n (by rw [z]; exact ⟨i, s, e, w, ha⟩))]
    exact e1
  · by_cases hb : b = a
    · rw [hb, upd_same]; simp
    · rw [upd_ne hb]; exact z
  · by_cases hj : i = j
    · subst hj
      exact ⟨_, List.getElem?_set_self hi⟩
    · rw [List.getElem?_set_ne hj]
      exact ⟨s', e1⟩
  · by_cases hj : i = j
    · subst hj
      rw [e] at e1
      cases e1
      exact ⟨d, List.getElem?_set_self hi⟩
    · rw [List.getElem?_set_ne hj]
      exact ⟨d', e1⟩
/-! ### storing -/
def isMtb : Option (Option Slot) → Bool
  | some (some (.mtb _)) => true
  | _ => false
def eSet (i : Nat) (r : R) : EM Unit := fun env => if i < env.length ∧ isMtb env[i]? = false then
    match r with
    | .new d => some ((), env.set i (some (.own d)))
    | r => match force env r with
      | some (d, e1) => if isMtb e1[i]? = false then some ((), e1.set i (some (.val d))) else none
      | none => none
  else none
def sSet (i : Nat) (f : EM R) : EM O := eBind f fun r => eBind (eSet i r) fun _ => eRet .nx
theorem not_mtb {o : Option (Option Slot)} (h : isMtb o = false) : ∀ d, o ≠ some (some (.mtb d)) := by
  rintro d rfl
  cases h
theorem eSet_ok {mg : Str → Option Value} {q : Addr → Prop} {env env' : Env} {σ : L2.St} {H0 H : Hp} {i : Nat} {r : R} {v : V} (R : Rel mg q env σ H) (h : IsR mg q env σ H0 H r v) (e : eSet i r env = some ((), env')) :
    Rel mg q env' (σ.set i (some v)) H ∧ ∀ env0, StepE env0 σ H0 env H → Step env0 σ H0 env' (σ.set i (some v)) H := by
  unfold eSet at e
  split at e
  · rename_i hc
    obtain ⟨hi, hm⟩ := hc
    have key : ∀ r', IsR mg q env σ H0 H r' v → (match force env r' with
      | some (d, e1) => if isMtb e1[i]? = false then some ((), e1.set i (some (.val d))) else none
      | none => none) = some ((), env') → Rel mg q env' (σ.set i (some v)) H ∧ ∀ env0, StepE env0 σ H0 env H → Step env0 σ H0 env' (σ.set i (some v)) H := fun r' h' e => by
      cases hf : force env r' with
      | none =>
          rw [hf] at e; cases e
      | some p =>
        rw [hf] at e
        obtain ⟨d, e1⟩ := p
        have e : (if isMtb e1[i]? = false then some ((), e1.set i (some (.val d))) else none) = some ((), env') := e
        split at e
        · rename_i hm1
          cases e
          obtain ⟨R1, S1, hd⟩ := h'.force R hf
          obtain ⟨R2, S2⟩ := R1.setVal (i := i) (by rw [S1.len]; exact hi) (not_mtb hm1) hd
          exact ⟨R2, fun env0 S0 => (S0.trans S1).to.trans S2⟩
        · cases e
    cases r with
    | new d =>
      cases e
      exact Rel.setOwn hi (not_mtb hm) h
    | val d => exact key _ h e
    | bor j => exact key _ h e
  · cases e
section
variable {X : Cx} {a b c e : Expr} {es : List Expr} {st : Stmt} {sts : List Stmt} {pos : Pos} {f g h : EM R} {u : EM Bool} {s t : EM O}
theorem ds_nil : PSs X [] (TDS X.mg (eRet .nx)) := by
  refine PSs.of pss_nil ?_
  rintro D σ H ⟨q, env, r, env', R, ev, k⟩
  obtain ⟨rfl, rfl⟩ := eRet_some ev
  exact k σ H R .refl
theorem TDS.seq {mg : Str → Option Value} {D : Ends} {σ : L2.St} {H : Hp} (hh : TDS mg (sSeq s t) D σ H) : TDS mg s { D with nx := TDS mg t D } σ H := by
  obtain ⟨q, env, o, env', R, ev, k⟩ := hh
  obtain ⟨o1, e1, h1, ev1⟩ := eBind_some ev
  refine ⟨q, env, o1, e1, R, h1, ?_⟩
  cases o1 with
  | nx =>
    intro σ1 H1 R1 S1
    refine ⟨q, e1, o, env', R1, ev1, ?_⟩
    cases o with
    | nx => exact fun σ2 H2 R2 S2 => k σ2 H2 R2 (S1.trans S2)
    | bk => exact fun σ2 H2 R2 S2 => k σ2 H2 R2 (S1.trans S2)
    | ct => exact fun σ2 H2 R2 S2 => k σ2 H2 R2 (S1.trans S2)
    | rt r => exact fun v σ2 H2 R2 S2 i2 => k v σ2 H2 R2 (S1.trans S2) (i2.back S1.dom)
  | bk =>
    obtain ⟨rfl, rfl⟩ := eRet_some ev1
    exact k
  | ct =>
    obtain ⟨rfl, rfl⟩ := eRet_some ev1
    exact k
  | rt r =>
    obtain ⟨rfl, rfl⟩ := eRet_some ev1
    exact k
theorem ds_cons (h1 : PS X st (TDS X.mg s)) (h2 : PSs X sts (TDS X.mg t)) : PSs X (st :: sts) (TDS X.mg (sSeq s t)) := PSs.of (pss_cons h1 h2) fun _ _ _ hh => hh.seq
theorem ds_one (h1 : PS X st (TDS X.mg s)) : PSs X [st] (TDS X.mg s) := pss_one h1
theorem ds_never : PS X st (TDS X.mg (fun _ => none)) := by
  refine PS.of ps_never ?_
  rintro D σ H ⟨q, env, r, env', R, ev, k⟩
  cases ev
theorem dss_never : PSs X sts (TDS X.mg (fun _ => none)) := by
  refine PSs.of pss_never ?_
  rintro D σ H ⟨q, env, r, env', R, ev, k⟩
  cases ev
theorem ds_expr (hs : swapsWith e none pos.line X.env = pure false) (he : PE X e (TD X.mg f)) : PS X (.Expr e pos) (TDS X.mg (sExp f)) := by
  refine PS.of (ps_expr he hs) ?_
  rintro D σ H ⟨q, env, o, env', R, ev, k⟩
  obtain ⟨r1, e1, h1, ev1⟩ := eBind_some ev
  obtain ⟨rfl, rfl⟩ := eRet_some ev1
  exact ⟨q, env, r1, env', R, h1, fun v H1 R1 S1 _ => k σ H1 R1 S1.to⟩
theorem ds_ret (he : PE X e (TD X.mg f)) : PS X (.Return (some e) pos) (TDS X.mg (sRet f)) := by
  refine PS.of (ps_ret he) ?_
  rintro D σ H ⟨q, env, o, env', R, ev, k⟩
  obtain ⟨r1, e1, h1, ev1⟩ := eBind_some ev
  obtain ⟨rfl, rfl⟩ := eRet_some ev1
  exact ⟨q, env, r1, env', R, h1, fun v H1 R1 S1 i1 => k v σ H1 R1 S1.to i1⟩
theorem ds_retN : PS X (.Return none pos) (TDS X.mg (eRet (.rt (.val .non)))) := by
  refine PS.of ps_retN ?_
  rintro D σ H ⟨q, env, o, env', R, ev, k⟩
  obtain ⟨rfl, rfl⟩ := eRet_some ev
  exact k .non σ H R .refl .non
theorem ds_pass : PS X (.Pass pos) (TDS X.mg (eRet .nx)) := by
  refine PS.of ps_pass ?_
  rintro D σ H ⟨q, env, o, env', R, ev, k⟩
  obtain ⟨rfl, rfl⟩ := eRet_some ev
  exact k σ H R .refl
theorem ds_break : PS X (.Break pos) (TDS X.mg (eRet .bk)) := by
  refine PS.of ps_break ?_
  rintro D σ H ⟨q, env, o, env', R, ev, k⟩
  obtain ⟨rfl, rfl⟩ := eRet_some ev
  exact k σ H R .refl
theorem ds_continue : PS X (.Continue pos) (TDS X.mg (eRet .ct)) := by
  refine PS.of ps_continue ?_
  rintro D σ H ⟨q, env, o, env', R, ev, k⟩
  obtain ⟨rfl, rfl⟩ := eRet_some ev
  exact k σ H R .refl
theorem ds_if {sa sb : List Stmt} (hc : PT X c (TDT X.mg u)) (ha : PSs X sa (TDS X.mg s)) (hb : PSs X sb (TDS X.mg t)) : PS X (.If c sa sb pos) (TDS X.mg (eIf u s t)) := by
  refine PS.of (ps_if hc ha hb) ?_
  rintro D σ H ⟨q, env, o, env', R, ev, k⟩
  obtain ⟨b, e1, h1, ev1⟩ := eBind_some ev
  refine ⟨q, env, b, e1, R, h1, fun H1 R1 S1 => ?_⟩
  have fin : ∀ {x : EM O}, x e1 = some (o, env') → TDS X.mg x D σ H1 := fun hx => by
    refine ⟨q, e1, o, env', R1, hx, ?_⟩
    cases o with
    | nx => exact fun σ2 H2 R2 S2 => k σ2 H2 R2 (S1.to.trans S2)
    | bk => exact fun σ2 H2 R2 S2 => k σ2 H2 R2 (S1.to.trans S2)
    | ct => exact fun σ2 H2 R2 S2 => k σ2 H2 R2 (S1.to.trans S2)
    | rt r => exact fun v σ2 H2 R2 S2 i2 => k v σ2 H2 R2 (S1.to.trans S2) (i2.back S1.dom)
  cases b with
  | true => exact fin ev1
  | false => exact fin ev1
theorem ds_set {i : Nat} {x : Str} {pos' : Pos} (hN : X.N.Nodup) (hi : X.N[i]? = some x) (hx : Loc X.env.scope x) (hf : X.fn x = true ∨ X.env.scope.names.lookup x = some .local) (hs : swapsWith e (some (.Name x pos')) pos.line X.env = pure false) (he : PE X e (TD X.mg f)) :
    PS X (.Assign [.Name x pos'] e pos) (TDS X.mg (sSet i f)) := by
  refine PS.of (ps_set hN hi hx he hs hf) ?_
  rintro D σ H ⟨q, env, o, env', R, ev, k⟩
  obtain ⟨r1, e1, h1, ev1⟩ := eBind_some ev
  obtain ⟨⟨⟩, e2, h2, ev2⟩ := eBind_some ev1
  obtain ⟨rfl, rfl⟩ := eRet_some ev2
  refine ⟨q, env, r1, e1, R, h1, fun v H1 R1 S1 i1 => ?_⟩
  obtain ⟨R2, S2⟩ := eSet_ok R1 i1 h2
  exact k _ H1 R2 (S2 env S1)
end
/-! ### defs -/
/-- a def as a function of its parameters: what it hands back, and what has become of those that it may change -/
def merge : Env → Env → Env
  | [], _ => []
  | e :: es, [] => e :: es
  | e :: es, f :: fs => (if isMtb (some e) = true then f else e) :: merge es fs
def out (env : Env) : R → Option R
  | .val d => some (.val d)
  | .new d => some (.new d)
  | .bor i => match env[i]? with
    | some (some (.val d)) => some (.val d)
    | some (some (.own d)) => some (.new d)
    | _ => none
/-- run with n slots in all -/
def runB (n : Nat) (body : EM O) : EM R := fun env => match body (env ++ List.replicate (n - env.length) none) with
  | some (.rt r, e1) => (out e1 r).map fun r => (r, merge env e1)
  | some (.nx, e1) => some (.val .non, merge env e1)
  | _ => none
def spF (mg : Str → Option Value) (n : Nat) (F : EM R) : Sp := fun vs H Q _ => vs.length = n ∧ TD mg F (vs.map some) H Q
theorem merge_len : ∀ (a b : Env), (merge a b).length = a.length
  | [], _ => rfl
  | _ :: _, [] => rfl
  | _ :: es, _ :: fs => by
    show (merge es fs).length + 1 = es.length + 1
    rw [merge_len es fs]
theorem merge_get : ∀ (a b : Env) (i : Nat), (merge a b)[i]? = (if isMtb a[i]? = true ∧ i < b.length then b[i]? else a[i]?)
  | [], b, i => by simp [merge, isMtb]
  | e :: es, [], i => by simp [merge]
  | e :: es, f :: fs, 0 => by
    show some (if isMtb (some e) = true then f else e) = _
    simp only [List.getElem?_cons_zero, List.length_cons, Nat.zero_lt_succ, and_true]
    split <;> rfl
  | e :: es, f :: fs, i + 1 => by
    show (merge es fs)[i]? = _
    rw [merge_get es fs i]
    simp
section
variable {mg : Str → Option Value} {q : Addr → Prop} {env e1 : Env} {vs : List V} {H H' : Hp} {m : Nat} {σ' : L2.St}
theorem get_app {env : Env} {k i : Nat} {s : Slot} (h : (env ++ List.replicate k none)[i]? = some (some s)) : env[i]? = some (some s) := by
  by_cases hi : i < env.length
  · rw [List.getElem?_append_left hi] at h
    exact h
  · rw [List.getElem?_append_right (by omega), List.getElem?_replicate] at h
    split at h <;> cases h
theorem app_get {env : Env} {k i : Nat} {s : Slot} (h : env[i]? = some (some s)) : (env ++ List.replicate k none)[i]? = some (some s) := by
  rw [List.getElem?_append_left (List.getElem?_eq_some_iff.mp h).1]
  exact h
theorem st_get {vs : List V} {k i : Nat} {v : V} : (vs.map some ++ List.replicate k none)[i]? = some (some v) ↔ (vs.map some)[i]? = some (some v) := by
  by_cases hi : i < (vs.map some).length
  · rw [List.getElem?_append_left hi]
  · rw [List.getElem?_append_right (by omega), List.getElem?_replicate]
    rw [List.getElem?_eq_none
        (by omega)]
    constructor
    · intro h
      split at h <;> cases h
    · intro h
      cases h
theorem mutAt_app {env : Env} {vs : List V} {j k : Nat} {a : Addr} : MutAt (env ++ List.replicate k none) (vs.map some ++ List.replicate j none) a ↔ MutAt env (vs.map some) a := by
  constructor
  · rintro ⟨i, s, e, w, h⟩
    exact ⟨i, s, get_app e, w, st_get.mp h⟩
  · rintro ⟨i, s, e, w, h⟩
    exact ⟨i, s, app_get e, w, st_get.mpr h⟩
theorem Rel.pad {N : List Str} (R : Rel mg q env (vs.map some) H) (hn : vs.length ≤ N.length) : Rel mg q (env ++ List.replicate (N.length - env.length) none) (L2.start N vs) H := by
  have hl : env.length = vs.length := by simpa using R.len
  have hp : ∀ a, Prot q (env ++ List.replicate (N.length - env.length) none) (L2.start N vs) a → Prot q env (vs.map some) a := fun a z => z.elim .inl fun m => .inr (mutAt_app.mp m)
  refine ⟨by simp [L2.start, hl], fun i d e => ?_, fun i s e w => ?_, fun i j s t a e1 w1 e2 w2 h1 h2 => R.inj i j s t a (get_app e1) w1 (get_app e2) w2 (st_get.mp h1) (st_get.mp h2), R.qin⟩
  · obtain ⟨v, h1, h2⟩ := R.val i d (get_app e)
    exact ⟨v, st_get.mpr h1, h2.mono hp fun _ _ e _ => e⟩
  · obtain ⟨a, h1, h2, h3⟩ := R.wr i s (get_app e) w
    exact ⟨a, st_get.mpr h1, h2, h3.mono hp (fun _ _ e _ => e) (fun _ e => e)⟩
theorem isMtb_iff {o : Option (Option Slot)} : isMtb o = true ↔ ∃ d, o = some (some (.mtb d)) := by
  constructor
  · intro h
    unfold isMtb at h
    split at h
    · exact ⟨_, rfl⟩
    · cases h
  · rintro ⟨d, rfl⟩
    rfl
/-- only what may be changed is changed -/
def noOwn (env : Env) : Prop := ∀ (i : Nat) (d : Dat), env[i]? ≠ some (some (.own d))
/-- behind a def's body -/
theorem fin_def {N : List Str} (no : noOwn env) (R : Rel mg q env (vs.map some) H) (hn : vs.length ≤ N.length) {q1 : Addr → Prop} (R1 : Rel mg q1 e1 σ' H') (hq : ∀ a, q1 a → q a ∨ H a = none) (S : Step (env ++ List.replicate (N.length - env.length) none) (L2.start N vs) H e1 σ' H') :
    Rel mg (fun a => q1 a) (merge env e1) (vs.map some) H' ∧ StepE env (vs.map some) H (merge env e1) H' ∧ (∀ a, Prot q1 (merge env e1) (vs.map some) a → Prot q1 e1 σ' a) := by
  have hl : env.length = vs.length := by simpa using R.len
  have he : e1.length = N.length := by
    rw [S.len, List.length_append, List.length_replicate]
    omega
  -- a slot of the merged environment that may be changed
  have mt : ∀ (i : Nat) (s : Slot), (merge env e1)[i]? = some (some s) → s.wr = true → (∃ d, env[i]? = some (some (.mtb d))) ∧ e1[i]? = some (some s) ∧ (∀ a, (vs.map some)[i]? = some (some (.ref a)) ↔ σ'[i]? = some (some (.ref a))) := fun i s e w => by
    rw [merge_get] at e
    split at e
    · rename_i hc
      obtain ⟨d, hd⟩ := isMtb_iff.mp hc.1
      obtain ⟨_, hs⟩ := S.muts i d (app_get hd)
      exact ⟨⟨d, hd⟩, e, fun a => by rw [hs]; exact st_get.symm⟩
    · rename_i hc
      cases s with
      | val d => cases w
      | own d => exact absurd e (no i d)
      | mtb d =>
        have hi : i < env.length := (List.getElem?_eq_some_iff.mp e).1
        exact absurd ⟨isMtb_iff.mpr ⟨d, e⟩, by omega⟩ hc
  have ma : ∀ a, MutAt (merge env e1) (vs.map some) a → MutAt e1 σ' a ∧ MutAt env (vs.map some) a := fun a ⟨i, s, e, w, h⟩ => by
    obtain ⟨⟨d, h1⟩, h2, h3⟩ := mt i s e w
    exact ⟨⟨i, s, h2, w, (h3 a).mp h⟩, ⟨i, _, h1, rfl, h⟩⟩
  have hp : ∀ a, Prot q1 (merge env e1) (vs.map some) a → Prot q1 e1 σ' a := fun a z => z.elim .inl fun m => .inr (ma a m).1
  refine ⟨⟨by rw [merge_len]; exact R.len, fun i d e => ?_, fun i s e w => ?_, fun i j s t a f1 w1 f2 w2 h1 h2 => ?_, R1.qin⟩, ⟨fun b o e n => S.keep b o e fun m => n (mutAt_app.mp m), S.dom, fun b m => (ma b m).2, fun i s e => ?_, fun i d e => ?_, merge_len _ _⟩, hp⟩
  · have h0 : env[i]? = some (some (.val d)) := by
      rw [merge_get] at e
      split at e
      · rename_i hc
        obtain ⟨d', hd⟩ := isMtb_iff.mp hc.1
        obtain ⟨⟨d2, h2⟩, _⟩ := S.muts i d' (app_get hd)
        rw [h2] at e
        cases e
      · exact e
    obtain ⟨v, h1, h2⟩ := R.val i d h0
    refine ⟨v, h1, h2.all.mono (fun a z => ?_) fun b o e n => S.keep b o e fun m => n (.inl (.inr (mutAt_app.mp m)))⟩
    rcases z with z | m
    · exact (hq a z).elim (fun z => .inl (.inl z)) .inr
    · exact .inl (.inr (ma a m).2)
  · obtain ⟨_, h2, h3⟩ := mt i s e w
    obtain ⟨a, g1, g2, g3⟩ := R1.wr i s h2 w
    exact ⟨a, (h3 a).mpr g1, g2, g3.mono hp (fun _ _ e _ => e) (fun _ e => e)⟩
  · obtain ⟨_, g1, g2⟩ := mt i s f1 w1
    obtain ⟨_, g3, g4⟩ := mt j t f2 w2
    exact R1.inj i j s t a g1 w1 g3 w2 ((g2 a).mp h1) ((g4 a).mp h2)
  · rw [merge_get]
    split
    · rename_i hc
      obtain ⟨d', hd⟩ := isMtb_iff.mp hc.1
      obtain ⟨⟨d2, h2⟩, _⟩ := S.muts i d' (app_get hd)
      exact ⟨_, h2⟩
    · exact ⟨s, e⟩
  · rw [merge_get, if_pos ⟨isMtb_iff.mpr ⟨d, e⟩, by have := (List.getElem?_eq_some_iff.mp e).1; omega⟩]
    obtain ⟨h, _⟩ := S.muts i d (app_get e)
    exact h
/-- what a def's body hands back -/
theorem fin_out {N : List Str} (no : noOwn env) (R : Rel mg q env (vs.map some) H) (hn : vs.length ≤ N.length) {r r' : DL.R} {v : V} (R1 : Rel mg q e1 σ' H') (S : Step (env ++ List.replicate (N.length - env.length) none) (L2.start N vs) H e1 σ' H')
    (h : IsR mg q e1 σ' H H' r v) (e : out e1 r = some r') : IsR mg q (merge env e1) (vs.map some) H H' r' v := by
  obtain ⟨R2, S2, hp⟩ := fin_def no R hn R1 (fun a z => .inl z) S
  cases r with
  | val d =>
    cases e
    exact IsD.mono hp (fun _ _ e _ => e) h
  | new d =>
    cases e
    obtain ⟨a, rfl, n, nq, t, R3⟩ := h
    obtain ⟨R4, _, _⟩ := fin_def no R hn R3 (fun b z => z.elim .inl fun e => .inr (by rw [e]; exact n)) S
    exact ⟨a, rfl, n, nq, t.mono (fun b z => z.elim (fun z => .inl (hp b z)) .inr) (fun _ _ e _ => e) (fun _ e => e), R4⟩
  | bor i =>
    obtain ⟨ev, s, hs⟩ := h
    simp only [out, hs] at e
    cases s with
    | mtb d => cases e
    | val d =>
      cases e
      obtain ⟨v', h1, h2⟩ := R1.val i d hs
      rw [ev] at h1
      cases h1
      exact IsD.mono hp (fun _ _ e _ => e) h2
    | own d =>
      cases e
      obtain ⟨a, h1, nq, t⟩ := R1.wr i _ hs rfl
      rw [ev] at h1
      cases h1
      -- the slot's object: made in this def, and in no other slot
      have na : ∀ (j : Nat) (t' : Slot), (merge env e1)[j]? = some (some t') → t'.wr = true → (vs.map some)[j]? ≠ some (some (V.ref a)) := fun j t' e2 w2 h2 => by
        rw [merge_get] at e2
        split at e2
        · rename_i hc
          obtain ⟨d', hd⟩ := isMtb_iff.mp hc.1
          obtain ⟨⟨d2, g1⟩, g2⟩ := S.muts j d' (app_get hd)
          have g3 : σ'[j]? = some (some (.ref a)) := by rw [g2]; exact st_get.mpr h2
          have ij : i = j := R1.inj i j _ _ a hs rfl e2 w2 ev g3
          subst ij
          rw [hs] at g1
          cases g1
        · rename_i hc
          cases t' with
          | val d' => cases w2
          | own d' => exact no j d' e2
          | mtb d' =>
            have hi : j < env.length := (List.getElem?_eq_some_iff.mp e2).1
            have he : e1.length = N.length := by
              have hl : env.length = vs.length := by simpa using R.len
              rw [S.len, List.length_append, List.length_replicate]
              omega
            have hl : env.length = vs.length := by simpa using R.len
            exact hc ⟨isMtb_iff.mpr ⟨d', e2⟩, by omega⟩
      have n0 : H a = none := by
        rcases S.mono a ⟨i, _, hs, rfl, ev⟩ with m | m
        · obtain ⟨j, t', e2, w2, h2⟩ := mutAt_app.mp m
          exfalso
          cases t' with
          | val d' => cases w2
          | own d' => exact no j d' e2
          | mtb d' =>
            obtain ⟨d2, g1⟩ := S2.muts j d' e2
            exact na j _ g1 rfl h2
        · exact m
      have np : ∀ b, Prot q (merge env e1) (vs.map some) b → b ≠ a := fun b z e => by
        subst e
        rcases z with z | ⟨j, t', e2, w2, h2⟩
        · exact nq z
        · exact na j t' e2 w2 h2
      refine ⟨a, rfl, n0, nq, t.mono (fun b z => ?_) (fun _ _ e _ => e) (fun _ e => e), ?_⟩
      · rcases z with z | z
        · exact hp b z
        · rw [z]
          exact .inr ⟨i, _, hs, rfl, ev⟩
      · -- the parameters' data are apart from it
        refine ⟨R2.len, fun j d' e2 => ?_, fun j t' e2 w2 => ?_, R2.inj, fun b z => ?_⟩
        · have h0 : env[j]? = some (some (.val d')) := by
            rw [merge_get] at e2
            split at e2
            · rename_i hc
              obtain ⟨d3, hd⟩ := isMtb_iff.mp hc.1
              obtain ⟨⟨d2, h2⟩, _⟩ := S.muts j d3 (app_get hd)
              rw [h2] at e2
              cases e2
            · exact e2
          obtain ⟨v', h1, h2⟩ := R.val j d' h0
          refine ⟨v', h1, h2.all.mono (fun b z => ?_) fun b o e n => S.keep b o e fun m => n (.inl (.inr (mutAt_app.mp m)))⟩
          rcases z with (z | z) | z
          · exact .inl (.inl z)
          · rw [z]
            exact .inr n0
          · exact .inl (.inr (by
              obtain ⟨k, t2, f1, f2, f3⟩ := z
              exact S2.mono b ⟨k, t2, f1, f2, f3⟩))
        · obtain ⟨b, g1, g2, g3⟩ := R2.wr j t' e2 w2
          have gg := e2
          rw [merge_get] at gg
          have ge : e1[j]? = some (some t') := by
            split at gg
            · exact gg
            · rename_i hc
              cases t' with
              | val d' => cases w2
              | own d' => exact absurd gg (no j d')
              | mtb d' =>
                have hi : j < env.length := (List.getElem?_eq_some_iff.mp gg).1
                have he : e1.length = N.length := by
                  have hl : env.length = vs.length := by simpa using R.len
                  rw [S.len, List.length_append, List.length_replicate]
                  omega
                have hl : env.length = vs.length := by simpa using R.len
                exact absurd ⟨isMtb_iff.mpr ⟨d', gg⟩, by omega⟩ hc
          obtain ⟨b', k1, k2, k3⟩ := R1.wr j t' ge w2
          have sj : σ'[j]? = some (some (.ref b)) := by
            rw [merge_get] at e2
            split at e2
            · rename_i hc
              obtain ⟨d3, hd⟩ := isMtb_iff.mp hc.1
              obtain ⟨_, g⟩ := S.muts j d3 (app_get hd)
              rw [g]
              exact st_get.mpr g1
            · rename_i hc
              cases t' with
              | val d' => cases w2
              | own d' => exact absurd e2 (no j d')
              | mtb d' =>
                have hi : j < env.length := (List.getElem?_eq_some_iff.mp e2).1
                have he : e1.length = N.length := by
                  have hl : env.length = vs.length := by simpa using R.len
                  rw [S.len, List.length_append, List.length_replicate]
                  omega
                have hl : env.length = vs.length := by simpa using R.len
                exact absurd ⟨isMtb_iff.mpr ⟨d', e2⟩, by omega⟩ hc
          rw [sj] at k1
          cases k1
          refine ⟨b, g1, fun z => z.elim g2 fun e => na j t' e2 w2 (by rw [← e]; exact g1), k3.mono (fun c z => ?_) (fun _ _ e _ => e) (fun _ e => e)⟩
          rcases z with (z | z) | z
          · exact .inl z
          · rw [z]
            exact .inr ⟨i, _, hs, rfl, ev⟩
          · exact hp c (.inr z)
        · rcases z with z | z
          · exact R2.qin b z
          · rw [z]
            exact t.at
end
end DL
/-! Defs and calls. -/
namespace DL
open PySem PySem.Spec L2
open PyProof.Rows hiding St
/-- the object that a slot holds is changed, and new ones come (some of which are to be apart) -/
theorem Rel.changeQ {mg : Str → Option Value} {q q1 : Addr → Prop} {env : Env} {σ : L2.St} {H H' : Hp} {i : Nat} {s : Slot} {a : Addr} {d : Dat} (R : Rel mg q env σ H) (e : env[i]? = some (some s)) (w : s.wr = true) (ha : σ[i]? = some (some (.ref a)))
    (keep : ∀ b u, H b = some u → b ≠ a → H' b = some u) (hq : ∀ b, q1 b → q b ∨ H b = none) (hin : ∀ b, q1 b → H' b ≠ none) (h : IsTop mg (Prot q1 env σ) H' d a) : Rel mg q1 (env.set i (some (s.put d))) σ H' := by
  have hi : i < env.length := (List.getElem?_eq_some_iff.mp e).1
  have mm : ∀ b, MutAt (env.set i (some (s.put d))) σ b → MutAt env σ b := by
    rintro b ⟨j, s', e1, w', e2⟩
    by_cases hj : i = j
    · subst hj
      exact ⟨i, s, e, w, e2⟩
    · rw [List.getElem?_set_ne hj] at e1
      exact ⟨j, s', e1, w', e2⟩
  have hp : ∀ b, Prot q1 (env.set i (some (s.put d))) σ b → Prot q1 env σ b := fun b z => z.elim .inl (fun m => .inr (mm b m))
  have hp2 : ∀ b, Prot q1 (env.set i (some (s.put d))) σ b → Prot q env σ b ∨ H b = none := fun b z => z.elim (fun z => (hq b z).elim (fun z => .inl (.inl z)) .inr) (fun m => .inl (.inr (mm b m)))
  have pa : Prot q env σ a := .inr ⟨i, s, e, w, ha⟩
  have kp : ∀ b u, H b = some u → ¬ (Prot q env σ b ∨ H b = none) → H' b = some u := fun b u e n => keep b u e fun z => n (.inl (by rw [z]; exact pa))
  obtain ⟨a0, ha0, nqa, ta⟩ := R.wr i s e w
  rw [ha] at ha0
  cases ha0
  refine ⟨by simpa using R.len, fun j d' e1 => ?_, fun j s' e1 w1 => ?_, fun j k s' t a' e1 w1 e2 w2 h1 h2 => ?_, hin⟩
  · by_cases hj : i = j
    · subst hj
      rw [List.getElem?_set_self hi] at e1
      have e2 : s.put d = .val d' := Option.some.inj (Option.some.inj e1)
      have := Slot.put_wr s d
      rw [e2, w] at this
      cases this
    · rw [List.getElem?_set_ne hj] at e1
      obtain ⟨u, h1, h2⟩ := R.val j d' e1
      exact ⟨u, h1, h2.all.mono hp2 kp⟩
  · by_cases hj : i = j
    · subst hj
      rw [List.getElem?_set_self hi] at e1
      have e2 : s.put d = s' := Option.some.inj (Option.some.inj e1)
      rw [← e2, Slot.put_dat]
      exact ⟨a, ha, fun z => (hq a z).elim nqa ta.at, h.mono hp (fun _ _ e _ => e) (fun _ e => e)⟩
    · rw [List.getElem?_set_ne hj] at e1
      obtain ⟨b, h1, h2, h3⟩ := R.wr j s' e1 w1
      have nb : b ≠ a := by
        rintro rfl
        exact hj (R.inj i j s s' b e w e1 w1 ha h1)
      exact ⟨b, h1, fun z => (hq b z).elim h2 h3.at, h3.all.mono hp2 kp (fun u e => keep b u e nb)⟩
  · have g1 : ∃ t1, env[j]? = some (some t1) ∧ t1.wr = true := by
      by_cases hj : i = j
      · subst hj
        exact ⟨s, e, w⟩
      · rw [List.getElem?_set_ne hj] at e1
        exact ⟨s', e1, w1⟩
    have g2 : ∃ t1, env[k]? = some (some t1) ∧ t1.wr = true := by
      by_cases hj : i = k
      · subst hj
        exact ⟨s, e, w⟩
      · rw [List.getElem?_set_ne hj] at e2
        exact ⟨t, e2, w2⟩
    obtain ⟨t1, f1, f2⟩ := g1
    obtain ⟨t2, f3, f4⟩ := g2
    exact R.inj j k t1 t2 a' f1 f2 f3 f4 h1 h2
theorem StepE.change {env : Env} {σ : L2.St} {H H' : Hp} {i : Nat} {s : Slot} {a : Addr} {d : Dat} (e : env[i]? = some (some s)) (w : s.wr = true) (ha : σ[i]? = some (some (.ref a)))
    (keep : ∀ b u, H b = some u → b ≠ a → H' b = some u) (dom : ∀ b, H b ≠ none → H' b ≠ none) : StepE env σ H (env.set i (some (s.put d))) H' := by
  have hi : i < env.length := (List.getElem?_eq_some_iff.mp e).1
  have mm : ∀ b, MutAt (env.set i (some (s.put d))) σ b → MutAt env σ b := by
    rintro b ⟨j, s', e1, w', e2⟩
    by_cases hj : i = j
    · subst hj
      exact ⟨i, s, e, w, e2⟩
    · rw [List.getElem?_set_ne hj] at e1
      exact ⟨j, s', e1, w', e2⟩
  refine ⟨fun b u e1 n => keep b u e1 fun z => n (by rw [z]; exact ⟨i, s, e, w, ha⟩), dom, mm, fun j s' e1 => ?_, fun j d' e1 => ?_, by simp⟩
  · by_cases hj : i = j
    · subst hj
      exact ⟨_, List.getElem?_set_self hi⟩
    · rw [List.getElem?_set_ne hj]
      exact ⟨s', e1⟩
  · by_cases hj : i = j
    · subst hj
      rw [e] at e1
      cases e1
      exact ⟨d, List.getElem?_set_self hi⟩
    · rw [List.getElem?_set_ne hj]
      exact ⟨d', e1⟩
theorem Rel.changeG {mg : Str → Option Value} {q : Addr → Prop} {env : Env} {σ : L2.St} {H H' : Hp} {i : Nat} {s : Slot} {a : Addr} {d : Dat} (R : Rel mg q env σ H) (e : env[i]? = some (some s)) (w : s.wr = true) (ha : σ[i]? = some (some (.ref a)))
    (keep : ∀ b u, H b = some u → b ≠ a → H' b = some u) (dom : ∀ b, H b ≠ none → H' b ≠ none) (h : IsTop mg (Prot q env σ) H' d a) : Rel mg q (env.set i (some (s.put d))) σ H' ∧ StepE env σ H (env.set i (some (s.put d))) H' :=
  ⟨R.changeQ e w ha keep (fun b z => .inl z) (fun b z => dom b (R.qin b z)) h, .change e w ha keep dom⟩
def noOwnB (env : Env) : Bool := env.all fun s => match s with
  | some (.own _) => false
  | _ => true
theorem noOwn_of {env : Env} (h : noOwnB env = true) : noOwn env := fun i d e => by
  have := List.all_eq_true.mp h _ (List.mem_of_getElem? e)
  cases this
/-- a def with np parameters and n slots -/
def runF (n np : Nat) (body : EM O) : EM R := fun env => if noOwnB env = true ∧ env.length = np then runB n body env else none
theorem fn_ok {P : Program} {w : World} {K : PySem.W.Frag} {mg : Str → Option Value} {base : Heap} {x qual : Str} {params : Arguments} {body : List Stmt} {scope : Scope} {dvs : List V} {kws : List (Str × V)} {f : Addr} {fd : FuncData} {N ps : List Str} {k : Nat} {fb : EM O}
    (F : FunD K x qual params body scope dvs kws f fd) (S : FnScope N ps scope)
    (hb : ∀ (cdv : Value) (A : Around) (outer : List PySem.Env) (s : Shared) (H : Hp) (E : XK), Room k (A.deeper (envOfC qual scope s.heap.objs.size f cdv)) → PSs (cxOf CX0 P w K mg base N qual scope f cdv A outer s H E) body (TDS mg fb)) :
    FnOk P w K mg base CX0 (k + 1) f fd ps (spF mg ps.length (runF N.length ps.length fb)) := by
  refine F.ok S (fun vs H Q E h => h.1) (fun cdv A outer s H vs Q E hr h => ?_)
  obtain ⟨hl, q, env, r, env', R, ev, kk⟩ := h
  refine ⟨_, hb cdv A outer s H E hr, ?_⟩
  unfold runF at ev
  split at ev
  · rename_i hc
    have no := noOwn_of hc.1
    have hpl : ps.length ≤ N.length :=
        by have := congrArg List.length S.pre; rw [List.length_take] at this; omega
    have hvn : vs.length ≤ N.length := by rw [hl]; exact hpl
    unfold runB at ev
    split at ev
    · rename_i r0 e1 he
      cases ho : out e1 r0 with
      | none => rw [ho] at ev; cases ev
      | some r1 =>
        rw [ho] at ev
        cases ev
        refine ⟨q, _, .rt r0, e1, R.pad hvn, he, fun v σ' H' R1 S1 i1 => ?_⟩
        obtain ⟨R2, S2, _⟩ := fin_def no R hvn R1 (fun a z => .inl z) S1
        exact kk v H' R2 S2 (fin_out no R hvn R1 S1 i1 ho)
    · rename_i e1 he
      cases ev
      refine ⟨q, _, .nx, e1, R.pad hvn, he, fun σ' H' R1 S1 => ?_⟩
      obtain ⟨R2, S2, _⟩ := fin_def no R hvn R1 (fun a z => .inl z) S1
      exact kk .non H' R2 S2 .non
    · cases ev
  · cases ev
/-! ### calls -/
/-- all arguments data that nothing changes -/
def eCallV (F : EM R) (fs : EM (List R)) : EM R := eBind fs fun rs => eBind (eForces rs) fun ds => fun env => match F (ds.map fun d => some (.val d)) with
  | some (.val d, _) => some (.val d, env)
  | some (.new d, _) => some (.new d, env)
  | _ => none
/-- the first argument is one that the def may change -/
def eCallM (F : EM R) (fs : EM (List R)) : EM R := eBind fs fun rs => match rs with
  | .bor j :: rs => eBind (eForces rs) fun ds => fun env => match env[j]? with
    | some (some s) => if s.wr = true then
        match F (some (.mtb s.dat) :: ds.map fun d => some (.val d)) with
        | some (.val d, some (.mtb d') :: _) => some (.val d, env.set j (some (s.put d')))
        | some (.new d, some (.mtb d') :: _) => some (.new d, env.set j (some (s.put d')))
        | _ => none
      else none
    | _ => none
  | [.new d0] => fun env => match F [some (.mtb d0)] with
    | some (.val d, _) => some (.val d, env)
    | some (.new d, _) => some (.new d, env)
    | _ => none
  | _ => fun _ => none
section
variable {mg : Str → Option Value} {q : Addr → Prop} {env env' : Env} {σ : L2.St} {H0 H H' : Hp}
theorem vals_env {ds : List Dat} {vs : List V} (h : IsDs mg (Prot q env σ) H ds vs) (i : Nat) (s : Slot) (e : (ds.map fun d => some (Slot.val d))[i]? = some (some s)) : ∃ d v, s = .val d ∧ (vs.map some)[i]? = some (some v) ∧ IsD mg (Prot q env σ) H d v := by
  rw [List.getElem?_map] at e
  cases hd : ds[i]? with
  | none => rw [hd] at e; cases e
  | some d =>
    rw [hd] at e
    cases e
    obtain ⟨v, h1, h2⟩ := h.get hd
    exact ⟨d, v, rfl, by rw [List.getElem?_map, h1]; rfl, h2⟩
theorem no_mut {ds : List Dat} {vs : List V} (a : Addr) : ¬ MutAt (ds.map fun d => some (Slot.val d)) (vs.map some) a := by
  rintro ⟨i, s, e, w, _⟩
  rw [List.getElem?_map] at e
  cases hd : ds[i]? with
  | none => rw [hd] at e; cases e
  | some d =>
    rw [hd] at e
    cases e
    cases w
/-- the parameters at a call -/
theorem Rel.params {ds : List Dat} {vs : List V} (R : Rel mg q env σ H) (h : IsDs mg (Prot q env σ) H ds vs) : Rel mg (Prot q env σ) (ds.map fun d => some (.val d)) (vs.map some) H := by
  refine ⟨by simp [h.length], fun i d e => ?_, fun i s e w => ?_, fun i j s t a e w => ?_, fun a z => R.prot_in z⟩
  · obtain ⟨d', v, h1, h2, h3⟩ := vals_env h i _ e
    cases h1
    exact ⟨v, h2, h3.mono (fun a z => z.elim id fun m => absurd m (no_mut a)) fun _ _ e _ => e⟩
  · obtain ⟨d', v, h1, _⟩ := vals_env h i _ e
    subst h1
    cases w
  · obtain ⟨d', v, h1, _⟩ := vals_env h i _ e
    subst h1
    cases w
theorem call_val {F : EM R} {n : Nat} {vs : List V} {ds : List Dat} {r : DL.R} {env2 : Env} {Q : VK} {E : XK} (hl : vs.length = n) (R : Rel mg q env σ H) (h : IsDs mg (Prot q env σ) H ds vs) (e : F (ds.map fun d => some (.val d)) = some (r, env2)) (hr : ∀ i, r ≠ .bor i)
    (k : ∀ v H', Rel mg q env σ H' → StepE env σ H env H' → IsR mg q env σ H H' r v → Q v H') : spF mg n F vs H Q E := by
  refine ⟨hl, Prot q env σ, _, r, env2, R.params h, e, fun v H' R1 S1 i1 => ?_⟩
  have hx : ∀ b o, H b = some o → H' b = some o := fun b o e => S1.keep b o e (no_mut b)
  refine k v H' (R.ext hx) (.ext hx) ?_
  have np : ∀ b, MutAt env2 (vs.map some) b → False := fun b m => no_mut b (S1.mono b m)
  cases r with
  | val d => exact IsD.mono (fun a z => .inl z) (fun _ _ e _ => e) i1
  | new d =>
    obtain ⟨a, rfl, n0, nq, t, R2⟩ := i1
    exact ⟨a, rfl, n0, fun z => nq (.inl z), t.mono (fun b z => z.elim (fun z => .inl (.inl z)) .inr) (fun _ _ e _ => e) (fun _ e => e), R.guard n0 hx t.at⟩
  | bor i => exact absurd rfl (hr i)
end
section
variable {X : Cx} {x : Str} {p pos : Pos} {e : Expr} {es : List Expr} {fs : EM (List R)} {F : EM R} {k n : Nat} {f : Addr} {fd : FuncData} {ps : List Str} {E : XK}
theorem at_callV {q : Addr → Prop} {env e1 env' : Env} {σ : L2.St} {H H1 : Hp} {Q : VK} {rs : List DL.R} {vs : List V} {r : DL.R} (hn : ∀ env, F env ≠ none → env.length = n) (R1 : Rel X.mg q e1 σ H1) (S1 : StepE env σ H e1 H1) (i1 : IsRs X.mg q e1 σ H H1 rs vs) (ev : eCallV F (eRet rs) e1 = some (r, env'))
    (kk : ∀ v H', Rel X.mg q env' σ H' → StepE env σ H env' H' → IsR X.mg q env' σ H H' r v → Q v H') : spF X.mg n F vs H1 Q E := by
  obtain ⟨rs', e1', h1, ev1⟩ := eBind_some ev
  cases h1
  obtain ⟨ds, e2, h2, ev2⟩ := eBind_some ev1
  obtain ⟨R2, S2, i2⟩ := i1.forces R1 h2
  have hl : vs.length = n ∨ F (ds.map fun d => some (.val d)) = none := by
    by_cases hf : F (ds.map fun d => some (.val d)) = none
    · exact .inr hf
    · refine .inl ?_
      have := hn _ hf
      simpa [i2.length] using this
  split at ev2
  · rename_i d e3 hf
    cases ev2
    exact call_val (hl.elim id fun z => by rw [hf] at z; cases z) R2 i2 hf (fun i z => by cases z) fun v H' R3 S3 i3 => kk v H' R3 ((S1.trans S2).trans S3) (i3.back (S1.trans S2).dom)
  · rename_i d e3 hf
    cases ev2
    exact call_val (hl.elim id fun z => by rw [hf] at z; cases z) R2 i2 hf (fun i z => by cases z) fun v H' R3 S3 i3 => kk v H' R3 ((S1.trans S2).trans S3) (i3.back (S1.trans S2).dom)
  · cases ev2
theorem red_callV (σ : L2.St) (H : Hp) (Q : VK) (hn : ∀ env, F env ≠ none → env.length = n) (h : TD X.mg (eCallV F fs) σ H Q) : tCall (spF X.mg n F) [] E (TDA X.mg fs) σ H Q := by
  obtain ⟨q, env, r, env', R, ev, kk⟩ := h
  obtain ⟨rs, e1, h1, ev1⟩ := eBind_some ev
  refine ⟨q, env, rs, e1, R, h1, fun vs H1 R1 S1 i1 => ?_⟩
  show spF X.mg n F (vs ++ []) H1 Q E
  rw [List.append_nil]
  exact at_callV hn R1 S1 i1 ev1 kk
theorem at_callM {q : Addr → Prop} {env e1 env' : Env} {σ : L2.St} {H H1 : Hp} {Q : VK} {rs : List DL.R} {vs : List V} {r : DL.R} (hn : ∀ env, F env ≠ none → env.length = n) (R1 : Rel X.mg q e1 σ H1) (S1 : StepE env σ H e1 H1) (i1 : IsRs X.mg q e1 σ H H1 rs vs) (ev : eCallM F (eRet rs) e1 = some (r, env'))
    (kk : ∀ v H', Rel X.mg q env' σ H' → StepE env σ H env' H' → IsR X.mg q env' σ H H' r v → Q v H') : spF X.mg n F vs H1 Q E := by
  obtain ⟨rs', e1', h1, ev1⟩ := eBind_some ev
  cases h1
  split at ev1
  · -- the first argument is what a slot holds
    rename_i j rs'
    obtain ⟨ds, e2, h2, ev2⟩ := eBind_some ev1
    cases i1 with
    | cons ib it =>
      rename_i v0 vs'
      obtain ⟨R2, S2, i2⟩ := IsRs.forces R1 it h2
      obtain ⟨hv0, s0, hs0⟩ := ib
      split at ev2
      · rename_i s hs
        split at ev2
        · rename_i hw
          obtain ⟨a, ha, nq, t⟩ := R2.wr j s hs hw
          rw [hv0] at ha
          cases ha
          have ap : Prot q e2 σ a := .inr ⟨j, s, hs, hw, hv0⟩
          have hlen := i2.length
          -- the callee's parameters
          have RP : Rel X.mg (fun b => Prot q e2 σ b ∧ b ≠ a) (some (.mtb s.dat) :: ds.map fun d => some (.val d)) ((V.ref a :: vs').map some) H1 := by
            have pp : ∀ b, Prot (fun b => Prot q e2 σ b ∧ b ≠ a) (some (.mtb s.dat) :: ds.map fun d => some (.val d)) ((V.ref a :: vs').map some) b → Prot q e2 σ b := by
              rintro b (z | ⟨i, s', f1, f2, f3⟩)
              · exact z.1
              · cases i with
                | zero =>
                  simp at f3
                  rw [← f3]
                  exact ap
                | succ i =>
                  exact absurd ⟨i, s', by rw [List.getElem?_cons_succ] at f1; exact f1, f2, by simpa using f3⟩ (no_mut (ds := ds) (vs := vs') b)
            refine ⟨by simp [hlen], fun i d f => ?_, fun i s' f w => ?_, fun i i' s1 s2 b f1 w1 f2 w2 g1 g2 => ?_, fun b z => R2.prot_in z.1⟩
            · cases i with
              | zero => simp at f
              | succ i =>
                obtain ⟨d', v, g1, g2, g3⟩ := vals_env i2 i _ (by rw [List.getElem?_cons_succ] at f; exact f)
                cases g1
                exact ⟨v, by simpa using g2, g3.mono pp fun _ _ e _ => e⟩
            · cases i with
              | zero =>
                simp at f
                subst f
                exact ⟨a, by simp, fun z => z.2 rfl, t.mono pp (fun _ _ e _ => e) (fun _ e => e)⟩
              | succ i =>
                obtain ⟨d', v, g1, _⟩ := vals_env i2 i _ (by rw [List.getElem?_cons_succ] at f; exact f)
                subst g1
                cases w
            · cases i with
              | succ i =>
                obtain ⟨d', v, g1, _⟩ := vals_env i2 i _ (by rw [List.getElem?_cons_succ] at f1; exact f1)
                subst g1
                cases w1
              | zero =>
                cases i' with
                | zero => rfl
                | succ i' =>
                  obtain ⟨d', v, g1, _⟩ := vals_env i2 i' _ (by rw [List.getElem?_cons_succ] at f2; exact f2)
                  subst g1
                  cases w2
          have mut_a : ∀ {env3 : Env} {H' : Hp} {b : Addr}, StepE (some (.mtb s.dat) :: ds.map fun d => some (.val d)) ((V.ref a :: vs').map some) H1 env3 H' → MutAt env3 ((V.ref a :: vs').map some) b → b = a := fun {env3 H' b} S3 m => by
            obtain ⟨i, s', f1, f2, f3⟩ := S3.mono b m
            cases i with
            | zero => simp at f3; exact f3.symm
            | succ i => exact absurd ⟨i, s', by rw [List.getElem?_cons_succ] at f1; exact f1, f2, by simpa using f3⟩ (no_mut (ds := ds) (vs := vs') b)
          have fin : ∀ (r' : DL.R) (d' : Dat) (rest : Env), F (some (.mtb s.dat) :: ds.map fun d => some (.val d)) = some (r', some (.mtb d') :: rest) → (∀ i, r' ≠ .bor i) → r = r' → env' = e2.set j (some (s.put d')) → spF X.mg n F (V.ref a :: vs') H1 Q E := by
            intro r' d' rest hf nb er ee
            subst er ee
            have hl : (V.ref a :: vs').length = n := by
              have := hn _ (by rw [hf]; simp)
              simpa [hlen] using this
            refine ⟨hl, _, _, r, _, RP, hf, fun v H' R3 S3 i3 => ?_⟩
            obtain ⟨a', g1, g2, g3⟩ := R3.wr 0 (.mtb d') rfl rfl
            simp at g1
            subst g1
            have pe : ∀ b, Prot q e2 σ b ↔ Prot (fun b => Prot q e2 σ b ∧ b ≠ a) (some (.mtb d') :: rest) ((V.ref a :: vs').map some) b := fun b => by
              constructor
              · intro z
                by_cases hb : b = a
                · rw [hb]
                  exact .inr ⟨0, _, rfl, rfl, by simp⟩
                · exact .inl ⟨z, hb⟩
              · rintro (z | m)
                · exact z.1
                · rw [mut_a S3 m]
                  exact ap
            have kp : ∀ b u, H1 b = some u → b ≠ a → H' b = some u := fun b u e n => S3.keep b u e fun m => n (by
              obtain ⟨i, s', f1, f2, f3⟩ := m
              cases i with
              | zero => simp at f3; exact f3.symm
              | succ i => exact absurd ⟨i, s', by rw [List.getElem?_cons_succ] at f1; exact f1, f2, by simpa using f3⟩ (no_mut (ds := ds) (vs := vs') b))
            obtain ⟨R4, S4⟩ := R2.changeG hs hw hv0 kp S3.dom (d := d') (g3.mono (fun b z => (pe b).mp z) (fun _ _ e _ => e) (fun _ e => e))
            have pq : ∀ b, Prot q (e2.set j (some (s.put d'))) σ b → Prot q e2 σ b := fun b z => z.elim .inl fun m => .inr (S4.mono b m)
            refine kk v H' R4 ((S1.trans S2).trans S4) (IsR.back (H0 := H1) ?_ (S1.trans S2).dom)
            cases r with
            | bor i => exact absurd rfl (nb i)
            | val d => exact IsD.mono (fun b z => (pe b).mp (pq b z)) (fun _ _ e _ => e) i3
            | new d =>
              obtain ⟨c, rfl, n0, nc, t3, R5⟩ := i3
              have ca : c ≠ a := fun z => by
                rw [z] at n0
                exact absurd n0 (R2.prot_in ap)
              have nq2 : ¬ Prot q e2 σ c := fun z => nc ⟨z, ca⟩
              refine ⟨c, rfl, n0, fun z => nq2 (.inl z), t3.mono (fun b z => z.elim (fun z => .inl ((pe b).mp (pq b z))) .inr) (fun _ _ e _ => e) (fun _ e => e), ?_⟩
              -- the caller's data are apart from it
              obtain ⟨b', k1, k2, k3⟩ := R5.wr 0 (.mtb d') rfl rfl
              simp at k1
              subst k1
              refine R2.changeQ hs hw hv0 kp (fun b z => z.elim .inl fun e => .inr (by rw [e]; exact n0)) (fun b z => z.elim (fun z => S3.dom b (R2.qin b z)) fun e => by rw [e]; exact t3.at) (d := d') (k3.mono (fun b z => ?_) (fun _ _ e _ => e) (fun _ e => e))
              rcases z with (z | z) | z
              · by_cases hb : b = a
                · rw [hb]; exact .inr ⟨0, _, rfl, rfl, by simp⟩
                · exact .inl (.inl ⟨.inl z, hb⟩)
              · exact .inl (.inr z)
              · by_cases hb : b = a
                · rw [hb]; exact .inr ⟨0, _, rfl, rfl, by simp⟩
                · exact .inl (.inl ⟨.inr z, hb⟩)
          split at ev2
          · rename_i d d' rest hf
            cases ev2
            exact fin _ d' rest hf (fun i z => by cases z) rfl rfl
          · rename_i d d' rest hf
            cases ev2
            exact fin _ d' rest hf (fun i z => by cases z) rfl rfl
          · cases ev2
        · cases ev2
      · cases ev2
  · -- a new object
    rename_i d0
    cases i1 with
    | cons ib it =>
      rename_i v0 vs'
      cases it
      obtain ⟨a, rfl, n0, nq, t, R2⟩ := ib
      have nm : ¬ MutAt e1 σ a := fun ⟨i, s, f1, f2, f3⟩ => by
        obtain ⟨b, g1, g2, _⟩ := R2.wr i s f1 f2
        rw [f3] at g1
        cases g1
        exact g2 (.inr rfl)
      have RP : Rel X.mg (Prot q e1 σ) [some (.mtb d0)] [some (V.ref a)] H1 := by
        refine ⟨rfl, fun i d f => ?_, fun i s' f w => ?_, fun i i' s1 s2 b f1 w1 f2 w2 g1 g2 => ?_, fun b z => R1.prot_in z⟩
        · cases i with
          | zero => simp at f
          | succ i => simp at f
        · cases i with
          | zero =>
            simp at f
            subst f
            refine ⟨a, rfl, fun z => z.elim nq nm, t.mono (fun b z => z.elim .inl fun ⟨i, s', f1, f2, f3⟩ => ?_) (fun _ _ e _ => e) (fun _ e => e)⟩
            cases i with
            | zero => simp at f3; exact .inr f3.symm
            | succ i => simp at f1
          | succ i => simp at f
        · cases i with
          | succ i => simp at f1
          | zero =>
            cases i' with
            | zero => rfl
            | succ i' => simp at f2
      have one : ∀ {b : Addr}, MutAt [some (.mtb d0)] [some (V.ref a)] b → b = a := fun {b} ⟨i, s', f1, f2, f3⟩ => by
        cases i with
        | zero => simp at f3; exact f3.symm
        | succ i => simp at f1
      have fin : ∀ (r' : DL.R) (env3 : Env), F [some (.mtb d0)] = some (r', env3) → (∀ i, r' ≠ .bor i) → r = r' → env' = e1 → spF X.mg n F [V.ref a] H1 Q E := by
        intro r' env3 hf nb er ee
        subst er ee
        have hl : [V.ref a].length = n := by
          have := hn _ (by rw [hf]; simp)
          simpa using this
        refine ⟨hl, _, _, r, _, RP, hf, fun v H' R3 S3 i3 => ?_⟩
        have kp : ∀ b u, H1 b = some u → b ≠ a → H' b = some u := fun b u e n => S3.keep b u e fun m => n (one m)
        have pq : ∀ b, Prot q env' σ b → ¬ b = a := fun b z e => by
          rw [e] at z
          exact z.elim nq nm
        have R4 : Rel X.mg q env' σ H' := by
          have R2' := R2.less (q' := q) fun b z => .inl z
          have hp : ∀ b, Prot q env' σ b → Prot (fun b => q b ∨ b = a) env' σ b := fun b z => z.elim (fun z => .inl (.inl z)) .inr
          refine ⟨R2.len, fun i d e => ?_, fun i s e w => ?_, R2.inj, fun b z => S3.dom b (R1.qin b z)⟩
          · obtain ⟨v, g1, g2⟩ := R2.val i d e
            exact ⟨v, g1, g2.mono hp fun b u e n => kp b u e fun z => n (.inl (.inr z))⟩
          · obtain ⟨b, g1, g2, g3⟩ := R2.wr i s e w
            exact ⟨b, g1, fun z => g2 (.inl z), g3.mono hp (fun b u e n => kp b u e fun z => n (.inl (.inr z))) fun u e => kp b u e fun z => g2 (.inr z)⟩
        have S4 : StepE env σ H env' H' := by
          refine ⟨fun b u e m => kp b u (S1.keep b u e m) fun z => ?_, fun b z => S3.dom b (S1.dom b z), S1.mono, S1.there, S1.muts, S1.len⟩
          rw [z, n0] at e
          cases e
        refine kk v H' R4 S4 ?_
        cases r with
        | bor i => exact absurd rfl (nb i)
        | val d => exact IsD.mono (fun b z => .inl z) (fun _ _ e _ => e) i3
        | new d =>
          obtain ⟨c, rfl, m0, nc, t3, R5⟩ := i3
          have n0' : H c = none := by
            cases e : H c with
            | none => rfl
            | some u => exact absurd m0 (S1.dom c (by rw [e]; simp))
          refine ⟨c, rfl, n0', fun z => nc (.inl z), t3.mono (fun b z => z.elim (fun z => .inl (.inl z)) .inr) (fun _ _ e _ => e) (fun _ e => e), ?_⟩
          have hp : ∀ b, Prot (fun b => q b ∨ b = c) env' σ b → Prot (fun b => q b ∨ b = a) env' σ b ∨ H1 b = none := fun b z => z.elim (fun z => z.elim (fun z => .inl (.inl (.inl z))) fun e => .inr (by rw [e]; exact m0)) fun m => .inl (.inr m)
          refine ⟨R2.len, fun i d e => ?_, fun i s e w => ?_, R2.inj, fun b z => z.elim (fun z => S3.dom b (R1.qin b z)) fun e => by rw [e]; exact t3.at⟩
          · obtain ⟨v, g1, g2⟩ := R2.val i d e
            exact ⟨v, g1, g2.all.mono hp fun b u e n => kp b u e fun z => n (.inl (.inl (.inr z)))⟩
          · obtain ⟨b, g1, g2, g3⟩ := R2.wr i s e w
            exact ⟨b, g1, fun z => z.elim (fun z => g2 (.inl z)) fun e => g3.at (by rw [e]; exact m0), g3.all.mono hp (fun b u e n => kp b u e fun z => n (.inl (.inl (.inr z)))) fun u e => kp b u e fun z => g2 (.inr z)⟩
      split at ev1
      · rename_i d env3 hf
        cases ev1
        exact fin _ env3 hf (fun i z => by cases z) rfl rfl
      · rename_i d env3 hf
        cases ev1
        exact fin _ env3 hf (fun i z => by cases z) rfl rfl
      · cases ev1
  · cases ev1
theorem red_callM (σ : L2.St) (H : Hp) (Q : VK) (hn : ∀ env, F env ≠ none → env.length = n) (h : TD X.mg (eCallM F fs) σ H Q) : tCall (spF X.mg n F) [] E (TDA X.mg fs) σ H Q := by
  obtain ⟨q, env, r, env', R, ev, kk⟩ := h
  obtain ⟨rs, e1, h1, ev1⟩ := eBind_some ev
  refine ⟨q, env, rs, e1, R, h1, fun vs H1 R1 S1 i1 => ?_⟩
  show spF X.mg n F (vs ++ []) H1 Q E
  rw [List.append_nil]
  exact at_callM hn R1 S1 i1 ev1 kk
theorem d_callV (G : FnOk X.prog X.w X.K X.mg X.base CX0 k f fd ps (spF X.mg n F)) (hr : Room k X.A) (hg : Gl X x) (hm : X.mg x = some (.ref f)) (hk : PySem.W.keepIn X.K (.ref f) = true) (hb : Binds X.K fd ps []) (hn : ∀ env, F env ≠ none → env.length = n)
    (ha : PA X (e :: es) (TDA X.mg fs)) (hdb : (x == ("__debug__" : Str)) = false) (hs : notStar e = true) (hpl : (backTo pos (starEach es X.env)).any (·.1) = false) : PE X (.Call (.Name x p) (e :: es) [] pos) (TD X.mg (eCallV F fs)) :=
  PE.of (pe_call G hr hg hm hk hb .nil (E := E0) pass0 ha hdb (star_no hs) hpl) fun σ H Q h => red_callV σ H Q hn h
theorem d_callM (G : FnOk X.prog X.w X.K X.mg X.base CX0 k f fd ps (spF X.mg n F)) (hr : Room k X.A) (hg : Gl X x) (hm : X.mg x = some (.ref f)) (hk : PySem.W.keepIn X.K (.ref f) = true) (hb : Binds X.K fd ps []) (hn : ∀ env, F env ≠ none → env.length = n)
    (ha : PA X (e :: es) (TDA X.mg fs)) (hdb : (x == ("__debug__" : Str)) = false) (hs : notStar e = true) (hpl : (backTo pos (starEach es X.env)).any (·.1) = false) : PE X (.Call (.Name x p) (e :: es) [] pos) (TD X.mg (eCallM F fs)) :=
  PE.of (pe_call G hr hg hm hk hb .nil (E := E0) pass0 ha hdb (star_no hs) hpl) fun σ H Q h => red_callM σ H Q hn h
end
end DL
/-! Targets, iterators, for, comprehensions. -/
namespace DL
open PySem PySem.Spec L2
open PyProof.Rows hiding St
section
variable {mg : Str → Option Value} {q : Addr → Prop} {env env' : Env} {σ σ' : L2.St} {H H' : Hp}
theorem Step.prot (s : Step env σ H env' σ' H') {a : Addr} (z : Prot q env' σ' a) : Prot q env σ a ∨ H a = none :=
  z.elim (fun z => .inl (.inl z)) fun m => (s.mono a m).elim (fun m => .inl (.inr m)) .inr
theorem Step.isD {d : Dat} {v : V} (s : Step env σ H env' σ' H') (h : IsD mg (Prot q env σ) H d v) : IsD mg (Prot q env' σ') H' d v :=
  h.all.mono (fun a z => s.prot z) (fun b o e n => s.keep b o e (fun m => n (.inl (.inr m))))
theorem Step.isDs {d : List Dat} {v : List V} (s : Step env σ H env' σ' H') (h : IsDs mg (Prot q env σ) H d v) : IsDs mg (Prot q env' σ') H' d v :=
  h.all.mono (fun a z => s.prot z) (fun b o e n => s.keep b o e (fun m => n (.inl (.inr m))))
end
/-! ### targets -/
structure StepG (gs : List Nat) (env : Env) (σ : L2.St) (env' : Env) (σ' : L2.St) : Prop where
  mono : ∀ b, MutAt env' σ' b → MutAt env σ b
  out : ∀ j, j ∉ gs → env'[j]? = env[j]? ∧ σ'[j]? = σ[j]?
  nm : ∀ j, j ∈ gs → ∀ d, env[j]? ≠ some (some (.mtb d))
  len : env'.length = env.length
  slen : σ'.length = σ.length
theorem StepG.to {gs : List Nat} {env env' : Env} {σ σ' : L2.St} {H : Hp} (s : StepG gs env σ env' σ') : Step env σ H env' σ' H where
  keep := fun _ _ e _ => e
  dom := fun _ z => z
  mono := fun b m => .inl (s.mono b m)
  muts := fun i d e => by
    have n : i ∉ gs := fun z => s.nm i z d e
    exact ⟨⟨d, (s.out i n).1.trans e⟩, (s.out i n).2⟩
  len := s.len
theorem StepG.trans {gs fs : List Nat} {e0 e1 e2 : Env} {σ0 σ1 σ2 : L2.St} (a : StepG gs e0 σ0 e1 σ1) (b : StepG fs e1 σ1 e2 σ2) : StepG (gs ++ fs) e0 σ0 e2 σ2 where
  mono := fun c m => a.mono c (b.mono c m)
  out := fun j n => by
    have n1 : j ∉ gs := fun z => n (List.mem_append_left _ z)
    have n2 : j ∉ fs := fun z => n (List.mem_append_right _ z)
    exact ⟨(b.out j n2).1.trans (a.out j n1).1, (b.out j n2).2.trans (a.out j n1).2⟩
  nm := fun j z d e => by
    by_cases h : j ∈ gs
    · exact a.nm j h d e
    · have h2 : j ∈ fs := (List.mem_append.mp z).resolve_left h
      exact b.nm j h2 d ((a.out j h).1.trans e)
  len := b.len.trans a.len
  slen := b.slen.trans a.slen
section
variable (mg : Str → Option Value)
def TDG (gs : List Nat) (g : Dat → EM Unit) : TG := fun v σ H Q => ∃ q env d env', Rel mg q env σ H ∧ IsD mg (Prot q env σ) H d v ∧ g d env = some ((), env') ∧ ∀ σ', Rel mg q env' σ' H → StepG gs env σ env' σ' → Q σ' H
def TDGs (gs : List Nat) (g : List Dat → EM Unit) : TGs := fun vs σ H Q => ∃ q env ds env', Rel mg q env σ H ∧ IsDs mg (Prot q env σ) H ds vs ∧ g ds env = some ((), env') ∧ ∀ σ', Rel mg q env' σ' H → StepG gs env σ env' σ' → Q σ' H
end
theorem PG.of {X : Cx} {e : Expr} {t t' : TG} (h : PG X e t) (w : ∀ v σ H Q, t' v σ H Q → t v σ H Q) : PG X e t' := ⟨fun pins s σ H v u Q I r x => h.run pins s σ H v u Q I r (w v σ H Q x)⟩
theorem PGs.of {X : Cx} {es : List Expr} {t t' : TGs} (h : PGs X es t) (w : ∀ v σ H Q, t' v σ H Q → t v σ H Q) : PGs X es t' := ⟨fun pins s σ H v u Q I r x => h.run pins s σ H v u Q I r (w v σ H Q x)⟩
/-- a slot put: a datum -/
def gPut (i : Nat) (d : Dat) : EM Unit := fun env => if i < env.length ∧ isMtb env[i]? = false then some ((), env.set i (some (.val d))) else none
def gTupD (n : Nat) (g : List Dat → EM Unit) : Dat → EM Unit
  | .tup ds => if ds.length = n then g ds else fun _ => none
  | _ => fun _ => none
def gNilD : List Dat → EM Unit
  | [] => eRet ()
  | _ => fun _ => none
def gConsD (g : Dat → EM Unit) (h : List Dat → EM Unit) : List Dat → EM Unit
  | d :: ds => eBind (g d) fun _ => h ds
  | _ => fun _ => none
section
variable {X : Cx} {e : Expr} {es : List Expr} {pos : Pos} {gs fs : List Nat} {g : Dat → EM Unit} {h : List Dat → EM Unit}
theorem gPut_ok {mg : Str → Option Value} {q : Addr → Prop} {env env' : Env} {σ : L2.St} {H : Hp} {i : Nat} {d : Dat} {v : V} (R : Rel mg q env σ H) (hd : IsD mg (Prot q env σ) H d v) (e : gPut i d env = some ((), env')) :
    Rel mg q env' (σ.set i (some v)) H ∧ StepG [i] env σ env' (σ.set i (some v)) := by
  unfold gPut at e
  split at e
  · rename_i hc
    cases e
    obtain ⟨R1, _⟩ := R.setVal (i := i) hc.1 (not_mtb hc.2) hd
    refine ⟨R1, ⟨fun b m => ?_, fun j n => ?_, fun j z d' e => ?_, by simp, by simp⟩⟩
    · obtain ⟨j, s, e1, w, e2⟩ := m
      by_cases hj : i = j
      · subst hj
        rw [List.getElem?_set_self hc.1] at e1
        cases e1
        cases w
      · rw [List.getElem?_set_ne hj] at e1 e2
        exact ⟨j, s, e1, w, e2⟩
    · have hj : i ≠ j := fun z => n (by simp [z])
      exact ⟨List.getElem?_set_ne hj, List.getElem?_set_ne hj⟩
    · have hj : j = i := by simpa using z
      subst hj
      exact not_mtb hc.2 d' e
  · cases e
theorem dg_name {i : Nat} {x : Str} (hN : X.N.Nodup) (hi : X.N[i]? = some x) (hx : Loc X.env.scope x) (hf : X.fn x = true ∨ X.env.scope.names.lookup x = some .local) : PG X (.Name x pos) (TDG X.mg [i] (gPut i)) := by
  refine PG.of (pg_name hN hi hx hf) ?_
  rintro v σ H Q ⟨q, env, d, env', R, hd, ev, k⟩
  obtain ⟨R1, S1⟩ := gPut_ok R hd ev
  exact k _ R1 S1
theorem dgs_nil : PGs X [] (TDGs X.mg [] gNilD) := by
  refine PGs.of pgs_nil ?_
  rintro v σ H Q ⟨q, env, d, env', R, hd, ev, k⟩
  cases hd with
  | nil =>
    obtain ⟨_, rfl⟩ := eRet_some (show eRet () env = some ((), env') from ev)
    exact ⟨rfl, k σ R ⟨fun _ m => m, fun _ _ => ⟨rfl, rfl⟩, (fun j z => by cases z), rfl, rfl⟩⟩
  | cons h t => cases ev
theorem dgs_cons (h1 : PG X e (TDG X.mg gs g)) (h2 : PGs X es (TDGs X.mg fs h))
    (hs : (assignEach (e :: es) X.env).map (·.2) = assign e X.env :: (assignEach es X.env).map (·.2) := by rfl) : PGs X (e :: es) (TDGs X.mg (gs ++ fs) (gConsD g h)) := by
  refine PGs.of (pgs_cons h1 h2 hs) ?_
  rintro v σ H Q ⟨q, env, d, env', R, hd, ev, k⟩
  cases hd with
  | nil => cases ev
  | cons hh t =>
    obtain ⟨⟨⟩, e1, h1, ev1⟩ := eBind_some ev
    refine ⟨_, _, rfl, q, env, _, e1, R, hh, h1, fun σ1 R1 S1 => ⟨q, e1, _, env', R1, ?_, ev1, fun σ2 R2 S2 => k σ2 R2 (S1.trans S2)⟩⟩
    exact Step.isDs (H' := H) S1.to t
theorem dg_tup {k n : Nat} (hc : X.calm = true) (h1 : PGs X es (TDGs X.mg gs h)) (hn : (assignEach es X.env).length = n := by rfl) (hst : (assignEach es X.env).findIdx? (·.1) = none := by rfl) : PG X (.Tuple es k pos) (TDG X.mg gs (gTupD n h)) := by
  refine PG.of (pg_tup hc h1 hn hst) ?_
  rintro v σ H Q ⟨q, env, d, env', R, hd, ev, kk⟩
  cases hd with
  | tup np s r =>
    rename_i a vs ds
    have ev : (if ds.length = n then h ds else fun _ => none) env = some ((), env') := ev
    by_cases hl : ds.length = n
    · rw [if_pos hl] at ev
      exact ⟨_, _, rfl, SqT.of s, by rw [← r.length]; exact hl, q, env, _, env', R, r, ev, kk⟩
    · rw [if_neg hl] at ev
      cases ev
  | _ => cases ev
end
/-! ### iterators -/
def ItOk (mg : Str → Option Value) (p : Addr → Prop) (H : Hp) (J : It) (ds : List Dat) : Prop :=
  ∀ (p' : Addr → Prop) (H' : Hp), (∀ b o, H b = some o → ¬ p b → H' b = some o) → (∀ a, p' a → p a ∨ H a = none) → (∀ a, p' a → H' a ≠ none) →
    (∀ i, i < ds.length → J.go i H') ∧ (∀ i, ds.length ≤ i → J.stop i H') ∧
    ∀ i x H'', J.yld i H' x H'' → i < ds.length → (∀ b o, H' b = some o → H'' b = some o) ∧ ∃ d, ds[i]? = some d ∧ IsD mg p' H'' d x
def TDI (mg : Str → Option Value) (f : EM (List Dat)) : TI := fun σ H R => ∃ q env ds env', Rel mg q env σ H ∧ f env = some (ds, env') ∧ ∀ J H', Rel mg q env' σ H' → StepE env σ H env' H' → ItOk mg (Prot q env' σ) H' J ds → R J H'
theorem PI.of {X : Cx} {tg e : Expr} {t t' : TI} (h : PI X tg e t) (w : ∀ σ H R, t' σ H R → t σ H R) : PI X tg e t' := ⟨fun pins s σ H R I x => h.run pins s σ H R I (w σ H R x)⟩
theorem PI.or {X : Cx} {tg e : Expr} {t t' : TI} (h : PI X tg e t) (h' : PI X tg e t') : PI X tg e (fun σ H R => t σ H R ∨ t' σ H R) := ⟨fun pins s σ H R I x => x.elim (h.run pins s σ H R I) (h'.run pins s σ H R I)⟩
section
variable {mg : Str → Option Value} {p : Addr → Prop} {H : Hp} {ds : List Dat}
theorem it_list {K : PySem.W.Frag} {a : Addr} {vs : List V} (n : ¬ p a) (h : H a = some (.lst vs)) (r : IsDs mg p H ds vs) : ItOk mg p H (Itl K a) ds := by
  intro p' H' hs hp hd
  have h' : H' a = some (.lst vs) := hs a _ h n
  have r' : IsDs mg p' H' ds vs := r.all.mono hp (fun b o e z => hs b o e fun z' => z (.inl z'))
  refine ⟨fun i hi => ?_, fun i hi => ⟨vs, SqL.of h', by rw [← r.length]; exact hi⟩, fun i x H'' hy hi => ?_⟩
  · obtain ⟨v, e1, _⟩ := r'.get (List.getElem?_eq_getElem hi)
    exact ⟨vs, v, SqL.of h', e1⟩
  · obtain ⟨rfl, hv⟩ := hy
    have hx := hv vs (SqL.of h')
    obtain ⟨d, e1, e2⟩ := r'.get' hx
    exact ⟨fun _ _ e => e, d, e1, e2⟩
theorem it_tup {K : PySem.W.Frag} {a : Addr} {vs : List V} (n : ¬ p a) (h : H a = some (.tup vs)) (r : IsDs mg p H ds vs) : ItOk mg p H (Itt K a) ds := by
  intro p' H' hs hp hd
  have h' : H' a = some (.tup vs) := hs a _ h n
  have r' : IsDs mg p' H' ds vs := r.all.mono hp (fun b o e z => hs b o e fun z' => z (.inl z'))
  refine ⟨fun i hi => ?_, fun i hi => ⟨vs, SqT.of h', by rw [← r.length]; exact hi⟩, fun i x H'' hy hi => ?_⟩
  · obtain ⟨v, e1, _⟩ := r'.get (List.getElem?_eq_getElem hi)
    exact ⟨vs, v, SqT.of h', e1⟩
  · obtain ⟨rfl, hv⟩ := hy
    have hx := hv vs (SqT.of h')
    obtain ⟨d, e1, e2⟩ := r'.get' hx
    exact ⟨fun _ _ e => e, d, e1, e2⟩
def rngD (lo : Int) (n : Nat) : List Dat := (List.range n).map fun (i : Nat) => Dat.int (lo + i)
theorem rngD_len (lo : Int) (n : Nat) : (rngD lo n).length = n := by simp [rngD]
theorem it_rng {lo : Int} {n : Nat} : ItOk mg p H (Itr lo n) (rngD lo n) := by
  intro p' H' hs hp hd
  rw [rngD_len]
  refine ⟨fun i hi => hi, fun i hi => hi, fun i x H'' hy hi => ?_⟩
  obtain ⟨rfl, rfl⟩ := hy
  exact ⟨fun _ _ e => e, _, by simp [rngD, hi], .int⟩
end
/-- what is gone through: a list or a tuple that nothing changes any more -/
def seqD : Dat → Option (List Dat)
  | .lst ds => some ds
  | .tup ds => some ds
  | _ => none
def iSeq (f : EM R) : EM (List Dat) := eBind f fun r => eBind (eForce r) fun d => eOpt (seqD d)
def iRange (f : EM (List R)) : EM (List Dat) := eBind f fun rs => eBind (eLooks rs) fun ds => match ds with
  | [.int j] => eOpt (if -(2 ^ 62) ≤ j ∧ j < 2 ^ 62 then some (rngD 0 j.toNat) else none)
  | _ => fun _ => none
section
variable {X : Cx} {tg e : Expr} {es : List Expr} {pos : Pos} {f : EM R} {fs : EM (List R)} {u : EM Bool}
theorem di_seq (he : PE X e (TD X.mg f)) : PI X tg e (TDI X.mg (iSeq f)) := by
  refine PI.of (PI.or (pi_list he) (pi_tup he)) ?_
  rintro σ H Q ⟨q, env, ds, env', R, ev, k⟩
  obtain ⟨r1, e1, h1, ev1⟩ := eBind_some ev
  obtain ⟨d, e2, h2, ev2⟩ := eBind_some ev1
  obtain ⟨h3, rfl⟩ := eOpt_some ev2
  cases d with
  | lst es =>
    cases h3
    refine .inl ⟨q, env, r1, e1, R, h1, fun v H1 R1 S1 i1 => ?_⟩
    obtain ⟨R2, S2, hd⟩ := i1.force R1 h2
    cases hd with
    | lst n s r => exact ⟨_, rfl, ⟨_, SqL.of s⟩, k _ H1 R2 (S1.trans S2) (it_list n s r)⟩
  | tup es =>
    cases h3
    refine .inr ⟨q, env, r1, e1, R, h1, fun v H1 R1 S1 i1 => ?_⟩
    obtain ⟨R2, S2, hd⟩ := i1.force R1 h2
    cases hd with
    | tup n s r => exact ⟨_, rfl, ⟨_, SqT.of s⟩, k _ H1 R2 (S1.trans S2) (it_tup n s r)⟩
  | _ => cases h3
theorem di_range {p : Pos} (hg : Gl X "range") (hm : X.mg "range" = none) (ha : PA X [e] (TDA X.mg fs)) (hs : starEach [e] X.env = [(false, eval e X.env)] := by rfl) : PI X tg (.Call (.Name "range" p) [e] [] pos) (TDI X.mg (iRange fs)) := by
  refine PI.of (pi_range1 hg hm ha hs) ?_
  rintro σ H Q ⟨q, env, ds, env', R, ev, k⟩
  obtain ⟨r1, e1, h1, ev1⟩ := eBind_some ev
  obtain ⟨dd, e2, h2, ev2⟩ := eBind_some ev1
  refine ⟨q, env, r1, e1, R, h1, fun vs H1 R1 S1 i1 => ?_⟩
  obtain ⟨iv, rfl⟩ := i1.looks R1 h2
  split at ev2
  · rename_i j
    obtain ⟨h3, rfl⟩ := eOpt_some ev2
    split at h3
    · rename_i hc
      cases h3
      cases iv with
      | cons a t =>
        cases t
        rw [a.intE]
        exact ⟨j, rfl, hc.1, hc.2, k _ H1 R1 S1 it_rng⟩
    · cases h3
  · cases ev2
end
/-! ### for -/
def loopS (g : Dat → EM Unit) (body : EM O) : List Dat → EM O
  | [] => eRet .nx
  | d :: ds => eBind (g d) fun _ => eBind body fun o => match o with
    | .nx => loopS g body ds
    | .ct => loopS g body ds
    | .bk => eRet .nx
    | .rt r => eRet (.rt r)
def sFor (it : EM (List Dat)) (g : Dat → EM Unit) (body : EM O) : EM O := eBind it fun ds => loopS g body ds
section
variable {X : Cx} {tg iter : Expr} {body : List Stmt} {pos : Pos} {it : EM (List Dat)} {gs : List Nat} {g : Dat → EM Unit} {b : EM O}
theorem ds_for (hp : PassesOwn (model X.prog X.w) X.A X.env X.xe) (hc : X.calm = true) (hi : PI X tg iter (TDI X.mg it)) (hg : PG X tg (TDG X.mg gs g)) (hb : PSs X body (TDS X.mg b))
    (hs : ∀ x, foldedSetIterable iter X.env x = pure x := by intro _; rfl) : PS X (.For tg iter body [] pos) (TDS X.mg (sFor it g b)) := by
  refine PS.of (ps_for hp hc hi hg hb hs) ?_
  rintro D σ H ⟨q, env, o, env', R, ev, k⟩
  obtain ⟨ds, e1, h1, ev1⟩ := eBind_some ev
  refine ⟨q, env, ds, e1, R, h1, fun J H1 R1 S1 hJ => ?_⟩
  refine ⟨fun i m σ' H' => i ≤ ds.length ∧ m = ds.length - i ∧ ∃ e2, Rel X.mg q e2 σ' H' ∧ Step e1 σ H1 e2 σ' H' ∧ loopS g b (ds.drop i) e2 = some (o, env'), ⟨_, Nat.zero_le _, rfl, e1, R1, .refl, ev1⟩, ?_⟩
  rintro i m σ2 H2 ⟨hi', hm, e2, R2, S2, hl⟩
  have HJ := hJ (Prot q e2 σ2) H2 (fun b u e n => S2.keep b u e fun m => n (.inr m)) (fun a z => S2.prot z) (fun a z => R2.prot_in z)
  by_cases hlt : i < ds.length
  · refine .inr ⟨HJ.1 i hlt, ?_⟩
    have hdrop : ds.drop i = ds[i] :: ds.drop (i + 1) := List.drop_eq_getElem_cons hlt
    rw [hdrop] at hl
    obtain ⟨⟨⟩, e3, h3, hl1⟩ := eBind_some hl
    obtain ⟨o4, e4, h4, hl2⟩ := eBind_some hl1
    refine ⟨fun σ' H' => ∃ e5, Rel X.mg q e5 σ' H' ∧ Step e1 σ H1 e5 σ' H' ∧ loopS g b (ds.drop (i + 1)) e5 = some (o, env'), fun σ' H' ⟨e5, R5, S5, h5⟩ => ⟨_, (by omega : ds.length - (i + 1) < m), hlt, rfl, e5, R5, S5, h5⟩, fun x H3 hy => ?_⟩
    obtain ⟨hx, d, hd, isd⟩ := HJ.2.2 i x H3 hy hlt
    have hdd : d = ds[i] := by
      rw [List.getElem?_eq_getElem hlt] at hd
      exact (Option.some.inj hd).symm
    subst hdd
    have R3 := R2.ext hx
    have S3 : Step e2 σ2 H2 e2 σ2 H3 := (StepE.ext hx).to
    refine ⟨q, e2, _, e3, R3, isd, h3, fun σ4 R4 S4 => ?_⟩
    have S5 : Step e1 σ H1 e3 σ4 H3 := (S2.trans S3).trans S4.to
    refine ⟨q, e3, o4, e4, R4, h4, ?_⟩
    cases o4 with
    | nx => exact fun σ' H' R' S' => ⟨e4, R', S5.trans S', hl2⟩
    | ct => exact fun σ' H' R' S' => ⟨e4, R', S5.trans S', hl2⟩
    | bk =>
      obtain ⟨rfl, rfl⟩ := eRet_some hl2
      exact fun σ' H' R' S' => k σ' H' R' (S1.to.trans (S5.trans S'))
    | rt r =>
      obtain ⟨rfl, rfl⟩ := eRet_some hl2
      exact fun v σ' H' R' S' i' => k v σ' H' R' (S1.to.trans (S5.trans S')) (i'.back (S1.to.trans S5).dom)
  · have hie : i = ds.length := by omega
    subst hie
    rw [List.drop_length] at hl
    obtain ⟨rfl, rfl⟩ := eRet_some hl
    exact .inl ⟨HJ.2.1 _ (Nat.le_refl _), k σ2 H2 R2 (S1.to.trans S2)⟩
end
/-! ### comprehensions -/
def eWipe : List Nat → EM Unit
  | [] => eRet ()
  | v :: vs => eBind (eWipe vs) fun _ => fun env => if isMtb env[v]? = false then some ((), env.set v none) else none
def loopC (g : Dat → EM Unit) (t : EM Bool) (f : EM R) (vs : List Nat) : List Dat → List Dat → EM (List Dat)
  | [], acc => eRet acc
  | d :: ds, acc => eBind (g d) fun _ => eBind t fun b =>
    if b = true then eBind f fun r => eBind (eForce r) fun x => eBind (eWipe vs) fun _ => if acc.length < 100000 then loopC g t f vs ds (acc ++ [x]) else fun _ => none
    else eBind (eWipe vs) fun _ => loopC g t f vs ds acc
def freeAt (vs : List Nat) (env : Env) : Bool := vs.all fun v => match env[v]? with
  | some none => true
  | _ => false
def eLc (it : EM (List Dat)) (g : Dat → EM Unit) (t : EM Bool) (f : EM R) (vs : List Nat) : EM R := eBind it fun ds => fun env => if freeAt vs env = true then eBind (loopC g t f vs ds []) (fun xs => eRet (.new (.lst xs))) env else none
section
variable {mg : Str → Option Value} {q : Addr → Prop} {env env' : Env} {σ σ' : L2.St} {H H' : Hp} {vs : List Nat}
theorem wipe_ne {j : Nat} : ∀ {vs : List Nat}, j ∉ vs → (wipe σ vs)[j]? = σ[j]?
  | [], _ => rfl
  | v :: vs, h => by
    show ((wipe σ vs).set v none)[j]? = _
    rw [List.getElem?_set_ne (fun z => h (by simp [z])), wipe_ne (fun z => h (List.mem_cons_of_mem _ z))]
theorem wipe_eq (hl : σ.length = σ'.length) (h : ∀ j, j ∉ vs → σ[j]? = σ'[j]?) : wipe σ vs = wipe σ' vs := by
  apply List.ext_getElem?
  intro j
  by_cases hj : j ∈ vs
  · have key : ∀ (τ : L2.St) (us : List Nat), j ∈ us → (wipe τ us)[j]? = if j < τ.length then some none else none := fun τ us => by
      induction us with
      | nil => intro z; cases z
      | cons v us ih =>
        intro z
        show ((wipe τ us).set v none)[j]? = _
        rw [List.getElem?_set]
        by_cases e : v = j
        · rw [if_pos e]
          simp [wipe_length, e]
        · rw [if_neg e]
          exact ih ((List.mem_cons.mp z).resolve_left fun z => e z.symm)
    rw [key _ _ hj, key _ _ hj, hl]
  · rw [wipe_ne hj, wipe_ne hj, h j hj]
theorem eWipe_ok : ∀ {vs : List Nat} {env env' : Env}, eWipe vs env = some ((), env') → (∀ j, j ∈ vs → ∀ s, env'[j]? ≠ some (some s)) ∧ (∀ j, j ∉ vs → env'[j]? = env[j]?) ∧ env'.length = env.length ∧ (∀ (j : Nat) (s : Slot), env'[j]? = some (some s) → env[j]? = some (some s)) ∧ (∀ (j : Nat) (d : Dat), env[j]? = some (some (.mtb d)) → env'[j]? = some (some (.mtb d)))
  | [], env, env', h => by
    obtain ⟨_, rfl⟩ := eRet_some h
    exact ⟨(fun j z => by cases z), fun _ _ => rfl, rfl, fun _ _ e => e, fun _ _ e => e⟩
  | v :: vs, env, env', h => by
    obtain ⟨⟨⟩, e1, h1, h2⟩ := eBind_some h
    obtain ⟨a, b, c, d, m⟩ := eWipe_ok h1
    split at h2
    · rename_i hm
      cases h2
      have stp : ∀ (j : Nat) (s : Slot), (e1.set v none)[j]? = some (some s) → e1[j]? = some (some s) := fun j s z => by
        by_cases hj : v = j
        · subst hj
          rw [List.getElem?_set] at z
          simp at z
        · rw [List.getElem?_set_ne hj] at z
          exact z
      refine ⟨fun j z s e => ?_, fun j z => ?_, by simp [c], fun j s e => d j s (stp j s e), fun j d' e => ?_⟩
      · by_cases hj : v = j
        · subst hj
          rw [List.getElem?_set] at e
          simp at e
        · exact a j ((List.mem_cons.mp z).resolve_left fun z => hj z.symm) s (stp j s e)
      · rw [List.getElem?_set_ne (fun e => z (by simp [e]))]
        exact b j fun e => z (List.mem_cons_of_mem _ e)
      · have e2 := m j d' e
        have hj : v ≠ j := by
          rintro rfl
          exact not_mtb hm d' e2
        rw [List.getElem?_set_ne hj]
        exact e2
    · cases h2
/-- the same slots, elsewhere -/
theorem Rel.swap (R : Rel mg q env σ H) (hl : σ'.length = σ.length) (el : env'.length = env.length) (hs : ∀ (j : Nat) (s : Slot), env'[j]? = some (some s) → env[j]? = some (some s) ∧ σ'[j]? = σ[j]?) : Rel mg q env' σ' H := by
  have mm : ∀ b, MutAt env' σ' b → MutAt env σ b := fun b ⟨i, s, e, w, h⟩ => ⟨i, s, (hs i s e).1, w, by rw [← (hs i s e).2]; exact h⟩
  have hp : ∀ b, Prot q env' σ' b → Prot q env σ b := fun b z => z.elim .inl fun m => .inr (mm b m)
  refine ⟨by rw [el, R.len, hl], fun i d e => ?_, fun i s e w => ?_, fun i j s t a e1 w1 e2 w2 h1 h2 => ?_, R.qin⟩
  · obtain ⟨e1, e2⟩ := hs i _ e
    obtain ⟨v, h1, h2⟩ := R.val i d e1
    exact ⟨v, e2.trans h1, h2.mono hp fun _ _ e _ => e⟩
  · obtain ⟨e1, e2⟩ := hs i _ e
    obtain ⟨a, h1, h2, h3⟩ := R.wr i s e1 w
    exact ⟨a, e2.trans h1, h2, h3.mono hp (fun _ _ e _ => e) fun _ e => e⟩
  · obtain ⟨f1, f2⟩ := hs i _ e1
    obtain ⟨f3, f4⟩ := hs j _ e2
    exact R.inj i j s t a f1 w1 f3 w2 (f2.symm.trans h1) (f4.symm.trans h2)
theorem freeAt_no (h : freeAt vs env = true) (j : Nat) (hj : j ∈ vs) (s : Slot) : env[j]? ≠ some (some s) := fun e => by
  have := List.all_eq_true.mp h j hj
  rw [e] at this
  cases this
end
section
variable {X : Cx} {elt tg iter : Expr} {ifs : List Expr} {scope : Scope} {own : List (Str × Nat)} {pos : Pos} {it : EM (List Dat)} {gs : List Nat} {g : Dat → EM Unit} {t : EM Bool} {f : EM R}
theorem red_lc (vs : List Nat) (hv : ∀ j, j ∈ gs → j ∈ vs) (σ : L2.St) (H : Hp) (Q : VK) (hh : TD X.mg (eLc it g t f vs) σ H Q) : tLc (TDI X.mg it) (TDG X.mg gs g) (TDT X.mg t) (TD X.mg f) vs σ H Q := by
  obtain ⟨q, env, r, env', R, ev, k⟩ := hh
  obtain ⟨ds, e1, h1, ev1⟩ := eBind_some ev
  split at ev1
  · rename_i hfree
    obtain ⟨xs, e9, h9, ev2⟩ := eBind_some ev1
    obtain ⟨rfl, rfl⟩ := eRet_some ev2
    refine ⟨q, env, ds, e1, R, h1, fun J H1 R1 S1 hJ D hD => ?_⟩
    -- the block's own slots forgotten
    have W1 : Rel X.mg q e1 (wipe σ vs) H1 := R1.swap (wipe_length _ _) rfl fun j s e => ⟨e, wipe_ne fun z => freeAt_no hfree j z s e⟩
    have sw : ∀ {e2 : Env} {b : Addr}, (∀ j, j ∈ vs → ∀ s, e2[j]? ≠ some (some s)) → (MutAt e2 (wipe σ vs) b ↔ MutAt e2 σ b) := fun {e2 b} hn => by
      constructor
      · rintro ⟨i, s, e, w, h⟩
        exact ⟨i, s, e, w, by rw [← wipe_ne (vs := vs) fun z => hn i z s e]; exact h⟩
      · rintro ⟨i, s, e, w, h⟩
        exact ⟨i, s, e, w, by rw [wipe_ne (vs := vs) fun z => hn i z s e]; exact h⟩
    refine ⟨fun i m H2 => i ≤ ds.length ∧ m = ds.length - i ∧ ∃ e2 acc ys, Rel X.mg (fun b => q b ∨ b = D) e2 (wipe σ vs) H2 ∧ (∀ j, j ∈ vs → ∀ s, e2[j]? ≠ some (some s)) ∧ StepE e1 (wipe σ vs) H1 e2 H2 ∧ H2 D = some (.lst ys) ∧ IsDs X.mg (Prot (fun b => q b ∨ b = D) e2 (wipe σ vs)) H2 acc ys ∧ ¬ MutAt e2 (wipe σ vs) D ∧ loopC g t f vs (ds.drop i) acc e2 = some (xs, env'),
      ⟨_, Nat.zero_le _, rfl, e1, [], [], W1.guard hD (ext_new hD) (by rw [upd_same]; simp), freeAt_no hfree, .new hD, upd_same, .nil, fun m => W1.prot_new hD (.inr m), h9⟩, ?_⟩
    rintro i m H2 ⟨hi', hm, e2, acc, ys, R2, n2, S2, hDl, hacc, nD, hl⟩
    have HJ := hJ (Prot (fun b => q b ∨ b = D) e2 (wipe σ vs)) H2
      (fun b u e n => S2.keep b u e fun m => n (.inr ((sw (freeAt_no hfree)).mp m)))
      (fun a z => z.elim (fun z => z.elim (fun z => .inl (.inl z)) fun z => .inr (by rw [z]; exact hD)) fun m => .inl (.inr ((sw (freeAt_no hfree)).mp (S2.mono a m))))
      (fun a z => R2.prot_in z)
    by_cases hlt : i < ds.length
    · refine .inr ⟨HJ.1 i hlt, ?_⟩
      have hdrop : ds.drop i = ds[i] :: ds.drop (i + 1) := List.drop_eq_getElem_cons hlt
      rw [hdrop] at hl
      obtain ⟨⟨⟩, e3, h3, hl1⟩ := eBind_some hl
      obtain ⟨b4, e4, h4, hl2⟩ := eBind_some hl1
      refine ⟨fun H' => ∃ e5 acc' ys', Rel X.mg (fun b => q b ∨ b = D) e5 (wipe σ vs) H' ∧ (∀ j, j ∈ vs → ∀ s, e5[j]? ≠ some (some s)) ∧ StepE e1 (wipe σ vs) H1 e5 H' ∧ H' D = some (.lst ys') ∧ IsDs X.mg (Prot (fun b => q b ∨ b = D) e5 (wipe σ vs)) H' acc' ys' ∧ ¬ MutAt e5 (wipe σ vs) D ∧ loopC g t f vs (ds.drop (i + 1)) acc' e5 = some (xs, env'),
        fun H' ⟨e5, acc', ys', a1, a2, a3, a4, a5, a6, a7⟩ => ⟨_, (by omega : ds.length - (i + 1) < m), hlt, rfl, e5, acc', ys', a1, a2, a3, a4, a5, a6, a7⟩, fun x H3 hy => ?_⟩
      obtain ⟨hx, d, hd, isd⟩ := HJ.2.2 i x H3 hy hlt
      have hdd : d = ds[i] := by
        rw [List.getElem?_eq_getElem hlt] at hd
        exact (Option.some.inj hd).symm
      subst hdd
      have R3 := R2.ext hx
      have E3 : StepE e2 (wipe σ vs) H2 e2 H3 := .ext hx
      refine ⟨fun b => q b ∨ b = D, e2, _, e3, R3, isd, h3, fun σ2 R4 S4 => ⟨?_, ?_⟩⟩
      · have := wipe_eq (vs := vs) (σ := σ2) (σ' := wipe σ vs) S4.slen fun j hj => (S4.out j fun z => hj (hv j z)).2
        rw [this]
        exact wipe_eq (wipe_length _ _) fun j hj => wipe_ne hj
      · -- behind the turn's expressions
        have T3 : Step e2 (wipe σ vs) H2 e3 σ2 H3 := E3.to.trans S4.to
        have fin : ∀ {e6 e7 : Env} {H6 : Hp}, Rel X.mg (fun b => q b ∨ b = D) e6 σ2 H6 → StepE e3 σ2 H3 e6 H6 → eWipe vs e6 = some ((), e7) →
            (∀ b, MutAt e7 (wipe σ vs) b → MutAt e6 σ2 b) ∧ Rel X.mg (fun b => q b ∨ b = D) e7 (wipe σ vs) H6 ∧ (∀ j, j ∈ vs → ∀ s, e7[j]? ≠ some (some s)) ∧ StepE e2 (wipe σ vs) H2 e7 H6 := fun {e6 e7 H6} R6 S6 hw => by
          obtain ⟨w1, w2, w3, w4, w5⟩ := eWipe_ok hw
          have sl : ∀ (j : Nat) (s : Slot), e7[j]? = some (some s) → e6[j]? = some (some s) ∧ (wipe σ vs)[j]? = σ2[j]? := fun j s e => by
            have hj : j ∉ vs := fun z => w1 j z s e
            exact ⟨w4 j s e, ((S4.out j fun z => hj (hv j z)).2).symm⟩
          have mm : ∀ b, MutAt e7 (wipe σ vs) b → MutAt e6 σ2 b := fun b ⟨j, s, e, w, h⟩ => ⟨j, s, (sl j s e).1, w, by rw [← (sl j s e).2]; exact h⟩
          refine ⟨mm, R6.swap S4.slen.symm w3 sl, w1, ⟨fun b u e n => ?_, fun b z => ?_, fun b m => S4.mono b (S6.mono b (mm b m)), fun j s e => ?_, fun j d e => ?_, by rw [w3, S6.len, S4.len]⟩⟩
          · exact S6.keep b u (hx b u e) fun m => n (S4.mono b m)
          · refine S6.dom b ?_
            cases eb : H2 b with
            | none => exact absurd eb z
            | some u => rw [hx _ _ eb]; simp
          · have hj : j ∉ vs := fun z => n2 j z s e
            obtain ⟨s', e'⟩ := S6.there j s ((S4.out j fun z => hj (hv j z)).1.trans e)
            exact ⟨s', (w2 j hj).trans e'⟩
          · have hj : j ∉ vs := fun z => n2 j z _ e
            obtain ⟨d', e'⟩ := S6.muts j d ((S4.out j fun z => hj (hv j z)).1.trans e)
            exact ⟨d', (w2 j hj).trans e'⟩
        refine ⟨fun b => q b ∨ b = D, e3, b4, e4, R4, h4, fun H4 R5 S5 => ?_⟩
        cases b4 with
        | false =>
          obtain ⟨⟨⟩, e7, h7, hl3⟩ := eBind_some hl2
          obtain ⟨m7, R7, n7, S7⟩ := fin R5 S5 h7
          have hD4 : H4 D = some (.lst ys) := S5.keep D _ (hx D _ hDl) fun m => nD (S4.mono D m)
          refine ⟨e7, acc, ys, R7, n7, S2.trans S7, hD4, S7.isDs hacc, fun m => nD (S7.mono D m), hl3⟩
        | true =>
          obtain ⟨r5, e5, h5, hl3⟩ := eBind_some hl2
          obtain ⟨x6, e6, h6, hl4⟩ := eBind_some hl3
          obtain ⟨⟨⟩, e7, h7, hl5⟩ := eBind_some hl4
          split at hl5
          · rename_i hz
            refine ⟨fun b => q b ∨ b = D, e4, r5, e5, R5, h5, fun v H5 R6 S6 i6 => ?_⟩
            obtain ⟨R7, S7, d7⟩ := i6.force R6 h6
            have S8 : StepE e3 σ2 H3 e6 H5 := (S5.trans S6).trans S7
            obtain ⟨m8, R8, n8, S9⟩ := fin R7 S8 h7
            have hD5 : H5 D = some (.lst ys) := S8.keep D _ (hx D _ hDl) fun m => nD (S4.mono D m)
            have hlen : acc.length = ys.length := hacc.length
            have dv : IsD X.mg (Prot (fun b => q b ∨ b = D) e7 (wipe σ vs)) H5 x6 v := d7.mono (fun b z => z.elim .inl fun m => .inr (m8 b m)) fun _ _ e _ => e
            have nD7 : ¬ MutAt e7 (wipe σ vs) D := fun m => nD (S9.mono D m)
            have kp : ∀ b u, H5 b = some u → ¬ Prot (fun b => q b ∨ b = D) e7 (wipe σ vs) b → upd H5 D (.lst (ys ++ [v])) b = some u := fun b u e n => by
              rw [upd_ne fun z => n (.inl (.inr z))]
              exact e
            refine ⟨ys, hD5, by rw [← hlen]; exact Nat.lt_of_lt_of_le hz (sz_ok (Nat.le_refl _)), e7, acc ++ [x6], ys ++ [v], ?_, n8, ?_, upd_same, ?_, nD7, hl5⟩
            · refine ⟨R8.len, fun j d e => ?_, fun j s e w => ?_, R8.inj, fun b z => ?_⟩
              · obtain ⟨u, a1, a2⟩ := R8.val j d e
                exact ⟨u, a1, a2.mono (fun _ z => z) kp⟩
              · obtain ⟨a, a1, a2, a3⟩ := R8.wr j s e w
                exact ⟨a, a1, a2, a3.mono (fun _ z => z) kp fun u e => by
                  rw [upd_ne fun z => a2 (.inr z)]
                  exact e⟩
              · by_cases hb : b = D
                · rw [hb, upd_same]; simp
                · rw [upd_ne hb]; exact R8.qin b z
            · have S10 := S2.trans S9
              refine ⟨fun b u e n => ?_, fun b z => ?_, S10.mono, S10.there, S10.muts, S10.len⟩
              · rw [upd_ne (ne_of_none e hD)]
                exact S10.keep b u e n
              · by_cases hb : b = D
                · rw [hb, upd_same]; simp
                · rw [upd_ne hb]; exact S10.dom b z
            · exact IsDs.mono (fun _ z => z) kp ((S9.isDs hacc).append (.one dv))
          · cases hl5
    · have hie : i = ds.length := by omega
      subst hie
      rw [List.drop_length] at hl
      obtain ⟨rfl, rfl⟩ := eRet_some hl
      refine .inl ⟨HJ.2.1 _ (Nat.le_refl _), ?_⟩
      -- back to the def's own slots
      have R3 : Rel X.mg (fun b => q b ∨ b = D) env' σ H2 := R2.swap (wipe_length _ _).symm rfl fun j s e => ⟨e, (wipe_ne fun z => n2 j z s e).symm⟩
      have S3 : StepE e1 σ H1 env' H2 := ⟨fun b u e n => S2.keep b u e fun m => n ((sw (freeAt_no hfree)).mp m), S2.dom, fun b m => (sw (freeAt_no hfree)).mp (S2.mono b ((sw n2).mpr m)), S2.there, S2.muts, S2.len⟩
      refine k _ H2 (R3.less fun b z => .inl z) (S1.trans S3) ?_
      refine IsR.back (H0 := H1) ⟨D, rfl, hD, fun z => ?_, ⟨ys, hDl, ?_⟩, R3⟩ S1.dom
      · exact R1.qin D z hD
      · exact hacc.mono (fun b z => z.elim (fun z => z.elim (fun z => .inl (.inl z)) fun m => .inr ((sw n2).mpr m)) fun z => .inl (.inr z)) fun _ _ e _ => e
  · cases ev1
theorem d_lc (hc : X.calm = true) (hN : X.N.Nodup) (hi : PI X tg iter (TDI X.mg it)) (ok : BlkOk X.N X.env.scope scope own) (hv : ∀ j, j ∈ gs → j ∈ own.map (·.2))
    (hg : ∀ (s : Shared) (H : Hp) (C : Addr) (cl : List (Str × Addr)) (fp : List Addr), PG (X.blk s H scope (compEnvC scope cl C X.env) fp) tg (TDG X.mg gs g)) (ht : ∀ (s : Shared) (H : Hp) (C : Addr) (cl : List (Str × Addr)) (fp : List Addr), PTs (X.blk s H scope (compEnvC scope cl C X.env) fp) ifs (TDT X.mg t))
    (he : ∀ (s : Shared) (H : Hp) (C : Addr) (cl : List (Str × Addr)) (fp : List Addr), PE (X.blk s H scope (compEnvC scope cl C X.env) fp) elt (TD X.mg f)) (hs : ∀ x, foldedSetIterable iter X.env x = pure x := by intro _; rfl) :
    PE X (.ListComp elt [⟨tg, iter, ifs, 0⟩] scope pos) (TD X.mg (eLc it g t f (own.map (·.2)))) :=
  PE.of (pe_lc hc hN hi ok hg ht he hs) (red_lc _ hv)
theorem dts_nil : PTs X [] (TDT X.mg (eRet true)) := by
  refine ⟨fun pins s σ H Q I h => (pts_nil (X := X)).run pins s σ H Q I ?_⟩
  obtain ⟨q, env, r, env', R, ev, k⟩ := h
  obtain ⟨rfl, rfl⟩ := eRet_some ev
  exact k H R .refl
end
end DL
/-! == of a dict and a text. -/
namespace Own
open PySem PySem.Spec PySem.SeqAt PySem.W PyProof.Rows DT
open AutoSeq1
    (wpAny_loadPart')
open MeetsSeq
theorem str_eq_declines_dict (b : Str) (u : Tok) (l : Addr) (es : Array DictEntry) (ep : Nat) :
    Meets (Builtin.«str.__eq__» ⟨[.str b u, .ref l], []⟩) (fun _ R s => s.heap.get? l = some { cls := .type "dict", dict := none, data := .dict es ep, slots := #[] } ∧ R (.ok (.ret .notImplemented)) s) :=
  .of_wp fun prog w A R s h =>
      by obtain ⟨hp, g, d, tk, os⟩ := s; obtain ⟨hl, h⟩ := h; wp_walk using wpAny_loadPart' hl, wpAny_load hl; exact ⟨_, rfl, h⟩
section
variable {prog : Program} {w : World} {A :
    Around} {E : Value → Shared → Prop} {s : Shared}
theorem dict_declines_str {l : Addr} {es : Array DictEntry} {ep : Nat} (b : Str) (u : Tok) (hl : Raw s.heap l es ep) (Q : Value → Shared → Prop) (h : Q .notImplemented s) : wpAny (model prog w) A (call (.builtin "dict.__eq__") [.ref l, .str b u]) Q E s := by
  refine wpAny_call_entry PySem.F.slot_dict_eq hl.typeIs PySem.F.entry_dict_eq ?_ (PySem.F.args_dict_eq_2 _ _)
  show wpAny _ _ (Builtin.Dict.dictSlotArgs "__eq__" ⟨[.ref l, .str b u], []⟩ >>= _) _ _ s
  refine wpAny_bind ?_
  unfold
      Builtin.Dict.dictSlotArgs
  refine wpAny_bind (wpAny_notOrdered_dict hl.typeIs ?_)
  show wpAny _ _ (pure (Value.ref l, Value.str b u)) _ _ s
  refine wpAny_pure ?_
  refine wpAny_bind (wpAny_isInstance (T := "str") (typeIs_str s b u) PySem.F.sub_str_dict ?_)
  simp only [Bool.not_false,
      if_true]
  refine wpAny_bind
      (wpAny_rule ?_)
  exact wpAny_pure ⟨_, rfl, h⟩
end
section
variable {A : Around}
    {s : Shared}
theorem rcAt_dict_str {l : Addr} {es : Array DictEntry} {ep : Nat} (b : Str) (u : Tok) (hl : Raw s.heap l es ep) (hu : A.units < cLine) : RcAt A s (.ref l) (.str b u) false := fun prog w E Q h => by
  obtain ⟨⟨cls, dd, data, sl⟩, ho, ⟨hc, hd1, hd2⟩, hd⟩ := id hl
  simp only at hc hd hd1 hd2
  subst hc hd hd1 hd2
  exact rc_eq_decline_or (k := false) hl.typeIs (typeIs_str s b u) (by decide) F.sub_str_dict F.slot_dict_eq F.slot_str_eq_refl
    (fun Q' hq => dict_declines_str b u hl Q' hq)
    (fun _ hq => call_meets F.slot_str_eq_refl (typeIs_str s b u) F.entry_str_eq (F.args_str_eq_2 _ _) (str_eq_declines_dict b u l es ep) ⟨ho, hq⟩)
    (fun _ hq => wpAny_of_eq (rfl : isSame (.ref l)
        (.str b u) = pure false) hq) (.inr hu) h
theorem eqAt_dict_str {l : Addr} {es : Array DictEntry} {ep : Nat} (b : Str) (u : Tok) (hl : Raw s.heap l es ep) (hu : A.units < cLine) : EqAt A s (.ref l) (.str b u) false := fun prog w E Q h => by
  unfold eqBool
  refine wpAny_holding ?_
  refine wpAny_ite_split (fun hab =>
      absurd (eq_of_beq hab) nofun) (fun _ => ?_)
  exact wpAny_bind (rcAt_dict_str b u hl hu prog w E _ (wpAny_truthy_bool h))
theorem rcAt_str_dict {l : Addr} {es : Array DictEntry} {ep : Nat} (b : Str) (u : Tok) (hl : Raw s.heap l es ep) (hu : A.units < cLine) : RcAt A s (.str b u) (.ref l) false := fun prog w E Q h => by
  obtain ⟨⟨cls, dd, data, sl⟩, ho, ⟨hc, hd1, hd2⟩, hd⟩ := id hl
  simp only at hc hd hd1 hd2
  subst hc hd hd1 hd2
  exact rc_eq_decline_or (k := false) (typeIs_str s b u) hl.typeIs (by decide) F.sub_dict_str F.slot_str_eq F.slot_dict_eq_refl
    (fun _ hq => call_meets F.slot_str_eq (typeIs_str s b u) F.entry_str_eq (F.args_str_eq_2 _ _) (str_eq_declines_dict b u l es ep) ⟨ho, hq⟩)
    (fun Q' hq => dict_declines_str b u hl Q' hq)
    (fun _ hq => wpAny_of_eq (rfl : isSame (.str b u)
        (.ref l) = pure false) hq) (.inr hu) h
theorem eqAt_str_dict {l : Addr} {es : Array DictEntry} {ep : Nat} (b : Str) (u : Tok) (hl : Raw s.heap l es ep) (hu : A.units < cLine) : EqAt A s (.str b u) (.ref l) false := fun prog w E Q h => by
  unfold eqBool
  refine wpAny_holding ?_
  refine wpAny_ite_split (fun hab =>
      absurd (eq_of_beq hab) nofun) (fun _ => ?_)
  exact wpAny_bind (rcAt_str_dict b u hl hu prog w E _ (wpAny_truthy_bool h))
end
end Own
/-! Any datum != a text. -/
namespace Own
open PySem PySem.Spec PySem.SeqAt PySem.W PyProof.Rows DT
open AutoSeq1
    (wpAny_loadPart')
open MeetsSeq
theorem str_ne_declines_dict (b : Str) (u : Tok) (l : Addr) (es : Array DictEntry) (ep : Nat) :
    Meets (Builtin.«str.__ne__» ⟨[.str b u, .ref l], []⟩) (fun _ R s => s.heap.get? l = some { cls := .type "dict", dict := none, data := .dict es ep, slots := #[] } ∧ R (.ok (.ret .notImplemented)) s) :=
  .of_wp fun prog w A R s h =>
      by obtain ⟨hp, g, d, tk, os⟩ := s; obtain ⟨hl, h⟩ := h; wp_walk using wpAny_loadPart' hl, wpAny_load hl; exact ⟨_, rfl, h⟩
section
variable {prog : Program} {w : World} {A :
    Around} {E : Value → Shared → Prop} {s : Shared}
theorem dict_declines_strN {l : Addr} {es : Array DictEntry} {ep : Nat} (b : Str) (u : Tok) (hl : Raw s.heap l es ep) (Q : Value → Shared → Prop) (h : Q .notImplemented s) : wpAny (model prog w) A (call (.builtin "dict.__ne__") [.ref l, .str b u]) Q E s := by
  refine wpAny_call_entry PySem.F.slot_dict_ne hl.typeIs PySem.F.entry_dict_ne ?_ (PySem.F.args_dict_ne_2 _ _)
  show wpAny _ _ (Builtin.Dict.dictSlotArgs "__ne__" ⟨[.ref l, .str b u], []⟩ >>= _) _ _ s
  refine wpAny_bind ?_
  unfold
      Builtin.Dict.dictSlotArgs
  refine wpAny_bind (wpAny_notOrdered_dict hl.typeIs ?_)
  show wpAny _ _ (pure (Value.ref l, Value.str b u)) _ _ s
  refine wpAny_pure ?_
  refine wpAny_bind (wpAny_isInstance (T := "str") (typeIs_str s b u) PySem.F.sub_str_dict ?_)
  simp only [Bool.not_false,
      if_true]
  refine wpAny_bind
      (wpAny_rule ?_)
  exact wpAny_pure ⟨_, rfl, h⟩
end
section
variable {A : Around}
    {s : Shared}
theorem rcNeAt_dict_str {l : Addr} {es : Array DictEntry} {ep : Nat} (b : Str) (u : Tok) (hl : Raw s.heap l es ep) (hu : A.units < cLine) : RcNeAt A s (.ref l) (.str b u) true := fun prog w E Q h => by
  obtain ⟨⟨cls, dd, data, sl⟩, ho, ⟨hc, hd1, hd2⟩, hd⟩ := id hl
  simp only at hc hd hd1 hd2
  subst hc hd hd1 hd2
  exact rc_ne_decline_or (k := false) hl.typeIs (typeIs_str s b u) (by decide) F.sub_str_dict F.slot_dict_ne F.slot_str_ne_refl
    (fun Q' hq => dict_declines_strN b u hl Q' hq)
    (fun _ hq => call_meets F.slot_str_ne_refl (typeIs_str s b u) F.entry_str_ne (F.args_str_ne_2 _ _) (str_ne_declines_dict b u l es ep) ⟨ho, hq⟩)
    (fun _ hq => wpAny_of_eq (rfl : isSame (.ref l)
        (.str b u) = pure false) hq) (.inr hu) h
theorem rcNeAt_str_dict {l : Addr} {es : Array DictEntry} {ep : Nat} (b : Str) (u : Tok) (hl : Raw s.heap l es ep) (hu : A.units < cLine) : RcNeAt A s (.str b u) (.ref l) true := fun prog w E Q h => by
  obtain ⟨⟨cls, dd, data, sl⟩, ho, ⟨hc, hd1, hd2⟩, hd⟩ := id hl
  simp only at hc hd hd1 hd2
  subst hc hd hd1 hd2
  exact rc_ne_decline_or (k := false) (typeIs_str s b u) hl.typeIs (by decide) F.sub_dict_str F.slot_str_ne F.slot_dict_ne_refl
    (fun _ hq => call_meets F.slot_str_ne (typeIs_str s b u) F.entry_str_ne (F.args_str_ne_2 _ _) (str_ne_declines_dict b u l es ep) ⟨ho, hq⟩)
    (fun Q' hq => dict_declines_strN b u hl Q' hq)
    (fun _ hq => wpAny_of_eq (rfl : isSame (.str b u)
        (.ref l) = pure false) hq) (.inr hu) h
end
end Own
/-! ==, !=, in, not in of any data. -/
namespace DL
open PySem PySem.Spec L2
open PyProof.Rows hiding St
mutual
def depD : Dat → Nat
  | .tup ds => depDs ds + 1
  | .lst ds => depDs ds + 1
  | .dct _ ds => depDs ds + 1
  | .obj _ _ ds => depDs ds + 1
  | _ => 0
def depDs : List Dat → Nat
  | [] => 0
  | d :: ds => max (depD d) (depDs ds)
end
theorem depD_le {d : Dat} : ∀ {ds : List Dat}, d ∈ ds → depD d ≤ depDs ds
  | e :: es, h => by
    rw [depDs]
    rcases List.mem_cons.mp h with h | h
    · subst h
      exact Nat.le_max_left _ _
    · exact Nat.le_trans (depD_le h) (Nat.le_max_right _ _)
mutual
def eqD : Dat → Dat → Option Bool
  | .non, .non => some true
  | .bl a, .bl b => some (a == b)
  | .bl a, .int b => some ((if a then 1 else 0) == b)
  | .int a, .bl b => some (a == (if b then 1 else 0))
  | .int a, .int b => some (a == b)
  | .str a, .str b => some (a == b)
  | .tup as, .tup bs => eqDs as bs
  | .lst as, .lst bs => if as.length = bs.length then eqDs as bs else some false
  | .dct _ _, .str _ => some false
  | .str _, .dct _ _ => some false
  | .non, .bl _ | .non, .int _ | .non, .str _ | .non, .tup _ | .non, .lst _ => some false
  | .bl _, .non | .bl _, .str _ | .bl _, .tup _ | .bl _, .lst _ => some false
  | .int _, .non | .int _, .str _ | .int _, .tup _ | .int _, .lst _ => some false
  | .str _, .non | .str _, .bl _ | .str _, .int _ | .str _, .tup _ | .str _, .lst _ => some false
  | .tup _, .non | .tup _, .bl _ | .tup _, .int _ | .tup _, .str _ | .tup _, .lst _ => some false
  | .lst _, .non | .lst _, .bl _ | .lst _, .int _ | .lst _, .str _ | .lst _, .tup _ => some false
  | _, _ => none
def eqDs : List Dat → List Dat → Option Bool
  | [], [] => some true
  | a :: as, b :: bs => match eqD a b, eqDs as bs with
    | some x, some y => some (x && y)
    | _, _ => none
  | [], _ :: _ => some false
  | _ :: _, [] => some false
end
/-- item by item -/
theorem eqDs_at : ∀ {as bs : List Dat} {b : Bool}, eqDs as bs = some b → ∃ e : Nat → Bool, (∀ (j : Nat) (x y : Dat), as[j]? = some x → bs[j]? = some y → eqD x y = some (e j)) ∧ b = ((List.range (min as.length bs.length)).all e && as.length == bs.length)
  | [], [], b, h => by
    rw [eqDs] at h
    cases h
    exact ⟨fun _ => true, fun j x y e => by simp at e, rfl⟩
  | [], y :: ys, b, h => by
    rw [eqDs] at h
    cases h
    exact ⟨fun _ => true, fun j x y e => by simp at e, rfl⟩
  | x :: xs, [], b, h => by
    rw [eqDs] at h
    cases h
    refine ⟨fun _ => true, fun j x y e e2 => by simp at e2, ?_⟩
    simp
  | x :: xs, y :: ys, b, h => by
    rw [eqDs] at h
    cases h1 : eqD x y with
    | none =>
        rw [h1] at h; cases h
    | some c =>
      cases h2 : eqDs xs ys with
      | none =>
          rw [h1, h2] at h; cases h
      | some d =>
        rw [h1, h2] at h
        cases h
        obtain ⟨e, e1, e2⟩ := eqDs_at h2
        refine ⟨fun j => match j with
          | 0 => c
          | j + 1 => e j, fun j u v hu hv => ?_, ?_⟩
        · cases j with
          | zero =>
            simp at hu hv
            rw [← hu, ← hv]
            exact h1
          | succ j => exact e1 j u v (by simpa using hu) (by simpa using hv)
        · rw [e2]
          have hm : min (x :: xs).length (y :: ys).length = min xs.length ys.length + 1 := by simp
          rw [hm, List.range_succ_eq_map, List.all_cons, List.all_map]
          have hl : ((x :: xs).length == (y :: ys).length) = (xs.length == ys.length) := by simp
          rw [hl, Bool.and_assoc]
          rfl
theorem eqD_refl : ∀ (n : Nat) (d : Dat) (b : Bool), depD d ≤ n → eqD d d = some b → b = true := by
  intro n
  induction n with
  | zero =>
    intro d b hd h
    cases d <;> first | (rw [depD] at hd; omega) | (simp [eqD] at h; done) | (simp [eqD] at h; exact h.symm) | (simp [eqD] at h; exact h)
  | succ n ih =>
    have key : ∀ (ds : List Dat) (b : Bool), depDs ds ≤ n → eqDs ds ds = some b → b = true := by
      intro ds
      induction ds with
      | nil => intro b _ h; rw [eqDs] at h; cases h; rfl
      | cons d ds ihd =>
        intro b hd h
        rw [depDs] at hd
        rw [eqDs] at h
        cases h1 : eqD d d with
        | none =>
            rw [h1] at h; cases h
        | some x =>
          cases h2 : eqDs ds ds with
          | none =>
              rw [h1, h2] at h; cases h
          | some y =>
            rw [h1, h2] at h
            cases h
            rw [ih d x (by omega) h1, ihd y (by omega) h2]
            rfl
    intro d b hd h
    cases d with
    | tup ds =>
      rw [eqD] at h
      rw [depD] at hd
      exact key ds b (by omega) h
    | lst ds =>
      rw [eqD, if_pos rfl] at h
      rw [depD] at hd
      exact key ds b (by omega) h
    | _ => first | (simp [eqD] at h; done) | (simp [eqD] at h; exact h.symm) | (simp [eqD] at h; exact h)
mutual
def noObj : Dat → Bool
  | .tup ds => noObjs ds
  | .lst ds => noObjs ds
  | .dct _ ds => noObjs ds
  | .obj _ _ _ => false
  | .dcT _ _ => false
  | _ => true
def noObjs : List Dat → Bool
  | [] => true
  | d :: ds => noObj d && noObjs ds
end
theorem rd_inj {H : Hp} {a : Addr} {k l : List (Key × V)} (h : Rd H a (.dK k)) (g : Rd H a (.dK l)) : k = l := by
  rcases h with h | ⟨o, h⟩ <;> rcases g with g | ⟨o', g⟩ <;> (rw [h] at g; cases g) <;> rfl
theorem rd_tup {H : Hp} {a : Addr} {k : List (Key × V)} {vs : List V} (h : Rd H a (.dK k)) (g : H a = some (.tup vs)) : False := by
  rcases h with h | ⟨o, h⟩ <;> (rw [h] at g; cases g)
theorem rd_lst {H : Hp} {a : Addr} {k : List (Key × V)} {vs : List V} (h : Rd H a (.dK k)) (g : H a = some (.lst vs)) : False := by
  rcases h with h | ⟨o, h⟩ <;> (rw [h] at g; cases g)
section
variable {mg : Str → Option Value} {p : Addr → Prop} {H : Hp}
mutual
theorem same_dat : ∀ {d e : Dat} {v : V}, IsD mg p H d v → IsD mg p H e v → noObj d = true → noObj e = true → d = e
  | _, _, _, .non, h, _, _ => by cases h; rfl
  | _, _, _, .bl, h, _, _ => by cases h; rfl
  | _, _, _, .int, h, _, _ => by cases h; rfl
  | _, _, _, .str, h, _, _ => by cases h; rfl
  | _, _, _, .ty, h, _, _ => by cases h; rfl
  | _, _, _, .tup n s r, h, k, l => by
    cases h with
    | tup n2 s2 r2 =>
      rw [s] at s2
      cases s2
      rw [noObj] at k l
      rw [same_dats r r2 k l]
    | lst n2 s2 r2 => rw [s] at s2; cases s2
    | dct n2 s2 e2 r2 => exact (rd_tup s2 s).elim
    | obj => rw [noObj] at l; cases l
    | dcT => rw [noObj] at l; cases l
  | _, _, _, .lst n s r, h, k, l => by
    cases h with
    | lst n2 s2 r2 =>
      rw [s] at s2
      cases s2
      rw [noObj] at k l
      rw [same_dats r r2 k l]
    | tup n2 s2 r2 => rw [s] at s2; cases s2
    | dct n2 s2 e2 r2 => exact (rd_lst s2 s).elim
    | obj => rw [noObj] at l; cases l
    | dcT => rw [noObj] at l; cases l
  | _, _, _, .dct n s e r, h, k, l => by
    cases h with
    | dct n2 s2 e2 r2 =>
      have := rd_inj s s2
      subst this
      subst e e2
      rw [noObj] at k l
      rw [same_dats r r2 k l]
    | tup n2 s2 r2 => exact (rd_tup s s2).elim
    | lst n2 s2 r2 => exact (rd_lst s s2).elim
    | obj => rw [noObj] at l; cases l
    | dcT => rw [noObj] at l; cases l
  | _, _, _, .obj _ _ _ _ _, _, k, _ => by rw [noObj] at k; cases k
  | _, _, _, .dcT _ _ _ _, _, k, _ => by rw [noObj] at k; cases k
theorem same_dats : ∀ {d e : List Dat} {v : List V}, IsDs mg p H d v → IsDs mg p H e v → noObjs d = true → noObjs e = true → d = e
  | _, _, _, .nil, h, _, _ => by cases h; rfl
  | _, _, _, .cons a t, h, k, l => by
    cases h with
    | cons b u =>
      rw [noObjs, Bool.and_eq_true] at k l
      rw [same_dat a b k.1 l.1, same_dats t u k.2 l.2]
end
/-- one value, one datum, but for the tokens -/
theorem same_val {d e : Dat} {v v' : V} {u : Value} (h : IsD mg p H d v) (r : RelV v u) (h' : IsD mg p H e v') (r' : RelV v' u) (k : noObj d = true) (l : noObj e = true) : d = e ∨ ∃ n, d = .ty n := by
  by_cases hv : v = v'
  · subst hv
    exact .inl (same_dat h h' k l)
  · cases h with
    | non => cases r; cases h' <;> first | exact .inl rfl | (exfalso; first | (cases r'; done) | (obtain ⟨_, z⟩ := r'; cases z; done))
    | bl => cases r; cases h' <;> first | (cases r'; exact .inl rfl) | (exfalso; first | (cases r'; done) | (obtain ⟨_, z⟩ := r'; cases z; done))
    | int => obtain ⟨t, rfl⟩ := r; cases h' <;> first | (obtain ⟨_, z⟩ := r'; cases z; exact .inl rfl) | (exfalso; first | (cases r'; done) | (obtain ⟨_, z⟩ := r'; cases z; done))
    | str => obtain ⟨t, rfl⟩ := r; cases h' <;> first | (obtain ⟨_, z⟩ := r'; cases z; exact .inl rfl) | (exfalso; first | (cases r'; done) | (obtain ⟨_, z⟩ := r'; cases z; done))
    | ty => exact .inr ⟨_, rfl⟩
    | tup => cases r; cases h' <;> first | (cases r'; exact absurd rfl hv) | (exfalso; first | (cases r'; done) | (obtain ⟨_, z⟩ := r'; cases z; done))
    | lst => cases r; cases h' <;> first | (cases r'; exact absurd rfl hv) | (exfalso; first | (cases r'; done) | (obtain ⟨_, z⟩ := r'; cases z; done))
    | dct => cases r; cases h' <;> first | (cases r'; exact absurd rfl hv) | (exfalso; first | (cases r'; done) | (obtain ⟨_, z⟩ := r'; cases z; done))
    | obj => rw [noObj] at k; cases k
    | dcT => rw [noObj] at k; cases k
end
theorem noObj_at : ∀ {ds : List Dat} {j : Nat} {x : Dat}, noObjs ds = true → ds[j]? = some x → noObj x = true
  | [], _, _, _, e => by simp at e
  | d :: ds, 0, _, h, e => by
    rw [noObjs, Bool.and_eq_true] at h
    simp at e
    rw [← e]
    exact h.1
  | d :: ds, j + 1, _, h, e => by
    rw [noObjs, Bool.and_eq_true] at h
    exact noObj_at h.2 (by simpa using e)
section
variable {mg : Str → Option Value} {p : Addr → Prop} {H : Hp}
theorem IsDs.ex : ∀ {ds : List Dat} {vs : List V} {i : Nat} {u : Value} {us : List Value}, IsDs mg p H ds vs → Vals vs us → us[i]? = some u → ∃ d v, ds[i]? = some d ∧ IsD mg p H d v ∧ RelV v u
  | _, _, _, _, _, .nil, .nil, h => by simp at h
  | _, _, 0, _, _, .cons h _, .cons r _, e => by
    simp at e
    subst e
    exact ⟨_, _, rfl, h, r⟩
  | _, _, i + 1, _, _, .cons _ t, .cons _ r, e => by
    obtain ⟨d, v, h1, h2, h3⟩ := IsDs.ex (i := i) t r (by simpa using e)
    exact ⟨d, v, by simpa using h1, h2, h3⟩
end
section
variable {X : Cx} {pins : List (Addr × Obj)} {σ : L2.St} {p : Addr → Prop} {H : Hp} {s : Shared}
theorem raw_of (I : Inv X pins σ H s) {a : Addr} {kvs : List (Key × V)} (h : Rd H a (.dK kvs)) : ∃ es ep, DT.Raw s.heap a es ep := by
  obtain ⟨_, _, vs, _, o, es, ep, ho, hc, hd, _⟩ := (show ObjOk X.prog X.w H s.heap a (.dK kvs) from h.ok I.hok)
  exact ⟨es, ep, o, ho, hc, hd⟩
/-- a datum's shape in the heap -/
inductive Shp (X : Cx) (p : Addr → Prop) (H : Hp) (s : Shared) : Dat → Value → Prop
  | non : Shp X p H s .non .none
  | bl {b} : Shp X p H s (.bl b) (.bool b)
  | int {i t} : Shp X p H s (.int i) (.int i t)
  | str {z t} : Shp X p H s (.str z) (.str z t)
  | tup {a ds us} : s.heap.IsTuple a (us : List Value).toArray → ds.length = us.length → (∀ (i : Nat) (u : Value), us[i]? = some u → ∃ d v, ds[i]? = some d ∧ IsD X.mg p H d v ∧ RelV v u) → Shp X p H s (.tup ds) (.ref a)
  | lst {a ds us} : s.heap.IsList a (us : List Value).toArray → ds.length = us.length → (∀ (i : Nat) (u : Value), us[i]? = some u → ∃ d v, ds[i]? = some d ∧ IsD X.mg p H d v ∧ RelV v u) → Shp X p H s (.lst ds) (.ref a)
  | dct {a ks ds es ep} : DT.Raw s.heap a es ep → Shp X p H s (.dct ks ds) (.ref a)
  | ty {n u} : Shp X p H s (.ty n) u
  | obj {c ns ds u} : Shp X p H s (.obj c ns ds) u
  | dcT {ks ds u} : Shp X p H s (.dcT ks ds) u
theorem shp_of (I : Inv X pins σ H s) {d : Dat} {v : V} {u : Value} (h : IsV X.mg p H d v) (r : RelV v u) : Shp X p H s d u := by
  cases d with
  | non => rw [h.nonE] at r; cases r; exact .non
  | bl b => rw [h.blE] at r; cases r; exact .bl
  | int i => rw [h.intE] at r; obtain ⟨t, rfl⟩ := r; exact .int
  | str z => rw [h.strE] at r; obtain ⟨t, rfl⟩ := r; exact .str
  | ty n => exact .ty
  | tup ds =>
    obtain ⟨a, vs, rfl, _, ha, hd⟩ := h.tupE
    cases r
    obtain ⟨its, rv, ht, _⟩ := I.tuple (SqT.of (K := X.K) ha)
    exact .tup ht (by rw [hd.length, rv.length]) fun i u e => hd.ex rv e
  | lst ds =>
    obtain ⟨a, vs, rfl, ha, hd⟩ := h.lstE
    cases r
    obtain ⟨its, rv, ht, _⟩ := I.list (SqL.of (K := X.K) ha)
    exact .lst ht.isList (by rw [hd.length, rv.length]) fun i u e => hd.ex rv e
  | dct ks ds =>
    obtain ⟨a, kvs, rfl, ha, _⟩ := h.dctE
    cases r
    obtain ⟨es, ep, hr⟩ := raw_of I ha
    exact .dct hr
  | obj c ns ds => exact .obj
  | dcT ks ds => exact .dcT
theorem eqAt_of_rc {A : Around} {s : Shared} {y x : Value} {b : Bool} (h : SeqAt.RcAt A s y x b) (hf : ∀ k t, y ≠ .float k t) (hs : y = x → b = true) : SeqAt.EqAt A s y x b := by
  by_cases e : y = x
  · have := hs e
    subst e this
    exact SeqAt.EqAt.same y
  · intro prog w E Q hq
    unfold eqBool
    refine wpAny_holding ?_
    refine wpAny_ite_split (fun hab => absurd (eq_of_beq hab) e) (fun _ => ?_)
    cases y <;> first | exact wpAny_bind (h prog w E _ (wpAny_truthy_bool hq)) | exact absurd rfl (hf _ _)
theorem noFlt {mg : Str → Option Value} {p : Addr → Prop} {H : Hp} {d : Dat} {v : V} {u : Value} (h : IsD mg p H d v) (r : RelV v u) : ∀ k t, u ≠ .float k t := by
  rintro k t rfl
  cases h <;> first | (cases r; done) | (obtain ⟨_, z⟩ := r; cases z; done)
theorem apart_of {mg : Str → Option Value} {p : Addr → Prop} {H : Hp} {d e : Dat} {v v' : V} {u : Value} (h : IsD mg p H d v) (r : RelV v u) (h' : IsV mg p H e v') (r' : RelV v' u) : IsD mg p H e v' := by
  rcases h' with h' | ⟨a, rfl, pa, _⟩
  · exact h'
  · exfalso
    have r2 : u = .ref a := r'
    subst r2
    cases h with
    | tup n => cases r; exact n pa
    | lst n => cases r; exact n pa
    | dct n => cases r; exact n pa
    | obj n => cases r; exact n pa
    | dcT n => cases r; exact n pa
    | int => obtain ⟨_, z⟩ := r; cases z
    | str => obtain ⟨_, z⟩ := r; cases z
    | _ => cases r
theorem same_b {mg : Str → Option Value} {p : Addr → Prop} {H : Hp} {d e : Dat} {v v' : V} {u : Value} {b : Bool} (h : IsD mg p H d v) (r : RelV v u) (h' : IsD mg p H e v') (r' : RelV v' u) (k : noObj d = true) (l : noObj e = true) (q : eqD d e = some b) : b = true := by
  rcases same_val h r h' r' k l with z | ⟨n, z⟩
  · subst z
    exact eqD_refl _ d b (Nat.le_refl _) q
  · subst z
    cases e <;> simp [eqD] at q
/-- what two shapes give -/
theorem rc_shp {A : Around} {d e : Dat} {u w : Value} {b : Bool} (hd : Shp X p H s d u) (he : Shp X p H s e w) (h : eqD d e = some b) (hu : A.units < cLine)
    (ih : ∀ (ds es : List Dat), (d = .tup ds ∧ e = .tup es) ∨ (d = .lst ds ∧ e = .lst es) → ∀ (j : Nat) (x y : Dat) (v v' : V) (z z' : Value) (c : Bool), ds[j]? = some x → es[j]? = some y → IsD X.mg p H x v → RelV v z → IsD X.mg p H y v' → RelV v' z' → eqD x y = some c → SeqAt.EqAt A.in1 s z z' c) :
    SeqAt.RcAt A s u w b ∧ SeqAt.RcNeAt A s u w (!b) := by
  cases hd with
  | non =>
    cases he with
    | non => rw [eqD] at h; cases h; exact ⟨SeqAt.RcAt.none_none, SeqAt.RcNeAt.none_none⟩
    | bl => rw [eqD] at h; cases h; exact ⟨SeqAt.RcAt.none_bool _, SeqAt.RcNeAt.none_bool _⟩
    | int => rw [eqD] at h; cases h; exact ⟨SeqAt.RcAt.none_int _ _, SeqAt.RcNeAt.none_int _ _⟩
    | str => rw [eqD] at h; cases h; exact ⟨SeqAt.RcAt.none_str _ _, SeqAt.RcNeAt.none_str _ _⟩
    | tup t _ _ => rw [eqD] at h; cases h; exact ⟨SeqAt.RcAt.none_tuple t hu, SeqAt.RcNeAt.none_tuple t hu⟩
    | lst t _ _ => rw [eqD] at h; cases h; exact ⟨SeqAt.RcAt.none_list t hu, SeqAt.RcNeAt.none_list t hu⟩
    | _ => simp [eqD] at h
  | bl =>
    cases he with
    | non => rw [eqD] at h; cases h; exact ⟨SeqAt.RcAt.bool_none _, SeqAt.RcNeAt.bool_none _⟩
    | bl => rw [eqD] at h; cases h; exact ⟨SeqAt.RcAt.bool_bool _ _, SeqAt.RcNeAt.bool_bool _ _⟩
    | int => rw [eqD] at h; cases h; exact ⟨SeqAt.RcAt.bool_int _ _ _, SeqAt.RcNeAt.bool_int _ _ _⟩
    | str => rw [eqD] at h; cases h; exact ⟨SeqAt.RcAt.bool_str _ _ _, SeqAt.RcNeAt.bool_str _ _ _⟩
    | tup t _ _ => rw [eqD] at h; cases h; exact ⟨SeqAt.RcAt.bool_tuple _ t hu, SeqAt.RcNeAt.bool_tuple _ t hu⟩
    | lst t _ _ => rw [eqD] at h; cases h; exact ⟨SeqAt.RcAt.bool_list _ t hu, SeqAt.RcNeAt.bool_list _ t hu⟩
    | _ => simp [eqD] at h
  | int =>
    cases he with
    | non => rw [eqD] at h; cases h; exact ⟨SeqAt.RcAt.int_none _ _, SeqAt.RcNeAt.int_none _ _⟩
    | bl => rw [eqD] at h; cases h; exact ⟨SeqAt.RcAt.int_bool _ _ _, SeqAt.RcNeAt.int_bool _ _ _⟩
    | int => rw [eqD] at h; cases h; exact ⟨SeqAt.RcAt.int_int _ _ _ _, SeqAt.RcNeAt.int_int _ _ _ _⟩
    | str => rw [eqD] at h; cases h; exact ⟨SeqAt.RcAt.int_str _ _ _ _, SeqAt.RcNeAt.int_str _ _ _ _⟩
    | tup t _ _ => rw [eqD] at h; cases h; exact ⟨SeqAt.RcAt.int_tuple _ _ t hu, SeqAt.RcNeAt.int_tuple _ _ t hu⟩
    | lst t _ _ => rw [eqD] at h; cases h; exact ⟨SeqAt.RcAt.int_list _ _ t hu, SeqAt.RcNeAt.int_list _ _ t hu⟩
    | _ => simp [eqD] at h
  | str =>
    cases he with
    | non => rw [eqD] at h; cases h; exact ⟨SeqAt.RcAt.str_none _ _, SeqAt.RcNeAt.str_none _ _⟩
    | bl => rw [eqD] at h; cases h; exact ⟨SeqAt.RcAt.str_bool _ _ _, SeqAt.RcNeAt.str_bool _ _ _⟩
    | int => rw [eqD] at h; cases h; exact ⟨SeqAt.RcAt.str_int _ _ _ _, SeqAt.RcNeAt.str_int _ _ _ _⟩
    | str => rw [eqD] at h; cases h; exact ⟨SeqAt.RcAt.str_str _ _ _ _, SeqAt.RcNeAt.str_str _ _ _ _⟩
    | tup t _ _ => rw [eqD] at h; cases h; exact ⟨SeqAt.RcAt.str_tuple _ _ t hu, SeqAt.RcNeAt.str_tuple _ _ t hu⟩
    | lst t _ _ => rw [eqD] at h; cases h; exact ⟨SeqAt.RcAt.str_list _ _ t hu, SeqAt.RcNeAt.str_list _ _ t hu⟩
    | dct t => rw [eqD] at h; cases h; exact ⟨Own.rcAt_str_dict _ _ t hu, Own.rcNeAt_str_dict _ _ t hu⟩
    | _ => simp [eqD] at h
  | tup t hl hg =>
    cases he with
    | non => rw [eqD] at h; cases h; exact ⟨SeqAt.RcAt.tuple_none t hu, SeqAt.RcNeAt.tuple_none t hu⟩
    | bl => rw [eqD] at h; cases h; exact ⟨SeqAt.RcAt.tuple_bool _ t hu, SeqAt.RcNeAt.tuple_bool _ t hu⟩
    | int => rw [eqD] at h; cases h; exact ⟨SeqAt.RcAt.tuple_int _ _ t hu, SeqAt.RcNeAt.tuple_int _ _ t hu⟩
    | str => rw [eqD] at h; cases h; exact ⟨SeqAt.RcAt.tuple_str _ _ t hu, SeqAt.RcNeAt.tuple_str _ _ t hu⟩
    | lst t2 _ _ => rw [eqD] at h; cases h; exact ⟨SeqAt.RcAt.tuple_list t t2 hu, SeqAt.RcNeAt.tuple_list t t2 hu⟩
    | @tup a2 es us2 t2 hl2 hg2 =>
      rename_i a1 ds us1
      rw [eqD] at h
      obtain ⟨f, f1, f2⟩ := eqDs_at h
      have items : ∀ j (h1 : j < us1.toArray.size) (h2 : j < us2.toArray.size), SeqAt.EqAt A.in1 s us1.toArray[j] us2.toArray[j] (f j) := fun j h1 h2 => by
        obtain ⟨x, v, g1, g2, g3⟩ := hg j us1.toArray[j] (by simp [List.getElem?_eq_getElem (by simpa using h1)])
        obtain ⟨y, v', k1, k2, k3⟩ := hg2 j us2.toArray[j] (by simp [List.getElem?_eq_getElem (by simpa using h2)])
        exact ih ds es (.inl ⟨rfl, rfl⟩) j x y v v' _ _ _ g1 k1 g2 g3 k2 k3 (f1 j x y g1 k1)
      have e1 := SeqAt.RcAt.tuples (e := f) t t2 hu items
      have e2 := SeqAt.RcNeAt.tuples (e := f) t t2 hu items
      have hb : b = ((List.range (min us1.toArray.size us2.toArray.size)).all f && us1.toArray.size == us2.toArray.size) := by
        rw [f2, hl, hl2]
        simp
      rw [hb]
      exact ⟨e1, e2⟩
    | _ => simp [eqD] at h
  | lst t hl hg =>
    cases he with
    | non => rw [eqD] at h; cases h; exact ⟨SeqAt.RcAt.list_none t hu, SeqAt.RcNeAt.list_none t hu⟩
    | bl => rw [eqD] at h; cases h; exact ⟨SeqAt.RcAt.list_bool _ t hu, SeqAt.RcNeAt.list_bool _ t hu⟩
    | int => rw [eqD] at h; cases h; exact ⟨SeqAt.RcAt.list_int _ _ t hu, SeqAt.RcNeAt.list_int _ _ t hu⟩
    | str => rw [eqD] at h; cases h; exact ⟨SeqAt.RcAt.list_str _ _ t hu, SeqAt.RcNeAt.list_str _ _ t hu⟩
    | tup t2 _ _ => rw [eqD] at h; cases h; exact ⟨SeqAt.RcAt.list_tuple t t2 hu, SeqAt.RcNeAt.list_tuple t t2 hu⟩
    | @lst a2 es us2 t2 hl2 hg2 =>
      rename_i a1 ds us1
      rw [eqD] at h
      by_cases hsz : ds.length = es.length
      · rw [if_pos hsz] at h
        obtain ⟨f, f1, f2⟩ := eqDs_at h
        have items : ∀ j (h1 : j < us1.toArray.size) (h2 : j < us2.toArray.size), SeqAt.EqAt A.in1 s us1.toArray[j] us2.toArray[j] (f j) := fun j h1 h2 => by
          obtain ⟨x, v, g1, g2, g3⟩ := hg j us1.toArray[j] (by simp [List.getElem?_eq_getElem (by simpa using h1)])
          obtain ⟨y, v', k1, k2, k3⟩ := hg2 j us2.toArray[j] (by simp [List.getElem?_eq_getElem (by simpa using h2)])
          exact ih ds es (.inr ⟨rfl, rfl⟩) j x y v v' _ _ _ g1 k1 g2 g3 k2 k3 (f1 j x y g1 k1)
        have hz : us1.toArray.size = us2.toArray.size := by simp; omega
        have e1 := SeqAt.RcAt.lists (e := f) t t2 hz hu items
        have e2 := SeqAt.RcNeAt.lists (e := f) t t2 hz hu items
        have hb : b = (List.range us1.toArray.size).all f := by
          rw [f2, hsz, Nat.min_self]
          simp
          rw [← hsz, hl]
        rw [hb]
        exact ⟨e1, e2⟩
      · rw [if_neg hsz] at h
        cases h
        have hz : (us1.toArray.size != us2.toArray.size) = true := by
          rw [bne_iff_ne]
          simp
          omega
        exact ⟨SeqAt.RcAt.lists_lengths t t2 hz hu, SeqAt.RcNeAt.lists_lengths t t2 hz hu⟩
    | _ => simp [eqD] at h
  | dct t =>
    cases he with
    | str => rw [eqD] at h; cases h; exact ⟨Own.rcAt_dict_str _ _ t hu, Own.rcNeAt_dict_str _ _ t hu⟩
    | _ => simp [eqD] at h
  | ty => cases he <;> simp [eqD] at h
  | obj => cases he <;> simp [eqD] at h
  | dcT => cases he <;> simp [eqD] at h
theorem eq_dat (I : Inv X pins σ H s) : ∀ (n : Nat) (A : Around) (d e : Dat) (v v' : V) (u w : Value) (b : Bool), depD d ≤ n → noObj d = true → noObj e = true → A.units + n < cLine → IsV X.mg p H d v → RelV v u → IsV X.mg p H e v' → RelV v' w → eqD d e = some b →
    SeqAt.RcAt A s u w b ∧ SeqAt.RcNeAt A s u w (!b) ∧ (IsD X.mg p H d v → SeqAt.EqAt A s u w b) := by
  intro n
  induction n with
  | zero =>
    intro A d e v v' u w b hd k l hu h1 r1 h2 r2 he
    have R := rc_shp (A := A) (shp_of I h1 r1) (shp_of I h2 r2) he (by omega) fun ds es hh => by
      rcases hh with ⟨rfl, _⟩ | ⟨rfl, _⟩ <;> (rw [depD] at hd; omega)
    exact ⟨R.1, R.2, fun i1 => eqAt_of_rc R.1 (noFlt i1 r1) fun huw => by
      subst huw
      exact same_b i1 r1 (apart_of i1 r1 h2 r2) r2 k l he⟩
  | succ n ih =>
    intro A d e v v' u w b hd k l hu h1 r1 h2 r2 he
    have R := rc_shp (A := A) (shp_of I h1 r1) (shp_of I h2 r2) he (by omega) fun ds es hh j x y z z' o o' c g1 g2 i1 q1 i2 q2 hc => by
      have hx : depD x ≤ n ∧ noObj x = true ∧ noObj y = true := by
        have := depD_le (List.mem_of_getElem? g1)
        rcases hh with ⟨rfl, rfl⟩ | ⟨rfl, rfl⟩ <;> (rw [depD] at hd; rw [noObj] at k l; exact ⟨by omega, noObj_at k g1, noObj_at l g2⟩)
      exact (ih A.in1 x y z z' o o' c hx.1 hx.2.1 hx.2.2 (by show A.units + 1 + n < cLine; omega) (.inl i1) q1 (.inl i2) q2 hc).2.2 i1
    exact ⟨R.1, R.2, fun i1 => eqAt_of_rc R.1 (noFlt i1 r1) fun huw => by
      subst huw
      exact same_b i1 r1 (apart_of i1 r1 h2 r2) r2 k l he⟩
end
/-! ### the operations -/
def eqQ (d e : Dat) : Option Bool := if depD d ≤ 60 ∧ noObj d = true ∧ noObj e = true then eqD d e else none
def inDs (x : Dat) : List Dat → Option Bool
  | [] => some false
  | d :: ds => match eqQ d x, inDs x ds with
    | some a, some b => some (a || b)
    | _, _ => none
def seqOf : Dat → Option (List Dat)
  | .lst ds => some ds
  | .tup ds => some ds
  | _ => none
section
variable {X : Cx}
def rEqG (X : Cx) (neg : Bool) : R2 := fun x y H Q => ∃ p d e b, IsV X.mg p H d x ∧ IsV X.mg p H e y ∧ eqQ d e = some b ∧ Q (.bl (xor neg b)) H
theorem op_eqG (hu : X.A.units + 64 < cLine) : OpR X (compareOp .Eq) (rEqG X false) := by
  intro pins s σ H x
      y v u Q I rx ry h
  obtain ⟨p, d, e, b, h1, h2, he, q⟩ := h
  unfold eqQ at he
  split at he
  · rename_i hd
    exact (eq_dat I 60 X.A d e x y v u b hd.1 hd.2.1 hd.2.2 (by omega) h1 rx h2 ry he).1 _ _ _ _ ⟨.bl _, H, I, rfl, by simpa using q⟩
  · cases he
theorem op_neG (hu : X.A.units + 64 < cLine) : OpR X (compareOp .NotEq) (rEqG X true) := by
  intro pins s σ H x
      y v u Q I rx ry h
  obtain ⟨p, d, e, b, h1, h2, he, q⟩ := h
  unfold eqQ at he
  split at he
  · rename_i hd
    exact (eq_dat I 60 X.A d e x y v u b hd.1 hd.2.1 hd.2.2 (by omega) h1 rx h2 ry he).2.1 _ _ _ _ ⟨.bl _, H, I, rfl, by simpa using q⟩
  · cases he
theorem eqQ_some {d e : Dat} {b : Bool} (h : eqQ d e = some b) : depD d ≤ 60 ∧ noObj d = true ∧ noObj e = true ∧ eqD d e = some b := by
  unfold eqQ at h
  split at h
  · rename_i h2
    exact ⟨h2.1, h2.2.1, h2.2.2, h⟩
  · cases h
theorem inDs_all {x : Dat} : ∀ {ds : List Dat} {b : Bool}, inDs x ds = some b → (∀ (j : Nat) (y : Dat), ds[j]? = some y → ∃ c, eqQ y x = some c) ∧ b = ds.any fun y => eqQ y x == some true
  | [], b, h => by
    cases h
    exact ⟨fun j y e => by simp at e, rfl⟩
  | d :: ds, b, h => by
    rw [inDs] at h
    cases h1 : eqQ d x with
    | none =>
        rw [h1] at h; cases h
    | some a =>
      cases h2 : inDs x ds with
      | none =>
          rw [h1, h2] at h; cases h
      | some c =>
        rw [h1, h2] at h
        cases h
        obtain ⟨e1, e2⟩ := inDs_all h2
        refine ⟨fun j y hy => ?_, ?_⟩
        · cases j with
          | zero => simp at hy; rw [← hy]; exact ⟨a, h1⟩
          | succ j => exact e1 j y (by simpa using hy)
        · rw [e2, List.any_cons, h1]
          cases a <;> simp
open Classical in
/-- whether a value is that of an item that equals x -/
noncomputable def isIt (mg : Str → Option Value) (p : Addr → Prop) (H : Hp) (x : Dat) (y : Value) : Bool := decide (∃ d v, IsD mg p H d v ∧ RelV v y ∧ eqQ d x = some true)
theorem isIt_eq {mg : Str → Option Value} {p : Addr → Prop} {H : Hp} {x d : Dat} {v : V} {y : Value} {c : Bool} (h : IsD mg p H d v) (r : RelV v y) (e : eqQ d x = some c) : isIt mg p H x y = c := by
  unfold isIt
  cases c with
  | true => exact @decide_eq_true _ (Classical.propDecidable _) ⟨d, v, h, r, e⟩
  | false =>
    refine @decide_eq_false _ (Classical.propDecidable _) ?_
    rintro ⟨d', v', h', r', e'⟩
    rcases same_val h r h' r' (eqQ_some e).2.1 (eqQ_some e').2.1 with z | ⟨n, z⟩
    · subst z
      rw [e] at e'
      cases e'
    · subst z
      have := (eqQ_some e).2.2.2
      cases x <;> simp [eqD] at this
def rInG (X : Cx) (neg : Bool) : R2 := fun x y H Q => ∃ p d e ds b, IsV X.mg p H d x ∧ IsV X.mg p H e y ∧ seqOf e = some ds ∧ inDs d ds = some b ∧ Q (.bl (xor neg b)) H
theorem any_it {X : Cx} {p : Addr → Prop} {H : Hp} {d : Dat} {ds : List Dat} {b : Bool} {us : List Value} (hl : ds.length = us.length) (hg : ∀ (i : Nat) (u : Value), us[i]? = some u → ∃ d v, ds[i]? = some d ∧ IsD X.mg p H d v ∧ RelV v u) (h : inDs d ds = some b) :
    us.toArray.any (isIt X.mg p H d) = b := by
  obtain ⟨h1, h2⟩ := inDs_all h
  rw [h2, List.any_toArray]
  have : us.map (isIt X.mg p H d) = ds.map fun y => eqQ y d == some true := by
    apply List.ext_getElem?
    intro i
    rw [List.getElem?_map,
        List.getElem?_map]
    cases hu : us[i]? with
    | none =>
      rw [List.getElem?_eq_none_iff] at hu
      rw [List.getElem?_eq_none
          (by omega)]
      rfl
    | some u =>
      obtain ⟨y, v, g1, g2, g3⟩ := hg i u hu
      obtain ⟨c, hc⟩ := h1 i y g1
      rw [g1]
      simp only [Option.map_some]
      rw [isIt_eq g2 g3 hc, hc]
      cases c <;> rfl
  have e1 : us.any (isIt X.mg p H d) = (us.map (isIt X.mg p H d)).any id := by rw [List.any_map]; rfl
  have e2 : (ds.any fun y => eqQ y d == some true) = (ds.map fun y => eqQ y d == some true).any id := by rw [List.any_map]; rfl
  rw [e1, e2, this]
theorem eqAt_it {X : Cx} {pins : List (Addr × Obj)} {σ : L2.St} {p : Addr → Prop} {H : Hp} {s : Shared} (I : Inv X pins σ H s) (hu : X.A.units + 64 < cLine) {d : Dat} {x : V} {v : Value} (hx : IsV X.mg p H d x) (rx : RelV x v) {ds : List Dat} {b : Bool} (h : inDs d ds = some b) {us : List Value}
    (hg : ∀ (i : Nat) (u : Value), us[i]? = some u → ∃ d v, ds[i]? = some d ∧ IsD X.mg p H d v ∧ RelV v u) : ∀ y, y ∈ us.toArray → SeqAt.EqAt X.A.in1 s y v (isIt X.mg p H d y) := fun y hy => by
  obtain ⟨i, hi⟩ := List.getElem?_of_mem (by simpa using hy)
  obtain ⟨e, w, g1, g2, g3⟩ := hg i y hi
  obtain ⟨c, hc⟩ := (inDs_all h).1 i e g1
  rw [isIt_eq g2 g3 hc]
  obtain ⟨k1, k2, k3, k4⟩ := eqQ_some hc
  exact (eq_dat I 60 X.A.in1 e d w x y v c k1 k2 k3 (by show X.A.units + 1 + 60 < cLine; omega) (.inl g2) g3 hx rx k4).2.2 g2
theorem op_inG (hu : X.A.units + 64 < cLine) : OpR X (compareOp .In) (rInG X false) := by
  intro pins s σ H x
      y v u Q I rx ry h
  obtain ⟨p, d, e, ds, b, h1, h2, he, hb, q⟩ := h
  cases e with
  | lst es =>
    cases he
    cases shp_of I h2 ry with
    | lst t hl hg =>
      refine SeqAt.in_listAt (isIt X.mg p H d) t (eqAt_it I hu h1 rx hb hg) ⟨.bl _, H, I, rfl, ?_⟩
      rw [any_it hl hg hb]
      simpa using q
  | tup es =>
    cases he
    cases shp_of I h2 ry with
    | tup t hl hg =>
      refine SeqAt.in_tupleAt (isIt X.mg p H d) t (eqAt_it I hu h1 rx hb hg) ⟨.bl _, H, I, rfl, ?_⟩
      rw [any_it hl hg hb]
      simpa using q
  | _ => cases he
theorem op_notInG (hu : X.A.units + 64 < cLine) : OpR X (compareOp .NotIn) (rInG X true) := by
  intro pins s σ H x
      y v u Q I rx ry h
  obtain ⟨p, d, e, ds, b, h1, h2, he, hb, q⟩ := h
  cases e with
  | lst es =>
    cases he
    cases shp_of I h2 ry with
    | lst t hl hg =>
      refine SeqAt.notIn_listAt (isIt X.mg p H d) t (eqAt_it I hu h1 rx hb hg) ⟨.bl _, H, I, rfl, ?_⟩
      rw [any_it hl hg hb]
      simpa using q
  | tup es =>
    cases he
    cases shp_of I h2 ry with
    | tup t hl hg =>
      refine SeqAt.notIn_tupleAt (isIt X.mg p H d) t (eqAt_it I hu h1 rx hb hg) ⟨.bl _, H, I, rfl, ?_⟩
      rw [any_it hl hg hb]
      simpa using q
  | _ => cases he
end
end DL
/-! Operations of data: numbers, texts, rows. -/
namespace DL
open PySem PySem.Spec L2
open PyProof.Rows hiding St
section
variable {X : Cx}
theorem opOr {f : Value → Value → Sem Value} {r r' : R2} (h : OpR X f r) (h' : OpR X f r') : OpR X f (fun x y H Q => r x y H Q ∨ r' x y H Q) := OpR.or h h'
/-- a rule for one operation of data -/
structure Rule2 (X : Cx) (f : Value → Value → Sem Value) (op : Dat → Dat → Option Out) : Prop where
  ok : ∃ r, OpR X f r ∧ Op2 X.mg r op
theorem newL {mg : Str → Option Value} {p : Addr → Prop} {H : Hp} {ds : List Dat} {vs : List V} {a : Addr} (ha : H a = none) (h : IsDs mg p H ds vs) : IsO mg p H (upd H a (.lst vs)) (true, .lst ds) (.ref a) :=
  ⟨a, rfl, ha, vs, upd_same, h.new ha⟩
theorem newT {mg : Str → Option Value} {p : Addr → Prop} {H : Hp} {ds : List Dat} {vs : List V} {a : Addr} (hp : ∀ x, p x → H x ≠ none) (ha : H a = none) (h : IsDs mg p H ds vs) : IsO mg p H (upd H a (.tup vs)) (false, .tup ds) (.ref a) :=
  .tup (fun z => hp a z ha) upd_same (h.mono (fun _ z => z) fun b o e _ => ext_new ha b o e)
/-! numbers -/
def int2 (f : Int → Int → Option Out) : Dat → Dat → Option Out
  | .int i, .int j => f i j
  | _, _ => none
def dSub : Dat → Dat → Option Out := int2 fun i j => some (false, .int (i - j))
def dFdv : Dat → Dat → Option Out := int2 fun i j => if 0 < j ∧ j < 1073741824 then some (false, .int (i / j)) else none
def dMod : Dat → Dat → Option Out := int2 fun i j => if 0 < j then some (false, .int (i % j)) else none
def dPow : Dat → Dat → Option Out := int2 fun i j => if 0 ≤ j ∧ j ≤ 1000 ∧ i.natAbs < 1000 then some (false, .int (i ^ j.toNat)) else none
theorem int2_ok {f : Int → Int → Option Out} {g : Value → Value → Sem Value} {r : R2} (hr : OpR X g r) (h : ∀ (i j : Int) (o : Out), f i j = some o → ∃ k : Int, o = (false, .int k) ∧ ∀ H Q, Q (.int k) H → r (.int i) (.int j) H Q) : Rule2 X g (int2 f) := by
  refine ⟨r, hr, ?_⟩
  intro p H a b v w out hp h1 h2 ho Q k
  unfold int2 at ho
  split at ho
  · obtain ⟨n, e, hq⟩ := h _ _ _ ho
    subst e
    rw [h1.intE, h2.intE]
    exact hq H Q (k _ H (fun _ _ e => e) .int)
  · cases ho
theorem r_sub : Rule2 X (binaryOp .Sub) dSub := int2_ok op_sub fun i j o e => by
  cases e
  exact ⟨_, rfl, fun H Q q => ⟨i, j, rfl, rfl, q⟩⟩
theorem r_fdv : Rule2 X (binaryOp .FloorDiv) dFdv := int2_ok op_fdiv fun i j o e => by
  split at e
  · rename_i hc
    cases e
    exact ⟨_, rfl, fun H Q q => ⟨i, j, rfl, rfl, hc, q⟩⟩
  · cases e
theorem r_mod : Rule2 X (binaryOp .Mod) dMod := int2_ok op_mod fun i j o e => by
  split at e
  · rename_i hc
    cases e
    exact ⟨_, rfl, fun H Q q => ⟨i, j, rfl, rfl, hc, q⟩⟩
  · cases e
theorem r_pow : Rule2 X (binaryOp .Pow) dPow := int2_ok op_pow fun i j o e => by
  split at e
  · rename_i hc
    cases e
    exact ⟨_, rfl, fun H Q q => ⟨i, j, rfl, rfl, ⟨hc.1, by omega, by omega⟩, q⟩⟩
  · cases e
/-! + and * -/
def dAdd : Dat → Dat → Option Out
  | .int i, .int j => some (false, .int (i + j))
  | .str i, .str j => if i.length + j.length ≤ 100000 then some (false, .str (i ++ j)) else none
  | .lst i, .lst j => if i.length + j.length ≤ 100000 then some (true, .lst (i ++ j)) else none
  | .tup i, .tup j => if i.length + j.length ≤ 100000 then some (false, .tup (i ++ j)) else none
  | _, _ => none
def rCat0 (K : PySem.W.Frag) : R2 := fun x y H Q => ∃ a b ys, x = .ref a ∧ y = .ref b ∧ SqT K H a [] ∧ SqT K H b ys ∧ Q y H
theorem op_cat0 : OpR X (binaryOp .Add) (rCat0 X.K) := by
  intro pins s σ H x
      y v u Q I rx ry h
  obtain ⟨a, b, ys, rfl, rfl, ha, hb, q⟩ := h
  cases rx
  cases ry
  obtain ⟨its, r1, p1, _⟩ :=
      I.tuple ha
  obtain ⟨its2, r2, p2, _⟩ :=
      I.tuple hb
  cases r1
  exact L2.cat_tup0 p1 p2 ⟨.ref b, H, I, rfl, q⟩
theorem r_add : Rule2 X (binaryOp .Add) dAdd := by
  refine ⟨_, opOr (opOr op_add op_add_str) (opOr op_cat (opOr op_catT op_cat0)), ?_⟩
  intro p H a b v w out hp h1 h2 ho Q k
  unfold dAdd at ho
  split at ho
  · cases ho
    rw [h1.intE, h2.intE]
    exact .inl (.inl ⟨_, _, rfl, rfl, k _ H (fun _ _ e => e) .int⟩)
  · split at ho
    · rename_i hz
      cases ho
      rw [h1.strE, h2.strE]
      exact .inl (.inr ⟨_, _, rfl, rfl, sz_ok hz, k _ H (fun _ _ e => e) .str⟩)
    · cases ho
  · split at ho
    · rename_i hz
      cases ho
      obtain ⟨a1, xs, rfl, e1, d1⟩ := h1.lstE
      obtain ⟨a2, ys, rfl, e2, d2⟩ := h2.lstE
      exact .inr (.inl ⟨a1, a2, xs, ys, rfl, rfl, e1, e2, sz_ok (by rw [← d1.length, ← d2.length]; exact hz), fun c hc => k _ _ (ext_new hc) (newL hc (d1.append d2))⟩)
    · cases ho
  · split at ho
    · rename_i hz
      cases ho
      obtain ⟨a1, xs, rfl, n1, e1, d1⟩ := h1.tupE
      obtain ⟨a2, ys, rfl, n2, e2, d2⟩ := h2.tupE
      by_cases hx : xs = []
      · subst hx
        cases d1
        exact .inr (.inr (.inr ⟨a1, a2, ys, rfl, rfl, SqT.of e1, SqT.of e2, k _ H (fun _ _ e => e) (.tup n2 e2 d2)⟩))
      · refine .inr (.inr (.inl ⟨a1, a2, xs, ys, rfl, rfl, SqT.of e1, SqT.of e2, hx, sz_ok (by rw [← d1.length, ← d2.length]; exact hz), fun hy => ?_, fun hy c hc => k _ _ (ext_new hc) (newT hp hc (d1.append d2))⟩))
        subst hy
        cases d2
        refine k _ H (fun _ _ e => e) ?_
        show IsD X.mg p H (.tup (_ ++ [])) _
        rw [List.append_nil]
        exact .tup n1 e1 d1
    · cases ho
  · cases ho
def dMul : Dat → Dat → Option Out
  | .int i, .int j => if (-(2 ^ 64) < i ∧ i < 2 ^ 64) ∨ (-(2 ^ 64) < j ∧ j < 2 ^ 64) then some (false, .int (i * j)) else none
  | .str z, .int i => if z.length ≤ 16 ∧ 0 ≤ i ∧ i ≤ 1000 then some (false, .str (Txt.mul z i)) else none
  | .lst ds, .int k => if 0 ≤ k ∧ k < 100000 ∧ ds.length * k.toNat ≤ 100000 then some (true, .lst (List.replicate k.toNat ds).flatten) else none
  | .tup ds, .int k => if 1 ≤ ds.length ∧ 2 ≤ k ∧ k ≤ 1000 ∧ ds.length ≤ 1000 then some (false, .tup (List.replicate k.toNat ds).flatten) else none
  | _, _ => none
theorem IsDs.rep {mg : Str → Option Value} {p : Addr → Prop} {H : Hp} {ds : List Dat} {vs : List V} (h : IsDs mg p H ds vs) : ∀ n, IsDs mg p H (List.replicate n ds).flatten (List.replicate n vs).flatten
  | 0 => .nil
  | n + 1 => by
    rw [List.replicate_succ, List.replicate_succ,
        List.flatten_cons, List.flatten_cons]
    exact h.append (h.rep n)
theorem op_mulS : OpR X (binaryOp .Mult) (fun x y H Q => ∃ z i, x = .str z ∧ y = .int i ∧ z.length ≤ 16 ∧ 0 ≤ i ∧ i ≤ 1000 ∧ Q (.str (Txt.mul z i)) H) := by
  intro pins s σ H x
      y v u Q I rx ry h
  obtain ⟨z, i, rfl, rfl, hz, h0, h1, q⟩ := h
  obtain ⟨t, rfl⟩ := rx
  obtain ⟨t', rfl⟩ := ry
  exact PySem.W.KXi.mul (n := z.length) rfl hz (by omega) (by omega) fun t' k _ _ => ⟨.str _, H, I.kept (t' := k) fun _ _ y => y, ⟨_, rfl⟩, q⟩
theorem mulS_len {z : Str} {i : Int} (h : 0 ≤ i) : ((Txt.mul z i).length : Int) = (z.length : Int) * i := by
  have e := len_mul z i
  rw [if_neg (fun c => absurd (of_decide_eq_true c) (by omega))] at e
  exact e
theorem r_mul : Rule2 X (binaryOp .Mult) dMul := by
  refine ⟨_, opOr (opOr (opOr op_mul op_mulS) op_rep) op_repT, ?_⟩
  intro p H a b v w out hp h1 h2 ho Q k
  unfold dMul at ho
  split at ho
  · split at ho
    · rename_i hc
      cases ho
      rw [h1.intE, h2.intE]
      exact .inl (.inl (.inl ⟨_, _, rfl, rfl, hc, k _ H (fun _ _ e => e) .int⟩))
    · cases ho
  · split at ho
    · rename_i hc
      cases ho
      rw [h1.strE, h2.intE]
      exact .inl (.inl (.inr ⟨_, _, rfl, rfl, hc.1, hc.2.1, hc.2.2, k _ H (fun _ _ e => e) .str⟩))
    · cases ho
  · split at ho
    · rename_i hc
      cases ho
      obtain ⟨a1, xs, rfl, e1, d1⟩ := h1.lstE
      rw [h2.intE]
      exact .inl (.inr ⟨a1, _, xs, rfl, rfl, e1, by omega, by omega, sz_ok (by rw [← d1.length]; exact hc.2.2), fun c hc => k _ _ (ext_new hc) (newL hc (d1.rep _))⟩)
    · cases ho
  · split at ho
    · rename_i hc
      cases ho
      obtain ⟨a1, xs, rfl, n1, e1, d1⟩ := h1.tupE
      rw [h2.intE]
      exact .inr ⟨a1, _, xs, rfl, rfl, SqT.of e1, (fun z => by rw [d1.length, z] at hc; exact absurd hc.1 (by decide)), hc.2.1, hc.2.2.1, by rw [← d1.length]; exact hc.2.2.2, fun c hc => k _ _ (ext_new hc) (newT hp hc (d1.rep _))⟩
    · cases ho
  · cases ho
/-! order -/
def dLt : Dat → Dat → Option Out
  | .int i, .int j => some (false, .bl (decide (i < j)))
  | .str i, .str j => some (false, .bl (decide (i.cps.toList < j.cps.toList)))
  | _, _ => none
def dLe : Dat → Dat → Option Out
  | .int i, .int j => some (false, .bl (decide (i ≤ j)))
  | .str i, .str j => some (false, .bl (!decide (j.cps.toList < i.cps.toList)))
  | _, _ => none
def dGt : Dat → Dat → Option Out
  | .int i, .int j => some (false, .bl (decide (j < i)))
  | _, _ => none
def dGe : Dat → Dat → Option Out
  | .int i, .int j => some (false, .bl (decide (j ≤ i)))
  | _, _ => none
theorem r_lt : Rule2 X (compareOp .Lt) dLt := by
  refine ⟨_, opOr op_lt op_lt_str, ?_⟩
  intro p H a b v w out hp h1 h2 ho Q k
  unfold dLt at ho
  split at ho
  · cases ho
    rw [h1.intE, h2.intE]
    exact .inl ⟨_, _, rfl, rfl, k _ H (fun _ _ e => e) .bl⟩
  · cases ho
    rw [h1.strE, h2.strE]
    exact .inr ⟨_, _, rfl, rfl, k _ H (fun _ _ e => e) .bl⟩
  · cases ho
theorem r_le : Rule2 X (compareOp .LtE) dLe := by
  refine ⟨_, opOr op_le op_le_str, ?_⟩
  intro p H a b v w out hp h1 h2 ho Q k
  unfold dLe at ho
  split at ho
  · cases ho
    rw [h1.intE, h2.intE]
    exact .inl ⟨_, _, rfl, rfl, k _ H (fun _ _ e => e) .bl⟩
  · cases ho
    rw [h1.strE, h2.strE]
    exact .inr ⟨_, _, rfl, rfl, k _ H (fun _ _ e => e) .bl⟩
  · cases ho
theorem r_gt : Rule2 X (compareOp .Gt) dGt := by
  refine ⟨_, op_gt, ?_⟩
  intro p H a b v w out hp h1 h2 ho Q k
  unfold dGt at ho
  split at ho
  · cases ho
    rw [h1.intE, h2.intE]
    exact ⟨_, _, rfl, rfl, k _ H (fun _ _ e => e) .bl⟩
  · cases ho
theorem r_ge : Rule2 X (compareOp .GtE) dGe := by
  refine ⟨_, op_ge, ?_⟩
  intro p H a b v w out hp h1 h2 ho Q k
  unfold dGe at ho
  split at ho
  · cases ho
    rw [h1.intE, h2.intE]
    exact ⟨_, _, rfl, rfl, k _ H (fun _ _ e => e) .bl⟩
  · cases ho
/-! ==, in, is -/
def dEq (a b : Dat) : Option Out := (eqQ a b).map fun k => (false, .bl k)
def dNe (a b : Dat) : Option Out := (eqQ a b).map fun k => (false, .bl (!k))
def occ (j i : Str) : Bool := !(Builtin.Str.occurrences j i 0 j.length 1).isEmpty
def dIn : Dat → Dat → Option Out
  | .str i, .str j => some (false, .bl (occ j i))
  | x, .lst ds => (inDs x ds).map fun k => (false, .bl k)
  | x, .tup ds => (inDs x ds).map fun k => (false, .bl k)
  | _, _ => none
def dNotIn : Dat → Dat → Option Out
  | .str i, .str j => some (false, .bl (!occ j i))
  | x, .lst ds => (inDs x ds).map fun k => (false, .bl (!k))
  | x, .tup ds => (inDs x ds).map fun k => (false, .bl (!k))
  | _, _ => none
def dIs : Dat → Dat → Option Out
  | .non, .non => some (false, .bl true)
  | .obj _ _ _, .non => none
  | .dcT _ _, .non => none
  | .ty _, .non => none
  | _, .non => some (false, .bl false)
  | _, _ => none
def dIsNot (a b : Dat) : Option Out := match dIs a b with
  | some (_, .bl k) => some (false, .bl (!k))
  | _ => none
theorem map_some2 {o : Option Bool} {f : Bool → Out} {out : Out} (h : o.map f = some out) : ∃ k, o = some k ∧ out = f k := by
  cases o with
  | none => cases h
  | some k => cases h; exact ⟨k, rfl, rfl⟩
theorem r_eq (hu : X.A.units + 64 < cLine) : Rule2 X (compareOp .Eq) dEq := by
  refine ⟨_, op_eqG hu, ?_⟩
  intro p H a b v w out hp h1 h2 ho Q k
  obtain ⟨c, e, rfl⟩ := map_some2 ho
  exact ⟨p, a, b, c, h1, h2, e, k _ H (fun _ _ e => e) (by rw [Bool.false_xor]; exact .bl)⟩
theorem r_ne (hu : X.A.units + 64 < cLine) : Rule2 X (compareOp .NotEq) dNe := by
  refine ⟨_, op_neG hu, ?_⟩
  intro p H a b v w out hp h1 h2 ho Q k
  obtain ⟨c, e, rfl⟩ := map_some2 ho
  exact ⟨p, a, b, c, h1, h2, e, k _ H (fun _ _ e => e) (by rw [Bool.true_xor]; exact .bl)⟩
theorem in_red {X : Cx} {neg : Bool} {op : Dat → Dat → Option Out} (hop : ∀ a b out, op a b = some out → (∃ i j, a = .str i ∧ b = .str j ∧ out = (false, .bl (xor neg (occ j i)))) ∨ (∃ ds k, seqOf b = some ds ∧ inDs a ds = some k ∧ out = (false, .bl (xor neg k)))) :
    Op2 X.mg (fun x y H Q => (∃ i j, x = .str i ∧ y = .str j ∧ Q (.bl (xor neg (occ j i))) H) ∨ rInG X neg x y H Q) op := by
  intro p H a b v w out hp h1 h2 ho Q k
  rcases hop a b out ho with ⟨i, j, rfl, rfl, rfl⟩ | ⟨ds, c, e1, e2, rfl⟩
  · rw [h1.strE, h2.strE]
    exact .inl ⟨i, j, rfl, rfl, k _ H (fun _ _ e => e) .bl⟩
  · exact .inr ⟨p, a, b, ds, c, h1, h2, e1, e2, k _ H (fun _ _ e => e) .bl⟩
theorem r_in (hu : X.A.units + 64 < cLine) : Rule2 X (compareOp .In) dIn := by
  refine ⟨_, opOr op_in_str (op_inG hu), ?_⟩
  have h := in_red (X := X) (neg := false) (op := dIn) fun a b out ho => by
    unfold dIn at ho
    split at ho
    · cases ho
      exact .inl ⟨_, _, rfl, rfl, by rw [Bool.false_xor]⟩
    · obtain ⟨k, e, rfl⟩ := map_some2 ho
      exact .inr ⟨_, k, rfl, e, by rw [Bool.false_xor]⟩
    · obtain ⟨k, e, rfl⟩ := map_some2 ho
      exact .inr ⟨_, k, rfl, e, by rw [Bool.false_xor]⟩
    · cases ho
  intro p H a b v w out hp h1 h2 ho Q k
  rcases h p H a b v w out hp h1 h2 ho Q k with ⟨i, j, e1, e2, q⟩ | q
  · exact .inl ⟨i, j, e1, e2, by rw [Bool.false_xor] at q; exact q⟩
  · exact .inr q
theorem r_notIn (hu : X.A.units + 64 < cLine) : Rule2 X (compareOp .NotIn) dNotIn := by
  refine ⟨_, opOr op_notin_str (op_notInG hu), ?_⟩
  have h := in_red (X := X) (neg := true) (op := dNotIn) fun a b out ho => by
    unfold dNotIn at ho
    split at ho
    · cases ho
      exact .inl ⟨_, _, rfl, rfl, by rw [Bool.true_xor]⟩
    · obtain ⟨k, e, rfl⟩ := map_some2 ho
      exact .inr ⟨_, k, rfl, e, by rw [Bool.true_xor]⟩
    · obtain ⟨k, e, rfl⟩ := map_some2 ho
      exact .inr ⟨_, k, rfl, e, by rw [Bool.true_xor]⟩
    · cases ho
  intro p H a b v w out hp h1 h2 ho Q k
  rcases h p H a b v w out hp h1 h2 ho Q k with ⟨i, j, e1, e2, q⟩ | q
  · exact .inl ⟨i, j, e1, e2, by rw [Bool.true_xor] at q; exact q⟩
  · exact .inr q
theorem isNon {mg : Str → Option Value} {p : Addr → Prop} {H : Hp} {d : Dat} {v : V} {c : Bool} (h : IsV mg p H d v) (e : dIs d .non = some (false, .bl c)) : decide (v = .non) = c := by
  cases d with
  | non => cases e; rw [h.nonE]; rfl
  | bl b => cases e; rw [h.blE]; rfl
  | int b => cases e; rw [h.intE]; rfl
  | str b => cases e; rw [h.strE]; rfl
  | tup b =>
    cases e
    obtain ⟨a, vs, rfl, _⟩ := h.tupE
    rfl
  | lst b =>
    cases e
    obtain ⟨a, vs, rfl, _⟩ := h.lstE
    rfl
  | dct ks b =>
    cases e
    obtain ⟨a, vs, rfl, _⟩ := h.dctE
    rfl
  | _ => cases e
theorem dIs_some {a b : Dat} {out : Out} (h : dIs a b = some out) : b = .non ∧ ∃ c, out = (false, .bl c) := by
  cases b <;> cases a <;> first | (cases h; done) | (cases h; exact ⟨rfl, _, rfl⟩)
theorem r_is : Rule2 X (compareOp .Is) dIs := by
  refine ⟨_, op_isN, ?_⟩
  intro p H a b v w out hp h1 h2 ho Q k
  obtain ⟨rfl, c, rfl⟩ := dIs_some ho
  rw [h2.nonE]
  exact ⟨rfl, by rw [isNon h1 ho]; exact k _ H (fun _ _ e => e) .bl⟩
theorem r_isNot : Rule2 X (compareOp .IsNot) dIsNot := by
  refine ⟨_, op_notN, ?_⟩
  intro p H a b v w out hp h1 h2 ho Q k
  unfold dIsNot at ho
  cases e : dIs a b with
  | none => rw [e] at ho; cases ho
  | some o =>
    obtain ⟨rfl, c, rfl⟩ := dIs_some e
    rw [e] at ho
    cases ho
    rw [h2.nonE]
    exact ⟨rfl, by rw [isNon h1 e]; exact k _ H (fun _ _ e => e) .bl⟩
end
end DL
/-! Places, slices, built-in functions, iterators, stores. -/
namespace DL
open PySem PySem.Spec L2
open PyProof.Rows hiding St
/-! ### one place -/
def chS (c : Nat) : Dat := .str ⟨#[c]⟩
def dIx : Dat → Dat → Option Out
  | .lst ds, .int i => (atI ds i).map fun d => (false, d)
  | .tup ds, .int i => (atI ds i).map fun d => (false, d)
  | .str z, .int i => if z.length ≤ 100000 then (atI z.cps.toList i).map fun c => (false, chS c) else none
  | _, _ => none
structure RuleIx (X : Cx) (op : Dat → Dat → Option Out) : Prop where
  ok : ∃ r, IxR X r ∧ Op2 X.mg r op
section
variable {X : Cx}
theorem atI_at {mg : Str → Option Value} {p : Addr → Prop} {H : Hp} {ds : List Dat} {vs : List V} {i : Int} {d : Dat} (h : IsDs mg p H ds vs) (e : atI ds i = some d) : ∃ v, atI vs i = some v ∧ IsD mg p H d v := by
  unfold atI at e ⊢
  rw [← h.length]
  cases q : ixN ds.length i with
  | none =>
      rw [q] at e; cases e
  | some j =>
    rw [q] at e
    exact h.get e
theorem omap {α β : Type} {o : Option α} {f : α → β} {b : β} (h : o.map f = some b) : ∃ a, o = some a ∧ b = f a := by
  cases o with
  | none => cases h
  | some a => cases h; exact ⟨a, rfl, rfl⟩
theorem r_ix : RuleIx X dIx := by
  refine ⟨_, ix_seq, ?_⟩
  intro p H a b v w out hp h1 h2 ho Q k
  unfold dIx at ho
  split at ho
  · obtain ⟨d, e, rfl⟩ := omap ho
    obtain ⟨a1, xs, rfl, e1, d1⟩ := h1.lstE
    obtain ⟨u, e2, d2⟩ := atI_at d1 e
    rw [h2.intE]
    exact .inl ⟨a1, xs, _, u, rfl, rfl, SqL.of e1, e2, k _ H (fun _ _ e => e) d2⟩
  · obtain ⟨d, e, rfl⟩ := omap ho
    obtain ⟨a1, xs, rfl, n1, e1, d1⟩ := h1.tupE
    obtain ⟨u, e2, d2⟩ := atI_at d1 e
    rw [h2.intE]
    exact .inr (.inl ⟨a1, xs, _, u, rfl, rfl, SqT.of e1, e2, k _ H (fun _ _ e => e) d2⟩)
  · split at ho
    · rename_i hz
      obtain ⟨c, e, rfl⟩ := omap ho
      rw [h1.strE, h2.intE]
      exact .inr (.inr ⟨_, _, c, rfl, rfl, sz_ok hz, e, k _ H (fun _ _ e => e) .str⟩)
    · cases ho
  · cases ho
end
/-! ### slices -/
def cutD {α : Type} (xs : List α) (lo hi : Option Int) : List α := (xs.drop (HT.sIx xs.length 0 lo)).take (HT.sIx xs.length xs.length hi - HT.sIx xs.length 0 lo)
def dCut (d : Dat) (lo hi : Option Int) : Option Out := match d with
  | .lst ds => some (true, .lst (cutD ds lo hi))
  | .tup ds => some (false, .tup (cutD ds lo hi))
  | .str z => if z.length ≤ 100000 then some (false, .str (cutS z lo hi)) else none
  | _ => none
/-- an end of a slice: left open, or a number -/
def TDO (mg : Str → Option Value) (f : EM (Option Int)) : TO := fun σ H Q => ∃ q env o env', Rel mg q env σ H ∧ f env = some (o, env') ∧ ∀ H', Rel mg q env' σ H' → StepE env σ H env' H' → Q o H'
def oNone : EM (Option Int) := eRet none
def oInt (f : EM R) : EM (Option Int) := eBind f fun r => eBind (eLook r) fun d => match d with
  | .int i => eRet (some i)
  | _ => fun _ => none
def eCut (f : EM R) (lo hi : EM (Option Int)) : EM R := eBind f fun r => eBind lo fun l => eBind hi fun h => eBind (eLook r) fun d => eBind (eOpt (dCut d l h)) fun o => eRet o.r
section
variable {X : Cx} {e : Expr} {lo hi : Option Expr} {pos p2 : Pos} {f : EM R} {l u : EM (Option Int)}
theorem PO.of {t t' : TO} (h : PO X lo t) (w : ∀ σ H Q, t' σ H Q → t σ H Q) : PO X lo t' := ⟨fun pins s σ H Q I x => h.run pins s σ H Q I (w σ H Q x)⟩
theorem do_none : PO X none (TDO X.mg oNone) := by
  refine PO.of po_none ?_
  rintro σ H Q ⟨q, env, r, env', R, ev, k⟩
  obtain ⟨rfl, rfl⟩ := eRet_some ev
  exact k H R .refl
theorem do_some (h : PE X e (TD X.mg f)) : PO X (some e) (TDO X.mg (oInt f)) := by
  refine PO.of (po_some h) ?_
  rintro σ H Q ⟨q, env, r, env', R, ev, k⟩
  obtain ⟨r1, e1, h1, ev1⟩ := eBind_some ev
  obtain ⟨d, e2, h2, ev2⟩ := eBind_some ev1
  obtain ⟨h2', rfl⟩ := eLook_some h2
  refine ⟨q, env, r1, e2, R, h1, fun v H1 R1 S1 i1 => ?_⟩
  have iv := i1.look R1 h2'
  split at ev2
  · obtain ⟨rfl, rfl⟩ := eRet_some ev2
    exact ⟨_, iv.intE, k H1 R1 S1⟩
  · cases ev2
theorem cutD_IsDs {mg : Str → Option Value} {p : Addr → Prop} {H : Hp} {ds : List Dat} {vs : List V} (h : IsDs mg p H ds vs) (lo hi : Option Int) : IsDs mg p H (cutD ds lo hi) (cutV vs lo hi) := by
  unfold cutD cutV
  rw [h.length]
  exact (h.drop _).take _
theorem cutD_whole {α : Type} {xs : List α} {lo hi : Option Int} (h : HT.sIx xs.length 0 lo = 0 ∧ HT.sIx xs.length xs.length hi = xs.length) : cutD xs lo hi = xs := by
  unfold cutD
  rw [h.1, h.2]
  simp
theorem d_cut (he : PE X e (TD X.mg f)) (hl : PO X lo (TDO X.mg l)) (hu : PO X hi (TDO X.mg u)) : PE X (.Subscript e (.Slice lo hi none p2) pos) (TD X.mg (eCut f l u)) := by
  refine PE.of (pe_slice (SlR.or sl_list (SlR.or sl_tupA sl_str)) he hl hu) ?_
  rintro σ H Q ⟨q, env, r, env', R, ev, k⟩
  obtain ⟨r1, e1, h1, ev1⟩ := eBind_some ev
  obtain ⟨o1, e2, h2, ev2⟩ := eBind_some ev1
  obtain ⟨o2, e3, h3, ev3⟩ := eBind_some ev2
  obtain ⟨d, e4, h4, ev4⟩ := eBind_some ev3
  obtain ⟨h4', rfl⟩ := eLook_some h4
  obtain ⟨o, e5, h5, ev5⟩ := eBind_some ev4
  obtain ⟨h5', rfl⟩ := eOpt_some h5
  obtain ⟨rfl, rfl⟩ := eRet_some ev5
  refine ⟨q, env, r1, e1, R, h1, fun v H1 R1 S1 i1 => ⟨q, e1, o1, e2, R1, h2, fun H2 R2 S2 => ⟨q, e2, o2, env', R2, h3, fun H3 R3 S3 => ?_⟩⟩⟩
  have i3 := (i1.step S2).step S3
  have iv := i3.look R3 (by rw [look_weak, look_weak]; exact h4')
  have S13 := (S1.trans S2).trans S3
  have fin : ∀ z H', (∀ x o, H3 x = some o → H' x = some o) → IsO X.mg (Prot q env' σ) H3 H' o z → Q z H' := fun z H' hx io => k z H' (R3.ext hx) (S13.trans (.ext hx)) ((io.isR R3 hx).back S13.dom)
  unfold dCut at h5'
  split at h5'
  · cases h5'
    obtain ⟨a1, xs, rfl, e1, d1⟩ := iv.lstE
    exact .inl ⟨a1, xs, rfl, SqL.of e1, fun c hc => fin _ _ (ext_new hc) (newL hc (cutD_IsDs d1 _ _))⟩
  · cases h5'
    obtain ⟨a1, xs, rfl, n1, e1, d1⟩ := iv.tupE
    refine .inr (.inl ⟨a1, xs, rfl, SqT.of e1, fun hw => ?_, fun _ c hc => fin _ _ (ext_new hc) (newT (fun x hx => R3.prot_in hx) hc (cutD_IsDs d1 _ _))⟩)
    refine fin _ H3 (fun _ _ e => e) ?_
    show IsD X.mg _ H3 (.tup (cutD _ _ _)) _
    rw [cutD_whole (by rw [d1.length]; exact hw)]
    exact .tup n1 e1 d1
  · split at h5'
    · rename_i hz
      cases h5'
      exact .inr (.inr ⟨_, iv.strE, sz_ok hz, fin _ H3 (fun _ _ e => e) .str⟩)
    · cases h5'
  · cases h5'
end
/-! ### built-in functions -/
structure RuleN (X : Cx) (f : Value) (op : List Dat → Option Out) : Prop where
  ok : ∃ r, CallR X f r ∧ OpN X.mg r op
def dLen : List Dat → Option Out
  | [.str z] => if z.length ≤ 100000 then some (false, .int z.length) else none
  | [.lst ds] => some (false, .int ds.length)
  | [.tup ds] => some (false, .int ds.length)
  | _ => none
def bools : List Dat → Option (List Bool)
  | [] => some []
  | .bl b :: ds => (bools ds).map fun bs => b :: bs
  | _ => none
def dAll : List Dat → Option Out
  | [.lst ds] => (bools ds).map fun bs => (false, .bl (bs.all id))
  | _ => none
def dAny : List Dat → Option Out
  | [.lst ds] => (bools ds).map fun bs => (false, .bl (bs.any id))
  | _ => none
def dAbs : List Dat → Option Out
  | [.int i] => some (false, .int (if i < 0 then -i else i))
  | _ => none
def dInt : List Dat → Option Out
  | [.int i] => some (false, .int i)
  | [.bl k] => some (false, .int (if k then 1 else 0))
  | _ => none
def dTuple : List Dat → Option Out
  | [.lst ds] => some (false, .tup ds)
  | [.tup ds] => some (false, .tup ds)
  | _ => none
def dList : List Dat → Option Out
  | [.lst ds] => some (true, .lst ds)
  | [.tup ds] => some (true, .lst ds)
  | _ => none
/-- the name of a datum's type -/
def tyN : Dat → Option String
  | .non => some "NoneType"
  | .bl _ => some "bool"
  | .int _ => some "int"
  | .str _ => some "str"
  | .tup _ => some "tuple"
  | .lst _ => some "list"
  | .dct _ _ => some "dict"
  | _ => none
def isTy (t c : String) : Bool := t == c || (t == "bool" && c == "int")
def known : List String := ["int", "bool", "str", "tuple", "list", "dict"]
theorem kits : ∀ t ∈ ["NoneType", "bool", "int", "str", "dict", "tuple", "list"], ∀ c ∈ known, kitB t c = some (isTy t c) := by decide +kernel
def tyNames : List Dat → Option (List String)
  | [] => some []
  | .ty n :: ds => if known.contains n = true then (tyNames ds).map fun ns => n :: ns else none
  | _ => none
def dIsi : List Dat → Option Out
  | [d, .ty n] => if known.contains n = true then (tyN d).map fun t => (false, .bl (isTy t n)) else none
  | [d, .tup cs] => match tyN d, tyNames cs with
    | some t, some ns => some (false, .bl (ns.any fun n => isTy t n))
    | _, _ => none
  | _ => none
section
variable {X : Cx} {mg : Str → Option Value} {p : Addr → Prop} {H : Hp}
theorem one_of {vs : List V} {d : Dat} (h : IsVs mg p H [d] vs) : ∃ v, vs = [v] ∧ IsV mg p H d v := by
  cases h with
  | cons a t => cases t; exact ⟨_, rfl, a⟩
theorem two_of {vs : List V} {d e : Dat} (h : IsVs mg p H [d, e] vs) : ∃ v w, vs = [v, w] ∧ IsV mg p H d v ∧ IsV mg p H e w := by
  cases h with
  | cons a t =>
    cases t with
    | cons b t => cases t; exact ⟨_, _, rfl, a, b⟩
theorem r_len : RuleN X (.builtin "len") dLen := by
  refine ⟨_, call_len, ?_⟩
  intro p H ds vs out hp h ho Q k
  unfold dLen at ho
  split at ho
  · split at ho
    · rename_i hz
      cases ho
      obtain ⟨v, rfl, i⟩ := one_of h
      rw [i.strE]
      exact ⟨_, _, rfl, ⟨sz_ok hz, rfl⟩, k _ H (fun _ _ e => e) .int⟩
    · cases ho
  · cases ho
    obtain ⟨v, rfl, i⟩ := one_of h
    obtain ⟨a1, xs, rfl, e1, d1⟩ := i.lstE
    exact ⟨_, _, rfl, .inl ⟨xs, SqL.of e1, rfl⟩, k _ H (fun _ _ e => e) (by rw [d1.length]; exact .int)⟩
  · cases ho
    obtain ⟨v, rfl, i⟩ := one_of h
    obtain ⟨a1, xs, rfl, n1, e1, d1⟩ := i.tupE
    exact ⟨_, _, rfl, .inr ⟨xs, SqT.of e1, rfl⟩, k _ H (fun _ _ e => e) (by rw [d1.length]; exact .int)⟩
  · cases ho
theorem bools_vs : ∀ {ds : List Dat} {vs : List V} {bs : List Bool}, IsDs mg p H ds vs → bools ds = some bs → vs = bs.map V.bl
  | _, _, _, .nil, h => by cases h; rfl
  | _, _, _, .cons (d := d) a t, h => by
    cases d with
    | bl b =>
      obtain ⟨bs', e, rfl⟩ := omap h
      cases a
      rw [bools_vs t e]
      rfl
    | _ => cases h
theorem r_all (hc : X.calm = true) : RuleN X (.builtin "all") dAll := by
  refine ⟨_, cr_all hc, ?_⟩
  intro p H ds vs out hp h ho Q k
  unfold dAll at ho
  split at ho
  · obtain ⟨bs, e, rfl⟩ := omap ho
    obtain ⟨v, rfl, i⟩ := one_of h
    obtain ⟨a1, xs, rfl, e1, d1⟩ := i.lstE
    exact ⟨a1, bs, rfl, by rw [← bools_vs d1 e]; exact SqL.of e1, k _ H (fun _ _ e => e) .bl⟩
  · cases ho
theorem r_any (hc : X.calm = true) : RuleN X (.builtin "any") dAny := by
  refine ⟨_, cr_any hc, ?_⟩
  intro p H ds vs out hp h ho Q k
  unfold dAny at ho
  split at ho
  · obtain ⟨bs, e, rfl⟩ := omap ho
    obtain ⟨v, rfl, i⟩ := one_of h
    obtain ⟨a1, xs, rfl, e1, d1⟩ := i.lstE
    exact ⟨a1, bs, rfl, by rw [← bools_vs d1 e]; exact SqL.of e1, k _ H (fun _ _ e => e) .bl⟩
  · cases ho
theorem r_abs : RuleN X (.builtin "abs") dAbs := by
  refine ⟨_, call_abs, ?_⟩
  intro p H ds vs out hp h ho Q k
  unfold dAbs at ho
  split at ho
  · cases ho
    obtain ⟨v, rfl, i⟩ := one_of h
    rw [i.intE]
    exact ⟨_, rfl, k _ H (fun _ _ e => e) .int⟩
  · cases ho
theorem r_int : RuleN X (.type "int") dInt := by
  refine ⟨_, call_int1, ?_⟩
  intro p H ds vs out hp h ho Q k
  unfold dInt at ho
  split at ho
  · cases ho
    obtain ⟨v, rfl, i⟩ := one_of h
    rw [i.intE]
    exact .inl ⟨_, rfl, k _ H (fun _ _ e => e) .int⟩
  · cases ho
    obtain ⟨v, rfl, i⟩ := one_of h
    rw [i.blE]
    exact .inr ⟨_, rfl, k _ H (fun _ _ e => e) .int⟩
  · cases ho
theorem r_tuple : RuleN X (.type "tuple") dTuple := by
  refine ⟨_, call_tuple_of, ?_⟩
  intro p H ds vs out hp h ho Q k
  unfold dTuple at ho
  split at ho
  · cases ho
    obtain ⟨v, rfl, i⟩ := one_of h
    obtain ⟨a1, xs, rfl, e1, d1⟩ := i.lstE
    exact ⟨a1, xs, rfl, .inl ⟨SqL.of e1, fun c hc => k _ _ (ext_new hc) (newT hp hc d1)⟩⟩
  · cases ho
    obtain ⟨v, rfl, i⟩ := one_of h
    obtain ⟨a1, xs, rfl, n1, e1, d1⟩ := i.tupE
    exact ⟨a1, xs, rfl, .inr ⟨SqT.of e1, k _ H (fun _ _ e => e) (.tup n1 e1 d1)⟩⟩
  · cases ho
theorem r_list : RuleN X (.type "list") dList := by
  refine ⟨_, call_list_of, ?_⟩
  intro p H ds vs out hp h ho Q k
  unfold dList at ho
  split at ho
  · cases ho
    obtain ⟨v, rfl, i⟩ := one_of h
    obtain ⟨a1, xs, rfl, e1, d1⟩ := i.lstE
    exact ⟨a1, xs, rfl, .inl (SqL.of e1), fun c hc => k _ _ (ext_new hc) (newL hc d1)⟩
  · cases ho
    obtain ⟨v, rfl, i⟩ := one_of h
    obtain ⟨a1, xs, rfl, n1, e1, d1⟩ := i.tupE
    exact ⟨a1, xs, rfl, .inr (SqT.of e1), fun c hc => k _ _ (ext_new hc) (newL hc d1)⟩
  · cases ho
theorem tyX_of {K : PySem.W.Frag} {d : Dat} {v : V} {t : String} (h : IsV mg p H d v) (e : tyN d = some t) : TyX K H v (.type t) ∧ t ∈ ["NoneType", "bool", "int", "str", "dict", "tuple", "list"] := by
  cases d with
  | non => cases e; rw [h.nonE]; exact ⟨.base .non, by decide⟩
  | bl b => cases e; rw [h.blE]; exact ⟨.base (.bl _), by decide⟩
  | int b => cases e; rw [h.intE]; exact ⟨.base (.int _), by decide⟩
  | str b => cases e; rw [h.strE]; exact ⟨.base (.str _), by decide⟩
  | tup b =>
    cases e
    obtain ⟨a, vs, rfl, _, ha, _⟩ := h.tupE
    exact ⟨.base (.tup ha), by decide⟩
  | lst b =>
    cases e
    obtain ⟨a, vs, rfl, ha, _⟩ := h.lstE
    exact ⟨.base (.lst ha), by decide⟩
  | dct ks b =>
    cases e
    obtain ⟨a, vs, rfl, ha, _⟩ := h.dctE
    rcases ha with ha | ⟨o, ha⟩
    · exact ⟨.base (.dK ha), by decide⟩
    · exact ⟨.fDict ha, by decide⟩
  | _ => cases e
theorem tyNames_vs : ∀ {ds : List Dat} {vs : List V} {ns : List String}, IsDs mg p H ds vs → tyNames ds = some ns → vs = ns.map V.ty ∧ ∀ n ∈ ns, n ∈ known
  | _, _, _, .nil, h => by cases h; exact ⟨rfl, fun n z => by cases z⟩
  | _, _, _, .cons (d := d) a t, h => by
    cases d with
    | ty n =>
      unfold tyNames at h
      split at h
      · rename_i hk
        obtain ⟨ns, e, rfl⟩ := omap h
        obtain ⟨h1, h2⟩ := tyNames_vs t e
        cases a
        refine ⟨by rw [h1]; rfl, fun m hm => ?_⟩
        rcases List.mem_cons.mp hm with z | z
        · rw [z]; simpa using hk
        · exact h2 m z
      · cases h
    | _ => cases h
theorem pair_tys : ∀ ns : List String, Paired ClsV (ns.map V.ty) (ns.map Value.type)
  | [] => .nil
  | n :: ns => .cons (.ty n) (pair_tys ns)
theorem kitAny_tys {K : PySem.W.Frag} {t : String} (ht : t ∈ ["NoneType", "bool", "int", "str", "dict", "tuple", "list"]) : ∀ ns : List String, (∀ n ∈ ns, n ∈ known) → PySem.W.kitAny K (.type t) (ns.map Value.type) = some (ns.any fun n => isTy t n)
  | [], _ => kitAny_nil
  | n :: ns, h => by
    refine kitAny_cons (kit_ty (kits t ht n (h n (by simp)))) (fun e => ?_) (fun e => by rw [List.any_cons, e]; rfl)
    rw [List.any_cons, e, Bool.false_or]
    exact kitAny_tys ht ns fun m hm => h m (by simp [hm])
theorem r_isi : RuleN X (.builtin "isinstance") dIsi := by
  refine ⟨_, CallR.or call_isi call_isiT, ?_⟩
  intro p H ds vs out hp h ho Q k
  unfold dIsi at ho
  split at ho
  · split at ho
    · rename_i hk
      obtain ⟨t, e, rfl⟩ := omap ho
      obtain ⟨v, w, rfl, i1, i2⟩ := two_of h
      obtain ⟨ty, hm⟩ := tyX_of (K := X.K) i1 e
      rw [i2.tyE]
      exact .inl ⟨v, _, _, _, _, rfl, .ty _, ty, kit_ty (kits t hm _ (by simpa using hk)), k _ H (fun _ _ e => e) .bl⟩
    · cases ho
  · split at ho
    · rename_i t ns e1 e2
      cases ho
      obtain ⟨v, w, rfl, i1, i2⟩ := two_of h
      obtain ⟨ty, hm⟩ := tyX_of (K := X.K) i1 e1
      obtain ⟨a, us, rfl, _, ha, hd⟩ := i2.tupE
      obtain ⟨rfl, hk⟩ := tyNames_vs hd e2
      exact .inr ⟨v, a, _, _, _, _, rfl, ha, pair_tys ns, ty, kitAny_tys hm ns hk, k _ H (fun _ _ e => e) .bl⟩
    · cases ho
  · cases ho
end
end DL
/-! zip over two sources of which each gives a member a turn; a list beside a tuple. -/
namespace DL
open PySem PySem.Spec L2
open PyProof.Rows hiding St
open Builtin.SmallTypes (nextOf ownedTupleIsFree ownedTupleHandOut)
/-- it goes over the row l, whose members are xs -/
structure Src (it l : Addr) (xs : Array Value) where
  now : Nat → Heap → Prop
  lt : ∀ {i h}, now i h → it < h.objs.size
  cell : ∀ {i h}, now i h → ∃ o, h.get? it = some o ∧ ∀ v, o.data ≠ .cell v
  keep : ∀ {i h h'}, now i h → (∀ o, h.get? it = some o → h'.get? it = some o) → (∀ o, h.get? l = some o → h'.get? l = some o) → now i h'
  item : ∀ {P : Program} {w : World} {A : Around} {E : Value → Shared → Prop} {s : Shared} {i : Nat} {x : Value} {Q : Value → Shared → Prop}, now i s.heap → xs[i]? = some x →
    (∀ h', now (i + 1) h' → Heap.SameBut it s.heap h' → Q x { s with heap := h' }) → wpAny (model P w) A (nextOf (.ref it)) Q E s
  last : ∀ {P : Program} {w : World} {A : Around} {E : Value → Shared → Prop} {s : Shared} {i : Nat} {Q : Value → Shared → Prop}, A.handled = none → now i s.heap → xs[i]? = none →
    (∀ h' e, Heap.ExtBut it s.heap h' → (∃ o, h'.get? e = some o ∧ o.cls = .type "StopIteration") → E (.ref e) { s with heap := h' }) → wpAny (model P w) A (nextOf (.ref it)) Q E s
def Src.ofList {it l : Addr} (xs : Array Value) (ne : l ≠ it) : Src it l xs where
  now i h := h.IsListIter it l i ∧ h.IsList l xs
  lt := by
    rintro i h ⟨⟨o, e, _⟩, _⟩
    exact Heap.lt_size e
  cell := by
    rintro i h ⟨⟨o, e, _, d⟩, _⟩
    exact ⟨o, e, fun v z =>
        by rw [d] at z; cases z⟩
  keep n k1 k2 := ⟨n.1.at fun o e => k1 o e, n.2.at fun o e => k2 o e⟩
  item n hx hQ := wpAny_nextOf_list_item n.1 n.2 hx fun h' n' sb => hQ h' ⟨n', n.2.at fun o e => sb.extBut _ _ ne e⟩ sb
  last hh n hx hE := wpAny_nextOf_list_end hh n.1 n.2 hx hE
def Src.ofTup {it l : Addr} (xs : Array Value) (ne : l ≠ it) : Src it l xs where
  now i h := h.IsTupleIter it l i ∧ h.IsTuple l xs
  lt := by
    rintro i h ⟨⟨o, e, _⟩, _⟩
    exact Heap.lt_size e
  cell := by
    rintro i h ⟨⟨o, e, _, d⟩, _⟩
    exact ⟨o, e, fun v z =>
        by rw [d] at z; cases z⟩
  keep n k1 k2 := ⟨n.1.at fun o e => k1 o e, n.2.at fun o e => k2 o e⟩
  item n hx hQ := RZ.nextOf_tuple_item n.1 n.2 hx fun h' n' sb => hQ h' ⟨n', n.2.at fun o e => sb.extBut _ _ ne e⟩ sb
  last hh n hx hE := RZ.nextOf_tuple_end hh n.1 n.2 hx hE
section
variable {prog : Program} {w : World} {A : Around} {E : Value → Shared → Prop} {s : Shared} {z TI TO i1 i2 l1 l2 : Addr} {xs ys : Array Value} {m k : Nat} {a b : Value}
/-- the zip as it stands between two turns -/
structure Zst (F : Src i1 l1 xs) (G : Src i2 l2 ys) (z TI TO : Addr) (m k : Nat) (h : Heap) : Prop where
  zip : IsZip h z TI TO .none
  its : IsPair h TI (.ref i1) (.ref i2)
  out : ∃ a b, IsPair h TO a b
  one : F.now m h
  two : G.now k h
/-- all but the parts of the zip stays -/
def Stays (z TO i1 i2 : Addr) (h h' : Heap) : Prop := ∀ c o, c ≠ z ∧ c ≠ TO ∧ c ≠ i1 ∧ c ≠ i2 → h.get? c = some o → h'.get? c = some o
theorem zs_item (F : Src i1 l1 xs) (G : Src i2 l2 ys) {x y : Value} {Q : Value → Shared → Prop} (D : ZipApart z TI TO i1 i2 l1 l2) (Z : Zst F G z TI TO m k s.heap) (hx : xs[m]? = some x) (hy : ys[k]? = some y)
    (hQ : ∀ h', IsZip h' z TI TO (rawInt s.heap.objs.size) → IsPair h' TO x y → F.now (m + 1) h' → G.now (k + 1) h' → IsPair h' s.heap.objs.size x y → Stays z TO i1 i2 s.heap h' → Q (.ref s.heap.objs.size) { s with heap := h' }) :
    wpAny (model prog w) A (Builtin.«zip.__next__» ⟨[.ref z], []⟩)
        (fun fin s' => ∃ v, fin = .done (.ret v) ∧ Q v s') E s := by
  obtain ⟨hz, hTI, ⟨a, b, hTO⟩, h1, h2⟩ := Z; show wpAny _ _ (field (.ref z) 2 >>= _) _ _ _
  refine wpAny_bind (wpAny_field hz rfl (x := .bool false) rfl ?_); show wpAny _ _ (field (.ref z) 3 >>= _) _ _ _
  refine wpAny_bind (wpAny_field hz rfl (x := .ref TI) rfl ?_); refine wpAny_bind (wpAny_seqItems hTI rfl ?_); show wpAny _ _ (ownedTupleIsFree (.ref z) >>= _) _ _ _
  refine wpAny_bind ?_; unfold ownedTupleIsFree
  refine wpAny_bind (wpAny_field hz rfl (x := .none) rfl (wpAny_pure ?_)); simp only [if_true]
  refine wpAny_bind (wpAny_rule ?_); refine wpAny_bind (wpAny_field hz rfl (x := .ref TO) rfl ?_)
  refine wpAny_bind (wpAny_setField_rec hz (by simp) fun g1 z1 e1 => ?_)
  replace z1 : IsZip g1 z TI TO .ellipsis := z1
  refine wpAny_bind ?_
  simp only [List.zipIdx_cons, List.zipIdx_nil, List.forIn_cons, List.forIn_nil]; refine wpAny_bind (wpAny_bind (wpAny_onRaise ?_)); show wpAny _ _ (nextOf (.ref i1) >>= _) _ _ _
  refine wpAny_bind (F.item (F.keep h1 (fun o q => e1.extBut _ _ D.i1z q) fun o q => e1.extBut _ _ D.l1z q) hx fun g2 f2 e2 => wpAny_pure ?_)
  have t2 : IsPair g2 TO a b := e2.extBut _ _ D.TOi1 (e1.extBut _ _ D.TOz hTO)
  refine wpAny_bind (wpAny_seqItems t2 rfl ?_); refine wpAny_bind (wpAny_updateSeq_pair t2 fun g3 t3 e3 => ?_)
  replace t3 : IsPair g3 TO x b := t3
  refine wpAny_bind (wpAny_letGo (wpAny_pure ?_)); refine wpAny_bind (wpAny_bind (wpAny_onRaise ?_)); show wpAny _ _ (nextOf (.ref i2) >>= _) _ _ _
  refine wpAny_bind (G.item (G.keep h2 (fun o q => e3.extBut _ _ D.TOi2.symm (e2.extBut _ _ D.i12.symm (e1.extBut _ _ D.i2z q))) fun o q => e3.extBut _ _ D.l2TO (e2.extBut _ _ D.l2i1 (e1.extBut _ _ D.l2z q))) hy fun g4 f4 e4 => wpAny_pure ?_)
  have t4 : IsPair g4 TO x b := e4.extBut _ _ D.TOi2 t3
  refine wpAny_bind (wpAny_seqItems t4 rfl ?_); refine wpAny_bind (wpAny_updateSeq_pair t4 fun g5 t5 e5 => ?_)
  replace t5 : IsPair g5 TO x y := t5
  refine wpAny_bind (wpAny_letGo (wpAny_pure (wpAny_pure ?_))); refine wpAny_bind (wpAny_seqItems t5 rfl ?_); refine wpAny_bind (wpAny_newTuple ?_)
  have sz : g5.objs.size = s.heap.objs.size := by rw [e5.1, e4.1, e3.1, e2.1, e1.1]
  have st : Stays z TO i1 i2 s.heap g5 := fun c o d q => e5.extBut _ _ d.2.1 (e4.extBut _ _ d.2.2.2 (e3.extBut _ _ d.2.1 (e2.extBut _ _ d.2.2.1 (e1.extBut _ _ d.1 q))))
  have z5 : IsZip g5 z TI TO .ellipsis := e5.extBut _ _ D.TOz.symm (e4.extBut _ _ D.i2z.symm (e3.extBut _ _ D.TOz.symm (e2.extBut _ _ D.i1z.symm z1)))
  have f5 : F.now (m + 1) g5 := F.keep f2 (fun o q => e5.extBut _ _ D.TOi1.symm (e4.extBut _ _ D.i12 (e3.extBut _ _ D.TOi1.symm q))) fun o q => e5.extBut _ _ D.l1TO (e4.extBut _ _ D.l1i2 (e3.extBut _ _ D.l1TO q))
  have s5 : G.now (k + 1) g5 := G.keep f4 (fun o q => e5.extBut _ _ D.TOi2.symm q) fun o q => e5.extBut _ _ D.l2TO q
  show wpAny _ _ (ownedTupleHandOut (.ref z) (.ref g5.objs.size) >>= _) _ _ _
  refine wpAny_bind ?_
  unfold ownedTupleHandOut
  have z6 : IsZip (g5.push { cls := .type "tuple", data := .seq #[x, y] }) z TI TO .ellipsis := Heap.get?_push_of_some _ z5
  refine wpAny_bind (wpAny_setField_rec z6 (by simp) fun g7 z7 e7 => ?_)
  replace z7 : IsZip g7 z TI TO (rawInt g5.objs.size) := z7
  refine wpAny_setField_rec z7 (by simp) fun g8 z8 e8 => wpAny_pure ⟨_, rfl, ?_⟩
  replace z8 : IsZip g8 z TI TO (rawInt g5.objs.size) := z8
  have up : ∀ c o, c ≠ z → g5.get? c = some o → g8.get? c = some o := fun c o d q => e8.extBut _ _ d (e7.extBut _ _ d (Heap.get?_push_of_some _ q))
  have ne : g5.objs.size ≠ z := Nat.ne_of_gt (Heap.lt_size z5)
  have p8 : IsPair g8 g5.objs.size x y := e8.extBut _ _ ne (e7.extBut _ _ ne (Heap.get?_push_size _ rfl))
  show Q (.ref g5.objs.size) _
  rw [sz] at z8 p8 ⊢
  exact hQ g8 z8 (up _ _ D.TOz t5) (F.keep f5 (fun o => up _ o D.i1z) fun o => up _ o D.l1z) (G.keep s5 (fun o => up _ o D.i2z) fun o => up _ o D.l2z) p8 fun c o d q => up c o d.1 (st c o d q)
theorem zs_last (F : Src i1 l1 xs) (G : Src i2 l2 ys) {Q : Fin → Shared → Prop} (hh : A.handled = none) (D : ZipApart z TI TO i1 i2 l1 l2) (Z : Zst F G z TI TO m k s.heap) (no : xs[m]? = none ∨ ys[k]? = none)
    (hE : ∀ h' e, Stays z TO i1 i2 s.heap h' → (∃ o, h'.get? e = some o ∧ o.cls = .type "StopIteration") → E (.ref e) { s with heap := h' }) :
    wpAny (model prog w)
        A (Builtin.«zip.__next__» ⟨[.ref z], []⟩) Q E s := by
  obtain ⟨hz, hTI, ⟨a, b, hTO⟩, h1, h2⟩ := Z; show wpAny _ _ (field (.ref z) 2 >>= _) _ _ _
  refine wpAny_bind (wpAny_field hz rfl (x := .bool false) rfl ?_); show wpAny _ _ (field (.ref z) 3 >>= _) _ _ _
  refine wpAny_bind (wpAny_field hz rfl (x := .ref TI) rfl ?_); refine wpAny_bind (wpAny_seqItems hTI rfl ?_); show wpAny _ _ (ownedTupleIsFree (.ref z) >>= _) _ _ _
  refine wpAny_bind ?_; unfold ownedTupleIsFree
  refine wpAny_bind (wpAny_field hz rfl (x := .none) rfl (wpAny_pure ?_)); simp only [if_true]
  refine wpAny_bind (wpAny_rule ?_); refine wpAny_bind (wpAny_field hz rfl (x := .ref TO) rfl ?_)
  refine wpAny_bind (wpAny_setField_rec hz (by simp) fun g1 z1 e1 => ?_)
  replace z1 : IsZip g1 z TI TO .ellipsis := z1
  refine wpAny_bind ?_
  simp only [List.zipIdx_cons, List.zipIdx_nil, List.forIn_cons, List.forIn_nil]; refine wpAny_bind (wpAny_bind (wpAny_onRaise ?_)); show wpAny _ _ (nextOf (.ref i1) >>= _) _ _ _
  have n1 := F.keep h1 (fun o q => e1.extBut _ _ D.i1z q) fun o q => e1.extBut _ _ D.l1z q
  cases hx : xs[m]? with
  | none =>
    refine wpAny_bind (F.last hh n1 hx fun g2 e e2 he => ?_)
    obtain ⟨oe, he, hc⟩ := he
    have z2 : IsZip g2 z TI TO .ellipsis := e2 _ _ D.i1z.symm z1
    have ne : e ≠ z := fun q => by subst q; rw [z2] at he; cases he; simp at hc
    exact wpAny_setField_rec z2 (by simp) fun g3 _ e3 => hE g3 e (fun c o d q => e3.extBut _ _ d.1 (e2 _ _ d.2.2.1 (e1.extBut _ _ d.1 q))) ⟨oe, e3.extBut _ _ ne he, hc⟩
  | some x =>
    have hy : ys[k]? = none := no.resolve_left fun q => by rw [hx] at q; cases q
    refine wpAny_bind (F.item n1 hx fun g2 f2 e2 => wpAny_pure ?_)
    have t2 : IsPair g2 TO a b := e2.extBut _ _ D.TOi1 (e1.extBut _ _ D.TOz hTO)
    refine wpAny_bind (wpAny_seqItems t2 rfl ?_); refine wpAny_bind (wpAny_updateSeq_pair t2 fun g3 t3 e3 => ?_)
    refine wpAny_bind (wpAny_letGo (wpAny_pure ?_)); refine wpAny_bind (wpAny_bind (wpAny_onRaise ?_)); show wpAny _ _ (nextOf (.ref i2) >>= _) _ _ _
    refine wpAny_bind (G.last hh (G.keep h2 (fun o q => e3.extBut _ _ D.TOi2.symm (e2.extBut _ _ D.i12.symm (e1.extBut _ _ D.i2z q))) fun o q => e3.extBut _ _ D.l2TO (e2.extBut _ _ D.l2i1 (e1.extBut _ _ D.l2z q))) hy fun g4 e e4 he => ?_)
    obtain ⟨oe, he, hc⟩ := he
    have z4 : IsZip g4 z TI TO .ellipsis := e4 _ _ D.i2z.symm (e3.extBut _ _ D.TOz.symm (e2.extBut _ _ D.i1z.symm z1))
    have ne : e ≠ z := fun q => by subst q; rw [z4] at he; cases he; simp at hc
    exact wpAny_setField_rec z4 (by simp) fun g5 _ e5 => hE g5 e (fun c o d q => e5.extBut _ _ d.1 (e4 _ _ d.2.2.2 (e3.extBut _ _ d.2.1 (e2.extBut _ _ d.2.2.1 (e1.extBut _ _ d.1 q))))) ⟨oe, e5.extBut _ _ ne he, hc⟩
theorem zn_item (F : Src i1 l1 xs) (G : Src i2 l2 ys) {x y : Value} {Q : Option Value → Shared → Prop} (D : ZipApart z TI TO i1 i2 l1 l2) (Z : Zst F G z TI TO m k s.heap) (hx : xs[m]? = some x) (hy : ys[k]? = some y)
    (hQ : ∀ h', IsZip h' z TI TO (rawInt s.heap.objs.size) → IsPair h' TO x y → F.now (m + 1) h' → G.now (k + 1) h' → IsPair h' s.heap.objs.size x y → Stays z TO i1 i2 s.heap h' → Q (some (.ref s.heap.objs.size)) { s with heap := h' }) :
    wpAny (model prog w)
        A (pyNext (.ref z)) Q E s := by
  have ty : s.TypeIs (.ref z) "zip" := ⟨_, Z.zip, rfl⟩
  unfold pyNext
  exact wpAny_bind (wpAny_attempt (wpAny_callSpecial?_slot (name := Str.ofString "__next__") ty PySem.F.slot_zip_next (wpAny_call_entry PySem.F.slot_zip_next ty PySem.F.entry_zip_next
    (zs_item F G D Z hx hy fun h' a1 a2 a3 a4 a5 a6 => wpAny_pure (hQ h' a1 a2 a3 a4 a5 a6)) (PySem.F.args_zip_next_1 _))))
theorem zn_last (F : Src i1 l1 xs) (G : Src i2 l2 ys) {Q : Option Value → Shared → Prop} (hh : A.handled = none) (D : ZipApart z TI TO i1 i2 l1 l2) (Z : Zst F G z TI TO m k s.heap) (no : xs[m]? = none ∨ ys[k]? = none)
    (hQ : ∀ h', Stays z TO i1 i2 s.heap h' → Q none { s with heap := h' }) : wpAny (model prog w) A (pyNext (.ref z)) Q E s := by
  have ty : s.TypeIs (.ref z) "zip" := ⟨_, Z.zip, rfl⟩
  unfold pyNext
  refine wpAny_bind (wpAny_attempt (wpAny_callSpecial?_slot (name := Str.ofString "__next__") ty PySem.F.slot_zip_next (wpAny_call_entry PySem.F.slot_zip_next ty PySem.F.entry_zip_next
    (zs_last F G hh D Z no fun h' e st he => ?_) (PySem.F.args_zip_next_1 _))))
  obtain ⟨o, he, hc⟩ := he
  refine wpAny_bind (wpAny_isInstance (T := "StopIteration") (b := true) ⟨o, he, hc⟩ isSubtype_stop ?_)
  exact wpAny_pure (hQ _ st)
end
/-! ### the zip is made -/
/-- the five new objects, one behind the other -/
def zh1 (h : Heap) (l1 : Addr) : Heap := h.push { cls := .type "list_iterator", data := .fields #[.ref l1, .int 0 0] }
def zh2 (h : Heap) (l1 l2 : Addr) : Heap := (zh1 h l1).push { cls := .type "tuple_iterator", data := .fields #[.ref l2, .int 0 0] }
def zh3 (h : Heap) (l1 l2 : Addr) : Heap := (zh2 h l1 l2).push { cls := .type "tuple", data := .seq #[.ref h.objs.size, .ref (zh1 h l1).objs.size] }
def zh4 (h : Heap) (l1 l2 : Addr) : Heap := (zh3 h l1 l2).push { cls := .type "tuple", data := .seq #[.none, .none] }
def zh5 (h : Heap) (l1 l2 : Addr) : Heap := (zh4 h l1 l2).push { cls := .type "zip", data := .fields #[.none, .bool false, .bool false, .ref (zh2 h l1 l2).objs.size, .ref (zh3 h l1 l2).objs.size] }
theorem zm_new (l1 l2 : Addr) (xs ys : Array Value) : Meets (Builtin.«zip.__new__» ⟨[.type "zip", .ref l1, .ref l2], []⟩)
    (fun _ R s => s.heap.IsList l1 xs ∧ s.heap.IsTuple l2 ys ∧ R (.ok (.ret (.ref (zh4 s.heap l1 l2).objs.size))) { s with heap := zh5 s.heap l1 l2 }) :=
  .of_wp fun prog
      w A R s h => by
    obtain ⟨hp, g,
        d, tk, os⟩ := s
    obtain ⟨a1, a2, fin⟩ := h
    have sub := sub_zip
    have b1 : Heap.IsList (Shared.heap ⟨hp, g, d, tk, os⟩) l1 xs := a1
    have b2 : Heap.IsTuple (Shared.heap ⟨hp.push { cls := .type "list_iterator", data := .fields #[.ref l1, .int 0 0] }, g, d, tk, os⟩) l2 ys := Heap.IsTuple.push a2 _
    wp_walk using wpAny_pyIter_list b1, wpAny_pyIter_tuple b2
    exact ⟨_, rfl, fin⟩
theorem zh_size (h : Heap) (l1 l2 : Addr) : (zh1 h l1).objs.size = h.objs.size + 1 ∧ (zh2 h l1 l2).objs.size = h.objs.size + 2 ∧ (zh3 h l1 l2).objs.size = h.objs.size + 3 ∧ (zh4 h l1 l2).objs.size = h.objs.size + 4 := by
  unfold zh4 zh3 zh2 zh1
  simp only [Heap.size_push]
  exact ⟨trivial, trivial, trivial, trivial⟩
section
variable {prog : Program} {w : World} {A : Around} {E : Value → Shared → Prop} {s : Shared} {l1 l2 : Addr} {xs ys : Array Value}
theorem call_zipM {Q : Value → Shared → Prop} (a1 : s.heap.IsList l1 xs) (a2 : s.heap.IsTuple l2 ys) (D : ZipApart (s.heap.objs.size + 4) (s.heap.objs.size + 2) (s.heap.objs.size + 3) s.heap.objs.size (s.heap.objs.size + 1) l1 l2)
    (hQ : ∀ h', Zst (Src.ofList (it := s.heap.objs.size) xs D.l1i1) (Src.ofTup (it := s.heap.objs.size + 1) ys D.l2i2) (s.heap.objs.size + 4) (s.heap.objs.size + 2) (s.heap.objs.size + 3) 0 0 h' →
      (∀ c o, s.heap.get? c = some o → h'.get? c = some o)
          → Q (.ref (s.heap.objs.size + 4)) { s with heap := h' }) :
    wpAny (model prog w) A (call (.type "zip")
        [.ref l1, .ref l2]) Q E s := by
  refine callType_new PySem.F.called_zip (by decide) (PySem.F.typeCall_zip_2 _ _) (PySem.F.newCall_zip_2 _ _) (fun obj => PySem.F.args_object_init_3 obj _ _) PySem.F.entry_zip_new (zm_new l1 l2 xs ys) ⟨a1, a2, ?_⟩
  obtain ⟨n1, n2, n3, n4⟩ := zh_size s.heap l1 l2
  have k : ∀ c o, s.heap.get? c = some o → (zh5 s.heap l1 l2).get? c = some o := fun c o x => Heap.get?_push_of_some _ (Heap.get?_push_of_some _ (Heap.get?_push_of_some _ (Heap.get?_push_of_some _ (Heap.get?_push_of_some _ x))))
  have p5 : (zh5 s.heap l1 l2).get? (zh4 s.heap l1 l2).objs.size = some _ := Heap.get?_push_size _ rfl
  have p4 : (zh5 s.heap l1 l2).get? (zh3 s.heap l1 l2).objs.size = some _ := Heap.get?_push_of_some _ (Heap.get?_push_size _ rfl)
  have p3 : (zh5 s.heap l1 l2).get? (zh2 s.heap l1 l2).objs.size = some _ := Heap.get?_push_of_some _ (Heap.get?_push_of_some _ (Heap.get?_push_size _ rfl))
  have p2 : (zh5 s.heap l1 l2).get? (zh1 s.heap l1).objs.size = some _ := Heap.get?_push_of_some _ (Heap.get?_push_of_some _ (Heap.get?_push_of_some _ (Heap.get?_push_size _ rfl)))
  have p1 : (zh5 s.heap l1 l2).get? s.heap.objs.size = some _ := Heap.get?_push_of_some _ (Heap.get?_push_of_some _ (Heap.get?_push_of_some _ (Heap.get?_push_of_some _ (Heap.get?_push_size _ rfl))))
  show _ ∧ _
  rw [n2, n3, n4] at p5
  rw [n1, n2] at p3
  rw [n3] at p4
  rw [n1] at p2
  rw [n4]
  exact ⟨⟨_, p5, rfl⟩, hQ _ ⟨p5, p3, ⟨_, _, p4⟩, ⟨⟨_, p1, rfl, rfl⟩, a1.at fun o e => k _ o e⟩, ⟨⟨_, p2, rfl, rfl⟩, a2.at fun o e => k _ o e⟩⟩ k⟩
end
/-! ### its turns -/
/-- a list beside a tuple -/
def ItzM (K : PySem.W.Frag) (a b : Addr) : It :=
  ⟨fun i H => ∃ (xs ys : List V) (x y : V), (SqL K H a xs ∧ xs[i]? = some x) ∧ SqT K H b ys ∧ ys[i]? = some y,
   fun i H v H' => ∃ T x y, (v = .ref T ∧ H T = none) ∧ H' = upd H T (.tup [x, y]) ∧ (∀ xs, SqL K H a xs → xs[i]? = some x) ∧ (∀ ys, SqT K H b ys → ys[i]? = some y),
   fun i H => ∃ xs ys : List V, (SqL K H a xs ∧ SqT K H b ys) ∧ (xs.length ≤ i ∨ ys.length ≤ i)⟩
/-- the zip at turn i, with some rows of values -/
def ZmSt (z TI TO i1 i2 a b : Addr) (D : ZipApart z TI TO i1 i2 a b) (i : Nat) (h : Heap) : Prop :=
  IsZip h z TI TO .none ∧ IsPair h TI (.ref i1) (.ref i2) ∧ (∃ x y, IsPair h TO x y) ∧ h.IsListIter i1 a i ∧ h.IsTupleIter i2 b i
theorem five {c z TI TO i1 i2 : Addr} (h : c ∈ [z, TI, TO, i1, i2]) : c = z ∨ c = TI ∨ c = TO ∨ c = i1 ∨ c = i2 := by simpa using h
theorem turn_zipM {P : Program} {w : World} {K : PySem.W.Frag} {elts : List Expr} {kk : Nat} {tpos : Pos} {a b z TI TO i1 i2 : Addr} (D : ZipApart z TI TO i1 i2 a b) :
    Turn P w K (.Tuple elts kk tpos) (ItzM K a b) [z, TI, TO, i1, i2] z (ZmSt z TI TO i1 i2 a b D) where
  mem := by simp
  obj := by
    rintro i h ⟨hz, hTI, ⟨x, y, hTO⟩, ⟨o1, e1, _, d1⟩, ⟨o2, e2, _, d2⟩⟩ c hc
    rcases five hc with rfl | rfl | rfl | rfl | rfl
    · exact ⟨_, hz, fun v q => nomatch q⟩
    · exact ⟨_, hTI, fun v q => nomatch q⟩
    · exact ⟨_, hTO, fun v q => nomatch q⟩
    · exact ⟨o1, e1, fun v q => by rw [d1] at q; cases q⟩
    · exact ⟨o2, e2, fun v q => by rw [d2] at q; cases q⟩
  keep := by
    rintro i h h' ⟨hz, hTI, ⟨x, y, hTO⟩, h1, h2⟩ k
    exact ⟨k z (by simp) _ hz, k TI (by simp) _ hTI, ⟨x, y, k TO (by simp) _ hTO⟩, h1.at (k i1 (by simp)), h2.at (k i2 (by simp))⟩
  item := by
    rintro X rfl rfl rfl hc i pins s σ H E I hf ⟨hz, hTI, hTO, h1, h2⟩ ⟨xs, ys, x, y, ⟨hqx, hx⟩, hqy, hy⟩
    obtain ⟨us, r1, p1, _⟩ := I.list hqx
    obtain ⟨vs, r2, p2, _⟩ := I.tuple hqy
    obtain ⟨u, hu, ru⟩ := r1.get hx
    obtain ⟨v, hv, rv⟩ := r2.get hy
    have Z : Zst (Src.ofList us.toArray D.l1i1) (Src.ofTup vs.toArray D.l2i2) z TI TO i i s.heap := ⟨hz, hTI, hTO, ⟨h1, p1.isList⟩, ⟨h2, p2⟩⟩
    have zl : z < s.heap.objs.size := Heap.lt_size hz
    refine zn_item _ _ D Z (x := u) (y := v) (by simpa using hu) (by simpa using hv) fun h' z' TO' n1 n2 hT st => ⟨_, rfl, wpAny_letOwnedTupleGo_zip (s := { s with heap := h' }) z' fun h2' z2 sb => ?_⟩
    have hT2 : h2'.get? s.heap.objs.size = some { cls := .type "tuple", data := .seq #[u, v] } := (sb.2 _ (Nat.ne_of_gt zl)).trans hT
    have new : ObjOk X.prog X.w (upd H s.heap.objs.size (.tup [x, y])) h2' s.heap.objs.size (.tup [x, y]) := ⟨by show 2 ≤ sizeLine; decide, [u, v], .cons ru (.cons rv .nil), ⟨_, hT2, rfl, _, rfl⟩⟩
    have old : ∀ c o, c ∉ [z, TI, TO, i1, i2] → s.heap.get? c = some o → h2'.get? c = some o := fun c o hb q =>
      (sb.2 c fun e => hb (by simp [e])).trans (st c o ⟨fun e => hb (by simp [e]), fun e => hb (by simp [e]), fun e => hb (by simp [e]), fun e => hb (by simp [e])⟩ q)
    have I1 : Inv X pins σ (upd H s.heap.objs.size (.tup [x, y])) { s with heap := h2' } := I.turnedNew (t' := s.toks) (ch := [z, TI, TO, i1, i2]) old hf (Nat.le_refl _) new
    refine ⟨.ref s.heap.objs.size, _, I1, rfl, ⟨_, x, y, ⟨rfl, I.hok.fresh (Nat.le_refl _)⟩, rfl, fun l hl => by rw [I.list_inj hl hqx]; exact hx, fun l hl => by rw [I.tuple_inj hl hqy]; exact hy⟩, ⟨z2, ?_, ⟨u, v, ?_⟩, ?_, ?_⟩, fun c hcm => ?_⟩
    · exact (sb.2 _ D.TIz).trans (st _ _ ⟨D.TIz, D.TITO, D.TIi1, D.TIi2⟩ hTI)
    · exact (sb.2 _
          D.TOz).trans TO'
    · exact n1.1.at fun o q => (sb.2 _ D.i1z).trans q
    · exact n2.1.at fun o q => (sb.2 _ D.i2z).trans q
    · have lt : c < s.heap.objs.size := by
        obtain ⟨x0, y0, hTO⟩ := hTO
        rcases five hcm with rfl | rfl | rfl | rfl | rfl
        · exact zl
        · exact Heap.lt_size hTI
        · exact Heap.lt_size hTO
        · exact Src.lt _ Z.one
        · exact Src.lt _ Z.two
      rw [upd_ne (Nat.ne_of_lt lt)]
      exact (hf c hcm).1
  done := by
    rintro X rfl rfl rfl hc i pins s σ H E I hf ⟨hz, hTI, hTO, h1, h2⟩ ⟨xs, ys, ⟨hqx, hqy⟩, no⟩
    obtain ⟨us, r1, p1, _⟩ := I.list hqx
    obtain ⟨vs, r2, p2, _⟩ := I.tuple hqy
    have Z : Zst (Src.ofList us.toArray D.l1i1) (Src.ofTup vs.toArray D.l2i2) z TI TO i i s.heap := ⟨hz, hTI, hTO, ⟨h1, p1.isList⟩, ⟨h2, p2⟩⟩
    have n1 := r1.length
    have n2 := r2.length
    have he : us.toArray[i]? = none ∨ vs.toArray[i]? = none := no.imp (fun q => by simp; omega) fun q => by simp; omega
    exact zn_last _ _ (I.ok.hd hc) D Z he fun h' st => ⟨rfl, I.turnedL (t' := s.toks) (ch := [z, TI, TO, i1, i2]) (fun c o hb q =>
      st c o ⟨fun e => hb (by simp [e]), fun e => hb (by simp [e]), fun e => hb (by simp [e]), fun e => hb (by simp [e])⟩ q) hf⟩
  self := fun A i s Q E st h =>
      wpAny_pyIter_zip st.1 h
def iZipM (K : PySem.W.Frag) (ta : TA) : TI := fun σ H R => ta σ H fun vs H1 => ∃ a b xs ys, (vs = [.ref a, .ref b] ∧ SqL K H1 a xs ∧ SqT K H1 b ys) ∧ R (ItzM K a b) H1
theorem pi_zipM {X : Cx} {e e2 : Expr} {ta : TA} {p pos tpos : Pos} {elts : List Expr} {kk : Nat} (hg : Gl X "zip") (hm : X.mg "zip" = none) (ha : PA X [e, e2] ta) (hs : starEach [e, e2] X.env = (false, eval e X.env) :: starEach [e2] X.env)
    (hpl : (backTo pos (starEach [e2] X.env)).any (·.1) = false) : PI X (.Tuple elts kk tpos) (.Call (.Name "zip" p) [e, e2] [] pos) (iZipM X.K ta) := by
  refine ⟨fun pins s σ H R I h => Call_ (ld_blt I hg hm PyProof.Rows.boot_zip (PyProof.Rows.callWith_type1 (thn (ha.run pos pins s σ H _ I h) fun us s1 ⟨vs, H1, I1, r1, q1⟩ => ?_) hs hpl))⟩
  obtain ⟨a, b, xs, ys, ⟨rfl, hqx, hqy⟩, q⟩ := q1
  obtain ⟨u, us', rfl, ru, r2⟩ : ∃ u us', us = u :: us' ∧ RelV (.ref a) u ∧ Vals [.ref b] us' := by
    cases r1 with
    | cons r rr => exact ⟨_, _, rfl, r, rr⟩
  obtain ⟨v, rfl, rv⟩ := vals1 r2
  cases ru
  cases rv
  obtain ⟨is, w1, p1, _⟩ := I1.list hqx
  obtain ⟨js, w2, p2, _⟩ := I1.tuple hqy
  obtain ⟨o2, ho2, _⟩ := id p2
  have D := PySem.W.ktu_apart s1.heap.objs.size a b p1.lt (Heap.lt_size ho2)
  have free : ∀ c, c ∈ [s1.heap.objs.size + 4, s1.heap.objs.size + 2, s1.heap.objs.size + 3, s1.heap.objs.size, s1.heap.objs.size + 1] → FpOk X pins H1 c := fun c hcm => by
    have le : s1.heap.objs.size ≤ c := by
      rcases five hcm with rfl | rfl | rfl | rfl | rfl <;> omega
    exact I1.fpOk le (I1.hok.fresh le)
  refine call_zipM p1.isList p2 D fun h' Z k => wpAny_pyIter_zip Z.zip ?_
  exact ⟨_, _, _, _, H1, rfl, I1.kept (t' := s1.toks) k, turn_zipM D, ⟨Z.zip, Z.its, Z.out, Z.one.1, Z.two.1⟩, free, q⟩
end DL
/-! Iterators of any row, pairs, stores at places, append, join. -/
namespace DL
open PySem PySem.Spec L2
open PyProof.Rows hiding St
/-! ### iterators -/
def itemsD : Dat → Option (List Dat)
  | .lst ds => some ds
  | .tup ds => some ds
  | .str z => some (z.cps.toList.map chS)
  | _ => none
def iAny (f : EM R) : EM (List Dat) := eBind f fun r => eBind (eForce r) fun d => eOpt (itemsD d)
def numbered : Nat → List Dat → List Dat
  | _, [] => []
  | n, d :: ds => .tup [.int n, d] :: numbered (n + 1) ds
def pairsD : List Dat → List Dat → List Dat
  | a :: as, b :: bs => .tup [a, b] :: pairsD as bs
  | _, _ => []
theorem numbered_len : ∀ (n : Nat) (ds : List Dat), (numbered n ds).length = ds.length
  | _, [] => rfl
  | n, d :: ds => by
    show (numbered (n + 1) ds).length + 1 = ds.length + 1
    rw [numbered_len (n + 1) ds]
theorem numbered_get : ∀ (n : Nat) (ds : List Dat) (i : Nat), (numbered n ds)[i]? = ds[i]?.map fun d => Dat.tup [.int ((n + i : Nat) : Int), d]
  | _, [], i => by simp [numbered]
  | n, d :: ds, 0 => by simp [numbered]
  | n, d :: ds, i + 1 => by
    show (numbered (n + 1) ds)[i]? = _
    rw [numbered_get (n + 1) ds i]
    rw [show n + 1 + i = n + (i + 1) by omega]
    rfl
theorem pairsD_len : ∀ (as bs : List Dat), (pairsD as bs).length = min as.length bs.length
  | [], bs => by simp [pairsD]
  | a :: as, [] => by simp [pairsD]
  | a :: as, b :: bs => by simp [pairsD, pairsD_len as bs]
theorem pairsD_get : ∀ (as bs : List Dat) (i : Nat) (a b : Dat), as[i]? = some a → bs[i]? = some b → (pairsD as bs)[i]? = some (.tup [a, b])
  | [], bs, i, _, _, e, _ => by simp at e
  | a :: as, [], i, _, _, _, e => by simp at e
  | a :: as, b :: bs, 0, _, _, e1, e2 => by
    simp at e1 e2
    subst e1 e2
    rfl
  | a :: as, b :: bs, i + 1, _, _, e1, e2 => by
    show (pairsD as bs)[i]? = _
    exact pairsD_get as bs i _ _ (by simpa using e1) (by simpa using e2)
section
variable {mg : Str → Option Value} {p : Addr → Prop} {H : Hp} {ds : List Dat}
theorem it_str {z : Str} : ItOk mg p H (Its z) (z.cps.toList.map chS) := by
  intro p' H' hs hp hd
  rw [List.length_map,
      Array.length_toList]
  refine ⟨fun i hi => hi, fun i hi => hi, fun i x H'' hy hi => ?_⟩
  obtain ⟨rfl, c, e, rfl⟩ := hy
  exact ⟨fun _ _ e => e, chS c, by rw [List.getElem?_map, Array.getElem?_toList, e]; rfl, .str⟩
theorem pair_new {T : Addr} {a b : Dat} {x y : V} {p' : Addr → Prop} {H' : Hp} (hT : H' T = none) (hd : ∀ a, p' a → H' a ≠ none) (h1 : IsD mg p' H' a x) (h2 : IsD mg p' H' b y) : IsD mg p' (upd H' T (.tup [x, y])) (.tup [a, b]) (.ref T) :=
  .tup (fun z => hd T z hT) upd_same ((IsDs.cons h1 (.one h2)).mono (fun _ z => z) fun b o e _ => ext_new hT b o e)
theorem it_enum {K : PySem.W.Frag} {a : Addr} {vs : List V} (n : ¬ p a) (h : H a = some (.lst vs)) (r : IsDs mg p H ds vs) : ItOk mg p H (Ite K a) (numbered 0 ds) := by
  intro p' H' hs hp hd
  have h' : H' a = some (.lst vs) := hs a _ h n
  have r' : IsDs mg p' H' ds vs := r.all.mono hp (fun b o e z => hs b o e fun z' => z (.inl z'))
  rw [numbered_len]
  refine ⟨fun i hi => ?_, fun i hi => ⟨vs, SqL.of h', by rw [← r.length]; exact hi⟩, fun i x H'' hy hi => ?_⟩
  · obtain ⟨v, e1, _⟩ := r'.get (List.getElem?_eq_getElem hi)
    exact ⟨vs, v, SqL.of h', e1⟩
  · obtain ⟨T, z, rfl, hT, rfl, hv⟩ := hy
    obtain ⟨d, e1, e2⟩ := r'.get' (hv vs (SqL.of h'))
    refine ⟨ext_new hT, _, by rw [numbered_get, e1]; rfl, ?_⟩
    rw [Nat.zero_add]
    exact pair_new hT hd .int e2
theorem it_zipLL {K : PySem.W.Frag} {a b : Addr} {xs ys : List V} {as bs : List Dat} (n : ¬ p a) (h : H a = some (.lst xs)) (r : IsDs mg p H as xs) (m : ¬ p b) (g : H b = some (.lst ys)) (t : IsDs mg p H bs ys) : ItOk mg p H (Itz K a b) (pairsD as bs) := by
  intro p' H' hs hp hd
  have h' : H' a = some (.lst xs) := hs a _ h n
  have g' : H' b = some (.lst ys) := hs b _ g m
  have r' : IsDs mg p' H' as xs := r.all.mono hp (fun b o e z => hs b o e fun z' => z (.inl z'))
  have t' : IsDs mg p' H' bs ys := t.all.mono hp (fun b o e z => hs b o e fun z' => z (.inl z'))
  rw [pairsD_len]
  refine ⟨fun i hi => ?_, fun i hi => ⟨xs, ys, SqL.of h', SqL.of g', by rw [← r.length, ← t.length]; omega⟩, fun i x H'' hy hi => ?_⟩
  · obtain ⟨v, e1, _⟩ := r'.get (List.getElem?_eq_getElem (Nat.lt_of_lt_of_le hi (Nat.min_le_left _ _)))
    obtain ⟨u, e2, _⟩ := t'.get (List.getElem?_eq_getElem (Nat.lt_of_lt_of_le hi (Nat.min_le_right _ _)))
    exact ⟨xs, ys, v, u, SqL.of h', SqL.of g', e1, e2⟩
  · obtain ⟨T, z, w, rfl, hT, rfl, hv, hw⟩ := hy
    obtain ⟨d, e1, e2⟩ := r'.get' (hv xs (SqL.of h'))
    obtain ⟨e, e3, e4⟩ := t'.get' (hw ys (SqL.of g'))
    exact ⟨ext_new hT, _, pairsD_get as bs i _ _ e1 e3, pair_new hT hd e2 e4⟩
theorem it_zipTT {K : PySem.W.Frag} {a b : Addr} {xs ys : List V} {as bs : List Dat} (n : ¬ p a) (h : H a = some (.tup xs)) (r : IsDs mg p H as xs) (m : ¬ p b) (g : H b = some (.tup ys)) (t : IsDs mg p H bs ys) : ItOk mg p H (RZ.ItzT K a b) (pairsD as bs) := by
  intro p' H' hs hp hd
  have h' : H' a = some (.tup xs) := hs a _ h n
  have g' : H' b = some (.tup ys) := hs b _ g m
  have r' : IsDs mg p' H' as xs := r.all.mono hp (fun b o e z => hs b o e fun z' => z (.inl z'))
  have t' : IsDs mg p' H' bs ys := t.all.mono hp (fun b o e z => hs b o e fun z' => z (.inl z'))
  rw [pairsD_len]
  refine ⟨fun i hi => ?_, fun i hi => ⟨xs, ys, SqT.of h', SqT.of g', by rw [← r.length, ← t.length]; omega⟩, fun i x H'' hy hi => ?_⟩
  · obtain ⟨v, e1, _⟩ := r'.get (List.getElem?_eq_getElem (Nat.lt_of_lt_of_le hi (Nat.min_le_left _ _)))
    obtain ⟨u, e2, _⟩ := t'.get (List.getElem?_eq_getElem (Nat.lt_of_lt_of_le hi (Nat.min_le_right _ _)))
    exact ⟨xs, ys, v, u, SqT.of h', SqT.of g', e1, e2⟩
  · obtain ⟨T, z, w, rfl, hT, rfl, hv, hw⟩ := hy
    obtain ⟨d, e1, e2⟩ := r'.get' (hv xs (SqT.of h'))
    obtain ⟨e, e3, e4⟩ := t'.get' (hw ys (SqT.of g'))
    exact ⟨ext_new hT, _, pairsD_get as bs i _ _ e1 e3, pair_new hT hd e2 e4⟩
end
theorem it_zipLT {mg : Str → Option Value} {p : Addr → Prop} {H : Hp} {K : PySem.W.Frag} {a b : Addr} {xs ys : List V} {as bs : List Dat} (n : ¬ p a) (h : H a = some (.lst xs)) (r : IsDs mg p H as xs) (m : ¬ p b) (g : H b = some (.tup ys)) (t : IsDs mg p H bs ys) : ItOk mg p H (ItzM K a b) (pairsD as bs) := by
  intro p' H' hs hp hd
  have h' : H' a = some (.lst xs) := hs a _ h n
  have g' : H' b = some (.tup ys) := hs b _ g m
  have r' : IsDs mg p' H' as xs := r.all.mono hp (fun b o e z => hs b o e fun z' => z (.inl z'))
  have t' : IsDs mg p' H' bs ys := t.all.mono hp (fun b o e z => hs b o e fun z' => z (.inl z'))
  rw [pairsD_len]
  refine ⟨fun i hi => ?_, fun i hi => ⟨xs, ys, ⟨SqL.of h', SqT.of g'⟩, by rw [← r.length, ← t.length]; omega⟩, fun i x H'' hy hi => ?_⟩
  · obtain ⟨v, e1, _⟩ := r'.get (List.getElem?_eq_getElem (Nat.lt_of_lt_of_le hi (Nat.min_le_left _ _)))
    obtain ⟨u, e2, _⟩ := t'.get (List.getElem?_eq_getElem (Nat.lt_of_lt_of_le hi (Nat.min_le_right _ _)))
    exact ⟨xs, ys, v, u, ⟨SqL.of h', e1⟩, SqT.of g', e2⟩
  · obtain ⟨T, z, w, ⟨rfl, hT⟩, rfl, hv, hw⟩ := hy
    obtain ⟨d, e1, e2⟩ := r'.get' (hv xs (SqL.of h'))
    obtain ⟨e, e3, e4⟩ := t'.get' (hw ys (SqT.of g'))
    exact ⟨ext_new hT, _, pairsD_get as bs i _ _ e1 e3, pair_new hT hd e2 e4⟩
def iEnumD (fs : EM (List R)) : EM (List Dat) := eBind fs fun rs => eBind (eForces rs) fun ds => eOpt (match ds with
  | [.lst ds] => some (numbered 0 ds)
  | _ => none)
def iZipD (fs : EM (List R)) : EM (List Dat) := eBind fs fun rs => eBind (eForces rs) fun ds => eOpt (match ds with
  | [.lst as, .lst bs] => some (pairsD as bs)
  | [.tup as, .tup bs] => some (pairsD as bs)
  | [.lst as, .tup bs] => some (pairsD as bs)
  | _ => none)
section
variable {X : Cx} {tg e e2 : Expr} {es : List Expr} {pos p tpos : Pos} {kk : Nat} {elts : List Expr} {f : EM R} {fs : EM (List R)}
theorem di_any (he : PE X e (TD X.mg f)) : PI X tg e (TDI X.mg (iAny f)) := by
  refine PI.of (PI.or (PI.or (pi_list he) (pi_tup he)) (pi_str he)) ?_
  rintro σ H Q ⟨q, env, ds, env', R, ev, k⟩
  obtain ⟨r1, e1, h1, ev1⟩ := eBind_some ev
  obtain ⟨d, e2, h2, ev2⟩ := eBind_some ev1
  obtain ⟨h3, rfl⟩ := eOpt_some ev2
  cases d with
  | lst es =>
    cases h3
    refine .inl (.inl ⟨q, env, r1, e1, R, h1, fun v H1 R1 S1 i1 => ?_⟩)
    obtain ⟨R2, S2, hd⟩ := i1.force R1 h2
    cases hd with
    | lst n s r => exact ⟨_, rfl, ⟨_, SqL.of s⟩, k _ H1 R2 (S1.trans S2) (it_list n s r)⟩
  | tup es =>
    cases h3
    refine .inl (.inr ⟨q, env, r1, e1, R, h1, fun v H1 R1 S1 i1 => ?_⟩)
    obtain ⟨R2, S2, hd⟩ := i1.force R1 h2
    cases hd with
    | tup n s r => exact ⟨_, rfl, ⟨_, SqT.of s⟩, k _ H1 R2 (S1.trans S2) (it_tup n s r)⟩
  | str z =>
    cases h3
    refine .inr ⟨q, env, r1, e1, R, h1, fun v H1 R1 S1 i1 => ?_⟩
    obtain ⟨R2, S2, hd⟩ := i1.force R1 h2
    cases hd with
    | str => exact ⟨z, rfl, k _ H1 R2 (S1.trans S2) it_str⟩
  | _ => cases h3
theorem di_enum (hg : Gl X "enumerate") (hm : X.mg "enumerate" = none) (ha : PA X [e] (TDA X.mg fs)) (hs : starEach [e] X.env = [(false, eval e X.env)] := by rfl) :
    PI X (.Tuple elts kk tpos) (.Call (.Name "enumerate" p) [e] [] pos) (TDI X.mg (iEnumD fs)) := by
  refine PI.of (pi_enum hg hm ha hs) ?_
  rintro σ H Q ⟨q, env, ds, env', R, ev, k⟩
  obtain ⟨r1, e1, h1, ev1⟩ := eBind_some ev
  obtain ⟨d, e2, h2, ev2⟩ := eBind_some ev1
  obtain ⟨h3, rfl⟩ := eOpt_some ev2
  split at h3
  · cases h3
    refine ⟨q, env, r1, e1, R, h1, fun vs H1 R1 S1 i1 => ?_⟩
    obtain ⟨R2, S2, hd⟩ := i1.forces R1 h2
    cases hd with
    | cons a t =>
      cases t
      cases a with
      | lst n s r => exact ⟨_, _, rfl, SqL.of s, k _ H1 R2 (S1.trans S2) (it_enum n s r)⟩
  · cases h3
theorem di_zip (hg : Gl X "zip") (hm : X.mg "zip" = none) (ha : PA X [e, e2] (TDA X.mg fs))
    (hs : starEach [e, e2] X.env = (false, eval e X.env) :: starEach [e2] X.env :=
        by rfl) (hpl : (backTo pos (starEach [e2] X.env)).any (·.1) = false := by rfl) :
    PI X (.Tuple elts kk tpos) (.Call (.Name "zip" p) [e, e2] [] pos) (TDI X.mg (iZipD fs)) := by
  refine PI.of (PI.or (RZ.pi_zipA hg hm ha hs hpl) (pi_zipM hg hm ha hs hpl)) ?_
  rintro σ H Q ⟨q, env, ds, env', R, ev, k⟩
  obtain ⟨r1, e1, h1, ev1⟩ := eBind_some ev
  obtain ⟨d, e2, h2, ev2⟩ := eBind_some ev1
  obtain ⟨h3, rfl⟩ := eOpt_some ev2
  split at h3
  · cases h3
    refine .inl ⟨q, env, r1, e1, R, h1, fun vs H1 R1 S1 i1 => ?_⟩
    obtain ⟨R2, S2, hd⟩ := i1.forces R1 h2
    cases hd with
    | cons a t =>
      cases t with
      | cons b t =>
        cases t
        cases a with
        | lst n s r => cases b with
          | lst n2 s2 r2 => exact ⟨_, _, _, _, rfl, .inl ⟨SqL.of s, SqL.of s2, k _ H1 R2 (S1.trans S2) (it_zipLL n s r n2 s2 r2)⟩⟩
  · cases h3
    refine .inl ⟨q, env, r1, e1, R, h1, fun vs H1 R1 S1 i1 => ?_⟩
    obtain ⟨R2, S2, hd⟩ := i1.forces R1 h2
    cases hd with
    | cons a t =>
      cases t with
      | cons b t =>
        cases t
        cases a with
        | tup n s r => cases b with
          | tup n2 s2 r2 => exact ⟨_, _, _, _, rfl, .inr ⟨SqT.of s, SqT.of s2, k _ H1 R2 (S1.trans S2) (it_zipTT n s r n2 s2 r2)⟩⟩
  · cases h3
    refine .inr ⟨q, env, r1, e1, R, h1, fun vs H1 R1 S1 i1 => ?_⟩
    obtain ⟨R2, S2, hd⟩ := i1.forces R1 h2
    cases hd with
    | cons a t =>
      cases t with
      | cons b t =>
        cases t
        cases a with
        | lst n s r => cases b with
          | tup n2 s2 r2 => exact ⟨_, _, _, _, ⟨rfl, SqL.of s, SqT.of s2⟩, k _ H1 R2 (S1.trans S2) (it_zipLT n s r n2 s2 r2)⟩
  · cases h3
end
/-! ### stores -/
def sAsg (f : EM R) (g : Dat → EM Unit) : EM O := eBind f fun r => eBind (eForce r) fun d => eBind (g d) fun _ => eRet .nx
def sPar (i j : Nat) (fs : EM (List R)) : EM O := eBind fs fun rs => eBind (eForces rs) fun ds => match ds with
  | [a, b] => eBind (gPut i a) fun _ => eBind (gPut j b) fun _ => eRet .nx
  | _ => fun _ => none
def putAt (j : Nat) (k d : Dat) : EM O := fun env => match env[j]?, k with
  | some (some s), .int i => if s.wr = true then (match s.dat with
      | .lst ds => match ixN ds.length i with
        | some n => some (.nx, env.set j (some (s.put (.lst (ds.set n d)))))
        | none => none
      | _ => none) else none
  | _, _ => none
def sPut (j : Nat) (fi fe : EM R) : EM O := eBind fe fun r => eBind (eForce r) fun d => eBind (eVar j) fun _ => eBind fi fun k => eBind (eLook k) fun kd => putAt j kd d
def putEnd (j : Nat) (d : Dat) : EM R := fun env => match env[j]? with
  | some (some s) => if s.wr = true then (match s.dat with
      | .lst ds => if ds.length < 100000 then some (.val .non, env.set j (some (s.put (.lst (ds ++ [d]))))) else none
      | _ => none) else none
  | _ => none
/-- the slot holds a list that may be changed -/
def hasL (j : Nat) : EM Unit := fun env => match env[j]? with
  | some (some s) => if s.wr = true then (match s.dat with
      | .lst _ => some ((), env)
      | _ => none) else none
  | _ => none
def eApp (j : Nat) (fs : EM (List R)) : EM R := eBind fs fun rs => eBind (eForces rs) fun ds => match ds with
  | [d] => putEnd j d
  | _ => fun _ => none
section
variable {X : Cx} {tg e a b : Expr} {es : List Expr} {pos p tpos : Pos} {f g fi fe : EM R} {fs : EM (List R)} {gs : List Nat} {g1 : Dat → EM Unit}
theorem ds_asg (he : PE X e (TD X.mg f)) (hg : PG X tg (TDG X.mg gs g1)) (hs : swapsWithSole [tg] e pos.line X.env = pure false := by rfl) (hw : swappedStores [tg] e X.env = pure none := by rfl)
    (h1 : (assignEach [tg] X.env).map (·.2) = [assign tg X.env] := by rfl) : PS X (.Assign [tg] e pos) (TDS X.mg (sAsg f g1)) := by
  refine PS.of (ps_asg he hg hs hw h1) ?_
  rintro D σ H ⟨q, env, o, env', R, ev, k⟩
  obtain ⟨r1, e1, h1, ev1⟩ := eBind_some ev
  obtain ⟨d, e2, h2, ev2⟩ := eBind_some ev1
  obtain ⟨⟨⟩, e3, h3, ev3⟩ := eBind_some ev2
  obtain ⟨rfl, rfl⟩ := eRet_some ev3
  refine ⟨q, env, r1, e1, R, h1, fun v H1 R1 S1 i1 => ?_⟩
  obtain ⟨R2, S2, d2⟩ := i1.force R1 h2
  exact ⟨q, e2, d, _, R2, d2, h3, fun σ' R3 S3 => k σ' H1 R3 ((S1.trans S2).to.trans S3.to)⟩
theorem ds_par {i j : Nat} {x y : Str} {px py pt : Pos} {kt k2 : Nat} {pt2 : Pos} (hc : X.calm = true) (hN : X.N.Nodup) (hi : X.N[i]? = some x) (hj : X.N[j]? = some y) (hij : i ≠ j)
    (hx : X.env.scope.names.lookup x = some .local) (hy : X.env.scope.names.lookup y = some .local) (ha : PA X [a, b] (TDA X.mg fs))
    (hw : swappedStores [.Tuple [.Name x px, .Name y py]
        kt pt] (.Tuple [a, b] k2 pt2) X.env = pure (some [x, y]))
    (hs : swapsWithSole [.Tuple [.Name x px, .Name y py] kt pt]
        (.Tuple [a, b] k2 pt2) pos.line X.env = pure false := by rfl) :
    PS X (.Assign [.Tuple [.Name x px, .Name y py] kt pt] (.Tuple [a, b] k2 pt2) pos) (TDS X.mg (sPar i j fs)) := by
  refine PS.of (ps_par hc hN hi hj hij hx hy ha hw hs) ?_
  rintro D σ H ⟨q, env, o, env', R, ev, k⟩
  obtain ⟨r1, e1, h1, ev1⟩ := eBind_some ev
  obtain ⟨ds, e2, h2, ev2⟩ := eBind_some ev1
  refine ⟨q, env, r1, e1, R, h1, fun vs H1 R1 S1 i1 => ?_⟩
  obtain ⟨R2, S2, hd⟩ := i1.forces R1 h2
  split at ev2
  · obtain ⟨⟨⟩, e3, h3, ev3⟩ := eBind_some ev2
    obtain ⟨⟨⟩, e4, h4, ev4⟩ := eBind_some ev3
    obtain ⟨rfl, rfl⟩ := eRet_some ev4
    cases hd with
    | cons d1 t =>
      cases t with
      | cons d2 t =>
        cases t
        obtain ⟨R3, S3⟩ := gPut_ok R2 d1 h3
        obtain ⟨R4, S4⟩ := gPut_ok R3 (Step.isD (H' := H1) S3.to d2) h4
        exact ⟨_, _, rfl, k _ H1 R4 (((S1.trans S2).to.trans S3.to).trans S4.to)⟩
  · cases ev2
theorem ds_put {j : Nat} {x : Str} {px : Pos} {i : Expr} (hN : X.N[j]? = some x) (hv : Vis X.env.scope x) (hd : (x == ("__debug__" : Str)) = false) (hcd : (x == ("__classdict__" : Str)) = false) (hi : PE X i (TD X.mg fi)) (he : PE X e (TD X.mg fe))
    (ha : ∀ v, assign (.Subscript (.Name x px) i tpos) X.env v = (do let ov ← holding [v] (eval (.Name x px) X.env); let iv ← holding [v, ov] (eval i X.env); standAt tpos; holding [v, ov, iv] (setItem ov iv v); release [v, ov, iv] []) := by intro _; rfl)
    (hs : swapsWithSole [.Subscript (.Name x px) i tpos] e pos.line X.env = pure false := by rfl) (hw : swappedStores [.Subscript (.Name x px) i tpos] e X.env = pure none := by rfl)
    (h1 : (assignEach [.Subscript (.Name x px) i tpos] X.env).map (·.2) = [assign (.Subscript (.Name x px) i tpos) X.env] := by rfl) : PS X (.Assign [.Subscript (.Name x px) i tpos] e pos) (TDS X.mg (sPut j fi fe)) := by
  refine PS.of (ps_asg he (pg_sub (pe_var hN hv hd hcd) hi set_list ha) hs hw h1) ?_
  rintro D σ H ⟨q, env, o, env', R, ev, k⟩
  obtain ⟨r1, e1, h1, ev1⟩ := eBind_some ev
  obtain ⟨d, e2, h2, ev2⟩ := eBind_some ev1
  obtain ⟨r0, e0, h0, ev2⟩ := eBind_some ev2
  unfold eVar at h0
  split at h0
  · rename_i s0 hs0
    cases h0
    obtain ⟨r3, e3, h3, ev3⟩ := eBind_some ev2
    obtain ⟨kd, e4, h4, ev4⟩ := eBind_some ev3
    obtain ⟨h4', rfl⟩ := eLook_some h4
    refine ⟨q, env, r1, e1, R, h1, fun v H1 R1 S1 i1 => ?_⟩
    obtain ⟨R2, S2, d2⟩ := i1.force R1 h2
    obtain ⟨v0, hv0⟩ := R2.slot hs0
    refine ⟨v0, hv0, q, e2, r3, e4, R2, h3, fun kv H2 R3 S3 i3 => ?_⟩
    have ik := i3.look R3 h4'
    have dv := S3.isD d2
    unfold putAt at ev4
    split at ev4
    · rename_i s i hs
      split at ev4
      · rename_i hwr
        split at ev4
        · rename_i ds hds
          split at ev4
          · rename_i n hn
            cases ev4
            obtain ⟨a, ha, nq, t⟩ := R3.wr j s hs hwr
            rw [ha] at hv0
            cases hv0
            rw [hds] at t
            obtain ⟨vs, ea, it⟩ := t
            have pa : Prot q e4 σ a := .inr ⟨j, s, hs, hwr, ha⟩
            obtain ⟨R4, S4⟩ := R3.change (o := .lst (vs.set n v)) (d := .lst (ds.set n d)) hs hwr ha ⟨_, upd_same, (it.set n dv).mono (fun _ z => z) fun b u e nb => by
              rw [upd_ne fun z => nb (by rw [z]; exact pa)]
              exact e⟩
            exact ⟨a, vs, i, n, rfl, ik.intE, ea, by rw [← it.length]; exact hn, k σ _ R4 (((S1.trans S2).trans S3).trans S4).to⟩
          · cases ev4
        · cases ev4
      · cases ev4
    · cases ev4
  · cases h0
theorem d_app {j : Nat} {x : Str} {px apos : Pos} (hN : X.N[j]? = some x) (hv : Vis X.env.scope x) (hd : (x == ("__debug__" : Str)) = false) (hcd : (x == ("__classdict__" : Str)) = false) (ha : PA X (e :: es) (TDA X.mg fs))
    (hbase : attributeBase (.Name x px) "append" X.env (eval (.Name x px) X.env) = eval (.Name x px) X.env := by rfl)
    (hfew : ((backTo pos (starEach (e :: es) X.env)).all (fun x => !x.1) && (backToKw pos (keywordEach [] X.env)).all (fun x => x.1.isSome) && decide ((e :: es).length + ([] : List Keyword).length + (if ([] : List Keyword).isEmpty then 0 else 1) < 30)) = true := by rfl)
    (hline : (apos.endLine == pos.line) = true := by rfl) (hs : starEach (e :: es) X.env = (false, eval e X.env) :: starEach es X.env := by rfl) (hpl : (backTo pos (starEach es X.env)).any (·.1) = false := by rfl) :
    PE X (.Call (.Attribute (.Name x px) "append" apos) (e :: es) [] pos) (TD X.mg (eBind (hasL j) fun _ => eApp j fs)) := by
  refine PE.of (pe_bm PySem.F.plainAttrs_list PySem.F.slot_list_append PySem.F.type_list_append mt_append (pe_var hN hv hd hcd) ha hbase hfew hline hs hpl) ?_
  rintro σ H Q ⟨q, env, o, env', R, ev, k⟩
  obtain ⟨⟨⟩, e0, h0, ev⟩ := eBind_some ev
  unfold hasL at h0
  split at h0
  · rename_i s0 hs0
    split at h0
    · rename_i hw0
      split at h0
      · rename_i ds0 hd0
        cases h0
        obtain ⟨rs, e1, h1, ev1⟩ := eBind_some ev
        obtain ⟨ds, e2, h2, ev2⟩ := eBind_some ev1
        obtain ⟨a, ha, nq, t⟩ := R.wr j s0 hs0 hw0
        rw [hd0] at t
        obtain ⟨vs0, ea0, it0⟩ := t
        refine ⟨_, ha, .inl ⟨rfl, vs0, SqL.of ea0⟩, q, env, rs, e1, R, h1, fun us H1 R1 S1 i1 => ?_⟩
        obtain ⟨R2, S2, hd⟩ := i1.forces R1 h2
        split at ev2
        · rename_i d
          unfold putEnd at ev2
          split at ev2
          · rename_i s hs
            split at ev2
            · rename_i hwr
              split at ev2
              · rename_i xs hds
                split at ev2
                · rename_i hz
                  cases ev2
                  obtain ⟨a2, ha2, nq2, t⟩ := R2.wr j s hs hwr
                  rw [ha] at ha2
                  cases ha2
                  rw [hds] at t
                  obtain ⟨vs, ea, it⟩ := t
                  cases hd with
                  | cons dv t =>
                    cases t
                    rename_i v
                    have pa : Prot q e2 σ a := .inr ⟨j, s, hs, hwr, ha⟩
                    obtain ⟨R3, S3⟩ := R2.change (o := .lst (vs ++ [v])) (d := .lst (xs ++ [d])) hs hwr ha ⟨_, upd_same, (it.append (.one dv)).mono (fun _ z => z) fun b u e nb => by
                      rw [upd_ne fun z => nb (by rw [z]; exact pa)]
                      exact e⟩
                    exact ⟨a, vs, v, rfl, rfl, ea, by rw [← it.length]; exact Nat.lt_of_lt_of_le hz (sz_ok (Nat.le_refl _)), k .non _ R3 ((S1.trans S2).trans S3) .non⟩
                · cases ev2
              · cases ev2
            · cases ev2
          · cases ev2
        · cases ev2
      · cases h0
    · cases h0
  · cases h0
end
def strsD : List Dat → Option (List Str)
  | [] => some []
  | .str z :: ds => (strsD ds).map fun zs => z :: zs
  | _ => none
def rowD : Dat → Option (List Str)
  | .lst ds => strsD ds
  | .tup ds => strsD ds
  | _ => none
def eJoin (f g : EM R) : EM R := eBind f fun r => eBind (eLook r) fun a => match a with
  | .str z => eBind g fun s => eBind (eLook s) fun b => eBind (eOpt (rowD b)) fun zs => eOpt (if (zs.map (·.length)).sum + zs.length * z.length ≤ 100000 then some (.val (.str (Txt.join z zs))) else none)
  | _ => fun _ => none
section
variable {X : Cx} {tg e a b : Expr} {es : List Expr} {pos p tpos : Pos} {f g fi fe : EM R} {fs : EM (List R)}
theorem strs_vs {mg : Str → Option Value} {p : Addr → Prop} {H : Hp} : ∀ {ds : List Dat} {vs : List V} {zs : List Str}, IsDs mg p H ds vs → strsD ds = some zs → vs = zs.map V.str
  | _, _, _, .nil, h => by cases h; rfl
  | _, _, _, .cons (d := d) a t, h => by
    cases d with
    | str b =>
      obtain ⟨bs', e, rfl⟩ := omap h
      cases a
      rw [strs_vs t e]
      rfl
    | _ => cases h
theorem d_join {apos : Pos} (ho : PE X a (TD X.mg f)) (he : PE X e (TD X.mg g)) (hs : starEach [e] X.env = [(false, eval e X.env)] := by rfl) (hbase : attributeBase a "join" X.env (eval a X.env) = eval a X.env := by rfl) (hline : (apos.endLine == pos.line) = true := by rfl) :
    PE X (.Call (.Attribute a "join" apos) [e] [] pos) (TD X.mg (eJoin f g)) := by
  refine PE.of (pe_join ho he hs hbase hline) ?_
  rintro σ H Q ⟨q, env, o, env', R, ev, k⟩
  obtain ⟨r1, e1, h1, ev1⟩ := eBind_some ev
  obtain ⟨d1, e2, h2, ev2⟩ := eBind_some ev1
  obtain ⟨h2', rfl⟩ := eLook_some h2
  split at ev2
  · rename_i z
    obtain ⟨r3, e3, h3, ev3⟩ := eBind_some ev2
    obtain ⟨d4, e4, h4, ev4⟩ := eBind_some ev3
    obtain ⟨h4', rfl⟩ := eLook_some h4
    obtain ⟨zs, e5, h5, ev5⟩ := eBind_some ev4
    obtain ⟨h5', rfl⟩ := eOpt_some h5
    obtain ⟨h6, rfl⟩ := eOpt_some ev5
    split at h6
    · rename_i hz
      cases h6
      refine ⟨q, env, r1, e2, R, h1, fun v H1 R1 S1 i1 => ?_⟩
      have iv := i1.look R1 h2'
      refine ⟨⟨z, iv.strE⟩, q, e2, r3, env', R1, h3, fun w H2 R2 S2 i2 => ?_⟩
      have iw := i2.look R2 h4'
      have hz2 : (zs.map (·.length)).sum + zs.length * z.length ≤ 16777216 := by omega
      cases d4 with
      | lst ds =>
        obtain ⟨a1, xs, rfl, ea, d1⟩ := iw.lstE
        have := strs_vs d1 h5'
        subst this
        exact ⟨z, a1, zs, iv.strE, rfl, .inl (SqL.of ea), hz2, k _ H2 R2 (S1.trans S2) .str⟩
      | tup ds =>
        obtain ⟨a1, xs, rfl, n1, ea, d1⟩ := iw.tupE
        have := strs_vs d1 h5'
        subst this
        exact ⟨z, a1, zs, iv.strE, rfl, .inr (SqT.of ea), hz2, k _ H2 R2 (S1.trans S2) .str⟩
      | _ => cases h5'
    · cases h6
  · cases ev2
end
end DL
/-! The rules in short: for derivations that a printer writes. -/
namespace DL
open PySem PySem.Spec L2
open PyProof.Rows hiding St
/-- the built-in names stand for themselves -/
structure MgB (mg : Str → Option Value) : Prop where
  isinstance : mg "isinstance" = none
  list : mg "list" = none
  tuple : mg "tuple" = none
  dict : mg "dict" = none
  int : mg "int" = none
  bool : mg "bool" = none
  str : mg "str" = none
  len : mg "len" = none
  all : mg "all" = none
  any : mg "any" = none
  zip : mg "zip" = none
  set : mg "set" = none
  enumerate : mg "enumerate" = none
  range : mg "range" = none
  abs : mg "abs" = none
  max : mg "max" = none
  min : mg "min" = none
  sum : mg "sum" = none
section
variable {X : Cx} {a b c d e : Expr} {es : List Expr} {pos : Pos} {f g h : EM R} {fs : EM (List R)} {u v : EM Bool}
theorem dv (i : Nat) {x : Str} (hN : X.N[i]? = some x := by rfl) (hv : Vis X.env.scope x := by first | exact Or.inl rfl | exact Or.inr (Or.inl rfl) | exact Or.inr (Or.inr rfl)) (hd : (x == ("__debug__" : Str)) = false := by decide)
    (hcd : (x == ("__classdict__" : Str)) = false := by decide) : PE X (.Name x pos) (TD X.mg (eVar i)) := d_var hN hv hd hcd
theorem dint {i : Int} {j} : PE X (.Constant (.int i) j pos) (TD X.mg (eCon (.int i))) := d_con (fun _ _ => .int) pe_int
theorem dstr {i : Str} {j} : PE X (.Constant (.str i) j pos) (TD X.mg (eCon (.str i))) := d_con (fun _ _ => .str) pe_str
theorem dbl {i : Bool} {j} : PE X (.Constant (.bool i) j pos) (TD X.mg (eCon (.bl i))) := d_con (fun _ _ => .bl) pe_bl
theorem dnon {j} : PE X (.Constant .none j pos) (TD X.mg (eCon .non)) := d_con (fun _ _ => .non) pe_non
theorem dty {x : Str} (T : String) (hm : X.mg x = none) (hg : Gl X x := by rfl) (hv : bootBuiltins x = some (.type T) := by decide +kernel) (hn : x ≠ "__name__" := by decide) (hd : (x == ("__debug__" : Str)) = false := by decide) : PE X (.Name x pos) (TD X.mg (eCon (.ty T))) :=
  d_con (v := .ty T) (fun _ _ => .ty) (pe_bltn hg hm hv rfl hn hd)
theorem dn : PA X [] (TDA X.mg eNil) := d_nil
theorem dl (h1 : PE X e (TD X.mg f)) (hs : notStar e = true := by rfl) : PA X [e] (TDA X.mg (eOne f)) := d_last hs h1
theorem dc (h1 : PE X e (TD X.mg f)) (h2 : PA X es (TDA X.mg fs)) (hs : notStar e = true := by rfl) : PA X (e :: es) (TDA X.mg (eCons f fs)) := d_cons hs h1 h2
theorem dop {bo : Operator} {op : Dat → Dat → Option Out} (r : Rule2 X (binaryOp bo) op) (ha : PE X a (TD X.mg f)) (hb : PE X b (TD X.mg g)) : PE X (.BinOp a bo b pos) (TD X.mg (eOp2 op f g)) := by
  obtain ⟨r, h1, h2⟩ := r.ok
  exact d_op2 h1 h2 ha hb
theorem dcmp {co : CmpOp} {op : Dat → Dat → Option Out} (r : Rule2 X (compareOp co) op) (ha : PE X a (TD X.mg f)) (hb : PE X b (TD X.mg g)) (hm : behindInMarks co b = false := by first | exact nomark _ | with_unfolding_all rfl) : PE X (.Compare a [co] [b] pos) (TD X.mg (eOp2 op f g)) := by
  obtain ⟨r, h1, h2⟩ := r.ok
  exact d_cmp h1 h2 hm ha hb
def tCmp (op : Dat → Dat → Option Out) (f g : EM R) : EM Bool := eBind (eOp2 op f g) fun r => match r with
  | .val (.bl k) => eRet k
  | _ => fun _ => none
theorem tcmp {co : CmpOp} {op : Dat → Dat → Option Out} (r : Rule2 X (compareOp co) op) (ha : PE X a (TD X.mg f)) (hb : PE X b (TD X.mg g)) (hm : behindInMarks co b = false := by first | exact nomark _ | with_unfolding_all rfl) : PT X (.Compare a [co] [b] pos) (TDT X.mg (tCmp op f g)) := by
  obtain ⟨r, h1, h2⟩ := r.ok
  exact dt_cmp h1 h2 hm ha hb
theorem dchain {o1 o2 : CmpOp} {op op' : Dat → Dat → Option Out} (r : Rule2 X (compareOp o1) op) (r' : Rule2 X (compareOp o2) op') (ha : PE X a (TD X.mg f)) (hb : PE X b (TD X.mg g)) (hc : PE X c (TD X.mg h)) (hm : behindInMarks o2 c = false := by first | exact nomark _ | with_unfolding_all rfl) : PE X (.Compare a [o1, o2] [b, c] pos) (TD X.mg (eChain op op' f g h)) := by
  obtain ⟨r, h1, h2⟩ := r.ok
  obtain ⟨r', h3, h4⟩ := r'.ok
  exact d_chain h1 h3 h2 h4 hm ha hb hc
def tChn (op op' : Dat → Dat → Option Out) (f g h : EM R) : EM Bool := eBind (eChain op op' f g h) fun r => match r with
  | .val (.bl k) => eRet k
  | _ => fun _ => none
theorem tchain {o1 o2 : CmpOp} {op op' : Dat → Dat → Option Out} (r : Rule2 X (compareOp o1) op) (r' : Rule2 X (compareOp o2) op') (ha : PE X a (TD X.mg f)) (hb : PE X b (TD X.mg g)) (hc : PE X c (TD X.mg h)) (hm : behindInMarks o2 c = false := by first | exact nomark _ | with_unfolding_all rfl) : PT X (.Compare a [o1, o2] [b, c] pos) (TDT X.mg (tChn op op' f g h)) := by
  obtain ⟨r, h1, h2⟩ := r.ok
  obtain ⟨r', h3, h4⟩ := r'.ok
  refine PT.of (pt_chain h1 h3 ha hb hc hm) ?_
  rintro σ H Q ⟨q, env, o, env', R, ev, k⟩
  obtain ⟨r1, e1, g1, ev⟩ := eBind_some ev
  refine redC h2 h4 σ H _ ⟨q, env, r1, e1, R, g1, fun v H1 R1 S1 i1 => ?_⟩
  split at ev
  · obtain ⟨rfl, rfl⟩ := eRet_some ev
    cases i1
    exact ⟨_, rfl, k H1 R1 S1⟩
  · cases ev
theorem dix (ha : PE X a (TD X.mg f)) (hb : PE X b (TD X.mg g)) (hs : PlainIx b := by exact fun _ _ => rfl) : PE X (.Subscript a b pos) (TD X.mg (eOp2 dIx f g)) := by
  obtain ⟨r, h1, h2⟩ := (r_ix (X := X)).ok
  exact d_ix h1 h2 hs ha hb
theorem dB {x : Str} {id : String} {p : Pos} {op : List Dat → Option Out} (r : RuleN X (.builtin id) op) (hm : X.mg x = none) (ha : PA X (e :: es) (TDA X.mg fs)) (hg : Gl X x := by rfl) (hv : bootBuiltins x = some (.builtin id) := by decide +kernel) (hn : x ≠ "__name__" := by decide) (hdb : (x == ("__debug__" : Str)) = false := by decide)
    (hs : notStar e = true := by rfl) (hpl : (backTo pos (starEach es X.env)).any (·.1) = false := by rfl) : PE X (.Call (.Name x p) (e :: es) [] pos) (TD X.mg (eOpN op fs)) := by
  obtain ⟨r, h1, h2⟩ := r.ok
  exact d_bi h1 h2 hg hm hv hn hdb hs hpl ha
theorem dT {x : Str} {id : String} {p : Pos} {op : List Dat → Option Out} (r : RuleN X (.type id) op) (hm : X.mg x = none) (ha : PA X (e :: es) (TDA X.mg fs)) (hg : Gl X x := by rfl) (hv : bootBuiltins x = some (.type id) := by decide +kernel) (hn : x ≠ "__name__" := by decide) (hdb : (x == ("__debug__" : Str)) = false := by decide)
    (hs : notStar e = true := by rfl) (hpl : (backTo pos (starEach es X.env)).any (·.1) = false := by rfl) : PE X (.Call (.Name x p) (e :: es) [] pos) (TD X.mg (eOpN op fs)) := by
  obtain ⟨r, h1, h2⟩ := r.ok
  exact d_ty h1 h2 hg hm hv hn hdb hs hpl ha
theorem tv (ha : PE X a (TD X.mg f)) (he : ∀ whole, isTrue a X.env whole = (do let v ← whole; standAt a.pos; holding [v] (truthy v)) := by intro _; rfl) : PT X a (TDT X.mg (eTruth f)) := dt_truth he ha
end
def dNeg : Dat → Option Out
  | .int i => some (false, .int (-i))
  | _ => none
theorem r_neg {X : Cx} : Op1 X.mg (rU fun i => V.int (-i)) dNeg := by
  intro p H a v out hp h1 ho Q k
  unfold dNeg at ho
  split at ho
  · cases ho
    rw [h1.intE]
    exact ⟨_, rfl, k _ H (fun _ _ e => e) .int⟩
  · cases ho
theorem dneg {X : Cx} {a : Expr} {pos : Pos} {f : EM R} (ha : PE X a (TD X.mg f)) : PE X (.UnaryOp .USub a pos) (TD X.mg (eOp1 dNeg f)) := d_un un_neg r_neg ha
/-! ### own functions -/
structure Fnk (P : Program) (w : World) (K : PySem.W.Frag) (mg : Str → Option Value) (base : Heap) (x : Str) (k n : Nat) (F : EM R) : Prop where
  ex : ∃ f fd ps, mg x = some (.ref f) ∧ PySem.W.keepIn K (.ref f) = true ∧ Binds K fd ps [] ∧ FnOk P w K mg base CX0 k f fd ps (spF mg n F)
  hn : ∀ env, F env ≠ none → env.length = n
theorem runF_len {n np : Nat} {body : EM O} (env : Env) (h : runF n np body env ≠ none) : env.length = np := by
  unfold runF at h
  split at h
  · rename_i hc
    exact hc.2
  · exact absurd rfl h
section
variable {X : Cx} {x : Str} {p pos : Pos} {e : Expr} {es : List Expr} {fs : EM (List R)} {F : EM R} {j k n : Nat}
theorem dcall (G : Fnk X.prog X.w X.K X.mg X.base x k n F) (hr : Room j X.A) (ha : PA X (e :: es) (TDA X.mg fs)) (hj : k ≤ j := by omega) (hg : Gl X x := by rfl) (hdb : (x == ("__debug__" : Str)) = false := by decide) (hs : notStar e = true := by rfl) (hpl : (backTo pos (starEach es X.env)).any (·.1) = false := by rfl) :
    PE X (.Call (.Name x p) (e :: es) [] pos) (TD X.mg (eCallV F fs)) := by
  obtain ⟨f, fd, ps, hm, hk, hb, G1⟩ := G.ex
  exact d_callV G1 (hr.mono hj) hg hm hk hb G.hn ha hdb hs hpl
theorem dcallM (G : Fnk X.prog X.w X.K X.mg X.base x k n F) (hr : Room j X.A) (ha : PA X (e :: es) (TDA X.mg fs)) (hj : k ≤ j := by omega) (hg : Gl X x := by rfl) (hdb : (x == ("__debug__" : Str)) = false := by decide) (hs : notStar e = true := by rfl) (hpl : (backTo pos (starEach es X.env)).any (·.1) = false := by rfl) :
    PE X (.Call (.Name x p) (e :: es) [] pos) (TD X.mg (eCallM F fs)) := by
  obtain ⟨f, fd, ps, hm, hk, hb, G1⟩ := G.ex
  exact d_callM G1 (hr.mono hj) hg hm hk hb G.hn ha hdb hs hpl
/-- a call without arguments -/
def eCall0 (F : EM R) : EM R := fun env => match F [] with
  | some (.val d, _) => some (.val d, env)
  | some (.new d, _) => some (.new d, env)
  | _ => none
theorem dcall0 (G : Fnk X.prog X.w X.K X.mg X.base x k 0 F) (hr : Room j X.A) (hj : k ≤ j := by omega) (hg : Gl X x := by rfl) (hdb : (x == ("__debug__" : Str)) = false := by decide) : PE X (.Call (.Name x p) [] [] pos) (TD X.mg (eCall0 F)) := by
  obtain ⟨f, fd, ps, hm, hk, hb, G1⟩ := G.ex
  refine PE.of (pe_call0 G1 (hr.mono hj) hg hm hk hb .nil (E := E0) pass0 hdb) ?_
  rintro σ H Q ⟨q, env, r, env', R, ev, kk⟩
  have key : ∀ (r : DL.R) (e2 : Env), F [] = some (r, e2) → (∀ i, r ≠ .bor i) → (∀ v H', Rel X.mg q env σ H' → StepE env σ H env H' → IsR X.mg q env σ H H' r v → Q v H') → spF X.mg 0 F [] H Q E0 := fun r e2 hf hb kk =>
    call_val (ds := []) (vs := []) rfl R .nil hf hb kk
  show spF X.mg 0 F [] H Q E0
  unfold eCall0 at ev
  split at ev
  · rename_i d e2 hf
    cases ev
    exact key _ e2 hf (fun i z => by cases z) kk
  · rename_i d e2 hf
    cases ev
    exact key _ e2 hf (fun i z => by cases z) kk
  · cases ev
end
section
variable {P : Program} {w : World} {K : PySem.W.Frag}
    {mg : Str → Option Value} {base : Heap}
theorem fnk_ok {x qual : Str} {params : Arguments} {body : List Stmt} {scope : Scope} {f : Addr} {fd : FuncData} {N ps : List Str} {k : Nat} {fb : EM O} (m : mg x = some (.ref f)) (F : FunD K x qual params body scope [] [] f fd) (S : FnScope N ps scope)
    (bd : ∀ (kV doc pm : Value) (an : Option Addr) (cdv ct : Value) (us : List Value), us.length = ps.length → bindArgs (PySem.W.fnOf x qual params body scope .none kV doc pm an cdv ct) ⟨us, []⟩ = pure (ps.zip us))
    (hb : ∀ (cdv : Value) (A : Around) (outer : List PySem.Env) (s : Shared) (H : Hp) (E : XK), Room k (A.deeper (envOfC qual scope s.heap.objs.size f cdv)) → PSs (cxOf CX0 P w K mg base N qual scope f cdv A outer s H E).nox body (TDS mg fb)) :
    Fnk P w K mg base x (k + 1) ps.length (runF N.length ps.length fb) :=
  ⟨⟨f, fd, ps, m, F.kp, F.bindsN bd, fn_ok F S fun cdv A outer s H E hr => PSs.nox (hb cdv A outer s H E hr)⟩, fun env h => runF_len env h⟩
theorem fnk_none {x qual : Str} {params : Arguments} {body : List Stmt} {scope : Scope} {f : Addr} {fd : FuncData} {N ps : List Str} {k : Nat} (m : mg x = some (.ref f)) (F : FunD K x qual params body scope [] [] f fd)
    (bd : ∀ (kV doc pm : Value) (an : Option Addr) (cdv ct : Value) (us : List Value), us.length = ps.length → bindArgs (PySem.W.fnOf x qual params body scope .none kV doc pm an cdv ct) ⟨us, []⟩ = pure (ps.zip us)) :
    Fnk P w K mg base x k ps.length (fun _ => none) :=
  ⟨⟨f, fd, ps, m, F.kp, F.bindsN bd, ⟨fun vs H Q E h => h.1, fun A outer s H args us vs Q E _ _ _ _ h => by
    obtain ⟨_, q, env, r, env', _, e, _⟩ := h
    cases e⟩⟩, fun env h => absurd rfl h⟩
end
end DL
/-! len(set(texts)): texts may be alike. -/
namespace DL
open PySem PySem.Spec L2
open PyProof.Rows hiding St
/-- how many unlike ones there are -/
def setN : List Str → Nat
  | [] => 0
  | z :: zs => (if zs.any (fun y => y == z) = true then 0 else 1) + setN zs
theorem setN_snoc (x : Str) : ∀ l : List Str, setN (l ++ [x]) = (if l.any (fun y => y == x) = true then setN l else setN l + 1)
  | [] => rfl
  | z :: zs => by
    show (if (zs ++ [x]).any (fun y => y == z) = true then 0 else 1) + setN (zs ++ [x]) = _
    rw [setN_snoc x zs, List.any_append]
    show _ = (if (z == x || zs.any fun y => y == x) = true then (if zs.any (fun y => y == z) = true then 0 else 1) + setN zs else (if zs.any (fun y => y == z) = true then 0 else 1) + setN zs + 1)
    by_cases e : z = x
    · subst e
      simp only [beq_self_eq_true, List.any_cons, List.any_nil, Bool.or_false, Bool.or_true, Bool.true_or, if_true]
      split <;> omega
    · have e1 : (z == x) = false := by simpa using e
      have e2 : (x == z) = false := by simpa using fun q => e q.symm
      simp only [e1, e2, List.any_cons, List.any_nil, Bool.or_false, Bool.false_or]
      split <;> split <;> omega
theorem setN_le : ∀ l : List Str, setN l ≤ l.length
  | [] => Nat.le_refl 0
  | z :: zs => by
    show (if zs.any (fun y => y == z) = true then 0 else 1) + setN zs ≤ zs.length + 1
    have := setN_le zs
    split <;> omega
section
variable {prog : Program} {w : World} {A :
    Around} {E : Value → Shared → Prop} {s : Shared}
/-- the set at S has just the first i of the texts -/
def Got (prog : Program) (w : World) (S : Addr) (xs : List Str) (i : Nat) (h : Heap) : Prop := h.SetOf (strKind prog w) S (fun k => (xs.take i).any (fun y => y == k)) (setN (xs.take i))
theorem Got.keep {S : Addr} {xs : List Str} {i : Nat} {h h' : Heap} (g : Got prog w S xs i h) (k : ∀ o, h.get? S = some o → h'.get? S = some o) : Got prog w S xs i h' := by
  obtain ⟨o, es, ep, t, ho, r⟩ := g
  exact ⟨o, es, ep,
      t, k o ho, r⟩
theorem texts_loop {I : Addr} {fp wr : List Addr} {G : Array GenState → Array GenState → Prop} {n : Nat} {Pv : Nat → Value → Prop} {St : Nat → Shared → Prop} {R : Result → Shared → Prop} (W : WalksS prog w A.in1 I fp wr G n Pv St)
    (S : Addr) (out : S ∉ fp) (xs : List Str) (hn : xs.length = n) (room : n + 1 < scanBound) (val : ∀ i v, Pv i v → ∃ t, v = .str (xs.getD i Str.empty) t) :
    ∀ (m i : Nat) (s : Shared), n - i = m ∧ i ≤ n → St i s → Got prog w S xs i s.heap → (∀ s', Moved (S :: wr) G s s' → Got prog w S xs n s'.heap → R (.ok (.ret .none)) s') →
      codeAny (model prog w) A (.builtin "set.update.loop" ⟨[.ref S,
          .ref I], []⟩) R s := by
  have out2 : S ∉ wr := fun h => out (W.sub _ h)
  have more : ∀ b ∈ wr, b ∈ S :: wr := fun b hb => List.mem_cons_of_mem _ hb
  intro m
  induction m with
  | zero =>
    rintro i s ⟨e1, e2⟩ st g fin
    obtain rfl : i = n := by omega
    refine codeAny_builtin PyProof.Rows.F.entry_set_update_loop ?_; rw [Around.under_plainId PyProof.Rows.F.plain_set_update_loop _]; show wpAny _ A.in1 (pyNext (.ref I) >>= _) _ _ s
    refine wpAny_bind (W.done s _ _ st fun s' mv => wpAny_pure (fin s' (mv.mono more) (g.keep fun o => mv.heap S o out2)))
  | succ m ih =>
    rintro i s ⟨e1, e2⟩ st g fin
    have lt : i < n := by omega
    refine codeAny_builtin PyProof.Rows.F.entry_set_update_loop ?_; rw [Around.under_plainId PyProof.Rows.F.plain_set_update_loop _]; show wpAny _ A.in1 (pyNext (.ref I) >>= _) _ _ s
    refine wpAny_bind (W.item i s _ _ lt st fun v s' pv st' mv => ?_)
    obtain ⟨t, rfl⟩ := val i v pv
    have g' := g.keep fun o => mv.heap S o out2
    have le : setN (xs.take i) ≤ i := Nat.le_trans (setN_le _) (by rw [List.length_take]; omega)
    show wpAny _ A.in1 (holding [Value.str (xs.getD i Str.empty)
        t] (setAdd S (.str (xs.getD i Str.empty) t)) >>= _) _ _ s'
    refine wpAny_bind (wpAny_holding ?_); unfold setAdd; refine wpAny_holding ?_; refine wpAny_bind ((strKind prog w).pyHash (k := xs.getD i Str.empty) (strKind_is _ _ _ _) ?_)
    refine wpAny_setAddHashed_of (knd := strKind prog w) (s := { s' with toks := s'.toks + 1 }) (strKind_is _ _ _ _) rfl g' (by omega) fun h' sb new => ?_
    have take1 : xs.take (i + 1) = xs.take i ++ [xs.getD i Str.empty] := by
      have lx : i < xs.length := by omega
      rw [List.take_add_one, List.getD_eq_getElem?_getD, List.getElem?_eq_getElem lx] <;> rfl
    have g2 : Got prog w S xs (i + 1) h' := by
      unfold Got
      rw [take1, setN_snoc]
      refine SetOf_congr new (fun k => ?_) rfl
      rw [List.any_append, List.any_cons, List.any_nil, Bool.or_false]
      by_cases e : k = xs.getD i Str.empty
      · simp [e]
      · have e2 : (xs.getD i Str.empty == k) = false := beq_eq_false_iff_ne.mpr fun q => e q.symm
        rw [e2, decide_eq_false e]
    refine wpAny_pure ⟨plainId_quiet PyProof.Rows.F.plain_set_update_loop _, ih (i + 1) _ ⟨by omega, lt⟩ (W.frame _ s' _ _ st' (Nat.le_succ _) fun b hb o e => ?_) g2 fun s'' mv2 g3 => fin s'' (Moved.trans W.gtrans ((mv.mono more).then_heap (Nat.le_succ _) fun b o hb e => ?_) mv2) g3⟩
    · exact (sb.2 b fun q => out (q ▸ hb)).trans e
    · exact (sb.2 b fun q => hb (q ▸ List.mem_cons_self)).trans e
/-- the row of values at l, of type T -/
def RowAt (T : String) (h : Heap) (l : Addr) (items : Array Value) : Prop := ∃ o, h.get? l = some o ∧ o.cls = .type T ∧ ∃ n, o.data = .seq items n
theorem RowAt.keep {T : String} {h h' : Heap} {l : Addr} {items : Array Value} (r : RowAt T h l items) (k : ∀ o, h.get? l = some o → h'.get? l = some o) : RowAt T h' l items := by
  obtain ⟨o, e, r⟩ := r
  exact ⟨o, k o e, r⟩
/-- lists, tuples: what it takes to go over one -/
structure RowTy (P : Program) (w : World) (T I : String) : Prop where
  noSet : isSubtype (.type T) (.type "set") = pure false
  noFro : isSubtype (.type T) (.type "frozenset") = pure false
  noDic : (Value.type T == Value.type "dict") = false
  begun : ∀ {A : Around} {E Q : Value → Shared → Prop} {s : Shared} {l : Addr} {items : Array Value}, RowAt T s.heap l items → Q (.ref s.heap.objs.size) { s with heap := s.heap.push { cls := .type I, data := .fields #[.ref l, .int 0 0] } } → wpAny (model P w) A (pyIter (.ref l)) Q E s
  walk : ∀ {A : Around}, A.handled = none → ∀ (it l : Addr), l ≠ it → ∀ items : Array Value, Walks P w A it [it, l] [it] items.size (fun i v => items[i]? = some v) (fun i h => (∃ o, h.get? it = some o ∧ o.cls = .type I ∧ o.data = .fields #[.ref l, .int i 0]) ∧ RowAt T h l items)
theorem rowList : RowTy prog w "list" "list_iterator" := ⟨PySem.F.sub_list_set, PySem.F.sub_list_frozenset, by decide, fun r q => wpAny_pyIter_list r q, fun hh it l ne items => Walks.list hh it l ne items⟩
theorem rowTup : RowTy prog w "tuple" "tuple_iterator" := ⟨PySem.F.sub_tuple_set, PySem.F.sub_tuple_frozenset, by decide, fun r q => wpAny_pyIter_tuple r q, fun hh it l ne items => Walks.tuple hh it l ne items⟩
theorem set_txts {T I : String} (ty : RowTy prog w T I) {l : Addr} {items : Array Value} {xs : List Str} {Q : Value → Shared → Prop} (hh : A.handled = none) (hl : RowAt T s.heap l items) (hi : PyProof.Rows.StrsAre items.toList xs)
    (room : items.size + 1 < scanBound) (fin : ∀ (h' : Heap) (tk : Nat), Got prog w s.heap.objs.size xs items.size h' → (∀ b o, b < s.heap.objs.size → s.heap.get? b = some o → h'.get? b = some o) → Q (.ref s.heap.objs.size) { s with heap := h', toks := tk }) :
    wpAny (model prog w) A (call (.type "set")
        [.ref l]) Q E s := by
  obtain ⟨c, tl, hmro⟩ :=
      PySem.F.called_set.mro
  have made := PySem.F.called_set.made; have subs := PySem.F.called_set.sub; have nt := PySem.F.called_set.notType; have cc := PySem.F.called_set.canCreate; have tc := PySem.F.typeCall_set_1 (.ref l)
  refine wpAny_call
      (codeAny_of_tree ?_)
  show wpAny _ _ (callAny
      (.type "set") _) _ _ _
  refine wpAny_pure ⟨Code.quiet_builtin _ (by decide +kernel), codeAny_builtin PySem.F.entry_type_call ?_⟩; rw [Around.under_plain (weight_type_call_type "set" [.ref l] []) rfl]
  repeat (any_goals
      (first | assumption | wp_step))
  refine codeAny_mono (code_set_new_1 (.ref l) (E := E) (Q₁ := fun v t => ∃ led : Bool, v = .ref s.heap.objs.size ∧ t = { s with heap := s.heap.push { cls := .type "set", dict := none, data := .set #[] 0 (.fresh 0 0 led) } }) fun led => ⟨led, rfl, rfl⟩) fun r t hr => ?_
  rcases r with e | fl
  · exact hr
  cases fl with
  | ret v =>
    obtain ⟨led, rfl, rfl⟩ := hr
    generalize hn : s.heap.push { cls := .type "set", dict := none, data := .set #[] 0 (.fresh 0 0 led) } = hp
    have at0 : hp.get? s.heap.objs.size = some { cls := .type "set", dict := none, data := .set #[] 0 (.fresh 0 0 led) } := by rw [← hn]; exact Heap.get?_push_size _ rfl
    have sz : hp.objs.size = s.heap.objs.size + 1 := by rw [← hn]; exact Heap.size_push ..
    have old : ∀ b o, s.heap.get? b = some o → hp.get? b = some o := fun b o e => by rw [← hn]; exact Heap.get?_push_of_some _ e
    have isSet : Shared.TypeIs { s with heap := hp } (.ref s.heap.objs.size) "set" := ⟨_, at0, rfl⟩
    have li := PySem.F.called_set.init.lookup; have bi := PySem.F.called_set.init.bind (.ref s.heap.objs.size)
    repeat (any_goals
        (first | assumption | wp_step))
    refine codeAny_mono (codeAny_call_builtin (R := wants (fun r t => r = .none ∧ ∃ h' tk, t = { s with heap := h', toks := tk } ∧ Got prog w s.heap.objs.size xs items.size h' ∧
      (∀ b o, b < s.heap.objs.size → s.heap.get? b = some o → h'.get? b = some o)) E) PySem.F.called_set.init.plain PySem.F.entry_set_init (check_set_init_1 isSet ?_)) fun r2 t2 hr2 => ?_
    · have hl1 : RowAt T hp l items := hl.keep (old l)
      obtain ⟨⟨ocls, od, odt, osl⟩, ho, hc, nl, hd⟩ := id hl1
      simp only at hc hd
      subst hc hd
      have hs1 := ty.noSet; have hs2 := ty.noFro; have hne := ty.noDic
      unfold Builtin.«set.__init__» noKeywords Builtin.Frozenset.updateFrom; generalize hPI : pyIter = PI
      wp_walk
      subst hPI; refine ty.begun hl1 ?_; refine wpAny_bind (wpAny_runValue ?_)
      have lS : l < s.heap.objs.size := by obtain ⟨o, e, _⟩ := hl; exact Heap.lt_size e
      have up : s.heap.objs.size < hp.objs.size := by rw [sz]; exact Nat.lt_succ_self _
      have neI : l ≠ hp.objs.size := Nat.ne_of_lt (Nat.lt_trans lS up)
      have outS : s.heap.objs.size ∉ [hp.objs.size, l] := fun q => by
        rcases List.mem_cons.mp q with q | q
        · exact Nat.ne_of_lt up q
        · exact Nat.ne_of_gt lS (List.mem_singleton.mp q)
      have hx : xs.length = items.size := by rw [← PyProof.Rows.StrsAre.len_eq hi, Array.length_toList]
      have val : ∀ (i : Nat) (v : Value), items[i]? = some v → ∃ t, v = .str (xs.getD i Str.empty) t := fun i v hv => SS.strs_at hi i v (by rw [Array.getElem?_toList]; exact hv)
      refine texts_loop (ty.walk (by simp [hh]) _ l neI items).toS s.heap.objs.size outS xs hx room val items.size 0 _ ⟨rfl, Nat.zero_le _⟩ ⟨⟨_, Heap.get?_push_size _ rfl, rfl, rfl⟩, hl1.keep fun o e => Heap.get?_push_of_some _ e⟩ ?_ fun s' mv g => ?_
      · exact SetOf_congr ((setObjOf_fresh (knd := strKind prog w) led).setOf (Heap.get?_push_of_some _ at0) (by unfold scanBound; omega)) (fun _ => rfl) rfl
      · obtain ⟨h', g',
            d', tk', os'⟩ := s'
        obtain ⟨m1, m2, m3, m4, _⟩ := mv
        simp only at m1 m2 m3 m4
        subst m2 m3 m4
        refine wpAny_pure (wpAny_pure ⟨rfl, h', tk', rfl, g, fun b o hb e => ?_⟩)
        refine m1 b o (fun q => ?_) (Heap.get?_push_of_some _ (old b o e))
        rcases List.mem_cons.mp q with q | q
        · exact Nat.ne_of_lt hb q
        · exact Nat.ne_of_lt (Nat.lt_trans hb up) (List.mem_singleton.mp q)
    · rcases r2 with e | fl2
      · exact hr2
      cases fl2 with
      | ret r =>
        obtain ⟨rfl, h', tk, rfl, g, k⟩ := hr2
        repeat (any_goals
            (first | assumption | wp_step))
        exact fin _ _ g k
      | _ => exact hr2.elim
  | _ => exact hr.elim
end
def tLenSetT (K : PySem.W.Frag) (ta : TE) : TE := fun σ H Q => ta σ H fun x H1 => ∃ l, ∃ xs : List Str, x = .ref l ∧ (SqL K H1 l (xs.map V.str) ∨ SqT K H1 l (xs.map V.str)) ∧ xs.length ≤ 100 ∧ Q (.int (setN xs)) H1
theorem pe_lenSetT {X : Cx} {a : Expr} {ta : TE} {p p2 q pos : Pos} (hc : X.calm = true) (hg : Gl X "len") (hm : X.mg "len" = none) (hg2 : Gl X "set") (hm2 : X.mg "set" = none) (ha : PE X a ta) (na : notStar a = true) : PE X (.Call (.Name "len" p) [.Call (.Name "set" p2) [a] [] q] [] pos) (tLenSetT X.K ta) := by
  refine ⟨fun pins s σ H Q I h => Call_ (ld_blt I hg hm boot_len (PyProof.Rows.callWith_builtin1 (PyProof.Rows.args_cons (Call_ (ld_blt I hg2 hm2 boot_set ?_)) rfl) rfl rfl))⟩
  refine PyProof.Rows.callWith_type1 (PyProof.Rows.args_cons (thn (ha.run pins s σ H _ I h) fun v s1 ⟨x, H1, I1, r1, q1⟩ => PyProof.Rows.args_nil ?_) (star_no na)) (star_no na) rfl
  obtain ⟨l, xs, rfl,
      hq, h1, q1⟩ := q1
  cases r1
  have fin : ∀ (us : List Value), Vals (xs.map V.str) us → ∀ (h' : Heap) (tk : Nat), Got X.prog X.w s1.heap.objs.size xs us.toArray.size h' → (∀ b o, b < s1.heap.objs.size → s1.heap.get? b = some o → h'.get? b = some o) →
      wpAny (model X.prog X.w) X.A (spliced (backTo pos (starEach [] X.env))) (fun vs s₂ => wpAny (model X.prog X.w) X.A (call (.builtin "len") (Value.ref s1.heap.objs.size :: vs)) (EP X pins σ Q) X.xe s₂) X.xe { s1 with heap := h', toks := tk } := fun us r h' tk g k => by
    refine
        PyProof.Rows.args_nil ?_
    have e : us.toArray.size = xs.length := by rw [List.size_toArray, ← r.length, List.length_map]
    unfold Got at g
    rw [e, List.take_length] at g
    obtain ⟨o, es, ep, t, ho, hex, hd, _, _, _, hf, hn⟩ := g
    have I2 : Inv X pins σ H1 { s1 with heap := h', toks := tk } := I1.kept fun b o e => k b o (Heap.lt_size e) e
    have le := setN_le xs
    exact call_len_set ho hex hd hf (by rw [hn]; omega) ⟨.int (setN xs), H1, I2.tok _, ⟨_, by rw [hn]⟩, q1⟩
  have small : ∀ us : List Value, Vals (xs.map V.str) us → us.toArray.size + 1 < scanBound := fun us r => by
    rw [List.size_toArray, ← r.length, List.length_map]
    unfold scanBound
    omega
  rcases hq with hq | hq
  · obtain ⟨us, r, pl, _⟩ := I1.list hq
    exact set_txts rowList (I1.ok.hd hc) pl.isList (by simpa using strsAre_of r) (small us r) fun h' tk g k => fin us r h' tk g k
  · obtain ⟨us, r, pl, _⟩ := I1.tuple hq
    exact set_txts rowTup (I1.ok.hd hc) pl (by simpa using strsAre_of r) (small us r) fun h' tk g k => fin us r h' tk g k
end DL
/-! A tuple turned about: t[::-1]. -/
namespace RvT
open PySem PySem.Spec PyProof.Rows L2 HT
theorem pick_back (xs : Array Value) : ((List.range xs.size).filterMap fun (k : Nat) => xs[(((xs.size : Int) - 1) + (k : Int) * -1).toNat]?).toArray = xs.toList.reverse.toArray := by
  have e1 : ((List.range xs.size).filterMap fun (k : Nat) => xs[(((xs.size : Int) - 1) + (k : Int) * -1).toNat]?) = ((List.range xs.size).map fun k => xs.size - 1 - k).filterMap (xs[·]?) := by
    rw [List.filterMap_map]
    congr 1
    funext k
    have : (((xs.size : Int) - 1) + (k : Int) * -1).toNat = xs.size - 1 - k := by omega
    rw [this]
    rfl
  rw [e1, PySem.W.krv_range, List.filterMap_reverse, PySem.W.krv_all]
theorem adjust_back (n : Nat) : Builtin.Slice.sliceAdjust none none (-1) (n : Int) = ((n : Int) - 1, -1) := by
  unfold
      Builtin.Slice.sliceAdjust
  simp
theorem places_back (n : Nat) : Builtin.Slice.slicePlaces ((n : Int) - 1) (-1) (-1) = n := by
  unfold
      Builtin.Slice.slicePlaces
  have h1 : ¬ ((-1 : Int) > 0) := by omega
  simp only [h1, if_false]
  rw [show (- (-1) : Int) = 1 by decide, Int.ediv_one]
  split <;> omega
section
variable {prog : Program} {w : World} {A :
    Around} {E : Value → Shared → Prop} {s : Shared}
theorem applied_back {sl : Addr} {vs : Value} {n : Nat} {Q : Int × Int × Nat → Shared → Prop} (hs : s.heap.IsSliceOf sl .none .none vs) (ps : IsPart vs (some (-1))) (h : Q ((n : Int) - 1, -1, n) s) : wpAny (model prog w) A (Builtin.Slice.sliceApplied (.ref sl) (pure (n : Int))) Q E s := by
  obtain ⟨os, hos, hcs, hds⟩ :=
      id hs
  unfold Builtin.Slice.sliceApplied
      Builtin.Slice.sliceFields
  refine wpAny_bind (wpAny_bind (wpAny_field hos hds (x := .none) rfl (wpAny_bind (wpAny_field hos hds (x := .none) rfl (wpAny_bind (wpAny_field hos hds (x := vs) rfl (wpAny_pure ?_)))))))
  refine wpAny_bind (slicePart_ ps ?_)
  show wpAny _ _ (if ((-1 : Int) == 0) = true then _ else _) _ _ s
  rw [if_neg (by decide)]
  refine wpAny_bind (slicePart_none (wpAny_bind (slicePart_none (wpAny_bind (wpAny_pure ?_)))))
  show wpAny _ _ (match Builtin.Slice.sliceAdjust none none (-1) (n : Int) with | (lo, hi) => pure (lo, (-1 : Int), Builtin.Slice.slicePlaces lo hi (-1))) _ _ s
  rw [adjust_back n]
  show wpAny _ _ (pure (((n : Int) - 1), (-1 : Int), Builtin.Slice.slicePlaces ((n : Int) - 1) (-1) (-1))) _ _ s
  rw [places_back]
  exact wpAny_pure h
theorem item_back {t sl : Addr} {items : Array Value} {vs : Value} {Q : Value → Shared → Prop} (ht : IsTup s.heap t items) (hs : s.heap.IsSliceOf sl .none .none vs) (ps : IsPart vs (some (-1)))
    (h : Q (.ref s.heap.objs.size) { s with heap := s.heap.push { cls := .type "tuple", data := .seq items.toList.reverse.toArray } }) (hsz : items.size ≤ sizeLine) : wpAny (model prog w) A (getItem (.ref t) (.ref sl)) Q E s := by
  have hok : sizeOk (.seq items.toList.reverse.toArray) := by
    show items.toList.reverse.toArray.size ≤ sizeLine
    rw [List.size_toArray, List.length_reverse, Array.length_toList]
    exact hsz
  obtain ⟨os, hos, hcs, hds⟩ :=
      id hs
  have hT : s.TypeIs (.ref sl) "slice" := ⟨os, hos, hcs⟩
  unfold getItem
  try with_reducible
      refine wpAny_holding ?_
  first
      | refine wpAny_bind (wpAny_pure ?_) | skip
  refine wpAny_bind (wpAny_sequenceKey
      ht.typeIs (by decide) ?_)
  refine wpAny_bind (wpAny_callSpecial?_slot (name := Str.ofString "__getitem__") ht.typeIs slot_tuple_getitem (wpAny_call_entry slot_tuple_getitem ht.typeIs entry_tuple_getitem ?_ (args_tuple_getitem _ _)))
  show wpAny _ _ (Builtin.Tuple.tupleItemsOf (.ref t)
      >>= _) _ _ s
  refine wpAny_bind
      (tupleItemsOf_ ht ?_)
  refine wpAny_bind
      (wpAny_typeOf hT ?_)
  rw [if_pos (by decide)]
  refine wpAny_bind (applied_back hs ps ?_)
  have hno : ¬ ((((items.size : Int) - 1) == 0 && (-1 : Int) == 1 && items.size == items.size) = true) := by simp
  show wpAny _ _ (if (((items.size : Int) - 1) == 0 && (-1 : Int) == 1 && items.size == items.size) = true then _ else _) _ _ s
  rw [if_neg hno, pick_back]
  first
    | exact wpAny_bind (m := Builtin.Tuple.tupleExact _) (wpAny_newObj_type (wpAny_pure ⟨_, rfl, wpAny_pure h⟩) hok)
    | exact wpAny_bind (m := Builtin.Tuple.tupleExact _) (wpAny_newObj_type (wpAny_bind (wpAny_pure (wpAny_pure ⟨_, rfl, wpAny_pure h⟩))) hok)
    | exact wpAny_bind (wpAny_bind (m := Builtin.Tuple.tupleExact _) (wpAny_newObj_type (wpAny_pure (wpAny_pure ⟨_, rfl, wpAny_pure h⟩)) hok))
    | exact wpAny_bind (wpAny_bind (m := Builtin.Tuple.tupleExact _) (wpAny_newObj_type (wpAny_pure ⟨_, rfl, wpAny_pure h⟩) hok))
end
section
variable {X : Cx}
/-- t[::-1] of a tuple is a new one -/
def tRev (K : PySem.W.Frag) (te : TE) : TE := fun σ H Q => te σ H fun x H1 => ∃ a xs, x = .ref a ∧ SqT K H1 a xs ∧ ∀ p, H1 p = none → Q (.ref p) (upd H1 p (.tup xs.reverse))
theorem pe_rev {e : Expr} {te : TE} {k : Nat} {p1 p2 p3 pos : Pos} (he : PE X e te) : PE X (.Subscript e (.Slice none none (some (.UnaryOp .USub (.Constant (.int 1) k p1) p2)) p3) pos) (tRev X.K te) := by
  refine ⟨fun pins s σ H Q J h => ?_⟩
  refine Subscript_ (thn (he.run pins s σ H _ J h) fun v s1 ⟨x, H1, I1, r1, q1⟩ => ?_)
  obtain ⟨a, xs,
      ex, hx, q⟩ := q1
  subst ex
  cases r1
  have hst : PO X (some (.UnaryOp .USub (.Constant (.int 1) k p1) p2)) (tPart (tUn (rU fun i =>
      .int (-i)) (tC (.int 1)))) := po_some (pe_un un_neg pe_int)
  refine wpAny_Slice (thn (po_none.run pins s1 σ H1 (fun o H2 =>
      o = none ∧ H2 = H1) I1 ⟨rfl, rfl⟩) fun vl s2 ⟨l, H2, I2, pl, el, e2⟩ => ?_)
  subst el e2
  cases pl
  refine thn (po_none.run pins s2 σ H2 (fun o H3 =>
      o = none ∧ H3 = H2) I2 ⟨rfl, rfl⟩) fun vu s3 ⟨u, H3, I3, pu, eu, e3⟩ => ?_
  subst eu e3
  cases pu
  refine thn (hst.run pins s3 σ H3 (fun o H4 => o = some (-1) ∧ H4 = H3)
      I3 ⟨1, rfl, -1, rfl, rfl, rfl⟩) fun vs s4 ⟨o, H4, I4, ps, eo, e4⟩ => ?_
  subst eo e4
  have I5 : Inv X pins σ H4 { s4 with heap := s4.heap.push { cls := .type "slice", data := .fields #[.none, .none, vs] } } := I4.kept (t' := s4.toks) fun b ob q => Heap.get?_push_of_some _ q
  obtain ⟨its, r, ht, hz⟩ := I5.tuple hx
  have hlen := r.length
  show wpAny (model X.prog X.w) X.A (subscriptTail e (.Slice none none (some (.UnaryOp .USub (.Constant (.int 1) k p1) p2)) p3) (.ref a) (.ref s4.heap.objs.size)) (EP X pins σ Q) X.xe { s4 with heap := s4.heap.push { cls := .type "slice", data := .fields #[.none, .none, vs] } }
  refine tail_any (ops := [.ref a, .ref s4.heap.objs.size]) ht.typeIs (slot_tuple_getitem.lookup) ?_ (by with_unfolding_all rfl)
  refine item_back ht (Heap.IsSliceOf.new _ .none .none vs) ps ?_ (by rw [List.size_toArray]; omega)
  refine ⟨.ref _, _, I5.laid (t' := s4.toks) (o := .tup xs.reverse) (fun b ob q => Heap.get?_push_of_some _ q) (Nat.le_refl _) ?_, rfl, q _ (I5.hok.fresh (Nat.le_refl _))⟩
  exact ⟨by rw [List.length_reverse]; exact hz, _, r.reverse, IsTup.new _ _⟩
end
end RvT
/-! More rules in short. -/
namespace DL
open PySem PySem.Spec L2
open PyProof.Rows hiding St
theorem bt_len : bootBuiltins (Str.ofString "len") = some (.builtin "len") := by decide +kernel
theorem bt_all : bootBuiltins (Str.ofString "all") = some (.builtin "all") := by decide +kernel
theorem bt_any : bootBuiltins (Str.ofString "any") = some (.builtin "any") := by decide +kernel
theorem bt_abs : bootBuiltins (Str.ofString "abs") = some (.builtin "abs") := by decide +kernel
theorem bt_isinstance : bootBuiltins (Str.ofString "isinstance") = some (.builtin "isinstance") := by decide +kernel
theorem bt_int : bootBuiltins (Str.ofString "int") = some (.type "int") := by decide +kernel
theorem bt_bool : bootBuiltins (Str.ofString "bool") = some (.type "bool") := by decide +kernel
theorem bt_str : bootBuiltins (Str.ofString "str") = some (.type "str") := by decide +kernel
theorem bt_tuple : bootBuiltins (Str.ofString "tuple") = some (.type "tuple") := by decide +kernel
theorem bt_list : bootBuiltins (Str.ofString "list") = some (.type "list") := by decide +kernel
theorem bt_dict : bootBuiltins (Str.ofString "dict") = some (.type "dict") := by decide +kernel
section
variable {X : Cx} {a b c d e i : Expr} {es : List Expr} {pos : Pos} {f g h fi fe : EM R} {fs : EM (List R)} {u v : EM Bool}
theorem dapp (j : Nat) {x : Str} {px apos : Pos} (ha : PA X (e :: es) (TDA X.mg fs)) (hN : X.N[j]? = some x := by rfl) (hv : Vis X.env.scope x := by first | exact Or.inl rfl | exact Or.inr (Or.inl rfl) | exact Or.inr (Or.inr rfl)) (hd : (x == ("__debug__" : Str)) = false := by decide) (hcd : (x == ("__classdict__" : Str)) = false := by decide)
    (hbase : attributeBase (.Name x px) "append" X.env (eval (.Name x px) X.env) = eval (.Name x px) X.env := by rfl)
    (hfew : ((backTo pos (starEach (e :: es) X.env)).all (fun x => !x.1) && (backToKw pos (keywordEach [] X.env)).all (fun x => x.1.isSome) && decide ((e :: es).length + ([] : List Keyword).length + (if ([] : List Keyword).isEmpty then 0 else 1) < 30)) = true := by rfl)
    (hline : (apos.endLine == pos.line) = true := by rfl) (hs : starEach (e :: es) X.env = (false, eval e X.env) :: starEach es X.env := by rfl) (hpl : (backTo pos (starEach es X.env)).any (·.1) = false := by rfl) :
    PE X (.Call (.Attribute (.Name x px) "append" apos) (e :: es) [] pos) (TD X.mg (eBind (hasL j) fun _ => eApp j fs)) := d_app hN hv hd hcd ha hbase hfew hline hs hpl
theorem dput (j : Nat) {x : Str} {px tpos : Pos} (hi : PE X i (TD X.mg fi)) (he : PE X e (TD X.mg fe)) (hN : X.N[j]? = some x := by rfl) (hv : Vis X.env.scope x := by first | exact Or.inl rfl | exact Or.inr (Or.inl rfl) | exact Or.inr (Or.inr rfl)) (hd : (x == ("__debug__" : Str)) = false := by decide) (hcd : (x == ("__classdict__" : Str)) = false := by decide)
    (ha : ∀ v, assign (.Subscript (.Name x px) i tpos) X.env v = (do let ov ← holding [v] (eval (.Name x px) X.env); let iv ← holding [v, ov] (eval i X.env); standAt tpos; holding [v, ov, iv] (setItem ov iv v); release [v, ov, iv] []) := by intro _; rfl)
    (hs : swapsWithSole [.Subscript (.Name x px) i tpos] e pos.line X.env = pure false := by rfl) (hw : swappedStores [.Subscript (.Name x px) i tpos] e X.env = pure none := by rfl)
    (h1 : (assignEach [.Subscript (.Name x px) i tpos] X.env).map (·.2) = [assign (.Subscript (.Name x px) i tpos) X.env] := by rfl) : PS X (.Assign [.Subscript (.Name x px) i tpos] e pos) (TDS X.mg (sPut j fi fe)) := ds_put hN hv hd hcd hi he ha hs hw h1
end
/-! ### xs[::-1] -/
def dRev : Dat → Option Out
  | .lst ds => some (true, .lst ds.reverse)
  | .tup ds => some (false, .tup ds.reverse)
  | _ => none
def eRev (f : EM R) : EM R := eOp1 dRev f
theorem pe_revT {X : Cx} {e : Expr} {te : TE} {k : Nat} {p1 p2 p3 pos : Pos} (he : PE X e te) : PE X (.Subscript e (.Slice none none (some (.UnaryOp .USub (.Constant (.int 1) k p1) p2)) p3) pos) (RvT.tRev X.K te) := RvT.pe_rev he
theorem d_rev {X : Cx} {e : Expr} {f : EM R} {k : Nat} {p1 p2 p3 pos : Pos} (he : PE X e (TD X.mg f)) : PE X (.Subscript e (.Slice none none (some (.UnaryOp .USub (.Constant (.int 1) k p1) p2)) p3) pos) (TD X.mg (eRev f)) := by
  refine PE.of (PE.or (pe_revL he) (pe_revT he)) ?_
  rintro σ H Q ⟨q, env, out, env', R, ev, k⟩
  obtain ⟨r1, e1, h1, ev1⟩ := eBind_some ev
  obtain ⟨d, e2, h2, ev2⟩ := eBind_some ev1
  obtain ⟨h2', rfl⟩ := eLook_some h2
  obtain ⟨o, e3, h3, ev3⟩ := eBind_some ev2
  obtain ⟨h3', rfl⟩ := eOpt_some h3
  obtain ⟨rfl, rfl⟩ := eRet_some ev3
  cases d with
  | lst ds =>
    cases h3'
    refine .inl ⟨q, env, r1, env', R, h1, fun v H1 R1 S1 i1 => ?_⟩
    obtain ⟨a, vs, rfl, ea, hd⟩ := (i1.look R1 h2').lstE
    exact ⟨a, vs, rfl, SqL.of ea, fun p hp => k _ _ (R1.ext (ext_new hp)) (S1.trans (.new hp)) ((IsO.isR R1 (ext_new hp) (newL hp hd.reverse)).back S1.dom)⟩
  | tup ds =>
    cases h3'
    refine .inr ⟨q, env, r1, env', R, h1, fun v H1 R1 S1 i1 => ?_⟩
    obtain ⟨a, vs, rfl, na, ea, hd⟩ := (i1.look R1 h2').tupE
    exact ⟨a, vs, rfl, SqT.of ea, fun p hp => k _ _ (R1.ext (ext_new hp)) (S1.trans (.new hp)) (newT (fun x hx => R1.prot_in hx) hp hd.reverse)⟩
  | _ => cases h3'
/-! ### len(set(texts)) -/
def eLenSet (f : EM R) : EM R := eBind f fun r => eBind (eLook r) fun d => eBind (eOpt (rowD d)) fun zs => eOpt (if zs.length ≤ 100 then some (.val (.int (setN zs))) else none)
theorem d_lenSet {X : Cx} {a : Expr} {f : EM R} {p p2 q pos : Pos} (hm : X.mg "len" = none) (hm2 : X.mg "set" = none) (ha : PE X a (TD X.mg f)) (hc : X.calm = true := by rfl) (hg : Gl X "len" := by rfl) (hg2 : Gl X "set" := by rfl) (na : notStar a = true := by rfl) : PE X (.Call (.Name "len" p) [.Call (.Name "set" p2) [a] [] q] [] pos) (TD X.mg (eLenSet f)) := by
  refine PE.of (pe_lenSetT hc hg hm hg2 hm2 ha na) ?_
  rintro σ H Q ⟨q, env, out, env', R, ev, k⟩
  obtain ⟨r1, e1, h1, ev1⟩ := eBind_some ev
  obtain ⟨d, e2, h2, ev2⟩ := eBind_some ev1
  obtain ⟨h2', rfl⟩ := eLook_some h2
  obtain ⟨zs, e3, h3, ev3⟩ := eBind_some ev2
  obtain ⟨h3', rfl⟩ := eOpt_some h3
  obtain ⟨h4, rfl⟩ := eOpt_some ev3
  split at h4
  · rename_i hz
    cases h4
    refine ⟨q, env, r1, env', R, h1, fun v H1 R1 S1 i1 => ?_⟩
    cases d with
    | lst ds =>
      obtain ⟨a, vs, rfl, ea, hd⟩ := (i1.look R1 h2').lstE
      have := strs_vs hd h3'
      subst this
      exact ⟨a, zs, rfl, .inl (SqL.of ea), hz, k _ H1 R1 S1 .int⟩
    | tup ds =>
      obtain ⟨a, vs, rfl, na, ea, hd⟩ := (i1.look R1 h2').tupE
      have := strs_vs hd h3'
      subst this
      exact ⟨a, zs, rfl, .inr (SqT.of ea), hz, k _ H1 R1 S1 .int⟩
    | _ => cases h3'
  · cases h4
/-! ### dicts -/
theorem eDict0_ok {X : Cx} {pos : Pos} : PE X (.Dict [] [] pos) (TD X.mg (fun env => some (.new (.dct [] []), env))) := by
  refine PE.of pe_dnewK ?_
  rintro σ H Q ⟨q, env, r, env', R, ev, k⟩
  cases ev
  exact fun p hp => k _ _ (R.ext (ext_new hp)) (.new hp) (IsO.isR (out := (true, .dct [] [])) R (ext_new hp) ⟨p, rfl, hp, [], upd_same, rfl, .nil⟩)
def keyD : Dat → Option Key
  | .int i => some (.inl i)
  | .str z => some (.inr z)
  | _ => none
def eDict1 (f g : EM R) : EM R := eBind f fun r => eBind (eLook r) fun kd => eBind (eOpt (keyD kd)) fun key => eBind g fun s => eBind (eForce s) fun d => eRet (.new (.dct [key] [d]))
theorem d_dict1 {X : Cx} {a b : Expr} {f g : EM R} {pos : Pos} (ha : PE X a (TD X.mg f)) (hb : PE X b (TD X.mg g)) : PE X (.Dict [some a] [b] pos) (TD X.mg (eDict1 f g)) := by
  refine PE.of (pe_disp (pps_cons ha hb pps_nil) rfl rfl (by simp) (by simp)) ?_
  rintro σ H Q ⟨q, env, r, env', R, ev, k⟩
  obtain ⟨r1, e1, h1, ev1⟩ := eBind_some ev
  obtain ⟨kd, e2, h2, ev2⟩ := eBind_some ev1
  obtain ⟨h2', rfl⟩ := eLook_some h2
  obtain ⟨key, e3, h3, ev3⟩ := eBind_some ev2
  obtain ⟨h3', rfl⟩ := eOpt_some h3
  obtain ⟨r2, e4, h4, ev4⟩ := eBind_some ev3
  obtain ⟨d, e5, h5, ev5⟩ := eBind_some ev4
  obtain ⟨rfl, rfl⟩ := eRet_some ev5
  intro p hp
  have R0 := R.guard hp (ext_new (o := .dK []) hp) (by rw [upd_same]; simp)
  refine ⟨fun b => q b ∨ b = p, env, r1, e3, R0, h1, fun v H1 R1 S1 i1 => ⟨fun b => q b ∨ b = p, e3, r2, e4, R1, h4, fun w H2 R2 S2 i2 => ?_⟩⟩
  obtain ⟨R3, S3, hd⟩ := i2.force R2 h5
  have np : ∀ {ee : Env} {HH : Hp}, StepE env σ (upd H p (.dK [])) ee HH → ¬ MutAt env σ p → HH p = some (.dK []) := fun S n => S.keep p _ upd_same n
  have nm : ¬ MutAt env σ p := fun m => R.prot_new hp (.inr m)
  have S13 := (S1.trans S2).trans S3
  have hp2 : H2 p = some (.dK []) := np S13 nm
  have hv : v = kV key := by
    have iv := i1.look R1 h2'
    cases kd with
    | int i => cases h3'; exact iv.intE
    | str z => cases h3'; exact iv.strE
    | _ => cases h3'
  refine ⟨hp2, [(key, w)], by rw [hv]; rfl, by simp, ?_⟩
  have kp : ∀ b u, H2 b = some u → ¬ Prot (fun b => q b ∨ b = p) env' σ b → upd H2 p (.dK (mergeK [] [(key, w)])) b = some u := fun b u e n => by
    rw [upd_ne fun z => n (.inl (.inr z))]
    exact e
  have Rx : Rel X.mg (fun b => q b ∨ b = p) env' σ (upd H2 p (.dK (mergeK [] [(key, w)]))) := by
    refine ⟨R3.len, fun j d e => ?_, fun j s e w => ?_, R3.inj, fun b z => ?_⟩
    · obtain ⟨u, a1, a2⟩ := R3.val j d e
      exact ⟨u, a1, a2.mono (fun _ z => z) kp⟩
    · obtain ⟨a, a1, a2, a3⟩ := R3.wr j s e w
      exact ⟨a, a1, a2, a3.mono (fun _ z => z) kp fun u e => by
        rw [upd_ne fun z => a2 (.inr z)]
        exact e⟩
    · by_cases hb : b = p
      · rw [hb, upd_same]; simp
      · rw [upd_ne hb]; exact R3.qin b z
  have Sx : StepE env σ H env' (upd H2 p (.dK (mergeK [] [(key, w)]))) := by
    refine ⟨fun b u e n => ?_, fun b z => ?_, S13.mono, S13.there, S13.muts, S13.len⟩
    · rw [upd_ne (ne_of_none e hp)]
      exact S13.keep b u (ext_new hp b u e) n
    · by_cases hb : b = p
      · rw [hb, upd_same]; simp
      · rw [upd_ne hb]
        refine S13.dom b ?_
        rw [upd_ne hb]
        exact z
  refine k _ _ (Rx.less fun b z => .inl z) Sx ⟨p, rfl, hp, fun z => R.qin p z hp, ⟨mergeK [] [(key, w)], upd_same, rfl, ?_⟩, Rx⟩
  refine (IsDs.one hd).mono (fun b z => ?_) kp
  rcases z with (z | z) | z
  · exact .inl (.inl z)
  · exact .inr z
  · exact .inl (.inr z)
/-! ### three at once -/
def sPar3 (i j l : Nat) (fs : EM (List R)) : EM O := eBind fs fun rs => eBind (eForces rs) fun ds => match ds with
  | [a, b, c] => eBind (gPut i a) fun _ => eBind (gPut j b) fun _ => eBind (gPut l c) fun _ => eRet .nx
  | _ => fun _ => none
theorem ds_par3 {X : Cx} {a b c : Expr} {fs : EM (List R)} {i j l : Nat} {x y z : Str} {px py pz pt pos : Pos} {kt k2 : Nat} {pt2 : Pos} (hc : X.calm = true) (hN : X.N.Nodup) (hi : X.N[i]? = some x) (hj : X.N[j]? = some y) (hl : X.N[l]? = some z) (hij : i ≠ j) (hil : i ≠ l) (hjl : j ≠ l) (hx : X.env.scope.names.lookup x = some .local) (hy : X.env.scope.names.lookup y = some .local) (hz : X.env.scope.names.lookup z = some .local) (ha : PA X [a, b, c] (TDA X.mg fs))
    (hw : swappedStores [.Tuple [.Name x px, .Name y py, .Name z pz]
        kt pt] (.Tuple [a, b, c] k2 pt2) X.env = pure (some [x, y, z]))
    (hs : swapsWithSole [.Tuple [.Name x px, .Name y py, .Name z pz] kt pt] (.Tuple [a, b, c] k2 pt2) pos.line X.env = pure false := by rfl) : PS X (.Assign [.Tuple [.Name x px, .Name y py, .Name z pz] kt pt] (.Tuple [a, b, c] k2 pt2) pos) (TDS X.mg (sPar3 i j l fs)) := by
  refine PS.of (ps_par3 hc hN hi hj hl hij hil hjl hx hy hz ha hw hs) ?_
  rintro D σ H ⟨q, env, o, env', R, ev, k⟩
  obtain ⟨r1, e1, h1, ev1⟩ := eBind_some ev
  obtain ⟨ds, e2, h2, ev2⟩ := eBind_some ev1
  refine ⟨q, env, r1, e1, R, h1, fun vs H1 R1 S1 i1 => ?_⟩
  obtain ⟨R2, S2, hd⟩ := i1.forces R1 h2
  split at ev2
  · obtain ⟨⟨⟩, e3, h3, ev3⟩ := eBind_some ev2
    obtain ⟨⟨⟩, e4, h4, ev4⟩ := eBind_some ev3
    obtain ⟨⟨⟩, e5, h5, ev5⟩ := eBind_some ev4
    obtain ⟨rfl, rfl⟩ := eRet_some ev5
    cases hd with
    | cons d1 t =>
      cases t with
      | cons d2 t =>
        cases t with
        | cons d3 t =>
          cases t
          obtain ⟨R3, S3⟩ := gPut_ok R2 d1 h3
          have d2' := Step.isD (H' := H1) S3.to d2
          have d3' := Step.isD (H' := H1) S3.to d3
          obtain ⟨R4, S4⟩ := gPut_ok R3 d2' h4
          have d3'' := Step.isD (H' := H1) S4.to d3'
          obtain ⟨R5, S5⟩ := gPut_ok R4 d3'' h5
          exact ⟨_, _, _, rfl, k _ H1 R5 ((((S1.trans S2).to.trans S3.to).trans S4.to).trans S5.to)⟩
  · cases ev2
end DL
/-! A static method that is read off its class and called: by position, by names. -/
namespace StM
open PySem PySem.Spec PyProof.Rows L2 ClX
/-- C.m is a static method: its record at p, its def at g -/
structure SMet (K : PySem.W.Frag) (C : Addr) (mc : Value) (m : Str) (p g : Addr) : Prop where
  found : PySem.W.findCls K (.ref C) mc m = some (.get (.builtin "staticmethod.__get__") (.ref p) .none (.ref C))
  recd : ∃ rest, PySem.W.recIn K p "staticmethod" = some (.ref g :: rest)
section
variable {X : Cx} {pins : List (Addr × Obj)} {σ : L2.St} {H : Hp} {s : Shared} {C p g : Addr} {mc : Value} {m : Str} {A : Around} {E : Value → Shared → Prop}
theorem getsm_ok {b : Bool} {Q : Value → Shared → Prop} (I : Inv X pins σ H s) (r : CRead X.K C mc) (k : SMet X.K C mc m p g)
    (h : ∀ s', Inv X pins σ H s' → Q (.ref g) s') : wpAny (model X.prog X.w) A (getAttr (.ref C) m b) Q E s := by
  obtain ⟨rest, hp⟩ := k.recd
  refine PySem.W.cls_bind I.kIn r.rd k.found ?_
  refine wpAny_call (PySem.W.sm_get (s := { s with toks := s.toks + 1 }) I.kIn hp (PySem.W.handed_on rfl ?_))
  exact h _ (I.tok _)
theorem getmethsm_ok {pl : Sem Bool} {Q : Value × List Value → Shared → Prop} (I : Inv X pins σ H s) (r : CRead X.K C mc) (k : SMet X.K C mc m p g)
    (h : ∀ s', Inv X pins σ H s' → Q (.ref g, []) s') : wpAny (model X.prog X.w) A (getMethod (.ref C) m pl) Q E s :=
  PySem.W.method_cls I.kIn r.ga (getsm_ok I r k h)
end
section
variable {X : Cx} {CX : CXT} {k : Nat} {C p g : Addr} {mc : Value} {sp : Sp} {E : XK} {e : Expr} {es : List Expr} {x m : Str} {np pos apos : Pos} {t tk : TA} {pl : Sem Bool} {fd : FuncData} {ps ks : List Str} {ds : List Value} {dvs : List V} {kws : List Keyword}
theorem pe_smeth (hg : Gl X x) (hm : X.mg x = some (.ref C)) (r : CRead X.K C mc) (c : SMet X.K C mc m p g) (F : FnOk X.prog X.w X.K X.mg X.base CX k g fd ps sp) (hr : Room k X.A) (hk : PySem.W.keepIn X.K (.ref g) = true) (hb : Binds X.K fd ps ds) (hd : Vals dvs ds) (hx : Passes CX X E) (ha : PA X (e :: es) t)
    (hdb : (x == ("__debug__" : Str)) = false := by decide) (hst : starEach (e :: es) X.env = (false, eval e X.env) :: starEach es X.env := by rfl) (hpl : (backTo pos (starEach es X.env)).any (·.1) = false := by rfl)
    (ht : eval (.Call (.Attribute (.Name x np) m apos) (e :: es) [] pos) X.env = (do let ov ← eval (.Name x np) X.env; standAt apos.atName; let (f, first) ← holding [ov] (getMethod ov m pl); callWith pos f first (backTo pos (starEach (e :: es) X.env)) (backToKw pos (keywordEach [] X.env))) := by rfl) :
    PE X (.Call (.Attribute (.Name x np) m apos) (e :: es) [] pos) (tCall sp dvs E t) := by
  refine ⟨fun pins s σ H Q J h => ?_⟩
  refine PySem.W.methodCall_KW (pl := pl) (ld_glob J hg hm ?_ hdb) ht
  refine getmethsm_ok J r c fun s2 I2 => ?_
  refine PySem.W.callWith_K (h₀ := X.base) I2.ok.mod.kin hk (thn (ha.run pos pins s2 σ H _ I2 h) fun us s3 ⟨vs, H2, I3, rv, q2⟩ => ⟨I3.kIn, ?_⟩) hst hpl
  exact run_fn F hr hb hd hx I3 rv q2
variable {gg : List Value → List Value → List Value} {gV : List V → List V → List V}
theorem pe_smethK (hg : Gl X x) (hm : X.mg x = some (.ref C)) (r : CRead X.K C mc) (c : SMet X.K C mc m p g) (F : FnOk X.prog X.w X.K X.mg X.base CX k g fd ps sp) (hr : Room k X.A) (hk : PySem.W.keepIn X.K (.ref g) = true) (hb : KBinds X.K fd ps ks gg gV) (hx : Passes CX X E)
    (hkw : PK X kws tk) (hall : (backToKw pos (keywordEach kws X.env)).all (·.1.isSome) = true := by rfl) (hks : (backToKw pos (keywordEach kws X.env)).filterMap (·.1) = ks := by rfl)
    (hdb : (x == ("__debug__" : Str)) = false := by decide) (hpl : ((backTo pos (starEach [] X.env)).any (·.1) || (backToKw pos (keywordEach kws X.env)).any (·.1.isNone)) = false := by rfl)
    (ht : eval (.Call (.Attribute (.Name x np) m apos) [] kws pos) X.env = (do let ov ← eval (.Name x np) X.env; standAt apos.atName; let (f, first) ← holding [ov] (getMethod ov m pl); callWith pos f first (backTo pos (starEach [] X.env)) (backToKw pos (keywordEach kws X.env))) := by rfl) :
    PE X (.Call (.Attribute (.Name x np) m apos) [] kws pos) (tCallK sp gV E tNil tk) := by
  refine ⟨fun pins s σ H Q J h => ?_⟩
  refine PySem.W.methodCall_KW (pl := pl) (ld_glob J hg hm ?_ hdb) ht
  refine getmethsm_ok J r c fun s2 I2 => ?_
  refine PySem.W.callWith_KW0 (h₀ := X.base) I2.ok.mod.kin hk hall (thn (hkw.run pos pins s2 σ H _ I2 h) fun ws s3 ⟨zs, H2, I3, rz, q2⟩ => ⟨I3.kIn, ?_⟩) hpl
  rw [hks]
  exact run_fnk (us := []) (vs := []) F hr hb hx I3 .nil rz q2
end
end StM
/-! Static methods over data. -/
namespace DL
open PySem PySem.Spec L2
open PyProof.Rows hiding St
/-- by names alone -/
def byN {α : Type} : List α → List α → List α
  | [], ws => ws
  | _, _ => []
/-- the static method x.m answers F -/
structure Smk (P : Program) (w : World) (K : PySem.W.Frag) (mg : Str → Option Value) (base : Heap) (x m : Str) (ps : List Str) (k n : Nat) (F : EM R) : Prop where
  ex : ∃ C mc p g fd, mg x = some (.ref C) ∧ ClX.CRead K C mc ∧ StM.SMet K C mc m p g ∧ PySem.W.keepIn K (.ref g) = true ∧ Binds K fd ps [] ∧ KBinds K fd ps ps byN byN ∧ FnOk P w K mg base CX0 k g fd ps (spF mg n F)
  hn : ∀ env, F env ≠ none → env.length = n
section
variable {X : Cx} {x m : Str} {np pos apos : Pos} {e : Expr} {es : List Expr} {ps : List Str} {fs : EM (List R)} {f : EM R} {F : EM R} {j k n : Nat} {pl : Sem Bool} {kws : List Keyword} {nm : Option Str} {kpos : Pos}
theorem dsm (G : Smk X.prog X.w X.K X.mg X.base x m ps k n F) (hr : Room j X.A) (ha : PA X (e :: es) (TDA X.mg fs)) (hj : k ≤ j := by omega) (hg : Gl X x := by rfl) (hdb : (x == ("__debug__" : Str)) = false := by decide) (hs : notStar e = true := by rfl) (hpl : (backTo pos (starEach es X.env)).any (·.1) = false := by rfl)
    (ht : eval (.Call (.Attribute (.Name x np) m apos) (e :: es) [] pos) X.env = (do let ov ← eval (.Name x np) X.env; standAt apos.atName; let (f, first) ← holding [ov] (getMethod ov m pl); callWith pos f first (backTo pos (starEach (e :: es) X.env)) (backToKw pos (keywordEach [] X.env))) := by rfl) :
    PE X (.Call (.Attribute (.Name x np) m apos) (e :: es) [] pos) (TD X.mg (eCallV F fs)) := by
  obtain ⟨C, mc, p, g, fd, hm, r, c, hk, hb, _, G1⟩ := G.ex
  exact PE.of (StM.pe_smeth hg hm r c G1 (hr.mono hj) hk hb .nil (E := E0) pass0 ha hdb (star_no hs) hpl ht) fun σ H Q h => red_callV σ H Q G.hn h
theorem PK.of {t t' : TA} (h : PK X kws t) (w : ∀ σ H Q, t' σ H Q → t σ H Q) : PK X kws t' := ⟨fun p pins s σ H Q J y => h.run p pins s σ H Q J (w σ H Q y)⟩
theorem dkc (h1 : PE X e (TD X.mg f)) (h2 : PK X kws (TDA X.mg fs)) : PK X (⟨nm, e, kpos⟩ :: kws) (TDA X.mg (eCons f fs)) := by
  refine PK.of (pk_cons h1 h2) ?_
  rintro σ H Q ⟨q, env, r, env', R, ev, k⟩
  obtain ⟨r1, e1, h1, ev_1⟩ := eBind_some ev
  obtain ⟨r2, e2, h2, ev_2⟩ := eBind_some ev_1
  obtain ⟨rfl, rfl⟩ := eRet_some ev_2
  refine ⟨q, env, r1, e1, R, h1, fun v H1 R1 S1 i1 => ⟨q, e1, r2, env', R1, h2, fun vs H2 R2 S2 i2 => k (v :: vs) H2 R2 (S1.trans S2) (.cons (i1.step S2) (i2.back S1.dom))⟩⟩
theorem dkl (h1 : PE X e (TD X.mg f)) : PK X [⟨nm, e, kpos⟩] (TDA X.mg (eOne f)) := by
  refine PK.of (pk_cons h1 pk_nil) ?_
  rintro σ H Q ⟨q, env, r, env', R, ev, k⟩
  obtain ⟨r1, e1, h1, ev_1⟩ := eBind_some ev
  obtain ⟨rfl, rfl⟩ := eRet_some ev_1
  exact ⟨q, env, r1, env', R, h1, fun v H1 R1 S1 i1 => k [v] H1 R1 S1 (.cons i1 .nil)⟩
theorem dsmK (G : Smk X.prog X.w X.K X.mg X.base x m ps k n F) (hr : Room j X.A) (hkw : PK X kws (TDA X.mg fs)) (hj : k ≤ j := by omega) (hg : Gl X x := by rfl) (hall : (backToKw pos (keywordEach kws X.env)).all (·.1.isSome) = true := by rfl) (hks : (backToKw pos (keywordEach kws X.env)).filterMap (·.1) = ps := by rfl)
    (hdb : (x == ("__debug__" : Str)) = false := by decide) (hpl : ((backTo pos (starEach [] X.env)).any (·.1) || (backToKw pos (keywordEach kws X.env)).any (·.1.isNone)) = false := by rfl)
    (ht : eval (.Call (.Attribute (.Name x np) m apos) [] kws pos) X.env = (do let ov ← eval (.Name x np) X.env; standAt apos.atName; let (f, first) ← holding [ov] (getMethod ov m pl); callWith pos f first (backTo pos (starEach [] X.env)) (backToKw pos (keywordEach kws X.env))) := by rfl) :
    PE X (.Call (.Attribute (.Name x np) m apos) [] kws pos) (TD X.mg (eCallV F fs)) := by
  obtain ⟨C, mc, p, g, fd, hm, r, c, hk, _, hb, G1⟩ := G.ex
  refine PE.of (StM.pe_smethK hg hm r c G1 (hr.mono hj) hk hb (E := E0) pass0 hkw hall hks hdb hpl ht) fun σ H Q h => ?_
  have := red_callV (E := E0) σ H Q G.hn h
  unfold tCall at this
  simp only [List.append_nil] at this
  exact this
end
section
variable {P : Program} {w : World} {K : PySem.W.Frag}
    {mg : Str → Option Value} {base : Heap}
theorem byN_rel {vs : List V} {us : List Value} {zs : List V} {ws : List Value} (r : Vals vs us) (q : Vals zs ws) : Vals (byN vs zs) (byN us ws) := by
  cases r with
  | nil => exact q
  | cons _ _ => exact .nil
theorem kbinds_of {fd : FuncData} {ps : List Str} (hne : ps ≠ []) (h : ∀ ws : List Value, ws.length = ps.length → bindArgs fd ⟨[], ps.zip ws⟩ = pure (ps.zip ws)) : KBinds K fd ps ps byN byN where
  to := fun s us ws hs hl => by
    cases us with
    | nil => exact .of_eq (h ws hl)
    | cons u us => exact absurd (List.length_eq_zero_iff.mp hl.symm) hne
  rel := byN_rel
theorem smk_ok {x m qual : Str} {params : Arguments} {body : List Stmt} {scope : Scope} {C p g : Addr} {mc : Value} {fd : FuncData} {N ps : List Str} {k : Nat} {fb : EM O} (hm : mg x = some (.ref C)) (r : ClX.CRead K C mc) (c : StM.SMet K C mc m p g) (F : FunD K m qual params body scope [] [] g fd) (S : FnScope N ps scope) (hne : ps ≠ [])
    (bd : ∀ (kV doc pm : Value) (an : Option Addr) (cdv ct : Value) (us : List Value), us.length = ps.length → bindArgs (PySem.W.fnOf m qual params body scope .none kV doc pm an cdv ct) ⟨us, []⟩ = pure (ps.zip us))
    (bk : ∀ (kV doc pm : Value) (an : Option Addr) (cdv ct : Value) (ws : List Value), ws.length = ps.length → bindArgs (PySem.W.fnOf m qual params body scope .none kV doc pm an cdv ct) ⟨[], ps.zip ws⟩ = pure (ps.zip ws))
    (hb : ∀ (cdv : Value) (A : Around) (outer : List PySem.Env) (s : Shared) (H : Hp) (E : XK), Room k (A.deeper (envOfC qual scope s.heap.objs.size g cdv)) → PSs (cxOf CX0 P w K mg base N qual scope g cdv A outer s H E).nox body (TDS mg fb)) :
    Smk P w K mg base x m ps (k + 1) ps.length (runF N.length ps.length fb) := by
  refine ⟨⟨C, mc, p, g, fd, hm, r, c, F.kp, F.bindsN bd, ?_, fn_ok F S fun cdv A outer s H E hr => PSs.nox (hb cdv A outer s H E hr)⟩, fun env h => runF_len env h⟩
  obtain ⟨oc, od, dV, kV, doc, pm, an, cdv, ct, osl, rfl, lk, hcd, hd, hk⟩ := F.ex
  rcases hd with ⟨_, rfl⟩ | ⟨e, _⟩
  · exact kbinds_of hne (bk kV doc pm an cdv ct)
  · exact absurd rfl e
end
end DL
/-! name = [..], on one row. -/
namespace DL
open PySem PySem.Spec L2
open PyProof.Rows hiding St
section
variable {X : Cx} {elt tg iter : Expr} {ifs : List Expr} {scope : Scope} {own : List (Str × Nat)} {pos spos : Pos} {it : EM (List Dat)} {gs : List Nat} {g : Dat → EM Unit} {t : EM Bool} {f : EM R}
theorem ds_setLc {i : Nat} {y : Str} {py : Pos} (hy : X.N[i]? = some y) (hyl : X.env.scope.names.lookup y = some .local)
    (hsw : swapsWith (.ListComp elt [⟨tg, iter, ifs, 0⟩] scope pos) (some (.Name y py)) spos.line X.env = pure true) (hc : X.calm = true) (hN : X.N.Nodup) (hi : PI X tg iter (TDI X.mg it)) (ok : BlkOk X.N X.env.scope scope own) (hv : ∀ j, j ∈ gs → j ∈ own.map (·.2))
    (hg : ∀ (s : Shared) (H : Hp) (C : Addr) (cl : List (Str × Addr)) (fp : List Addr), PG (X.blk s H scope (compEnvC scope cl C X.env) fp) tg (TDG X.mg gs g)) (ht : ∀ (s : Shared) (H : Hp) (C : Addr) (cl : List (Str × Addr)) (fp : List Addr), PTs (X.blk s H scope (compEnvC scope cl C X.env) fp) ifs (TDT X.mg t))
    (he : ∀ (s : Shared) (H : Hp) (C : Addr) (cl : List (Str × Addr)) (fp : List Addr), PE (X.blk s H scope (compEnvC scope cl C X.env) fp) elt (TD X.mg f)) (hs : ∀ x, foldedSetIterable iter X.env x = pure x := by intro _; rfl) :
    PS X (.Assign [.Name y py] (.ListComp elt [⟨tg, iter, ifs, 0⟩] scope pos) spos) (TDS X.mg (sSet i (eLc it g t f (own.map (·.2))))) := by
  refine PS.of (ps_setLc hc hN hy hyl hsw hi ok hg ht he hs) ?_
  rintro D σ H ⟨q, env, o, env', R, ev, k⟩
  obtain ⟨r1, e1, h1, ev1⟩ := eBind_some ev
  obtain ⟨⟨⟩, e2, h2, ev2⟩ := eBind_some ev1
  obtain ⟨rfl, rfl⟩ := eRet_some ev2
  refine red_lc _ hv σ H _ ⟨q, env, r1, e1, R, h1, fun v H1 R1 S1 i1 => ?_⟩
  obtain ⟨R2, S2⟩ := eSet_ok R1 i1 h2
  exact k _ H1 R2 (S2 env S1)
end
end DL
/-! Instances of a class of the module, as data: attributes read and stored; a new instance. -/
namespace DL
open PySem PySem.Spec L2
open PyProof.Rows hiding St
/-- the class c stands at C; its instances have these attributes of their own -/
structure ObC (K : PySem.W.Frag) (mg : Str → Option Value) (c : Str) (C : Addr) (own : List Str) : Prop where
  m : mg c = some (.ref C)
  cls : Cls K C
  no : ∀ f, f ∈ own → NoAttr K C f
/-- the attribute of this name -/
def fldD (f : Str) : List Str → List Dat → Option Dat
  | n :: ns, d :: ds => if n = f then some d else fldD f ns ds
  | _, _ => none
def putN (f : Str) : List Str → List Str
  | [] => [f]
  | n :: ns => if n = f then n :: ns else n :: putN f ns
def putD (f : Str) (x : Dat) : List Str → List Dat → List Dat
  | n :: ns, d :: ds => if n = f then x :: ds else d :: putD f x ns ds
  | _, _ => [x]
section
variable {mg : Str → Option Value} {p : Addr → Prop} {H : Hp}
theorem fldD_get {f : Str} {d : Dat} : ∀ {fs : List (Str × V)} {ds : List Dat}, IsDs mg p H ds (fs.map (·.2)) → fldD f (fs.map (·.1)) ds = some d → ∃ v, fs.lookup f = some v ∧ IsD mg p H d v
  | [], _, _, e => by cases e
  | (g, x) :: fs, _, h, e => by
    cases h with
    | cons h t =>
      have e' : (if g = f then some _ else fldD f (fs.map (·.1)) _) = some d := e
      by_cases hg : g = f
      · rw [if_pos hg] at e'
        cases e'
        subst hg
        exact ⟨x, by simp [List.lookup], h⟩
      · rw [if_neg hg] at e'
        obtain ⟨v, e1, e2⟩ := fldD_get t e'
        refine ⟨v, ?_, e2⟩
        have hb : (f == g) = false := beq_eq_false_iff_ne.mpr fun z => hg z.symm
        rw [List.lookup, hb]
        exact e1
theorem putN_ok (f : Str) (v : V) : ∀ fs : List (Str × V), (putF f v fs).map (·.1) = putN f (fs.map (·.1))
  | [] => rfl
  | (g, x) :: fs => by
    show (if g = f then (g, v) :: fs else (g, x) :: putF f v fs).map (·.1) = if g = f then g :: fs.map (·.1) else g :: putN f (fs.map (·.1))
    split
    · rfl
    · rw [List.map_cons, putN_ok f v fs]
theorem putD_ok {f : Str} {x : Dat} {v : V} (hx : IsD mg p H x v) : ∀ {fs : List (Str × V)} {ds : List Dat}, IsDs mg p H ds (fs.map (·.2)) → IsDs mg p H (putD f x (fs.map (·.1)) ds) ((putF f v fs).map (·.2))
  | [], _, h => by
    cases h
    exact .one hx
  | (g, y) :: fs, _, h => by
    cases h with
    | cons h t =>
      show IsDs mg p H (if g = f then x :: _ else _ :: putD f x (fs.map (·.1)) _) ((if g = f then (g, v) :: fs else (g, y) :: putF f v fs).map (·.2))
      split
      · exact .cons hx t
      · exact .cons h (putD_ok hx t)
end
/-- o.f -/
def eFld (c f : Str) (fo : EM R) : EM R := eBind fo fun r => eBind (eLook r) fun d => eOpt (match d with
  | .obj c' ns ds => if c' = c then (fldD f ns ds).map R.val else none
  | _ => none)
/-- o.f = e, o what a slot holds -/
def fldAt (c f : Str) (j : Nat) (d : Dat) : EM O := fun env => match env[j]? with
  | some (some s) => if s.wr = true then (match s.dat with
    | .obj c' ns ds => if c' = c ∧ ns.length < 1000 then some (.nx, env.set j (some (s.put (.obj c (putN f ns) (putD f d ns ds))))) else none
    | _ => none) else none
  | _ => none
def sFldD (c f : Str) (j : Nat) (fe : EM R) : EM O := eBind fe fun r => eBind (eForce r) fun d => eBind (eVar j) fun _ => fldAt c f j d
section
variable {X : Cx} {o e : Expr} {c f : Str} {C : Addr} {own : List Str} {fo fe : EM R} {pos apos : Pos}
theorem d_fld (B : ObC X.K X.mg c C own) (hf : f ∈ own) (ho : PE X o (TD X.mg fo)) (hb : attributeBase o f X.env (eval o X.env) = eval o X.env := by rfl) : PE X (.Attribute o f pos) (TD X.mg (eFld c f fo)) := by
  refine PE.of (pe_fld ho hb) ?_
  rintro σ H Q ⟨q, env, r, env', R, ev, k⟩
  obtain ⟨r1, e1, h1, ev1⟩ := eBind_some ev
  obtain ⟨d, e2, h2, ev2⟩ := eBind_some ev1
  obtain ⟨h2', rfl⟩ := eLook_some h2
  obtain ⟨h3, rfl⟩ := eOpt_some ev2
  refine ⟨q, env, r1, env', R, h1, fun v H1 R1 S1 i1 => ?_⟩
  cases d with
  | obj c' ns ds =>
    have h4 : (if c' = c then (fldD f ns ds).map DL.R.val else none) = some r := h3
    split at h4
    · rename_i hc
      subst hc
      obtain ⟨a, D, dx, fs, rfl, m, ea, en, it⟩ := (i1.look R1 h2').objE
      rw [B.m] at m
      cases m
      subst en
      cases hq : fldD f (fs.map (·.1)) ds with
      | none => rw [hq] at h4; cases h4
      | some x =>
        rw [hq] at h4
        cases h4
        obtain ⟨u, l, hu⟩ := fldD_get it hq
        exact ⟨a, C, dx, fs, u, rfl, ea, B.cls, B.no f hf, l, k u H1 R1 S1 hu⟩
    · cases h4
  | _ => cases h3
theorem ds_fld {j : Nat} {x : Str} {px : Pos} (B : ObC X.K X.mg c C own) (hf : f ∈ own) (hN : X.N[j]? = some x := by rfl) (he : PE X e (TD X.mg fe)) (hv : Vis X.env.scope x := by first | exact Or.inl rfl | exact Or.inr (Or.inl rfl) | exact Or.inr (Or.inr rfl)) (hd : (x == ("__debug__" : Str)) = false := by decide) (hcd : (x == ("__classdict__" : Str)) = false := by decide)
    (hs : swapsWith e (some (.Attribute (.Name x px) f apos)) pos.line X.env = pure false := by rfl) : PS X (.Assign [.Attribute (.Name x px) f apos] e pos) (TDS X.mg (sFldD c f j fe)) := by
  refine PS.of (ps_fld (pe_var hN hv hd hcd) he hs) ?_
  rintro D σ H ⟨q, env, o, env', R, ev, k⟩
  obtain ⟨r1, e1, h1, ev1⟩ := eBind_some ev
  obtain ⟨d, e2, h2, ev2⟩ := eBind_some ev1
  obtain ⟨r0, e0, h0, ev3⟩ := eBind_some ev2
  unfold eVar at h0
  split at h0
  · rename_i s0 hs0
    cases h0
    refine ⟨q, env, r1, e1, R, h1, fun v H1 R1 S1 i1 => ?_⟩
    obtain ⟨R2, S2, d2⟩ := i1.force R1 h2
    obtain ⟨v0, hv0⟩ := R2.slot hs0
    refine ⟨v0, hv0, ?_⟩
    unfold fldAt at ev3
    split at ev3
    · rename_i s hs
      split at ev3
      · rename_i hwr
        split at ev3
        · rename_i c' ns ds hds
          split at ev3
          · rename_i hc
            cases ev3
            obtain ⟨rfl, hl⟩ := hc
            obtain ⟨a, ha, nq, t⟩ := R2.wr j s hs hwr
            rw [ha] at hv0
            cases hv0
            rw [hds] at t
            obtain ⟨E, dx, fs, m, ea, en, it⟩ := t
            rw [B.m] at m
            cases m
            subst en
            have pa : Prot q e2 σ a := .inr ⟨j, s, hs, hwr, ha⟩
            obtain ⟨R4, S4⟩ := R2.change (o := .ins C dx (putF f v fs)) (d := .obj c' (putN f (fs.map (·.1))) (putD f d (fs.map (·.1)) ds)) hs hwr ha
              ⟨C, dx, putF f v fs, B.m, upd_same, putN_ok f v fs, (putD_ok d2 it).mono (fun _ z => z) fun b u e nb => by
                rw [upd_ne fun z => nb (by rw [z]; exact pa)]
                exact e⟩
            exact ⟨a, C, dx, fs, rfl, ea, B.cls, B.no f hf, by simpa using hl, k σ _ R4 ((S1.trans S2).trans S4).to⟩
          · cases ev3
        · cases ev3
      · cases ev3
    · cases ev3
  · cases h0
end
end DL
/-! A new instance: c(..), its __init__ read as a function of data whose first argument is the new object. -/
namespace DL
open PySem PySem.Spec L2
open PyProof.Rows hiding St
def eMake (c : Str) (F : EM R) (fs : EM (List R)) : EM R := eBind fs fun rs => eBind (eForces rs) fun ds => fun env => match F (some (.mtb (.obj c [] [])) :: ds.map fun d => some (.val d)) with
  | some (.val .non, some (.mtb o) :: _) => some (.new o, env)
  | _ => none
section
variable {X : Cx} {c : Str} {C : Addr} {own : List Str} {n : Nat} {F : EM R} {fs : EM (List R)} {E : XK}
theorem red_make (B : ObC X.K X.mg c C own) (σ : L2.St) (H : Hp) (Q : VK) (hn : ∀ env, F env ≠ none → env.length = n) (h : TD X.mg (eMake c F fs) σ H Q) : tMake C (spF X.mg n F) [] E (TDA X.mg fs) σ H Q := by
  obtain ⟨q, env, r, env', R, ev, kk⟩ := h
  obtain ⟨rs, e1, h1, ev1⟩ := eBind_some ev
  refine ⟨q, env, rs, e1, R, h1, fun vs H1 R1 S1 i1 x dx nx ndx nex => ?_⟩
  show spF X.mg n F (.ref x :: (vs ++ [])) _ _ E
  rw [List.append_nil]
  obtain ⟨ds, e2, h2, ev2⟩ := eBind_some ev1
  obtain ⟨R2, S2, i2⟩ := IsRs.forces R1 i1 h2
  have hlen := i2.length
  have px : ¬ Prot q e2 σ x := R2.prot_new nx
  have up : ∀ b u, H1 b = some u → upd (upd H1 dx (.own x)) x (.ins C dx []) b = some u := fun b u e => by
    rw [upd_ne (ne_of_none e nx),
        upd_ne (ne_of_none e ndx)]
    exact e
  have one : ∀ {b : Addr}, MutAt (some (.mtb (.obj c [] [])) :: ds.map fun d => some (.val d)) ((V.ref x :: vs).map some) b → b = x := fun {b} ⟨i, s', f1, f2, f3⟩ => by
    cases i with
    | zero => simp at f3; exact f3.symm
    | succ i => exact absurd ⟨i, s', by rw [List.getElem?_cons_succ] at f1; exact f1, f2, by simpa using f3⟩ (no_mut (ds := ds) (vs := vs) b)
  have pp : ∀ b, Prot (Prot q e2 σ) (some (.mtb (.obj c [] [])) :: ds.map fun d => some (.val d)) ((V.ref x :: vs).map some) b → Prot q e2 σ b ∨ b = x := fun b z => z.elim .inl fun m => .inr (one m)
  have RP : Rel X.mg (Prot q e2 σ) (some (.mtb (.obj c [] [])) :: ds.map fun d => some (.val d)) ((V.ref x :: vs).map some) (upd (upd H1 dx (.own x)) x (.ins C dx [])) := by
    refine ⟨by simp [hlen], fun i d f => ?_, fun i s' f w => ?_, fun i i' s1 s2 b f1 w1 f2 w2 g1 g2 => ?_, fun b z => ?_⟩
    · cases i with
      | zero => simp at f
      | succ i =>
        obtain ⟨d', v, g1, g2, g3⟩ := vals_env i2 i _ (by rw [List.getElem?_cons_succ] at f; exact f)
        cases g1
        exact ⟨v, by simpa using g2, g3.all.mono (fun b z => (pp b z).elim .inl fun e => .inr (by rw [e]; exact nx)) fun b u e _ => up b u e⟩
    · cases i with
      | zero =>
        simp at f
        subst f
        exact ⟨x, by simp, px, C, dx, [], B.m, upd_same, rfl, .nil⟩
      | succ i =>
        obtain ⟨d', v, g1, _⟩ := vals_env i2 i _ (by rw [List.getElem?_cons_succ] at f; exact f)
        subst g1
        cases w
    · cases i with
      | succ i =>
        obtain ⟨d', v, g1, _⟩ := vals_env i2 i _ (by rw [List.getElem?_cons_succ] at f1; exact f1)
        subst g1
        cases w1
      | zero =>
        cases i' with
        | zero => rfl
        | succ i' =>
          obtain ⟨d', v, g1, _⟩ := vals_env i2 i' _ (by rw [List.getElem?_cons_succ] at f2; exact f2)
          subst g1
          cases w2
    · cases e : H1 b with
      | none => exact absurd e (R2.prot_in z)
      | some u => rw [up b u e]; simp
  split at ev2
  · rename_i o rest hf
    cases ev2
    have hl : (V.ref x :: vs).length = n := by
      have := hn _ (by rw [hf]; simp)
      simpa [hlen] using this
    refine ⟨hl, _, _, _, _, RP, hf, fun v H' R3 S3 i3 => ?_⟩
    cases i3
    obtain ⟨a', g1, g2, g3⟩ := R3.wr 0 (.mtb o) rfl rfl
    simp at g1
    subst g1
    have kp : ∀ b u, H1 b = some u → H' b = some u := fun b u e => S3.keep b u (up b u e) fun m => ne_of_none e nx (one m)
    have ne : H' x ≠ none := S3.dom x (by rw [upd_same]; simp)
    refine ⟨rfl, kk _ H' (R2.ext kp) ((S1.trans S2).trans (.ext kp)) ⟨x, rfl, ?_, fun z => px (.inl z), g3.mono (fun b z => ?_) (fun _ _ e _ => e) (fun _ e => e), R2.guard nx kp ne⟩⟩
    · cases e : H x with
      | none => rfl
      | some u => exact absurd nx (S1.dom x (by rw [e]; simp))
    · rcases z with z | z
      · exact .inl z
      · rw [z]
        exact .inr ⟨0, _, rfl, rfl, by simp⟩
  · cases ev2
end
/-- a def that may change its first argument, a class's __init__ -/
structure Ink (P : Program) (w : World) (K : PySem.W.Frag) (mg : Str → Option Value) (base : Heap) (c : Str) (ps : List Str) (k n : Nat) (F : EM R) (own : List Str) : Prop where
  ex : ∃ C f fd, ObC K mg c C own ∧ Mk K C f ∧ Binds K fd ("self" :: ps) [] ∧ FnOk P w K mg base CX0 k f fd ("self" :: ps) (spF mg n F)
  hn : ∀ env, F env ≠ none → env.length = n
section
variable {X : Cx} {c : Str} {own ps : List Str} {j k n : Nat} {F : EM R} {fs : EM (List R)} {e : Expr} {es : List Expr} {p pos : Pos}
theorem dmake (G : Ink X.prog X.w X.K X.mg X.base c ps k n F own) (hr : Room j X.A) (ha : PA X (e :: es) (TDA X.mg fs)) (hj : k + 1 ≤ j := by omega) (hg : Gl X c := by rfl) (hdb : (c == ("__debug__" : Str)) = false := by decide) (hs : notStar e = true := by rfl) (hpl : (backTo pos (starEach es X.env)).any (·.1) = false := by rfl) :
    PE X (.Call (.Name c p) (e :: es) [] pos) (TD X.mg (eMake c F fs)) := by
  obtain ⟨C, f, fd, B, M, hb, G1⟩ := G.ex
  exact PE.of (pe_make M G1 (hr.mono hj) hg B.m hb .nil (E := E0) pass0 ha hdb (star_no hs) hpl) fun σ H Q h => red_make B σ H Q G.hn h
end
end DL
/-! Methods of instances over data: by name, as a property, len, in, o[k]. -/
namespace DL
open PySem PySem.Spec L2
open PyProof.Rows hiding St
/-! ### the calls that the interpreter makes by itself -/
section
variable {M : Model} {A : Around} {E : Value → Shared → Prop} {s : Shared} {K : PySem.W.Frag} {x C f : Addr} {ox : Obj} {od : Option Obj} {v : Value}
theorem own_contains {Q : Bool → Shared → Prop} (X : K.In s.heap) (I : PySem.W.InstAt s.heap x ox C od) (hs : PySem.W.findIn K (.ref C) "__contains__" = some (some (.ref f))) (hf : PySem.W.isFn K (.ref f) = true)
    (h : wpAny M A (call (.ref f) [.ref x, v]) (fun r t => ∃ b, r = .bool b ∧ Q b t) E s) : wpAny M A (contains (.ref x) v) Q E s := by
  unfold contains
  refine wpAny_holding (wpAny_bind (wpAny_bind (I.type.here ((PySem.W.looks_findIn X hs).here ?_)))); rw [if_neg (by simp)]
  refine wpAny_bind (PySem.W.unlessNone_K X I hs hf (wpAny_mono h (fun r t z => ?_) fun _ _ z => z))
  obtain ⟨b, rfl, q⟩ := z
  exact wpAny_pure q
theorem own_len {prog : Program} {w : World} {Q : Value → Shared → Prop} (X : K.In s.heap) (I : PySem.W.InstAt s.heap x ox C od) (hs : PySem.W.findIn K (.ref C) "__len__" = some (some (.ref f))) (hf : PySem.W.isFn K (.ref f) = true)
    (h : wpAny (model prog w) A.in1 (call (.ref f) [.ref x]) (fun r t => ∃ (n : Nat) (u : Tok), r = .int n u ∧ n < 2 ^ 62 ∧ Q (.int n t.toks) { t with toks := t.toks + 1 }) E s) : wpAny (model prog w) A (call (.builtin "len") [.ref x]) Q E s := by
  refine Calls.call_function_entry kind_len plain_len entry_len (args_len1 _) ?_; unfold Builtin.«len»; refine wpAny_bind (m := oneArg "len" _) (wpAny_pure ?_)
  refine wpAny_bind (m := callSpecial? (.ref x) (Str.ofString "__len__")) (PySem.W.special_fn X I hs (beq_iff_eq.mp hf) (wpAny_mono h (fun r t z => ?_) fun _ _ y => y))
  obtain ⟨n, u, rfl, hn, q⟩ := z
  refine wpAny_bind (wpAny_holding (wpAny_pure ?_)); refine wpAny_bind (wpAny_letGo ?_)
  show wpAny _ _ (if (n : Int) < 0 then _ else _) _ _ _; rw [if_neg (by omega)]
  show wpAny _ _ (if (n : Int) ≥ 2 ^ 63 then _ else _) _ _ _; rw [if_neg (by omega)]
  exact wpAny_bind (wpAny_mkInt (wpAny_pure ⟨_, rfl, q⟩))
theorem own_sub {prog : Program} {w : World} {value slice : Expr} {i : Value} {Q : Value → Shared → Prop} (X : K.In s.heap) (I : PySem.W.InstAt s.heap x ox C od) (hs : PySem.W.findIn K (.ref C) "__getitem__" = some (some (.ref f))) (hf : PySem.W.fnIn K f = true) (hfn : PySem.W.isFn K (.ref f) = true)
    (hsl : subscripted slice true (.ref x) i = runValue (.builtin "lifetime.subscript" ⟨[.ref x, i], []⟩)) (h : wpAny (model prog w) A.in1 (call (.ref f) [.ref x, i]) Q E s) : wpAny (model prog w) A (subscriptTail value slice (.ref x) i) Q E s := by
  unfold PySem.W.fnIn at hf; split at hf
  · rename_i e
    unfold subscriptTail
        getitemInPython
    refine wpAny_bind (wpAny_bind (wpAny_bind (I.type.here ((PySem.W.looks_findIn X hs).here ?_)))); dsimp only
    refine wpAny_bind (wpAny_load (X _ _ e) (wpAny_pure ?_)); dsimp only; rw [hsl]
    refine wpAny_bind (wpAny_runValue (codeAny_builtin PySem.W.entry_sub ?_)); unfold Builtin.«lifetime.subscript»
    refine wpAny_bind (PySem.W.special_fn X I hs (beq_iff_eq.mp hfn) (wpAny_mono h (fun v t z => ?_) fun _ _ z => z)); refine wpAny_pure ?_
    show wpAny (model prog w) A (letTemporaryGo value (.ref x) v >>= fun _ => pure v) Q E t
    exact wpAny_bind
        (wpAny_letTemporaryGo (wpAny_pure z))
  · cases hf
end
/-! ### the def behind them, by its promise -/
section
variable {X : Cx} {CX : CXT} {k : Nat} {C f a dx : Addr} {fs : List (Str × V)} {fd : FuncData} {ps : List Str} {sp : Sp} {E : XK} {pins : List (Addr × Obj)} {σ : L2.St} {H : Hp} {s : Shared}
theorem run_in1 {E' : Value → Shared → Prop} {us : List Value} {vs : List V} {Q : VK} (F : FnOk X.prog X.w X.K X.mg X.base CX k f fd ps sp) (hr : Room (k + 1) X.A) (hb : Binds X.K fd ps []) (hx : Passes CX X.nox E) (I : Inv X pins σ H s) (r : Vals vs us) (h : sp vs H Q E) :
    wpAny (model X.prog X.w) X.A.in1 (call (.ref f) us) (EP X pins σ Q) E' s := by
  have hl : (us ++ []).length = ps.length := by
    rw [List.append_nil, ← F.len _ _ _ _ h, r.length]
  refine wpAny_call (codeAny_mono (F.run X.A.in1 X.stack s H ⟨us, []⟩ (us ++ []) vs Q E hr.in1 I.env0.in1 (hb _ us I.kIn hl) (by rw [List.append_nil]; exact r) h) fun r s' hq => ?_)
  cases r with
  | error er => exact False.elim (hx pins σ H s er s' (I.wish _) hq)
  | ok fl =>
    cases fl with
    | ret u => exact I.after hq
    | _ => exact False.elim hq
def rInO (C : Addr) (sp : Sp) (E : XK) : R2 := fun x y H Q => ∃ a dx fs, y = .ref a ∧ H a = some (.ins C dx fs) ∧ sp [.ref a, x] H (fun v H' => ∃ b, v = .bl b ∧ Q (.bl b) H') E
def rNotInO (C : Addr) (sp : Sp) (E : XK) : R2 := fun x y H Q => ∃ a dx fs, y = .ref a ∧ H a = some (.ins C dx fs) ∧ sp [.ref a, x] H (fun v H' => ∃ b, v = .bl b ∧ Q (.bl (!b)) H') E
def rLenO (C : Addr) (sp : Sp) (E : XK) : List V → Hp → VK → Prop := fun xs H Q => ∃ a dx fs, xs = [.ref a] ∧ H a = some (.ins C dx fs) ∧ sp [.ref a] H (fun v H' => ∃ n : Nat, v = .int n ∧ n < 2 ^ 62 ∧ Q (.int n) H') E
def rIxO (C : Addr) (sp : Sp) (E : XK) : R2 := fun x y H Q => ∃ a dx fs, x = .ref a ∧ H a = some (.ins C dx fs) ∧ sp [.ref a, y] H Q E
theorem op_inO (m : Meth X.K C "__contains__" f) (F : FnOk X.prog X.w X.K X.mg X.base CX k f fd ps sp) (hr : Room k X.A) (hb : Binds X.K fd ps []) (hx : Passes CX X E) : OpR X (compareOp .In) (rInO C sp E) := by
  rintro pins s σ H x y u v Q I rx ry ⟨a, dx, fs, rfl, ea, h⟩
  cases ry
  obtain ⟨mA, O, _⟩ :=
      ins_get I.hok ea
  obtain ⟨od, J, _⟩ := O.look
  refine wpAny_bind (own_contains I.kIn J m.at_ m.fn (wpAny_mono (run_fn (dvs := []) (vs := [.ref a, x]) F hr hb .nil hx I (.cons rfl (.cons rx .nil)) h) (fun r t z => ?_) fun _ _ z => z))
  obtain ⟨v, H', I', rv, b, rfl, q⟩ := z
  cases rv
  exact ⟨b, rfl, wpAny_pure ⟨.bl b, H', I', rfl, q⟩⟩
theorem op_notInO (m : Meth X.K C "__contains__" f) (F : FnOk X.prog X.w X.K X.mg X.base CX k f fd ps sp) (hr : Room k X.A) (hb : Binds X.K fd ps []) (hx : Passes CX X E) : OpR X (compareOp .NotIn) (rNotInO C sp E) := by
  rintro pins s σ H x y u v Q I rx ry ⟨a, dx, fs, rfl, ea, h⟩
  cases ry
  obtain ⟨mA, O, _⟩ :=
      ins_get I.hok ea
  obtain ⟨od, J, _⟩ := O.look
  refine wpAny_bind (own_contains I.kIn J m.at_ m.fn (wpAny_mono (run_fn (dvs := []) (vs := [.ref a, x]) F hr hb .nil hx I (.cons rfl (.cons rx .nil)) h) (fun r t z => ?_) fun _ _ z => z))
  obtain ⟨v, H', I', rv, b, rfl, q⟩ := z
  cases rv
  exact ⟨b, rfl, wpAny_pure ⟨.bl (!b), H', I', rfl, q⟩⟩
theorem cr_lenO (m : Meth X.K C "__len__" f) (F : FnOk X.prog X.w X.K X.mg X.base CX k f fd ps sp) (hr : Room (k + 1) X.A) (hb : Binds X.K fd ps []) (hx : Passes CX X.nox E) : CallR X (.builtin "len") (rLenO C sp E) := by
  rintro pins s σ H xs us Q I r ⟨a, dx, fs, rfl, ea, h⟩
  obtain rfl := Vals.ref1 r
  obtain ⟨mA, O, _⟩ :=
      ins_get I.hok ea
  obtain ⟨od, J, _⟩ := O.look
  refine own_len I.kIn J m.at_ m.fn (wpAny_mono (run_in1 (E' := X.xe) F hr hb hx I r h) (fun u t z => ?_) fun _ _ z => z)
  obtain ⟨v, H', I', rv, n, rfl, hn, q⟩ := z
  obtain ⟨k, rfl⟩ := rv
  exact ⟨n, k, rfl, hn, .int n, H', I'.tok _, ⟨_, rfl⟩, q⟩
variable {o e : Expr} {to te : TE} {pos : Pos}
theorem pe_ixO (m : Meth X.K C "__getitem__" f) (hfn : PySem.W.fnIn X.K f = true) (F : FnOk X.prog X.w X.K X.mg X.base CX k f fd ps sp) (hr : Room (k + 1) X.A) (hb : Binds X.K fd ps []) (hx : Passes CX X.nox E) (ho : PE X o to) (he : PE X e te)
    (hsl : ∀ (x : Addr) (i : Value), subscripted e true (.ref x) i = runValue (.builtin "lifetime.subscript" ⟨[.ref x, i], []⟩)) : PE X (.Subscript o e pos) (tOp (rIxO C sp E) to te) := by
  refine ⟨fun pins s σ H Q I h =>
      ?_⟩
  refine Subscript_ (binT ho he I h fun v u s2 x y H2 I2 rx ry q => ?_)
  obtain ⟨a, dx, fs, rfl, ea, h⟩ := q
  cases rx
  obtain ⟨mA, O, _⟩ := ins_get I2.hok ea
  obtain ⟨od, J, _⟩ := O.look
  exact own_sub I2.kIn J m.at_ hfn m.fn (hsl a u) (run_in1 (vs := [.ref a, y]) F hr hb hx I2 (.cons rfl (.cons ry .nil)) h)
end
end DL
/-! Methods of instances over data, in short rules. -/
namespace DL
open PySem PySem.Spec L2
open PyProof.Rows hiding St
/-- a slot's object that may be changed -/
def mutR (env : Env) : R → Bool
  | .bor j => match env[j]? with
    | some (some s) => s.wr
    | _ => false
  | _ => false
/-- an instance of the class c, without an own attribute of that name -/
def isOb (c no : Str) : Dat → Bool
  | .obj c' ns _ => decide (c' = c) && !ns.any (fun n => decide (n = no))
  | _ => false
/-- a def called with an object first: the slot's own one, or one that nothing changes -/
def eCallO (F : EM R) (ro : R) (rs : List R) : EM R := fun env => if mutR env ro = true then eCallM F (eRet (ro :: rs)) env else eCallV F (eRet (ro.weak :: rs)) env
section
variable {X : Cx} {n : Nat} {F : EM R} {E : XK} {q : Addr → Prop} {env e1 env' : Env} {σ : L2.St} {H H1 : Hp} {Q : VK} {ro r : DL.R} {rs : List DL.R} {x : V} {vs : List V}
theorem at_callO (hn : ∀ env, F env ≠ none → env.length = n) (R1 : Rel X.mg q e1 σ H1) (S1 : StepE env σ H e1 H1) (io : IsR X.mg q e1 σ H H1 ro x) (i1 : IsRs X.mg q e1 σ H H1 rs vs) (ev : eCallO F ro rs e1 = some (r, env'))
    (kk : ∀ v H', Rel X.mg q env' σ H' → StepE env σ H env' H' → IsR X.mg q env' σ H H' r v → Q v H') : spF X.mg n F (x :: vs) H1 Q E := by
  unfold eCallO at ev
  split at ev
  · exact at_callM hn R1 S1 (.cons io i1) ev kk
  · exact at_callV hn R1 S1 (.cons io.toWeak i1) ev kk
theorem isOb_some {c no : Str} {d : Dat} (h : isOb c no d = true) : ∃ ns ds, d = .obj c ns ds ∧ ns.any (fun n => decide (n = no)) = false := by
  cases d with
  | obj c' ns ds =>
    have h' : (decide (c' = c) && !ns.any (fun n => decide (n = no))) = true := h
    obtain ⟨h1, h2⟩ :=
        Bool.and_eq_true_iff.mp h'
    refine ⟨ns, ds, by rw [of_decide_eq_true h1], ?_⟩
    cases e : ns.any (fun n => decide (n = no)) with
    | false => rfl
    | true => rw [e] at h2; cases h2
  | _ => cases h
theorem lookup_no {f : Str} : ∀ {fs : List (Str × V)}, (fs.map (·.1)).any (fun n => decide (n = f)) = false → fs.lookup f = none
  | [], _ => rfl
  | (g, v) :: fs, h => by
    rw [List.map_cons, List.any_cons] at h
    obtain ⟨h1, h2⟩ := Bool.or_eq_false_iff.mp h
    have hb : (f == g) = false := beq_eq_false_iff_ne.mpr fun z => of_decide_eq_false h1 z.symm
    rw [List.lookup, hb]
    exact lookup_no h2
end
/-- o.m(..) -/
def eMeth (c m : Str) (F : EM R) (fo : EM R) (fs : EM (List R)) : EM R := eBind fo fun r => eBind (eLook r) fun d => if isOb c m d = true then eBind fs fun rs => eCallO F r.weak rs else fun _ => none
/-- o.f, a property -/
def eProp (c : Str) (F : EM R) (fo : EM R) : EM R := eBind fo fun r => eBind (eLook r) fun d => if isOb c Str.empty d = true then eCallO F r.weak [] else fun _ => none
def intOut : R → Option R
  | .val (.int i) => if 0 ≤ i ∧ i < 2 ^ 62 then some (.val (.int i)) else none
  | _ => none
def blOut (neg : Bool) : R → Option R
  | .val (.bl b) => some (.val (.bl (b != neg)))
  | _ => none
/-- len(o) -/
def eLenO (c : Str) (F : EM R) (fo : EM R) : EM R := eBind fo fun r => eBind (eLook r) fun d => if isOb c Str.empty d = true then eBind (eCallO F r.weak []) fun r => eOpt (intOut r) else fun _ => none
/-- a in o, a not in o -/
def eInO (neg : Bool) (c : Str) (F : EM R) (fa fo : EM R) : EM R := eBind fa fun ra => eBind fo fun r => eBind (eLook r) fun d => if isOb c Str.empty d = true then eBind (eCallO F r.weak [ra.weak]) fun r => eOpt (blOut neg r) else fun _ => none
/-- o[a] -/
def eIxO (c : Str) (F : EM R) (fo fa : EM R) : EM R := eBind fo fun r => eBind fa fun ra => eBind (eLook r.weak) fun d => if isOb c Str.empty d = true then eCallO F r.weak [ra.weak] else fun _ => none
/-- the class's method m is the def that answers F -/
structure Mtk (P : Program) (w : World) (K : PySem.W.Frag) (mg : Str → Option Value) (base : Heap) (c m : Str) (ps : List Str) (k n : Nat) (F : EM R) (own : List Str) : Prop where
  ex : ∃ C f fd, ObC K mg c C own ∧ Meth K C m f ∧ PySem.W.fnIn K f = true ∧ Binds K fd ps [] ∧ FnOk P w K mg base CX0 k f fd ps (spF mg n F)
  hn : ∀ env, F env ≠ none → env.length = n
/-- the class's property m is the def that answers F -/
structure Ppk (P : Program) (w : World) (K : PySem.W.Frag) (mg : Str → Option Value) (base : Heap) (c m : Str) (k : Nat) (F : EM R) (own : List Str) : Prop where
  ex : ∃ C p g fd, ObC K mg c C own ∧ PropOf K C m p g ∧ Binds K fd ["self"] [] ∧ FnOk P w K mg base CX0 k g fd ["self"] (spF mg 1 F)
  hn : ∀ env, F env ≠ none → env.length = 1
section
variable {X : Cx} {c m : Str} {own ps : List Str} {j k n : Nat} {F : EM R} {fo fa : EM R} {fs : EM (List R)} {o e a : Expr} {es : List Expr} {p pos apos : Pos} {pl : Sem Bool}
theorem red_meth {C : Addr} {E : XK} (B : ObC X.K X.mg c C own) (hn : ∀ env, F env ≠ none → env.length = n) (σ : L2.St) (H : Hp) (Q : VK) (h : TD X.mg (eMeth c m F fo fs) σ H Q) : tMeth C m (spF X.mg n F) [] E (TD X.mg fo) (TDA X.mg fs) σ H Q := by
  obtain ⟨q, env, r, env', R, ev, k⟩ := h
  obtain ⟨r0, e0, h0, ev'⟩ := eBind_some ev
  obtain ⟨d, e1, h1, ev''⟩ := eBind_some ev'
  obtain ⟨h1', rfl⟩ := eLook_some h1
  refine ⟨q, env, r0, _, R, h0, fun x H1 R1 S1 i1 => ?_⟩
  split at ev''
  · rename_i hob
    obtain ⟨ns, ds, rfl, hno⟩ := isOb_some hob
    obtain ⟨rs, e2, h2, ev'''⟩ := eBind_some ev''
    obtain ⟨a, D, dx, fs', rfl, mm, ea, en, it⟩ := (i1.look R1 h1').objE
    rw [B.m] at mm
    cases mm
    subst en
    refine ⟨a, dx, fs', rfl, ea, lookup_no hno, q, _, rs, e2, R1, h2, fun vs H2 R2 S2 i2 => ?_⟩
    show spF X.mg n F (.ref a :: (vs ++ [])) H2 Q E
    rw [List.append_nil]
    exact at_callO hn R2 (S1.trans S2) (i1.step S2) (i2.back S1.dom) ev''' k
  · cases ev''
theorem dmeth (G : Mtk X.prog X.w X.K X.mg X.base c m ps k n F own) (hr : Room j X.A) (ho : PE X o (TD X.mg fo)) (ha : PA X (e :: es) (TDA X.mg fs)) (hj : k ≤ j := by omega) (hs : notStar e = true := by rfl) (hpl : (backTo pos (starEach es X.env)).any (·.1) = false := by rfl)
    (ht : eval (.Call (.Attribute o m apos) (e :: es) [] pos) X.env = (do let ov ← eval o X.env; standAt apos.atName; let (f, first) ← holding [ov] (getMethod ov m pl); callWith pos f first (backTo pos (starEach (e :: es) X.env)) (backToKw pos (keywordEach [] X.env))) := by rfl) :
    PE X (.Call (.Attribute o m apos) (e :: es) [] pos) (TD X.mg (eMeth c m F fo fs)) := by
  obtain ⟨C, f, fd, B, M, _, hb, G1⟩ := G.ex
  exact PE.of (pe_meth (pl := pl) ho B.cls M G1 (hr.mono hj) hb .nil (E := E0) pass0 ha (star_no hs) hpl ht) fun σ H Q h => red_meth B G.hn σ H Q h
theorem dmeth0 (G : Mtk X.prog X.w X.K X.mg X.base c m ps k n F own) (hr : Room j X.A) (ho : PE X o (TD X.mg fo)) (hj : k ≤ j := by omega)
    (ht : eval (.Call (.Attribute o m apos) [] [] pos) X.env = (do let ov ← eval o X.env; standAt apos.atName; let (f, first) ← holding [ov] (getMethod ov m pl); callWith pos f first (backTo pos (starEach [] X.env)) (backToKw pos (keywordEach [] X.env))) := by rfl) :
    PE X (.Call (.Attribute o m apos) [] [] pos) (TD X.mg (eMeth c m F fo eNil)) := by
  obtain ⟨C, f, fd, B, M, _, hb, G1⟩ := G.ex
  refine PE.of (pe_meth0 (pl := pl) ho B.cls M G1 (hr.mono hj) hb .nil (E := E0) pass0 ht) fun σ H Q h => ?_
  obtain ⟨q, env, r, env', R, ev, k⟩ := h
  obtain ⟨r0, e0, h0, ev'⟩ := eBind_some ev
  obtain ⟨d, e1, h1, ev''⟩ := eBind_some ev'
  obtain ⟨h1', rfl⟩ := eLook_some h1
  refine ⟨q, env, r0, _, R, h0, fun x H1 R1 S1 i1 => ?_⟩
  split at ev''
  · rename_i hob
    obtain ⟨ns, ds, rfl, hno⟩ := isOb_some hob
    obtain ⟨rs, e2, h2, ev'''⟩ := eBind_some ev''
    cases h2
    obtain ⟨a, D, dx, fs', rfl, mm, ea, en, it⟩ := (i1.look R1 h1').objE
    rw [B.m] at mm
    cases mm
    subst en
    exact ⟨a, dx, fs', rfl, ea, lookup_no hno, at_callO (E := E0) G.hn R1 S1 i1.toWeak .nil ev''' k⟩
  · cases ev''
theorem dprop (G : Ppk X.prog X.w X.K X.mg X.base c m k F own) (hr : Room j X.A) (ho : PE X o (TD X.mg fo)) (hj : k + 1 ≤ j := by omega) (hab : attributeBase o m X.env (eval o X.env) = eval o X.env := by rfl) : PE X (.Attribute o m pos) (TD X.mg (eProp c F fo)) := by
  obtain ⟨C, p, g, fd, B, P, hb, G1⟩ := G.ex
  refine PE.of (pe_prop ho B.cls P G1 (hr.mono hj) hb .nil (E := E0) pass0 hab) fun σ H Q h => ?_
  obtain ⟨q, env, r, env', R, ev, k⟩ := h
  obtain ⟨r0, e0, h0, ev'⟩ := eBind_some ev
  obtain ⟨d, e1, h1, ev''⟩ := eBind_some ev'
  obtain ⟨h1', rfl⟩ := eLook_some h1
  refine ⟨q, env, r0, _, R, h0, fun x H1 R1 S1 i1 => ?_⟩
  split at ev''
  · rename_i hob
    obtain ⟨ns, ds, rfl, hno⟩ := isOb_some hob
    obtain ⟨a, D, dx, fs', rfl, mm, ea, en, it⟩ := (i1.look R1 h1').objE
    rw [B.m] at mm
    cases mm
    exact ⟨a, dx, fs', rfl, ea, at_callO (E := E0) G.hn R1 S1 i1.toWeak .nil ev'' k⟩
  · cases ev''
theorem dlenO (G : Mtk X.prog X.w X.K X.mg X.base c "__len__" ps k n F own) (hr : Room j X.A) (hm : X.mg "len" = none) (ho : PE X o (TD X.mg fo)) (hj : k + 1 ≤ j := by omega) (hg : Gl X "len" := by rfl) (hs : notStar o = true := by rfl) : PE X (.Call (.Name "len" p) [o] [] pos) (TD X.mg (eLenO c F fo)) := by
  obtain ⟨C, f, fd, B, M, _, hb, G1⟩ := G.ex
  refine PE.of (pe_callB (cr_lenO M G1 (hr.mono hj) hb (E := E0) pass0) hg hm boot_len (pa_cons ho pa_nil (star_no hs)) (he := star_no hs)) fun σ H Q h => ?_
  obtain ⟨q, env, r, env', R, ev, k⟩ := h
  obtain ⟨r0, e0, h0, ev'⟩ := eBind_some ev
  obtain ⟨d, e1, h1, ev''⟩ := eBind_some ev'
  obtain ⟨h1', rfl⟩ := eLook_some h1
  refine ⟨q, env, r0, _, R, h0, fun x H1 R1 S1 i1 => ?_⟩
  split at ev''
  · rename_i hob
    obtain ⟨ns, ds, rfl, hno⟩ := isOb_some hob
    obtain ⟨a, D, dx, fs', rfl, mm, ea, en, it⟩ := (i1.look R1 h1').objE
    rw [B.m] at mm
    cases mm
    obtain ⟨r2, e2, h2, ev'''⟩ := eBind_some ev''
    obtain ⟨h3, rfl⟩ := eOpt_some ev'''
    refine ⟨a, dx, fs', rfl, ea, at_callO (E := E0) G.hn R1 S1 i1.toWeak .nil h2 fun v H' R2 S2 i2 => ?_⟩
    cases r2 with
    | val d2 =>
      cases d2 with
      | int i =>
        have h4 : (if 0 ≤ i ∧ i < 2 ^ 62 then some (DL.R.val (.int i)) else none) = some r := h3
        split at h4
        · rename_i hi
          cases h4
          cases i2
          obtain ⟨m, rfl⟩ := Int.eq_ofNat_of_zero_le hi.1
          exact ⟨m, rfl, by omega, k _ H' R2 S2 .int⟩
        · cases h4
      | _ => cases h3
    | _ => cases h3
  · cases ev''
theorem red_inO {C : Addr} {E : XK} (neg : Bool) (B : ObC X.K X.mg c C own) (hn : ∀ env, F env ≠ none → env.length = n) (σ : L2.St) (H : Hp) (Q : VK) (h : TD X.mg (eInO neg c F fa fo) σ H Q) :
    tOp (if neg = true then rNotInO C (spF X.mg n F) E else rInO C (spF X.mg n F) E) (TD X.mg fa) (TD X.mg fo) σ H Q := by
  obtain ⟨q, env, r, env', R, ev, k⟩ := h
  obtain ⟨ra, ea', h0, ev'⟩ := eBind_some ev
  obtain ⟨r0, e0, h1, ev''⟩ := eBind_some ev'
  obtain ⟨d, e1, h2, ev'''⟩ := eBind_some ev''
  obtain ⟨h2', rfl⟩ := eLook_some h2
  refine ⟨q, env, ra, ea', R, h0, fun x H1 R1 S1 i1 => ⟨q, ea', r0, _, R1, h1, fun y H2 R2 S2 i2 => ?_⟩⟩
  split at ev'''
  · rename_i hob
    obtain ⟨ns, ds, rfl, hno⟩ := isOb_some hob
    obtain ⟨a, D, dx, fs', rfl, mm, ea, en, it⟩ := (i2.look R2 h2').objE
    rw [B.m] at mm
    cases mm
    obtain ⟨r2, e2, h3, ev''''⟩ := eBind_some ev'''
    obtain ⟨h4, rfl⟩ := eOpt_some ev''''
    have key : ∀ K : Bool → Hp → Prop, (∀ b H', r2 = .val (.bl b) → Rel X.mg q env' σ H' → StepE env σ H env' H' → K b H') → spF X.mg n F [.ref a, x] H2 (fun v H' => ∃ b, v = .bl b ∧ K b H') E := fun K hK =>
      at_callO hn R2 (S1.trans S2) (i2.toWeak.back S1.dom) (.cons (i1.step S2) .nil) h3 fun v H' R3 S3 i3 => by
        cases r2 with
        | val d2 =>
          cases d2 with
          | bl b =>
            cases i3
            exact ⟨b, rfl, hK b H' rfl R3 S3⟩
          | _ => cases h4
        | _ => cases h4
    cases neg with
    | true => exact ⟨a, dx, fs', rfl, ea, key (fun b H' => Q (.bl (!b)) H') fun b H' e R3 S3 => by
        subst e
        have e5 : some (DL.R.val (.bl (b != true))) = some r := h4
        cases e5
        exact k _ H' R3 S3 (by cases b <;> exact .bl)⟩
    | false => exact ⟨a, dx, fs', rfl, ea, key (fun b H' => Q (.bl b) H') fun b H' e R3 S3 => by
        subst e
        have e5 : some (DL.R.val (.bl (b != false))) = some r := h4
        cases e5
        exact k _ H' R3 S3 (by cases b <;> exact .bl)⟩
  · cases ev'''
theorem dinO (G : Mtk X.prog X.w X.K X.mg X.base c "__contains__" ps k n F own) (hr : Room j X.A) (ha : PE X a (TD X.mg fa)) (ho : PE X o (TD X.mg fo)) (hj : k ≤ j := by omega) (hm : behindInMarks .In o = false := by first | exact nomark _ | with_unfolding_all rfl) : PE X (.Compare a [.In] [o] pos) (TD X.mg (eInO false c F fa fo)) := by
  obtain ⟨C, f, fd, B, M, _, hb, G1⟩ := G.ex
  exact PE.of (pe_cmpR (op_inO M G1 (hr.mono hj) hb (E := E0) pass0) ha ho hm) fun σ H Q h => red_inO false B G.hn σ H Q h
theorem dnotInO (G : Mtk X.prog X.w X.K X.mg X.base c "__contains__" ps k n F own) (hr : Room j X.A) (ha : PE X a (TD X.mg fa)) (ho : PE X o (TD X.mg fo)) (hj : k ≤ j := by omega) (hm : behindInMarks .NotIn o = false := by first | exact nomark _ | with_unfolding_all rfl) : PE X (.Compare a [.NotIn] [o] pos) (TD X.mg (eInO true c F fa fo)) := by
  obtain ⟨C, f, fd, B, M, _, hb, G1⟩ := G.ex
  exact PE.of (pe_cmpR (op_notInO M G1 (hr.mono hj) hb (E := E0) pass0) ha ho hm) fun σ H Q h => red_inO true B G.hn σ H Q h
theorem dixO (G : Mtk X.prog X.w X.K X.mg X.base c "__getitem__" ps k n F own) (hr : Room j X.A) (ho : PE X o (TD X.mg fo)) (ha : PE X a (TD X.mg fa)) (hj : k + 1 ≤ j := by omega)
    (hsl : ∀ (x : Addr) (i : Value), subscripted a true (.ref x) i = runValue (.builtin "lifetime.subscript" ⟨[.ref x, i], []⟩) := by intro _ _; with_unfolding_all rfl) : PE X (.Subscript o a pos) (TD X.mg (eIxO c F fo fa)) := by
  obtain ⟨C, f, fd, B, M, hfn, hb, G1⟩ := G.ex
  refine PE.of (pe_ixO M hfn G1 (hr.mono hj) hb (E := E0) pass0 ho ha hsl) fun σ H Q h => ?_
  obtain ⟨q, env, r, env', R, ev, k⟩ := h
  obtain ⟨r0, e0, h0, ev'⟩ := eBind_some ev
  obtain ⟨ra, ea', h1, ev''⟩ := eBind_some ev'
  obtain ⟨d, e1, h2, ev'''⟩ := eBind_some ev''
  obtain ⟨h2', rfl⟩ := eLook_some h2
  refine ⟨q, env, r0, e0, R, h0, fun x H1 R1 S1 i1 => ⟨q, e0, ra, _, R1, h1, fun y H2 R2 S2 i2 => ?_⟩⟩
  split at ev'''
  · rename_i hob
    obtain ⟨ns, ds, rfl, hno⟩ := isOb_some hob
    obtain ⟨a, D, dx, fs', rfl, mm, ea, en, it⟩ := ((i1.step S2).look R2 h2').objE
    rw [B.m] at mm
    cases mm
    exact ⟨a, dx, fs', rfl, ea, at_callO (E := E0) G.hn R2 (S1.trans S2) (i1.step S2) (.cons (i2.toWeak.back S1.dom) .nil) ev''' k⟩
  · cases ev'''
end
end DL
/-! Comprehensions with two generators, over data. -/
namespace DL
open PySem PySem.Spec L2
open PyProof.Rows hiding St
/-- how a walk stands at H' -/
def ItAt (mg : Str → Option Value) (p : Addr → Prop) (H : Hp) (J : It) (ds : List Dat) : Prop :=
  (∀ i, i < ds.length → J.go i H) ∧ (∀ i, ds.length ≤ i → J.stop i H) ∧ ∀ i x H'', J.yld i H x H'' → i < ds.length → (∀ b o, H b = some o → H'' b = some o) ∧ ∃ d, ds[i]? = some d ∧ IsD mg p H'' d x
/-- a block's loop between two turns: the new list at D has the data acc -/
structure LcSt (mg : Str → Option Value) (q : Addr → Prop) (D : Addr) (vs : List Nat) (τ : L2.St) (e1 : Env) (H1 : Hp) (e2 : Env) (H2 : Hp) (acc : List Dat) : Prop where
  rel : Rel mg (fun b => q b ∨ b = D) e2 τ H2
  free : ∀ j, j ∈ vs → ∀ s, e2[j]? ≠ some (some s)
  step : StepE e1 τ H1 e2 H2
  at_ : ∃ ys, H2 D = some (.lst ys) ∧ IsDs mg (Prot (fun b => q b ∨ b = D) e2 τ) H2 acc ys
  nD : ¬ MutAt e2 τ D
section
variable {mg : Str → Option Value} {q : Addr → Prop} {vs gs : List Nat} {D : Addr}
theorem wipe_mut {σ : L2.St} {e : Env} {b : Addr} (hn : ∀ j, j ∈ vs → ∀ s, e[j]? ≠ some (some s)) : MutAt e (wipe σ vs) b ↔ MutAt e σ b := by
  constructor
  · rintro ⟨i, s, e1, w, h⟩
    exact ⟨i, s, e1, w, by rw [← wipe_ne (vs := vs) fun z => hn i z s e1]; exact h⟩
  · rintro ⟨i, s, e1, w, h⟩
    exact ⟨i, s, e1, w, by rw [wipe_ne (vs := vs) fun z => hn i z s e1]; exact h⟩
/-- behind a turn: the block's own slots forgotten -/
theorem lc_wiped (hv : ∀ j, j ∈ gs → j ∈ vs) {q' : Addr → Prop} {τ σ2 : L2.St} {e2 e3 e6 e7 : Env} {H2 H3 H6 : Hp} (n2 : ∀ j, j ∈ vs → ∀ s, e2[j]? ≠ some (some s)) (hx : ∀ b o, H2 b = some o → H3 b = some o) (S4 : StepG gs e2 τ e3 σ2) (R6 : Rel mg q' e6 σ2 H6) (S6 : StepE e3 σ2 H3 e6 H6) (hw : eWipe vs e6 = some ((), e7)) :
    (∀ b, MutAt e7 τ b → MutAt e6 σ2 b) ∧ Rel mg q' e7 τ H6 ∧ (∀ j, j ∈ vs → ∀ s, e7[j]? ≠ some (some s)) ∧ StepE e2 τ H2 e7 H6 := by
  obtain ⟨w1, w2, w3, w4, w5⟩ := eWipe_ok hw
  have sl : ∀ (j : Nat) (s : Slot), e7[j]? = some (some s) → e6[j]? = some (some s) ∧ τ[j]? = σ2[j]? := fun j s e => by
    have hj : j ∉ vs := fun z => w1 j z s e
    exact ⟨w4 j s e, ((S4.out j fun z => hj (hv j z)).2).symm⟩
  have mm : ∀ b, MutAt e7 τ b → MutAt e6 σ2 b := fun b ⟨j, s, e, w, h⟩ => ⟨j, s, (sl j s e).1, w, by rw [← (sl j s e).2]; exact h⟩
  refine ⟨mm, R6.swap S4.slen.symm w3 sl, w1, ⟨fun b u e n => ?_, fun b z => ?_, fun b m => S4.mono b (S6.mono b (mm b m)), fun j s e => ?_, fun j d e => ?_, by rw [w3, S6.len, S4.len]⟩⟩
  · exact S6.keep b u (hx b u e) fun m => n (S4.mono b m)
  · refine S6.dom b ?_
    cases eb : H2 b with
    | none => exact absurd eb z
    | some u => rw [hx _ _ eb]; simp
  · have hj : j ∉ vs := fun z => n2 j z s e
    obtain ⟨s', e'⟩ := S6.there j s ((S4.out j fun z => hj (hv j z)).1.trans e)
    exact ⟨s', (w2 j hj).trans e'⟩
  · have hj : j ∉ vs := fun z => n2 j z _ e
    obtain ⟨d', e'⟩ := S6.muts j d ((S4.out j fun z => hj (hv j z)).1.trans e)
    exact ⟨d', (w2 j hj).trans e'⟩
/-- the heap without the list -/
def hideD (D : Addr) (H : Hp) : Hp := fun b => if b = D then none else H b
theorem hideD_self {D : Addr} {H : Hp} : hideD D H D = none := if_pos rfl
theorem hideD_of {D b : Addr} {H : Hp} {o : HO} (e : hideD D H b = some o) : H b = some o ∧ b ≠ D := by
  unfold hideD at e
  split at e
  · cases e
  · rename_i h
    exact ⟨e, h⟩
theorem hideD_ne {D b : Addr} {H : Hp} (h : b ≠ D) : hideD D H b = H b := if_neg h
theorem StepE.put {τ : L2.St} {e1 e2 : Env} {H1 H2 : Hp} {o : HO} (s : StepE e1 τ H1 e2 H2) (hD : H1 D = none) : StepE e1 τ H1 e2 (upd H2 D o) := by
  refine ⟨fun b u e n => ?_, fun b z => ?_, s.mono, s.there, s.muts, s.len⟩
  · rw [upd_ne (ne_of_none e hD)]
    exact s.keep b u e n
  · by_cases hb : b = D
    · rw [hb, upd_same]; simp
    · rw [upd_ne hb]; exact s.dom b z
theorem StepE.hideL {τ : L2.St} {e1 e2 : Env} {H1 H2 : Hp} (s : StepE e1 τ H1 e2 H2) : StepE e1 τ (hideD D H1) e2 H2 :=
  ⟨fun b u e n => s.keep b u (hideD_of e).1 n, fun b z => s.dom b (by
    cases e : hideD D H1 b with
    | none => exact absurd e z
    | some u => rw [(hideD_of e).1]; simp), s.mono, s.there, s.muts, s.len⟩
theorem StepE.hideR {τ : L2.St} {e1 e2 : Env} {H1 H2 : Hp} (s : StepE e1 τ H1 e2 H2) (hD : H1 D = none) : StepE e1 τ H1 e2 (hideD D H2) := by
  refine ⟨fun b u e n => ?_, fun b z => ?_, s.mono, s.there, s.muts, s.len⟩
  · rw [hideD_ne (ne_of_none e hD)]
    exact s.keep b u e n
  · have hb : b ≠ D := fun e => by
      rw [e] at z
      exact z hD
    rw [hideD_ne hb]
    exact s.dom b z
/-- one more datum -/
theorem LcSt.more {τ : L2.St} {e1 e7 : Env} {H1 H5 : Hp} {acc : List Dat} {x : Dat} {v : V} (hD : H1 D = none) (L : LcSt mg q D vs τ e1 H1 e7 H5 acc) (dv : IsD mg (Prot (fun b => q b ∨ b = D) e7 τ) H5 x v) : ∃ ys, H5 D = some (.lst ys) ∧ acc.length = ys.length ∧ LcSt mg q D vs τ e1 H1 e7 (upd H5 D (.lst (ys ++ [v]))) (acc ++ [x]) := by
  obtain ⟨ys, hDl, hacc⟩ := L.at_
  have kp : ∀ b u, H5 b = some u → ¬ Prot (fun b => q b ∨ b = D) e7 τ b → upd H5 D (.lst (ys ++ [v])) b = some u := fun b u e n => by
    rw [upd_ne fun z => n (.inl (.inr z))]
    exact e
  refine ⟨ys, hDl, hacc.length, ⟨⟨L.rel.len, fun j d e => ?_, fun j s e w => ?_, L.rel.inj, fun b z => ?_⟩, L.free, L.step.put hD, ⟨_, upd_same, IsDs.mono (fun _ z => z) kp (hacc.append (.one dv))⟩, L.nD⟩⟩
  · obtain ⟨u, a1, a2⟩ := L.rel.val j d e
    exact ⟨u, a1, a2.mono (fun _ z => z) kp⟩
  · obtain ⟨a, a1, a2, a3⟩ := L.rel.wr j s e w
    exact ⟨a, a1, a2, a3.mono (fun _ z => z) kp fun u e => by
      rw [upd_ne fun z => a2 (.inr z)]
      exact e⟩
  · by_cases hb : b = D
    · rw [hb, upd_same]; simp
    · rw [upd_ne hb]; exact L.rel.qin b z
theorem lc_turns {t : EM Bool} {f : EM R} {g : Dat → EM Unit} (hv : ∀ j, j ∈ gs → j ∈ vs) {σ : L2.St} {e1 e9 : Env} {Hb H1 : Hp} {J : It} {ds acc0 xs : List Dat} (hD : Hb D = none) (st0 : LcSt mg q D vs (wipe σ vs) e1 Hb e1 H1 acc0)
    (hJ : ∀ e2 H2 acc, LcSt mg q D vs (wipe σ vs) e1 Hb e2 H2 acc → ItAt mg (Prot (fun b => q b ∨ b = D) e2 (wipe σ vs)) H2 J ds) (hl : loopC g t f vs ds acc0 e1 = some (xs, e9))
    (Fin : Hp → Prop) (hF : ∀ H2, LcSt mg q D vs (wipe σ vs) e1 Hb e9 H2 xs → Fin H2) :
    ∃ W : Nat → Nat → Hp → Prop, (∃ m, W 0 m H1) ∧ ∀ i m H, W i m H → (J.stop i H ∧ Fin H) ∨ (J.go i H ∧ ∃ Nx : Hp → Prop, (∀ H', Nx H' → ∃ m', m' < m ∧ W (i + 1) m' H') ∧ ∀ x H', J.yld i H x H' → TDG mg gs g x (wipe σ vs) H' fun σ2 H2 => wipe σ2 vs = wipe σ vs ∧ TDT mg t σ2 H2 fun b H3 =>
      if b = true then TD mg f σ2 H3 fun y H4 => ∃ acc, H4 D = some (.lst acc) ∧ acc.length < sizeLine ∧ Nx (upd H4 D (.lst (acc ++ [y]))) else Nx H3) := by
  refine ⟨fun i m H2 => i ≤ ds.length ∧ m = ds.length - i ∧ ∃ e2 acc, LcSt mg q D vs (wipe σ vs) e1 Hb e2 H2 acc ∧ loopC g t f vs (ds.drop i) acc e2 = some (xs, e9), ⟨_, Nat.zero_le _, rfl, e1, acc0, st0, hl⟩, ?_⟩
  rintro i m H2 ⟨hi', hm, e2, acc, L, hl⟩
  have HJ := hJ e2 H2 acc L
  by_cases hlt : i < ds.length
  · refine .inr ⟨HJ.1 i hlt, ?_⟩
    have hdrop : ds.drop i = ds[i] :: ds.drop (i + 1) := List.drop_eq_getElem_cons hlt
    rw [hdrop] at hl
    obtain ⟨⟨⟩, e3, h3, hl1⟩ := eBind_some hl
    obtain ⟨b4, e4, h4, hl2⟩ := eBind_some hl1
    refine ⟨fun H' => ∃ e5 acc', LcSt mg q D vs (wipe σ vs) e1 Hb e5 H' acc' ∧ loopC g t f vs (ds.drop (i + 1)) acc' e5 = some (xs, e9), fun H' ⟨e5, acc', a1, a2⟩ => ⟨_, (by omega : ds.length - (i + 1) < m), hlt, rfl, e5, acc', a1, a2⟩, fun x H3 hy => ?_⟩
    obtain ⟨hx, d, hd, isd⟩ := HJ.2.2 i x H3 hy hlt
    have hdd : d = ds[i] := by
      rw [List.getElem?_eq_getElem hlt] at hd
      exact (Option.some.inj hd).symm
    subst hdd
    refine ⟨fun b => q b ∨ b = D, e2, _, e3, L.rel.ext hx, isd, h3, fun σ2 R4 S4 => ⟨?_, ?_⟩⟩
    · have := wipe_eq (vs := vs) (σ := σ2) (σ' := wipe σ vs) S4.slen fun j hj => (S4.out j fun z => hj (hv j z)).2
      rw [this]
      exact wipe_eq (wipe_length _ _) fun j hj => wipe_ne hj
    · obtain ⟨ys, hDl, hacc⟩ := L.at_
      have next : ∀ {e6 e7 : Env} {H6 : Hp}, Rel mg (fun b => q b ∨ b = D) e6 σ2 H6 → StepE e3 σ2 H3 e6 H6 → eWipe vs e6 = some ((), e7) → (∀ b, MutAt e7 (wipe σ vs) b → MutAt e6 σ2 b) ∧ LcSt mg q D vs (wipe σ vs) e1 Hb e7 H6 acc := fun {e6 e7 H6} R6 S6 hw => by
        obtain ⟨m7, R7, n7, S7⟩ := lc_wiped hv L.free hx S4 R6 S6 hw
        have hD6 : H6 D = some (.lst ys) := S6.keep D _ (hx D _ hDl) fun m => L.nD (S4.mono D m)
        exact ⟨m7, R7, n7, L.step.trans S7, ⟨ys, hD6, S7.isDs hacc⟩, fun m => L.nD (S7.mono D m)⟩
      refine ⟨fun b => q b ∨ b = D, e3, b4, e4, R4, h4, fun H4 R5 S5 => ?_⟩
      cases b4 with
      | false =>
        obtain ⟨⟨⟩, e7, h7, hl3⟩ := eBind_some hl2
        exact ⟨e7, acc, (next R5 S5 h7).2, hl3⟩
      | true =>
        obtain ⟨r5, e5, h5, hl3⟩ := eBind_some hl2
        obtain ⟨x6, e6, h6, hl4⟩ := eBind_some hl3
        obtain ⟨⟨⟩, e7, h7, hl5⟩ := eBind_some hl4
        split at hl5
        · rename_i hz
          refine ⟨fun b => q b ∨ b = D, e4, r5, e5, R5, h5, fun v H5 R6 S6 i6 => ?_⟩
          obtain ⟨R7, S7, d7⟩ := i6.force R6 h6
          obtain ⟨m8, L8⟩ := next R7 ((S5.trans S6).trans S7) h7
          obtain ⟨zs, hz1, hz2, L9⟩ := L8.more hD (d7.mono (fun b z => z.elim .inl fun m => .inr (m8 b m)) fun _ _ e _ => e)
          exact ⟨zs, hz1, by rw [← hz2]; exact Nat.lt_of_lt_of_le hz (sz_ok (Nat.le_refl _)), e7, acc ++ [x6], L9, hl5⟩
        · cases hl5
  · have hie : i = ds.length := by omega
    subst hie
    rw [List.drop_length] at hl
    obtain ⟨rfl, rfl⟩ := eRet_some hl
    exact .inl ⟨HJ.2.1 _ (Nat.le_refl _), hF H2 L⟩
end
def loop2 (g : Dat → EM Unit) (t : EM Bool) (it1 : EM (List Dat)) (g1 : Dat → EM Unit) (t1 : EM Bool) (f : EM R) (vs vs1 : List Nat) : List Dat → List Dat → EM (List Dat)
  | [], acc => eRet acc
  | d :: ds, acc => eBind (g d) fun _ => eBind t fun b =>
    if b = true then eBind it1 fun ds1 => fun env => if freeAt vs1 env = true then (eBind (loopC g1 t1 f vs1 ds1 acc) fun acc' => eBind (eWipe vs) fun _ => loop2 g t it1 g1 t1 f vs vs1 ds acc') env else none
    else eBind (eWipe vs) fun _ => loop2 g t it1 g1 t1 f vs vs1 ds acc
def eLc2 (it : EM (List Dat)) (g : Dat → EM Unit) (t : EM Bool) (it1 : EM (List Dat)) (g1 : Dat → EM Unit) (t1 : EM Bool) (f : EM R) (vs vs1 : List Nat) : EM R := eBind it fun ds => fun env => if freeAt vs env = true then eBind (loop2 g t it1 g1 t1 f vs vs1 ds []) (fun xs => eRet (.new (.lst xs))) env else none
section
variable {X : Cx} {elt tg iter tg1 iter1 : Expr} {ifs ifs1 : List Expr} {scope : Scope} {own : List (Str × Nat)} {pos : Pos} {it it1 : EM (List Dat)} {gs gs1 : List Nat} {g g1 : Dat → EM Unit} {t t1 : EM Bool} {f : EM R}
theorem red_lc2 (vs vs1 : List Nat) (hv : ∀ j, j ∈ gs → j ∈ vs) (hv1 : ∀ j, j ∈ gs1 → j ∈ vs1) (σ : L2.St) (H : Hp) (Q : VK) (hh : TD X.mg (eLc2 it g t it1 g1 t1 f vs vs1) σ H Q) :
    tLc2 (TDI X.mg it) (TDG X.mg gs g) (TDT X.mg t) (TDI X.mg it1) (TDG X.mg gs1 g1) (TDT X.mg t1) (TD X.mg f) vs vs1 σ H Q := by
  obtain ⟨q, env, r, env', R, ev, k⟩ := hh
  obtain ⟨ds, e1, h1, ev1⟩ := eBind_some ev
  split at ev1
  · rename_i hfree
    obtain ⟨xs, e9, h9, ev2⟩ := eBind_some ev1
    obtain ⟨rfl, rfl⟩ := eRet_some ev2
    refine ⟨q, env, ds, e1, R, h1, fun J H1 R1 S1 hJ D hD => ?_⟩
    have W1 : Rel X.mg q e1 (wipe σ vs) H1 := R1.swap (wipe_length _ _) rfl fun j s e => ⟨e, wipe_ne fun z => freeAt_no hfree j z s e⟩
    refine ⟨fun i m H2 => i ≤ ds.length ∧ m = ds.length - i ∧ ∃ e2 acc, LcSt X.mg q D vs (wipe σ vs) e1 H1 e2 H2 acc ∧ loop2 g t it1 g1 t1 f vs vs1 (ds.drop i) acc e2 = some (xs, env'),
      ⟨_, Nat.zero_le _, rfl, e1, [], ⟨W1.guard hD (ext_new hD) (by rw [upd_same]; simp), freeAt_no hfree, .new hD, ⟨[], upd_same, .nil⟩, fun m => W1.prot_new hD (.inr m)⟩, h9⟩, ?_⟩
    rintro i m H2 ⟨hi', hm, e2, acc, L, hl⟩
    have HJ := hJ (Prot (fun b => q b ∨ b = D) e2 (wipe σ vs)) H2
      (fun b u e n => L.step.keep b u e fun m => n (.inr ((wipe_mut (freeAt_no hfree)).mp m)))
      (fun a z => z.elim (fun z => z.elim (fun z => .inl (.inl z)) fun z => .inr (by rw [z]; exact hD)) fun m => .inl (.inr ((wipe_mut (freeAt_no hfree)).mp (L.step.mono a m))))
      (fun a z => L.rel.prot_in z)
    by_cases hlt : i < ds.length
    · refine .inr ⟨HJ.1 i hlt, ?_⟩
      have hdrop : ds.drop i = ds[i] :: ds.drop (i + 1) := List.drop_eq_getElem_cons hlt
      rw [hdrop] at hl
      obtain ⟨⟨⟩, e3, h3, hl1⟩ := eBind_some hl
      obtain ⟨b4, e4, h4, hl2⟩ := eBind_some hl1
      refine ⟨fun H' => ∃ e5 acc', LcSt X.mg q D vs (wipe σ vs) e1 H1 e5 H' acc' ∧ loop2 g t it1 g1 t1 f vs vs1 (ds.drop (i + 1)) acc' e5 = some (xs, env'), fun H' ⟨e5, acc', a1, a2⟩ => ⟨_, (by omega : ds.length - (i + 1) < m), hlt, rfl, e5, acc', a1, a2⟩, fun x H3 hy => ?_⟩
      obtain ⟨hx, d, hd, isd⟩ := HJ.2.2 i x H3 hy hlt
      have hdd : d = ds[i] := by
        rw [List.getElem?_eq_getElem hlt] at hd
        exact (Option.some.inj hd).symm
      subst hdd
      refine ⟨fun b => q b ∨ b = D, e2, _, e3, L.rel.ext hx, isd, h3, fun σ2 R4 S4 => ⟨?_, ?_⟩⟩
      · have := wipe_eq (vs := vs) (σ := σ2) (σ' := wipe σ vs) S4.slen fun j hj => (S4.out j fun z => hj (hv j z)).2
        rw [this]
        exact wipe_eq (wipe_length _ _) fun j hj => wipe_ne hj
      · obtain ⟨ys, hDl, hacc⟩ := L.at_
        refine ⟨fun b => q b ∨ b = D, e3, b4, e4, R4, h4, fun H4 R5 S5 => ?_⟩
        cases b4 with
        | false =>
          obtain ⟨⟨⟩, e7, h7, hl3⟩ := eBind_some hl2
          obtain ⟨m7, R7, n7, S7⟩ := lc_wiped hv L.free hx S4 R5 S5 h7
          have hD6 : H4 D = some (.lst ys) := S5.keep D _ (hx D _ hDl) fun m => L.nD (S4.mono D m)
          exact ⟨e7, acc, ⟨R7, n7, L.step.trans S7, ⟨ys, hD6, S7.isDs hacc⟩, fun m => L.nD (S7.mono D m)⟩, hl3⟩
        | true =>
          obtain ⟨ds1, e5, h5, hl3⟩ := eBind_some hl2
          split at hl3
          · rename_i hf1
            obtain ⟨acc', e8, h8, hl4⟩ := eBind_some hl3
            obtain ⟨⟨⟩, e7, h7, hl5⟩ := eBind_some hl4
            refine ⟨fun b => q b ∨ b = D, e4, ds1, e5, R5, h5, fun J1 H5 R6 S6 hJ1 => ?_⟩
            have S56 := S5.trans S6
            have T5 : Step e2 (wipe σ vs) H2 e5 σ2 H5 := ((StepE.ext hx).to.trans S4.to).trans S56.to
            have f5 := freeAt_no hf1
            have hD5 : H5 D = some (.lst ys) := S56.keep D _ (hx D _ hDl) fun m => L.nD (S4.mono D m)
            have nD5 : ¬ MutAt e5 σ2 D := fun m => L.nD (S4.mono D (S56.mono D m))
            have pw : ∀ {e : Env}, (∀ j, j ∈ vs1 → ∀ s, e[j]? ≠ some (some s)) → ∀ b, Prot (fun b => q b ∨ b = D) e (wipe σ2 vs1) b ↔ Prot (fun b => q b ∨ b = D) e σ2 b := fun hn b => ⟨fun z => z.elim .inl fun m => .inr ((wipe_mut hn).mp m), fun z => z.elim .inl fun m => .inr ((wipe_mut hn).mpr m)⟩
            have st0 : LcSt X.mg q D vs1 (wipe σ2 vs1) e5 (hideD D H5) e5 H5 acc :=
              ⟨R6.swap (wipe_length _ _) rfl fun j s e => ⟨e, wipe_ne fun z => f5 j z s e⟩, f5, .ext fun b o e => (hideD_of e).1, ⟨ys, hD5, (T5.isDs hacc).mono (fun b z => (pw f5 b).mp z) fun _ _ e _ => e⟩, fun m => nD5 ((wipe_mut f5).mp m)⟩
            refine lc_turns hv1 hideD_self st0 (fun e' H' acc1 L1 => ?_) h8 _ fun H8 L8 => ?_
            · exact hJ1 _ H' (fun b u e n => L1.step.keep b u (by rw [hideD_ne fun z => n (.inl (.inr z))]; exact e) fun m => n (.inr ((wipe_mut f5).mp m)))
                (fun a z => z.elim (fun z => .inl (.inl z)) fun m => .inl (.inr ((wipe_mut f5).mp (L1.step.mono a m)))) (fun a z => L1.rel.prot_in z)
            · -- behind the inner loop
              have R8 : Rel X.mg (fun b => q b ∨ b = D) e8 σ2 H8 := L8.rel.swap (wipe_length _ _).symm rfl fun j s e => ⟨e, (wipe_ne fun z => L8.free j z s e).symm⟩
              have S8 : StepE e5 σ2 (hideD D H5) e8 H8 := ⟨fun b u e n => L8.step.keep b u e fun m => n ((wipe_mut f5).mp m), L8.step.dom, fun b m => (wipe_mut f5).mp (L8.step.mono b ((wipe_mut L8.free).mpr m)), L8.step.there, L8.step.muts, L8.step.len⟩
              have S38 : StepE e3 σ2 (hideD D H3) e8 H8 := (S56.hideL.hideR hideD_self).trans S8
              have hx' : ∀ b o, hideD D H2 b = some o → hideD D H3 b = some o := fun b o e => by
                obtain ⟨e', nb⟩ := hideD_of e
                rw [hideD_ne nb]
                exact hx b o e'
              obtain ⟨m7, R7, n7, S7⟩ := lc_wiped hv L.free hx' S4 R8 S38 h7
              obtain ⟨zs, hz, hzs⟩ := L8.at_
              exact ⟨e7, acc', ⟨R7, n7, (L.step.hideR hD).trans S7, ⟨zs, hz, hzs.mono (fun b z => (pw L8.free b).mpr (z.elim .inl fun m => .inr (m7 b m))) fun _ _ e _ => e⟩, fun m => L8.nD ((wipe_mut L8.free).mpr (m7 D m))⟩, hl5⟩
          · cases hl3
    · have hie : i = ds.length := by omega
      subst hie
      rw [List.drop_length] at hl
      obtain ⟨rfl, rfl⟩ := eRet_some hl
      refine .inl ⟨HJ.2.1 _ (Nat.le_refl _), ?_⟩
      obtain ⟨ys, hDl, hacc⟩ := L.at_
      have R3 : Rel X.mg (fun b => q b ∨ b = D) env' σ H2 := L.rel.swap (wipe_length _ _).symm rfl fun j s e => ⟨e, (wipe_ne fun z => L.free j z s e).symm⟩
      have S3 : StepE e1 σ H1 env' H2 := ⟨fun b u e n => L.step.keep b u e fun m => n ((wipe_mut (freeAt_no hfree)).mp m), L.step.dom, fun b m => (wipe_mut (freeAt_no hfree)).mp (L.step.mono b ((wipe_mut L.free).mpr m)), L.step.there, L.step.muts, L.step.len⟩
      refine k _ H2 (R3.less fun b z => .inl z) (S1.trans S3) (IsR.back (H0 := H1) ⟨D, rfl, hD, fun z => R1.qin D z hD, ⟨ys, hDl, ?_⟩, R3⟩ S1.dom)
      exact hacc.mono (fun b z => z.elim (fun z => z.elim (fun z => .inl (.inl z)) fun m => .inr ((wipe_mut L.free).mpr m)) fun z => .inl (.inr z)) fun _ _ e _ => e
  · cases ev1
theorem d_lc2 (hc : X.calm = true) (hN : X.N.Nodup) (hi : PI X tg iter (TDI X.mg it)) (ok : BlkOk X.N X.env.scope scope own) (vs1 : List Nat) (hvs : ∀ i ∈ vs1, i ∈ own.map (·.2)) (hv : ∀ j, j ∈ gs → j ∈ own.map (·.2)) (hv1 : ∀ j, j ∈ gs1 → j ∈ vs1)
    (hg : ∀ (s : Shared) (H : Hp) (C : Addr) (cl : List (Str × Addr)) (fp : List Addr), PG (X.blk s H scope (compEnvC scope cl C X.env) fp) tg (TDG X.mg gs g)) (ht : ∀ (s : Shared) (H : Hp) (C : Addr) (cl : List (Str × Addr)) (fp : List Addr), PTs (X.blk s H scope (compEnvC scope cl C X.env) fp) ifs (TDT X.mg t))
    (hi1 : ∀ (s : Shared) (H : Hp) (C : Addr) (cl : List (Str × Addr)) (fp : List Addr), PI (X.blk s H scope (compEnvC scope cl C X.env) fp) tg1 iter1 (TDI X.mg it1)) (hg1 : ∀ (s : Shared) (H : Hp) (C : Addr) (cl : List (Str × Addr)) (fp : List Addr), PG (X.blk s H scope (compEnvC scope cl C X.env) fp) tg1 (TDG X.mg gs1 g1))
    (ht1 : ∀ (s : Shared) (H : Hp) (C : Addr) (cl : List (Str × Addr)) (fp : List Addr), PTs (X.blk s H scope (compEnvC scope cl C X.env) fp) ifs1 (TDT X.mg t1)) (he : ∀ (s : Shared) (H : Hp) (C : Addr) (cl : List (Str × Addr)) (fp : List Addr), PE (X.blk s H scope (compEnvC scope cl C X.env) fp) elt (TD X.mg f))
    (hs : ∀ x, foldedSetIterable iter X.env x = pure x := by intro _; rfl) (hs1 : ∀ env x, foldedSetIterable iter1 env x = pure x := by intro _ _; rfl) :
    PE X (.ListComp elt [⟨tg, iter, ifs, 0⟩, ⟨tg1, iter1, ifs1, 0⟩] scope pos) (TD X.mg (eLc2 it g t it1 g1 t1 f (own.map (·.2)) vs1)) :=
  PE.of (pe_lc2 hc hN hi ok hvs hg ht hi1 hg1 ht1 he hs hs1) (red_lc2 _ vs1 hv hv1)
end
end DL
/-! max, min, sum of ints; max with a default; starred items of a display. -/
namespace DL
open PySem PySem.Spec L2
open PyProof.Rows hiding St
def intsD : List Dat → Option (List Int)
  | [] => some []
  | .int i :: ds => (intsD ds).map fun is => i :: is
  | _ => none
def dSum : List Dat → Option Out
  | [.lst ds] => (intsD ds).map fun is => (false, .int is.sum)
  | _ => none
def maxI : List Int → Option Int
  | [] => none
  | n :: ns => some (ns.foldl max n)
def dMaxL : List Dat → Option Out
  | [.lst ds] => ((intsD ds).bind maxI).map fun m => (false, .int m)
  | _ => none
def dMin2 : List Dat → Option Out
  | [.int i, .int j] => some (false, .int (if j < i then j else i))
  | _ => none
section
variable {X : Cx} {mg : Str → Option Value} {p : Addr → Prop} {H : Hp}
theorem ints_vs : ∀ {ds : List Dat} {vs : List V} {is : List Int}, IsDs mg p H ds vs → intsD ds = some is → vs = is.map V.int
  | _, _, _, .nil, h => by cases h; rfl
  | _, _, _, .cons (d := d) a t, h => by
    cases d with
    | int i =>
      obtain ⟨is', e, rfl⟩ := omap h
      cases a
      rw [ints_vs t e]
      rfl
    | _ => cases h
theorem foldl_max (ns : List Int) : ∀ n : Int, (ns.foldl max n ∈ n :: ns) ∧ n ≤ ns.foldl max n ∧ ∀ y ∈ ns, y ≤ ns.foldl max n := by
  induction ns with
  | nil => intro n; exact ⟨by simp, Int.le_refl _, fun y h => by cases h⟩
  | cons k r ih =>
    intro n
    obtain ⟨h1, h2, h3⟩ := ih (max n k)
    rw [List.foldl_cons]
    refine ⟨?_, by omega, fun y hy => ?_⟩
    · rcases List.mem_cons.mp h1 with h | h
      · rw [h]
        rcases Int.le_total n k with z | z
        · rw [Int.max_eq_right z]; simp
        · rw [Int.max_eq_left z]; simp
      · simp [h]
    · rcases List.mem_cons.mp hy with h | h
      · subst h; omega
      · exact h3 y h
theorem r_sum (hc : X.calm = true) : RuleN X (.builtin "sum") dSum := by
  refine ⟨_, cr_sum hc, ?_⟩
  intro p H ds vs out hp h ho Q k
  unfold dSum at ho
  split at ho
  · obtain ⟨is, e, rfl⟩ := omap ho
    obtain ⟨v, rfl, i⟩ := one_of h
    obtain ⟨a1, xs, rfl, e1, d1⟩ := i.lstE
    exact ⟨a1, is, rfl, by rw [← ints_vs d1 e]; exact SqL.of e1, k _ H (fun _ _ e => e) .int⟩
  · cases ho
theorem r_maxL (hc : X.calm = true) : RuleN X (.builtin "max") dMaxL := by
  refine ⟨_, cr_max hc, ?_⟩
  intro p H ds vs out hp h ho Q k
  unfold dMaxL at ho
  split at ho
  · obtain ⟨m, e, rfl⟩ := omap ho
    obtain ⟨is, e', hm⟩ := Option.bind_eq_some_iff.mp e
    obtain ⟨v, rfl, i⟩ := one_of h
    obtain ⟨a1, xs, rfl, e1, d1⟩ := i.lstE
    cases is with
    | nil => cases hm
    | cons n ns =>
      cases hm
      refine ⟨a1, n :: ns, rfl, by rw [← ints_vs d1 e']; exact SqL.of e1, by simp, fun m h1 h2 => ?_⟩
      obtain ⟨g1, g2, g3⟩ := foldl_max ns n
      have hm : m = ns.foldl max n := by
        have a := h2 _ g1
        have b : m ≤ ns.foldl max n := by
          rcases List.mem_cons.mp h1 with z | z
          · rw [z]; exact g2
          · exact g3 m z
        omega
      rw [hm]
      exact k _ H (fun _ _ e => e) .int
  · cases ho
theorem r_min2 (hc : X.calm = true) : RuleN X (.builtin "min") dMin2 := by
  refine ⟨_, call_min2 hc, ?_⟩
  intro p H ds vs out hp h ho Q k
  unfold dMin2 at ho
  split at ho
  · cases ho
    obtain ⟨v, w, rfl, i1, i2⟩ := two_of h
    rw [i1.intE, i2.intE]
    exact ⟨_, _, rfl, k _ H (fun _ _ e => e) .int⟩
  · cases ho
end
/-! ### max(xs, default=d) -/
def eMaxD (f g : EM R) : EM R := eBind f fun r => eBind g fun s => eBind (eLook r) fun d => eBind (eLook s) fun e => match d, e with
  | .lst ds, .int z => eOpt ((intsD ds).map fun is => R.val (.int ((maxI is).getD z)))
  | _, _ => fun _ => none
def rMaxDef (K : PySem.W.Frag) : List V → List V → Hp → VK → Prop := fun vs zs H Q => ∃ (a : Addr) (ns : List Int) (z : Int), vs = [V.ref a] ∧ zs = [V.int z] ∧ SqL K H a (ns.map V.int) ∧ Q (.int ((maxI ns).getD z)) H
theorem reads_ints {h : Heap} : ∀ {ns : List Int} {us : List Value}, Vals (ns.map V.int) us → ReadsAll h us (ns.map PyData.int) []
  | [], us, r => by
    cases r
    exact .nil
  | n :: ns, us, r => by
    rw [List.map_cons] at r
    cases r with
    | cons a t =>
      obtain ⟨tk, rfl⟩ := a
      exact .cons (as := []) (.int n tk) (reads_ints t)
theorem alike_ints (ns : List Int) : PySem.W.AlikeAll (ns.map PyData.int) := ⟨fun x hx y hy => by
  obtain ⟨a, _, rfl⟩ :=
      List.mem_map.mp hx
  obtain ⟨b, _, rfl⟩ :=
      List.mem_map.mp hy
  rfl, fun x hx => by
  obtain ⟨a, _, rfl⟩ :=
      List.mem_map.mp hx
  exact fun z => by cases z⟩
theorem depth_ints : ∀ ns : List Int, PyData.depthAll (ns.map PyData.int) ≤ 1
  | [] => by decide
  | n :: ns => by
    have := depth_ints ns
    simp only [List.map_cons,
        PyData.depthAll, PyData.depth]
    omega
section
variable {X : Cx}
theorem cr_maxDef (hc : X.calm = true) (hu : X.A.units + 64 < cLine) : CallRK X (.builtin "max") [Str.ofString "default"] (rMaxDef X.K) := by
  intro pins s σ H vs zs us ws Q I r r' h
  obtain ⟨a, ns, z, rfl, rfl, hs, q⟩ := h
  obtain ⟨its, rv, hl, _⟩ :=
      I.list hs
  rw [Vals.ref1 r]
  obtain ⟨u, rfl, ru⟩ := vals1 r'
  obtain ⟨tk0, rfl⟩ := ru
  have hd := depth_ints ns
  refine PySem.W.max_list_default (xs := ns.map PyData.int) (as := []) (I.ok.hd hc) hl.isList (by simpa using reads_ints rv) (alike_ints ns) (by omega) (fun e h' tk k => ?_) fun y ys i v h' tk bs e hv hr k => ?_
  · have e' : ns = [] := List.map_eq_nil_iff.mp e
    subst e'
    exact ⟨.int z, H, I.kept k, ⟨_, rfl⟩, q⟩
  · cases ns with
    | nil => cases e
    | cons n ns =>
      rw [List.map_cons] at e
      obtain ⟨rfl, rfl⟩ := List.cons.inj e
      rw [PySem.W.maxD_ints] at hr
      cases hr
      exact ⟨.int _, H, I.kept k, ⟨_, rfl⟩, q⟩
end
section
variable {X : Cx} {e d : Expr} {es : List Expr} {f g : EM R} {fs : EM (List R)} {p pos kpos : Pos}
theorem dmaxD (hc : X.calm = true) (hu : X.A.units + 64 < cLine) (hm : X.mg "max" = none) (he : PE X e (TD X.mg f)) (hd : PE X d (TD X.mg g)) (hg : Gl X "max" := by rfl) (hs : notStar e = true := by rfl)
    (hpl : (backTo pos (starEach (e :: []) X.env)).any (·.1) = false := by rfl) (he' : backTo pos (starEach (e :: []) X.env) = (false, eval e X.env) :: backTo pos (starEach [] X.env) := by rfl)
    (hall : (backToKw pos (keywordEach [⟨some "default", d, kpos⟩] X.env)).all (·.1.isSome) = true := by rfl) (hnone : (backToKw pos (keywordEach [⟨some "default", d, kpos⟩] X.env)).any (·.1.isNone) = false := by rfl) (hks : (backToKw pos (keywordEach [⟨some "default", d, kpos⟩] X.env)).filterMap (·.1) = [Str.ofString "default"] := by rfl) :
    PE X (.Call (.Name "max" p) [e] [⟨some "default", d, kpos⟩] pos) (TD X.mg (eMaxD f g)) := by
  refine PE.of (pe_callBK (cr_maxDef hc hu) hg hm (by decide +kernel) (pa_cons he pa_nil (star_no hs)) (pk_cons hd pk_nil) (by decide) (by decide) he' hpl hall hnone hks) fun σ H Q h => ?_
  obtain ⟨q, env, r, env', R, ev, k⟩ := h
  obtain ⟨r1, e1, h1, ev1⟩ := eBind_some ev
  obtain ⟨r2, e2, h2, ev2⟩ := eBind_some ev1
  obtain ⟨dx, e3, h3, ev3⟩ := eBind_some ev2
  obtain ⟨h3', rfl⟩ := eLook_some h3
  obtain ⟨dy, e4, h4, ev4⟩ := eBind_some ev3
  obtain ⟨h4', rfl⟩ := eLook_some h4
  refine ⟨q, env, r1, e1, R, h1, fun v H1 R1 S1 i1 => ⟨q, e1, r2, _, R1, h2, fun w H2 R2 S2 i2 => ?_⟩⟩
  have iv := (i1.step S2).look R2 (by rw [look_weak]; exact h3')
  have iw := i2.look R2 h4'
  split at ev4
  · obtain ⟨h5, rfl⟩ := eOpt_some ev4
    obtain ⟨is, e5, rfl⟩ := omap h5
    obtain ⟨a1, xs, rfl, ex, d1⟩ := iv.lstE
    rw [iw.intE]
    exact ⟨a1, is, _, rfl, rfl, by rw [← ints_vs d1 e5]; exact SqL.of ex, k _ H2 R2 (S1.trans S2) .int⟩
  · cases ev4
end
/-! ### starred items -/
def eStar (f : EM R) (fs : EM (List R)) : EM (List R) := eBind f fun r => eBind (eLook r) fun d => match d with
  | .lst ds => eBind fs fun rs => eRet (ds.map R.val ++ rs)
  | .tup ds => eBind fs fun rs => eRet (ds.map R.val ++ rs)
  | _ => fun _ => none
theorem vals_rs {mg : Str → Option Value} {q : Addr → Prop} {env : Env} {σ : L2.St} {H0 H : Hp} : ∀ {ds : List Dat} {vs : List V}, IsDs mg (Prot q env σ) H ds vs → IsRs mg q env σ H0 H (ds.map R.val) vs
  | _, _, .nil => .nil
  | _, _, .cons a t => .cons a (vals_rs t)
theorem IsRs.app {mg : Str → Option Value} {q : Addr → Prop} {env : Env} {σ : L2.St} {H0 H : Hp} {rs ss : List DL.R} {vs us : List V} (h : IsRs mg q env σ H0 H rs vs) (g : IsRs mg q env σ H0 H ss us) : IsRs mg q env σ H0 H (rs ++ ss) (vs ++ us) := by
  induction h with
  | nil => exact g
  | cons a t ih => exact .cons a ih
section
variable {X : Cx} {e : Expr} {es : List Expr} {f : EM R} {fs : EM (List R)} {p : Pos}
theorem dstar (he : PE X e (TD X.mg f)) (hr : PA X es (TDA X.mg fs)) (hs : starEach (.Starred e p :: es) X.env = (true, eval e X.env) :: starEach es X.env := by rfl) : PA X (.Starred e p :: es) (TDA X.mg (eStar f fs)) := by
  refine PA.of (StX.pa_star he hr hs) fun σ H Q h => ?_
  obtain ⟨q, env, r, env', R, ev, k⟩ := h
  obtain ⟨r1, e1, h1, ev1⟩ := eBind_some ev
  obtain ⟨dx, e3, h3, ev3⟩ := eBind_some ev1
  obtain ⟨h3', rfl⟩ := eLook_some h3
  refine ⟨q, env, r1, _, R, h1, fun v H1 R1 S1 i1 => ?_⟩
  have iv := i1.look R1 h3'
  split at ev3
  · obtain ⟨rs, e4, h4, ev4⟩ := eBind_some ev3
    obtain ⟨rfl, rfl⟩ := eRet_some ev4
    obtain ⟨a1, xs, rfl, ex, d1⟩ := iv.lstE
    refine ⟨a1, xs, rfl, .inr (SqL.of ex), q, _, rs, _, R1, h4, fun vs H2 R2 S2 i2 => k _ H2 R2 (S1.trans S2) (IsRs.app ?_ (i2.back S1.dom))⟩
    exact vals_rs (S2.isDs d1)
  · obtain ⟨rs, e4, h4, ev4⟩ := eBind_some ev3
    obtain ⟨rfl, rfl⟩ := eRet_some ev4
    obtain ⟨a1, xs, rfl, _, ex, d1⟩ := iv.tupE
    refine ⟨a1, xs, rfl, .inl (SqT.of ex), q, _, rs, _, R1, h4, fun vs H2 R2 S2 i2 => k _ H2 R2 (S1.trans S2) (IsRs.app ?_ (i2.back S1.dom))⟩
    exact vals_rs (S2.isDs d1)
  · cases ev3
end
end DL
/-! dict(pairs) whose keys are tuples of truth values, all unlike. -/
namespace DL
open PySem PySem.Spec L2
open PyProof.Rows hiding St
abbrev Ent := Addr × Addr × List Bool × V
def rDictT (K : PySem.W.Frag) : List V → Hp → VK → Prop := fun xs H Q => ∃ (a : Addr) (T : List Ent), xs = [.ref a] ∧ SqL K H a (T.map fun t => V.ref t.1) ∧ (∀ t ∈ T, H t.1 = some (.tup [.ref t.2.1, t.2.2.2]) ∧ H t.2.1 = some (.tup (t.2.2.1.map V.bl))) ∧ (T.map (·.2.2.1)).Nodup ∧ T.length ≤ 100000 ∧
  ∀ p o, H p = none → Q (.ref p) (upd H p (dtO o p (T.map (·.2.1)) (T.map (·.2.2.2))))
theorem stored_new {K : Type} [DecidableEq K] : ∀ (ps xs : List (K × Addr × Value)), ((xs ++ ps).map (·.1)).Nodup → storedAllH xs ps = xs ++ ps
  | [], xs, _ => by simp [storedAllH]
  | p :: ps, xs, h => by
    have e : atKey xs p.1 = none := by
      unfold atKey
      rw [Option.map_eq_none_iff, List.find?_eq_none]
      intro x hx hz
      have hz' : x.1 = p.1 := of_decide_eq_true hz
      rw [List.map_append, List.nodup_append] at h
      exact h.2.2 x.1 (List.mem_map_of_mem hx) p.1 (by simp) hz'
    show storedAllH (storedH xs p.1 p.2.1 p.2.2) ps = _
    rw [storedH_new e, stored_new ps (xs ++ [p]) (by simpa using h)]
    simp
theorem items_bools {P : Program} {w : World} : ∀ {ks : List Bool} {us : List Value}, Vals (ks.map V.bl) us → ItemsAre (PpSet.boolK P w) ks us
  | [], us, r => by cases r; exact .nil
  | k :: ks, us, r => by
    rw [List.map_cons] at r
    cases r with
    | cons a t =>
      cases a
      exact .cons (PpSet.boolK_is P w k) (items_bools t)
section
variable {X : Cx} {pins : List (Addr × Obj)}
    {σ : L2.St} {H : Hp} {s : Shared}
theorem entries_of (I : Inv X pins σ H s) : ∀ T : List Ent, (∀ t ∈ T, H t.1 = some (.tup [.ref t.2.1, t.2.2.2]) ∧ H t.2.1 = some (.tup (t.2.2.1.map V.bl))) →
    ∃ us : List Value, Vals (T.map (·.2.2.2)) us ∧ us.length = T.length ∧ ∀ (j : Nat) (t : Ent), T[j]? = some t → ∃ u, us[j]? = some u ∧ PairAt s.heap t.1 (.ref t.2.1) u ∧ IsTupleKey (PpSet.boolK X.prog X.w) s.heap t.2.2.1 t.2.1
  | [], _ => ⟨[], .nil, rfl, fun j t e => by simp at e⟩
  | t :: T, h => by
    obtain ⟨us, r, hl, hp⟩ := entries_of I T fun t' ht => h t' (List.mem_cons_of_mem _ ht)
    obtain ⟨h1, h2⟩ := h t (List.mem_cons_self ..)
    obtain ⟨its, rv, ht, _⟩ := I.tuple (SqT.of (K := X.K) h1)
    obtain ⟨u, y, ei, ru, ry⟩ :=
        vals2 rv
    subst ei
    cases ru
    obtain ⟨its2, rv2, ht2, _⟩ := I.tuple (SqT.of (K := X.K) h2)
    refine ⟨y :: us, .cons ry r, by rw [List.length_cons, List.length_cons, hl], fun j t' e => ?_⟩
    cases j with
    | zero =>
      cases e
      obtain ⟨o, ho, hc, n, hd⟩ := ht2
      exact ⟨y, rfl, .inl ht, o, _, n, ho, hc, hd, by simpa using items_bools rv2⟩
    | succ j =>
      obtain ⟨u, e1, e2, e3⟩ := hp j t' (by simpa using e)
      exact ⟨u, by simpa using e1, e2, e3⟩
theorem zip_at {T : List Ent} {us : List Value} {j : Nat} {k v : Value} (e : ((T.map fun t => (Value.ref t.2.1)).zip us)[j]? = some (k, v)) : ∃ t, T[j]? = some t ∧ k = .ref t.2.1 ∧ us[j]? = some v := by
  rw [List.getElem?_zip_eq_some, List.getElem?_map] at e
  obtain ⟨e1, e2⟩ := e
  cases ht : T[j]? with
  | none => rw [ht] at e1; cases e1
  | some t =>
    rw [ht] at e1
    cases e1
    exact ⟨t, rfl, rfl, e2⟩
def hEnt (T : List Ent) (us : List Value) : List (List Bool × Addr × Value) := T.zipWith (fun t u => (t.2.2.1, t.2.1, u)) us
theorem hEnt_at {T : List Ent} {us : List Value} {j : Nat} {t : Ent} {v : Value} (e1 : T[j]? = some t) (e2 : us[j]? = some v) : (hEnt T us)[j]? = some (t.2.2.1, t.2.1, v) := by
  unfold hEnt
  rw [List.getElem?_zipWith, e1, e2]
theorem hEnt_keys : ∀ {T : List Ent} {us : List Value}, us.length = T.length → (hEnt T us).map (·.1) = T.map (·.2.2.1) ∧ (hEnt T us).length = T.length ∧ (hEnt T us).map (fun x => (Value.ref x.2.1, x.2.2)) = ((T.map (·.2.1)).map Value.ref).zip us
  | [], [], _ => ⟨rfl, rfl, rfl⟩
  | t :: T, u :: us, h => by
    obtain ⟨h1, h2, h3⟩ := hEnt_keys (T := T) (us := us) (by simpa using h)
    refine ⟨?_, ?_, ?_⟩
    · show t.2.2.1 :: (hEnt T us).map (·.1) = _
      rw [h1]; rfl
    · show (hEnt T us).length + 1 = _
      rw [h2]; rfl
    · show (Value.ref t.2.1, u) :: (hEnt T us).map (fun x => (Value.ref x.2.1, x.2.2)) = _
      rw [h3]; rfl
  | [], _ :: _, h =>
      by simp at h
  | _ :: _, [], h =>
      by simp at h
end
section
variable {X : Cx}
theorem call_dictT (hc : X.calm = true) (hu : X.A.units + 64 < cLine) : CallR X (.type "dict") (rDictT X.K) := by
  intro pins s σ
      H xs us Q I r q
  obtain ⟨a, T, ex, hq, hT, hnd, hlT, q⟩ := q
  subst ex
  obtain ⟨u, eu, rx⟩ := vals1 r
  subst eu
  cases rx
  obtain ⟨its, rv, pl, hz⟩ :=
      I.list hq
  obtain ⟨vs, rvs, hl, hp⟩ := entries_of I T hT
  have ei : its = T.map fun t => Value.ref t.1 := by
    have := refs_at (ps := T.map (·.1)) (us := its) (by rw [List.map_map]; exact rv)
    rw [List.map_map] at this
    exact this
  subst ei
  obtain ⟨k1, k2, k3⟩ := hEnt_keys (T := T) (us := vs) hl
  have hsz : T.length ≤ sizeLine := by rw [sizeLine_eq]; omega
  have hlen : ((T.map fun t => (Value.ref t.2.1)).zip vs).length = T.length := by rw [List.length_zip, List.length_map, hl, Nat.min_self]
  refine call_dict_pairsH (knd := tupleKind (PpSet.boolK X.prog X.w)) (ps := hEnt T vs) (PairArg.list a (T.map fun t => Value.ref t.1).toArray (fun j => ((T[j]?).map (·.1)).getD 0) ((T.map fun t => (Value.ref t.2.1)).zip vs)) (I.ok.hd hc) (show X.A.in1.in1.units < cLine by show X.A.units + 1 + 1 < cLine; omega) ⟨?_, ?_, ?_⟩ ⟨?_, ?_⟩ ?_ (by rw [hlen]; exact hsz) fun h' tk hd' kk => ?_
  · exact pl
  · simp [hlen]
  · intro j k v e
    obtain ⟨t, e1, rfl, e2⟩ := zip_at e
    obtain ⟨u, e3, e4, _⟩ := hp j t e1
    rw [e2] at e3
    cases e3
    refine ⟨by simp [e1], ?_⟩
    simpa [e1] using e4
  · rw [k2, hlen]
  · intro j key v e
    obtain ⟨t, e1, rfl, e2⟩ := zip_at e
    exact ⟨_, _, hEnt_at e1 e2, rfl⟩
  · intro h' kk x hx
    obtain ⟨j, hj⟩ :=
        List.mem_iff_getElem?.mp hx
    have hjT : j < T.length := by rw [← k2]; exact (List.getElem?_eq_some_iff.mp hj).1
    obtain ⟨u, e3, _, e5⟩ := hp j T[j] (List.getElem?_eq_getElem hjT)
    rw [hEnt_at (List.getElem?_eq_getElem hjT) e3] at hj
    cases hj
    obtain ⟨o, items, n, ho, hcl, hd, hi⟩ := e5
    exact ⟨o, items, n, kk _ _ (Nat.ne_of_lt (Heap.lt_size ho)) (by simp) ho, hcl, hd, hi⟩
  · rw [stored_new (hEnt T vs) [] (by rw [List.nil_append, k1]; exact hnd), List.nil_append] at hd'
    obtain ⟨o, es, ep, ho, hcl, hdat, hes, _, _⟩ := hd'
    refine ⟨.ref s.heap.objs.size, upd H s.heap.objs.size (dtO o s.heap.objs.size (T.map (·.2.1)) (T.map (·.2.2.2))), I.laid (t' := tk) (fun b o e => kk b o (by simp) e) (Nat.le_refl _) ?_, rfl, q _ o (I.hok.fresh (Nat.le_refl _))⟩
    have hm : (s.heap.objs.size == sysModules) = false :=
        beq_eq_false_iff_ne.mpr (Nat.ne_of_gt I.big)
    refine ⟨ho, ⟨hm, es, ep, vs, ⟨o, ho, hcl, hdat⟩, ?_, by rw [List.length_map, hl], rvs, ?_⟩, ⟨o, ho⟩, fun h1 h2 z k => ?_⟩
    · rw [hes, List.map_map, ← k3]
      rfl
    · rw [← Array.length_toList, hes, List.length_map, k2]
      exact hsz
    · obtain ⟨z0, es, ep, us, raw, z2⟩ := z
      exact ⟨z0, es, ep, us, raw.at' k, z2⟩
end
end DL
namespace DL
open PySem PySem.Spec L2
open PyProof.Rows hiding St
def entD : Dat → Option (List Bool × Dat)
  | .tup [.tup ks, v] => (bools ks).map fun bs => (bs, v)
  | _ => none
def entsD : List Dat → Option (List (List Bool × Dat))
  | [] => some []
  | d :: ds => (entD d).bind fun e => (entsD ds).map fun es => e :: es
def dDictT : List Dat → Option Out
  | [.lst ds] => (entsD ds).bind fun es => if (es.map (·.1)).Nodup ∧ es.length ≤ 100000 then some (true, .dcT (es.map fun e => .tup (e.1.map .bl)) (es.map (·.2))) else none
  | _ => none
section
variable {X : Cx} {mg : Str → Option Value} {p : Addr → Prop} {H : Hp}
theorem bools_dat : ∀ {ds : List Dat} {bs : List Bool}, bools ds = some bs → ds = bs.map .bl
  | [], _, h => by cases h; rfl
  | d :: ds, _, h => by
    cases d with
    | bl b =>
      obtain ⟨bs', e, rfl⟩ := omap h
      rw [bools_dat e]
      rfl
    | _ => cases h
theorem bools_mk : ∀ bs : List Bool, bools (bs.map Dat.bl) = some bs
  | [] => rfl
  | b :: bs => by
    rw [List.map_cons]
    show (bools (bs.map Dat.bl)).map (fun x => b :: x) = _
    rw [bools_mk bs]
    rfl
theorem entD_some {d : Dat} {e : List Bool × Dat} (h : entD d = some e) : d = .tup [.tup (e.1.map .bl), e.2] := by
  unfold entD at h
  split at h
  · obtain ⟨bs, e1, rfl⟩ := omap h
    rw [bools_dat e1]
  · cases h
theorem ents_vs : ∀ {ds : List Dat} {vs : List V} {es : List (List Bool × Dat)}, IsDs mg p H ds vs → entsD ds = some es →
    ∃ T : List Ent, vs = T.map (fun t => V.ref t.1) ∧ (∀ t ∈ T, H t.1 = some (.tup [.ref t.2.1, t.2.2.2]) ∧ H t.2.1 = some (.tup (t.2.2.1.map V.bl))) ∧ T.map (·.2.2.1) = es.map (·.1) ∧ T.length = es.length ∧
      IsDs mg p H (es.map fun e => .tup (e.1.map .bl)) ((T.map (·.2.1)).map V.ref) ∧ IsDs mg p H (es.map (·.2)) (T.map (·.2.2.2))
  | _, _, _, .nil, h => by cases h; exact ⟨[], rfl, (fun t z => by cases z), rfl, rfl, .nil, .nil⟩
  | _, _, _, .cons (d := d) a t, h => by
    obtain ⟨e, h1, h2⟩ := Option.bind_eq_some_iff.mp h
    obtain ⟨es, h3, rfl⟩ := omap h2
    have hd := entD_some h1
    subst hd
    obtain ⟨T, g1, g2, g3, g4, g5, g6⟩ := ents_vs t h3
    cases a with
    | @tup a1 vs1 _ n1 s1 r1 =>
      cases r1 with
      | cons k1 r2 =>
        cases r2 with
        | cons x1 r3 =>
          cases r3
          cases k1 with
          | @tup a2 vs2 _ n2 s2 r4 =>
            rename_i vv
            have hb : vs2 = e.1.map V.bl := bools_vs r4 (bools_mk _)
            subst hb
            refine ⟨(a1, a2, e.1, vv) :: T, by rw [g1]; rfl, fun t ht => ?_, by simp [g3], by simp [g4], ?_, ?_⟩
            · rcases List.mem_cons.mp ht with z | z
              · subst z
                exact ⟨s1, s2⟩
              · exact g2 t z
            · exact .cons (.tup n2 s2 r4) g5
            · exact .cons x1 g6
theorem r_dictT (hc : X.calm = true) (hu : X.A.units + 64 < cLine) : RuleN X (.type "dict") dDictT := by
  refine ⟨_, call_dictT hc hu, ?_⟩
  intro p H ds vs out hp h ho Q k
  unfold dDictT at ho
  split at ho
  · obtain ⟨es, e, h2⟩ := Option.bind_eq_some_iff.mp ho
    split at h2
    · rename_i hc
      cases h2
      obtain ⟨v, rfl, i⟩ := one_of h
      obtain ⟨a1, xs, rfl, e1, d1⟩ := i.lstE
      obtain ⟨T, rfl, g2, g3, g4, g5, g6⟩ := ents_vs d1 e
      refine ⟨a1, T, rfl, SqL.of e1, g2, by rw [g3]; exact hc.1, by rw [g4]; exact hc.2, fun q o hq => k _ _ (ext_new hq) ⟨q, rfl, hq, _, _, _, upd_same, ?_, ?_⟩⟩
      · exact (g5.off hq).mono (fun _ z => z) fun b o e _ => ext_new hq b o e
      · exact (g6.off hq).mono (fun _ z => z) fun b o e _ => ext_new hq b o e
    · cases h2
  · cases ho
end
end DL
/-! for k, v in d.items(), d a dict whose keys are tuples of truth values. -/
namespace DL
open PySem PySem.Spec L2
open PyProof.Rows hiding St
def ItT (d : Addr) (o : Obj) (kas : List Addr) (vs : List V) : It :=
  ⟨fun i H => H d = some (dtO o d kas vs) ∧ i < kas.length, fun i H x H' => ∃ T ka v, kas[i]? = some ka ∧ vs[i]? = some v ∧ x = .ref T ∧ H T = none ∧ H' = upd H T (.tup [.ref ka, v]), fun i H => H d = some (dtO o d kas vs) ∧ kas.length ≤ i⟩
section
variable {X : Cx} {pins : List (Addr × Obj)} {σ : L2.St} {H : Hp} {s : Shared} {d : Addr} {o : Obj} {kas : List Addr} {vs : List V}
theorem frzI (I : Inv X pins σ H s) (h : H d = some (dtO o d kas vs)) : (d == sysModules) = false ∧ s.heap.get? d = some o ∧ o.ExactDict ∧ ∃ (es : Array DictEntry) (ep : Nat) (us : List Value), o.data = .dict es ep ∧ es.size = kas.length ∧ vs.length = kas.length ∧ Vals vs us ∧
    (∀ (i : Nat) (hi : i < es.size), ∃ ka u, kas[i]? = some ka ∧ us[i]? = some u ∧ es[i].key = .ref ka ∧ es[i].val = u) := by
  obtain ⟨hd, ⟨z0, es, ep, us, ⟨o', ho, hx, hdt⟩, he, hl, rv, hz⟩, _⟩ := I.hok d _ h
  rw [hd] at ho
  cases ho
  have hsz : es.size = kas.length := by
    have := congrArg List.length he
    rw [List.length_map, Array.length_toList, List.length_zip, List.length_map, hl, Nat.min_self] at this
    omega
  refine ⟨z0, hd, hx, es, ep, us, hdt, hsz, by rw [rv.length, hl], rv, fun i hi => ?_⟩
  have e := congrArg (fun l => l[i]?) he
  simp only [List.getElem?_map, Array.getElem?_toList, Array.getElem?_eq_getElem hi, Option.map_some] at e
  have e2 := List.getElem?_zip_eq_some.mp e.symm
  rw [List.getElem?_map] at e2
  cases hk : kas[i]? with
  | none => rw [hk] at e2; cases e2.1
  | some ka =>
    rw [hk] at e2
    exact ⟨ka, es[i].val, rfl, e2.2, (Option.some.inj e2.1).symm, rfl⟩
theorem turn_itemsT {P : Program} {w : World} {K : PySem.W.Frag} {elts : List Expr} {kk : Nat} {tpos : Pos} {es : Array DictEntry} {ep : Nat} (it : Addr) (hod : o.data = .dict es ep) :
    Turn P w K (.Tuple elts kk tpos) (ItT d o kas vs) [it] it (fun i h => ∃ ok ov, IsItemIter h it d i es.size ep ok ov) where
  mem := by simp
  obj := fun i h st b hb => by
    have e : b = it :=
        by simpa using hb
    subst e
    obtain ⟨ok, ov, e⟩ := st
    exact ⟨_, e, fun v z =>
        nomatch z⟩
  keep := fun i h h' st k => let ⟨ok, ov, e⟩ :=
      st; ⟨ok, ov, k it (by simp) _ e⟩
  item := by
    intro X hP hw hK hc i
        pins s σ H E I hf st hg
    subst hP hw hK
    obtain ⟨hd, hi⟩ := hg
    obtain ⟨hs, hgd, hx, es', ep', us, hdt, hsz, hlv, rv, hat⟩ := frzI I hd
    obtain ⟨rfl, rfl⟩ :=
        dict_ep hod hdt
    have hi' : i < es'.size := by rw [hsz]; exact hi
    obtain ⟨ka, u, e1, e2, e3, e4⟩ := hat i hi'
    obtain ⟨v, ev⟩ : ∃ v, vs[i]? = some v := ⟨vs[i]'(by rw [hlv]; exact hi), List.getElem?_eq_getElem _⟩
    obtain ⟨u', eu, ru⟩ := rv.get ev
    rw [e2] at eu
    cases eu
    obtain ⟨ok, ov, he⟩ := st
    have hlt : it < s.heap.objs.size :=
        Heap.lt_size he
    refine wpAny_pyNext_items_item_raw he ⟨o, hgd, hx, hdt⟩ hi' fun h' ho hT hz hk => ?_
    rw [e3, e4] at ho hT
    refine ⟨_, rfl, wpAny_letOwnedTupleGo_items (s :=
        { s with heap := h' }) ho fun h'' he' sb => ?_⟩
    have hT2 : h''.get? s.heap.objs.size = some { cls := .type "tuple", data := .seq #[.ref ka, u] } := (sb.2 _ (Nat.ne_of_gt hlt)).trans hT
    have new : ObjOk X.prog X.w (upd H s.heap.objs.size (.tup [.ref ka, v])) h'' s.heap.objs.size (.tup [.ref ka, v]) :=
      ⟨by show 2 ≤ sizeLine; decide, [.ref ka, u], .cons rfl (.cons ru .nil), ⟨_, hT2, rfl, _, rfl⟩⟩
    have I1 : Inv X pins σ (upd H s.heap.objs.size (.tup [.ref ka, v])) { s with heap := h'' } :=
      I.turnedNew (t' := s.toks) (ch := [it]) (fun b ob hb e =>
          (sb.2 b (by simpa using hb)).trans (hk b ob (by simpa using hb) e)) hf (Nat.le_refl _) new
    refine ⟨.ref s.heap.objs.size, _, I1, rfl, ⟨_, ka, v, e1, ev, rfl, I.hok.fresh (Nat.le_refl _), rfl⟩, ⟨.ref ka, u, he'⟩, fun b hb => ?_⟩
    have e : b = it :=
        by simpa using hb
    rw [e,
        upd_ne (Nat.ne_of_lt hlt)]
    exact (hf it (by simp)).1
  done := by
    intro X hP hw hK hc i
        pins s σ H E I hf st hg
    subst hP hw hK
    obtain ⟨hd, hi⟩ := hg
    obtain ⟨f0, f1, f2, f3, f4, f5⟩ :=
        hf it (by simp)
    obtain ⟨hs, hgd, hx, es', ep', us, hdt, hsz, hlv, rv, hat⟩ := frzI I hd
    obtain ⟨rfl, rfl⟩ :=
        dict_ep hod hdt
    obtain ⟨ok, ov, he⟩ := st
    exact wpAny_pyNext_items_end_raw (I.ok.hd hc) he ⟨o, hgd, hx, hdt⟩ (by rw [hsz]; exact hi) fun h' eb => ⟨rfl, I.turned (t' := s.toks) (fun b ob hb e => eb b ob hb e) f0 f1 f3 f4 f5⟩
  self := fun A i s Q E st h =>
      let ⟨_, _, e⟩ := st; PySem.W.kcp_self e h
end
def iItT (td : TE) : TI := fun σ H R => td σ H fun x H1 => ∃ d o kas vs, x = .ref d ∧ H1 d = some (dtO o d kas vs) ∧ R (ItT d o kas vs) H1
section
variable {X : Cx} {tg e : Expr}
    {td : TE} {apos cpos : Pos}
theorem pi_itemsT {elts : List Expr} {kk : Nat} {tpos : Pos} (he : PE X e td) (hbase : attributeBase e "items" X.env (eval e X.env) = eval e X.env := by rfl) (hline : (apos.endLine == cpos.line) = true := by rfl) :
    PI X (.Tuple elts kk tpos) (.Call (.Attribute e "items" apos) [] [] cpos) (iItT td) := by
  refine ⟨fun pins s σ H R I h =>
      ?_⟩
  refine wpAny_Call_method (T := "dict") (id := "dict.items") hbase rfl hline F.plainAttrs_dict F.slot_dict_items F.type_dict_items (thn (he.run pins s σ H _ I h) fun u s1 ⟨x, H1, I1, rx, d, o, kas, vs, ex, hd, q⟩ => ?_)
  subst ex
  obtain rfl : u =
      Value.ref d := rx
  obtain ⟨hs, hgd, hx, es, ep, us, hdt, hsz, hlv, rv, hat⟩ := frzI I1 hd
  have raw : s1.heap.DictRaw d es ep := ⟨o, hgd, hx, hdt⟩
  refine ⟨raw.typeIs, fun a e => ⟨o, by cases e; exact hgd, hx.2.1⟩, ?_⟩
  have I2 : Inv X pins σ H1 { s1 with heap := s1.heap.push { cls := .type "dict_items", data := .fields #[.ref d] } } :=
    I1.kept (t' := s1.toks) fun b ob q => Heap.get?_push_of_some _ q
  have fin : wpAny (model X.prog X.w) X.A (pyIter (.ref s1.heap.objs.size)) (PIE X pins σ (.Tuple elts kk tpos)
      R) X.xe { s1 with heap := s1.heap.push { cls := .type "dict_items", data := .fields #[.ref d] } } := by
    refine wpAny_pyIter_items_raw (d := d) ⟨_, Heap.get?_push_size _ rfl, rfl, rfl⟩ (raw.at fun o q => Heap.get?_push_of_some _ q) (pi_one (tk := s1.toks) I2 _ (turn_itemsT _ hdt) ⟨.none, .none, ?_⟩ q)
    exact Heap.get?_push_size
        _ rfl
  show wpAny _ _ (callWith cpos (.builtin
      "dict.items") [.ref d] [] []) _ X.xe s1
  exact method_meetsIn F.slot_dict_items F.entry_dict_items rfl (PySem.evalArgs_none ⟨rfl, raw.typeIs, F.args_dict_items_1 _, _, meets_dict_items_raw d hs, ⟨es, ep, raw⟩, fin⟩)
end
/-! over data -/
def itPairs : List Dat → List Dat → List Dat
  | k :: ks, d :: ds => .tup [k, d] :: itPairs ks ds
  | _, _ => []
theorem itPairs_len : ∀ {ks ds : List Dat}, ks.length = ds.length → (itPairs ks ds).length = ks.length
  | [], [], _ => rfl
  | _ :: ks, _ :: ds, h => by
    show (itPairs ks ds).length + 1 = _
    rw [itPairs_len (by simpa using h)]
    rfl
  | [], _ :: _, h => by cases h
  | _ :: _, [], h => by cases h
theorem itPairs_at : ∀ {ks ds : List Dat} {i : Nat} {k d : Dat}, ks[i]? = some k → ds[i]? = some d → (itPairs ks ds)[i]? = some (.tup [k, d])
  | _ :: _, _ :: _, 0, _, _, h, g => by
    cases h
    cases g
    rfl
  | _ :: ks, _ :: ds, i + 1, k, d, h, g => itPairs_at (ks := ks) (ds := ds) (i := i) (by simpa using h) (by simpa using g)
  | [], _, _, _, _, h, _ =>
      by simp at h
  | _ :: _, [], _, _, _, _, g => by simp at g
def iItemsD (f : EM R) : EM (List Dat) := eBind f fun r => eBind (eForce r) fun d => match d with
  | .dcT ks ds => if ks.length = ds.length then eRet (itPairs ks ds) else fun _ => none
  | _ => fun _ => none
section
variable {X : Cx} {e : Expr} {apos cpos : Pos} {f : EM R}
theorem it_itemsT {mg : Str → Option Value} {p : Addr → Prop} {H : Hp} {a : Addr} {o : Obj} {kas : List Addr} {vs : List V} {ks ds : List Dat} (n : ¬ p a) (h : H a = some (dtO o a kas vs)) (r1 : IsDs mg p H ks (kas.map V.ref)) (r2 : IsDs mg p H ds vs) (hl : ks.length = ds.length) : ItOk mg p H (ItT a o kas vs) (itPairs ks ds) := by
  intro p' H' hs hp hd
  have h' : H' a = some (dtO o a kas vs) := hs a _ h n
  have l1 : ks.length = kas.length := by rw [r1.length, List.length_map]
  have hlen := itPairs_len hl
  refine ⟨fun i hi => ⟨h', by omega⟩, fun i hi => ⟨h', by omega⟩, fun i x H'' hy hi => ?_⟩
  obtain ⟨T, ka, v, e1, e2, rfl, hT, rfl⟩ := hy
  have up : ∀ b u, H' b = some u → upd H' T (.tup [.ref ka, v]) b = some u := ext_new hT
  obtain ⟨k, hk, dk⟩ := r1.get' (i := i) (v := .ref ka) (by rw [List.getElem?_map, e1]; rfl)
  obtain ⟨d, hd', dd⟩ := r2.get' e2
  refine ⟨up, .tup [k, d], itPairs_at hk hd', .tup (fun z => hd T z hT) upd_same (.cons ?_ (.cons ?_ .nil))⟩
  · exact dk.all.mono (fun b z => hp b z) fun b u e nb => up b u (hs b u e fun z => nb (.inl z))
  · exact dd.all.mono (fun b z => hp b z) fun b u e nb => up b u (hs b u e fun z => nb (.inl z))
theorem di_items {elts : List Expr} {kk : Nat} {tpos : Pos} (he : PE X e (TD X.mg f)) (hbase : attributeBase e "items" X.env (eval e X.env) = eval e X.env := by rfl) (hline : (apos.endLine == cpos.line) = true := by rfl) :
    PI X (.Tuple elts kk tpos) (.Call (.Attribute e "items" apos) [] [] cpos) (TDI X.mg (iItemsD f)) := by
  refine PI.of (pi_itemsT he hbase hline) ?_
  rintro σ H Q ⟨q, env, ds, env', R, ev, k⟩
  obtain ⟨r1, e1, h1, ev1⟩ := eBind_some ev
  obtain ⟨d, e2, h2, ev2⟩ := eBind_some ev1
  refine ⟨q, env, r1, e1, R, h1, fun v H1 R1 S1 i1 => ?_⟩
  obtain ⟨R2, S2, hd⟩ := i1.force R1 h2
  split at ev2
  · split at ev2
    · rename_i hl
      obtain ⟨rfl, rfl⟩ := eRet_some ev2
      cases hd with
      | dcT n s k1 r => exact ⟨_, _, _, _, rfl, s, k _ H1 R2 (S1.trans S2) (it_itemsT n s k1 r hl)⟩
    · cases ev2
  · cases ev2
end
end DL
/-! A def called by two names, in the other order. -/
namespace DL
open PySem PySem.Spec L2
open PyProof.Rows hiding St
def swap2 {α : Type} : List α → List α
  | [a, b] => [b, a]
  | l => l
def swapG {α : Type} (us ws : List α) : List α := match us with
  | [] => swap2 ws
  | _ => []
theorem swap_rel {zs : List V} {ws : List Value} (q : Vals zs ws) : Vals (swap2 zs) (swap2 ws) := by
  cases q with
  | nil => exact .nil
  | cons a t =>
    cases t with
    | nil => exact .cons a .nil
    | cons b t =>
      cases t with
      | nil => exact .cons b (.cons a .nil)
      | cons c t => exact .cons a (.cons b (.cons c t))
theorem swapG_rel {vs : List V} {us : List Value} {zs : List V} {ws : List Value} (r : Vals vs us) (q : Vals zs ws) : Vals (swapG vs zs) (swapG us ws) := by
  cases r with
  | nil => exact swap_rel q
  | cons _ _ => exact .nil
structure Knk (P : Program) (w : World) (K : PySem.W.Frag) (mg : Str → Option Value) (base : Heap) (x : Str) (ks : List Str) (k n : Nat) (F : EM R) : Prop where
  ex : ∃ f fd ps, mg x = some (.ref f) ∧ PySem.W.keepIn K (.ref f) = true ∧ KBinds K fd ps ks swapG swapG ∧ FnOk P w K mg base CX0 k f fd ps (spF mg n F)
  hn : ∀ env, F env ≠ none → env.length = n
def eSwap (fs : EM (List R)) : EM (List R) := eBind fs fun rs => eRet (swap2 rs)
section
variable {X : Cx} {x : Str} {p pos : Pos} {ks : List Str} {fs : EM (List R)} {F : EM R} {j k n : Nat} {kws : List Keyword}
theorem IsRs.swap {mg : Str → Option Value} {q : Addr → Prop} {env : Env} {σ : L2.St} {H0 H : Hp} {rs : List DL.R} {vs : List V} (h : IsRs mg q env σ H0 H rs vs) : IsRs mg q env σ H0 H (swap2 rs) (swap2 vs) := by
  cases h with
  | nil => exact .nil
  | cons a t =>
    cases t with
    | nil => exact .cons a .nil
    | cons b t =>
      cases t with
      | nil => exact .cons b (.cons a .nil)
      | cons c t => exact .cons a (.cons b (.cons c t))
theorem dcallK (G : Knk X.prog X.w X.K X.mg X.base x ks k n F) (hr : Room j X.A) (hkw : PK X kws (TDA X.mg fs)) (hj : k ≤ j := by omega) (hg : Gl X x := by rfl) (hall : (backToKw pos (keywordEach kws X.env)).all (·.1.isSome) = true := by rfl) (hks : (backToKw pos (keywordEach kws X.env)).filterMap (·.1) = ks := by rfl)
    (hdb : (x == ("__debug__" : Str)) = false := by decide) (hpl : ((backTo pos (starEach [] X.env)).any (·.1) || (backToKw pos (keywordEach kws X.env)).any (·.1.isNone)) = false := by rfl) :
    PE X (.Call (.Name x p) [] kws pos) (TD X.mg (eCallV F (eSwap fs))) := by
  obtain ⟨f, fd, ps, hm, hk, hb, G1⟩ := G.ex
  refine ⟨fun pins s σ H Q I h =>
      ?_⟩
  refine wpAny_Call_Name_kw
      (ld_glob I hg hm ?_ hdb)
  obtain ⟨q, env, r, env', R, ev, kk⟩ := h
  obtain ⟨rs0, e1, h1, ev1⟩ := eBind_some ev
  obtain ⟨rs, e2, h2, h3⟩ := eBind_some h1
  obtain ⟨rfl, rfl⟩ := eRet_some h3
  refine PySem.W.callWith_KW0 (h₀ := X.base) I.ok.mod.kin hk hall (thn (hkw.run pos pins s σ H (fun zs H2 => spF X.mg n F (swapG [] zs) H2 Q E0) I ⟨q, env, rs, _, R, h2, fun vs H1 R1 S1 i1 => ?_⟩) fun ws s3 ⟨zs, H2, I3, rz, q2⟩ => ⟨I3.kIn, ?_⟩) hpl
  · exact at_callV (E := E0) (rs := swap2 rs) (vs := swap2 vs) G.hn R1 S1 i1.swap (show eCallV F (eRet (swap2 rs)) _ = _ from ev1) kk
  · rw [hks]
    exact run_fnk (us := []) (vs := []) G1 (hr.mono hj) hb (E := E0) pass0 I3 .nil rz q2
end
section
variable {P : Program} {w : World} {K : PySem.W.Frag}
    {mg : Str → Option Value} {base : Heap}
theorem knk_ok {x qual : Str} {params : Arguments} {body : List Stmt} {scope : Scope} {f : Addr} {fd : FuncData} {N : List Str} {p1 p2 : Str} {k : Nat} {fb : EM O} (hm : mg x = some (.ref f)) (F : FunD K x qual params body scope [] [] f fd) (S : FnScope N [p1, p2] scope)
    (bk : ∀ (kV doc pm : Value) (an : Option Addr) (cdv ct : Value) (a b : Value), bindArgs (PySem.W.fnOf x qual params body scope .none kV doc pm an cdv ct) ⟨[], [(p2, a), (p1, b)]⟩ = pure [(p1, b), (p2, a)])
    (hb : ∀ (cdv : Value) (A : Around) (outer : List PySem.Env) (s : Shared) (H : Hp) (E : XK), Room k (A.deeper (envOfC qual scope s.heap.objs.size f cdv)) → PSs (cxOf CX0 P w K mg base N qual scope f cdv A outer s H E).nox body (TDS mg fb)) :
    Knk P w K mg base x [p2, p1] (k + 1) 2 (runF N.length 2 fb) := by
  refine ⟨⟨f, fd, [p1, p2], hm, F.kp, ?_, fn_ok F S fun cdv A outer s H E hr => PSs.nox (hb cdv A outer s H E hr)⟩, fun env h => runF_len env h⟩
  obtain ⟨oc, od, dV, kV, doc, pm, an, cdv, ct, osl, rfl, lk, hcd, hd, hk⟩ := F.ex
  rcases hd with ⟨_, rfl⟩ | ⟨e, _⟩
  · refine ⟨fun s us ws hs hl => ?_, swapG_rel⟩
    cases us with
    | nil =>
      match ws, hl with
      | [a, b], _ => exact .of_eq (bk kV doc pm an cdv ct a b)
      | [], hl => cases hl
      | [_], hl => cases hl
      | _ :: _ :: _ :: _, hl => simp [swapG, swap2] at hl
    | cons u us => cases hl
  · exact absurd rfl e
end
end DL
/-! A class's __init__ and methods, from their defs. -/
namespace DL
open PySem PySem.Spec L2
open PyProof.Rows hiding St
section
variable {P : Program} {w : World} {K : PySem.W.Frag} {mg : Str → Option Value} {base : Heap} {c m qual : Str} {C : Addr} {own : List Str} {params : Arguments} {body : List Stmt} {scope : Scope} {f : Addr} {fd : FuncData} {N ps : List Str} {k : Nat} {fb : EM O}
theorem ink_ok (B : ObC K mg c C own) (M : Mk K C f) (F : FunD K "__init__" qual params body scope [] [] f fd) (S : FnScope N ((Str.ofString "self") :: ps) scope)
    (bd : ∀ (kV doc pm : Value) (an : Option Addr) (cdv ct : Value) (us : List Value), us.length = ((Str.ofString "self") :: ps).length → bindArgs (PySem.W.fnOf "__init__" qual params body scope .none kV doc pm an cdv ct) ⟨us, []⟩ = pure (((Str.ofString "self") :: ps).zip us))
    (hb : ∀ (cdv : Value) (A : Around) (outer : List PySem.Env) (s : Shared) (H : Hp) (E : XK), Room k (A.deeper (envOfC qual scope s.heap.objs.size f cdv)) → PSs (cxOf CX0 P w K mg base N qual scope f cdv A outer s H E).nox body (TDS mg fb)) :
    Ink P w K mg base c ps (k + 1) ((Str.ofString "self") :: ps).length (runF N.length ((Str.ofString "self") :: ps).length fb) own :=
  ⟨⟨C, f, fd, B, M, F.bindsN bd, fn_ok F S fun cdv A outer s H E hr => PSs.nox (hb cdv A outer s H E hr)⟩, fun env h => runF_len env h⟩
theorem mtk_ok (B : ObC K mg c C own) (M : Meth K C m f) (hf : PySem.W.fnIn K f = true) (F : FunD K m qual params body scope [] [] f fd) (S : FnScope N ps scope)
    (bd : ∀ (kV doc pm : Value) (an : Option Addr) (cdv ct : Value) (us : List Value), us.length = ps.length → bindArgs (PySem.W.fnOf m qual params body scope .none kV doc pm an cdv ct) ⟨us, []⟩ = pure (ps.zip us))
    (hb : ∀ (cdv : Value) (A : Around) (outer : List PySem.Env) (s : Shared) (H : Hp) (E : XK), Room k (A.deeper (envOfC qual scope s.heap.objs.size f cdv)) → PSs (cxOf CX0 P w K mg base N qual scope f cdv A outer s H E).nox body (TDS mg fb)) :
    Mtk P w K mg base c m ps (k + 1) ps.length (runF N.length ps.length fb) own :=
  ⟨⟨C, f, fd, B, M, hf, F.bindsN bd, fn_ok F S fun cdv A outer s H E hr => PSs.nox (hb cdv A outer s H E hr)⟩, fun env h => runF_len env h⟩
end
section
variable {X : Cx} {elt tg iter tg1 iter1 : Expr} {ifs ifs1 : List Expr} {scope : Scope} {own : List (Str × Nat)} {pos spos : Pos} {it it1 : EM (List Dat)} {gs gs1 : List Nat} {g g1 : Dat → EM Unit} {t t1 : EM Bool} {f : EM R}
theorem ds_setLc2 {i : Nat} {y : Str} {py : Pos} (hy : X.N[i]? = some y) (hyl : X.env.scope.names.lookup y = some .local) (hsw : swapsWith (.ListComp elt [⟨tg, iter, ifs, 0⟩, ⟨tg1, iter1, ifs1, 0⟩] scope pos) (some (.Name y py)) spos.line X.env = pure true)
    (hc : X.calm = true) (hN : X.N.Nodup) (hi : PI X tg iter (TDI X.mg it)) (ok : BlkOk X.N X.env.scope scope own) (vs1 : List Nat) (hvs : ∀ i ∈ vs1, i ∈ own.map (·.2)) (hv : ∀ j, j ∈ gs → j ∈ own.map (·.2)) (hv1 : ∀ j, j ∈ gs1 → j ∈ vs1)
    (hg : ∀ (s : Shared) (H : Hp) (C : Addr) (cl : List (Str × Addr)) (fp : List Addr), PG (X.blk s H scope (compEnvC scope cl C X.env) fp) tg (TDG X.mg gs g)) (ht : ∀ (s : Shared) (H : Hp) (C : Addr) (cl : List (Str × Addr)) (fp : List Addr), PTs (X.blk s H scope (compEnvC scope cl C X.env) fp) ifs (TDT X.mg t))
    (hi1 : ∀ (s : Shared) (H : Hp) (C : Addr) (cl : List (Str × Addr)) (fp : List Addr), PI (X.blk s H scope (compEnvC scope cl C X.env) fp) tg1 iter1 (TDI X.mg it1)) (hg1 : ∀ (s : Shared) (H : Hp) (C : Addr) (cl : List (Str × Addr)) (fp : List Addr), PG (X.blk s H scope (compEnvC scope cl C X.env) fp) tg1 (TDG X.mg gs1 g1))
    (ht1 : ∀ (s : Shared) (H : Hp) (C : Addr) (cl : List (Str × Addr)) (fp : List Addr), PTs (X.blk s H scope (compEnvC scope cl C X.env) fp) ifs1 (TDT X.mg t1)) (he : ∀ (s : Shared) (H : Hp) (C : Addr) (cl : List (Str × Addr)) (fp : List Addr), PE (X.blk s H scope (compEnvC scope cl C X.env) fp) elt (TD X.mg f))
    (hs : ∀ x, foldedSetIterable iter X.env x = pure x := by intro _; rfl) (hs1 : ∀ env x, foldedSetIterable iter1 env x = pure x := by intro _ _; rfl) :
    PS X (.Assign [.Name y py] (.ListComp elt [⟨tg, iter, ifs, 0⟩, ⟨tg1, iter1, ifs1, 0⟩] scope pos) spos) (TDS X.mg (sSet i (DL.eLc2 it g t it1 g1 t1 f (own.map (·.2)) vs1))) := by
  refine PS.of (ps_setLc2 hc hN hy hyl hsw hi ok hvs hg ht hi1 hg1 ht1 he hs hs1) ?_
  rintro D σ H ⟨q, env, o, env', R, ev, k⟩
  obtain ⟨r1, e1, h1, ev1⟩ := eBind_some ev
  obtain ⟨⟨⟩, e2, h2, ev2⟩ := eBind_some ev1
  obtain ⟨rfl, rfl⟩ := eRet_some ev2
  refine red_lc2 _ vs1 hv hv1 σ H _ ⟨q, env, r1, e1, R, h1, fun v H1 R1 S1 i1 => ?_⟩
  obtain ⟨R2, S2⟩ := eSet_ok R1 i1 h2
  exact k _ H1 R2 (S2 env S1)
end
/-- a in o, a not in o, as a test -/
def tInO (neg : Bool) (c : Str) (F : EM R) (fa fo : EM R) : EM Bool := eBind (eInO neg c F fa fo) fun r => match r with
  | .val (.bl k) => eRet k
  | _ => fun _ => none
section
variable {X : Cx} {c m : Str} {own ps : List Str} {j k n : Nat} {F : EM R} {fo fa : EM R} {o a : Expr} {pos : Pos}
theorem dtnotInO (G : Mtk X.prog X.w X.K X.mg X.base c "__contains__" ps k n F own) (hr : Room j X.A) (ha : PE X a (TD X.mg fa)) (ho : PE X o (TD X.mg fo)) (hj : k ≤ j := by omega) (hm : behindInMarks .NotIn o = false := by first | exact nomark _ | with_unfolding_all rfl) : PT X (.Compare a [.NotIn] [o] pos) (TDT X.mg (tInO true c F fa fo)) := by
  obtain ⟨C, f, fd, B, M, _, hb, G1⟩ := G.ex
  refine PT.of (pt_cmpR (op_notInO M G1 (hr.mono hj) hb (E := E0) pass0) ha ho hm) ?_
  rintro σ H Q ⟨q, env, t, env', R, ev, k⟩
  obtain ⟨r1, e1, h1, ev⟩ := eBind_some ev
  refine red_inO true B G.hn σ H _ ⟨q, env, r1, e1, R, h1, fun v H1 R1 S1 i1 => ?_⟩
  split at ev
  · obtain ⟨rfl, rfl⟩ := eRet_some ev
    cases i1
    exact ⟨_, rfl, k H1 R1 S1⟩
  · cases ev
end
theorem dts_one {X : Cx} {c : Expr} {t : EM Bool} (h : PT X c (TDT X.mg t)) : PTs X [c] (TDT X.mg t) := pts_one h
end DL
/-! enumerate over a tuple. -/
namespace DL
open PySem PySem.Spec L2
open PyProof.Rows hiding St
set_option maxHeartbeats
    2000000 in
theorem meets_enumT {a : Addr} {its : Array Value} : Meets (Builtin.«enumerate.__new__» ⟨[.type "enumerate", .ref a], []⟩) (fun _ R s => s.heap.IsTuple a its ∧
    R (.ok (.ret (.ref (s.heap.push { cls := .type "tuple_iterator", data := .fields #[.ref a, .int 0 0] }).objs.size)))
      { s with heap := (s.heap.push { cls := .type "tuple_iterator", data := .fields #[.ref a, .int 0 0] }).push { cls := .type "enumerate", data := .fields #[.none, .bool false, .ref s.heap.objs.size, rawInt 0, .none, .none] } }) :=
  .of_wp fun prog
      w A R s h => by
    obtain ⟨hp, g,
        d, tk, os⟩ := s
    obtain ⟨h1, h⟩ := h
    have hsub := sub_enumerate
    have q1 : ∀ {A' : Around} {E : Value → Shared → Prop} {Q : Value → Shared → Prop}, Q (.ref hp.objs.size) ⟨hp.push { cls := .type "tuple_iterator", data := .fields #[.ref a, .int 0 0] }, g, d, tk, os⟩ → wpAny (model prog w) A' (pyIter (.ref a)) Q E ⟨hp, g, d, tk, os⟩ :=
      fun q => (begins_tuple a its).iter prog w _ _ ⟨hp, g, d, tk, os⟩ _ h1 q
    wp_walk using q1
    refine wpAny_stack_any fun st =>
        wpAny_pure ?_
    split
    · rename_i c _ _ _ _ _
      cases (c == Value.type "enumerate") <;> (wp_walk using q1; exact ⟨_, rfl, h⟩)
    · wp_walk using q1
      exact ⟨_, rfl, h⟩
section
variable {prog : Program} {w : World} {A : Around} {E : Value → Shared → Prop} {s : Shared} {a : Addr} {its : Array Value}
theorem call_enumT {Q : Value → Shared → Prop} (hT : s.heap.IsTuple a its)
    (h : ∀ h', IsEnum h' (s.heap.objs.size + 1) s.heap.objs.size 0 .none → h'.get? s.heap.objs.size = some { cls := .type "tuple_iterator", data := .fields #[.ref a, .int 0 0] } → (∀ b o, s.heap.get? b = some o → h'.get? b = some o) → Q (.ref (s.heap.objs.size + 1)) { s with heap := h' }) :
    wpAny (model prog w) A (call (.type "enumerate") [.ref a]) Q E s := by
  refine callType_new F.called_enumerate (by decide) (F.typeCall_enumerate_1 _) (F.newCall_enumerate_1 _) (fun obj => F.args_object_init_2 obj _) F.entry_enumerate_new (meets_enumT (a := a) (its := its)) ⟨hT, ?_⟩
  generalize hI : ({ cls := .type "tuple_iterator", data := .fields #[.ref a, .int 0 0] } : Obj) = I
  have hf : I.isFreed = false := by rw [← hI]; rfl
  have hz : (s.heap.push I).objs.size = s.heap.objs.size + 1 := Heap.size_push ..
  have he : IsEnum ((s.heap.push I).push { cls := .type "enumerate", data := .fields #[.none, .bool false, .ref s.heap.objs.size, rawInt 0, .none, .none] }) (s.heap.objs.size + 1) s.heap.objs.size 0 .none := by
    rw [← hz]
    exact Heap.get?_push_size
        _ rfl
  show _ ∧ _
  rw [hz]
  exact ⟨⟨_, he, rfl⟩, h _ he (by rw [← hI] at hf ⊢; exact Heap.get?_push_of_some _ (Heap.get?_push_size _ rfl)) fun b o x => Heap.get?_push_of_some _ (Heap.get?_push_of_some _ x)⟩
end
theorem draws_tup {prog : Program} {w : World} {A : Around} (hh : A.handled = none) (it l : Addr) (hne : l ≠ it) (items : Array Value) : Draws prog w A it [it, l] items.size (fun i x => items[i]? = some x) (fun i h => h.IsTupleIter it l i ∧ h.IsTuple l items) where
  live := fun i h st => by
    obtain ⟨⟨o, ho, _⟩, _⟩ := st
    exact ⟨o, ho⟩
  frame := fun i h h' st k => ⟨st.1.at fun o e => k it (by simp) o e, st.2.at fun o e => k l (by simp) o e⟩
  item := fun i s Q E hi st hQ => RZ.nextOf_tuple_item st.1 st.2 (x := items[i]) (by simp [hi]) fun h' n' sb => hQ _ h' s.toks (by simp [hi]) ⟨n', st.2.at fun o e => sb.extBut _ _ hne e⟩ sb
  done := fun s Q E st hE => RZ.nextOf_tuple_end hh st.1 st.2 (by simp) hE
/-- the tuple at a, each item in a new pair -/
def ItEt (a : Addr) : It :=
  ⟨fun i H => ∃ xs : List V, H a = some (.tup xs) ∧ i < xs.length, fun i H v H' => ∃ T x xs, v = .ref T ∧ H T = none ∧ H' = upd H T (.tup [.int (i : Nat), x]) ∧ H a = some (.tup xs) ∧ xs[i]? = some x, fun i H => ∃ xs : List V, H a = some (.tup xs) ∧ xs.length ≤ i⟩
section
variable {P : Program} {w : World} {K : PySem.W.Frag}
theorem turn_enumT {elts : List Expr} {kk : Nat} {tpos : Pos} (a e it : Addr) (its : Array Value) :
    Turn P w K (.Tuple elts kk tpos) (ItEt a) [e, it] e (fun i h => (∃ old, IsEnum h e it ((i : Nat) : Int) old) ∧ h.IsTupleIter it a i ∧ e ≠ it ∧ a ≠ it ∧ a ≠ e) where
  mem := by simp
  obj := fun i h st b hb => by
    obtain ⟨⟨old, he⟩, ⟨o,
        ho, hc, hd⟩, _⟩ := st
    have e' : b = e ∨ b = it :=
        by simpa using hb
    rcases e' with z | z
    · rw [z]; exact ⟨_, he, fun v q =>
          nomatch q⟩
    · rw [z]; exact ⟨o, ho, fun v q =>
          by rw [hd] at q; cases q⟩
  keep := fun i h h' st k => let ⟨⟨old, he⟩, hi, hne⟩ :=
      st; ⟨⟨old, k e (by simp) _ he⟩, hi.at fun o q => k it (by simp) o q, hne⟩
  item := by
    intro X hP hw hK hc i
        pins s σ H E I hf st hg
    subst hP hw hK
    obtain ⟨⟨old, he⟩, hit, hne, ha, hae⟩ := st
    obtain ⟨xs, hq, hx⟩ := hg
    obtain ⟨its, rv, p, hz⟩ := I.tuple (SqT.of (K := X.K) hq)
    have hxe : xs[i]? = some xs[i] := List.getElem?_eq_getElem hx
    obtain ⟨u, hu, ru⟩ := rv.get hxe
    have hel : e < s.heap.objs.size :=
        Heap.lt_size he
    have hil : it < s.heap.objs.size :=
        by obtain ⟨_, q, _⟩ := hit; exact Heap.lt_size q
    have hal : a < s.heap.objs.size := p.lt
    have hlen : i < its.toArray.size := by
      have := rv.length
      simp
      omega
    refine wpAny_pyNext_enum_itemD (draws_tup (A := X.A.in1) (I.ok.hd hc) it a ha its.toArray) he ⟨hit, p⟩ hlen hne (by simp [hne, Ne.symm hae]) fun x h' tk hPx ho hst hT hsz hk => ?_
    have hxu : x = u := by
      have e1 : its.toArray[i]? = some u := by simpa using hu
      rw [e1] at hPx
      exact (Option.some.inj hPx).symm
    subst hxu
    refine ⟨_, rfl, wpAny_letOwnedTupleGo_enum (s := { s with heap := h', toks := tk + 1 }) ho fun h'' he' sb => ?_⟩
    have hT2 : h''.get? s.heap.objs.size = some { cls := .type "tuple", data := .seq #[.int i tk, x] } := (sb.2 _ (Nat.ne_of_gt hel)).trans hT
    have new : ObjOk X.prog X.w (upd H s.heap.objs.size (.tup [.int (i : Nat), xs[i]])) h'' s.heap.objs.size (.tup [.int (i : Nat), xs[i]]) :=
      ⟨by show 2 ≤ sizeLine; decide, [.int i tk, x], .cons ⟨_, rfl⟩ (.cons ru .nil), ⟨_, hT2, rfl, _, rfl⟩⟩
    have I1 : Inv X pins σ (upd H s.heap.objs.size (.tup [.int (i : Nat), xs[i]])) { s with heap := h'', toks := tk + 1 } :=
      I.turnedNew (ch := [e, it]) (fun b ob hb q => (sb.2 b (fun z => hb (by simp [z]))).trans (hk b ob (fun z =>
          hb (by simp [z])) (fun z => hb (by simp [z])) q)) hf (Nat.le_refl _) new
    refine ⟨.ref s.heap.objs.size, _, I1, rfl, ⟨_, xs[i], xs, rfl, I.hok.fresh (Nat.le_refl _), rfl, hq, hxe⟩, ⟨⟨x, ?_⟩, hst.1.at fun o q => (sb.2 it (Ne.symm hne)).trans q, hne, ha, hae⟩, fun b hb => ?_⟩
    · have e1 : ((i + 1 : Nat) : Int)
          = (i : Int) + 1 := by omega
      rw [e1]; exact he'
    · have hb' : b <
          s.heap.objs.size := by
        have e' : b = e ∨ b = it :=
            by simpa using hb
        rcases e' with z | z
        · rw [z]; exact hel
        · rw [z]; exact hil
      rw [upd_ne
          (Nat.ne_of_lt hb')]
      exact (hf b hb).1
  done := by
    intro X hP hw hK hc i
        pins s σ H E I hf st hg
    subst hP hw hK
    obtain ⟨⟨old, he⟩, hit, hne, ha, hae⟩ := st
    obtain ⟨xs, hq, hx⟩ := hg
    obtain ⟨its, rv, p, hz⟩ := I.tuple (SqT.of (K := X.K) hq)
    obtain ⟨f0, f1, f2, f3, f4, f5⟩ :=
        hf it (by simp)
    have hl := rv.length
    have hT : s.TypeIs (.ref e)
        "enumerate" := ⟨_, he, rfl⟩
    unfold pyNext
    refine wpAny_bind (wpAny_attempt (wpAny_callSpecial?_slot (name := Str.ofString "__next__") hT F.slot_enumerate_next (wpAny_call_entry F.slot_enumerate_next hT F.entry_enumerate_next ?_ (F.args_enumerate_next_1 _))))
    show wpAny _ _ (field (.ref e)
        2 >>= _) _ _ _
    refine wpAny_bind (wpAny_field he rfl (x :=
        .ref it) rfl ?_)
    refine wpAny_bind (RZ.nextOf_tuple_end (I.ok.hd hc) hit p (by simp; omega) fun h' x he' hx' => ?_)
    obtain ⟨o, ho, hc⟩ := hx'
    refine wpAny_bind (wpAny_isInstance (T :=
        "StopIteration") (b := true) ⟨o, ho, hc⟩ isSubtype_stop ?_)
    exact wpAny_pure ⟨rfl, I.turned (t' := s.toks) (fun b o hb q => he' b o hb q) f0 f1 f3 f4 f5⟩
  self := fun A i s Q E st h =>
      let ⟨⟨_, he⟩, _⟩ := st; wpAny_pyIter_enum he h
end
def iEnumT (ta : TA) : TI := fun σ H R => ta σ H fun vs H1 => ∃ (a : Addr) (xs : List V), vs = [.ref a] ∧ H1 a = some (.tup xs) ∧ R (ItEt a) H1
theorem pi_enumT {X : Cx} {e : Expr} {ta : TA} {p pos tpos : Pos} {elts : List Expr} {kk : Nat} (hg : Gl X "enumerate") (hm : X.mg "enumerate" = none) (ha : PA X [e] ta) (hs : starEach [e] X.env = [(false, eval e X.env)] := by rfl) :
    PI X (.Tuple elts kk tpos) (.Call (.Name "enumerate" p) [e] [] pos) (iEnumT ta) := by
  refine ⟨fun pins s σ H R I h =>
      ?_⟩
  refine Call_ (ld_blt I hg hm boot_enumerate (PyProof.Rows.callWith_type1 (thn
      (ha.run pos pins s σ H _ I h) fun us s1 ⟨vs, H1, I1, r1, q1⟩ => ?_) hs rfl))
  obtain ⟨a, xs,
      ex, hq, q⟩ := q1
  subst ex
  cases r1 with
  | cons r rr =>
    cases rr
    cases r
    obtain ⟨its, rv, p', hz⟩ := I1.tuple (SqT.of (K := X.K) hq)
    refine call_enumT p' fun h' he hit hk => wpAny_pyIter_enum he ?_
    have I2 : Inv X pins σ H1 { s1 with heap :=
        h' } := I1.kept (t' := s1.toks) hk
    have hal : a < s1.heap.objs.size := p'.lt
    refine ⟨s1.heap.objs.size + 1, [s1.heap.objs.size + 1, s1.heap.objs.size], _, _, H1, rfl, I2, turn_enumT a (s1.heap.objs.size + 1) s1.heap.objs.size its.toArray, ⟨⟨.none, he⟩, ⟨_, hit, rfl, rfl⟩, Nat.succ_ne_self _, Nat.ne_of_lt hal, Nat.ne_of_lt (Nat.lt_succ_of_lt hal)⟩, fun b hb => ?_, q⟩
    have e' : b = s1.heap.objs.size + 1 ∨ b = s1.heap.objs.size :=
        by simpa using hb
    have hle :
        s1.heap.objs.size ≤ b := by
      rcases e' with z | z
      · rw [z]; exact
            Nat.le_add_right _ _
      · rw [z]; exact Nat.le_refl _
    exact I1.fpOk hle
        (I1.hok.fresh hle)
section
variable {X : Cx} {e : Expr} {pos p tpos : Pos} {kk : Nat} {elts : List Expr} {fs : EM (List R)}
theorem it_enumT {mg : Str → Option Value} {p : Addr → Prop} {H : Hp} {ds : List Dat} {a : Addr} {vs : List V} (n : ¬ p a) (h : H a = some (.tup vs)) (r : IsDs mg p H ds vs) : ItOk mg p H (ItEt a) (numbered 0 ds) := by
  intro p' H' hs hp hd
  have h' : H' a = some (.tup vs) := hs a _ h n
  have r' : IsDs mg p' H' ds vs := r.all.mono hp (fun b o e z => hs b o e fun z' => z (.inl z'))
  rw [numbered_len]
  refine ⟨fun i hi => ⟨vs, h', by rw [← r.length]; exact hi⟩, fun i hi => ⟨vs, h', by rw [← r.length]; exact hi⟩, fun i x H'' hy hi => ?_⟩
  obtain ⟨T, z, xs, rfl, hT, rfl, hxs, hv⟩ := hy
  rw [h'] at hxs
  cases hxs
  obtain ⟨d, e1, e2⟩ := r'.get' hv
  refine ⟨ext_new hT, _, by rw [numbered_get, e1]; rfl, ?_⟩
  rw [Nat.zero_add]
  exact pair_new hT hd .int e2
def iEnumX (fs : EM (List R)) : EM (List Dat) := eBind fs fun rs => eBind (eForces rs) fun ds => eOpt (match ds with
  | [.lst ds] => some (numbered 0 ds)
  | [.tup ds] => some (numbered 0 ds)
  | _ => none)
theorem di_enumX (hg : Gl X "enumerate") (hm : X.mg "enumerate" = none) (ha : PA X [e] (TDA X.mg fs)) (hs : starEach [e] X.env = [(false, eval e X.env)] := by rfl) :
    PI X (.Tuple elts kk tpos) (.Call (.Name "enumerate" p) [e] [] pos) (TDI X.mg (iEnumX fs)) := by
  refine PI.of (PI.or (pi_enum hg hm ha hs) (pi_enumT hg hm ha hs)) ?_
  rintro σ H Q ⟨q, env, ds, env', R, ev, k⟩
  obtain ⟨r1, e1, h1, ev1⟩ := eBind_some ev
  obtain ⟨d, e2, h2, ev2⟩ := eBind_some ev1
  obtain ⟨h3, rfl⟩ := eOpt_some ev2
  split at h3
  · cases h3
    refine .inl ⟨q, env, r1, e1, R, h1, fun vs H1 R1 S1 i1 => ?_⟩
    obtain ⟨R2, S2, hd⟩ := i1.forces R1 h2
    cases hd with
    | cons a t =>
      cases t
      cases a with
      | lst n s r => exact ⟨_, _, rfl, SqL.of s, k _ H1 R2 (S1.trans S2) (it_enum n s r)⟩
  · cases h3
    refine .inr ⟨q, env, r1, e1, R, h1, fun vs H1 R1 S1 i1 => ?_⟩
    obtain ⟨R2, S2, hd⟩ := i1.forces R1 h2
    cases hd with
    | cons a t =>
      cases t
      cases a with
      | tup n s r => exact ⟨_, _, rfl, s, k _ H1 R2 (S1.trans S2) (it_enumT n s r)⟩
  · cases h3
end
end DL
/-! A new list stored as one of a row of names, and still the def's own. -/
namespace DL
open PySem PySem.Spec L2
open PyProof.Rows hiding St
def sParO (i j : Nat) (f0 : EM R) (k : Int) : EM O := eBind f0 fun r => match r with
  | .new d => eBind (eSet i (.new d)) fun _ => eBind (gPut j (.int k)) fun _ => eRet .nx
  | _ => fun _ => none
section
variable {X : Cx} {a b e0 e1 : Expr} {pos : Pos} {f0 f1 : EM R} {fs : EM (List R)}
theorem ds_parO {n : Int} {jj : Nat} {pc : Pos} {i j : Nat} {x y : Str} {px py pt : Pos} {kt k2 : Nat} {pt2 : Pos} (hc : X.calm = true) (hN : X.N.Nodup) (hi : X.N[i]? = some x) (hj : X.N[j]? = some y) (hij : i ≠ j)
    (hx : X.env.scope.names.lookup x = some .local) (hy : X.env.scope.names.lookup y = some .local) (ha : PE X a (TD X.mg f0))
    (hw : swappedStores [.Tuple [.Name x px, .Name y py] kt pt] (.Tuple [a, .Constant (.int n) jj pc] k2 pt2) X.env = pure (some [x, y])) (na : notStar a = true := by rfl)
    (hs : swapsWithSole [.Tuple [.Name x px, .Name y py] kt pt] (.Tuple [a, .Constant (.int n) jj pc] k2 pt2) pos.line X.env = pure false := by rfl) :
    PS X (.Assign [.Tuple [.Name x px, .Name y py] kt pt] (.Tuple [a, .Constant (.int n) jj pc] k2 pt2) pos) (TDS X.mg (sParO i j f0 n)) := by
  refine PS.of (ps_par hc hN hi hj hij hx hy (pa_cons ha (pa_cons pe_int pa_nil) (star_no na)) hw hs) ?_
  rintro D σ H ⟨q, env, o, env', R, ev, k⟩
  obtain ⟨r, e1, h1, ev1⟩ := eBind_some ev
  refine ⟨q, env, r, e1, R, h1, fun v H1 R1 S1 i1 => ?_⟩
  split at ev1
  · obtain ⟨⟨⟩, e2, h2, ev2⟩ := eBind_some ev1
    obtain ⟨⟨⟩, e3, h3, ev3⟩ := eBind_some ev2
    obtain ⟨rfl, rfl⟩ := eRet_some ev3
    obtain ⟨R2, S2⟩ := eSet_ok R1 i1 h2
    obtain ⟨R3, S3⟩ := gPut_ok R2 (.int (i := n)) h3
    exact ⟨_, _, rfl, k _ H1 R3 ((S2 env S1).trans S3.to)⟩
  · cases ev1
/-- x, y, z = e0, e1, [] -/
def sAsgL (i j l : Nat) (f0 f1 : EM R) : EM O := eBind f0 fun r0 => eBind f1 fun r1 => eBind (eForces [r0.weak, r1]) fun ds => match ds with
  | [d0, d1] => eBind (gPut i d0) fun _ => eBind (gPut j d1) fun _ => eBind (eSet l (.new (.lst []))) fun _ => eRet .nx
  | _ => fun _ => none
theorem ds_asgL {i j l : Nat} {x y z : Str} {px py pz pt pl : Pos} {kt k2 : Nat} {pt2 : Pos} (hc : X.calm = true) (hN : X.N.Nodup) (hi : X.N[i]? = some x) (hj : X.N[j]? = some y) (hl : X.N[l]? = some z)
    (hx : Loc X.env.scope x) (hy : Loc X.env.scope y) (hz : Loc X.env.scope z) (fx : X.fn x = true ∨ X.env.scope.names.lookup x = some .local) (fy : X.fn y = true ∨ X.env.scope.names.lookup y = some .local) (fz : X.fn z = true ∨ X.env.scope.names.lookup z = some .local)
    (h0 : PE X e0 (TD X.mg f0)) (h1 : PE X e1 (TD X.mg f1)) (n0 : notStar e0 = true := by rfl) (n1 : notStar e1 = true := by rfl)
    (hs : swapsWithSole [.Tuple [.Name x px, .Name y py, .Name z pz] kt pt] (.Tuple [e0, e1, .List [] pl] k2 pt2) pos.line X.env = pure false := by rfl) (hw : swappedStores [.Tuple [.Name x px, .Name y py, .Name z pz] kt pt] (.Tuple [e0, e1, .List [] pl] k2 pt2) X.env = pure none := by rfl)
    (hh : (assignEach [.Tuple [.Name x px, .Name y py, .Name z pz] kt pt] X.env).map (·.2) = [assign (.Tuple [.Name x px, .Name y py, .Name z pz] kt pt) X.env] := by rfl) :
    PS X (.Assign [.Tuple [.Name x px, .Name y py, .Name z pz] kt pt] (.Tuple [e0, e1, .List [] pl] k2 pt2) pos) (TDS X.mg (sAsgL i j l f0 f1)) := by
  refine PS.of (ps_asg (pe_tup (pa_cons h0 (pa_cons h1 (pa_cons (pe_lst pa_nil) pa_nil) (star_no n1)) (star_no n0))) (pg_tup hc (pgs_cons (pg_name hN hi hx fx) (pgs_cons (pg_name hN hj hy fy) (pgs_cons (pg_name hN hl hz fz) pgs_nil)))) hs hw hh) ?_
  rintro D σ H ⟨q, env, o, env', R, ev, k⟩
  obtain ⟨r0, e1', g1, ev1⟩ := eBind_some ev
  obtain ⟨r1, e2, g2, ev2⟩ := eBind_some ev1
  obtain ⟨ds, e3, g3, ev3⟩ := eBind_some ev2
  refine ⟨q, env, r0, e1', R, g1, fun v0 H1 R1 S1 i1 => ⟨q, e1', r1, e2, R1, g2, fun v1 H2 R2 S2 i2 => ?_⟩⟩
  refine ⟨Nat.zero_le _, fun L hL => ⟨by show 3 ≤ sizeLine; rw [sizeLine_eq]; omega, fun p hp => ?_⟩⟩
  obtain ⟨R3, S3, hd⟩ := IsRs.forces (rs := [r0.weak, r1]) (vs := [v0, v1]) (H0 := H) R2 (.cons (i1.step S2) (.cons (i2.back S1.dom) .nil)) g3
  split at ev3
  · obtain ⟨⟨⟩, e4, h4, ev4⟩ := eBind_some ev3
    obtain ⟨⟨⟩, e5, h5, ev5⟩ := eBind_some ev4
    obtain ⟨⟨⟩, e6, h6, ev6⟩ := eBind_some ev5
    obtain ⟨rfl, rfl⟩ := eRet_some ev6
    cases hd with
    | cons d1 t =>
      cases t with
      | cons d2 t =>
        cases t
        obtain ⟨R4, S4⟩ := gPut_ok R3 d1 h4
        obtain ⟨R5, S5⟩ := gPut_ok R4 (Step.isD (H' := H2) S4.to d2) h5
        have hpL : p ≠ L := fun z => by
          rw [z, upd_same] at hp
          cases hp
        have up : ∀ b u, H2 b = some u → upd (upd H2 L (.lst [])) p (.tup [v0, v1, .ref L]) b = some u := fun b u e => ext_new hp b u (ext_new hL b u e)
        have ne : upd (upd H2 L (.lst [])) p (.tup [v0, v1, .ref L]) L ≠ none := by
          rw [upd_ne (Ne.symm hpL), upd_same]
          simp
        have new : IsR X.mg q e5 ((σ.set i (some v0)).set j (some v1)) H2 (upd (upd H2 L (.lst [])) p (.tup [v0, v1, .ref L])) (.new (.lst [])) (.ref L) :=
          ⟨L, rfl, hL, fun z => R5.prot_new hL (.inl z), ⟨[], by rw [upd_ne (Ne.symm hpL), upd_same], .nil⟩, R5.guard hL up ne⟩
        have RX : Rel X.mg q e5 ((σ.set i (some v0)).set j (some v1)) (upd (upd H2 L (.lst [])) p (.tup [v0, v1, .ref L])) := R5.ext up
        obtain ⟨R6, S6⟩ := eSet_ok RX new h6
        refine ⟨p, [v0, v1, .ref L], rfl, SqT.of upd_same, rfl, ?_⟩
        refine ⟨_, _, rfl, _, _, rfl, _, _, rfl, rfl, ?_⟩
        exact k _ _ R6 ((((((S1.trans S2).trans S3).to).trans S4.to).trans S5.to).trans (S6 e5 (.ext up)))
  · cases ev3
end
end DL
/-! a, b = xs, xs a list. -/
namespace DL
open PySem PySem.Spec L2
open PyProof.Rows hiding St
section
variable {prog : Program} {w : World} {A :
    Around} {E : Value → Shared → Prop} {s : Shared}
theorem drawL {it t : Addr} {items : Array Value} (hne : t ≠ it) : ∀ (n i : Nat) (s : Shared) (Q : List Value → Shared → Prop), s.heap.IsListIter it t i → s.heap.IsList t items → i + n ≤ items.size →
    (∀ h', h'.IsListIter it t (i + n) → Heap.SameBut it s.heap h' → Q ((items.toList.drop i).take n) { s with heap := h' }) → wpAny (model prog w) A (draw (.ref it) n) Q E s
  | 0, i, s, Q, hit,
      _, _, hQ => by
    show wpAny _ _ (pure [])
        Q E s
    exact wpAny_pure
        (by simpa using hQ s.heap hit (Heap.SameBut.refl ..))
  | n + 1, i, s, Q, hit,
      ht, hle, hQ => by
    have hlt : i < items.size :=
        by omega
    show wpAny _ _ (pyNext (.ref it)
        >>= _) Q E s
    refine wpAny_bind (wpAny_pyNext_list_item hit ht (x := items[i]) (by simp [hlt]) fun h₁ hit₁ hs₁ => ?_)
    refine wpAny_bind (wpAny_holding (drawL hne n (i + 1) _ _ hit₁ (ht.extBut hs₁.extBut hne) (by omega) fun h₂ hit₂ hs₂ => wpAny_pure ?_))
    have hd : items.toList.drop i = items[i] :: items.toList.drop (i + 1) :=
        by simp [List.drop_eq_getElem_cons, hlt]
    have := hQ h₂ (by rw [show i + (n + 1)
        = i + 1 + n by omega]; exact hit₂) (hs₁.trans hs₂)
    rw [hd,
        List.take_succ_cons] at this
    exact this
theorem unpackL {t : Addr} {items : Array Value} {Q : List Value → Shared → Prop} (hh : A.handled = none) (ht : s.heap.IsList t items)
    (hQ : ∀ h', Heap.ExtBut s.heap.objs.size s.heap h' → Q items.toList { s with heap :=
        h' }) : wpAny (model prog w) A (unpackItems (.ref t) items.size none) Q E s := by
  have hlt : t ≠ s.heap.objs.size :=
      by obtain ⟨o, ho, _⟩ := ht; exact Nat.ne_of_lt (Heap.lt_size ho)
  unfold unpackItems
  refine wpAny_bind ?_
  unfold notIterableAtAll
  refine wpAny_bind (wpAny_specialOf ht.typeIs F.slot_list_iter.lookup ?_)
  refine wpAny_pure ?_
  simp only [Bool.false_eq_true,
      if_false]
  refine wpAny_bind (wpAny_holding (wpAny_pyIter_list ht ?_))
  have ht0 : (s.heap.push { cls := .type "list_iterator", data := .fields #[.ref t, .int 0 0] }).IsList t items := ht.at fun o e => Heap.get?_push_of_some _ e
  refine wpAny_bind (wpAny_holding (drawL hlt items.size 0 _ _ ⟨_, Heap.get?_push_size _ rfl, rfl, rfl⟩ ht0 (by omega) fun h₁ hit₁ hs₁ => ?_))
  have hall : List.take items.size (List.drop
      0 items.toList) = items.toList := by
    rw [List.drop_zero]; exact
        List.take_of_length_le (by simp)
  rw [hall, if_neg (by simp)]
  have ht₁ : h₁.IsList t items := ht0.extBut hs₁.extBut hlt
  refine wpAny_bind (wpAny_holding (wpAny_pyNext_list_end hh hit₁ ht₁ (by simp) fun h₂ he₂ => ?_))
  simp only [Option.isSome_none,
      Bool.false_eq_true, if_false]
  exact wpAny_pure (hQ h₂ fun b o hb e => he₂ b o hb (hs₁.extBut b o hb (Heap.get?_push_of_some _ e)))
end
def gTupL (K : PySem.W.Frag) (n : Nat) (t : TGs) : TG := fun v σ H Q => ∃ a xs, v = .ref a ∧ SqL K H a xs ∧ xs.length = n ∧ t xs σ H Q
section
variable {X : Cx} {es : List Expr} {k n : Nat} {pos : Pos} {gs : List Nat} {h : List Dat → EM Unit}
theorem pg_tupL {t : TGs} (hc : X.calm = true) (h : PGs X es t) (hn : (assignEach es X.env).length = n := by rfl) (hst : (assignEach es X.env).findIdx? (·.1) = none := by rfl) : PG X (.Tuple es k pos) (gTupL X.K n t) := by
  refine ⟨fun pins s σ H v u Q I r hw =>
      ?_⟩
  obtain ⟨a, xs, e1,
      hq, hl, hw⟩ := hw
  subst e1
  cases r
  obtain ⟨its, rv, ht, hz⟩ := I.list hq
  rw [assign_Tuple]
  refine wpAny_bind
      (wpAny_standAt ?_)
  unfold unpack
  rw [hst]
  have hl2 : (assignEach es X.env).length = its.toArray.size := by simp [hn, ← hl, rv.length]
  rw [hl2]
  refine wpAny_bind (wpAny_holding (unpackL (I.ok.hd hc) ht.isList fun h' hx => ?_))
  have I1 : Inv X pins σ H { s with heap := h' } := I.kept (t' :=
      s.toks) fun b o e => hx b o (Nat.ne_of_lt (Heap.lt_size e)) e
  exact h.run pins _ σ H xs _
      Q I1 (by simpa using rv) hw
theorem PG.or {e : Expr} {t t' : TG} (h : PG X e t) (h' : PG X e t') : PG X e (fun v σ H Q => t v σ H Q ∨ t' v σ H Q) := ⟨fun pins s σ H v u Q I r x => x.elim (h.run pins s σ H v u Q I r) (h'.run pins s σ H v u Q I r)⟩
def gTupX (n : Nat) (g : List Dat → EM Unit) : Dat → EM Unit
  | .tup ds => if ds.length = n then g ds else fun _ => none
  | .lst ds => if ds.length = n then g ds else fun _ => none
  | _ => fun _ => none
theorem dg_tupX (hc : X.calm = true) (h1 : PGs X es (TDGs X.mg gs h)) (hn : (assignEach es X.env).length = n := by rfl) (hst : (assignEach es X.env).findIdx? (·.1) = none := by rfl) : PG X (.Tuple es k pos) (TDG X.mg gs (gTupX n h)) := by
  refine PG.of (PG.or (pg_tup hc h1 hn hst) (pg_tupL hc h1 hn hst)) ?_
  rintro v σ H Q ⟨q, env, d, env', R, hd, ev, kk⟩
  cases hd with
  | tup np s r =>
    rename_i a vs ds
    have ev : (if ds.length = n then h ds else fun _ => none) env = some ((), env') := ev
    by_cases hl : ds.length = n
    · rw [if_pos hl] at ev
      exact .inl ⟨_, _, rfl, SqT.of s, by rw [← r.length]; exact hl, q, env, _, env', R, r, ev, kk⟩
    · rw [if_neg hl] at ev
      cases ev
  | lst np s r =>
    rename_i a vs ds
    have ev : (if ds.length = n then h ds else fun _ => none) env = some ((), env') := ev
    by_cases hl : ds.length = n
    · rw [if_pos hl] at ev
      exact .inr ⟨_, _, rfl, SqL.of s, by rw [← r.length]; exact hl, q, env, _, env', R, r, ev, kk⟩
    · rw [if_neg hl] at ev
      cases ev
  | _ => cases ev
end
end DL
namespace Prg
open PySem PySem.Spec L2 DL
open PyProof.Rows hiding St
def top (i : Nat) : Stmt := PySem.Challenge.pw_stillgood_k23_how_many_calls_at_most.main.body.getD i (.Pass ⟨0, 0, 0, 0⟩)
def inCls (st : Stmt) (j : Nat) : Stmt := match st with
  | .ClassDef _ _ _ body .. => body.getD j (.Pass ⟨0, 0, 0, 0⟩)
  | _ => .Pass ⟨0, 0, 0, 0⟩
abbrev FnP (K : PySem.W.Frag) (x : Str) (st : Stmt) (f : Addr) (fd : FuncData) : Prop :=
    FunD K x x (defArgs st) (defBody st) (defScope st) [] [] f fd
def ownBook : List Str := ["_fields", "_kinds"]
section
variable {P : Program} {w : World} {K : PySem.W.Frag}
    {mg : Str → Option Value} {base : Heap}
/-! ### is_number -/
abbrev s_is_number : Stmt := top 2
def fb_is_number : EM O := (sRet (eAnd2 (eOpN dIsi (eCons (eVar 0) (eOne (eCon (.ty "int"))))) (eNot (eOpN dIsi (eCons (eVar 0) (eOne (eCon (.ty "bool"))))))))
def F_is_number : EM R := runF 1 1 fb_is_number
theorem sc_is_number : FnScope ["value"] ["value"] (defScope s_is_number) := ⟨rfl, rfl, rfl, by decide +kernel, rfl, by decide +kernel, by decide +kernel⟩
theorem ok_is_number {f : Addr} {fd : FuncData} (M : MgB mg) (m : mg "is_number" = some (.ref f)) (F : FnP K "is_number" s_is_number f fd) : Fnk P w K mg base "is_number" 1 1 F_is_number :=
  fnk_ok (N := ["value"]) (ps := ["value"]) m F sc_is_number (fun _ _ _ _ _ _ us hl => match us, hl with | [_], _ => rfl) fun cdv A outer s H E hr => (ds_one (ds_ret (d_and (dB r_isi M.isinstance (dc (dv 0) (dl (dty "int" M.int (hv := bt_int)))) (hv := bt_isinstance)) (d_one (d_not (dB r_isi M.isinstance (dc (dv 0) (dl (dty "bool" M.bool (hv := bt_bool)))) (hv := bt_isinstance)))))))
/-! ### is_name -/
abbrev s_is_name : Stmt := top 3
def fb_is_name : EM O := (sSeq (eIf (tNo (eTruth (eOpN dIsi (eCons (eVar 0) (eOne (eCon (.ty "str"))))))) (sRet (eCon (.bl false))) (eRet .nx)) (sRet (eAnd2 (eChain dLe dLe (eCon (.int 1)) (eOpN dLen (eOne (eVar 0))) (eCon (.int 8))) (eOpN dAll (eOne (eLc (iAny (eVar 0)) (gPut 1) (eRet true) (eChain dLe dLe (eCon (.str (Str.ofString "a"))) (eVar 1) (eCon (.str (Str.ofString "z")))) [1]))))))
def F_is_name : EM R := runF 2 1 fb_is_name
theorem sc_is_name : FnScope ["value", "sign"] ["value"] (defScope s_is_name) := ⟨rfl, rfl, rfl, by decide +kernel, rfl, by decide +kernel, by decide +kernel⟩
theorem ok_is_name {f : Addr} {fd : FuncData} (M : MgB mg) (m : mg "is_name" = some (.ref f)) (F : FnP K "is_name" s_is_name f fd) : Fnk P w K mg base "is_name" 1 1 F_is_name :=
  fnk_ok (N := ["value", "sign"]) (ps := ["value"]) m F sc_is_name (fun _ _ _ _ _ _ us hl => match us, hl with | [_], _ => rfl) fun cdv A outer s H E hr => (ds_cons (ds_if (dt_not (tv (dB r_isi M.isinstance (dc (dv 0) (dl (dty "str" M.str (hv := bt_str)))) (hv := bt_isinstance)))) (ds_one (ds_ret dbl)) ds_nil) (ds_one (ds_ret (d_and (dchain r_le r_le dint (dB r_len M.len (dl (dv 0)) (hv := bt_len)) dint) (d_one (dB (r_all rfl) M.all (dl (d_lc (own := [("sign", 1)]) rfl sc_is_name.nd (di_any (dv 0)) (blkOk_by (own := [("sign", 1)]) (N := ["value", "sign"]) (sc := defScope s_is_name) (by decide +kernel)) (by decide) (fun _ _ _ _ _ => (dg_name (i := 1) sc_is_name.nd rfl (by first | exact Or.inl rfl | exact Or.inr rfl) (by first | exact Or.inl rfl | exact Or.inr rfl))) (fun _ _ _ _ _ => dts_nil) (fun _ _ _ _ _ => (dchain r_le r_le dstr (dv 1) dstr)))) (hv := bt_all)))))))
/-! ### are_names -/
abbrev s_are_names : Stmt := top 4
def fb_are_names : EM O := (sSeq (eIf (tOr2 (tNo (eTruth (eOpN dIsi (eCons (eVar 0) (eOne (eCon (.ty "tuple"))))))) (tNo (tChn dLe dLe (eVar 1) (eOpN dLen (eOne (eVar 0))) (eVar 2)))) (sRet (eCon (.bl false))) (eRet .nx)) (sRet (eAnd2 (eOpN dAll (eOne (eLc (iAny (eVar 0)) (gPut 3) (eRet true) (eCallV F_is_name (eOne (eVar 3))) [3]))) (eOp2 dEq (eLenSet (eVar 0)) (eOpN dLen (eOne (eVar 0)))))))
def F_are_names : EM R := runF 4 3 fb_are_names
theorem sc_are_names : FnScope ["value", "least", "most", "name"] ["value", "least", "most"] (defScope s_are_names) := ⟨rfl, rfl, rfl, by decide +kernel, rfl, by decide +kernel, by decide +kernel⟩
theorem ok_are_names {f : Addr} {fd : FuncData} (G_is_name : Fnk P w K mg base "is_name" 1 1 F_is_name) (M : MgB mg) (m : mg "are_names" = some (.ref f)) (F : FnP K "are_names" s_are_names f fd) : Fnk P w K mg base "are_names" 2 3 F_are_names :=
  fnk_ok (N := ["value", "least", "most", "name"]) (ps := ["value", "least", "most"]) m F sc_are_names (fun _ _ _ _ _ _ us hl => match us, hl with | [_, _, _], _ => rfl) fun cdv A outer s H E hr => (ds_cons (ds_if (PW.pt (dw_or (dt_not (tv (dB r_isi M.isinstance (dc (dv 0) (dl (dty "tuple" M.tuple (hv := bt_tuple)))) (hv := bt_isinstance)))) (dw_or1 (dt_not (tchain r_le r_le (dv 1) (dB r_len M.len (dl (dv 0)) (hv := bt_len)) (dv 2)))))) (ds_one (ds_ret dbl)) ds_nil) (ds_one (ds_ret (d_and (dB (r_all rfl) M.all (dl (d_lc (own := [("name", 3)]) rfl sc_are_names.nd (di_any (dv 0)) (blkOk_by (own := [("name", 3)]) (N := ["value", "least", "most", "name"]) (sc := defScope s_are_names) (by decide +kernel)) (by decide) (fun _ _ _ _ _ => (dg_name (i := 3) sc_are_names.nd rfl (by first | exact Or.inl rfl | exact Or.inr rfl) (by first | exact Or.inl rfl | exact Or.inr rfl))) (fun _ _ _ _ _ => dts_nil) (fun _ _ _ _ _ => (dcall G_is_name hr (dl (dv 3)))))) (hv := bt_all)) (d_one (dcmp (r_eq hr.units) (d_lenSet M.len M.set (dv 0)) (dB r_len M.len (dl (dv 0)) (hv := bt_len))))))))
/-! ### tupled -/
abbrev s_tupled : Stmt := top 5
def fb_tupled (F_tupled : EM R) : EM O := (sSeq (eIf (eTruth (eOpN dIsi (eCons (eVar 0) (eOne (eTup (eCons (eCon (.ty "list")) (eOne (eCon (.ty "tuple"))))))))) (sRet (eOpN dTuple (eOne (eLc (iAny (eVar 0)) (gPut 1) (eRet true) (eCallV F_tupled (eOne (eVar 1))) [1])))) (eRet .nx)) (sRet (eVar 0)))
def FR_tupled : Nat → EM R
  | 0 => fun _ => none
  | n + 1 => runF 2 1 (fb_tupled (FR_tupled n))
abbrev F_tupled : EM R := FR_tupled 60
theorem sc_tupled : FnScope ["value", "part"] ["value"] (defScope s_tupled) := ⟨rfl, rfl, rfl, by decide +kernel, rfl, by decide +kernel, by decide +kernel⟩
theorem okR_tupled {f : Addr} {fd : FuncData} (M : MgB mg) (m : mg "tupled" = some (.ref f)) (F : FnP K "tupled" s_tupled f fd) : ∀ n, Fnk P w K mg base "tupled" (0 + n) 1 (FR_tupled n)
  | 0 => fnk_none (N := ["value", "part"]) (ps := ["value"]) m F (fun _ _ _ _ _ _ us hl => match us, hl with | [_], _ => rfl)
  | n + 1 => by
    have G_tupled := okR_tupled M m F n
    exact fnk_ok (k := 0 + n) (N := ["value", "part"]) (ps := ["value"]) m F sc_tupled (fun _ _ _ _ _ _ us hl => match us, hl with | [_], _ => rfl) fun cdv A outer s H E hr => (ds_cons (ds_if (tv (dB r_isi M.isinstance (dc (dv 0) (dl (d_tup (dc (dty "list" M.list (hv := bt_list)) (dl (dty "tuple" M.tuple (hv := bt_tuple))))))) (hv := bt_isinstance))) (ds_one (ds_ret (dT r_tuple M.tuple (dl (d_lc (own := [("part", 1)]) rfl sc_tupled.nd (di_any (dv 0)) (blkOk_by (own := [("part", 1)]) (N := ["value", "part"]) (sc := defScope s_tupled) (by decide +kernel)) (by decide) (fun _ _ _ _ _ => (dg_name (i := 1) sc_tupled.nd rfl (by first | exact Or.inl rfl | exact Or.inr rfl) (by first | exact Or.inl rfl | exact Or.inr rfl))) (fun _ _ _ _ _ => dts_nil) (fun _ _ _ _ _ => (dcall G_tupled hr (dl (dv 1)))))) (hv := bt_tuple)))) ds_nil) (ds_one (ds_ret (dv 0))))
theorem ok_tupled {f : Addr} {fd : FuncData} (M : MgB mg) (m : mg "tupled" = some (.ref f)) (F : FnP K "tupled" s_tupled f fd) : Fnk P w K mg base "tupled" 60 1 F_tupled := okR_tupled M m F 60
/-! ### are_fields -/
abbrev s_are_fields : Stmt := top 19
def fb_are_fields : EM O := (sRet (eCallV F_are_names (eCons (eVar 0) (eCons (eCon (.int 1)) (eOne (eCon (.int 2)))))))
def F_are_fields : EM R := runF 1 1 fb_are_fields
theorem sc_are_fields : FnScope ["value"] ["value"] (defScope s_are_fields) := ⟨rfl, rfl, rfl, by decide +kernel, rfl, by decide +kernel, by decide +kernel⟩
theorem ok_are_fields {f : Addr} {fd : FuncData} (G_are_names : Fnk P w K mg base "are_names" 2 3 F_are_names) (M : MgB mg) (m : mg "are_fields" = some (.ref f)) (F : FnP K "are_fields" s_are_fields f fd) : Fnk P w K mg base "are_fields" 3 1 F_are_fields :=
  fnk_ok (N := ["value"]) (ps := ["value"]) m F sc_are_fields (fun _ _ _ _ _ _ us hl => match us, hl with | [_], _ => rfl) fun cdv A outer s H E hr => (ds_one (ds_ret (dcall G_are_names hr (dc (dv 0) (dc dint (dl dint))))))
/-! ### are_parameters -/
abbrev s_are_parameters : Stmt := top 21
def fb_are_parameters : EM O := (sRet (eCallV F_are_names (eCons (eVar 0) (eCons (eCon (.int 0)) (eOne (eCon (.int 2)))))))
def F_are_parameters : EM R := runF 1 1 fb_are_parameters
theorem sc_are_parameters : FnScope ["value"] ["value"] (defScope s_are_parameters) := ⟨rfl, rfl, rfl, by decide +kernel, rfl, by decide +kernel, by decide +kernel⟩
theorem ok_are_parameters {f : Addr} {fd : FuncData} (G_are_names : Fnk P w K mg base "are_names" 2 3 F_are_names) (M : MgB mg) (m : mg "are_parameters" = some (.ref f)) (F : FnP K "are_parameters" s_are_parameters f fd) : Fnk P w K mg base "are_parameters" 3 1 F_are_parameters :=
  fnk_ok (N := ["value"]) (ps := ["value"]) m F sc_are_parameters (fun _ _ _ _ _ _ us hl => match us, hl with | [_], _ => rfl) fun cdv A outer s H E hr => (ds_one (ds_ret (dcall G_are_names hr (dc (dv 0) (dc dint (dl dint))))))
/-! ### is_term -/
abbrev s_is_term : Stmt := top 27
def fb_is_term : EM O := (sRet (eOr2 (eCallV F_is_number (eOne (eVar 1))) (eAnd2 (eOpN dIsi (eCons (eVar 1) (eOne (eCon (.ty "str"))))) (eOp2 dIn (eVar 1) (eOp2 dIx (eVar 0) (eCon (.int 0)))))))
def F_is_term : EM R := runF 2 2 fb_is_term
theorem sc_is_term : FnScope ["scope", "value"] ["scope", "value"] (defScope s_is_term) := ⟨rfl, rfl, rfl, by decide +kernel, rfl, by decide +kernel, by decide +kernel⟩
theorem ok_is_term {f : Addr} {fd : FuncData} (G_is_number : Fnk P w K mg base "is_number" 1 1 F_is_number) (M : MgB mg) (m : mg "is_term" = some (.ref f)) (F : FnP K "is_term" s_is_term f fd) : Fnk P w K mg base "is_term" 2 2 F_is_term :=
  fnk_ok (N := ["scope", "value"]) (ps := ["scope", "value"]) m F sc_is_term (fun _ _ _ _ _ _ us hl => match us, hl with | [_, _], _ => rfl) fun cdv A outer s H E hr => (ds_one (ds_ret (d_or (dcall G_is_number hr (dl (dv 1))) (d_one (d_and (dB r_isi M.isinstance (dc (dv 1) (dl (dty "str" M.str (hv := bt_str)))) (hv := bt_isinstance)) (d_one (dcmp (r_in hr.units) (dv 1) (dix (dv 0) dint))))))))
/-! ### is_tested -/
abbrev s_is_tested : Stmt := top 28
def fb_is_tested : EM O := (sRet (eAnd2 (eCallV F_is_term (eCons (eVar 0) (eOne (eVar 1)))) (eOp2 dIn (eVar 1) (eOp2 dIx (eVar 0) (eCon (.int 1))))))
def F_is_tested : EM R := runF 2 2 fb_is_tested
theorem sc_is_tested : FnScope ["scope", "value"] ["scope", "value"] (defScope s_is_tested) := ⟨rfl, rfl, rfl, by decide +kernel, rfl, by decide +kernel, by decide +kernel⟩
theorem ok_is_tested {f : Addr} {fd : FuncData} (G_is_term : Fnk P w K mg base "is_term" 2 2 F_is_term) (M : MgB mg) (m : mg "is_tested" = some (.ref f)) (F : FnP K "is_tested" s_is_tested f fd) : Fnk P w K mg base "is_tested" 3 2 F_is_tested :=
  fnk_ok (N := ["scope", "value"]) (ps := ["scope", "value"]) m F sc_is_tested (fun _ _ _ _ _ _ us hl => match us, hl with | [_, _], _ => rfl) fun cdv A outer s H E hr => (ds_one (ds_ret (d_and (dcall G_is_term hr (dc (dv 0) (dl (dv 1)))) (d_one (dcmp (r_in hr.units) (dv 1) (dix (dv 0) dint))))))
/-! ### is_new_name -/
abbrev s_is_new_name : Stmt := top 29
def fb_is_new_name : EM O := (sRet (eAnd2 (eCallV F_is_name (eOne (eVar 1))) (eOp2 dNotIn (eVar 1) (eOp2 dIx (eVar 0) (eCon (.int 0))))))
def F_is_new_name : EM R := runF 2 2 fb_is_new_name
theorem sc_is_new_name : FnScope ["scope", "value"] ["scope", "value"] (defScope s_is_new_name) := ⟨rfl, rfl, rfl, by decide +kernel, rfl, by decide +kernel, by decide +kernel⟩
theorem ok_is_new_name {f : Addr} {fd : FuncData} (G_is_name : Fnk P w K mg base "is_name" 1 1 F_is_name) (M : MgB mg) (m : mg "is_new_name" = some (.ref f)) (F : FnP K "is_new_name" s_is_new_name f fd) : Fnk P w K mg base "is_new_name" 2 2 F_is_new_name :=
  fnk_ok (N := ["scope", "value"]) (ps := ["scope", "value"]) m F sc_is_new_name (fun _ _ _ _ _ _ us hl => match us, hl with | [_, _], _ => rfl) fun cdv A outer s H E hr => (ds_one (ds_ret (d_and (dcall G_is_name hr (dl (dv 1))) (d_one (dcmp (r_notIn hr.units) (dv 1) (dix (dv 0) dint))))))
/-! ### are_record_terms -/
abbrev s_are_record_terms : Stmt := top 31
def fb_are_record_terms : EM O := (sSeq (eIf (tOr2 (tNo (eTruth (eOpN dIsi (eCons (eVar 2) (eOne (eCon (.ty "tuple"))))))) (tCmp dNe (eOpN dLen (eOne (eVar 2))) (eOpN dLen (eOne (eVar 0))))) (sRet (eCon (.bl false))) (eRet .nx)) (sRet (eOpN dAll (eOne (eLc (iAny (eVar 2)) (gPut 3) (eRet true) (eCallV F_is_term (eCons (eVar 1) (eOne (eVar 3)))) [3])))))
def F_are_record_terms : EM R := runF 4 3 fb_are_record_terms
theorem sc_are_record_terms : FnScope ["fields", "scope", "value", "term"] ["fields", "scope", "value"] (defScope s_are_record_terms) := ⟨rfl, rfl, rfl, by decide +kernel, rfl, by decide +kernel, by decide +kernel⟩
theorem ok_are_record_terms {f : Addr} {fd : FuncData} (G_is_term : Fnk P w K mg base "is_term" 2 2 F_is_term) (M : MgB mg) (m : mg "are_record_terms" = some (.ref f)) (F : FnP K "are_record_terms" s_are_record_terms f fd) : Fnk P w K mg base "are_record_terms" 3 3 F_are_record_terms :=
  fnk_ok (N := ["fields", "scope", "value", "term"]) (ps := ["fields", "scope", "value"]) m F sc_are_record_terms (fun _ _ _ _ _ _ us hl => match us, hl with | [_, _, _], _ => rfl) fun cdv A outer s H E hr => (ds_cons (ds_if (PW.pt (dw_or (dt_not (tv (dB r_isi M.isinstance (dc (dv 2) (dl (dty "tuple" M.tuple (hv := bt_tuple)))) (hv := bt_isinstance)))) (dw_or1 (tcmp (r_ne hr.units) (dB r_len M.len (dl (dv 2)) (hv := bt_len)) (dB r_len M.len (dl (dv 0)) (hv := bt_len)))))) (ds_one (ds_ret dbl)) ds_nil) (ds_one (ds_ret (dB (r_all rfl) M.all (dl (d_lc (own := [("term", 3)]) rfl sc_are_record_terms.nd (di_any (dv 2)) (blkOk_by (own := [("term", 3)]) (N := ["fields", "scope", "value", "term"]) (sc := defScope s_are_record_terms) (by decide +kernel)) (by decide) (fun _ _ _ _ _ => (dg_name (i := 3) sc_are_record_terms.nd rfl (by first | exact Or.inl rfl | exact Or.inr rfl) (by first | exact Or.inl rfl | exact Or.inr rfl))) (fun _ _ _ _ _ => dts_nil) (fun _ _ _ _ _ => (dcall G_is_term hr (dc (dv 1) (dl (dv 3))))))) (hv := bt_all)))))
/-! ### is_change -/
abbrev s_is_change : Stmt := top 30
def fb_is_change : EM O := (sSeq (eIf (tOr2 (tNo (eTruth (eOpN dIsi (eCons (eVar 2) (eOne (eCon (.ty "tuple"))))))) (tOr2 (tCmp dLt (eOpN dLen (eOne (eVar 2))) (eCon (.int 2))) (tNo (eTruth (eCallV F_is_term (eCons (eVar 1) (eOne (eOp2 dIx (eVar 2) (eCon (.int 1)))))))))) (sRet (eCon (.bl false))) (eRet .nx)) (sSeq (eIf (tCmp dEq (eOp2 dIx (eVar 2) (eCon (.int 0))) (eCon (.str (Str.ofString "make")))) (sRet (eAnd2 (eOp2 dEq (eOpN dLen (eOne (eVar 2))) (eCon (.int 3))) (eCallV F_are_record_terms (eCons (eVar 0) (eCons (eVar 1) (eOne (eOp2 dIx (eVar 2) (eCon (.int 2))))))))) (eRet .nx)) (sSeq (eIf (tCmp dEq (eOp2 dIx (eVar 2) (eCon (.int 0))) (eCon (.str (Str.ofString "set")))) (sRet (eAnd2 (eOp2 dEq (eOpN dLen (eOne (eVar 2))) (eCon (.int 4))) (eAnd2 (eOp2 dIn (eOp2 dIx (eVar 2) (eCon (.int 2))) (eVar 0)) (eCallV F_is_term (eCons (eVar 1) (eOne (eOp2 dIx (eVar 2) (eCon (.int 3))))))))) (eRet .nx)) (sRet (eAnd2 (eOp2 dEq (eOp2 dIx (eVar 2) (eCon (.int 0))) (eCon (.str (Str.ofString "drop")))) (eOp2 dEq (eOpN dLen (eOne (eVar 2))) (eCon (.int 2))))))))
def F_is_change : EM R := runF 3 3 fb_is_change
theorem sc_is_change : FnScope ["fields", "scope", "value"] ["fields", "scope", "value"] (defScope s_is_change) := ⟨rfl, rfl, rfl, by decide +kernel, rfl, by decide +kernel, by decide +kernel⟩
theorem ok_is_change {f : Addr} {fd : FuncData} (G_is_term : Fnk P w K mg base "is_term" 2 2 F_is_term) (G_are_record_terms : Fnk P w K mg base "are_record_terms" 3 3 F_are_record_terms) (M : MgB mg) (m : mg "is_change" = some (.ref f)) (F : FnP K "is_change" s_is_change f fd) : Fnk P w K mg base "is_change" 4 3 F_is_change :=
  fnk_ok (N := ["fields", "scope", "value"]) (ps := ["fields", "scope", "value"]) m F sc_is_change (fun _ _ _ _ _ _ us hl => match us, hl with | [_, _, _], _ => rfl) fun cdv A outer s H E hr => (ds_cons (ds_if (PW.pt (dw_or (dt_not (tv (dB r_isi M.isinstance (dc (dv 2) (dl (dty "tuple" M.tuple (hv := bt_tuple)))) (hv := bt_isinstance)))) (dw_or (tcmp r_lt (dB r_len M.len (dl (dv 2)) (hv := bt_len)) dint) (dw_or1 (dt_not (tv (dcall G_is_term hr (dc (dv 1) (dl (dix (dv 2) dint)))))))))) (ds_one (ds_ret dbl)) ds_nil) (ds_cons (ds_if (tcmp (r_eq hr.units) (dix (dv 2) dint) dstr) (ds_one (ds_ret (d_and (dcmp (r_eq hr.units) (dB r_len M.len (dl (dv 2)) (hv := bt_len)) dint) (d_one (dcall G_are_record_terms hr (dc (dv 0) (dc (dv 1) (dl (dix (dv 2) dint))))))))) ds_nil) (ds_cons (ds_if (tcmp (r_eq hr.units) (dix (dv 2) dint) dstr) (ds_one (ds_ret (d_and (dcmp (r_eq hr.units) (dB r_len M.len (dl (dv 2)) (hv := bt_len)) dint) (d_and (dcmp (r_in hr.units) (dix (dv 2) dint) (dv 0)) (d_one (dcall G_is_term hr (dc (dv 1) (dl (dix (dv 2) dint))))))))) ds_nil) (ds_one (ds_ret (d_and (dcmp (r_eq hr.units) (dix (dv 2) dint) dstr) (d_one (dcmp (r_eq hr.units) (dB r_len M.len (dl (dv 2)) (hv := bt_len)) dint))))))))
/-! ### is_say -/
abbrev s_is_say : Stmt := top 23
def fb_is_say : EM O := (sSeq (eIf (tOr2 (tCmp dNe (eOpN dLen (eOne (eVar 2))) (eCon (.int 3))) (tNo (eTruth (eOpN dIsi (eCons (eOp2 dIx (eVar 2) (eCon (.int 1))) (eOne (eCon (.ty "tuple")))))))) (sRet (eCon (.bl false))) (eRet .nx)) (sRet (eAnd2 (eOpN dAll (eOne (eLc (iAny (eOp2 dIx (eVar 2) (eCon (.int 1)))) (gPut 3) (eRet true) (eCallV F_is_change (eCons (eVar 0) (eCons (eVar 1) (eOne (eVar 3))))) [3]))) (eCallV F_is_name (eOne (eOp2 dIx (eVar 2) (eCon (.int 2))))))))
def F_is_say : EM R := runF 4 3 fb_is_say
theorem sc_is_say : FnScope ["fields", "scope", "value", "change"] ["fields", "scope", "value"] (defScope s_is_say) := ⟨rfl, rfl, rfl, by decide +kernel, rfl, by decide +kernel, by decide +kernel⟩
theorem ok_is_say {f : Addr} {fd : FuncData} (G_is_change : Fnk P w K mg base "is_change" 4 3 F_is_change) (G_is_name : Fnk P w K mg base "is_name" 1 1 F_is_name) (M : MgB mg) (m : mg "is_say" = some (.ref f)) (F : FnP K "is_say" s_is_say f fd) : Fnk P w K mg base "is_say" 5 3 F_is_say :=
  fnk_ok (N := ["fields", "scope", "value", "change"]) (ps := ["fields", "scope", "value"]) m F sc_is_say (fun _ _ _ _ _ _ us hl => match us, hl with | [_, _, _], _ => rfl) fun cdv A outer s H E hr => (ds_cons (ds_if (PW.pt (dw_or (tcmp (r_ne hr.units) (dB r_len M.len (dl (dv 2)) (hv := bt_len)) dint) (dw_or1 (dt_not (tv (dB r_isi M.isinstance (dc (dix (dv 2) dint) (dl (dty "tuple" M.tuple (hv := bt_tuple)))) (hv := bt_isinstance))))))) (ds_one (ds_ret dbl)) ds_nil) (ds_one (ds_ret (d_and (dB (r_all rfl) M.all (dl (d_lc (own := [("change", 3)]) rfl sc_is_say.nd (di_any (dix (dv 2) dint)) (blkOk_by (own := [("change", 3)]) (N := ["fields", "scope", "value", "change"]) (sc := defScope s_is_say) (by decide +kernel)) (by decide) (fun _ _ _ _ _ => (dg_name (i := 3) sc_is_say.nd rfl (by first | exact Or.inl rfl | exact Or.inr rfl) (by first | exact Or.inl rfl | exact Or.inr rfl))) (fun _ _ _ _ _ => dts_nil) (fun _ _ _ _ _ => (dcall G_is_change hr (dc (dv 0) (dc (dv 1) (dl (dv 3)))))))) (hv := bt_all)) (d_one (dcall G_is_name hr (dl (dix (dv 2) dint))))))))
/-! ### divided -/
abbrev s_divided : Stmt := top 24
def fb_divided : EM O := (sSeq (eIf (tCmp dIn (eCut (eVar 0) oNone (oInt (eCon (.int 1)))) (eTup (eCons (eTup (eOne (eCon (.str (Str.ofString "has"))))) (eOne (eTup (eOne (eCon (.str (Str.ofString "is"))))))))) (sRet (eTup (eCons (eCut (eVar 0) oNone (oInt (eOp1 dNeg (eCon (.int 2))))) (eOne (eCut (eVar 0) (oInt (eOp1 dNeg (eCon (.int 2)))) oNone))))) (eRet .nx)) (sRet (eTup (eCons (eCut (eVar 0) oNone (oInt (eOp1 dNeg (eCon (.int 1))))) (eOne (eCut (eVar 0) (oInt (eOp1 dNeg (eCon (.int 1)))) oNone))))))
def F_divided : EM R := runF 1 1 fb_divided
theorem sc_divided : FnScope ["body"] ["body"] (defScope s_divided) := ⟨rfl, rfl, rfl, by decide +kernel, rfl, by decide +kernel, by decide +kernel⟩
theorem ok_divided {f : Addr} {fd : FuncData} (M : MgB mg) (m : mg "divided" = some (.ref f)) (F : FnP K "divided" s_divided f fd) : Fnk P w K mg base "divided" 1 1 F_divided :=
  fnk_ok (N := ["body"]) (ps := ["body"]) m F sc_divided (fun _ _ _ _ _ _ us hl => match us, hl with | [_], _ => rfl) fun cdv A outer s H E hr => (ds_cons (ds_if (tcmp (r_in hr.units) (d_cut (dv 0) do_none (do_some dint)) (d_tup (dc (d_tup (dl dstr)) (dl (d_tup (dl dstr)))))) (ds_one (ds_ret (d_tup (dc (d_cut (dv 0) do_none (do_some (dneg dint))) (dl (d_cut (dv 0) (do_some (dneg dint)) do_none)))))) ds_nil) (ds_one (ds_ret (d_tup (dc (d_cut (dv 0) do_none (do_some (dneg dint))) (dl (d_cut (dv 0) (do_some (dneg dint)) do_none)))))))
/-! ### is_head -/
abbrev s_is_head : Stmt := top 25
def fb_is_head : EM O := (sSeq (eIf (tCmp dEq (eCut (eVar 2) oNone (oInt (eCon (.int 1)))) (eTup (eOne (eCon (.str (Str.ofString "has")))))) (sRet (eAnd2 (eOp2 dEq (eOpN dLen (eOne (eVar 2))) (eCon (.int 2))) (eCallV F_is_term (eCons (eVar 1) (eOne (eOp2 dIx (eVar 2) (eCon (.int 1)))))))) (eRet .nx)) (sSeq (eIf (tAnd2 (tCmp dEq (eCut (eVar 2) oNone (oInt (eCon (.int 1)))) (eTup (eOne (eCon (.str (Str.ofString "is")))))) (tCmp dEq (eOpN dLen (eOne (eVar 2))) (eCon (.int 4)))) (sRet (eAnd2 (eCallV F_is_tested (eCons (eVar 1) (eOne (eOp2 dIx (eVar 2) (eCon (.int 1)))))) (eAnd2 (eOp2 dIn (eOp2 dIx (eVar 2) (eCon (.int 2))) (eVar 0)) (eCallV F_is_term (eCons (eVar 1) (eOne (eOp2 dIx (eVar 2) (eCon (.int 3))))))))) (eRet .nx)) (sSeq (eIf (tAnd2 (tCmp dEq (eCut (eVar 2) oNone (oInt (eCon (.int 1)))) (eTup (eOne (eCon (.str (Str.ofString "let")))))) (tCmp dEq (eOpN dLen (eOne (eVar 2))) (eCon (.int 4)))) (sRet (eAnd2 (eCallV F_is_new_name (eCons (eVar 1) (eOne (eOp2 dIx (eVar 2) (eCon (.int 1)))))) (eAnd2 (eCallV F_is_tested (eCons (eVar 1) (eOne (eOp2 dIx (eVar 2) (eCon (.int 2)))))) (eOp2 dIn (eOp2 dIx (eVar 2) (eCon (.int 3))) (eVar 0))))) (eRet .nx)) (sRet (eCon (.bl false))))))
def F_is_head : EM R := runF 3 3 fb_is_head
theorem sc_is_head : FnScope ["fields", "scope", "head"] ["fields", "scope", "head"] (defScope s_is_head) := ⟨rfl, rfl, rfl, by decide +kernel, rfl, by decide +kernel, by decide +kernel⟩
theorem ok_is_head {f : Addr} {fd : FuncData} (G_is_term : Fnk P w K mg base "is_term" 2 2 F_is_term) (G_is_tested : Fnk P w K mg base "is_tested" 3 2 F_is_tested) (G_is_new_name : Fnk P w K mg base "is_new_name" 2 2 F_is_new_name) (M : MgB mg) (m : mg "is_head" = some (.ref f)) (F : FnP K "is_head" s_is_head f fd) : Fnk P w K mg base "is_head" 4 3 F_is_head :=
  fnk_ok (N := ["fields", "scope", "head"]) (ps := ["fields", "scope", "head"]) m F sc_is_head (fun _ _ _ _ _ _ us hl => match us, hl with | [_, _, _], _ => rfl) fun cdv A outer s H E hr => (ds_cons (ds_if (tcmp (r_eq hr.units) (d_cut (dv 2) do_none (do_some dint)) (d_tup (dl dstr))) (ds_one (ds_ret (d_and (dcmp (r_eq hr.units) (dB r_len M.len (dl (dv 2)) (hv := bt_len)) dint) (d_one (dcall G_is_term hr (dc (dv 1) (dl (dix (dv 2) dint)))))))) ds_nil) (ds_cons (ds_if (PW.pt (dw_and (tcmp (r_eq hr.units) (d_cut (dv 2) do_none (do_some dint)) (d_tup (dl dstr))) (dw_and1 (tcmp (r_eq hr.units) (dB r_len M.len (dl (dv 2)) (hv := bt_len)) dint)))) (ds_one (ds_ret (d_and (dcall G_is_tested hr (dc (dv 1) (dl (dix (dv 2) dint)))) (d_and (dcmp (r_in hr.units) (dix (dv 2) dint) (dv 0)) (d_one (dcall G_is_term hr (dc (dv 1) (dl (dix (dv 2) dint))))))))) ds_nil) (ds_cons (ds_if (PW.pt (dw_and (tcmp (r_eq hr.units) (d_cut (dv 2) do_none (do_some dint)) (d_tup (dl dstr))) (dw_and1 (tcmp (r_eq hr.units) (dB r_len M.len (dl (dv 2)) (hv := bt_len)) dint)))) (ds_one (ds_ret (d_and (dcall G_is_new_name hr (dc (dv 1) (dl (dix (dv 2) dint)))) (d_and (dcall G_is_tested hr (dc (dv 1) (dl (dix (dv 2) dint)))) (d_one (dcmp (r_in hr.units) (dix (dv 2) dint) (dv 0))))))) ds_nil) (ds_one (ds_ret dbl)))))
/-! ### inner_scopes -/
abbrev s_inner_scopes : Stmt := top 26
def fb_inner_scopes : EM O := (sSeq (sAsg (eVar 0) (gTupD 2 (gConsD (gPut 2) (gConsD (gPut 3) gNilD)))) (sSeq (eIf (tCmp dEq (eOp2 dIx (eVar 1) (eCon (.int 0))) (eCon (.str (Str.ofString "has")))) (sRet (eLst (eCons (eTup (eCons (eVar 2) (eOne (eOp2 dAdd (eVar 3) (eTup (eOne (eOp2 dIx (eVar 1) (eCon (.int 1))))))))) (eOne (eVar 0))))) (eRet .nx)) (sSeq (eIf (tCmp dEq (eOp2 dIx (eVar 1) (eCon (.int 0))) (eCon (.str (Str.ofString "let")))) (sRet (eLst (eOne (eTup (eCons (eOp2 dAdd (eVar 2) (eTup (eOne (eOp2 dIx (eVar 1) (eCon (.int 1)))))) (eOne (eVar 3))))))) (eRet .nx)) (sRet (eLst (eCons (eVar 0) (eOne (eVar 0))))))))
def F_inner_scopes : EM R := runF 4 2 fb_inner_scopes
theorem sc_inner_scopes : FnScope ["scope", "head", "names", "tested"] ["scope", "head"] (defScope s_inner_scopes) := ⟨rfl, rfl, rfl, by decide +kernel, rfl, by decide +kernel, by decide +kernel⟩
theorem ok_inner_scopes {f : Addr} {fd : FuncData} (M : MgB mg) (m : mg "inner_scopes" = some (.ref f)) (F : FnP K "inner_scopes" s_inner_scopes f fd) : Fnk P w K mg base "inner_scopes" 1 2 F_inner_scopes :=
  fnk_ok (N := ["scope", "head", "names", "tested"]) (ps := ["scope", "head"]) m F sc_inner_scopes (fun _ _ _ _ _ _ us hl => match us, hl with | [_, _], _ => rfl) fun cdv A outer s H E hr => (ds_cons (ds_asg (dv 0) (dg_tup rfl (dgs_cons (dg_name (i := 2) sc_inner_scopes.nd rfl (by first | exact Or.inl rfl | exact Or.inr rfl) (by first | exact Or.inl rfl | exact Or.inr rfl)) (dgs_cons (dg_name (i := 3) sc_inner_scopes.nd rfl (by first | exact Or.inl rfl | exact Or.inr rfl) (by first | exact Or.inl rfl | exact Or.inr rfl)) dgs_nil)))) (ds_cons (ds_if (tcmp (r_eq hr.units) (dix (dv 1) dint) dstr) (ds_one (ds_ret (d_lst (dc (d_tup (dc (dv 2) (dl (dop r_add (dv 3) (d_tup (dl (dix (dv 1) dint))))))) (dl (dv 0)))))) ds_nil) (ds_cons (ds_if (tcmp (r_eq hr.units) (dix (dv 1) dint) dstr) (ds_one (ds_ret (d_lst (dl (d_tup (dc (dop r_add (dv 2) (d_tup (dl (dix (dv 1) dint)))) (dl (dv 3)))))))) ds_nil) (ds_one (ds_ret (d_lst (dc (dv 0) (dl (dv 0)))))))))
/-! ### is_body -/
abbrev s_is_body : Stmt := top 22
def fb_is_body (F_is_body : EM R) : EM O := (sSeq (eIf (tNo (eTruth (eOpN dIsi (eCons (eVar 2) (eOne (eCon (.ty "tuple"))))))) (sRet (eCon (.bl false))) (eRet .nx)) (sSeq (eIf (tCmp dEq (eCut (eVar 2) oNone (oInt (eCon (.int 1)))) (eTup (eOne (eCon (.str (Str.ofString "say")))))) (sRet (eCallV F_is_say (eCons (eVar 0) (eCons (eVar 1) (eOne (eVar 2)))))) (eRet .nx)) (sSeq (sAsg (eCallV F_divided (eOne (eVar 2))) (gTupD 2 (gConsD (gPut 3) (gConsD (gPut 4) gNilD)))) (sSeq (eIf (tNo (eTruth (eCallV F_is_head (eCons (eVar 0) (eCons (eVar 1) (eOne (eVar 3))))))) (sRet (eCon (.bl false))) (eRet .nx)) (sRet (eOpN dAll (eOne (eLc (iZipD (eCons (eCallV F_inner_scopes (eCons (eVar 1) (eOne (eVar 3)))) (eOne (eVar 4)))) (gTupD 2 (gConsD (gPut 5) (gConsD (gPut 6) gNilD))) (eRet true) (eCallV F_is_body (eCons (eVar 0) (eCons (eVar 5) (eOne (eVar 6))))) [5, 6]))))))))
def FR_is_body : Nat → EM R
  | 0 => fun _ => none
  | n + 1 => runF 7 3 (fb_is_body (FR_is_body n))
abbrev F_is_body : EM R := FR_is_body 60
theorem sc_is_body : FnScope ["fields", "scope", "value", "head", "inner", "within", "part"] ["fields", "scope", "value"] (defScope s_is_body) := ⟨rfl, rfl, rfl, by decide +kernel, rfl, by decide +kernel, by decide +kernel⟩
theorem okR_is_body {f : Addr} {fd : FuncData} (G_is_say : Fnk P w K mg base "is_say" 5 3 F_is_say) (G_divided : Fnk P w K mg base "divided" 1 1 F_divided) (G_is_head : Fnk P w K mg base "is_head" 4 3 F_is_head) (G_inner_scopes : Fnk P w K mg base "inner_scopes" 1 2 F_inner_scopes) (M : MgB mg) (m : mg "is_body" = some (.ref f)) (F : FnP K "is_body" s_is_body f fd) : ∀ n, Fnk P w K mg base "is_body" (5 + n) 3 (FR_is_body n)
  | 0 => fnk_none (N := ["fields", "scope", "value", "head", "inner", "within", "part"]) (ps := ["fields", "scope", "value"]) m F (fun _ _ _ _ _ _ us hl => match us, hl with | [_, _, _], _ => rfl)
  | n + 1 => by
    have G_is_body := okR_is_body G_is_say G_divided G_is_head G_inner_scopes M m F n
    exact fnk_ok (k := 5 + n) (N := ["fields", "scope", "value", "head", "inner", "within", "part"]) (ps := ["fields", "scope", "value"]) m F sc_is_body (fun _ _ _ _ _ _ us hl => match us, hl with | [_, _, _], _ => rfl) fun cdv A outer s H E hr => (ds_cons (ds_if (dt_not (tv (dB r_isi M.isinstance (dc (dv 2) (dl (dty "tuple" M.tuple (hv := bt_tuple)))) (hv := bt_isinstance)))) (ds_one (ds_ret dbl)) ds_nil) (ds_cons (ds_if (tcmp (r_eq hr.units) (d_cut (dv 2) do_none (do_some dint)) (d_tup (dl dstr))) (ds_one (ds_ret (dcall G_is_say hr (dc (dv 0) (dc (dv 1) (dl (dv 2))))))) ds_nil) (ds_cons (ds_asg (dcall G_divided hr (dl (dv 2))) (dg_tup rfl (dgs_cons (dg_name (i := 3) sc_is_body.nd rfl (by first | exact Or.inl rfl | exact Or.inr rfl) (by first | exact Or.inl rfl | exact Or.inr rfl)) (dgs_cons (dg_name (i := 4) sc_is_body.nd rfl (by first | exact Or.inl rfl | exact Or.inr rfl) (by first | exact Or.inl rfl | exact Or.inr rfl)) dgs_nil)))) (ds_cons (ds_if (dt_not (tv (dcall G_is_head hr (dc (dv 0) (dc (dv 1) (dl (dv 3))))))) (ds_one (ds_ret dbl)) ds_nil) (ds_one (ds_ret (dB (r_all rfl) M.all (dl (d_lc (own := [("within", 5), ("part", 6)]) rfl sc_is_body.nd (di_zip rfl M.zip (dc (dcall G_inner_scopes hr (dc (dv 1) (dl (dv 3)))) (dl (dv 4)))) (blkOk_by (own := [("within", 5), ("part", 6)]) (N := ["fields", "scope", "value", "head", "inner", "within", "part"]) (sc := defScope s_is_body) (by decide +kernel)) (by decide) (fun _ _ _ _ _ => (dg_tup rfl (dgs_cons (dg_name (i := 5) sc_is_body.nd rfl (by first | exact Or.inl rfl | exact Or.inr rfl) (by first | exact Or.inl rfl | exact Or.inr rfl)) (dgs_cons (dg_name (i := 6) sc_is_body.nd rfl (by first | exact Or.inl rfl | exact Or.inr rfl) (by first | exact Or.inl rfl | exact Or.inr rfl)) dgs_nil)))) (fun _ _ _ _ _ => dts_nil) (fun _ _ _ _ _ => (dcall G_is_body hr (dc (dv 0) (dc (dv 5) (dl (dv 6)))))))) (hv := bt_all))))))))
theorem ok_is_body {f : Addr} {fd : FuncData} (G_is_say : Fnk P w K mg base "is_say" 5 3 F_is_say) (G_divided : Fnk P w K mg base "divided" 1 1 F_divided) (G_is_head : Fnk P w K mg base "is_head" 4 3 F_is_head) (G_inner_scopes : Fnk P w K mg base "inner_scopes" 1 2 F_inner_scopes) (M : MgB mg) (m : mg "is_body" = some (.ref f)) (F : FnP K "is_body" s_is_body f fd) : Fnk P w K mg base "is_body" 65 3 F_is_body := okR_is_body G_is_say G_divided G_is_head G_inner_scopes M m F 60
/-! ### is_kind_for -/
abbrev s_is_kind_for : Stmt := top 20
def fb_is_kind_for : EM O := (sSeq (eIf (tOr2 (tNo (eTruth (eOpN dIsi (eCons (eVar 1) (eOne (eCon (.ty "tuple"))))))) (tCmp dNe (eOpN dLen (eOne (eVar 1))) (eCon (.int 3)))) (sRet (eCon (.bl false))) (eRet .nx)) (sSeq (sAsg (eVar 1) (gTupD 3 (gConsD (gPut 2) (gConsD (gPut 3) (gConsD (gPut 4) gNilD))))) (sRet (eAnd2 (eCallV F_is_name (eOne (eVar 2))) (eAnd2 (eCallV F_are_parameters (eOne (eVar 3))) (eCallV F_is_body (eCons (eVar 0) (eCons (eTup (eCons (eVar 3) (eOne (eTup eNil)))) (eOne (eVar 4))))))))))
def F_is_kind_for : EM R := runF 5 2 fb_is_kind_for
theorem sc_is_kind_for : FnScope ["fields", "value", "name", "parameters", "body"] ["fields", "value"] (defScope s_is_kind_for) := ⟨rfl, rfl, rfl, by decide +kernel, rfl, by decide +kernel, by decide +kernel⟩
theorem ok_is_kind_for {f : Addr} {fd : FuncData} (G_is_name : Fnk P w K mg base "is_name" 1 1 F_is_name) (G_are_parameters : Fnk P w K mg base "are_parameters" 3 1 F_are_parameters) (G_is_body : Fnk P w K mg base "is_body" 65 3 F_is_body) (M : MgB mg) (m : mg "is_kind_for" = some (.ref f)) (F : FnP K "is_kind_for" s_is_kind_for f fd) : Fnk P w K mg base "is_kind_for" 66 2 F_is_kind_for :=
  fnk_ok (N := ["fields", "value", "name", "parameters", "body"]) (ps := ["fields", "value"]) m F sc_is_kind_for (fun _ _ _ _ _ _ us hl => match us, hl with | [_, _], _ => rfl) fun cdv A outer s H E hr => (ds_cons (ds_if (PW.pt (dw_or (dt_not (tv (dB r_isi M.isinstance (dc (dv 1) (dl (dty "tuple" M.tuple (hv := bt_tuple)))) (hv := bt_isinstance)))) (dw_or1 (tcmp (r_ne hr.units) (dB r_len M.len (dl (dv 1)) (hv := bt_len)) dint)))) (ds_one (ds_ret dbl)) ds_nil) (ds_cons (ds_asg (dv 1) (dg_tup rfl (dgs_cons (dg_name (i := 2) sc_is_kind_for.nd rfl (by first | exact Or.inl rfl | exact Or.inr rfl) (by first | exact Or.inl rfl | exact Or.inr rfl)) (dgs_cons (dg_name (i := 3) sc_is_kind_for.nd rfl (by first | exact Or.inl rfl | exact Or.inr rfl) (by first | exact Or.inl rfl | exact Or.inr rfl)) (dgs_cons (dg_name (i := 4) sc_is_kind_for.nd rfl (by first | exact Or.inl rfl | exact Or.inr rfl) (by first | exact Or.inl rfl | exact Or.inr rfl)) dgs_nil))))) (ds_one (ds_ret (d_and (dcall G_is_name hr (dl (dv 2))) (d_and (dcall G_are_parameters hr (dl (dv 3))) (d_one (dcall G_is_body hr (dc (dv 0) (dc (d_tup (dc (dv 3) (dl (d_tup dn)))) (dl (dv 4))))))))))))
/-! ### change_terms -/
abbrev s_change_terms : Stmt := top 32
def fb_change_terms : EM O := (sSeq (eIf (tCmp dEq (eOp2 dIx (eVar 0) (eCon (.int 0))) (eCon (.str (Str.ofString "make")))) (sRet (eLst (eCons (eOp2 dIx (eVar 0) (eCon (.int 1))) (eStar (eOp2 dIx (eVar 0) (eCon (.int 2))) eNil)))) (eRet .nx)) (sSeq (eIf (tCmp dEq (eOp2 dIx (eVar 0) (eCon (.int 0))) (eCon (.str (Str.ofString "set")))) (sRet (eLst (eCons (eOp2 dIx (eVar 0) (eCon (.int 1))) (eOne (eOp2 dIx (eVar 0) (eCon (.int 3))))))) (eRet .nx)) (sRet (eLst (eOne (eOp2 dIx (eVar 0) (eCon (.int 1))))))))
def F_change_terms : EM R := runF 1 1 fb_change_terms
theorem sc_change_terms : FnScope ["change"] ["change"] (defScope s_change_terms) := ⟨rfl, rfl, rfl, by decide +kernel, rfl, by decide +kernel, by decide +kernel⟩
theorem ok_change_terms {f : Addr} {fd : FuncData} (M : MgB mg) (m : mg "change_terms" = some (.ref f)) (F : FnP K "change_terms" s_change_terms f fd) : Fnk P w K mg base "change_terms" 1 1 F_change_terms :=
  fnk_ok (N := ["change"]) (ps := ["change"]) m F sc_change_terms (fun _ _ _ _ _ _ us hl => match us, hl with | [_], _ => rfl) fun cdv A outer s H E hr => (ds_cons (ds_if (tcmp (r_eq hr.units) (dix (dv 0) dint) dstr) (ds_one (ds_ret (d_lst (d_cons rfl (dix (dv 0) dint) (dstar (dix (dv 0) dint) d_nil))))) ds_nil) (ds_cons (ds_if (tcmp (r_eq hr.units) (dix (dv 0) dint) dstr) (ds_one (ds_ret (d_lst (dc (dix (dv 0) dint) (dl (dix (dv 0) dint)))))) ds_nil) (ds_one (ds_ret (d_lst (dl (dix (dv 0) dint)))))))
/-! ### checked_fields -/
/- row 235: Raise -/
abbrev s_checked_fields : Stmt := top 46
def fb_checked_fields : EM O := (sSeq (eIf (tNo (eTruth (eCallV F_are_fields (eOne (eVar 0))))) (fun _ => none) (eRet .nx)) (sRet (eVar 0)))
def F_checked_fields : EM R := runF 1 1 fb_checked_fields
theorem sc_checked_fields : FnScope ["fields"] ["fields"] (defScope s_checked_fields) := ⟨rfl, rfl, rfl, by decide +kernel, rfl, by decide +kernel, by decide +kernel⟩
theorem ok_checked_fields {f : Addr} {fd : FuncData} (G_are_fields : Fnk P w K mg base "are_fields" 3 1 F_are_fields) (M : MgB mg) (m : mg "checked_fields" = some (.ref f)) (F : FnP K "checked_fields" s_checked_fields f fd) : Fnk P w K mg base "checked_fields" 4 1 F_checked_fields :=
  fnk_ok (N := ["fields"]) (ps := ["fields"]) m F sc_checked_fields (fun _ _ _ _ _ _ us hl => match us, hl with | [_], _ => rfl) fun cdv A outer s H E hr => (ds_cons (ds_if (dt_not (tv (dcall G_are_fields hr (dl (dv 0))))) (ds_one ds_never) ds_nil) (ds_one (ds_ret (dv 0))))
/-! ### checked_kinds -/
/- row 240: Raise -/
/- row 243: Raise -/
abbrev s_checked_kinds : Stmt := top 47
def fb_checked_kinds : EM O := (sSeq (sFor (iEnumX (eOne (eVar 1))) (gTupD 2 (gConsD (gPut 2) (gConsD (gPut 3) gNilD))) (eIf (tNo (eTruth (eCallV F_is_kind_for (eCons (eVar 0) (eOne (eVar 3)))))) (fun _ => none) (eRet .nx))) (sSeq (sFor (iEnumX (eOne (eVar 1))) (gTupD 2 (gConsD (gPut 2) (gConsD (gPut 3) gNilD))) (eIf (tCmp dIn (eOp2 dIx (eVar 3) (eCon (.int 0))) (eLc (iAny (eCut (eVar 1) oNone (oInt (eVar 2)))) (gPut 4) (eRet true) (eOp2 dIx (eVar 4) (eCon (.int 0))) [4])) (fun _ => none) (eRet .nx))) (sRet (eVar 1))))
def F_checked_kinds : EM R := runF 5 2 fb_checked_kinds
theorem sc_checked_kinds : FnScope ["fields", "kinds", "place", "kind", "earlier"] ["fields", "kinds"] (defScope s_checked_kinds) := ⟨rfl, rfl, rfl, by decide +kernel, rfl, by decide +kernel, by decide +kernel⟩
theorem ok_checked_kinds {f : Addr} {fd : FuncData} (G_is_kind_for : Fnk P w K mg base "is_kind_for" 66 2 F_is_kind_for) (M : MgB mg) (m : mg "checked_kinds" = some (.ref f)) (F : FnP K "checked_kinds" s_checked_kinds f fd) : Fnk P w K mg base "checked_kinds" 67 2 F_checked_kinds :=
  fnk_ok (N := ["fields", "kinds", "place", "kind", "earlier"]) (ps := ["fields", "kinds"]) m F sc_checked_kinds (fun _ _ _ _ _ _ us hl => match us, hl with | [_, _], _ => rfl) fun cdv A outer s H E hr => (ds_cons (ds_for PassesOwn.never rfl (di_enumX rfl M.enumerate (dl (dv 1))) (dg_tup rfl (dgs_cons (dg_name (i := 2) sc_checked_kinds.nd rfl (by first | exact Or.inl rfl | exact Or.inr rfl) (by first | exact Or.inl rfl | exact Or.inr rfl)) (dgs_cons (dg_name (i := 3) sc_checked_kinds.nd rfl (by first | exact Or.inl rfl | exact Or.inr rfl) (by first | exact Or.inl rfl | exact Or.inr rfl)) dgs_nil))) (ds_one (ds_if (dt_not (tv (dcall G_is_kind_for hr (dc (dv 0) (dl (dv 3)))))) (ds_one ds_never) ds_nil))) (ds_cons (ds_for PassesOwn.never rfl (di_enumX rfl M.enumerate (dl (dv 1))) (dg_tup rfl (dgs_cons (dg_name (i := 2) sc_checked_kinds.nd rfl (by first | exact Or.inl rfl | exact Or.inr rfl) (by first | exact Or.inl rfl | exact Or.inr rfl)) (dgs_cons (dg_name (i := 3) sc_checked_kinds.nd rfl (by first | exact Or.inl rfl | exact Or.inr rfl) (by first | exact Or.inl rfl | exact Or.inr rfl)) dgs_nil))) (ds_one (ds_if (tcmp (r_in hr.units) (dix (dv 3) dint) (d_lc (own := [("earlier", 4)]) rfl sc_checked_kinds.nd (di_any (d_cut (dv 1) do_none (do_some (dv 2)))) (blkOk_by (own := [("earlier", 4)]) (N := ["fields", "kinds", "place", "kind", "earlier"]) (sc := defScope s_checked_kinds) (by decide +kernel)) (by decide) (fun _ _ _ _ _ => (dg_name (i := 4) sc_checked_kinds.nd rfl (by first | exact Or.inl rfl | exact Or.inr rfl) (by first | exact Or.inl rfl | exact Or.inr rfl))) (fun _ _ _ _ _ => dts_nil) (fun _ _ _ _ _ => (dix (dv 4) dint)))) (ds_one ds_never) ds_nil))) (ds_one (ds_ret (dv 1)))))
/-! ### Book.__init__ -/
abbrev s_Book_init : Stmt := inCls (top 45) 0
def fb_Book_init : EM O := (sSeq (sFldD "Book" "_fields" 0 (eCallV F_checked_fields (eOne (eCallV F_tupled (eOne (eVar 1)))))) (sFldD "Book" "_kinds" 0 (eCallV F_checked_kinds (eCons (eFld "Book" "_fields" (eVar 0)) (eOne (eCallV F_tupled (eOne (eVar 2))))))))
def F_Book_init : EM R := runF 3 3 fb_Book_init
theorem sc_Book_init : FnScope ["self", "fields", "kinds"] ["self", "fields", "kinds"] (defScope s_Book_init) := ⟨rfl, rfl, rfl, by decide +kernel, rfl, by decide +kernel, by decide +kernel⟩
theorem ok_Book_init {C : Addr} {f : Addr} {fd : FuncData} (G_checked_fields : Fnk P w K mg base "checked_fields" 4 1 F_checked_fields) (G_tupled : Fnk P w K mg base "tupled" 60 1 F_tupled) (G_checked_kinds : Fnk P w K mg base "checked_kinds" 67 2 F_checked_kinds) (M : MgB mg) (B : ObC K mg "Book" C ownBook) (Mc : Mk K C f) (F : FunD K "__init__" "Book.__init__" (defArgs s_Book_init) (defBody s_Book_init) (defScope s_Book_init) [] [] f fd) : Ink P w K mg base "Book" ["fields", "kinds"] 68 3 F_Book_init ownBook :=
  ink_ok (N := ["self", "fields", "kinds"]) (ps := ["fields", "kinds"]) B Mc F sc_Book_init (fun _ _ _ _ _ _ us hl => match us, hl with | [_, _, _], _ => rfl) fun cdv A outer s H E hr => (ds_cons (ds_fld (j := 0) B (by simp [Prg.ownBook]) rfl (dcall G_checked_fields hr (dl (dcall G_tupled hr (dl (dv 1)))))) (ds_one (ds_fld (j := 0) B (by simp [Prg.ownBook]) rfl (dcall G_checked_kinds hr (dc (d_fld B (by simp [Prg.ownBook]) (dv 0)) (dl (dcall G_tupled hr (dl (dv 2)))))))))
/-! ### Book.__contains__ -/
abbrev s_Book_contains : Stmt := inCls (top 45) 5
def fb_Book_contains : EM O := (sRet (eOpN dAny (eOne (eLc (iAny (eFld "Book" "_kinds" (eVar 0))) (gPut 2) (eRet true) (eOp2 dEq (eOp2 dIx (eVar 2) (eCon (.int 0))) (eVar 1)) [2]))))
def F_Book_contains : EM R := runF 3 2 fb_Book_contains
theorem sc_Book_contains : FnScope ["self", "x", "kind"] ["self", "x"] (defScope s_Book_contains) := ⟨rfl, rfl, rfl, by decide +kernel, rfl, by decide +kernel, by decide +kernel⟩
theorem ok_Book_contains {C : Addr} {f : Addr} {fd : FuncData} (M : MgB mg) (B : ObC K mg "Book" C ownBook) (Mc : Meth K C "__contains__" f) (hf : PySem.W.fnIn K f = true) (F : FunD K "__contains__" "Book.__contains__" (defArgs s_Book_contains) (defBody s_Book_contains) (defScope s_Book_contains) [] [] f fd) : Mtk P w K mg base "Book" "__contains__" ["self", "x"] 1 2 F_Book_contains ownBook :=
  mtk_ok (N := ["self", "x", "kind"]) (ps := ["self", "x"]) B Mc hf F sc_Book_contains (fun _ _ _ _ _ _ us hl => match us, hl with | [_, _], _ => rfl) fun cdv A outer s H E hr => (ds_one (ds_ret (dB (r_any rfl) M.any (dl (d_lc (own := [("kind", 2)]) rfl sc_Book_contains.nd (di_any (d_fld B (by simp [Prg.ownBook]) (dv 0))) (blkOk_by (own := [("kind", 2)]) (N := ["self", "x", "kind"]) (sc := defScope s_Book_contains) (by decide +kernel)) (by decide) (fun _ _ _ _ _ => (dg_name (i := 2) sc_Book_contains.nd rfl (by first | exact Or.inl rfl | exact Or.inr rfl) (by first | exact Or.inl rfl | exact Or.inr rfl))) (fun _ _ _ _ _ => dts_nil) (fun _ _ _ _ _ => (dcmp (r_eq hr.units) (dix (dv 2) dint) (dv 1))))) (hv := bt_any))))
/-! ### Book.__getitem__ -/
/- row 198: Raise -/
abbrev s_Book_getitem : Stmt := inCls (top 45) 6
def fb_Book_getitem : EM O := (sSeq (sFor (iAny (eFld "Book" "_kinds" (eVar 0))) (gPut 2) (eIf (tCmp dEq (eOp2 dIx (eVar 2) (eCon (.int 0))) (eVar 1)) (sRet (eVar 2)) (eRet .nx))) (fun _ => none))
def F_Book_getitem : EM R := runF 3 2 fb_Book_getitem
theorem sc_Book_getitem : FnScope ["self", "at", "kind"] ["self", "at"] (defScope s_Book_getitem) := ⟨rfl, rfl, rfl, by decide +kernel, rfl, by decide +kernel, by decide +kernel⟩
theorem ok_Book_getitem {C : Addr} {f : Addr} {fd : FuncData} (M : MgB mg) (B : ObC K mg "Book" C ownBook) (Mc : Meth K C "__getitem__" f) (hf : PySem.W.fnIn K f = true) (F : FunD K "__getitem__" "Book.__getitem__" (defArgs s_Book_getitem) (defBody s_Book_getitem) (defScope s_Book_getitem) [] [] f fd) : Mtk P w K mg base "Book" "__getitem__" ["self", "at"] 1 2 F_Book_getitem ownBook :=
  mtk_ok (N := ["self", "at", "kind"]) (ps := ["self", "at"]) B Mc hf F sc_Book_getitem (fun _ _ _ _ _ _ us hl => match us, hl with | [_, _], _ => rfl) fun cdv A outer s H E hr => (ds_cons (ds_for PassesOwn.never rfl (di_any (d_fld B (by simp [Prg.ownBook]) (dv 0))) (dg_name (i := 2) sc_Book_getitem.nd rfl (by first | exact Or.inl rfl | exact Or.inr rfl) (by first | exact Or.inl rfl | exact Or.inr rfl)) (ds_one (ds_if (tcmp (r_eq hr.units) (dix (dv 2) dint) (dv 1)) (ds_one (ds_ret (dv 2))) ds_nil))) (ds_one ds_never))
/-! ### is_call -/
abbrev s_is_call : Stmt := top 14
def fb_is_call : EM O := (sSeq (eIf (tOr2 (tNo (eTruth (eOpN dIsi (eCons (eVar 1) (eOne (eCon (.ty "tuple"))))))) (tOr2 (tCmp dEq (eOpN dLen (eOne (eVar 1))) (eCon (.int 0))) (tInO true "Book" F_Book_contains (eOp2 dIx (eVar 1) (eCon (.int 0))) (eVar 0)))) (sRet (eCon (.bl false))) (eRet .nx)) (sRet (eAnd2 (eOp2 dEq (eOpN dLen (eOne (eVar 1))) (eOp2 dAdd (eCon (.int 1)) (eOpN dLen (eOne (eOp2 dIx (eIxO "Book" F_Book_getitem (eVar 0) (eOp2 dIx (eVar 1) (eCon (.int 0)))) (eCon (.int 1))))))) (eOpN dAll (eOne (eLc (iAny (eCut (eVar 1) (oInt (eCon (.int 1))) oNone)) (gPut 2) (eRet true) (eCallV F_is_number (eOne (eVar 2))) [2]))))))
def F_is_call : EM R := runF 3 2 fb_is_call
theorem sc_is_call : FnScope ["book", "thing", "number"] ["book", "thing"] (defScope s_is_call) := ⟨rfl, rfl, rfl, by decide +kernel, rfl, by decide +kernel, by decide +kernel⟩
theorem ok_is_call {f : Addr} {fd : FuncData} (G_is_number : Fnk P w K mg base "is_number" 1 1 F_is_number) (G_Book_contains : Mtk P w K mg base "Book" "__contains__" ["self", "x"] 1 2 F_Book_contains ownBook) (G_Book_getitem : Mtk P w K mg base "Book" "__getitem__" ["self", "at"] 1 2 F_Book_getitem ownBook) (M : MgB mg) (m : mg "is_call" = some (.ref f)) (F : FnP K "is_call" s_is_call f fd) : Fnk P w K mg base "is_call" 3 2 F_is_call :=
  fnk_ok (N := ["book", "thing", "number"]) (ps := ["book", "thing"]) m F sc_is_call (fun _ _ _ _ _ _ us hl => match us, hl with | [_, _], _ => rfl) fun cdv A outer s H E hr => (ds_cons (ds_if (PW.pt (dw_or (dt_not (tv (dB r_isi M.isinstance (dc (dv 1) (dl (dty "tuple" M.tuple (hv := bt_tuple)))) (hv := bt_isinstance)))) (dw_or (tcmp (r_eq hr.units) (dB r_len M.len (dl (dv 1)) (hv := bt_len)) dint) (dw_or1 (dtnotInO G_Book_contains hr (dix (dv 1) dint) (dv 0)))))) (ds_one (ds_ret dbl)) ds_nil) (ds_one (ds_ret (d_and (dcmp (r_eq hr.units) (dB r_len M.len (dl (dv 1)) (hv := bt_len)) (dop r_add dint (dB r_len M.len (dl (dix (dixO G_Book_getitem hr (dv 0) (dix (dv 1) dint)) dint)) (hv := bt_len)))) (d_one (dB (r_all rfl) M.all (dl (d_lc (own := [("number", 2)]) rfl sc_is_call.nd (di_any (d_cut (dv 1) (do_some dint) do_none)) (blkOk_by (own := [("number", 2)]) (N := ["book", "thing", "number"]) (sc := defScope s_is_call) (by decide +kernel)) (by decide) (fun _ _ _ _ _ => (dg_name (i := 2) sc_is_call.nd rfl (by first | exact Or.inl rfl | exact Or.inr rfl) (by first | exact Or.inl rfl | exact Or.inr rfl))) (fun _ _ _ _ _ => dts_nil) (fun _ _ _ _ _ => (dcall G_is_number hr (dl (dv 2)))))) (hv := bt_all)))))))
/-! ### checked_call -/
/- row 57: Raise -/
abbrev s_checked_call : Stmt := top 15
def fb_checked_call : EM O := (sSeq (eIf (tNo (eTruth (eCallV F_is_call (eCons (eVar 0) (eOne (eCallV F_tupled (eOne (eVar 1)))))))) (fun _ => none) (eRet .nx)) (sRet (eCallV F_tupled (eOne (eVar 1)))))
def F_checked_call : EM R := runF 2 2 fb_checked_call
theorem sc_checked_call : FnScope ["book", "call"] ["book", "call"] (defScope s_checked_call) := ⟨rfl, rfl, rfl, by decide +kernel, rfl, by decide +kernel, by decide +kernel⟩
theorem ok_checked_call {f : Addr} {fd : FuncData} (G_is_call : Fnk P w K mg base "is_call" 3 2 F_is_call) (G_tupled : Fnk P w K mg base "tupled" 60 1 F_tupled) (M : MgB mg) (m : mg "checked_call" = some (.ref f)) (F : FnP K "checked_call" s_checked_call f fd) : Fnk P w K mg base "checked_call" 61 2 F_checked_call :=
  fnk_ok (N := ["book", "call"]) (ps := ["book", "call"]) m F sc_checked_call (fun _ _ _ _ _ _ us hl => match us, hl with | [_, _], _ => rfl) fun cdv A outer s H E hr => (ds_cons (ds_if (dt_not (tv (dcall G_is_call hr (dc (dv 0) (dl (dcall G_tupled hr (dl (dv 1)))))))) (ds_one ds_never) ds_nil) (ds_one (ds_ret (dcall G_tupled hr (dl (dv 1))))))
/-! ### checked_line -/
abbrev s_checked_line : Stmt := top 16
def fb_checked_line : EM O := (sSeq (sAsg (eVar 1) (gTupX 2 (gConsD (gPut 2) (gConsD (gPut 3) gNilD)))) (sRet (eTup (eCons (eCallV F_checked_call (eCons (eVar 0) (eOne (eVar 2)))) (eOne (eVar 3))))))
def F_checked_line : EM R := runF 4 2 fb_checked_line
theorem sc_checked_line : FnScope ["book", "line", "call", "word"] ["book", "line"] (defScope s_checked_line) := ⟨rfl, rfl, rfl, by decide +kernel, rfl, by decide +kernel, by decide +kernel⟩
theorem ok_checked_line {f : Addr} {fd : FuncData} (G_checked_call : Fnk P w K mg base "checked_call" 61 2 F_checked_call) (M : MgB mg) (m : mg "checked_line" = some (.ref f)) (F : FnP K "checked_line" s_checked_line f fd) : Fnk P w K mg base "checked_line" 62 2 F_checked_line :=
  fnk_ok (N := ["book", "line", "call", "word"]) (ps := ["book", "line"]) m F sc_checked_line (fun _ _ _ _ _ _ us hl => match us, hl with | [_, _], _ => rfl) fun cdv A outer s H E hr => (ds_cons (ds_asg (dv 1) (dg_tupX rfl (dgs_cons (dg_name (i := 2) sc_checked_line.nd rfl (by first | exact Or.inl rfl | exact Or.inr rfl) (by first | exact Or.inl rfl | exact Or.inr rfl)) (dgs_cons (dg_name (i := 3) sc_checked_line.nd rfl (by first | exact Or.inl rfl | exact Or.inr rfl) (by first | exact Or.inl rfl | exact Or.inr rfl)) dgs_nil)))) (ds_one (ds_ret (d_tup (dc (dcall G_checked_call hr (dc (dv 0) (dl (dv 2)))) (dl (dv 3)))))))
/-! ### checked_lines -/
abbrev s_checked_lines : Stmt := top 17
def fb_checked_lines : EM O := (sRet (eOpN dTuple (eOne (eLc (iAny (eVar 1)) (gPut 2) (eRet true) (eCallV F_checked_line (eCons (eVar 0) (eOne (eVar 2)))) [2]))))
def F_checked_lines : EM R := runF 3 2 fb_checked_lines
theorem sc_checked_lines : FnScope ["book", "lines", "line"] ["book", "lines"] (defScope s_checked_lines) := ⟨rfl, rfl, rfl, by decide +kernel, rfl, by decide +kernel, by decide +kernel⟩
theorem ok_checked_lines {f : Addr} {fd : FuncData} (G_checked_line : Fnk P w K mg base "checked_line" 62 2 F_checked_line) (M : MgB mg) (m : mg "checked_lines" = some (.ref f)) (F : FnP K "checked_lines" s_checked_lines f fd) : Fnk P w K mg base "checked_lines" 63 2 F_checked_lines :=
  fnk_ok (N := ["book", "lines", "line"]) (ps := ["book", "lines"]) m F sc_checked_lines (fun _ _ _ _ _ _ us hl => match us, hl with | [_, _], _ => rfl) fun cdv A outer s H E hr => (ds_one (ds_ret (dT r_tuple M.tuple (dl (d_lc (own := [("line", 2)]) rfl sc_checked_lines.nd (di_any (dv 1)) (blkOk_by (own := [("line", 2)]) (N := ["book", "lines", "line"]) (sc := defScope s_checked_lines) (by decide +kernel)) (by decide) (fun _ _ _ _ _ => (dg_name (i := 2) sc_checked_lines.nd rfl (by first | exact Or.inl rfl | exact Or.inr rfl) (by first | exact Or.inl rfl | exact Or.inr rfl))) (fun _ _ _ _ _ => dts_nil) (fun _ _ _ _ _ => (dcall G_checked_line hr (dc (dv 0) (dl (dv 2))))))) (hv := bt_tuple))))
/-! ### names_let -/
abbrev s_names_let : Stmt := top 39
def fb_names_let : EM O := (sSeq (sSet 2 (DL.eLc2 (iAny (eOp2 dIx (eVar 1) (eCon (.int 1)))) (gPut 3) (eRet true) (iAny (eCallV F_change_terms (eOne (eVar 3)))) (gPut 4) (eRet true) (eVar 4) [3, 4] [4])) (sRet (eOpN dAny (eOne (eLc (iAny (eVar 2)) (gPut 4) (eRet true) (eAnd2 (eOpN dIsi (eCons (eVar 4) (eOne (eCon (.ty "str"))))) (eOp2 dNotIn (eVar 4) (eVar 0))) [4])))))
def F_names_let : EM R := runF 5 2 fb_names_let
theorem sc_names_let : FnScope ["parameters", "say", "terms", "change", "term"] ["parameters", "say"] (defScope s_names_let) := ⟨rfl, rfl, rfl, by decide +kernel, rfl, by decide +kernel, by decide +kernel⟩
theorem ok_names_let {f : Addr} {fd : FuncData} (G_change_terms : Fnk P w K mg base "change_terms" 1 1 F_change_terms) (M : MgB mg) (m : mg "names_let" = some (.ref f)) (F : FnP K "names_let" s_names_let f fd) : Fnk P w K mg base "names_let" 2 2 F_names_let :=
  fnk_ok (N := ["parameters", "say", "terms", "change", "term"]) (ps := ["parameters", "say"]) m F sc_names_let (fun _ _ _ _ _ _ us hl => match us, hl with | [_, _], _ => rfl) fun cdv A outer s H E hr => (ds_cons (ds_setLc2 (i := 2) rfl rfl (sw_true rfl rfl rfl rfl) (own := [("change", 3), ("term", 4)]) rfl sc_names_let.nd (di_any (dix (dv 1) dint)) (blkOk_by (own := [("change", 3), ("term", 4)]) (N := ["parameters", "say", "terms", "change", "term"]) (sc := defScope s_names_let) (by decide +kernel)) [4] (by decide) (by decide) (by decide) (fun _ _ _ _ _ => (dg_name (i := 3) sc_names_let.nd rfl (by first | exact Or.inl rfl | exact Or.inr rfl) (by first | exact Or.inl rfl | exact Or.inr rfl))) (fun _ _ _ _ _ => dts_nil) (fun _ _ _ _ _ => (di_any (dcall G_change_terms hr (dl (dv 3))))) (fun _ _ _ _ _ => (dg_name (i := 4) sc_names_let.nd rfl (by first | exact Or.inl rfl | exact Or.inr rfl) (by first | exact Or.inl rfl | exact Or.inr rfl))) (fun _ _ _ _ _ => dts_nil) (fun _ _ _ _ _ => (dv 4))) (ds_one (ds_ret (dB (r_any rfl) M.any (dl (d_lc (own := [("term", 4)]) rfl sc_names_let.nd (di_any (dv 2)) (blkOk_by (own := [("term", 4)]) (N := ["parameters", "say", "terms", "change", "term"]) (sc := defScope s_names_let) (by decide +kernel)) (by decide) (fun _ _ _ _ _ => (dg_name (i := 4) sc_names_let.nd rfl (by first | exact Or.inl rfl | exact Or.inr rfl) (by first | exact Or.inl rfl | exact Or.inr rfl))) (fun _ _ _ _ _ => dts_nil) (fun _ _ _ _ _ => (d_and (dB r_isi M.isinstance (dc (dv 4) (dl (dty "str" M.str (hv := bt_str)))) (hv := bt_isinstance)) (d_one (dcmp (r_notIn hr.units) (dv 4) (dv 0))))))) (hv := bt_any)))))
/-! ### hides -/
abbrev s_hides : Stmt := top 38
def fb_hides : EM O := (sSeq (eIf (tCmp dNe (eOp2 dIx (eVar 1) (eCon (.int 2))) (eOp2 dIx (eVar 2) (eCon (.int 2)))) (sRet (eCon (.bl false))) (eRet .nx)) (sRet (eIf (eTruth (eVar 3)) (eCallV F_names_let (eCons (eVar 0) (eOne (eVar 1)))) (eOp2 dNe (eOp2 dIx (eVar 1) (eCon (.int 1))) (eOp2 dIx (eVar 2) (eCon (.int 1)))))))
def F_hides : EM R := runF 4 4 fb_hides
theorem sc_hides : FnScope ["parameters", "one", "other", "same"] ["parameters", "one", "other", "same"] (defScope s_hides) := ⟨rfl, rfl, rfl, by decide +kernel, rfl, by decide +kernel, by decide +kernel⟩
theorem ok_hides {f : Addr} {fd : FuncData} (G_names_let : Fnk P w K mg base "names_let" 2 2 F_names_let) (M : MgB mg) (m : mg "hides" = some (.ref f)) (F : FnP K "hides" s_hides f fd) : Fnk P w K mg base "hides" 3 4 F_hides :=
  fnk_ok (N := ["parameters", "one", "other", "same"]) (ps := ["parameters", "one", "other", "same"]) m F sc_hides (fun _ _ _ _ _ _ us hl => match us, hl with | [_, _, _, _], _ => rfl) fun cdv A outer s H E hr => (ds_cons (ds_if (tcmp (r_ne hr.units) (dix (dv 1) dint) (dix (dv 2) dint)) (ds_one (ds_ret dbl)) ds_nil) (ds_one (ds_ret (d_ife (tv (dv 3)) (dcall G_names_let hr (dc (dv 0) (dl (dv 1)))) (dcmp (r_ne hr.units) (dix (dv 1) dint) (dix (dv 2) dint))))))
/-! ### paths_in -/
abbrev s_paths_in : Stmt := top 37
def fb_paths_in (F_paths_in : EM R) : EM O := (sSeq (eIf (tCmp dEq (eOp2 dIx (eVar 0) (eCon (.int 0))) (eCon (.str (Str.ofString "say")))) (sRet (eLst (eOne (eTup (eCons (eVar 1) (eOne (eVar 0))))))) (eRet .nx)) (sSeq (sAsg (eCallV F_divided (eOne (eVar 0))) (gTupD 2 (gConsD (gPut 2) (gConsD (gPut 3) gNilD)))) (sSeq (eIf (tCmp dEq (eOpN dLen (eOne (eVar 3))) (eCon (.int 1))) (sRet (eCallV F_paths_in (eCons (eOp2 dIx (eVar 3) (eCon (.int 0))) (eOne (eVar 1))))) (eRet .nx)) (sRet (eOp2 dAdd (eCallV F_paths_in (eCons (eOp2 dIx (eVar 3) (eCon (.int 0))) (eOne (eTup (eStar (eVar 1) (eCons (eCon (.bl true)) eNil)))))) (eCallV F_paths_in (eCons (eOp2 dIx (eVar 3) (eCon (.int 1))) (eOne (eTup (eStar (eVar 1) (eCons (eCon (.bl false)) eNil)))))))))))
def FR_paths_in : Nat → EM R
  | 0 => fun _ => none
  | n + 1 => runF 4 2 (fb_paths_in (FR_paths_in n))
abbrev F_paths_in : EM R := FR_paths_in 60
theorem sc_paths_in : FnScope ["body", "path", "_", "inner"] ["body", "path"] (defScope s_paths_in) := ⟨rfl, rfl, rfl, by decide +kernel, rfl, by decide +kernel, by decide +kernel⟩
theorem okR_paths_in {f : Addr} {fd : FuncData} (G_divided : Fnk P w K mg base "divided" 1 1 F_divided) (M : MgB mg) (m : mg "paths_in" = some (.ref f)) (F : FnP K "paths_in" s_paths_in f fd) : ∀ n, Fnk P w K mg base "paths_in" (1 + n) 2 (FR_paths_in n)
  | 0 => fnk_none (N := ["body", "path", "_", "inner"]) (ps := ["body", "path"]) m F (fun _ _ _ _ _ _ us hl => match us, hl with | [_, _], _ => rfl)
  | n + 1 => by
    have G_paths_in := okR_paths_in G_divided M m F n
    exact fnk_ok (k := 1 + n) (N := ["body", "path", "_", "inner"]) (ps := ["body", "path"]) m F sc_paths_in (fun _ _ _ _ _ _ us hl => match us, hl with | [_, _], _ => rfl) fun cdv A outer s H E hr => (ds_cons (ds_if (tcmp (r_eq hr.units) (dix (dv 0) dint) dstr) (ds_one (ds_ret (d_lst (dl (d_tup (dc (dv 1) (dl (dv 0)))))))) ds_nil) (ds_cons (ds_asg (dcall G_divided hr (dl (dv 0))) (dg_tup rfl (dgs_cons (dg_name (i := 2) sc_paths_in.nd rfl (by first | exact Or.inl rfl | exact Or.inr rfl) (by first | exact Or.inl rfl | exact Or.inr rfl)) (dgs_cons (dg_name (i := 3) sc_paths_in.nd rfl (by first | exact Or.inl rfl | exact Or.inr rfl) (by first | exact Or.inl rfl | exact Or.inr rfl)) dgs_nil)))) (ds_cons (ds_if (tcmp (r_eq hr.units) (dB r_len M.len (dl (dv 3)) (hv := bt_len)) dint) (ds_one (ds_ret (dcall G_paths_in hr (dc (dix (dv 3) dint) (dl (dv 1)))))) ds_nil) (ds_one (ds_ret (dop r_add (dcall G_paths_in hr (dc (dix (dv 3) dint) (dl (d_tup (dstar (dv 1) (d_cons rfl dbl d_nil)))))) (dcall G_paths_in hr (dc (dix (dv 3) dint) (dl (d_tup (dstar (dv 1) (d_cons rfl dbl d_nil))))))))))))
theorem ok_paths_in {f : Addr} {fd : FuncData} (G_divided : Fnk P w K mg base "divided" 1 1 F_divided) (M : MgB mg) (m : mg "paths_in" = some (.ref f)) (F : FnP K "paths_in" s_paths_in f fd) : Fnk P w K mg base "paths_in" 61 2 F_paths_in := okR_paths_in G_divided M m F 60
/-! ### sayings -/
abbrev s_sayings : Stmt := top 36
def fb_sayings : EM O := (sSeq (sAsg (eIxO "Book" F_Book_getitem (eVar 0) (eVar 1)) (gTupD 3 (gConsD (gPut 2) (gConsD (gPut 3) (gConsD (gPut 4) gNilD))))) (sRet (eTup (eCons (eVar 3) (eOne (eOpN dDictT (eOne (eCallV F_paths_in (eCons (eVar 4) (eOne (eTup eNil)))))))))))
def F_sayings : EM R := runF 5 2 fb_sayings
theorem sc_sayings : FnScope ["book", "name", "_", "parameters", "body"] ["book", "name"] (defScope s_sayings) := ⟨rfl, rfl, rfl, by decide +kernel, rfl, by decide +kernel, by decide +kernel⟩
theorem ok_sayings {f : Addr} {fd : FuncData} (G_paths_in : Fnk P w K mg base "paths_in" 61 2 F_paths_in) (G_Book_getitem : Mtk P w K mg base "Book" "__getitem__" ["self", "at"] 1 2 F_Book_getitem ownBook) (M : MgB mg) (m : mg "sayings" = some (.ref f)) (F : FnP K "sayings" s_sayings f fd) : Fnk P w K mg base "sayings" 62 2 F_sayings :=
  fnk_ok (N := ["book", "name", "_", "parameters", "body"]) (ps := ["book", "name"]) m F sc_sayings (fun _ _ _ _ _ _ us hl => match us, hl with | [_, _], _ => rfl) fun cdv A outer s H E hr => (ds_cons (ds_asg (dixO G_Book_getitem hr (dv 0) (dv 1)) (dg_tup rfl (dgs_cons (dg_name (i := 2) sc_sayings.nd rfl (by first | exact Or.inl rfl | exact Or.inr rfl) (by first | exact Or.inl rfl | exact Or.inr rfl)) (dgs_cons (dg_name (i := 3) sc_sayings.nd rfl (by first | exact Or.inl rfl | exact Or.inr rfl) (by first | exact Or.inl rfl | exact Or.inr rfl)) (dgs_cons (dg_name (i := 4) sc_sayings.nd rfl (by first | exact Or.inl rfl | exact Or.inr rfl) (by first | exact Or.inl rfl | exact Or.inr rfl)) dgs_nil))))) (ds_one (ds_ret (d_tup (dc (dv 3) (dl (dT (r_dictT rfl hr.units) M.dict (dl (dcall G_paths_in hr (dc (dv 4) (dl (d_tup dn))))) (hv := bt_dict))))))))
/-! ### hiding -/
abbrev s_hiding : Stmt := top 35
def fb_hiding : EM O := (sSeq (sAsg (eCallV F_sayings (eCons (eVar 0) (eOne (eVar 1)))) (gTupD 2 (gConsD (gPut 2) (gConsD (gPut 3) gNilD)))) (sSeq (sFor (iItemsD (eVar 3)) (gTupD 2 (gConsD (gPut 4) (gConsD (gPut 5) gNilD))) (sFor (iItemsD (eVar 3)) (gTupD 2 (gConsD (gPut 6) (gConsD (gPut 7) gNilD))) (eIf (eTruth (eCallV F_hides (eCons (eVar 2) (eCons (eVar 5) (eCons (eVar 7) (eOne (eOp2 dEq (eVar 4) (eVar 6)))))))) (sRet (eTup (eCons (eOp2 dIx (eVar 5) (eCon (.int 2))) (eCons (eVar 4) (eOne (eVar 6)))))) (eRet .nx)))) (sRet (eCon .non))))
def F_hiding : EM R := runF 8 2 fb_hiding
theorem sc_hiding : FnScope ["book", "name", "parameters", "found", "one", "say", "other", "late"] ["book", "name"] (defScope s_hiding) := ⟨rfl, rfl, rfl, by decide +kernel, rfl, by decide +kernel, by decide +kernel⟩
theorem ok_hiding {f : Addr} {fd : FuncData} (G_sayings : Fnk P w K mg base "sayings" 62 2 F_sayings) (G_hides : Fnk P w K mg base "hides" 3 4 F_hides) (M : MgB mg) (m : mg "hiding" = some (.ref f)) (F : FnP K "hiding" s_hiding f fd) : Fnk P w K mg base "hiding" 63 2 F_hiding :=
  fnk_ok (N := ["book", "name", "parameters", "found", "one", "say", "other", "late"]) (ps := ["book", "name"]) m F sc_hiding (fun _ _ _ _ _ _ us hl => match us, hl with | [_, _], _ => rfl) fun cdv A outer s H E hr => (ds_cons (ds_asg (dcall G_sayings hr (dc (dv 0) (dl (dv 1)))) (dg_tup rfl (dgs_cons (dg_name (i := 2) sc_hiding.nd rfl (by first | exact Or.inl rfl | exact Or.inr rfl) (by first | exact Or.inl rfl | exact Or.inr rfl)) (dgs_cons (dg_name (i := 3) sc_hiding.nd rfl (by first | exact Or.inl rfl | exact Or.inr rfl) (by first | exact Or.inl rfl | exact Or.inr rfl)) dgs_nil)))) (ds_cons (ds_for PassesOwn.never rfl (di_items (dv 3)) (dg_tup rfl (dgs_cons (dg_name (i := 4) sc_hiding.nd rfl (by first | exact Or.inl rfl | exact Or.inr rfl) (by first | exact Or.inl rfl | exact Or.inr rfl)) (dgs_cons (dg_name (i := 5) sc_hiding.nd rfl (by first | exact Or.inl rfl | exact Or.inr rfl) (by first | exact Or.inl rfl | exact Or.inr rfl)) dgs_nil))) (ds_one (ds_for PassesOwn.never rfl (di_items (dv 3)) (dg_tup rfl (dgs_cons (dg_name (i := 6) sc_hiding.nd rfl (by first | exact Or.inl rfl | exact Or.inr rfl) (by first | exact Or.inl rfl | exact Or.inr rfl)) (dgs_cons (dg_name (i := 7) sc_hiding.nd rfl (by first | exact Or.inl rfl | exact Or.inr rfl) (by first | exact Or.inl rfl | exact Or.inr rfl)) dgs_nil))) (ds_one (ds_if (tv (dcall G_hides hr (dc (dv 2) (dc (dv 5) (dc (dv 7) (dl (dcmp (r_eq hr.units) (dv 4) (dv 6)))))))) (ds_one (ds_ret (d_tup (dc (dix (dv 5) dint) (dc (dv 4) (dl (dv 6))))))) ds_nil))))) (ds_one (ds_ret dnon))))
/-! ### is_telling -/
abbrev s_is_telling : Stmt := top 34
def fb_is_telling : EM O := (sRet (eOp2 dIs (eCallV F_hiding (eCons (eVar 0) (eOne (eVar 1)))) (eCon .non)))
def F_is_telling : EM R := runF 2 2 fb_is_telling
theorem sc_is_telling : FnScope ["book", "name"] ["book", "name"] (defScope s_is_telling) := ⟨rfl, rfl, rfl, by decide +kernel, rfl, by decide +kernel, by decide +kernel⟩
theorem ok_is_telling {f : Addr} {fd : FuncData} (G_hiding : Fnk P w K mg base "hiding" 63 2 F_hiding) (M : MgB mg) (m : mg "is_telling" = some (.ref f)) (F : FnP K "is_telling" s_is_telling f fd) : Fnk P w K mg base "is_telling" 64 2 F_is_telling :=
  fnk_ok (N := ["book", "name"]) (ps := ["book", "name"]) m F sc_is_telling (fun _ _ _ _ _ _ us hl => match us, hl with | [_, _], _ => rfl) fun cdv A outer s H E hr => (ds_one (ds_ret (dcmp r_is (dcall G_hiding hr (dc (dv 0) (dl (dv 1)))) dnon)))
/-! ### body_length -/
abbrev s_body_length : Stmt := top 41
def fb_body_length (F_body_length : EM R) : EM O := (sSeq (eIf (tCmp dEq (eOp2 dIx (eVar 0) (eCon (.int 0))) (eCon (.str (Str.ofString "say")))) (sRet (eCon (.int 0))) (eRet .nx)) (sSeq (sAsg (eCallV F_divided (eOne (eVar 0))) (gTupD 2 (gConsD (gPut 1) (gConsD (gPut 2) gNilD)))) (sRet (eOp2 dAdd (eCon (.int 1)) (eOpN dMaxL (eOne (eLc (iAny (eVar 2)) (gPut 3) (eRet true) (eCallV F_body_length (eOne (eVar 3))) [3])))))))
def FR_body_length : Nat → EM R
  | 0 => fun _ => none
  | n + 1 => runF 4 1 (fb_body_length (FR_body_length n))
abbrev F_body_length : EM R := FR_body_length 60
theorem sc_body_length : FnScope ["body", "_", "inner", "part"] ["body"] (defScope s_body_length) := ⟨rfl, rfl, rfl, by decide +kernel, rfl, by decide +kernel, by decide +kernel⟩
theorem okR_body_length {f : Addr} {fd : FuncData} (G_divided : Fnk P w K mg base "divided" 1 1 F_divided) (M : MgB mg) (m : mg "body_length" = some (.ref f)) (F : FnP K "body_length" s_body_length f fd) : ∀ n, Fnk P w K mg base "body_length" (1 + n) 1 (FR_body_length n)
  | 0 => fnk_none (N := ["body", "_", "inner", "part"]) (ps := ["body"]) m F (fun _ _ _ _ _ _ us hl => match us, hl with | [_], _ => rfl)
  | n + 1 => by
    have G_body_length := okR_body_length G_divided M m F n
    exact fnk_ok (k := 1 + n) (N := ["body", "_", "inner", "part"]) (ps := ["body"]) m F sc_body_length (fun _ _ _ _ _ _ us hl => match us, hl with | [_], _ => rfl) fun cdv A outer s H E hr => (ds_cons (ds_if (tcmp (r_eq hr.units) (dix (dv 0) dint) dstr) (ds_one (ds_ret dint)) ds_nil) (ds_cons (ds_asg (dcall G_divided hr (dl (dv 0))) (dg_tup rfl (dgs_cons (dg_name (i := 1) sc_body_length.nd rfl (by first | exact Or.inl rfl | exact Or.inr rfl) (by first | exact Or.inl rfl | exact Or.inr rfl)) (dgs_cons (dg_name (i := 2) sc_body_length.nd rfl (by first | exact Or.inl rfl | exact Or.inr rfl) (by first | exact Or.inl rfl | exact Or.inr rfl)) dgs_nil)))) (ds_one (ds_ret (dop r_add dint (dB (r_maxL rfl) M.max (dl (d_lc (own := [("part", 3)]) rfl sc_body_length.nd (di_any (dv 2)) (blkOk_by (own := [("part", 3)]) (N := ["body", "_", "inner", "part"]) (sc := defScope s_body_length) (by decide +kernel)) (by decide) (fun _ _ _ _ _ => (dg_name (i := 3) sc_body_length.nd rfl (by first | exact Or.inl rfl | exact Or.inr rfl) (by first | exact Or.inl rfl | exact Or.inr rfl))) (fun _ _ _ _ _ => dts_nil) (fun _ _ _ _ _ => (dcall G_body_length hr (dl (dv 3)))))) (hv := by decide +kernel)))))))
theorem ok_body_length {f : Addr} {fd : FuncData} (G_divided : Fnk P w K mg base "divided" 1 1 F_divided) (M : MgB mg) (m : mg "body_length" = some (.ref f)) (F : FnP K "body_length" s_body_length f fd) : Fnk P w K mg base "body_length" 61 1 F_body_length := okR_body_length G_divided M m F 60
/-! ### length -/
abbrev s_length : Stmt := top 40
def fb_length : EM O := (sRet (eCallV F_body_length (eOne (eOp2 dIx (eIxO "Book" F_Book_getitem (eVar 0) (eVar 1)) (eCon (.int 2))))))
def F_length : EM R := runF 2 2 fb_length
theorem sc_length : FnScope ["book", "name"] ["book", "name"] (defScope s_length) := ⟨rfl, rfl, rfl, by decide +kernel, rfl, by decide +kernel, by decide +kernel⟩
theorem ok_length {f : Addr} {fd : FuncData} (G_body_length : Fnk P w K mg base "body_length" 61 1 F_body_length) (G_Book_getitem : Mtk P w K mg base "Book" "__getitem__" ["self", "at"] 1 2 F_Book_getitem ownBook) (M : MgB mg) (m : mg "length" = some (.ref f)) (F : FnP K "length" s_length f fd) : Fnk P w K mg base "length" 62 2 F_length :=
  fnk_ok (N := ["book", "name"]) (ps := ["book", "name"]) m F sc_length (fun _ _ _ _ _ _ us hl => match us, hl with | [_, _], _ => rfl) fun cdv A outer s H E hr => (ds_one (ds_ret (dcall G_body_length hr (dl (dix (dixO G_Book_getitem hr (dv 0) (dv 1)) dint)))))
/-! ### most_calls -/
abbrev s_most_calls : Stmt := top 43
def fb_most_calls : EM O := (sSeq (sSet 2 (eLc (iAny (eCallV F_checked_lines (eCons (eVar 0) (eOne (eVar 1))))) (gPut 3) (eRet true) (eOp2 dIx (eOp2 dIx (eVar 3) (eCon (.int 0))) (eCon (.int 0))) [3])) (sSeq (sSet 4 (eLc (iAny (eVar 2)) (gPut 5) (eRet true) (eIf (eTruth (eCallV F_is_telling (eCons (eVar 0) (eOne (eVar 5))))) (eCon (.int 0)) (eCallV F_length (eCons (eVar 0) (eOne (eVar 5))))) [5])) (sRet (eMaxD (eLc (iEnumX (eOne (eVar 2))) (gTupD 2 (gConsD (gPut 6) (gConsD (gPut 5) gNilD))) (eRet true) (eOpN dMin2 (eCons (eOp2 dAdd (eVar 6) (eCon (.int 1))) (eOne (eOp2 dAdd (eOp2 dAdd (eCon (.int 1)) (eCallV F_length (eCons (eVar 0) (eOne (eVar 5))))) (eOpN dSum (eOne (eCut (eVar 4) oNone (oInt (eVar 6))))))))) [6, 5]) (eCon (.int 0))))))
def F_most_calls : EM R := runF 7 2 fb_most_calls
theorem sc_most_calls : FnScope ["book", "lines", "names", "line", "added", "name", "n"] ["book", "lines"] (defScope s_most_calls) := ⟨rfl, rfl, rfl, by decide +kernel, rfl, by decide +kernel, by decide +kernel⟩
theorem ok_most_calls {f : Addr} {fd : FuncData} (G_checked_lines : Fnk P w K mg base "checked_lines" 63 2 F_checked_lines) (G_is_telling : Fnk P w K mg base "is_telling" 64 2 F_is_telling) (G_length : Fnk P w K mg base "length" 62 2 F_length) (M : MgB mg) (m : mg "most_calls" = some (.ref f)) (F : FnP K "most_calls" s_most_calls f fd) : Fnk P w K mg base "most_calls" 65 2 F_most_calls :=
  fnk_ok (N := ["book", "lines", "names", "line", "added", "name", "n"]) (ps := ["book", "lines"]) m F sc_most_calls (fun _ _ _ _ _ _ us hl => match us, hl with | [_, _], _ => rfl) fun cdv A outer s H E hr => (ds_cons (ds_setLc (i := 2) rfl rfl (sw_true rfl rfl rfl rfl) (own := [("line", 3)]) rfl sc_most_calls.nd (di_any (dcall G_checked_lines hr (dc (dv 0) (dl (dv 1))))) (blkOk_by (own := [("line", 3)]) (N := ["book", "lines", "names", "line", "added", "name", "n"]) (sc := defScope s_most_calls) (by decide +kernel)) (by decide) (fun _ _ _ _ _ => (dg_name (i := 3) sc_most_calls.nd rfl (by first | exact Or.inl rfl | exact Or.inr rfl) (by first | exact Or.inl rfl | exact Or.inr rfl))) (fun _ _ _ _ _ => dts_nil) (fun _ _ _ _ _ => (dix (dix (dv 3) dint) dint))) (ds_cons (ds_set (i := 4) sc_most_calls.nd rfl (by first | exact Or.inl rfl | exact Or.inr rfl) (by first | exact Or.inl rfl | exact Or.inr rfl) rfl (d_lc (own := [("name", 5)]) rfl sc_most_calls.nd (di_any (dv 2)) (blkOk_by (own := [("name", 5)]) (N := ["book", "lines", "names", "line", "added", "name", "n"]) (sc := defScope s_most_calls) (by decide +kernel)) (by decide) (fun _ _ _ _ _ => (dg_name (i := 5) sc_most_calls.nd rfl (by first | exact Or.inl rfl | exact Or.inr rfl) (by first | exact Or.inl rfl | exact Or.inr rfl))) (fun _ _ _ _ _ => dts_nil) (fun _ _ _ _ _ => (d_ife (tv (dcall G_is_telling hr (dc (dv 0) (dl (dv 5))))) dint (dcall G_length hr (dc (dv 0) (dl (dv 5)))))))) (ds_one (ds_ret (dmaxD rfl hr.units M.max (d_lc (own := [("n", 6), ("name", 5)]) rfl sc_most_calls.nd (di_enumX rfl M.enumerate (dl (dv 2))) (blkOk_by (own := [("n", 6), ("name", 5)]) (N := ["book", "lines", "names", "line", "added", "name", "n"]) (sc := defScope s_most_calls) (by decide +kernel)) (by decide) (fun _ _ _ _ _ => (dg_tup rfl (dgs_cons (dg_name (i := 6) sc_most_calls.nd rfl (by first | exact Or.inl rfl | exact Or.inr rfl) (by first | exact Or.inl rfl | exact Or.inr rfl)) (dgs_cons (dg_name (i := 5) sc_most_calls.nd rfl (by first | exact Or.inl rfl | exact Or.inr rfl) (by first | exact Or.inl rfl | exact Or.inr rfl)) dgs_nil)))) (fun _ _ _ _ _ => dts_nil) (fun _ _ _ _ _ => (dB (r_min2 rfl) M.min (dc (dop r_add (dv 6) dint) (dl (dop r_add (dop r_add dint (dcall G_length hr (dc (dv 0) (dl (dv 5))))) (dB (r_sum rfl) M.sum (dl (d_cut (dv 4) do_none (do_some (dv 6)))) (hv := by decide +kernel))))) (hv := by decide +kernel)))) dint)))))
theorem okK_most_calls {f : Addr} {fd : FuncData} (G_checked_lines : Fnk P w K mg base "checked_lines" 63 2 F_checked_lines) (G_is_telling : Fnk P w K mg base "is_telling" 64 2 F_is_telling) (G_length : Fnk P w K mg base "length" 62 2 F_length) (M : MgB mg) (m : mg "most_calls" = some (.ref f)) (F : FnP K "most_calls" s_most_calls f fd) : Knk P w K mg base "most_calls" ["lines", "book"] 65 2 F_most_calls :=
  knk_ok (N := ["book", "lines", "names", "line", "added", "name", "n"]) (p1 := "book") (p2 := "lines") m F sc_most_calls (fun _ _ _ _ _ _ _ _ => rfl) fun cdv A outer s H E hr => (ds_cons (ds_setLc (i := 2) rfl rfl (sw_true rfl rfl rfl rfl) (own := [("line", 3)]) rfl sc_most_calls.nd (di_any (dcall G_checked_lines hr (dc (dv 0) (dl (dv 1))))) (blkOk_by (own := [("line", 3)]) (N := ["book", "lines", "names", "line", "added", "name", "n"]) (sc := defScope s_most_calls) (by decide +kernel)) (by decide) (fun _ _ _ _ _ => (dg_name (i := 3) sc_most_calls.nd rfl (by first | exact Or.inl rfl | exact Or.inr rfl) (by first | exact Or.inl rfl | exact Or.inr rfl))) (fun _ _ _ _ _ => dts_nil) (fun _ _ _ _ _ => (dix (dix (dv 3) dint) dint))) (ds_cons (ds_set (i := 4) sc_most_calls.nd rfl (by first | exact Or.inl rfl | exact Or.inr rfl) (by first | exact Or.inl rfl | exact Or.inr rfl) rfl (d_lc (own := [("name", 5)]) rfl sc_most_calls.nd (di_any (dv 2)) (blkOk_by (own := [("name", 5)]) (N := ["book", "lines", "names", "line", "added", "name", "n"]) (sc := defScope s_most_calls) (by decide +kernel)) (by decide) (fun _ _ _ _ _ => (dg_name (i := 5) sc_most_calls.nd rfl (by first | exact Or.inl rfl | exact Or.inr rfl) (by first | exact Or.inl rfl | exact Or.inr rfl))) (fun _ _ _ _ _ => dts_nil) (fun _ _ _ _ _ => (d_ife (tv (dcall G_is_telling hr (dc (dv 0) (dl (dv 5))))) dint (dcall G_length hr (dc (dv 0) (dl (dv 5)))))))) (ds_one (ds_ret (dmaxD rfl hr.units M.max (d_lc (own := [("n", 6), ("name", 5)]) rfl sc_most_calls.nd (di_enumX rfl M.enumerate (dl (dv 2))) (blkOk_by (own := [("n", 6), ("name", 5)]) (N := ["book", "lines", "names", "line", "added", "name", "n"]) (sc := defScope s_most_calls) (by decide +kernel)) (by decide) (fun _ _ _ _ _ => (dg_tup rfl (dgs_cons (dg_name (i := 6) sc_most_calls.nd rfl (by first | exact Or.inl rfl | exact Or.inr rfl) (by first | exact Or.inl rfl | exact Or.inr rfl)) (dgs_cons (dg_name (i := 5) sc_most_calls.nd rfl (by first | exact Or.inl rfl | exact Or.inr rfl) (by first | exact Or.inl rfl | exact Or.inr rfl)) dgs_nil)))) (fun _ _ _ _ _ => dts_nil) (fun _ _ _ _ _ => (dB (r_min2 rfl) M.min (dc (dop r_add (dv 6) dint) (dl (dop r_add (dop r_add dint (dcall G_length hr (dc (dv 0) (dl (dv 5))))) (dB (r_sum rfl) M.sum (dl (d_cut (dv 4) do_none (do_some (dv 6)))) (hv := by decide +kernel))))) (hv := by decide +kernel)))) dint)))))
/-! ### _law_box -/
abbrev s_L_box : Stmt := top 51
def fb_L_box : EM O := (sSeq (sSet 2 (eIf (tCmp dLt (eVar 1) (eOpN dLen (eOne (eVar 0)))) (eOp2 dIx (eVar 0) (eVar 1)) (eCon (.int 0)))) (sRet (eLst (eCons (eOp2 dMul (eOpN dAbs (eOne (eVar 2))) (eOpN dInt (eOne (eOp2 dGe (eOpN dAbs (eOne (eVar 2))) (eOp2 dPow (eCon (.int 10)) (eCon (.int 18))))))) (eCons (eOp2 dAdd (eOp2 dAdd (eOp2 dMod (eOpN dInt (eOne (eVar 2))) (eCon (.int 2305843009213693951))) (eOp2 dMul (eCon (.int 39373)) (eVar 1))) (eCon (.int 58523))) (eOne (eCon (.int 0))))))))
def F_L_box : EM R := runF 3 2 fb_L_box
theorem sc_L_box : FnScope ["_law_script", "_law_k", "_law_cell"] ["_law_script", "_law_k"] (defScope s_L_box) := ⟨rfl, rfl, rfl, by decide +kernel, rfl, by decide +kernel, by decide +kernel⟩
theorem ok_L_box {f : Addr} {fd : FuncData} (M : MgB mg) (m : mg "_law_box" = some (.ref f)) (F : FnP K "_law_box" s_L_box f fd) : Fnk P w K mg base "_law_box" 1 2 F_L_box :=
  fnk_ok (N := ["_law_script", "_law_k", "_law_cell"]) (ps := ["_law_script", "_law_k"]) m F sc_L_box (fun _ _ _ _ _ _ us hl => match us, hl with | [_, _], _ => rfl) fun cdv A outer s H E hr => (ds_cons (ds_set (i := 2) sc_L_box.nd rfl (by first | exact Or.inl rfl | exact Or.inr rfl) (by first | exact Or.inl rfl | exact Or.inr rfl) rfl (d_ife (tcmp r_lt (dv 1) (dB r_len M.len (dl (dv 0)) (hv := bt_len))) (dix (dv 0) (dv 1)) dint)) (ds_one (ds_ret (d_lst (dc (dop r_mul (dB r_abs M.abs (dl (dv 2)) (hv := bt_abs)) (dT r_int M.int (dl (dcmp r_ge (dB r_abs M.abs (dl (dv 2)) (hv := bt_abs)) (dop r_pow dint dint))) (hv := bt_int))) (dc (dop r_add (dop r_add (dop r_mod (dT r_int M.int (dl (dv 2)) (hv := bt_int)) dint) (dop r_mul dint (dv 1))) dint) (dl dint)))))))
/-! ### _law_take -/
abbrev s_L_take : Stmt := top 52
def fb_L_take : EM O := (sSeq (eIf (tCmp dGt (eOp2 dIx (eVar 0) (eCon (.int 0))) (eCon (.int 0))) (sSeq (sSet 2 (eOp2 dMod (eOpN dInt (eOne (eOp2 dIx (eVar 0) (eCon (.int 0))))) (eVar 1))) (sSeq (sPut 0 (eCon (.int 0)) (eOp2 dFdv (eOp2 dIx (eVar 0) (eCon (.int 0))) (eVar 1))) (sRet (eVar 2)))) (eRet .nx)) (sSeq (sPut 0 (eCon (.int 2)) (eOp2 dAdd (eOp2 dIx (eVar 0) (eCon (.int 2))) (eCon (.int 1)))) (sSeq (sSet 3 (eOp2 dMod (eOpN dInt (eOne (eOp2 dMul (eOp2 dAdd (eOp2 dIx (eVar 0) (eCon (.int 1))) (eOp2 dMul (eCon (.int 48271)) (eOp2 dIx (eVar 0) (eCon (.int 2))))) (eOp2 dAdd (eCon (.int 39373)) (eOp2 dIx (eVar 0) (eCon (.int 2))))))) (eCon (.int 2147483647)))) (sSeq (sSet 4 (eOp2 dAdd (eOp2 dMod (eOpN dInt (eOne (eVar 3))) (eCon (.int 40009))) (eCon (.int 7)))) (sSeq (sSet 5 (eOp2 dMod (eOpN dInt (eOne (eOp2 dMul (eOp2 dAdd (eOp2 dAdd (eVar 3) (eOp2 dIx (eVar 0) (eCon (.int 2)))) (eOp2 dFdv (eOp2 dIx (eVar 0) (eCon (.int 1))) (eCon (.int 1000003)))) (eVar 4)))) (eCon (.int 2147483629)))) (sRet (eOp2 dMod (eOpN dInt (eOne (eOp2 dFdv (eOp2 dMod (eOpN dInt (eOne (eOp2 dAdd (eOp2 dMul (eVar 5) (eCon (.int 48271))) (eVar 3)))) (eCon (.int 2147483587))) (eCon (.int 64))))) (eVar 1))))))))
def F_L_take : EM R := runF 6 2 fb_L_take
theorem sc_L_take : FnScope ["_law_box_here", "_law_below", "_law_drawn", "_law_once", "_law_odd", "_law_twice"] ["_law_box_here", "_law_below"] (defScope s_L_take) := ⟨rfl, rfl, rfl, by decide +kernel, rfl, by decide +kernel, by decide +kernel⟩
theorem ok_L_take {f : Addr} {fd : FuncData} (M : MgB mg) (m : mg "_law_take" = some (.ref f)) (F : FnP K "_law_take" s_L_take f fd) : Fnk P w K mg base "_law_take" 1 2 F_L_take :=
  fnk_ok (N := ["_law_box_here", "_law_below", "_law_drawn", "_law_once", "_law_odd", "_law_twice"]) (ps := ["_law_box_here", "_law_below"]) m F sc_L_take (fun _ _ _ _ _ _ us hl => match us, hl with | [_, _], _ => rfl) fun cdv A outer s H E hr => (ds_cons (ds_if (tcmp r_gt (dix (dv 0) dint) dint) (ds_cons (ds_set (i := 2) sc_L_take.nd rfl (by first | exact Or.inl rfl | exact Or.inr rfl) (by first | exact Or.inl rfl | exact Or.inr rfl) rfl (dop r_mod (dT r_int M.int (dl (dix (dv 0) dint)) (hv := bt_int)) (dv 1))) (ds_cons (dput 0 dint (dop r_fdv (dix (dv 0) dint) (dv 1))) (ds_one (ds_ret (dv 2))))) ds_nil) (ds_cons (dput 0 dint (dop r_add (dix (dv 0) dint) dint)) (ds_cons (ds_set (i := 3) sc_L_take.nd rfl (by first | exact Or.inl rfl | exact Or.inr rfl) (by first | exact Or.inl rfl | exact Or.inr rfl) rfl (dop r_mod (dT r_int M.int (dl (dop r_mul (dop r_add (dix (dv 0) dint) (dop r_mul dint (dix (dv 0) dint))) (dop r_add dint (dix (dv 0) dint)))) (hv := bt_int)) dint)) (ds_cons (ds_set (i := 4) sc_L_take.nd rfl (by first | exact Or.inl rfl | exact Or.inr rfl) (by first | exact Or.inl rfl | exact Or.inr rfl) rfl (dop r_add (dop r_mod (dT r_int M.int (dl (dv 3)) (hv := bt_int)) dint) dint)) (ds_cons (ds_set (i := 5) sc_L_take.nd rfl (by first | exact Or.inl rfl | exact Or.inr rfl) (by first | exact Or.inl rfl | exact Or.inr rfl) rfl (dop r_mod (dT r_int M.int (dl (dop r_mul (dop r_add (dop r_add (dv 3) (dix (dv 0) dint)) (dop r_fdv (dix (dv 0) dint) dint)) (dv 4))) (hv := bt_int)) dint)) (ds_one (ds_ret (dop r_mod (dT r_int M.int (dl (dop r_fdv (dop r_mod (dT r_int M.int (dl (dop r_add (dop r_mul (dv 5) dint) (dv 3))) (hv := bt_int)) dint) dint)) (hv := bt_int)) (dv 1)))))))))
/-! ### _law_cells -/
abbrev s_L_cells : Stmt := top 53
def fb_L_cells : EM O := (sSeq (sSet 2 (eOr2 (eOpN dList (eOne (eCut (eVar 0) oNone (oInt (eVar 1))))) (eLst (eOne (eCon (.int 0)))))) (sSeq (sFor (iEnumX (eOne (eCut (eVar 0) (oInt (eVar 1)) (oInt (eCon (.int 63)))))) (gTupD 2 (gConsD (gPut 3) (gConsD (gPut 4) gNilD))) (sSeq (sSet 5 (eOp2 dMod (eOpN dInt (eOne (eVar 3))) (eVar 1))) (sPut 2 (eVar 5) (eOp2 dAdd (eOp2 dIx (eVar 2) (eVar 5)) (eOp2 dMul (eVar 4) (eOp2 dAdd (eVar 3) (eCon (.int 2)))))))) (sRet (eVar 2))))
def F_L_cells : EM R := runF 6 2 fb_L_cells
theorem sc_L_cells : FnScope ["_law_script", "_law_most_so", "_law_cells_here", "_law_k", "_law_cell", "_law_at_so"] ["_law_script", "_law_most_so"] (defScope s_L_cells) := ⟨rfl, rfl, rfl, by decide +kernel, rfl, by decide +kernel, by decide +kernel⟩
theorem ok_L_cells {f : Addr} {fd : FuncData} (M : MgB mg) (m : mg "_law_cells" = some (.ref f)) (F : FnP K "_law_cells" s_L_cells f fd) : Fnk P w K mg base "_law_cells" 1 2 F_L_cells :=
  fnk_ok (N := ["_law_script", "_law_most_so", "_law_cells_here", "_law_k", "_law_cell", "_law_at_so"]) (ps := ["_law_script", "_law_most_so"]) m F sc_L_cells (fun _ _ _ _ _ _ us hl => match us, hl with | [_, _], _ => rfl) fun cdv A outer s H E hr => (ds_cons (ds_set (i := 2) sc_L_cells.nd rfl (by first | exact Or.inl rfl | exact Or.inr rfl) (by first | exact Or.inl rfl | exact Or.inr rfl) rfl (d_or (dT r_list M.list (dl (d_cut (dv 0) do_none (do_some (dv 1)))) (hv := bt_list)) (d_one (d_lst (dl dint))))) (ds_cons (ds_for PassesOwn.never rfl (di_enumX rfl M.enumerate (dl (d_cut (dv 0) (do_some (dv 1)) (do_some dint)))) (dg_tup rfl (dgs_cons (dg_name (i := 3) sc_L_cells.nd rfl (by first | exact Or.inl rfl | exact Or.inr rfl) (by first | exact Or.inl rfl | exact Or.inr rfl)) (dgs_cons (dg_name (i := 4) sc_L_cells.nd rfl (by first | exact Or.inl rfl | exact Or.inr rfl) (by first | exact Or.inl rfl | exact Or.inr rfl)) dgs_nil))) (ds_cons (ds_set (i := 5) sc_L_cells.nd rfl (by first | exact Or.inl rfl | exact Or.inr rfl) (by first | exact Or.inl rfl | exact Or.inr rfl) rfl (dop r_mod (dT r_int M.int (dl (dv 3)) (hv := bt_int)) (dv 1))) (ds_one (dput 2 (dv 5) (dop r_add (dix (dv 2) (dv 5)) (dop r_mul (dv 4) (dop r_add (dv 3) dint))))))) (ds_one (ds_ret (dv 2)))))
/-! ### _law_of -/
abbrev s_L_of : Stmt := top 54
def fb_L_of : EM O := (sRet (eOp2 dIx (eVar 1) (eCallM F_L_take (eCons (eVar 0) (eOne (eOpN dLen (eOne (eVar 1))))))))
def F_L_of : EM R := runF 2 2 fb_L_of
theorem sc_L_of : FnScope ["_law_box_here", "_law_some"] ["_law_box_here", "_law_some"] (defScope s_L_of) := ⟨rfl, rfl, rfl, by decide +kernel, rfl, by decide +kernel, by decide +kernel⟩
theorem ok_L_of {f : Addr} {fd : FuncData} (G_L_take : Fnk P w K mg base "_law_take" 1 2 F_L_take) (M : MgB mg) (m : mg "_law_of" = some (.ref f)) (F : FnP K "_law_of" s_L_of f fd) : Fnk P w K mg base "_law_of" 2 2 F_L_of :=
  fnk_ok (N := ["_law_box_here", "_law_some"]) (ps := ["_law_box_here", "_law_some"]) m F sc_L_of (fun _ _ _ _ _ _ us hl => match us, hl with | [_, _], _ => rfl) fun cdv A outer s H E hr => (ds_one (ds_ret (dix (dv 1) (dcallM G_L_take hr (dc (dv 0) (dl (dB r_len M.len (dl (dv 1)) (hv := bt_len))))))))
/-! ### _law_is_number -/
abbrev s_L_is_number : Stmt := top 57
def fb_L_is_number : EM O := (sRet (eAnd2 (eOpN dIsi (eCons (eVar 0) (eOne (eCon (.ty "int"))))) (eNot (eOpN dIsi (eCons (eVar 0) (eOne (eCon (.ty "bool"))))))))
def F_L_is_number : EM R := runF 1 1 fb_L_is_number
theorem sc_L_is_number : FnScope ["_law_matter"] ["_law_matter"] (defScope s_L_is_number) := ⟨rfl, rfl, rfl, by decide +kernel, rfl, by decide +kernel, by decide +kernel⟩
theorem ok_L_is_number {f : Addr} {fd : FuncData} (M : MgB mg) (m : mg "_law_is_number" = some (.ref f)) (F : FnP K "_law_is_number" s_L_is_number f fd) : Fnk P w K mg base "_law_is_number" 1 1 F_L_is_number :=
  fnk_ok (N := ["_law_matter"]) (ps := ["_law_matter"]) m F sc_L_is_number (fun _ _ _ _ _ _ us hl => match us, hl with | [_], _ => rfl) fun cdv A outer s H E hr => (ds_one (ds_ret (d_and (dB r_isi M.isinstance (dc (dv 0) (dl (dty "int" M.int (hv := bt_int)))) (hv := bt_isinstance)) (d_one (d_not (dB r_isi M.isinstance (dc (dv 0) (dl (dty "bool" M.bool (hv := bt_bool)))) (hv := bt_isinstance)))))))
/-! ### _law_mixed -/
abbrev s_L_mixed : Stmt := top 55
def fb_L_mixed (F_L_mixed : EM R) : EM O := (sSeq (eIf (tNo (eTruth (eOpN dIsi (eCons (eVar 1) (eOne (eTup (eCons (eCon (.ty "list")) (eOne (eCon (.ty "tuple")))))))))) (sRet (eVar 1)) (eRet .nx)) (sSeq (sSet 2 (eLc (iAny (eVar 1)) (gPut 3) (eRet true) (eCallM F_L_mixed (eCons (eVar 0) (eOne (eVar 3)))) [3])) (sRet (eIf (tCmp dEq (eCallM F_L_take (eCons (eVar 0) (eOne (eCon (.int 2))))) (eCon (.int 0))) (eVar 2) (eOpN dTuple (eOne (eVar 2)))))))
def FR_L_mixed : Nat → EM R
  | 0 => fun _ => none
  | n + 1 => runF 4 2 (fb_L_mixed (FR_L_mixed n))
abbrev F_L_mixed : EM R := FR_L_mixed 60
theorem sc_L_mixed : FnScope ["_law_box_here", "_law_matter", "_law_bits", "_law_bit"] ["_law_box_here", "_law_matter"] (defScope s_L_mixed) := ⟨rfl, rfl, rfl, by decide +kernel, rfl, by decide +kernel, by decide +kernel⟩
theorem okR_L_mixed {f : Addr} {fd : FuncData} (G_L_take : Fnk P w K mg base "_law_take" 1 2 F_L_take) (M : MgB mg) (m : mg "_law_mixed" = some (.ref f)) (F : FnP K "_law_mixed" s_L_mixed f fd) : ∀ n, Fnk P w K mg base "_law_mixed" (1 + n) 2 (FR_L_mixed n)
  | 0 => fnk_none (N := ["_law_box_here", "_law_matter", "_law_bits", "_law_bit"]) (ps := ["_law_box_here", "_law_matter"]) m F (fun _ _ _ _ _ _ us hl => match us, hl with | [_, _], _ => rfl)
  | n + 1 => by
    have G_L_mixed := okR_L_mixed G_L_take M m F n
    exact fnk_ok (k := 1 + n) (N := ["_law_box_here", "_law_matter", "_law_bits", "_law_bit"]) (ps := ["_law_box_here", "_law_matter"]) m F sc_L_mixed (fun _ _ _ _ _ _ us hl => match us, hl with | [_, _], _ => rfl) fun cdv A outer s H E hr => (ds_cons (ds_if (dt_not (tv (dB r_isi M.isinstance (dc (dv 1) (dl (d_tup (dc (dty "list" M.list (hv := bt_list)) (dl (dty "tuple" M.tuple (hv := bt_tuple))))))) (hv := bt_isinstance)))) (ds_one (ds_ret (dv 1))) ds_nil) (ds_cons (ds_setLc (i := 2) rfl rfl (sw_true rfl rfl rfl rfl) (own := [("_law_bit", 3)]) rfl sc_L_mixed.nd (di_any (dv 1)) (blkOk_by (own := [("_law_bit", 3)]) (N := ["_law_box_here", "_law_matter", "_law_bits", "_law_bit"]) (sc := defScope s_L_mixed) (by decide +kernel)) (by decide) (fun _ _ _ _ _ => (dg_name (i := 3) sc_L_mixed.nd rfl (by first | exact Or.inl rfl | exact Or.inr rfl) (by first | exact Or.inl rfl | exact Or.inr rfl))) (fun _ _ _ _ _ => dts_nil) (fun _ _ _ _ _ => (dcallM G_L_mixed hr (dc (dv 0) (dl (dv 3)))))) (ds_one (ds_ret (d_ife (tcmp (r_eq hr.units) (dcallM G_L_take hr (dc (dv 0) (dl dint))) dint) (dv 2) (dT r_tuple M.tuple (dl (dv 2)) (hv := bt_tuple)))))))
theorem ok_L_mixed {f : Addr} {fd : FuncData} (G_L_take : Fnk P w K mg base "_law_take" 1 2 F_L_take) (M : MgB mg) (m : mg "_law_mixed" = some (.ref f)) (F : FnP K "_law_mixed" s_L_mixed f fd) : Fnk P w K mg base "_law_mixed" 61 2 F_L_mixed := okR_L_mixed G_L_take M m F 60
/-! ### _law_same -/
abbrev s_L_same : Stmt := top 56
def fb_L_same (F_L_same : EM R) : EM O := (sSeq (eIf (eTruth (eOpN dIsi (eCons (eVar 1) (eOne (eCon (.ty "dict")))))) (sSeq (eIf (tOr2 (tNo (eTruth (eOpN dIsi (eCons (eVar 0) (eOne (eCon (.ty "dict"))))))) (tCmp dNe (eOpN dLen (eOne (eVar 0))) (eOpN dLen (eOne (eVar 1))))) (sRet (eCon (.bl false))) (eRet .nx)) (sRet (eOpN dAll (eOne (eLc (iAny (eVar 1)) (gPut 2) (eRet true) (eAnd2 (eOp2 dIn (eVar 2) (eVar 0)) (eAnd2 (eCallV F_L_is_number (eOne (eVar 2))) (eCallV F_L_same (eCons (eOp2 dIx (eVar 0) (eVar 2)) (eOne (eOp2 dIx (eVar 1) (eVar 2))))))) [2]))))) (eRet .nx)) (sSeq (eIf (eTruth (eOpN dIsi (eCons (eVar 1) (eOne (eTup (eCons (eCon (.ty "list")) (eOne (eCon (.ty "tuple"))))))))) (sSeq (eIf (tOr2 (tCmp dNe (eOpN dIsi (eCons (eVar 0) (eOne (eCon (.ty "list"))))) (eOpN dIsi (eCons (eVar 1) (eOne (eCon (.ty "list")))))) (tCmp dNe (eOpN dIsi (eCons (eVar 0) (eOne (eCon (.ty "tuple"))))) (eOpN dIsi (eCons (eVar 1) (eOne (eCon (.ty "tuple"))))))) (sRet (eCon (.bl false))) (eRet .nx)) (sRet (eAnd2 (eOp2 dEq (eOpN dLen (eOne (eVar 0))) (eOpN dLen (eOne (eVar 1)))) (eOpN dAll (eOne (eLc (iZipD (eCons (eVar 0) (eOne (eVar 1)))) (gTupD 2 (gConsD (gPut 3) (gConsD (gPut 4) gNilD))) (eRet true) (eCallV F_L_same (eCons (eVar 3) (eOne (eVar 4)))) [3, 4])))))) (eRet .nx)) (sSeq (eIf (tOr2 (tCmp dIs (eVar 1) (eCon .non)) (eTruth (eOpN dIsi (eCons (eVar 1) (eOne (eTup (eCons (eCon (.ty "bool")) (eOne (eCon (.ty "str")))))))))) (sRet (eAnd2 (eOp2 dEq (eVar 0) (eVar 1)) (eAnd2 (eOp2 dEq (eOpN dIsi (eCons (eVar 0) (eOne (eCon (.ty "bool"))))) (eOpN dIsi (eCons (eVar 1) (eOne (eCon (.ty "bool")))))) (eOp2 dEq (eOp2 dIs (eVar 0) (eCon .non)) (eOp2 dIs (eVar 1) (eCon .non)))))) (eRet .nx)) (sRet (eAnd2 (eCallV F_L_is_number (eOne (eVar 0))) (eOp2 dEq (eVar 0) (eVar 1)))))))
def FR_L_same : Nat → EM R
  | 0 => fun _ => none
  | n + 1 => runF 5 2 (fb_L_same (FR_L_same n))
abbrev F_L_same : EM R := FR_L_same 60
theorem sc_L_same : FnScope ["_law_got", "_law_due_here", "_law_key", "_law_mine", "_law_its"] ["_law_got", "_law_due_here"] (defScope s_L_same) := ⟨rfl, rfl, rfl, by decide +kernel, rfl, by decide +kernel, by decide +kernel⟩
theorem okR_L_same {f : Addr} {fd : FuncData} (G_L_is_number : Fnk P w K mg base "_law_is_number" 1 1 F_L_is_number) (M : MgB mg) (m : mg "_law_same" = some (.ref f)) (F : FnP K "_law_same" s_L_same f fd) : ∀ n, Fnk P w K mg base "_law_same" (1 + n) 2 (FR_L_same n)
  | 0 => fnk_none (N := ["_law_got", "_law_due_here", "_law_key", "_law_mine", "_law_its"]) (ps := ["_law_got", "_law_due_here"]) m F (fun _ _ _ _ _ _ us hl => match us, hl with | [_, _], _ => rfl)
  | n + 1 => by
    have G_L_same := okR_L_same G_L_is_number M m F n
    exact fnk_ok (k := 1 + n) (N := ["_law_got", "_law_due_here", "_law_key", "_law_mine", "_law_its"]) (ps := ["_law_got", "_law_due_here"]) m F sc_L_same (fun _ _ _ _ _ _ us hl => match us, hl with | [_, _], _ => rfl) fun cdv A outer s H E hr => (ds_cons (ds_if (tv (dB r_isi M.isinstance (dc (dv 1) (dl (dty "dict" M.dict (hv := bt_dict)))) (hv := bt_isinstance))) (ds_cons (ds_if (PW.pt (dw_or (dt_not (tv (dB r_isi M.isinstance (dc (dv 0) (dl (dty "dict" M.dict (hv := bt_dict)))) (hv := bt_isinstance)))) (dw_or1 (tcmp (r_ne hr.units) (dB r_len M.len (dl (dv 0)) (hv := bt_len)) (dB r_len M.len (dl (dv 1)) (hv := bt_len)))))) (ds_one (ds_ret dbl)) ds_nil) (ds_one (ds_ret (dB (r_all rfl) M.all (dl (d_lc (own := [("_law_key", 2)]) rfl sc_L_same.nd (di_any (dv 1)) (blkOk_by (own := [("_law_key", 2)]) (N := ["_law_got", "_law_due_here", "_law_key", "_law_mine", "_law_its"]) (sc := defScope s_L_same) (by decide +kernel)) (by decide) (fun _ _ _ _ _ => (dg_name (i := 2) sc_L_same.nd rfl (by first | exact Or.inl rfl | exact Or.inr rfl) (by first | exact Or.inl rfl | exact Or.inr rfl))) (fun _ _ _ _ _ => dts_nil) (fun _ _ _ _ _ => (d_and (dcmp (r_in hr.units) (dv 2) (dv 0)) (d_and (dcall G_L_is_number hr (dl (dv 2))) (d_one (dcall G_L_same hr (dc (dix (dv 0) (dv 2)) (dl (dix (dv 1) (dv 2))))))))))) (hv := bt_all))))) ds_nil) (ds_cons (ds_if (tv (dB r_isi M.isinstance (dc (dv 1) (dl (d_tup (dc (dty "list" M.list (hv := bt_list)) (dl (dty "tuple" M.tuple (hv := bt_tuple))))))) (hv := bt_isinstance))) (ds_cons (ds_if (PW.pt (dw_or (tcmp (r_ne hr.units) (dB r_isi M.isinstance (dc (dv 0) (dl (dty "list" M.list (hv := bt_list)))) (hv := bt_isinstance)) (dB r_isi M.isinstance (dc (dv 1) (dl (dty "list" M.list (hv := bt_list)))) (hv := bt_isinstance))) (dw_or1 (tcmp (r_ne hr.units) (dB r_isi M.isinstance (dc (dv 0) (dl (dty "tuple" M.tuple (hv := bt_tuple)))) (hv := bt_isinstance)) (dB r_isi M.isinstance (dc (dv 1) (dl (dty "tuple" M.tuple (hv := bt_tuple)))) (hv := bt_isinstance)))))) (ds_one (ds_ret dbl)) ds_nil) (ds_one (ds_ret (d_and (dcmp (r_eq hr.units) (dB r_len M.len (dl (dv 0)) (hv := bt_len)) (dB r_len M.len (dl (dv 1)) (hv := bt_len))) (d_one (dB (r_all rfl) M.all (dl (d_lc (own := [("_law_mine", 3), ("_law_its", 4)]) rfl sc_L_same.nd (di_zip rfl M.zip (dc (dv 0) (dl (dv 1)))) (blkOk_by (own := [("_law_mine", 3), ("_law_its", 4)]) (N := ["_law_got", "_law_due_here", "_law_key", "_law_mine", "_law_its"]) (sc := defScope s_L_same) (by decide +kernel)) (by decide) (fun _ _ _ _ _ => (dg_tup rfl (dgs_cons (dg_name (i := 3) sc_L_same.nd rfl (by first | exact Or.inl rfl | exact Or.inr rfl) (by first | exact Or.inl rfl | exact Or.inr rfl)) (dgs_cons (dg_name (i := 4) sc_L_same.nd rfl (by first | exact Or.inl rfl | exact Or.inr rfl) (by first | exact Or.inl rfl | exact Or.inr rfl)) dgs_nil)))) (fun _ _ _ _ _ => dts_nil) (fun _ _ _ _ _ => (dcall G_L_same hr (dc (dv 3) (dl (dv 4))))))) (hv := bt_all))))))) ds_nil) (ds_cons (ds_if (PW.pt (dw_or (tcmp r_is (dv 1) dnon) (dw_or1 (tv (dB r_isi M.isinstance (dc (dv 1) (dl (d_tup (dc (dty "bool" M.bool (hv := bt_bool)) (dl (dty "str" M.str (hv := bt_str))))))) (hv := bt_isinstance)))))) (ds_one (ds_ret (d_and (dcmp (r_eq hr.units) (dv 0) (dv 1)) (d_and (dcmp (r_eq hr.units) (dB r_isi M.isinstance (dc (dv 0) (dl (dty "bool" M.bool (hv := bt_bool)))) (hv := bt_isinstance)) (dB r_isi M.isinstance (dc (dv 1) (dl (dty "bool" M.bool (hv := bt_bool)))) (hv := bt_isinstance))) (d_one (dcmp (r_eq hr.units) (dcmp r_is (dv 0) dnon) (dcmp r_is (dv 1) dnon))))))) ds_nil) (ds_one (ds_ret (d_and (dcall G_L_is_number hr (dl (dv 0))) (d_one (dcmp (r_eq hr.units) (dv 0) (dv 1)))))))))
theorem ok_L_same {f : Addr} {fd : FuncData} (G_L_is_number : Fnk P w K mg base "_law_is_number" 1 1 F_L_is_number) (M : MgB mg) (m : mg "_law_same" = some (.ref f)) (F : FnP K "_law_same" s_L_same f fd) : Fnk P w K mg base "_law_same" 61 2 F_L_same := okR_L_same G_L_is_number M m F 60
/-! ### _law_names -/
abbrev s_L_names : Stmt := top 58
def fb_L_names : EM O := (sSeq (sSet 2 (eLst eNil)) (sSeq (sFor (iRange (eOne (eVar 1))) (gPut 3) (sSeq (sSet 4 (eJoin (eCon (.str (Str.ofString ""))) (eLc (iRange (eOne (eOp2 dAdd (eCon (.int 1)) (eCallM F_L_take (eCons (eVar 0) (eOne (eCon (.int 4)))))))) (gPut 5) (eRet true) (eCallM F_L_of (eCons (eVar 0) (eOne (eCon (.str (Str.ofString "abcdefghijklmnopqrstuvwxyz")))))) [5]))) (sSeq (eIf (tCmp dIn (eVar 4) (eVar 2)) (sSet 4 (eOp2 dAdd (eCut (eOp2 dAdd (eVar 4) (eCon (.str (Str.ofString "jjjj")))) oNone (oInt (eCon (.int 4)))) (eOp2 dMul (eOp2 dIx (eCon (.str (Str.ofString "abcdefghijklmnopqrstuvwxyz"))) (eVar 3)) (eCon (.int 2))))) (eRet .nx)) (sExp (eBind (hasL 2) fun _ => eApp 2 (eOne (eVar 4))))))) (sRet (eVar 2))))
def F_L_names : EM R := runF 6 2 fb_L_names
theorem sc_L_names : FnScope ["_law_box_here", "_law_many", "_law_found", "_law_k", "_law_word_so", "_law_lap"] ["_law_box_here", "_law_many"] (defScope s_L_names) := ⟨rfl, rfl, rfl, by decide +kernel, rfl, by decide +kernel, by decide +kernel⟩
theorem ok_L_names {f : Addr} {fd : FuncData} (G_L_take : Fnk P w K mg base "_law_take" 1 2 F_L_take) (G_L_of : Fnk P w K mg base "_law_of" 2 2 F_L_of) (M : MgB mg) (m : mg "_law_names" = some (.ref f)) (F : FnP K "_law_names" s_L_names f fd) : Fnk P w K mg base "_law_names" 3 2 F_L_names :=
  fnk_ok (N := ["_law_box_here", "_law_many", "_law_found", "_law_k", "_law_word_so", "_law_lap"]) (ps := ["_law_box_here", "_law_many"]) m F sc_L_names (fun _ _ _ _ _ _ us hl => match us, hl with | [_, _], _ => rfl) fun cdv A outer s H E hr => (ds_cons (ds_set (i := 2) sc_L_names.nd rfl (by first | exact Or.inl rfl | exact Or.inr rfl) (by first | exact Or.inl rfl | exact Or.inr rfl) rfl (d_lst dn)) (ds_cons (ds_for PassesOwn.never rfl (di_range rfl M.range (dl (dv 1))) (dg_name (i := 3) sc_L_names.nd rfl (by first | exact Or.inl rfl | exact Or.inr rfl) (by first | exact Or.inl rfl | exact Or.inr rfl)) (ds_cons (ds_set (i := 4) sc_L_names.nd rfl (by first | exact Or.inl rfl | exact Or.inr rfl) (by first | exact Or.inl rfl | exact Or.inr rfl) rfl (d_join dstr (d_lc (own := [("_law_lap", 5)]) rfl sc_L_names.nd (di_range rfl M.range (dl (dop r_add dint (dcallM G_L_take hr (dc (dv 0) (dl dint)))))) (blkOk_by (own := [("_law_lap", 5)]) (N := ["_law_box_here", "_law_many", "_law_found", "_law_k", "_law_word_so", "_law_lap"]) (sc := defScope s_L_names) (by decide +kernel)) (by decide) (fun _ _ _ _ _ => (dg_name (i := 5) sc_L_names.nd rfl (by first | exact Or.inl rfl | exact Or.inr rfl) (by first | exact Or.inl rfl | exact Or.inr rfl))) (fun _ _ _ _ _ => dts_nil) (fun _ _ _ _ _ => (dcallM G_L_of hr (dc (dv 0) (dl dstr))))))) (ds_cons (ds_if (tcmp (r_in hr.units) (dv 4) (dv 2)) (ds_one (ds_set (i := 4) sc_L_names.nd rfl (by first | exact Or.inl rfl | exact Or.inr rfl) (by first | exact Or.inl rfl | exact Or.inr rfl) rfl (dop r_add (d_cut (dop r_add (dv 4) dstr) do_none (do_some dint)) (dop r_mul (dix dstr (dv 3)) dint)))) ds_nil) (ds_one (ds_expr rfl (dapp 2 (dl (dv 4)))))))) (ds_one (ds_ret (dv 2)))))
/-! ### _law_pool -/
abbrev s_L_pool : Stmt := top 59
def fb_L_pool : EM O := (sSeq (sSet 1 (eCallM F_L_take (eCons (eVar 0) (eOne (eCon (.int 8)))))) (sRet (eLst (eCons (eVar 1) (eCons (eOp2 dAdd (eOp2 dAdd (eVar 1) (eCon (.int 1))) (eCallM F_L_take (eCons (eVar 0) (eOne (eCon (.int 5)))))) (eCons (eOp2 dSub (eOp1 dNeg (eCon (.int 1))) (eCallM F_L_take (eCons (eVar 0) (eOne (eCon (.int 4)))))) (eOne (eOp2 dAdd (eOp2 dPow (eCon (.int 10)) (eCon (.int 25))) (eCallM F_L_take (eCons (eVar 0) (eOne (eCon (.int 1000)))))))))))))
def F_L_pool : EM R := runF 2 1 fb_L_pool
theorem sc_L_pool : FnScope ["_law_box_here", "_law_low_so"] ["_law_box_here"] (defScope s_L_pool) := ⟨rfl, rfl, rfl, by decide +kernel, rfl, by decide +kernel, by decide +kernel⟩
theorem ok_L_pool {f : Addr} {fd : FuncData} (G_L_take : Fnk P w K mg base "_law_take" 1 2 F_L_take) (M : MgB mg) (m : mg "_law_pool" = some (.ref f)) (F : FnP K "_law_pool" s_L_pool f fd) : Fnk P w K mg base "_law_pool" 2 1 F_L_pool :=
  fnk_ok (N := ["_law_box_here", "_law_low_so"]) (ps := ["_law_box_here"]) m F sc_L_pool (fun _ _ _ _ _ _ us hl => match us, hl with | [_], _ => rfl) fun cdv A outer s H E hr => (ds_cons (ds_set (i := 1) sc_L_pool.nd rfl (by first | exact Or.inl rfl | exact Or.inr rfl) (by first | exact Or.inl rfl | exact Or.inr rfl) rfl (dcallM G_L_take hr (dc (dv 0) (dl dint)))) (ds_one (ds_ret (d_lst (dc (dv 1) (dc (dop r_add (dop r_add (dv 1) dint) (dcallM G_L_take hr (dc (dv 0) (dl dint)))) (dc (dop r_sub (dneg dint) (dcallM G_L_take hr (dc (dv 0) (dl dint)))) (dl (dop r_add (dop r_pow dint dint) (dcallM G_L_take hr (dc (dv 0) (dl dint))))))))))))
/-! ### _law_say -/
abbrev s_L_say : Stmt := top 60
def fb_L_say : EM O := (sSeq (sSet 4 (eLst eNil)) (sSeq (sFor (iRange (eOne (eIf (tCmp dNe (eVar 2) (eLst eNil)) (eCallM F_L_of (eCons (eVar 0) (eOne (eLst (eCons (eCon (.int 0)) (eCons (eCon (.int 1)) (eCons (eCon (.int 1)) (eOne (eCon (.int 2)))))))))) (eCon (.int 0))))) (gPut 5) (sSeq (sPar 6 7 (eCons (eCallM F_L_of (eCons (eVar 0) (eOne (eVar 2)))) (eOne (eCallM F_L_take (eCons (eVar 0) (eOne (eCon (.int 4)))))))) (eIf (tCmp dLt (eVar 7) (eCon (.int 2))) (sExp (eBind (hasL 4) fun _ => eApp 4 (eOne (eTup (eCons (eCon (.str (Str.ofString "make"))) (eCons (eVar 6) (eOne (eOpN dTuple (eOne (eLc (iAny (eVar 1)) (gPut 8) (eRet true) (eCallM F_L_of (eCons (eVar 0) (eOne (eOp2 dAdd (eVar 2) (eLst (eOne (eCon (.int 0)))))))) [8])))))))))) (eIf (tCmp dEq (eVar 7) (eCon (.int 2))) (sExp (eBind (hasL 4) fun _ => eApp 4 (eOne (eTup (eCons (eCon (.str (Str.ofString "set"))) (eCons (eVar 6) (eCons (eCallM F_L_of (eCons (eVar 0) (eOne (eVar 1)))) (eOne (eCallM F_L_of (eCons (eVar 0) (eOne (eOp2 dAdd (eVar 2) (eLst (eOne (eCon (.int 0)))))))))))))))) (sExp (eBind (hasL 4) fun _ => eApp 4 (eOne (eTup (eCons (eCon (.str (Str.ofString "drop"))) (eOne (eVar 6))))))))))) (sRet (eTup (eCons (eCon (.str (Str.ofString "say"))) (eCons (eOpN dTuple (eOne (eVar 4))) (eOne (eCallM F_L_of (eCons (eVar 0) (eOne (eVar 3)))))))))))
def F_L_say : EM R := runF 9 4 fb_L_say
theorem sc_L_say : FnScope ["_law_box_here", "_law_fields_so", "_law_terms_so", "_law_words_so", "_law_changes_so", "_law_lap", "_law_key_so", "_law_sort_so", "_law_own"] ["_law_box_here", "_law_fields_so", "_law_terms_so", "_law_words_so"] (defScope s_L_say) := ⟨rfl, rfl, rfl, by decide +kernel, rfl, by decide +kernel, by decide +kernel⟩
theorem ok_L_say {f : Addr} {fd : FuncData} (G_L_of : Fnk P w K mg base "_law_of" 2 2 F_L_of) (G_L_take : Fnk P w K mg base "_law_take" 1 2 F_L_take) (M : MgB mg) (m : mg "_law_say" = some (.ref f)) (F : FnP K "_law_say" s_L_say f fd) : Fnk P w K mg base "_law_say" 3 4 F_L_say :=
  fnk_ok (N := ["_law_box_here", "_law_fields_so", "_law_terms_so", "_law_words_so", "_law_changes_so", "_law_lap", "_law_key_so", "_law_sort_so", "_law_own"]) (ps := ["_law_box_here", "_law_fields_so", "_law_terms_so", "_law_words_so"]) m F sc_L_say (fun _ _ _ _ _ _ us hl => match us, hl with | [_, _, _, _], _ => rfl) fun cdv A outer s H E hr => (ds_cons (ds_set (i := 4) sc_L_say.nd rfl (by first | exact Or.inl rfl | exact Or.inr rfl) (by first | exact Or.inl rfl | exact Or.inr rfl) rfl (d_lst dn)) (ds_cons (ds_for PassesOwn.never rfl (di_range rfl M.range (dl (d_ife (tcmp (r_ne hr.units) (dv 2) (d_lst dn)) (dcallM G_L_of hr (dc (dv 0) (dl (d_lst (dc dint (dc dint (dc dint (dl dint)))))))) dint))) (dg_name (i := 5) sc_L_say.nd rfl (by first | exact Or.inl rfl | exact Or.inr rfl) (by first | exact Or.inl rfl | exact Or.inr rfl)) (ds_cons (ds_par (i := 6) (j := 7) rfl sc_L_say.nd rfl rfl (by decide) rfl rfl (dc (dcallM G_L_of hr (dc (dv 0) (dl (dv 2)))) (dl (dcallM G_L_take hr (dc (dv 0) (dl dint))))) rfl) (ds_one (ds_if (tcmp r_lt (dv 7) dint) (ds_one (ds_expr rfl (dapp 4 (dl (d_tup (dc dstr (dc (dv 6) (dl (dT r_tuple M.tuple (dl (d_lc (own := [("_law_own", 8)]) rfl sc_L_say.nd (di_any (dv 1)) (blkOk_by (own := [("_law_own", 8)]) (N := ["_law_box_here", "_law_fields_so", "_law_terms_so", "_law_words_so", "_law_changes_so", "_law_lap", "_law_key_so", "_law_sort_so", "_law_own"]) (sc := defScope s_L_say) (by decide +kernel)) (by decide) (fun _ _ _ _ _ => (dg_name (i := 8) sc_L_say.nd rfl (by first | exact Or.inl rfl | exact Or.inr rfl) (by first | exact Or.inl rfl | exact Or.inr rfl))) (fun _ _ _ _ _ => dts_nil) (fun _ _ _ _ _ => (dcallM G_L_of hr (dc (dv 0) (dl (dop r_add (dv 2) (d_lst (dl dint))))))))) (hv := bt_tuple)))))))))) (ds_one (ds_if (tcmp (r_eq hr.units) (dv 7) dint) (ds_one (ds_expr rfl (dapp 4 (dl (d_tup (dc dstr (dc (dv 6) (dc (dcallM G_L_of hr (dc (dv 0) (dl (dv 1)))) (dl (dcallM G_L_of hr (dc (dv 0) (dl (dop r_add (dv 2) (d_lst (dl dint))))))))))))))) (ds_one (ds_expr rfl (dapp 4 (dl (d_tup (dc dstr (dl (dv 6)))))))))))))) (ds_one (ds_ret (d_tup (dc dstr (dc (dT r_tuple M.tuple (dl (dv 4)) (hv := bt_tuple)) (dl (dcallM G_L_of hr (dc (dv 0) (dl (dv 3))))))))))))
/-! ### _law_body -/
abbrev s_L_body : Stmt := top 61
def fb_L_body (F_L_body : EM R) : EM O := (sSeq (eIf (tAnd2 (tCmp dNe (eVar 3) (eLst eNil)) (tAnd2 (tCmp dGt (eVar 5) (eCon (.int 0))) (tCmp dEq (eCallM F_L_take (eCons (eVar 0) (eOne (eCon (.int 3))))) (eCon (.int 0))))) (sSeq (sSet 7 (eIf (tCmp dNotIn (eCon (.str (Str.ofString "x"))) (eVar 2)) (eCon (.str (Str.ofString "x"))) (eCon (.str (Str.ofString "xx"))))) (sSeq (sPar 8 9 (eCons (eCallM F_L_of (eCons (eVar 0) (eOne (eVar 3)))) (eOne (eCallM F_L_of (eCons (eVar 0) (eOne (eVar 1))))))) (sSeq (sSet 10 (eCallM F_L_body (eCons (eVar 0) (eCons (eVar 1) (eCons (eOp2 dAdd (eVar 2) (eLst (eOne (eVar 7)))) (eCons (eVar 3) (eCons (eVar 4) (eCons (eOp2 dSub (eVar 5) (eCon (.int 1))) (eOne (eVar 6)))))))))) (sRet (eTup (eCons (eCon (.str (Str.ofString "let"))) (eCons (eVar 7) (eCons (eVar 8) (eCons (eVar 9) (eOne (eVar 10))))))))))) (eRet .nx)) (sSeq (eIf (tOr2 (tCmp dEq (eVar 4) (eCon (.int 0))) (tCmp dEq (eVar 2) (eLst eNil))) (sRet (eCallM F_L_say (eCons (eVar 0) (eCons (eVar 1) (eCons (eVar 2) (eOne (eVar 6))))))) (eRet .nx)) (sSeq (sSet 11 (eCallM F_L_take (eCons (eVar 0) (eOne (eVar 4))))) (sSeq (eIf (tAnd2 (tCmp dNe (eVar 3) (eLst eNil)) (tCmp dEq (eCallM F_L_take (eCons (eVar 0) (eOne (eCon (.int 2))))) (eCon (.int 0)))) (sSeq (sSet 12 (eTup (eCons (eCon (.str (Str.ofString "is"))) (eCons (eCallM F_L_of (eCons (eVar 0) (eOne (eVar 3)))) (eCons (eCallM F_L_of (eCons (eVar 0) (eOne (eVar 1)))) (eOne (eCallM F_L_of (eCons (eVar 0) (eOne (eOp2 dAdd (eVar 2) (eLst (eOne (eCon (.int 0)))))))))))))) (sSet 13 (eCallM F_L_body (eCons (eVar 0) (eCons (eVar 1) (eCons (eVar 2) (eCons (eVar 3) (eCons (eVar 11) (eCons (eVar 5) (eOne (eVar 6))))))))))) (sSeq (sSet 14 (eCallM F_L_of (eCons (eVar 0) (eOne (eVar 2))))) (sSeq (sSet 12 (eTup (eCons (eCon (.str (Str.ofString "has"))) (eOne (eVar 14))))) (sSet 13 (eCallM F_L_body (eCons (eVar 0) (eCons (eVar 1) (eCons (eVar 2) (eCons (eOp2 dAdd (eVar 3) (eLst (eOne (eVar 14)))) (eCons (eVar 11) (eCons (eVar 5) (eOne (eVar 6))))))))))))) (sSeq (sSet 15 (eCallM F_L_body (eCons (eVar 0) (eCons (eVar 1) (eCons (eVar 2) (eCons (eVar 3) (eCons (eOp2 dSub (eOp2 dSub (eVar 4) (eCon (.int 1))) (eVar 11)) (eCons (eVar 5) (eOne (eVar 6)))))))))) (sRet (eOp2 dAdd (eVar 12) (eTup (eCons (eVar 13) (eOne (eVar 15)))))))))))
def FR_L_body : Nat → EM R
  | 0 => fun _ => none
  | n + 1 => runF 16 7 (fb_L_body (FR_L_body n))
abbrev F_L_body : EM R := FR_L_body 60
theorem sc_L_body : FnScope ["_law_box_here", "_law_fields_so", "_law_terms_so", "_law_sure_so", "_law_tests_so", "_law_lets_so", "_law_words_so", "_law_name_so", "_law_spot", "_law_field_so", "_law_rest", "_law_first_so", "_law_head", "_law_one_so", "_law_key_so", "_law_other_so"] ["_law_box_here", "_law_fields_so", "_law_terms_so", "_law_sure_so", "_law_tests_so", "_law_lets_so", "_law_words_so"] (defScope s_L_body) := ⟨rfl, rfl, rfl, by decide +kernel, rfl, by decide +kernel, by decide +kernel⟩
theorem okR_L_body {f : Addr} {fd : FuncData} (G_L_take : Fnk P w K mg base "_law_take" 1 2 F_L_take) (G_L_of : Fnk P w K mg base "_law_of" 2 2 F_L_of) (G_L_say : Fnk P w K mg base "_law_say" 3 4 F_L_say) (M : MgB mg) (m : mg "_law_body" = some (.ref f)) (F : FnP K "_law_body" s_L_body f fd) : ∀ n, Fnk P w K mg base "_law_body" (3 + n) 7 (FR_L_body n)
  | 0 => fnk_none (N := ["_law_box_here", "_law_fields_so", "_law_terms_so", "_law_sure_so", "_law_tests_so", "_law_lets_so", "_law_words_so", "_law_name_so", "_law_spot", "_law_field_so", "_law_rest", "_law_first_so", "_law_head", "_law_one_so", "_law_key_so", "_law_other_so"]) (ps := ["_law_box_here", "_law_fields_so", "_law_terms_so", "_law_sure_so", "_law_tests_so", "_law_lets_so", "_law_words_so"]) m F (fun _ _ _ _ _ _ us hl => match us, hl with | [_, _, _, _, _, _, _], _ => rfl)
  | n + 1 => by
    have G_L_body := okR_L_body G_L_take G_L_of G_L_say M m F n
    exact fnk_ok (k := 3 + n) (N := ["_law_box_here", "_law_fields_so", "_law_terms_so", "_law_sure_so", "_law_tests_so", "_law_lets_so", "_law_words_so", "_law_name_so", "_law_spot", "_law_field_so", "_law_rest", "_law_first_so", "_law_head", "_law_one_so", "_law_key_so", "_law_other_so"]) (ps := ["_law_box_here", "_law_fields_so", "_law_terms_so", "_law_sure_so", "_law_tests_so", "_law_lets_so", "_law_words_so"]) m F sc_L_body (fun _ _ _ _ _ _ us hl => match us, hl with | [_, _, _, _, _, _, _], _ => rfl) fun cdv A outer s H E hr => (ds_cons (ds_if (PW.pt (dw_and (tcmp (r_ne hr.units) (dv 3) (d_lst dn)) (dw_and (tcmp r_gt (dv 5) dint) (dw_and1 (tcmp (r_eq hr.units) (dcallM G_L_take hr (dc (dv 0) (dl dint))) dint))))) (ds_cons (ds_set (i := 7) sc_L_body.nd rfl (by first | exact Or.inl rfl | exact Or.inr rfl) (by first | exact Or.inl rfl | exact Or.inr rfl) rfl (d_ife (tcmp (r_notIn hr.units) dstr (dv 2)) dstr dstr)) (ds_cons (ds_par (i := 8) (j := 9) rfl sc_L_body.nd rfl rfl (by decide) rfl rfl (dc (dcallM G_L_of hr (dc (dv 0) (dl (dv 3)))) (dl (dcallM G_L_of hr (dc (dv 0) (dl (dv 1)))))) rfl) (ds_cons (ds_set (i := 10) sc_L_body.nd rfl (by first | exact Or.inl rfl | exact Or.inr rfl) (by first | exact Or.inl rfl | exact Or.inr rfl) rfl (dcallM G_L_body hr (dc (dv 0) (dc (dv 1) (dc (dop r_add (dv 2) (d_lst (dl (dv 7)))) (dc (dv 3) (dc (dv 4) (dc (dop r_sub (dv 5) dint) (dl (dv 6)))))))))) (ds_one (ds_ret (d_tup (dc dstr (dc (dv 7) (dc (dv 8) (dc (dv 9) (dl (dv 10)))))))))))) ds_nil) (ds_cons (ds_if (PW.pt (dw_or (tcmp (r_eq hr.units) (dv 4) dint) (dw_or1 (tcmp (r_eq hr.units) (dv 2) (d_lst dn))))) (ds_one (ds_ret (dcallM G_L_say hr (dc (dv 0) (dc (dv 1) (dc (dv 2) (dl (dv 6)))))))) ds_nil) (ds_cons (ds_set (i := 11) sc_L_body.nd rfl (by first | exact Or.inl rfl | exact Or.inr rfl) (by first | exact Or.inl rfl | exact Or.inr rfl) rfl (dcallM G_L_take hr (dc (dv 0) (dl (dv 4))))) (ds_cons (ds_if (PW.pt (dw_and (tcmp (r_ne hr.units) (dv 3) (d_lst dn)) (dw_and1 (tcmp (r_eq hr.units) (dcallM G_L_take hr (dc (dv 0) (dl dint))) dint)))) (ds_cons (ds_set (i := 12) sc_L_body.nd rfl (by first | exact Or.inl rfl | exact Or.inr rfl) (by first | exact Or.inl rfl | exact Or.inr rfl) rfl (d_tup (dc dstr (dc (dcallM G_L_of hr (dc (dv 0) (dl (dv 3)))) (dc (dcallM G_L_of hr (dc (dv 0) (dl (dv 1)))) (dl (dcallM G_L_of hr (dc (dv 0) (dl (dop r_add (dv 2) (d_lst (dl dint)))))))))))) (ds_one (ds_set (i := 13) sc_L_body.nd rfl (by first | exact Or.inl rfl | exact Or.inr rfl) (by first | exact Or.inl rfl | exact Or.inr rfl) rfl (dcallM G_L_body hr (dc (dv 0) (dc (dv 1) (dc (dv 2) (dc (dv 3) (dc (dv 11) (dc (dv 5) (dl (dv 6)))))))))))) (ds_cons (ds_set (i := 14) sc_L_body.nd rfl (by first | exact Or.inl rfl | exact Or.inr rfl) (by first | exact Or.inl rfl | exact Or.inr rfl) rfl (dcallM G_L_of hr (dc (dv 0) (dl (dv 2))))) (ds_cons (ds_set (i := 12) sc_L_body.nd rfl (by first | exact Or.inl rfl | exact Or.inr rfl) (by first | exact Or.inl rfl | exact Or.inr rfl) rfl (d_tup (dc dstr (dl (dv 14))))) (ds_one (ds_set (i := 13) sc_L_body.nd rfl (by first | exact Or.inl rfl | exact Or.inr rfl) (by first | exact Or.inl rfl | exact Or.inr rfl) rfl (dcallM G_L_body hr (dc (dv 0) (dc (dv 1) (dc (dv 2) (dc (dop r_add (dv 3) (d_lst (dl (dv 14)))) (dc (dv 11) (dc (dv 5) (dl (dv 6)))))))))))))) (ds_cons (ds_set (i := 15) sc_L_body.nd rfl (by first | exact Or.inl rfl | exact Or.inr rfl) (by first | exact Or.inl rfl | exact Or.inr rfl) rfl (dcallM G_L_body hr (dc (dv 0) (dc (dv 1) (dc (dv 2) (dc (dv 3) (dc (dop r_sub (dop r_sub (dv 4) dint) (dv 11)) (dc (dv 5) (dl (dv 6)))))))))) (ds_one (ds_ret (dop r_add (dv 12) (d_tup (dc (dv 13) (dl (dv 15))))))))))))
theorem ok_L_body {f : Addr} {fd : FuncData} (G_L_take : Fnk P w K mg base "_law_take" 1 2 F_L_take) (G_L_of : Fnk P w K mg base "_law_of" 2 2 F_L_of) (G_L_say : Fnk P w K mg base "_law_say" 3 4 F_L_say) (M : MgB mg) (m : mg "_law_body" = some (.ref f)) (F : FnP K "_law_body" s_L_body f fd) : Fnk P w K mg base "_law_body" 63 7 F_L_body := okR_L_body G_L_take G_L_of G_L_say M m F 60
/-! ### _law_kind -/
abbrev s_L_kind : Stmt := top 62
def fb_L_kind : EM O := (sSeq (sSet 7 (eLst (eCons (eCallM F_L_of (eCons (eVar 0) (eOne (eLst (eCons (eCon (.str (Str.ofString "a"))) (eCons (eCon (.str (Str.ofString "k"))) (eOne (eCon (.str (Str.ofString "key")))))))))) (eOne (eCallM F_L_of (eCons (eVar 0) (eOne (eLst (eCons (eCon (.str (Str.ofString "b"))) (eCons (eCon (.str (Str.ofString "v"))) (eOne (eCon (.str (Str.ofString "value")))))))))))))) (sSeq (sSet 7 (eCut (eVar 7) oNone (oInt (eCallM F_L_of (eCons (eVar 0) (eOne (eLst (eCons (eCon (.int 0)) (eCons (eCon (.int 1)) (eCons (eCon (.int 1)) (eCons (eCon (.int 1)) (eCons (eCon (.int 2)) (eOne (eCon (.int 2))))))))))))))) (sSeq (sSet 8 (eOp2 dAdd (eVar 7) (eOpN dList (eOne (eVar 6))))) (sSeq (sSet 9 (eCallM F_L_body (eCons (eVar 0) (eCons (eVar 1) (eCons (eVar 8) (eCons (eLst eNil) (eCons (eOp2 dAdd (eCon (.int 1)) (eCallM F_L_take (eCons (eVar 0) (eOne (eVar 5))))) (eCons (eVar 4) (eOne (eVar 3)))))))))) (sRet (eTup (eCons (eVar 2) (eCons (eOpN dTuple (eOne (eVar 7))) (eOne (eVar 9))))))))))
def F_L_kind : EM R := runF 10 7 fb_L_kind
theorem sc_L_kind : FnScope ["_law_box_here", "_law_fields_so", "_law_name_so", "_law_words_so", "_law_lets_so", "_law_most_tests", "_law_consts_so", "_law_names_so", "_law_terms_so", "_law_body_so"] ["_law_box_here", "_law_fields_so", "_law_name_so", "_law_words_so", "_law_lets_so", "_law_most_tests", "_law_consts_so"] (defScope s_L_kind) := ⟨rfl, rfl, rfl, by decide +kernel, rfl, by decide +kernel, by decide +kernel⟩
theorem ok_L_kind {f : Addr} {fd : FuncData} (G_L_of : Fnk P w K mg base "_law_of" 2 2 F_L_of) (G_L_body : Fnk P w K mg base "_law_body" 63 7 F_L_body) (G_L_take : Fnk P w K mg base "_law_take" 1 2 F_L_take) (M : MgB mg) (m : mg "_law_kind" = some (.ref f)) (F : FnP K "_law_kind" s_L_kind f fd) : Fnk P w K mg base "_law_kind" 64 7 F_L_kind :=
  fnk_ok (N := ["_law_box_here", "_law_fields_so", "_law_name_so", "_law_words_so", "_law_lets_so", "_law_most_tests", "_law_consts_so", "_law_names_so", "_law_terms_so", "_law_body_so"]) (ps := ["_law_box_here", "_law_fields_so", "_law_name_so", "_law_words_so", "_law_lets_so", "_law_most_tests", "_law_consts_so"]) m F sc_L_kind (fun _ _ _ _ _ _ us hl => match us, hl with | [_, _, _, _, _, _, _], _ => rfl) fun cdv A outer s H E hr => (ds_cons (ds_set (i := 7) sc_L_kind.nd rfl (by first | exact Or.inl rfl | exact Or.inr rfl) (by first | exact Or.inl rfl | exact Or.inr rfl) rfl (d_lst (dc (dcallM G_L_of hr (dc (dv 0) (dl (d_lst (dc dstr (dc dstr (dl dstr))))))) (dl (dcallM G_L_of hr (dc (dv 0) (dl (d_lst (dc dstr (dc dstr (dl dstr))))))))))) (ds_cons (ds_set (i := 7) sc_L_kind.nd rfl (by first | exact Or.inl rfl | exact Or.inr rfl) (by first | exact Or.inl rfl | exact Or.inr rfl) rfl (d_cut (dv 7) do_none (do_some (dcallM G_L_of hr (dc (dv 0) (dl (d_lst (dc dint (dc dint (dc dint (dc dint (dc dint (dl dint))))))))))))) (ds_cons (ds_set (i := 8) sc_L_kind.nd rfl (by first | exact Or.inl rfl | exact Or.inr rfl) (by first | exact Or.inl rfl | exact Or.inr rfl) rfl (dop r_add (dv 7) (dT r_list M.list (dl (dv 6)) (hv := bt_list)))) (ds_cons (ds_set (i := 9) sc_L_kind.nd rfl (by first | exact Or.inl rfl | exact Or.inr rfl) (by first | exact Or.inl rfl | exact Or.inr rfl) rfl (dcallM G_L_body hr (dc (dv 0) (dc (dv 1) (dc (dv 8) (dc (d_lst dn) (dc (dop r_add dint (dcallM G_L_take hr (dc (dv 0) (dl (dv 5))))) (dc (dv 4) (dl (dv 3)))))))))) (ds_one (ds_ret (d_tup (dc (dv 2) (dc (dT r_tuple M.tuple (dl (dv 7)) (hv := bt_tuple)) (dl (dv 9)))))))))))
/-! ### _law_call -/
abbrev s_L_call : Stmt := top 63
def fb_L_call : EM O := (sSeq (sSet 3 (eCallM F_L_of (eCons (eVar 0) (eOne (eOp2 dIx (eVar 1) (eCon (.int 1))))))) (sRet (eOp2 dAdd (eTup (eOne (eOp2 dIx (eVar 3) (eCon (.int 0))))) (eOpN dTuple (eOne (eLc (iAny (eOp2 dIx (eVar 3) (eCon (.int 1)))) (gPut 4) (eRet true) (eCallM F_L_of (eCons (eVar 0) (eOne (eVar 2)))) [4]))))))
def F_L_call : EM R := runF 5 3 fb_L_call
theorem sc_L_call : FnScope ["_law_box_here", "_law_book_so", "_law_pool_so", "_law_own", "_law_name_so"] ["_law_box_here", "_law_book_so", "_law_pool_so"] (defScope s_L_call) := ⟨rfl, rfl, rfl, by decide +kernel, rfl, by decide +kernel, by decide +kernel⟩
theorem ok_L_call {f : Addr} {fd : FuncData} (G_L_of : Fnk P w K mg base "_law_of" 2 2 F_L_of) (M : MgB mg) (m : mg "_law_call" = some (.ref f)) (F : FnP K "_law_call" s_L_call f fd) : Fnk P w K mg base "_law_call" 3 3 F_L_call :=
  fnk_ok (N := ["_law_box_here", "_law_book_so", "_law_pool_so", "_law_own", "_law_name_so"]) (ps := ["_law_box_here", "_law_book_so", "_law_pool_so"]) m F sc_L_call (fun _ _ _ _ _ _ us hl => match us, hl with | [_, _, _], _ => rfl) fun cdv A outer s H E hr => (ds_cons (ds_set (i := 3) sc_L_call.nd rfl (by first | exact Or.inl rfl | exact Or.inr rfl) (by first | exact Or.inl rfl | exact Or.inr rfl) rfl (dcallM G_L_of hr (dc (dv 0) (dl (dix (dv 1) dint))))) (ds_one (ds_ret (dop r_add (d_tup (dl (dix (dv 3) dint))) (dT r_tuple M.tuple (dl (d_lc (own := [("_law_name_so", 4)]) rfl sc_L_call.nd (di_any (dix (dv 3) dint)) (blkOk_by (own := [("_law_name_so", 4)]) (N := ["_law_box_here", "_law_book_so", "_law_pool_so", "_law_own", "_law_name_so"]) (sc := defScope s_L_call) (by decide +kernel)) (by decide) (fun _ _ _ _ _ => (dg_name (i := 4) sc_L_call.nd rfl (by first | exact Or.inl rfl | exact Or.inr rfl) (by first | exact Or.inl rfl | exact Or.inr rfl))) (fun _ _ _ _ _ => dts_nil) (fun _ _ _ _ _ => (dcallM G_L_of hr (dc (dv 0) (dl (dv 2))))))) (hv := bt_tuple))))))
/-! ### _law_calls -/
abbrev s_L_calls : Stmt := top 64
def fb_L_calls : EM O := (sRet (eOpN dTuple (eOne (eLc (iRange (eOne (eVar 3))) (gPut 4) (eRet true) (eCallM F_L_call (eCons (eVar 0) (eCons (eVar 1) (eOne (eVar 2))))) [4]))))
def F_L_calls : EM R := runF 5 4 fb_L_calls
theorem sc_L_calls : FnScope ["_law_box_here", "_law_book_so", "_law_pool_so", "_law_many_so", "_law_lap"] ["_law_box_here", "_law_book_so", "_law_pool_so", "_law_many_so"] (defScope s_L_calls) := ⟨rfl, rfl, rfl, by decide +kernel, rfl, by decide +kernel, by decide +kernel⟩
theorem ok_L_calls {f : Addr} {fd : FuncData} (G_L_call : Fnk P w K mg base "_law_call" 3 3 F_L_call) (M : MgB mg) (m : mg "_law_calls" = some (.ref f)) (F : FnP K "_law_calls" s_L_calls f fd) : Fnk P w K mg base "_law_calls" 4 4 F_L_calls :=
  fnk_ok (N := ["_law_box_here", "_law_book_so", "_law_pool_so", "_law_many_so", "_law_lap"]) (ps := ["_law_box_here", "_law_book_so", "_law_pool_so", "_law_many_so"]) m F sc_L_calls (fun _ _ _ _ _ _ us hl => match us, hl with | [_, _, _, _], _ => rfl) fun cdv A outer s H E hr => (ds_one (ds_ret (dT r_tuple M.tuple (dl (d_lc (own := [("_law_lap", 4)]) rfl sc_L_calls.nd (di_range rfl M.range (dl (dv 3))) (blkOk_by (own := [("_law_lap", 4)]) (N := ["_law_box_here", "_law_book_so", "_law_pool_so", "_law_many_so", "_law_lap"]) (sc := defScope s_L_calls) (by decide +kernel)) (by decide) (fun _ _ _ _ _ => (dg_name (i := 4) sc_L_calls.nd rfl (by first | exact Or.inl rfl | exact Or.inr rfl) (by first | exact Or.inl rfl | exact Or.inr rfl))) (fun _ _ _ _ _ => dts_nil) (fun _ _ _ _ _ => (dcallM G_L_call hr (dc (dv 0) (dc (dv 1) (dl (dv 2)))))))) (hv := bt_tuple))))
/-! ### _law_kind_of -/
abbrev s_L_kind_of : Stmt := top 65
def fb_L_kind_of : EM O := (sRet (eOp2 dIx (eLc (iAny (eOp2 dIx (eVar 0) (eCon (.int 1)))) (gPut 2) (tCmp dEq (eOp2 dIx (eVar 2) (eCon (.int 0))) (eVar 1)) (eVar 2) [2]) (eCon (.int 0))))
def F_L_kind_of : EM R := runF 3 2 fb_L_kind_of
theorem sc_L_kind_of : FnScope ["_law_book_so", "_law_name_so", "_law_own"] ["_law_book_so", "_law_name_so"] (defScope s_L_kind_of) := ⟨rfl, rfl, rfl, by decide +kernel, rfl, by decide +kernel, by decide +kernel⟩
theorem ok_L_kind_of {f : Addr} {fd : FuncData} (M : MgB mg) (m : mg "_law_kind_of" = some (.ref f)) (F : FnP K "_law_kind_of" s_L_kind_of f fd) : Fnk P w K mg base "_law_kind_of" 1 2 F_L_kind_of :=
  fnk_ok (N := ["_law_book_so", "_law_name_so", "_law_own"]) (ps := ["_law_book_so", "_law_name_so"]) m F sc_L_kind_of (fun _ _ _ _ _ _ us hl => match us, hl with | [_, _], _ => rfl) fun cdv A outer s H E hr => (ds_one (ds_ret (dix (d_lc (own := [("_law_own", 2)]) rfl sc_L_kind_of.nd (di_any (dix (dv 0) dint)) (blkOk_by (own := [("_law_own", 2)]) (N := ["_law_book_so", "_law_name_so", "_law_own"]) (sc := defScope s_L_kind_of) (by decide +kernel)) (by decide) (fun _ _ _ _ _ => (dg_name (i := 2) sc_L_kind_of.nd rfl (by first | exact Or.inl rfl | exact Or.inr rfl) (by first | exact Or.inl rfl | exact Or.inr rfl))) (fun _ _ _ _ _ => (dts_one (tcmp (r_eq hr.units) (dix (dv 2) dint) (dv 1)))) (fun _ _ _ _ _ => (dv 2))) dint)))
/-! ### _law_says -/
abbrev s_L_says : Stmt := top 66
def fb_L_says (F_L_says : EM R) : EM O := (sSeq (eIf (tCmp dEq (eOp2 dIx (eVar 0) (eCon (.int 0))) (eCon (.str (Str.ofString "say")))) (sRet (eLst (eOne (eTup (eCons (eVar 1) (eCons (eVar 2) (eCons (eOp2 dIx (eVar 0) (eCon (.int 1))) (eOne (eOp2 dIx (eVar 0) (eCon (.int 2))))))))))) (eRet .nx)) (sSeq (eIf (tCmp dEq (eOp2 dIx (eVar 0) (eCon (.int 0))) (eCon (.str (Str.ofString "let")))) (sRet (eCallV F_L_says (eCons (eOp2 dIx (eVar 0) (eCon (.int 4))) (eCons (eOp2 dAdd (eVar 1) (eCon (.int 1))) (eOne (eOp2 dAdd (eVar 2) (eTup (eOne (eOp2 dIx (eVar 0) (eCon (.int 1))))))))))) (eRet .nx)) (sRet (eOp2 dAdd (eCallV F_L_says (eCons (eOp2 dIx (eVar 0) (eOp1 dNeg (eCon (.int 2)))) (eCons (eOp2 dAdd (eVar 1) (eCon (.int 1))) (eOne (eVar 2))))) (eCallV F_L_says (eCons (eOp2 dIx (eVar 0) (eOp1 dNeg (eCon (.int 1)))) (eCons (eOp2 dAdd (eVar 1) (eCon (.int 1))) (eOne (eVar 2)))))))))
def FR_L_says : Nat → EM R
  | 0 => fun _ => none
  | n + 1 => runF 3 3 (fb_L_says (FR_L_says n))
abbrev F_L_says : EM R := FR_L_says 60
theorem sc_L_says : FnScope ["_law_body_so", "_law_many_so", "_law_lets_so"] ["_law_body_so", "_law_many_so", "_law_lets_so"] (defScope s_L_says) := ⟨rfl, rfl, rfl, by decide +kernel, rfl, by decide +kernel, by decide +kernel⟩
theorem okR_L_says {f : Addr} {fd : FuncData} (M : MgB mg) (m : mg "_law_says" = some (.ref f)) (F : FnP K "_law_says" s_L_says f fd) : ∀ n, Fnk P w K mg base "_law_says" (0 + n) 3 (FR_L_says n)
  | 0 => fnk_none (N := ["_law_body_so", "_law_many_so", "_law_lets_so"]) (ps := ["_law_body_so", "_law_many_so", "_law_lets_so"]) m F (fun _ _ _ _ _ _ us hl => match us, hl with | [_, _, _], _ => rfl)
  | n + 1 => by
    have G_L_says := okR_L_says M m F n
    exact fnk_ok (k := 0 + n) (N := ["_law_body_so", "_law_many_so", "_law_lets_so"]) (ps := ["_law_body_so", "_law_many_so", "_law_lets_so"]) m F sc_L_says (fun _ _ _ _ _ _ us hl => match us, hl with | [_, _, _], _ => rfl) fun cdv A outer s H E hr => (ds_cons (ds_if (tcmp (r_eq hr.units) (dix (dv 0) dint) dstr) (ds_one (ds_ret (d_lst (dl (d_tup (dc (dv 1) (dc (dv 2) (dc (dix (dv 0) dint) (dl (dix (dv 0) dint)))))))))) ds_nil) (ds_cons (ds_if (tcmp (r_eq hr.units) (dix (dv 0) dint) dstr) (ds_one (ds_ret (dcall G_L_says hr (dc (dix (dv 0) dint) (dc (dop r_add (dv 1) dint) (dl (dop r_add (dv 2) (d_tup (dl (dix (dv 0) dint)))))))))) ds_nil) (ds_one (ds_ret (dop r_add (dcall G_L_says hr (dc (dix (dv 0) (dneg dint)) (dc (dop r_add (dv 1) dint) (dl (dv 2))))) (dcall G_L_says hr (dc (dix (dv 0) (dneg dint)) (dc (dop r_add (dv 1) dint) (dl (dv 2))))))))))
theorem ok_L_says {f : Addr} {fd : FuncData} (M : MgB mg) (m : mg "_law_says" = some (.ref f)) (F : FnP K "_law_says" s_L_says f fd) : Fnk P w K mg base "_law_says" 60 3 F_L_says := okR_L_says M m F 60
/-! ### _law_tells -/
abbrev s_L_tells : Stmt := top 67
def fb_L_tells : EM O := (sSeq (sFor (iAny (eVar 0)) (gTupD 4 (gConsD (gPut 1) (gConsD (gPut 2) (gConsD (gPut 3) (gConsD (gPut 4) gNilD))))) (sSeq (eIf (tCmp dNe (eLc (iAny (eVar 0)) (gPut 5) (tAnd2 (tCmp dEq (eOp2 dIx (eVar 5) (eCon (.int 3))) (eVar 4)) (tCmp dNe (eOp2 dIx (eVar 5) (eCon (.int 2))) (eVar 3))) (eVar 5) [5]) (eLst eNil)) (sRet (eCon (.bl false))) (eRet .nx)) (sFor (iAny (eVar 3)) (gPut 6) (sSeq (sSet 7 (eOp2 dAdd (eLst (eOne (eOp2 dIx (eVar 6) (eCon (.int 1))))) (eOpN dList (eOne (eIf (tCmp dEq (eOp2 dIx (eVar 6) (eCon (.int 0))) (eCon (.str (Str.ofString "make")))) (eOp2 dIx (eVar 6) (eCon (.int 2))) (eCut (eVar 6) (oInt (eCon (.int 3))) oNone)))))) (eIf (tCmp dNe (eLc (iAny (eVar 7)) (gPut 8) (tCmp dIn (eVar 8) (eVar 2)) (eVar 8) [8]) (eLst eNil)) (sRet (eCon (.bl false))) (eRet .nx)))))) (sRet (eCon (.bl true))))
def F_L_tells : EM R := runF 9 1 fb_L_tells
theorem sc_L_tells : FnScope ["_law_says_so", "_law_many_so", "_law_lets_so", "_law_changes_so", "_law_word_so", "_law_own", "_law_change_so", "_law_bits", "_law_bit"] ["_law_says_so"] (defScope s_L_tells) := ⟨rfl, rfl, rfl, by decide +kernel, rfl, by decide +kernel, by decide +kernel⟩
theorem ok_L_tells {f : Addr} {fd : FuncData} (M : MgB mg) (m : mg "_law_tells" = some (.ref f)) (F : FnP K "_law_tells" s_L_tells f fd) : Fnk P w K mg base "_law_tells" 1 1 F_L_tells :=
  fnk_ok (N := ["_law_says_so", "_law_many_so", "_law_lets_so", "_law_changes_so", "_law_word_so", "_law_own", "_law_change_so", "_law_bits", "_law_bit"]) (ps := ["_law_says_so"]) m F sc_L_tells (fun _ _ _ _ _ _ us hl => match us, hl with | [_], _ => rfl) fun cdv A outer s H E hr => (ds_cons (ds_for PassesOwn.never rfl (di_any (dv 0)) (dg_tup rfl (dgs_cons (dg_name (i := 1) sc_L_tells.nd rfl (by first | exact Or.inl rfl | exact Or.inr rfl) (by first | exact Or.inl rfl | exact Or.inr rfl)) (dgs_cons (dg_name (i := 2) sc_L_tells.nd rfl (by first | exact Or.inl rfl | exact Or.inr rfl) (by first | exact Or.inl rfl | exact Or.inr rfl)) (dgs_cons (dg_name (i := 3) sc_L_tells.nd rfl (by first | exact Or.inl rfl | exact Or.inr rfl) (by first | exact Or.inl rfl | exact Or.inr rfl)) (dgs_cons (dg_name (i := 4) sc_L_tells.nd rfl (by first | exact Or.inl rfl | exact Or.inr rfl) (by first | exact Or.inl rfl | exact Or.inr rfl)) dgs_nil))))) (ds_cons (ds_if (tcmp (r_ne hr.units) (d_lc (own := [("_law_own", 5)]) rfl sc_L_tells.nd (di_any (dv 0)) (blkOk_by (own := [("_law_own", 5)]) (N := ["_law_says_so", "_law_many_so", "_law_lets_so", "_law_changes_so", "_law_word_so", "_law_own", "_law_change_so", "_law_bits", "_law_bit"]) (sc := defScope s_L_tells) (by decide +kernel)) (by decide) (fun _ _ _ _ _ => (dg_name (i := 5) sc_L_tells.nd rfl (by first | exact Or.inl rfl | exact Or.inr rfl) (by first | exact Or.inl rfl | exact Or.inr rfl))) (fun _ _ _ _ _ => (dts_one (PW.pt (dw_and (tcmp (r_eq hr.units) (dix (dv 5) dint) (dv 4)) (dw_and1 (tcmp (r_ne hr.units) (dix (dv 5) dint) (dv 3))))))) (fun _ _ _ _ _ => (dv 5))) (d_lst dn)) (ds_one (ds_ret dbl)) ds_nil) (ds_one (ds_for PassesOwn.never rfl (di_any (dv 3)) (dg_name (i := 6) sc_L_tells.nd rfl (by first | exact Or.inl rfl | exact Or.inr rfl) (by first | exact Or.inl rfl | exact Or.inr rfl)) (ds_cons (ds_set (i := 7) sc_L_tells.nd rfl (by first | exact Or.inl rfl | exact Or.inr rfl) (by first | exact Or.inl rfl | exact Or.inr rfl) rfl (dop r_add (d_lst (dl (dix (dv 6) dint))) (dT r_list M.list (dl (d_ife (tcmp (r_eq hr.units) (dix (dv 6) dint) dstr) (dix (dv 6) dint) (d_cut (dv 6) (do_some dint) do_none))) (hv := bt_list)))) (ds_one (ds_if (tcmp (r_ne hr.units) (d_lc (own := [("_law_bit", 8)]) rfl sc_L_tells.nd (di_any (dv 7)) (blkOk_by (own := [("_law_bit", 8)]) (N := ["_law_says_so", "_law_many_so", "_law_lets_so", "_law_changes_so", "_law_word_so", "_law_own", "_law_change_so", "_law_bits", "_law_bit"]) (sc := defScope s_L_tells) (by decide +kernel)) (by decide) (fun _ _ _ _ _ => (dg_name (i := 8) sc_L_tells.nd rfl (by first | exact Or.inl rfl | exact Or.inr rfl) (by first | exact Or.inl rfl | exact Or.inr rfl))) (fun _ _ _ _ _ => (dts_one (tcmp (r_in hr.units) (dv 8) (dv 2)))) (fun _ _ _ _ _ => (dv 8))) (d_lst dn)) (ds_one (ds_ret dbl)) ds_nil))))))) (ds_one (ds_ret dbl)))
/-! ### _law_due -/
abbrev s_L_due : Stmt := top 68
def fb_L_due : EM O := (sSeq (sParO 2 3 (eLst (eOne (eCon (.int 0)))) 0) (sSeq (sFor (iRange (eOne (eOpN dLen (eOne (eVar 1))))) (gPut 4) (sSeq (sSet 5 (eCallV F_L_says (eCons (eOp2 dIx (eCallV F_L_kind_of (eCons (eVar 0) (eOne (eOp2 dIx (eOp2 dIx (eOp2 dIx (eVar 1) (eVar 4)) (eCon (.int 0))) (eCon (.int 0)))))) (eCon (.int 2))) (eCons (eCon (.int 0)) (eOne (eTup eNil)))))) (sSeq (sSet 6 (eOpN dMaxL (eOne (eLc (iAny (eVar 5)) (gPut 7) (eRet true) (eOp2 dIx (eVar 7) (eCon (.int 0))) [7])))) (sSeq (sExp (eBind (hasL 2) fun _ => eApp 2 (eOne (eOpN dMin2 (eCons (eOp2 dAdd (eVar 4) (eCon (.int 1))) (eOne (eOp2 dAdd (eOp2 dAdd (eCon (.int 1)) (eVar 6)) (eVar 3)))))))) (eIf (tNo (eTruth (eCallV F_L_tells (eOne (eVar 5))))) (sSet 3 (eOp2 dAdd (eVar 3) (eVar 6))) (eRet .nx)))))) (sRet (eOpN dMaxL (eOne (eVar 2))))))
def F_L_due : EM R := runF 8 2 fb_L_due
theorem sc_L_due : FnScope ["_law_book_so", "_law_lines_so", "_law_found", "_law_hidden", "_law_place", "_law_says_so", "_law_long_so", "_law_own"] ["_law_book_so", "_law_lines_so"] (defScope s_L_due) := ⟨rfl, rfl, rfl, by decide +kernel, rfl, by decide +kernel, by decide +kernel⟩
theorem ok_L_due {f : Addr} {fd : FuncData} (G_L_says : Fnk P w K mg base "_law_says" 60 3 F_L_says) (G_L_kind_of : Fnk P w K mg base "_law_kind_of" 1 2 F_L_kind_of) (G_L_tells : Fnk P w K mg base "_law_tells" 1 1 F_L_tells) (M : MgB mg) (m : mg "_law_due" = some (.ref f)) (F : FnP K "_law_due" s_L_due f fd) : Fnk P w K mg base "_law_due" 61 2 F_L_due :=
  fnk_ok (N := ["_law_book_so", "_law_lines_so", "_law_found", "_law_hidden", "_law_place", "_law_says_so", "_law_long_so", "_law_own"]) (ps := ["_law_book_so", "_law_lines_so"]) m F sc_L_due (fun _ _ _ _ _ _ us hl => match us, hl with | [_, _], _ => rfl) fun cdv A outer s H E hr => (ds_cons (ds_parO (i := 2) (j := 3) rfl sc_L_due.nd rfl rfl (by decide) rfl rfl (d_lst (dl dint)) rfl) (ds_cons (ds_for PassesOwn.never rfl (di_range rfl M.range (dl (dB r_len M.len (dl (dv 1)) (hv := bt_len)))) (dg_name (i := 4) sc_L_due.nd rfl (by first | exact Or.inl rfl | exact Or.inr rfl) (by first | exact Or.inl rfl | exact Or.inr rfl)) (ds_cons (ds_set (i := 5) sc_L_due.nd rfl (by first | exact Or.inl rfl | exact Or.inr rfl) (by first | exact Or.inl rfl | exact Or.inr rfl) rfl (dcall G_L_says hr (dc (dix (dcall G_L_kind_of hr (dc (dv 0) (dl (dix (dix (dix (dv 1) (dv 4)) dint) dint)))) dint) (dc dint (dl (d_tup dn)))))) (ds_cons (ds_set (i := 6) sc_L_due.nd rfl (by first | exact Or.inl rfl | exact Or.inr rfl) (by first | exact Or.inl rfl | exact Or.inr rfl) rfl (dB (r_maxL rfl) M.max (dl (d_lc (own := [("_law_own", 7)]) rfl sc_L_due.nd (di_any (dv 5)) (blkOk_by (own := [("_law_own", 7)]) (N := ["_law_book_so", "_law_lines_so", "_law_found", "_law_hidden", "_law_place", "_law_says_so", "_law_long_so", "_law_own"]) (sc := defScope s_L_due) (by decide +kernel)) (by decide) (fun _ _ _ _ _ => (dg_name (i := 7) sc_L_due.nd rfl (by first | exact Or.inl rfl | exact Or.inr rfl) (by first | exact Or.inl rfl | exact Or.inr rfl))) (fun _ _ _ _ _ => dts_nil) (fun _ _ _ _ _ => (dix (dv 7) dint)))) (hv := by decide +kernel))) (ds_cons (ds_expr rfl (dapp 2 (dl (dB (r_min2 rfl) M.min (dc (dop r_add (dv 4) dint) (dl (dop r_add (dop r_add dint (dv 6)) (dv 3)))) (hv := by decide +kernel))))) (ds_one (ds_if (dt_not (tv (dcall G_L_tells hr (dl (dv 5))))) (ds_one (ds_set (i := 3) sc_L_due.nd rfl (by first | exact Or.inl rfl | exact Or.inr rfl) (by first | exact Or.inl rfl | exact Or.inr rfl) rfl (dop r_add (dv 3) (dv 6)))) ds_nil)))))) (ds_one (ds_ret (dB (r_maxL rfl) M.max (dl (dv 2)) (hv := by decide +kernel))))))
end
end Prg
namespace Prg
open PySem PySem.Spec L2 DL
open PyProof.Rows hiding St
section
variable {P : Program} {w : World} {K : PySem.W.Frag}
    {mg : Str → Option Value} {base : Heap}
/-! ### _law_by_hand_right -/
abbrev s_L_by_hand_right : Stmt := top 69
def fb_L_by_hand_right : EM O := (sSeq (sSet 0 (eTup (eCons (eCon (.str (Str.ofString "make"))) (eCons (eTup (eOne (eCon (.str (Str.ofString "k"))))) (eOne (eTup (eCons (eCon (.str (Str.ofString "has"))) (eCons (eCon (.str (Str.ofString "k"))) (eCons (eTup (eCons (eCon (.str (Str.ofString "say"))) (eCons (eTup eNil) (eOne (eCon (.str (Str.ofString "taken"))))))) (eOne (eTup (eCons (eCon (.str (Str.ofString "say"))) (eCons (eTup (eOne (eTup (eCons (eCon (.str (Str.ofString "make"))) (eCons (eCon (.str (Str.ofString "k"))) (eOne (eTup (eOne (eCon (.int 0)))))))))) (eOne (eCon (.str (Str.ofString "made"))))))))))))))))) (sSeq (sSet 1 (eTup (eCons (eCon (.str (Str.ofString "link"))) (eCons (eTup (eCons (eCon (.str (Str.ofString "a"))) (eOne (eCon (.str (Str.ofString "b")))))) (eOne (eTup (eCons (eCon (.str (Str.ofString "has"))) (eCons (eCon (.str (Str.ofString "a"))) (eCons (eTup (eCons (eCon (.str (Str.ofString "say"))) (eCons (eTup (eOne (eTup (eCons (eCon (.str (Str.ofString "make"))) (eCons (eCon (.str (Str.ofString "b"))) (eOne (eTup (eOne (eCon (.int 0)))))))))) (eOne (eCon (.str (Str.ofString "ok"))))))) (eOne (eTup (eCons (eCon (.str (Str.ofString "say"))) (eCons (eTup eNil) (eOne (eCon (.str (Str.ofString "ok"))))))))))))))))) (sSeq (sSet 2 (eTup (eCons (eCon (.str (Str.ofString "copy"))) (eCons (eTup (eCons (eCon (.str (Str.ofString "a"))) (eOne (eCon (.str (Str.ofString "b")))))) (eOne (eTup (eCons (eCon (.str (Str.ofString "has"))) (eCons (eCon (.str (Str.ofString "a"))) (eCons (eTup (eCons (eCon (.str (Str.ofString "let"))) (eCons (eCon (.str (Str.ofString "x"))) (eCons (eCon (.str (Str.ofString "a"))) (eCons (eCon (.str (Str.ofString "f"))) (eOne (eTup (eCons (eCon (.str (Str.ofString "say"))) (eCons (eTup (eOne (eTup (eCons (eCon (.str (Str.ofString "set"))) (eCons (eCon (.str (Str.ofString "b"))) (eCons (eCon (.str (Str.ofString "f"))) (eOne (eCon (.str (Str.ofString "x")))))))))) (eOne (eCon (.str (Str.ofString "ok"))))))))))))) (eOne (eTup (eCons (eCon (.str (Str.ofString "say"))) (eCons (eTup eNil) (eOne (eCon (.str (Str.ofString "no"))))))))))))))))) (sSeq (sSet 3 (eMake "Book" F_Book_init (eCons (eTup (eOne (eCon (.str (Str.ofString "f"))))) (eOne (eTup (eCons (eVar 0) (eCons (eVar 1) (eCons (eVar 2) (eOne (eTup (eCons (eCon (.str (Str.ofString "plain"))) (eCons (eTup eNil) (eOne (eTup (eCons (eCon (.str (Str.ofString "say"))) (eCons (eTup eNil) (eOne (eCon (.str (Str.ofString "ok")))))))))))))))))))) (sSeq (sAsg (eTup (eCons (eTup (eCons (eTup (eCons (eCon (.str (Str.ofString "make"))) (eOne (eCon (.int 1))))) (eOne (eCon (.str (Str.ofString "made")))))) (eCons (eTup (eCons (eTup (eCons (eCon (.str (Str.ofString "link"))) (eCons (eCon (.int 1)) (eOne (eCon (.int 2)))))) (eOne (eCon (.str (Str.ofString "ok")))))) (eOne (eTup (eCons (eTup (eCons (eCon (.str (Str.ofString "copy"))) (eCons (eCon (.int 1)) (eOne (eCon (.int 2)))))) (eOne (eCon (.str (Str.ofString "any")))))))))) (gTupD 3 (gConsD (gPut 0) (gConsD (gPut 1) (gConsD (gPut 2) gNilD))))) (sSeq (sSet 4 (eLst (eCons (eTup eNil) (eCons (eTup (eOne (eVar 0))) (eCons (eOp2 dMul (eTup (eOne (eVar 0))) (eCon (.int 9))) (eCons (eTup (eCons (eVar 0) (eCons (eVar 1) (eOne (eVar 0))))) (eCons (eOp2 dAdd (eOp2 dMul (eTup (eOne (eVar 1))) (eCon (.int 5))) (eOp2 dMul (eTup (eOne (eVar 0))) (eCon (.int 3)))) (eOne (eOp2 dMul (eTup (eOne (eVar 2))) (eCon (.int 12))))))))))) (sSeq (sSet 4 (eOp2 dAdd (eVar 4) (eLst (eCons (eTup (eCons (eVar 0) (eCons (eVar 2) (eCons (eVar 2) (eCons (eVar 0) (eOne (eVar 0))))))) (eCons (eOp2 dMul (eTup (eOne (eTup (eCons (eTup (eOne (eCon (.str (Str.ofString "plain"))))) (eOne (eCon (.str (Str.ofString "ok")))))))) (eCon (.int 3))) (eOne (eOp2 dAdd (eOp2 dMul (eTup (eOne (eVar 1))) (eCon (.int 2))) (eOp2 dMul (eTup (eOne (eVar 0))) (eCon (.int 2)))))))))) (sSeq (sSet 5 (eTup (eCons (eTup (eCons (eCon (.str (Str.ofString "make"))) (eCons (eCon (.str (Str.ofString "a"))) (eOne (eTup (eOne (eCon (.int 0)))))))) (eOne (eTup (eCons (eCon (.str (Str.ofString "drop"))) (eOne (eCon (.str (Str.ofString "a")))))))))) (sSeq (sSet 5 (eTup (eCons (eCon (.str (Str.ofString "has"))) (eCons (eCon (.str (Str.ofString "a"))) (eCons (eTup (eCons (eCon (.str (Str.ofString "say"))) (eCons (eVar 5) (eOne (eCon (.str (Str.ofString "ok"))))))) (eOne (eTup (eCons (eCon (.str (Str.ofString "say"))) (eCons (eRev (eVar 5)) (eOne (eCon (.str (Str.ofString "ok"))))))))))))) (sSeq (sSet 6 (eOp2 dMul (eTup (eOne (eTup (eCons (eTup (eCons (eCon (.str (Str.ofString "flip"))) (eOne (eCon (.int 1))))) (eOne (eCon (.str (Str.ofString "ok")))))))) (eCon (.int 3)))) (sSeq (sSet 7 (eOp2 dAdd (eLc (iAny (eVar 4)) (gPut 8) (eRet true) (eCallV F_most_calls (eCons (eVar 3) (eOne (eVar 8)))) [8]) (eLst (eOne (eCallV F_most_calls (eCons (eMake "Book" F_Book_init (eCons (eTup (eOne (eCon (.str (Str.ofString "f"))))) (eOne (eTup (eOne (eTup (eCons (eCon (.str (Str.ofString "flip"))) (eCons (eTup (eOne (eCon (.str (Str.ofString "a"))))) (eOne (eVar 5)))))))))) (eOne (eVar 6)))))))) (sRet (eCallV F_L_same (eCons (eVar 7) (eOne (eLst (eCons (eCon (.int 0)) (eCons (eCon (.int 1)) (eCons (eCon (.int 2)) (eCons (eCon (.int 3)) (eCons (eCon (.int 7)) (eCons (eCon (.int 12)) (eCons (eCon (.int 5)) (eCons (eCon (.int 1)) (eCons (eCon (.int 4)) (eOne (eCon (.int 3))))))))))))))))))))))))))))
def F_L_by_hand_right : EM R := runF 9 0 fb_L_by_hand_right
theorem sc_L_by_hand_right : FnScope ["_law_make_so", "_law_link_so", "_law_copy_so", "_law_mine", "_law_rows", "_law_flip_so", "_law_flips_so", "_law_told_so", "_law_own"] [] (defScope s_L_by_hand_right) := ⟨rfl, rfl, rfl, by decide +kernel, rfl, by decide +kernel, by decide +kernel⟩
theorem ok_L_by_hand_right {f : Addr} {fd : FuncData} (G_most_calls : Fnk P w K mg base "most_calls" 65 2 F_most_calls) (G_L_same : Fnk P w K mg base "_law_same" 61 2 F_L_same) (G_Book_init : Ink P w K mg base "Book" ["fields", "kinds"] 68 3 F_Book_init ownBook) (M : MgB mg) (m : mg "_law_by_hand_right" = some (.ref f)) (F : FnP K "_law_by_hand_right" s_L_by_hand_right f fd) : Fnk P w K mg base "_law_by_hand_right" 70 0 F_L_by_hand_right :=
  fnk_ok (N := ["_law_make_so", "_law_link_so", "_law_copy_so", "_law_mine", "_law_rows", "_law_flip_so", "_law_flips_so", "_law_told_so", "_law_own"]) (ps := []) m F sc_L_by_hand_right (fun _ _ _ _ _ _ us hl => match us, hl with | [], _ => rfl) fun cdv A outer s H E hr => (ds_cons (ds_set (i := 0) sc_L_by_hand_right.nd rfl (by first | exact Or.inl rfl | exact Or.inr rfl) (by first | exact Or.inl rfl | exact Or.inr rfl) rfl (d_tup (dc dstr (dc (d_tup (dl dstr)) (dl (d_tup (dc dstr (dc dstr (dc (d_tup (dc dstr (dc (d_tup dn) (dl dstr)))) (dl (d_tup (dc dstr (dc (d_tup (dl (d_tup (dc dstr (dc dstr (dl (d_tup (dl dint)))))))) (dl dstr)))))))))))))) (ds_cons (ds_set (i := 1) sc_L_by_hand_right.nd rfl (by first | exact Or.inl rfl | exact Or.inr rfl) (by first | exact Or.inl rfl | exact Or.inr rfl) rfl (d_tup (dc dstr (dc (d_tup (dc dstr (dl dstr))) (dl (d_tup (dc dstr (dc dstr (dc (d_tup (dc dstr (dc (d_tup (dl (d_tup (dc dstr (dc dstr (dl (d_tup (dl dint)))))))) (dl dstr)))) (dl (d_tup (dc dstr (dc (d_tup dn) (dl dstr)))))))))))))) (ds_cons (ds_set (i := 2) sc_L_by_hand_right.nd rfl (by first | exact Or.inl rfl | exact Or.inr rfl) (by first | exact Or.inl rfl | exact Or.inr rfl) rfl (d_tup (dc dstr (dc (d_tup (dc dstr (dl dstr))) (dl (d_tup (dc dstr (dc dstr (dc (d_tup (dc dstr (dc dstr (dc dstr (dc dstr (dl (d_tup (dc dstr (dc (d_tup (dl (d_tup (dc dstr (dc dstr (dc dstr (dl dstr))))))) (dl dstr)))))))))) (dl (d_tup (dc dstr (dc (d_tup dn) (dl dstr)))))))))))))) (ds_cons (ds_set (i := 3) sc_L_by_hand_right.nd rfl (by first | exact Or.inl rfl | exact Or.inr rfl) (by first | exact Or.inl rfl | exact Or.inr rfl) rfl (dmake G_Book_init hr (dc (d_tup (dl dstr)) (dl (d_tup (dc (dv 0) (dc (dv 1) (dc (dv 2) (dl (d_tup (dc dstr (dc (d_tup dn) (dl (d_tup (dc dstr (dc (d_tup dn) (dl dstr))))))))))))))))) (ds_cons (ds_asg (d_tup (dc (d_tup (dc (d_tup (dc dstr (dl dint))) (dl dstr))) (dc (d_tup (dc (d_tup (dc dstr (dc dint (dl dint)))) (dl dstr))) (dl (d_tup (dc (d_tup (dc dstr (dc dint (dl dint)))) (dl dstr))))))) (dg_tup rfl (dgs_cons (dg_name (i := 0) sc_L_by_hand_right.nd rfl (by first | exact Or.inl rfl | exact Or.inr rfl) (by first | exact Or.inl rfl | exact Or.inr rfl)) (dgs_cons (dg_name (i := 1) sc_L_by_hand_right.nd rfl (by first | exact Or.inl rfl | exact Or.inr rfl) (by first | exact Or.inl rfl | exact Or.inr rfl)) (dgs_cons (dg_name (i := 2) sc_L_by_hand_right.nd rfl (by first | exact Or.inl rfl | exact Or.inr rfl) (by first | exact Or.inl rfl | exact Or.inr rfl)) dgs_nil))))) (ds_cons (ds_set (i := 4) sc_L_by_hand_right.nd rfl (by first | exact Or.inl rfl | exact Or.inr rfl) (by first | exact Or.inl rfl | exact Or.inr rfl) rfl (d_lst (dc (d_tup dn) (dc (d_tup (dl (dv 0))) (dc (dop r_mul (d_tup (dl (dv 0))) dint) (dc (d_tup (dc (dv 0) (dc (dv 1) (dl (dv 0))))) (dc (dop r_add (dop r_mul (d_tup (dl (dv 1))) dint) (dop r_mul (d_tup (dl (dv 0))) dint)) (dl (dop r_mul (d_tup (dl (dv 2))) dint))))))))) (ds_cons (ds_set (i := 4) sc_L_by_hand_right.nd rfl (by first | exact Or.inl rfl | exact Or.inr rfl) (by first | exact Or.inl rfl | exact Or.inr rfl) rfl (dop r_add (dv 4) (d_lst (dc (d_tup (dc (dv 0) (dc (dv 2) (dc (dv 2) (dc (dv 0) (dl (dv 0))))))) (dc (dop r_mul (d_tup (dl (d_tup (dc (d_tup (dl dstr)) (dl dstr))))) dint) (dl (dop r_add (dop r_mul (d_tup (dl (dv 1))) dint) (dop r_mul (d_tup (dl (dv 0))) dint)))))))) (ds_cons (ds_set (i := 5) sc_L_by_hand_right.nd rfl (by first | exact Or.inl rfl | exact Or.inr rfl) (by first | exact Or.inl rfl | exact Or.inr rfl) rfl (d_tup (dc (d_tup (dc dstr (dc dstr (dl (d_tup (dl dint)))))) (dl (d_tup (dc dstr (dl dstr))))))) (ds_cons (ds_set (i := 5) sc_L_by_hand_right.nd rfl (by first | exact Or.inl rfl | exact Or.inr rfl) (by first | exact Or.inl rfl | exact Or.inr rfl) rfl (d_tup (dc dstr (dc dstr (dc (d_tup (dc dstr (dc (dv 5) (dl dstr)))) (dl (d_tup (dc dstr (dc (d_rev (dv 5)) (dl dstr)))))))))) (ds_cons (ds_set (i := 6) sc_L_by_hand_right.nd rfl (by first | exact Or.inl rfl | exact Or.inr rfl) (by first | exact Or.inl rfl | exact Or.inr rfl) rfl (dop r_mul (d_tup (dl (d_tup (dc (d_tup (dc dstr (dl dint))) (dl dstr))))) dint)) (ds_cons (ds_set (i := 7) sc_L_by_hand_right.nd rfl (by first | exact Or.inl rfl | exact Or.inr rfl) (by first | exact Or.inl rfl | exact Or.inr rfl) rfl (dop r_add (d_lc (own := [("_law_own", 8)]) rfl sc_L_by_hand_right.nd (di_any (dv 4)) (blkOk_by (own := [("_law_own", 8)]) (N := ["_law_make_so", "_law_link_so", "_law_copy_so", "_law_mine", "_law_rows", "_law_flip_so", "_law_flips_so", "_law_told_so", "_law_own"]) (sc := defScope s_L_by_hand_right) (by decide +kernel)) (by decide) (fun _ _ _ _ _ => (dg_name (i := 8) sc_L_by_hand_right.nd rfl (by first | exact Or.inl rfl | exact Or.inr rfl) (by first | exact Or.inl rfl | exact Or.inr rfl))) (fun _ _ _ _ _ => dts_nil) (fun _ _ _ _ _ => (dcall G_most_calls hr (dc (dv 3) (dl (dv 8)))))) (d_lst (dl (dcall G_most_calls hr (dc (dmake G_Book_init hr (dc (d_tup (dl dstr)) (dl (d_tup (dl (d_tup (dc dstr (dc (d_tup (dl dstr)) (dl (dv 5)))))))))) (dl (dv 6)))))))) (ds_one (ds_ret (dcall G_L_same hr (dc (dv 7) (dl (d_lst (dc dint (dc dint (dc dint (dc dint (dc dint (dc dint (dc dint (dc dint (dc dint (dl dint)))))))))))))))))))))))))))
/-! ### _law_right -/
abbrev s_L_right : Stmt := top 70
def fb_L_right : EM O := (sSeq (eIf (tNo (eTruth (eCall0 F_L_by_hand_right))) (sRet (eCon (.bl false))) (eRet .nx)) (sSeq (sFor (iRange (eOne (eCon (.int 4)))) (gPut 1) (sSeq (sAsgL 2 3 4 (eOpN dTuple (eOne (eCallM F_L_names (eCons (eVar 0) (eOne (eOp2 dAdd (eCon (.int 1)) (eCallM F_L_take (eCons (eVar 0) (eOne (eCon (.int 2))))))))))) (eCallM F_L_names (eCons (eVar 0) (eOne (eCon (.int 3)))))) (sSeq (sFor (iAny (eCallM F_L_names (eCons (eVar 0) (eOne (eCon (.int 4)))))) (gPut 5) (sExp (eBind (hasL 4) fun _ => eApp 4 (eOne (eCallM F_L_kind (eCons (eVar 0) (eCons (eVar 2) (eCons (eVar 5) (eCons (eVar 3) (eCons (eCon (.int 1)) (eCons (eCon (.int 3)) (eOne (eCut (eLst (eCons (eCon (.int 0)) (eOne (eCon (.int 7))))) oNone (oInt (eCallM F_L_take (eCons (eVar 0) (eOne (eCon (.int 3))))))))))))))))))) (sSeq (sSet 6 (eTup (eCons (eVar 2) (eOne (eOpN dTuple (eOne (eVar 4))))))) (sSeq (sSet 7 (eCallM F_L_calls (eCons (eVar 0) (eCons (eVar 6) (eCons (eCallM F_L_pool (eOne (eVar 0))) (eOne (eCallM F_L_take (eCons (eVar 0) (eOne (eCon (.int 13))))))))))) (sSeq (sSet 8 (eOpN dTuple (eOne (eLc (iAny (eVar 7)) (gPut 9) (eRet true) (eTup (eCons (eVar 9) (eOne (eCallM F_L_of (eCons (eVar 0) (eOne (eVar 3))))))) [9])))) (sSeq (sPar 10 11 (eCons (eMake "Book" F_Book_init (eCons (eVar 2) (eOne (eVar 4)))) (eOne (eCallV F_L_due (eCons (eVar 6) (eOne (eVar 8))))))) (eIf (tNo (eTruth (eCallV F_L_same (eCons (eLst (eCons (eCallV F_most_calls (eCons (eVar 10) (eOne (eVar 8)))) (eOne (eCallV F_most_calls (eSwap (eCons (eCallM F_L_mixed (eCons (eVar 0) (eOne (eVar 8)))) (eOne (eVar 10)))))))) (eOne (eLst (eCons (eVar 11) (eOne (eVar 11))))))))) (sRet (eCon (.bl false))) (eRet .nx))))))))) (sRet (eCon (.bl true)))))
def F_L_right : EM R := runF 12 1 fb_L_right
theorem sc_L_right : FnScope ["_law_box_here", "_law_turn", "_law_fields_so", "_law_words_so", "_law_kinds_so", "_law_name_so", "_law_book_so", "_law_calls_so", "_law_lines_so", "_law_call_so", "_law_mine", "_law_due_here"] ["_law_box_here"] (defScope s_L_right) := ⟨rfl, rfl, rfl, by decide +kernel, rfl, by decide +kernel, by decide +kernel⟩
theorem ok_L_right {f : Addr} {fd : FuncData} (G_L_by_hand_right : Fnk P w K mg base "_law_by_hand_right" 70 0 F_L_by_hand_right) (G_L_names : Fnk P w K mg base "_law_names" 3 2 F_L_names) (G_L_take : Fnk P w K mg base "_law_take" 1 2 F_L_take) (G_L_kind : Fnk P w K mg base "_law_kind" 64 7 F_L_kind) (G_L_calls : Fnk P w K mg base "_law_calls" 4 4 F_L_calls) (G_L_pool : Fnk P w K mg base "_law_pool" 2 1 F_L_pool) (G_L_of : Fnk P w K mg base "_law_of" 2 2 F_L_of) (G_L_due : Fnk P w K mg base "_law_due" 61 2 F_L_due) (G_L_same : Fnk P w K mg base "_law_same" 61 2 F_L_same) (G_most_calls : Fnk P w K mg base "most_calls" 65 2 F_most_calls) (G_L_mixed : Fnk P w K mg base "_law_mixed" 61 2 F_L_mixed) (GK_most_calls : Knk P w K mg base "most_calls" ["lines", "book"] 65 2 F_most_calls) (G_Book_init : Ink P w K mg base "Book" ["fields", "kinds"] 68 3 F_Book_init ownBook) (M : MgB mg) (m : mg "_law_right" = some (.ref f)) (F : FnP K "_law_right" s_L_right f fd) : Fnk P w K mg base "_law_right" 71 1 F_L_right :=
  fnk_ok (N := ["_law_box_here", "_law_turn", "_law_fields_so", "_law_words_so", "_law_kinds_so", "_law_name_so", "_law_book_so", "_law_calls_so", "_law_lines_so", "_law_call_so", "_law_mine", "_law_due_here"]) (ps := ["_law_box_here"]) m F sc_L_right (fun _ _ _ _ _ _ us hl => match us, hl with | [_], _ => rfl) fun cdv A outer s H E hr => (ds_cons (ds_if (dt_not (tv (dcall0 G_L_by_hand_right hr))) (ds_one (ds_ret dbl)) ds_nil) (ds_cons (ds_for PassesOwn.never rfl (di_range rfl M.range (dl dint)) (dg_name (i := 1) sc_L_right.nd rfl (by first | exact Or.inl rfl | exact Or.inr rfl) (by first | exact Or.inl rfl | exact Or.inr rfl)) (ds_cons (ds_asgL (i := 2) (j := 3) (l := 4) rfl sc_L_right.nd rfl rfl rfl (by first | exact Or.inl rfl | exact Or.inr rfl) (by first | exact Or.inl rfl | exact Or.inr rfl) (by first | exact Or.inl rfl | exact Or.inr rfl) (by first | exact Or.inl rfl | exact Or.inr rfl) (by first | exact Or.inl rfl | exact Or.inr rfl) (by first | exact Or.inl rfl | exact Or.inr rfl) (dT r_tuple M.tuple (dl (dcallM G_L_names hr (dc (dv 0) (dl (dop r_add dint (dcallM G_L_take hr (dc (dv 0) (dl dint)))))))) (hv := bt_tuple)) (dcallM G_L_names hr (dc (dv 0) (dl dint))) ) (ds_cons (ds_for PassesOwn.never rfl (di_any (dcallM G_L_names hr (dc (dv 0) (dl dint)))) (dg_name (i := 5) sc_L_right.nd rfl (by first | exact Or.inl rfl | exact Or.inr rfl) (by first | exact Or.inl rfl | exact Or.inr rfl)) (ds_one (ds_expr rfl (dapp 4 (dl (dcallM G_L_kind hr (dc (dv 0) (dc (dv 2) (dc (dv 5) (dc (dv 3) (dc dint (dc dint (dl (d_cut (d_lst (dc dint (dl dint))) do_none (do_some (dcallM G_L_take hr (dc (dv 0) (dl dint)))))))))))))))))) (ds_cons (ds_set (i := 6) sc_L_right.nd rfl (by first | exact Or.inl rfl | exact Or.inr rfl) (by first | exact Or.inl rfl | exact Or.inr rfl) rfl (d_tup (dc (dv 2) (dl (dT r_tuple M.tuple (dl (dv 4)) (hv := bt_tuple)))))) (ds_cons (ds_set (i := 7) sc_L_right.nd rfl (by first | exact Or.inl rfl | exact Or.inr rfl) (by first | exact Or.inl rfl | exact Or.inr rfl) rfl (dcallM G_L_calls hr (dc (dv 0) (dc (dv 6) (dc (dcallM G_L_pool hr (dl (dv 0))) (dl (dcallM G_L_take hr (dc (dv 0) (dl dint))))))))) (ds_cons (ds_set (i := 8) sc_L_right.nd rfl (by first | exact Or.inl rfl | exact Or.inr rfl) (by first | exact Or.inl rfl | exact Or.inr rfl) rfl (dT r_tuple M.tuple (dl (d_lc (own := [("_law_call_so", 9)]) rfl sc_L_right.nd (di_any (dv 7)) (blkOk_by (own := [("_law_call_so", 9)]) (N := ["_law_box_here", "_law_turn", "_law_fields_so", "_law_words_so", "_law_kinds_so", "_law_name_so", "_law_book_so", "_law_calls_so", "_law_lines_so", "_law_call_so", "_law_mine", "_law_due_here"]) (sc := defScope s_L_right) (by decide +kernel)) (by decide) (fun _ _ _ _ _ => (dg_name (i := 9) sc_L_right.nd rfl (by first | exact Or.inl rfl | exact Or.inr rfl) (by first | exact Or.inl rfl | exact Or.inr rfl))) (fun _ _ _ _ _ => dts_nil) (fun _ _ _ _ _ => (d_tup (dc (dv 9) (dl (dcallM G_L_of hr (dc (dv 0) (dl (dv 3)))))))))) (hv := bt_tuple))) (ds_cons (ds_par (i := 10) (j := 11) rfl sc_L_right.nd rfl rfl (by decide) rfl rfl (dc (dmake G_Book_init hr (dc (dv 2) (dl (dv 4)))) (dl (dcall G_L_due hr (dc (dv 6) (dl (dv 8)))))) rfl) (ds_one (ds_if (dt_not (tv (dcall G_L_same hr (dc (d_lst (dc (dcall G_most_calls hr (dc (dv 10) (dl (dv 8)))) (dl (dcallK GK_most_calls hr (dkc (dcallM G_L_mixed hr (dc (dv 0) (dl (dv 8)))) (dkl (dv 10))))))) (dl (d_lst (dc (dv 11) (dl (dv 11))))))))) (ds_one (ds_ret dbl)) ds_nil))))))))) (ds_one (ds_ret dbl))))
/-! ### law -/
abbrev s_law : Stmt := top 71
def fb_law : EM O := (sSeq (sSet 1 (eCallV F_L_cells (eCons (eVar 0) (eOne (eCon (.int 3)))))) (sRet (eOpN dAll (eOne (eLc (iRange (eOne (eOpN dLen (eOne (eVar 1))))) (gPut 2) (eRet true) (eCallM F_L_right (eOne (eCallV F_L_box (eCons (eVar 1) (eOne (eVar 2)))))) [2])))))
def F_law : EM R := runF 3 1 fb_law
theorem sc_law : FnScope ["_law_script", "_law_cells_here", "_law_k"] ["_law_script"] (defScope s_law) := ⟨rfl, rfl, rfl, by decide +kernel, rfl, by decide +kernel, by decide +kernel⟩
theorem ok_law {f : Addr} {fd : FuncData} (G_L_cells : Fnk P w K mg base "_law_cells" 1 2 F_L_cells) (G_L_right : Fnk P w K mg base "_law_right" 71 1 F_L_right) (G_L_box : Fnk P w K mg base "_law_box" 1 2 F_L_box) (M : MgB mg) (m : mg "law" = some (.ref f)) (F : FnP K "law" s_law f fd) : Fnk P w K mg base "law" 72 1 F_law :=
  fnk_ok (N := ["_law_script", "_law_cells_here", "_law_k"]) (ps := ["_law_script"]) m F sc_law (fun _ _ _ _ _ _ us hl => match us, hl with | [_], _ => rfl) fun cdv A outer s H E hr => (ds_cons (ds_set (i := 1) sc_law.nd rfl (by first | exact Or.inl rfl | exact Or.inr rfl) (by first | exact Or.inl rfl | exact Or.inr rfl) rfl (dcall G_L_cells hr (dc (dv 0) (dl dint)))) (ds_one (ds_ret (dB (r_all rfl) M.all (dl (d_lc (own := [("_law_k", 2)]) rfl sc_law.nd (di_range rfl M.range (dl (dB r_len M.len (dl (dv 1)) (hv := bt_len)))) (blkOk_by (own := [("_law_k", 2)]) (N := ["_law_script", "_law_cells_here", "_law_k"]) (sc := defScope s_law) (by decide +kernel)) (by decide) (fun _ _ _ _ _ => (dg_name (i := 2) sc_law.nd rfl (by first | exact Or.inl rfl | exact Or.inr rfl) (by first | exact Or.inl rfl | exact Or.inr rfl))) (fun _ _ _ _ _ => dts_nil) (fun _ _ _ _ _ => (dcallM G_L_right hr (dl (dcall G_L_box hr (dc (dv 1) (dl (dv 2))))))))) (hv := bt_all)))))
end
end Prg
/-! What the top leaves: defs by their names, the methods by their class. -/
namespace Prg
open PySem PySem.Spec L2 DL
open PyProof.Rows hiding St
namespace Hd
def mA (c m : Str) (K : PySem.W.Frag) : Addr := He.ma K (He.ga K c) m
def clB (K : PySem.W.Frag) : Bool := PySem.W.fnIn K (mA "Book" "__init__" K) && PySem.W.fnIn K (mA "Book" "__contains__" K) && PySem.W.fnIn K (mA "Book" "__getitem__" K)
def hookS (n : Nat) (fa : List He.Fa) (fn : List He5.DefA) (ex : PySem.W.Frag → Bool) : PySem.W.Hook where
  α := He.AlD × Bool
  obs := fun s => (He5.obsAG n fa fn s.heap.get?, ex (He.frG s.heap.get? (He5.asA s.heap.get? n)))
  val := fun _ => (He5.valA fn, true)
  says := fun _ h => ∃ K : PySem.W.Frag, K.In h ∧ He5.SaysA fa fn K ∧ ex K = true
  of := fun _ _ e => ⟨_, He.frG_in, congrArg (fun z : He.AlD × Bool => z.1) e, congrArg (fun z : He.AlD × Bool => z.2) e⟩
  keeps := fun _ _ _ ⟨K, hK, c⟩ k =>
      ⟨K, PySem.W.Frag.In.keeps hK k, c⟩
def dF (x : Str) (st : Stmt) : He5.DefA := ⟨fun K => He.ga K x, x, x, defArgs st, defBody st, defScope st, [], []⟩
def dM (c m q : Str) (st : Stmt) : He5.DefA := ⟨mA c m, m, q, defArgs st, defBody st, defScope st, [], []⟩
def fnM : List He5.DefA := [dM "Book" "__init__" "Book.__init__" s_Book_init, dM "Book" "__contains__" "Book.__contains__" s_Book_contains, dM "Book" "__getitem__" "Book.__getitem__" s_Book_getitem]
def fnG1 : List He5.DefA := [dF "is_number" s_is_number, dF "is_name" s_is_name, dF "are_names" s_are_names, dF "tupled" s_tupled, dF "are_fields" s_are_fields, dF "are_parameters" s_are_parameters, dF "is_term" s_is_term, dF "is_tested" s_is_tested, dF "is_new_name" s_is_new_name, dF "are_record_terms" s_are_record_terms, dF "is_change" s_is_change, dF "is_say" s_is_say, dF "divided" s_divided, dF "is_head" s_is_head, dF "inner_scopes" s_inner_scopes, dF "is_body" s_is_body, dF "is_kind_for" s_is_kind_for, dF "change_terms" s_change_terms, dF "checked_fields" s_checked_fields, dF "checked_kinds" s_checked_kinds, dF "is_call" s_is_call, dF "checked_call" s_checked_call, dF "checked_line" s_checked_line, dF "checked_lines" s_checked_lines, dF "names_let" s_names_let, dF "hides" s_hides, dF "paths_in" s_paths_in]
def fnG2 : List He5.DefA := [dF "sayings" s_sayings, dF "hiding" s_hiding, dF "is_telling" s_is_telling, dF "body_length" s_body_length, dF "length" s_length, dF "most_calls" s_most_calls, dF "_law_box" s_L_box, dF "_law_take" s_L_take, dF "_law_cells" s_L_cells, dF "_law_of" s_L_of, dF "_law_is_number" s_L_is_number, dF "_law_mixed" s_L_mixed, dF "_law_same" s_L_same, dF "_law_names" s_L_names, dF "_law_pool" s_L_pool, dF "_law_say" s_L_say, dF "_law_body" s_L_body, dF "_law_kind" s_L_kind, dF "_law_call" s_L_call, dF "_law_calls" s_L_calls, dF "_law_kind_of" s_L_kind_of, dF "_law_says" s_L_says, dF "_law_tells" s_L_tells, dF "_law_due" s_L_due, dF "_law_by_hand_right" s_L_by_hand_right, dF "_law_right" s_L_right, dF "law" s_law]
def fnA : List He5.DefA := fnM ++ (fnG1 ++ fnG2)
def faG1 : List He.Fa := [.glo "Book", .cls "Book", .noat "Book" "_fields", .noat "Book" "_kinds", .mkr "Book", .meth "Book" "__contains__", .meth "Book" "__getitem__", .glo "is_number", .glo "is_name", .glo "are_names", .glo "tupled", .glo "are_fields", .glo "are_parameters", .glo "is_term", .glo "is_tested", .glo "is_new_name", .glo "are_record_terms", .glo "is_change", .glo "is_say", .glo "divided", .glo "is_head", .glo "inner_scopes", .glo "is_body", .glo "is_kind_for", .glo "change_terms", .glo "checked_fields"]
def faG2 : List He.Fa := [.glo "checked_kinds", .glo "is_call", .glo "checked_call", .glo "checked_line", .glo "checked_lines", .glo "names_let", .glo "hides", .glo "paths_in", .glo "sayings", .glo "hiding", .glo "is_telling", .glo "body_length", .glo "length", .glo "most_calls", .glo "_law_box", .glo "_law_take", .glo "_law_cells", .glo "_law_of", .glo "_law_is_number", .glo "_law_mixed", .glo "_law_same", .glo "_law_names", .glo "_law_pool", .glo "_law_say", .glo "_law_body", .glo "_law_kind"]
def faG3 : List He.Fa := [.glo "_law_call", .glo "_law_calls", .glo "_law_kind_of", .glo "_law_says", .glo "_law_tells", .glo "_law_due", .glo "_law_by_hand_right", .glo "_law_right", .glo "law", .free "isinstance", .free "list", .free "tuple", .free "dict", .free "int", .free "bool", .free "str", .free "len", .free "all", .free "any", .free "zip", .free "set", .free "enumerate", .free "range", .free "abs", .free "max", .free "min", .free "sum"]
def faA : List He.Fa := faG1 ++ (faG2 ++ faG3)
abbrev R : PySem.W.OpenRow := PySem.W.OpenLaw.row PySem.Challenge.rw_stillgood_k23_how_many_calls_at_most
abbrev hk : PySem.W.Hook := hookS 6 faA fnA clB
def ob (s : PySem.W.SharedT) : He.AlD × Bool := (He5.obsAG 6 faA fnA (HandSHeadRun.getT s), clB (He.frG (HandSHeadRun.getT s) (He5.asA (HandSHeadRun.getT s) 6)))
theorem ob_eq (s : PySem.W.SharedT) : ob s = hk.obs s.abs := by
  have e : HandSHeadRun.getT s = s.abs.heap.get? := funext (HandSHeadRun.getT_eq s)
  unfold ob
  rw [e]
  rfl
def looseA : List Str := ["_wall", "is_number", "is_name", "are_names", "tupled", "NoKind", "BadFields", "BadKind", "Twice", "Unlike", "BadCall", "is_call", "checked_call", "checked_line", "checked_lines", "are_fields", "is_kind_for", "are_parameters", "is_body", "is_say", "divided"]
def looseB : List Str := ["is_head", "inner_scopes", "is_term", "is_tested", "is_new_name", "is_change", "are_record_terms", "change_terms", "is_telling", "hiding", "sayings", "paths_in", "hides", "names_let", "length", "body_length", "most_calls", "Book", "checked_fields", "checked_kinds", "by_name"]
def looseC : List Str := ["joined", "_law_box", "_law_take", "_law_cells", "_law_of", "_law_mixed", "_law_same", "_law_is_number", "_law_names", "_law_pool", "_law_say", "_law_body", "_law_kind", "_law_call", "_law_calls", "_law_kind_of", "_law_says", "_law_tells", "_law_due", "_law_by_hand_right", "_law_right"]
def loose : List Str := looseA ++ (looseB ++ looseC)
theorem run (w : World) : HandSHeadRun.RunEq R (PySem.W.view R.prog [71]) hk ob 12000 loose w := by
  intro os
  kernel_rfl
end Hd
end Prg
/-! Running functions of environments, step by step. -/
namespace DL
open PySem PySem.Spec L2
open PyProof.Rows hiding St
section
variable {α β : Type} {f g h : EM R} {env : Env}
/-- what a step hands on -/
def andThen {α β : Type} (o : Option (α × Env)) (g : α → EM β) : Option (β × Env) := match o with
  | some (a, e1) => g a e1
  | none => none
@[simp] theorem at_some {α β : Type} (a : α) (e1 : Env) (g : α → EM β) : andThen (some (a, e1)) g = g a e1 := rfl
@[simp] theorem at_none {α β : Type} (g : α → EM β) : andThen none g = none := rfl
@[simp] theorem a_bind {α β : Type} (f : EM α) (g : α → EM β) (env : Env) : eBind f g env = andThen (f env) g := rfl
@[simp] theorem a_ret {α : Type} (a : α) (env : Env) : eRet a env = some (a, env) := rfl
def slotV (o : Option (Option Slot)) (i : Nat) (env : Env) : Option (R × Env) := match o with
  | some (some _) => some (.bor i, env)
  | _ => none
@[simp] theorem slotV_s (s : Slot) (i : Nat) (env : Env) : slotV (some (some s)) i env = some (.bor i, env) := rfl
@[simp] theorem a_var (i : Nat) (env : Env) : eVar i env = slotV env[i]? i env := rfl
@[simp] theorem a_con (d : Dat) (env : Env) : eCon d env = some (.val d, env) := rfl
@[simp] theorem a_nil (env : Env) : eNil env = some ([], env) := rfl
@[simp] theorem a_cons (f : EM R) (g : EM (List R)) (env : Env) : eCons f g env = andThen (f env) fun r e1 => andThen (g e1) fun rs e2 => some (r.weak :: rs, e2) := rfl
@[simp] theorem a_one (f : EM R) (env : Env) : eOne f env = andThen (f env) fun r e1 => some ([r], e1) := rfl
def slotD (o : Option (Option Slot)) : Option Dat := match o with
  | some (some s) => some s.dat
  | _ => none
@[simp] theorem slotD_s (s : Slot) : slotD (some (some s)) = some s.dat := rfl
@[simp] theorem l_val (d : Dat) (env : Env) : look env (.val d) = some d := rfl
@[simp] theorem l_new (d : Dat) (env : Env) : look env (.new d) = some d := rfl
@[simp] theorem l_bor (i : Nat) (env : Env) : look env (.bor i) = slotD env[i]? := rfl
@[simp] theorem w_val (d : Dat) : R.weak (.val d) = .val d := rfl
@[simp] theorem w_new (d : Dat) : R.weak (.new d) = .val d := rfl
@[simp] theorem w_bor (i : Nat) : R.weak (.bor i) = .bor i := rfl
def withEnv {α : Type} (o : Option α) (env : Env) : Option (α × Env) := o.map fun a => (a, env)
@[simp] theorem we_some {α : Type} (a : α) (env : Env) : withEnv (some a) env = some (a, env) := rfl
@[simp] theorem we_none {α : Type} (env : Env) : withEnv (none : Option α) env = none := rfl
@[simp] theorem a_look (r : R) (env : Env) : eLook r env = withEnv (look env r) env := rfl
@[simp] theorem a_opt {α : Type} (o : Option α) (env : Env) : eOpt o env = withEnv o env := rfl
def slotF (o : Option (Option Slot)) (i : Nat) (env : Env) : Option (Dat × Env) := match o with
  | some (some (.val d)) => some (d, env)
  | some (some (.own d)) => some (d, env.set i (some (.val d)))
  | _ => none
@[simp] theorem slotF_v (d : Dat) (i : Nat) (env : Env) : slotF (some (some (.val d))) i env = some (d, env) := rfl
@[simp] theorem slotF_o (d : Dat) (i : Nat) (env : Env) : slotF (some (some (.own d))) i env = some (d, env.set i (some (.val d))) := rfl
@[simp] theorem f_val (d : Dat) (env : Env) : eForce (.val d) env = some (d, env) := rfl
@[simp] theorem f_new (d : Dat) (env : Env) : eForce (.new d) env = some (d, env) := rfl
@[simp] theorem f_bor (i : Nat) (env : Env) : eForce (.bor i) env = slotF env[i]? i env := rfl
@[simp] theorem fs_nil (env : Env) : eForces [] env = some ([], env) := rfl
@[simp] theorem fs_cons (r : R) (rs : List R) (env : Env) : eForces (r :: rs) env = andThen (eForce r env) fun d e1 => andThen (eForces rs e1) fun ds e2 => some (d :: ds, e2) := rfl
@[simp] theorem ls_nil (env : Env) : eLooks [] env = some ([], env) := rfl
@[simp] theorem ls_cons (r : R) (rs : List R) (env : Env) : eLooks (r :: rs) env = andThen (eLook r env) fun d e1 => andThen (eLooks rs e1) fun ds e2 => some (d :: ds, e2) := rfl
@[simp] theorem o_f (d : Dat) : Out.r (false, d) = .val d := rfl
@[simp] theorem o_t (d : Dat) : Out.r (true, d) = .new d := rfl
@[simp] theorem a_tup (fs : EM (List R)) (env : Env) : eTup fs env = andThen (fs env) fun rs e1 => andThen (eForces rs e1) fun ds e2 => withEnv (if ds.length ≤ 100000 then some (.val (.tup ds)) else none) e2 := rfl
@[simp] theorem a_lst (fs : EM (List R)) (env : Env) : eLst fs env = andThen (fs env) fun rs e1 => andThen (eForces rs e1) fun ds e2 => withEnv (if ds.length ≤ 100000 then some (.new (.lst ds)) else none) e2 := rfl
@[simp] theorem a_op2 (op : Dat → Dat → Option Out) (f g : EM R) (env : Env) : eOp2 op f g env = andThen (f env) fun r e1 => andThen (g e1) fun s e2 => andThen (eLook r e2) fun a e3 => andThen (eLook s e3) fun b e4 => andThen (withEnv (op a b) e4) fun o e5 => some (o.r, e5) := rfl
@[simp] theorem a_op1 (op : Dat → Option Out) (f : EM R) (env : Env) : eOp1 op f env = andThen (f env) fun r e1 => andThen (eLook r e1) fun a e3 => andThen (withEnv (op a) e3) fun o e5 => some (o.r, e5) := rfl
@[simp] theorem a_opN (op : List Dat → Option Out) (fs : EM (List R)) (env : Env) : eOpN op fs env = andThen (fs env) fun rs e1 => andThen (eLooks rs e1) fun ds e2 => andThen (withEnv (op ds) e2) fun o e5 => some (o.r, e5) := rfl
@[simp] theorem a_truth (f : EM R) (env : Env) : eTruth f env = andThen (f env) fun r e1 => andThen (eLook r e1) fun d e2 => withEnv (truD d) e2 := rfl
@[simp] theorem a_tno (f : EM Bool) (env : Env) : tNo f env = andThen (f env) fun b e1 => some (!b, e1) := rfl
def ifB {α : Type} (b : Bool) (x y : Option α) : Option α := if b = true then x else y
@[simp] theorem ifB_t {α : Type} (x y : Option α) : ifB true x y = x := rfl
@[simp] theorem ifB_f {α : Type} (x y : Option α) : ifB false x y = y := rfl
theorem ifB_app {α : Type} (b : Bool) (f g : EM α) (env : Env) : (if b = true then f else g) env = ifB b (f env) (g env) := by cases b <;> rfl
@[simp] theorem a_tand (f g : EM Bool) (env : Env) : tAnd2 f g env = andThen (f env) fun b e1 => ifB b (g e1) (some (false, e1)) := by
  show andThen (f env) _ = _
  congr 1
  funext b e1
  cases b <;> rfl
@[simp] theorem a_tor (f g : EM Bool) (env : Env) : tOr2 f g env = andThen (f env) fun b e1 => ifB b (some (true, e1)) (g e1) := by
  show andThen (f env) _ = _
  congr 1
  funext b e1
  cases b <;> rfl
@[simp] theorem a_if {α : Type} (c : EM Bool) (f g : EM α) (env : Env) : eIf c f g env = andThen (c env) fun b e1 => ifB b (f e1) (g e1) := by
  show andThen (c env) _ = _
  congr 1
  funext b e1
  cases b <;> rfl
@[simp] theorem a_or (f g : EM R) (env : Env) : eOr2 f g env = andThen (f env) fun r e1 => andThen (eLook r e1) fun d e2 => andThen (withEnv (truD d) e2) fun b e3 => ifB b (some (r, e3)) (g e3) := by
  show andThen (f env) _ = _
  congr 1
  funext r e1
  show andThen (eLook r e1) _ = _
  congr 1
  funext d e2
  show andThen (withEnv (truD d) e2) _ = _
  congr 1
  funext b e3
  cases b <;> rfl
@[simp] theorem a_and (f g : EM R) (env : Env) : eAnd2 f g env = andThen (f env) fun r e1 => andThen (eLook r e1) fun d e2 => andThen (withEnv (truD d) e2) fun b e3 => ifB b (g e3) (some (r, e3)) := by
  show andThen (f env) _ = _
  congr 1
  funext r e1
  show andThen (eLook r e1) _ = _
  congr 1
  funext d e2
  show andThen (withEnv (truD d) e2) _ = _
  congr 1
  funext b e3
  cases b <;> rfl
@[simp] theorem a_not (f : EM R) (env : Env) : eNot f env = andThen (f env) fun r e1 => andThen (eLook r e1) fun d e2 => andThen (withEnv (truD d) e2) fun b e3 => some (.val (.bl (!b)), e3) := rfl
def boolR (r : R) (env : Env) : Option (Bool × Env) := match r with
  | .val (.bl k) => some (k, env)
  | _ => none
@[simp] theorem boolR_b (k : Bool) (env : Env) : boolR (.val (.bl k)) env = some (k, env) := rfl
@[simp] theorem a_tcmp (op : Dat → Dat → Option Out) (f g : EM R) (env : Env) : DL.tCmp op f g env = andThen (eOp2 op f g env) boolR := by
  show andThen (eOp2 op f g env) _ = _
  congr 1
  funext r e1
  cases r with
  | val d => cases d <;> rfl
  | _ => rfl
@[simp] theorem a_tchn (op op' : Dat → Dat → Option Out) (f g h : EM R) (env : Env) : tChn op op' f g h env = andThen (eChain op op' f g h env) boolR := by
  show andThen (eChain op op' f g h env) _ = _
  congr 1
  funext r e1
  cases r with
  | val d => cases d <;> rfl
  | _ => rfl
def chO (o : Out) (x y : Option (R × Env)) : Option (R × Env) := match o with
  | (false, .bl true) => x
  | (false, .bl false) => y
  | _ => none
@[simp] theorem chO_t (k : Bool) (x y : Option (R × Env)) : chO (false, .bl k) x y = ifB k x y := by cases k <;> rfl
@[simp] theorem a_chain (op op' : Dat → Dat → Option Out) (f g h : EM R) (env : Env) : eChain op op' f g h env = andThen (f env) fun r e1 => andThen (g e1) fun s e2 => andThen (eLook r e2) fun a e3 => andThen (eLook s e3) fun b e4 => andThen (withEnv (op a b) e4) fun o e5 =>
    chO o (andThen (h e5) fun t e6 => andThen (eLook s e6) fun b' e7 => andThen (eLook t e7) fun c e8 => andThen (withEnv (op' b' c) e8) fun o e9 => some (o.r, e9)) (some (.val (.bl false), e5)) := by
  show andThen (f env) _ = _
  congr 1
  funext r e1
  show andThen (g e1) _ = _
  congr 1
  funext s e2
  show andThen (eLook r e2) _ = _
  congr 1
  funext a e3
  show andThen (eLook s e3) _ = _
  congr 1
  funext b e4
  show andThen (withEnv (op a b) e4) _ = _
  congr 1
  funext o e5
  obtain ⟨k, d⟩ := o
  cases k with
  | true => rfl
  | false => cases d with
    | bl k => cases k <;> rfl
    | _ => rfl
/-! statements -/
def seqO (o : O) (g : EM O) (env : Env) : Option (O × Env) := match o with
  | .nx => g env
  | o => some (o, env)
@[simp] theorem seqO_n (g : EM O) (env : Env) : seqO .nx g env = g env := rfl
@[simp] theorem seqO_r (r : R) (g : EM O) (env : Env) : seqO (.rt r) g env = some (.rt r, env) := rfl
@[simp] theorem seqO_b (g : EM O) (env : Env) : seqO .bk g env = some (.bk, env) := rfl
@[simp] theorem seqO_c (g : EM O) (env : Env) : seqO .ct g env = some (.ct, env) := rfl
@[simp] theorem a_seq (f g : EM O) (env : Env) : sSeq f g env = andThen (f env) fun o e1 => seqO o g e1 := by
  show andThen (f env) _ = _
  congr 1
  funext o e1
  cases o <;> rfl
@[simp] theorem a_sexp (f : EM R) (env : Env) : sExp f env = andThen (f env) fun _ e1 => some (.nx, e1) := rfl
@[simp] theorem a_sret (f : EM R) (env : Env) : sRet f env = andThen (f env) fun r e1 => some (.rt r, e1) := rfl
@[simp] theorem a_sset (i : Nat) (f : EM R) (env : Env) : sSet i f env = andThen (f env) fun r e1 => andThen (eSet i r e1) fun _ e2 => some (.nx, e2) := rfl
@[simp] theorem m_v (d : Dat) : isMtb (some (some (.val d))) = false := rfl
@[simp] theorem m_o (d : Dat) : isMtb (some (some (.own d))) = false := rfl
@[simp] theorem m_m (d : Dat) : isMtb (some (some (.mtb d))) = true := rfl
@[simp] theorem m_n : isMtb (some none) = false := rfl
@[simp] theorem a_setn (i : Nat) (d : Dat) (env : Env) : eSet i (.new d) env = if i < env.length ∧ isMtb env[i]? = false then some ((), env.set i (some (.own d))) else none := rfl
@[simp] theorem a_setv (i : Nat) (d : Dat) (env : Env) : eSet i (.val d) env = if i < env.length ∧ isMtb env[i]? = false then (if isMtb env[i]? = false then some ((), env.set i (some (.val d))) else none) else none := rfl
theorem a_setb (i j : Nat) (env : Env) : eSet i (.bor j) env = if i < env.length ∧ isMtb env[i]? = false then andThen (eForce (.bor j) env) fun d e1 => (if isMtb e1[i]? = false then some ((), e1.set i (some (.val d))) else none) else none := by
  show (if i < env.length ∧ isMtb env[i]? = false then (match force env (.bor j) with
    | some (d, e1) => if isMtb e1[i]? = false then some ((), e1.set i (some (.val d))) else none
    | none => none) else none) = _
  show _ = (if i < env.length ∧ isMtb env[i]? = false then andThen (force env (.bor j)) (fun d e1 => (if isMtb e1[i]? = false then some ((), e1.set i (some (.val d))) else none)) else none)
  generalize force env (.bor j) = x
  cases x with
  | none => rfl
  | some p => rfl
@[simp] theorem a_put (i : Nat) (d : Dat) (env : Env) : gPut i d env = if i < env.length ∧ isMtb env[i]? = false then some ((), env.set i (some (.val d))) else none := rfl
def par2 (i j : Nat) (ds : List Dat) (env : Env) : Option (O × Env) := match ds with
  | [a, b] => andThen (gPut i a env) fun _ e1 => andThen (gPut j b e1) fun _ e2 => some (.nx, e2)
  | _ => none
@[simp] theorem par2_e (i j : Nat) (a b : Dat) (env : Env) : par2 i j [a, b] env = andThen (gPut i a env) fun _ e1 => andThen (gPut j b e1) fun _ e2 => some (.nx, e2) := rfl
@[simp] theorem a_par (i j : Nat) (fs : EM (List R)) (env : Env) : sPar i j fs env = andThen (fs env) fun rs e1 => andThen (eForces rs e1) fun ds e2 => par2 i j ds e2 := by
  show andThen (fs env) _ = _
  congr 1
  funext rs e1
  show andThen (eForces rs e1) _ = _
  congr 1
  funext ds e2
  match ds with
  | [] => rfl
  | [a] => rfl
  | [a, b] => rfl
  | a :: b :: c :: ds => rfl
@[simp] theorem a_asg (f : EM R) (g : Dat → EM Unit) (env : Env) : sAsg f g env = andThen (f env) fun r e1 => andThen (eForce r e1) fun d e2 => andThen (g d e2) fun _ e3 => some (.nx, e3) := rfl
@[simp] theorem a_cut (f : EM R) (lo hi : EM (Option Int)) (env : Env) : eCut f lo hi env = andThen (f env) fun r e1 => andThen (lo e1) fun l e2 => andThen (hi e2) fun h e3 => andThen (eLook r e3) fun d e4 => andThen (withEnv (dCut d l h) e4) fun o e5 => some (o.r, e5) := rfl
@[simp] theorem a_onone (env : Env) : oNone env = some (none, env) := rfl
def intO (d : Dat) (env : Env) : Option (Option Int × Env) := match d with
  | .int i => some (some i, env)
  | _ => none
@[simp] theorem intO_i (i : Int) (env : Env) : intO (.int i) env = some (some i, env) := rfl
@[simp] theorem a_oint (f : EM R) (env : Env) : oInt f env = andThen (f env) fun r e1 => andThen (eLook r e1) intO := by
  show andThen (f env) _ = _
  congr 1
  funext r e1
  show andThen (eLook r e1) _ = _
  congr 1
  funext d e2
  cases d <;> rfl
@[simp] theorem a_sput (j : Nat) (fi fe : EM R) (env : Env) : sPut j fi fe env = andThen (fe env) fun r e1 => andThen (eForce r e1) fun d e2 => andThen (eVar j e2) fun _ e3 => andThen (fi e3) fun k e4 => andThen (eLook k e4) fun kd e5 => putAt j kd d e5 := rfl
def putL (s : Slot) (j : Nat) (i : Int) (d : Dat) (env : Env) : Option (O × Env) := if s.wr = true then (match s.dat with
      | .lst ds => match ixN ds.length i with
        | some n => some (.nx, env.set j (some (s.put (.lst (ds.set n d)))))
        | none => none
      | _ => none) else none
def putO (o : Option (Option Slot)) (j : Nat) (i : Int) (d : Dat) (env : Env) : Option (O × Env) := match o with
  | some (some s) => putL s j i d env
  | _ => none
@[simp] theorem putO_s (s : Slot) (j : Nat) (i : Int) (d : Dat) (env : Env) : putO (some (some s)) j i d env = putL s j i d env := rfl
@[simp] theorem a_putAt (j : Nat) (i : Int) (d : Dat) (env : Env) : putAt j (.int i) d env = putO env[j]? j i d env := by
  unfold putAt putO putL
  cases env[j]? with
  | none => rfl
  | some o => cases o <;> rfl
def putX (ds : List Dat) (o : Option Nat) (j : Nat) (f : Dat → Slot) (d : Dat) (env : Env) : Option (O × Env) := match o with
  | some n => some (.nx, env.set j (some (f (.lst (ds.set n d)))))
  | none => none
@[simp] theorem putX_s (ds : List Dat) (n : Nat) (j : Nat) (f : Dat → Slot) (d : Dat) (env : Env) : putX ds (some n) j f d env = some (.nx, env.set j (some (f (.lst (ds.set n d))))) := rfl
@[simp] theorem putL_m (ds : List Dat) (j : Nat) (i : Int) (d : Dat) (env : Env) : putL (.mtb (.lst ds)) j i d env = putX ds (ixN ds.length i) j .mtb d env := by
  show (match ixN ds.length i with
    | some n => _
    | none => _) = _
  cases ixN ds.length i <;> rfl
@[simp] theorem putL_o (ds : List Dat) (j : Nat) (i : Int) (d : Dat) (env : Env) : putL (.own (.lst ds)) j i d env = putX ds (ixN ds.length i) j .own d env := by
  show (match ixN ds.length i with
    | some n => _
    | none => _) = _
  cases ixN ds.length i <;> rfl
/-! runs and calls -/
def outE (o : Option R) (env : Env) (e1 : Env) : Option (R × Env) := match o with
  | some r => some (r, merge env e1)
  | none => none
@[simp] theorem outE_s (r : R) (env e1 : Env) : outE (some r) env e1 = some (r, merge env e1) := rfl
def endB (env : Env) (o : O) (e1 : Env) : Option (R × Env) := match o with
  | .rt r => outE (out e1 r) env e1
  | .nx => some (.val .non, merge env e1)
  | _ => none
@[simp] theorem endB_r (env : Env) (r : R) (e1 : Env) : endB env (.rt r) e1 = outE (out e1 r) env e1 := rfl
@[simp] theorem endB_n (env : Env) (e1 : Env) : endB env .nx e1 = some (.val .non, merge env e1) := rfl
def slotR (o : Option (Option Slot)) : Option R := match o with
  | some (some (.val d)) => some (.val d)
  | some (some (.own d)) => some (.new d)
  | _ => none
@[simp] theorem slotR_v (d : Dat) : slotR (some (some (.val d))) = some (.val d) := rfl
@[simp] theorem slotR_o (d : Dat) : slotR (some (some (.own d))) = some (.new d) := rfl
@[simp] theorem out_v (d : Dat) (env : Env) : out env (.val d) = some (.val d) := rfl
@[simp] theorem out_n (d : Dat) (env : Env) : out env (.new d) = some (.new d) := rfl
@[simp] theorem out_b (i : Nat) (env : Env) : out env (.bor i) = slotR env[i]? := rfl
theorem a_run (n np : Nat) (body : EM O) (env : Env) : runF n np body env = if noOwnB env = true ∧ env.length = np then andThen (body (env ++ List.replicate (n - env.length) none)) (endB env) else none := by
  unfold runF
  split
  · unfold runB
    cases body (env ++ List.replicate (n - env.length) none) with
    | none => rfl
    | some p =>
      obtain ⟨o, e1⟩ := p
      cases o with
      | nx => rfl
      | rt r =>
        show (out e1 r).map _ = outE (out e1 r) env e1
        cases out e1 r <;> rfl
      | _ => rfl
  · rfl
@[simp] theorem mg_nil (b : Env) : merge [] b = [] := rfl
@[simp] theorem mg_v (d : Dat) (es fs : Env) (f : Option Slot) : merge (some (.val d) :: es) (f :: fs) = some (.val d) :: merge es fs := rfl
@[simp] theorem mg_m (d : Dat) (es fs : Env) (f : Option Slot) : merge (some (.mtb d) :: es) (f :: fs) = f :: merge es fs := rfl
def callO (o : Option (R × Env)) (env : Env) : Option (R × Env) := match o with
  | some (.val d, _) => some (.val d, env)
  | some (.new d, _) => some (.new d, env)
  | _ => none
@[simp] theorem callO_v (d : Dat) (e env : Env) : callO (some (.val d, e)) env = some (.val d, env) := rfl
@[simp] theorem callO_n (d : Dat) (e env : Env) : callO (some (.new d, e)) env = some (.new d, env) := rfl
@[simp] theorem a_callV (F : EM R) (fs : EM (List R)) (env : Env) : eCallV F fs env = andThen (fs env) fun rs e1 => andThen (eForces rs e1) fun ds e2 => callO (F (ds.map fun d => some (.val d))) e2 := by
  show andThen (fs env) _ = _
  refine congrArg _ (funext fun rs => funext fun e1 => ?_)
  show andThen (eForces rs e1) _ = _
  refine congrArg _ (funext fun ds => funext fun e2 => ?_)
  show (match F (ds.map fun d => some (Slot.val d)) with
    | some (.val d, _) => some (R.val d, e2)
    | some (.new d, _) => some (R.new d, e2)
    | _ => none) = callO (F (ds.map fun d => some (Slot.val d))) e2
  generalize F (ds.map fun d => some (Slot.val d)) = x
  unfold callO
  rfl
def callMO (o : Option (R × Env)) (s : Slot) (j : Nat) (env : Env) : Option (R × Env) := match o with
  | some (.val d, some (.mtb d') :: _) => some (.val d, env.set j (some (s.put d')))
  | some (.new d, some (.mtb d') :: _) => some (.new d, env.set j (some (s.put d')))
  | _ => none
@[simp] theorem callMO_v (d d' : Dat) (e : Env) (s : Slot) (j : Nat) (env : Env) : callMO (some (.val d, some (.mtb d') :: e)) s j env = some (.val d, env.set j (some (s.put d'))) := rfl
@[simp] theorem callMO_n (d d' : Dat) (e : Env) (s : Slot) (j : Nat) (env : Env) : callMO (some (.new d, some (.mtb d') :: e)) s j env = some (.new d, env.set j (some (s.put d'))) := rfl
def callMS (F : EM R) (o : Option (Option Slot)) (j : Nat) (ds : List Dat) (env : Env) : Option (R × Env) := match o with
  | some (some s) => if s.wr = true then callMO (F (some (.mtb s.dat) :: ds.map fun d => some (.val d))) s j env else none
  | _ => none
@[simp] theorem callMS_m (F : EM R) (d : Dat) (j : Nat) (ds : List Dat) (env : Env) : callMS F (some (some (.mtb d))) j ds env = callMO (F (some (.mtb d) :: ds.map fun d => some (.val d))) (.mtb d) j env := rfl
@[simp] theorem callMS_o (F : EM R) (d : Dat) (j : Nat) (ds : List Dat) (env : Env) : callMS F (some (some (.own d))) j ds env = callMO (F (some (.mtb d) :: ds.map fun d => some (.val d))) (.own d) j env := rfl
def callMR (F : EM R) (rs : List R) (env : Env) : Option (R × Env) := match rs with
  | .bor j :: rs => andThen (eForces rs env) fun ds e2 => callMS F e2[j]? j ds e2
  | [.new d0] => callO (F [some (.mtb d0)]) env
  | _ => none
@[simp] theorem callMR_b (F : EM R) (j : Nat) (rs : List R) (env : Env) : callMR F (.bor j :: rs) env = andThen (eForces rs env) fun ds e2 => callMS F e2[j]? j ds e2 := rfl
@[simp] theorem callMR_n (F : EM R) (d0 : Dat) (env : Env) : callMR F [.new d0] env = callO (F [some (.mtb d0)]) env := rfl
@[simp] theorem a_callM (F : EM R) (fs : EM (List R)) (env : Env) : eCallM F fs env = andThen (fs env) fun rs e1 => callMR F rs e1 := by
  show andThen (fs env) _ = _
  refine congrArg _ (funext fun rs => funext fun e1 => ?_)
  match rs with
  | [] => rfl
  | .bor j :: rs =>
    show andThen (eForces rs e1) _ = andThen (eForces rs e1) _
    refine congrArg _ (funext fun ds => funext fun e2 => ?_)
    show (match e2[j]? with
      | some (some s) => if s.wr = true then (match F (some (.mtb s.dat) :: ds.map fun d => some (.val d)) with
            | some (.val d, some (.mtb d') :: _) => some (R.val d, e2.set j (some (s.put d')))
            | some (.new d, some (.mtb d') :: _) => some (R.new d, e2.set j (some (s.put d')))
            | _ => none) else none
      | _ => none) = callMS F e2[j]? j ds e2
    unfold callMS callMO
    rfl
  | [.val d] => rfl
  | .val d :: r :: rs => rfl
  | [.new d0] =>
    show (match F [some (.mtb d0)] with
      | some (.val d, _) => some (R.val d, e1)
      | some (.new d, _) => some (R.new d, e1)
      | _ => none) = callO (F [some (.mtb d0)]) e1
    unfold callO
    rfl
  | .new d :: r :: rs => rfl
end
/-! ### comprehensions whose items change nothing -/
theorem wipe1 {i : Nat} {env : Env} {d : Dat} (h : env[i]? = some none) : eWipe [i] (env.set i (some (.val d))) = some ((), env) := by
  have hi : i < env.length := (List.getElem?_eq_some_iff.mp h).1
  show (if isMtb (env.set i (some (.val d)))[i]? = false then some ((), (env.set i (some (.val d))).set i none) else none) = _
  rw [List.getElem?_set_self hi, m_v, if_pos rfl, List.set_set]
  have : env.set i none = env := by
    apply List.ext_getElem?
    intro j
    by_cases hj : i = j
    · subst hj
      rw [List.getElem?_set_self hi, h]
    · rw [List.getElem?_set_ne hj]
  rw [this]
theorem loopC_each {i : Nat} {f : EM R} {env : Env} {hf : Dat → Dat} {hr : Dat → R} (h : env[i]? = some none) : ∀ (ds acc : List Dat), (∀ d ∈ ds, f (env.set i (some (.val d))) = some (hr d, env.set i (some (.val d))) ∧ eForce (hr d) (env.set i (some (.val d))) = some (hf d, env.set i (some (.val d)))) → acc.length + ds.length ≤ 100000 →
    loopC (gPut i) (eRet true) f [i] ds acc env = some (acc ++ ds.map hf, env)
  | [], acc, _, _ => by
    show some (acc, env) = _
    simp
  | d :: ds, acc, hd, hl => by
    have hi : i < env.length := (List.getElem?_eq_some_iff.mp h).1
    obtain ⟨h1, h2⟩ := hd d (by simp)
    have hp : gPut i d env = some ((), env.set i (some (.val d))) := by
      rw [a_put, if_pos ⟨hi, by rw [h]; rfl⟩]
    show eBind (gPut i d) _ env = _
    rw [a_bind, hp, at_some, a_bind, a_ret, at_some, if_pos rfl, a_bind, h1, at_some, a_bind, h2, at_some, a_bind, wipe1 h, at_some, if_pos (by simp at hl; omega)]
    rw [loopC_each h ds (acc ++ [hf d]) (fun e he => hd e (by simp [he])) (by simp at hl ⊢; omega)]
    simp
theorem eLc_each {i : Nat} {it : EM (List Dat)} {f : EM R} {env env1 : Env} {ds : List Dat} (hf : Dat → Dat) (hr : Dat → R) (hi : it env = some (ds, env1)) (h : env1[i]? = some none) (hl : ds.length ≤ 100000)
    (hd : ∀ d ∈ ds, f (env1.set i (some (.val d))) = some (hr d, env1.set i (some (.val d))) ∧ eForce (hr d) (env1.set i (some (.val d))) = some (hf d, env1.set i (some (.val d)))) :
    eLc it (gPut i) (eRet true) f [i] env = some (.new (.lst (ds.map hf)), env1) := by
  unfold eLc
  rw [a_bind, hi, at_some]
  have hfr : freeAt [i] env1 = true := by
    simp [freeAt, h]
  rw [if_pos hfr, a_bind, loopC_each h ds [] hd (by simpa using hl)]
  rfl
theorem bools_map (p : Dat → Bool) : ∀ ds : List Dat, bools (ds.map fun d => .bl (p d)) = some (ds.map p)
  | [] => rfl
  | d :: ds => by
    show (bools (ds.map fun d => .bl (p d))).map _ = _
    rw [bools_map p ds]
    rfl
theorem all_map (p : Dat → Bool) (ds : List Dat) : dAll [.lst (ds.map fun d => .bl (p d))] = some (false, .bl (ds.all p)) := by
  show (bools (ds.map fun d => .bl (p d))).map _ = _
  rw [bools_map]
  simp [List.all_map]
@[simp] theorem a_iany (f : EM R) (env : Env) : iAny f env = andThen (f env) fun r e1 => andThen (eForce r e1) fun d e2 => withEnv (itemsD d) e2 := rfl
end DL
/-! Mirrors: numbers, names, terms. -/
namespace Prg
open PySem PySem.Spec L2 DL
open PyProof.Rows hiding St
/-- no object, no type -/
def pl (d : Dat) : Bool := (tyN d).isSome
def numD : Dat → Bool
  | .int _ => true
  | _ => false
def strD : Dat → Bool
  | .str _ => true
  | _ => false
def tupD : Dat → Bool
  | .tup _ => true
  | _ => false
def letterC (c : Nat) : Bool := decide (97 ≤ c ∧ c < 123)
def nameS (z : Str) : Bool := decide (1 ≤ z.length ∧ z.length ≤ 8) && z.cps.toList.all letterC
def nmD : Dat → Bool
  | .str z => nameS z
  | _ => false
def tmD (N : List Str) : Dat → Bool
  | .int _ => true
  | .str z => N.any fun y => y == z
  | _ => false
/-- texts that are not too long to be measured -/
def szD : Dat → Bool
  | .str z => decide (z.length ≤ 100000)
  | _ => true
theorem isInt (d : Dat) (h : pl d = true) : dIsi [d, .ty "int"] = some (false, .bl (numD d || (match d with | .bl _ => true | _ => false))) := by
  cases d <;> first | rfl | (cases h; done)
theorem isBool (d : Dat) (h : pl d = true) : dIsi [d, .ty "bool"] = some (false, .bl (match d with | .bl _ => true | _ => false)) := by
  cases d <;> first | rfl | (cases h; done)
theorem isStr (d : Dat) (h : pl d = true) : dIsi [d, .ty "str"] = some (false, .bl (strD d)) := by
  cases d <;> first | rfl | (cases h; done)
theorem isTup (d : Dat) (h : pl d = true) : dIsi [d, .ty "tuple"] = some (false, .bl (tupD d)) := by
  cases d <;> first | rfl | (cases h; done)
theorem F_num (d : Dat) (h : pl d = true) : F_is_number [some (.val d)] = some (.val (.bl (numD d)), [some (.val d)]) := by
  cases d <;> first | rfl | (cases h; done)
theorem F_Lnum (d : Dat) (h : pl d = true) : F_L_is_number [some (.val d)] = some (.val (.bl (numD d)), [some (.val d)]) := by
  cases d <;> first | rfl | (cases h; done)
theorem allNames (z : Str) (h : z.length ≤ 100000) : True := trivial
end Prg
/-! is_name, is_term of both sides. -/
namespace Prg
open PySem PySem.Spec L2 DL
open PyProof.Rows hiding St
theorem occ_one (z : Str) (c : Nat) : occ z ⟨#[c]⟩ = decide (c ∈ z.cps.toList) := (PySem.StrLaws.found_one z c).symm ▸ rfl
theorem abc_has (c : Nat) : decide (c ∈ (Str.ofString "abcdefghijklmnopqrstuvwxyz").cps.toList) = letterC c := by
  have e : (Str.ofString "abcdefghijklmnopqrstuvwxyz").cps.toList = List.range' 97 26 := by decide +kernel
  rw [e]
  unfold letterC
  congr 1
  simp [List.mem_range'_1]
theorem az_le (c : Nat) : ((!decide ((⟨#[c]⟩ : Str).cps.toList < (Str.ofString "a").cps.toList)) && (!decide ((Str.ofString "z").cps.toList < (⟨#[c]⟩ : Str).cps.toList))) = letterC c := by
  show ((!decide ([c] < [97])) && (!decide ([122] < [c]))) = letterC c
  have h1 : ([c] < [97]) ↔ c < 97 := by rw [List.cons_lt_cons_iff]; simp
  have h2 : ([122] < [c]) ↔ 122 < c := by rw [List.cons_lt_cons_iff]; simp
  unfold letterC
  rw [Bool.eq_iff_iff]
  simp only [Bool.and_eq_true, Bool.not_eq_true', decide_eq_false_iff_not, decide_eq_true_eq, h1, h2]
  omega
theorem all_chs {p : Nat → Bool} {f : Dat → Bool} (h : ∀ c, f (chS c) = p c) (cs : List Nat) : (cs.map chS).all f = cs.all p := by
  induction cs with
  | nil => rfl
  | cons c cs ih => simp [h, ih]
theorem mem_chs {cs : List Nat} {d : Dat} (h : d ∈ cs.map chS) : ∃ c, d = chS c := by
  obtain ⟨c, _, e⟩ := List.mem_map.mp h
  exact ⟨c, e.symm⟩
def sgD (d : Dat) : Bool := match d with
  | .str ⟨#[c]⟩ => letterC c
  | _ => false
theorem F_name (d : Dat) (h : pl d = true) (hz : szD d = true) : F_is_name [some (.val d)] = some (.val (.bl (nmD d)), [some (.val d)]) := by
  cases d with
  | str z =>
    have hz' : z.length ≤ 100000 := by simpa [szD] using hz
    unfold F_is_name fb_is_name
    obtain ⟨L, comp, hall⟩ : ∃ L, eLc (iAny (eVar 0)) (gPut 1) (eRet true) (eChain dLe dLe (eCon (.str (Str.ofString "a"))) (eVar 1) (eCon (.str (Str.ofString "z")))) [1] [some (.val (.str z)), none] = some (.new (.lst L), [some (.val (.str z)), none]) ∧ dAll [.lst L] = some (false, .bl (z.cps.toList.all letterC)) := by
      refine ⟨(z.cps.toList.map chS).map fun d => .bl (sgD d), ?_, by rw [all_map, all_chs (p := letterC) (fun c => rfl)]⟩
      refine eLc_each (fun d => .bl (sgD d)) (fun d => .val (.bl (sgD d))) (by simp [itemsD]) rfl (by rw [List.length_map, Array.length_toList]; exact hz') fun d hd => ?_
      obtain ⟨c, rfl⟩ := mem_chs hd
      have e : sgD (chS c) = _ := (az_le c).symm
      rw [e]
      simp only [a_chain, a_con, at_some, a_var, List.set_cons_succ, List.set_cons_zero, List.getElem?_cons_succ, List.getElem?_cons_zero, slotV_s, a_look, l_val, we_some, l_bor, slotD_s, chS, dLe, chO_t]
      cases (decide ((⟨#[c]⟩ : Str).cps.toList < (Str.ofString "a").cps.toList)) <;> simp
    by_cases h1 : 1 ≤ z.length
    · by_cases h2 : z.length ≤ 8
      · have hn : nmD (.str z) = z.cps.toList.all letterC := by
          show (decide (1 ≤ z.length ∧ z.length ≤ 8) && _) = _
          rw [decide_eq_true ⟨h1, h2⟩, Bool.true_and]
        have h1' : (1 : Int) ≤ (z.length : Int) := by omega
        have h2' : (z.length : Int) ≤ 8 := by omega
        rw [hn]
        simp [a_run, noOwnB, isStr _ h, strD, truD, dLen, hz', dLe, h1', h2', comp, hall]
      · have hn : nmD (.str z) = false := by
          show (decide (1 ≤ z.length ∧ z.length ≤ 8) && _) = _
          rw [decide_eq_false (by omega), Bool.false_and]
        have h1' : (1 : Int) ≤ (z.length : Int) := by omega
        have h2' : ¬ ((z.length : Int) ≤ 8) := by omega
        rw [hn]
        simp [a_run, noOwnB, isStr _ h, strD, truD, dLen, hz', dLe, h1', h2']
    · have hn : nmD (.str z) = false := by
        show (decide (1 ≤ z.length ∧ z.length ≤ 8) && _) = _
        rw [decide_eq_false (by omega), Bool.false_and]
      have h1' : z.length = 0 := by omega
      rw [hn]
      simp [a_run, noOwnB, isStr _ h, strD, truD, dLen, dLe, h1']
  | _ => first | (cases h; done) | rfl
theorem in_strs (z : Str) : ∀ N : List Str, inDs (.str z) (N.map .str) = some (N.any fun y => y == z)
  | [] => rfl
  | y :: N => by
    have e : eqQ (.str y) (.str z) = some (y == z) := by
      simp [eqQ, depD, noObj, eqD]
    show (match eqQ (.str y) (.str z), inDs (.str z) (N.map .str) with
      | some a, some b => some (a || b)
      | _, _ => none) = _
    rw [e, in_strs z N]
    rfl
theorem F_term (N : List Str) (s : List Dat) (d : Dat) (h : pl d = true) : F_is_term [some (.val (.tup (.tup (N.map .str) :: s))), some (.val d)] = some (.val (.bl (tmD N d)), [some (.val (.tup (.tup (N.map .str) :: s))), some (.val d)]) := by
  unfold F_is_term fb_is_term
  cases d <;> first | (cases h; done) | simp [a_run, noOwnB, F_num, h, numD, truD, isStr _ h, strD, dIn, in_strs, tmD, dIx, atI, ixN]
end Prg
/-! The law's is_change, is_say, is_body. -/
namespace Prg
open PySem PySem.Spec L2 DL
open PyProof.Rows hiding St
def okF : Dat → Prop
  | .non => True
  | .bl _ => True
  | .int _ => True
  | .str z => z.length ≤ 1000
  | .dct _ ds => depDs ds ≤ 3 ∧ noObjs ds = true
  | _ => False
/-- data no deeper than that, none too long -/
def okD : Nat → Dat → Prop
  | 0, d => okF d
  | n + 1, .tup ds => ds.length ≤ 1000 ∧ ∀ x ∈ ds, okD n x
  | n + 1, .lst ds => ds.length ≤ 1000 ∧ ∀ x ∈ ds, okD n x
  | _ + 1, d => okF d
theorem okD.facts : ∀ {n : Nat} {d : Dat}, okD n d → pl d = true ∧ szD d = true ∧ noObj d = true ∧ depD d ≤ n + 4
  | 0, d, h => by
    cases d with
    | str z =>
      have : z.length ≤ 1000 := h
      refine ⟨rfl, ?_, rfl, Nat.zero_le _⟩
      simp only [szD, decide_eq_true_eq]
      omega
    | dct ks ds => exact ⟨rfl, rfl, h.2, by rw [depD]; have := h.1; omega⟩
    | non => exact ⟨rfl, rfl, rfl, Nat.zero_le _⟩
    | bl => exact ⟨rfl, rfl, rfl, Nat.zero_le _⟩
    | int => exact ⟨rfl, rfl, rfl, Nat.zero_le _⟩
    | _ => exact h.elim
  | n + 1, .tup ds, h => by
    have key : ∀ es : List Dat, (∀ x ∈ es, okD n x) → noObjs es = true ∧ depDs es ≤ n + 4 := fun es => by
      induction es with
      | nil => intro _; exact ⟨rfl, Nat.zero_le _⟩
      | cons e es ih =>
        intro hx
        have h1 := okD.facts (hx e (by simp))
        have h2 := ih fun x hx' => hx x (by simp [hx'])
        exact ⟨by rw [noObjs, h1.2.2.1, h2.1]; rfl, by rw [depDs]; exact Nat.max_le.mpr ⟨h1.2.2.2, h2.2⟩⟩
    have := key ds h.2
    exact ⟨rfl, rfl, this.1, by rw [depD]; omega⟩
  | n + 1, .lst ds, h => by
    have key : ∀ es : List Dat, (∀ x ∈ es, okD n x) → noObjs es = true ∧ depDs es ≤ n + 4 := fun es => by
      induction es with
      | nil => intro _; exact ⟨rfl, Nat.zero_le _⟩
      | cons e es ih =>
        intro hx
        have h1 := okD.facts (hx e (by simp))
        have h2 := ih fun x hx' => hx x (by simp [hx'])
        exact ⟨by rw [noObjs, h1.2.2.1, h2.1]; rfl, by rw [depDs]; exact Nat.max_le.mpr ⟨h1.2.2.2, h2.2⟩⟩
    have := key ds h.2
    exact ⟨rfl, rfl, this.1, by rw [depD]; omega⟩
  | n + 1, .non, _ => ⟨rfl, rfl, rfl, Nat.zero_le _⟩
  | n + 1, .bl _, _ => ⟨rfl, rfl, rfl, Nat.zero_le _⟩
  | n + 1, .int _, _ => ⟨rfl, rfl, rfl, Nat.zero_le _⟩
  | n + 1, .str z, h => by
    have : z.length ≤ 1000 := h
    refine ⟨rfl, ?_, rfl, Nat.zero_le _⟩
    simp only [szD, decide_eq_true_eq]
    omega
  | n + 1, .dct ks ds, h => ⟨rfl, rfl, h.2, by rw [depD]; have := h.1; omega⟩
  | n + 1, .ty _, h => h.elim
  | n + 1, .obj _ _ _, h => h.elim
theorem okD.pl {n : Nat} {d : Dat} (h : okD n d) : pl d = true := h.facts.1
theorem okD.sz {n : Nat} {d : Dat} (h : okD n d) : szD d = true := h.facts.2.1
/-- a text, that one -/
def isS (s : Str) : Dat → Bool
  | .str z => s == z
  | _ => false
theorem eqD_s (s : Str) {d : Dat} (h : pl d = true) : eqD (.str s) d = some (isS s d) := by
  cases d <;> first | (cases h; done) | simp [eqD, isS]
theorem eqD_s' (s : Str) {d : Dat} (h : pl d = true) : eqD d (.str s) = some (isS s d) := by
  cases d with
  | str z =>
    simp only [eqD, isS]
    rw [Bool.beq_comm]
  | _ => first | (cases h; done) | simp [eqD, isS]
theorem eqQ_s {n : Nat} (s : Str) {d : Dat} (h : okD n d) : eqQ (.str s) d = some (isS s d) := by
  unfold eqQ
  rw [if_pos ⟨Nat.zero_le _, rfl, h.facts.2.2.1⟩]
  exact eqD_s s h.pl
theorem eqQ_s' {n : Nat} (s : Str) {d : Dat} (h : okD n d) (hn : n ≤ 40) : eqQ d (.str s) = some (isS s d) := by
  unfold eqQ
  rw [if_pos ⟨by have := h.facts.2.2.2; omega, h.facts.2.2.1, rfl⟩]
  exact eqD_s' s h.pl
@[simp] theorem eqQ_ii (i j : Int) : eqQ (.int i) (.int j) = some (i == j) := by
  simp [eqQ, depD, noObj, eqD]
@[simp] theorem eqQ_ss (i j : Str) : eqQ (.str i) (.str j) = some (i == j) := by
  simp [eqQ, depD, noObj, eqD]
def inF (F : List Str) (d : Dat) : Bool := F.any fun s => isS s d
theorem inDs_F {n : Nat} {d : Dat} (h : okD n d) : ∀ F : List Str, inDs d (F.map .str) = some (inF F d)
  | [] => rfl
  | s :: F => by
    show (match eqQ (.str s) d, inDs d (F.map .str) with
      | some a, some b => some (a || b)
      | _, _ => none) = _
    rw [eqQ_s s h, inDs_F h F]
    rfl
theorem dIn_F {n : Nat} {d : Dat} (h : okD n d) (F : List Str) : dIn d (.tup (F.map .str)) = some (false, .bl (inF F d)) := by
  have e : dIn d (.tup (F.map .str)) = (inDs d (F.map .str)).map fun k => (false, .bl k) := by
    cases d <;> rfl
  rw [e, inDs_F h]
  rfl
theorem dNotIn_F {n : Nat} {d : Dat} (h : okD n d) (F : List Str) : dNotIn d (.tup (F.map .str)) = some (false, .bl (!inF F d)) := by
  have e : dNotIn d (.tup (F.map .str)) = (inDs d (F.map .str)).map fun k => (false, .bl (!k)) := by
    cases d <;> rfl
  rw [e, inDs_F h]
  rfl
def recD (F N : List Str) : Dat → Bool
  | .tup ts => ts.length == F.length && ts.all (tmD N)
  | _ => false
@[simp] theorem tupD_t (ds : List Dat) : tupD (.tup ds) = true := rfl
def chD (F N : List Str) : Dat → Bool
  | .tup [x, t] => isS (Str.ofString "drop") x && tmD N t
  | .tup [x, t, v] => isS (Str.ofString "make") x && (tmD N t && recD F N v)
  | .tup [x, t, f, u] => isS (Str.ofString "set") x && (tmD N t && (inF F f && tmD N u))
  | _ => false
theorem chD_no {F N : List Str} {d : Dat} (h : tupD d = false) : chD F N d = false := by
  cases d <;> first | rfl | cases h
theorem chD_len {F N : List Str} {ds : List Dat} (h : ds.length ≠ 2 ∧ ds.length ≠ 3 ∧ ds.length ≠ 4) : chD F N (.tup ds) = false := by
  match ds, h with
  | [], _ => rfl
  | [_], _ => rfl
  | [_, _], h => exact absurd rfl h.1
  | [_, _, _], h => exact absurd rfl h.2.1
  | [_, _, _, _], h => exact absurd rfl h.2.2
  | _ :: _ :: _ :: _ :: _ :: _, _ => rfl
theorem okD.at {n : Nat} {ds : List Dat} (h : okD (n + 1) (.tup ds)) : ds.length ≤ 1000 ∧ ∀ x ∈ ds, okD n x := h
theorem okD.up : ∀ {n : Nat} {d : Dat}, okD n d → tupD d = true → ∃ m ds, n = m + 1 ∧ d = .tup ds
  | 0, d, h, t => by cases d <;> first | exact h.elim | cases t
  | n + 1, d, h, t => by cases d <;> first | exact ⟨n, _, rfl, rfl⟩ | cases t
def syD (F N : List Str) (c w : Dat) : Bool := nmD w && (match c with
  | .tup cs => cs.all (chD F N)
  | _ => false)
end Prg
/-! The law's is_body. -/
namespace Prg
open PySem PySem.Spec L2 DL
open PyProof.Rows hiding St
/-- a number or a text -/
def kyD : Dat → Bool
  | .int _ => true
  | .str _ => true
  | _ => false
def eqB (s d : Dat) : Bool := match eqD s d with
  | some b => b
  | none => false
def inT (T : List Dat) (d : Dat) : Bool := T.any fun s => eqB s d
theorem kyD_tm {N : List Str} {d : Dat} (h : tmD N d = true) : kyD d = true := by
  cases d <;> first | rfl | cases h
theorem eqQ_ky {s d : Dat} (h1 : kyD s = true) (h2 : kyD d = true) : eqQ s d = some (eqB s d) := by
  cases s <;> first | (cases h1; done) | (cases d <;> first | (cases h2; done) | simp [eqQ, depD, noObj, eqD, eqB])
theorem inDs_T {d : Dat} (h : kyD d = true) : ∀ T : List Dat, (∀ s ∈ T, kyD s = true) → inDs d T = some (inT T d)
  | [], _ => rfl
  | s :: T, hT => by
    show (match eqQ s d, inDs d T with
      | some a, some b => some (a || b)
      | _, _ => none) = _
    rw [eqQ_ky (hT s (by simp)) h, inDs_T h T fun x hx => hT x (by simp [hx])]
    rfl
theorem dNotIn_T {d : Dat} (h : kyD d = true) {T : List Dat} (hT : ∀ s ∈ T, kyD s = true) : dNotIn d (.lst T) = some (false, .bl (!inT T d)) := by
  have e : dNotIn d (.lst T) = (inDs d T).map fun k => (false, .bl (!k)) := by
    cases d <;> rfl
  rw [e, inDs_T h T hT]
  rfl
theorem dIn_N (z : Str) (N : List Str) : dIn (.str z) (.lst (N.map .str)) = some (false, .bl (N.any fun y => y == z)) := by
  have e : dIn (.str z) (.lst (N.map .str)) = (inDs (.str z) (N.map .str)).map fun k => (false, .bl k) := rfl
  rw [e, in_strs]
  rfl
def strOf : Dat → Str
  | .str z => z
  | _ => ⟨#[]⟩
def inN (N : List Str) (d : Dat) : Bool := N.any fun y => y == strOf d
theorem nmD_str {d : Dat} (h : nmD d = true) : d = .str (strOf d) := by
  cases d <;> first | rfl | cases h
def bodyD (F : List Str) : Nat → List Str → List Dat → Dat → Bool
  | n + 1, N, T, .tup (x :: ds) =>
    if isS (Str.ofString "say") x = true then (match ds with
      | [c, w] => syD F N c w
      | _ => false)
    else if isS (Str.ofString "has") x = true then (match ds with
      | [t, a, b] => tmD N t && (bodyD F n N (T ++ [t]) a && bodyD F n N T b)
      | _ => false)
    else if isS (Str.ofString "is") x = true then (match ds with
      | [t, f, u, a, b] => (tmD N t && tmD N u) && ((inT T t && inF F f) && (bodyD F n N T a && bodyD F n N T b))
      | _ => false)
    else if isS (Str.ofString "let") x = true then (match ds with
      | [y, t, f, a] => (nmD y && !inN N y) && (tmD N t && (inT T t && (inF F f && bodyD F n (N ++ [strOf y]) T a)))
      | _ => false)
    else false
  | _, _, _, _ => false
abbrev eB (F N : List Str) (T : List Dat) (d : Dat) : DL.Env := [some (.val (.tup (F.map .str))), some (.val d), some (.val (.lst (N.map .str))), some (.val (.lst T))]
theorem isS_str {s : Str} {x : Dat} (h : isS s x = true) : x = .str s := by
  cases x with
  | str z =>
    have : s = z := by simpa [isS] using h
    rw [this]
  | _ => cases h
theorem len_ne (n k : Nat) (h : n ≠ k) : ((n : Int) == (k : Int)) = false := by
  rw [beq_eq_false_iff_ne]
  omega
end Prg
/-! The program's is_change, is_say, is_body. -/
namespace Prg
open PySem PySem.Spec L2 DL
open PyProof.Rows hiding St
theorem at0 {α : Type} (x : α) (ds : List α) : atI (x :: ds) 0 = some x := by
  simp [atI, ixN]
theorem at1 {α : Type} (x y : α) (ds : List α) : atI (x :: y :: ds) 1 = some y := by
  have h : (1 : Int) < ((x :: y :: ds).length : Int) := by simp; omega
  simp only [atI, ixN, if_pos h]
  rfl
theorem at2 {α : Type} (x y z : α) (ds : List α) : atI (x :: y :: z :: ds) 2 = some z := by
  have h : (2 : Int) < ((x :: y :: z :: ds).length : Int) := by simp; omega
  simp only [atI, ixN, if_pos h]
  rfl
theorem at3 {α : Type} (x y z w : α) (ds : List α) : atI (x :: y :: z :: w :: ds) 3 = some w := by
  have h : (3 : Int) < ((x :: y :: z :: w :: ds).length : Int) := by simp; omega
  simp only [atI, ixN, if_pos h]
  rfl
@[simp] theorem w_say_has : (Str.ofString "say" == Str.ofString "has") = false := by decide +kernel
@[simp] theorem w_say_is : (Str.ofString "say" == Str.ofString "is") = false := by decide +kernel
@[simp] theorem w_say_let : (Str.ofString "say" == Str.ofString "let") = false := by decide +kernel
@[simp] theorem w_say_make : (Str.ofString "say" == Str.ofString "make") = false := by decide +kernel
@[simp] theorem w_say_set : (Str.ofString "say" == Str.ofString "set") = false := by decide +kernel
@[simp] theorem w_say_drop : (Str.ofString "say" == Str.ofString "drop") = false := by decide +kernel
@[simp] theorem w_has_say : (Str.ofString "has" == Str.ofString "say") = false := by decide +kernel
@[simp] theorem w_has_is : (Str.ofString "has" == Str.ofString "is") = false := by decide +kernel
@[simp] theorem w_has_let : (Str.ofString "has" == Str.ofString "let") = false := by decide +kernel
@[simp] theorem w_has_make : (Str.ofString "has" == Str.ofString "make") = false := by decide +kernel
@[simp] theorem w_has_set : (Str.ofString "has" == Str.ofString "set") = false := by decide +kernel
@[simp] theorem w_has_drop : (Str.ofString "has" == Str.ofString "drop") = false := by decide +kernel
@[simp] theorem w_is_say : (Str.ofString "is" == Str.ofString "say") = false := by decide +kernel
@[simp] theorem w_is_has : (Str.ofString "is" == Str.ofString "has") = false := by decide +kernel
@[simp] theorem w_is_let : (Str.ofString "is" == Str.ofString "let") = false := by decide +kernel
@[simp] theorem w_is_make : (Str.ofString "is" == Str.ofString "make") = false := by decide +kernel
@[simp] theorem w_is_set : (Str.ofString "is" == Str.ofString "set") = false := by decide +kernel
@[simp] theorem w_is_drop : (Str.ofString "is" == Str.ofString "drop") = false := by decide +kernel
@[simp] theorem w_let_say : (Str.ofString "let" == Str.ofString "say") = false := by decide +kernel
@[simp] theorem w_let_has : (Str.ofString "let" == Str.ofString "has") = false := by decide +kernel
@[simp] theorem w_let_is : (Str.ofString "let" == Str.ofString "is") = false := by decide +kernel
@[simp] theorem w_let_make : (Str.ofString "let" == Str.ofString "make") = false := by decide +kernel
@[simp] theorem w_let_set : (Str.ofString "let" == Str.ofString "set") = false := by decide +kernel
@[simp] theorem w_let_drop : (Str.ofString "let" == Str.ofString "drop") = false := by decide +kernel
@[simp] theorem w_make_say : (Str.ofString "make" == Str.ofString "say") = false := by decide +kernel
@[simp] theorem w_make_has : (Str.ofString "make" == Str.ofString "has") = false := by decide +kernel
@[simp] theorem w_make_is : (Str.ofString "make" == Str.ofString "is") = false := by decide +kernel
@[simp] theorem w_make_let : (Str.ofString "make" == Str.ofString "let") = false := by decide +kernel
@[simp] theorem w_make_set : (Str.ofString "make" == Str.ofString "set") = false := by decide +kernel
@[simp] theorem w_make_drop : (Str.ofString "make" == Str.ofString "drop") = false := by decide +kernel
@[simp] theorem w_set_say : (Str.ofString "set" == Str.ofString "say") = false := by decide +kernel
@[simp] theorem w_set_has : (Str.ofString "set" == Str.ofString "has") = false := by decide +kernel
@[simp] theorem w_set_is : (Str.ofString "set" == Str.ofString "is") = false := by decide +kernel
@[simp] theorem w_set_let : (Str.ofString "set" == Str.ofString "let") = false := by decide +kernel
@[simp] theorem w_set_make : (Str.ofString "set" == Str.ofString "make") = false := by decide +kernel
@[simp] theorem w_set_drop : (Str.ofString "set" == Str.ofString "drop") = false := by decide +kernel
@[simp] theorem w_drop_say : (Str.ofString "drop" == Str.ofString "say") = false := by decide +kernel
@[simp] theorem w_drop_has : (Str.ofString "drop" == Str.ofString "has") = false := by decide +kernel
@[simp] theorem w_drop_is : (Str.ofString "drop" == Str.ofString "is") = false := by decide +kernel
@[simp] theorem w_drop_let : (Str.ofString "drop" == Str.ofString "let") = false := by decide +kernel
@[simp] theorem w_drop_make : (Str.ofString "drop" == Str.ofString "make") = false := by decide +kernel
@[simp] theorem w_drop_set : (Str.ofString "drop" == Str.ofString "set") = false := by decide +kernel
def sayD (F N : List Str) : List Dat → Bool
  | [c, w] => syD F N c w
  | _ => false
abbrev scD (N : List Str) (T : List Dat) : Dat := .tup [.tup (N.map .str), .tup T]
abbrev eC (F N : List Str) (T : List Dat) (d : Dat) : DL.Env := [some (.val (.tup (F.map .str))), some (.val (scD N T)), some (.val d)]
theorem P_term (N : List Str) (T : List Dat) (d : Dat) (h : pl d = true) : F_is_term [some (.val (scD N T)), some (.val d)] = some (.val (.bl (tmD N d)), [some (.val (scD N T)), some (.val d)]) := F_term N _ d h
theorem dIn_T {d : Dat} (h : kyD d = true) {T : List Dat} (hT : ∀ s ∈ T, kyD s = true) : dIn d (.tup T) = some (false, .bl (inT T d)) := by
  have e : dIn d (.tup T) = (inDs d T).map fun k => (false, .bl k) := by
    cases d <;> rfl
  rw [e, inDs_T h T hT]
  rfl
theorem P_tested (N : List Str) (T : List Dat) (hT : ∀ s ∈ T, kyD s = true) (d : Dat) (h : pl d = true) : F_is_tested [some (.val (scD N T)), some (.val d)] = some (.val (.bl (tmD N d && inT T d)), [some (.val (scD N T)), some (.val d)]) := by
  unfold F_is_tested fb_is_tested
  cases c : tmD N d with
  | false => simp [a_run, noOwnB, F_term, h, c, truD]
  | true => simp [a_run, noOwnB, F_term, h, c, truD, dIx, at0, at1, at2, at3, dIn_T (kyD_tm c) hT]
theorem dNotIn_N (z : Str) (N : List Str) : dNotIn (.str z) (.tup (N.map .str)) = some (false, .bl (!N.any fun y => y == z)) := by
  have e : dNotIn (.str z) (.tup (N.map .str)) = (inDs (.str z) (N.map .str)).map fun k => (false, .bl (!k)) := rfl
  rw [e, in_strs]
  rfl
theorem P_new (N : List Str) (T : List Dat) (d : Dat) (h : pl d = true) (hz : szD d = true) : F_is_new_name [some (.val (scD N T)), some (.val d)] = some (.val (.bl (nmD d && !inN N d)), [some (.val (scD N T)), some (.val d)]) := by
  unfold F_is_new_name fb_is_new_name
  cases c : nmD d with
  | false => simp [a_run, noOwnB, F_name, h, hz, c, truD]
  | true =>
    have e : dNotIn d (.tup (N.map .str)) = some (false, .bl (!inN N d)) := by
      rw [nmD_str c]
      exact dNotIn_N _ N
    simp [a_run, noOwnB, F_name, h, hz, c, truD, dIx, at0, at1, at2, at3, e]
theorem P_rec (F N : List Str) (T : List Dat) {n : Nat} {d : Dat} (h : okD n d) : F_are_record_terms (eC F N T d) = some (.val (.bl (recD F N d)), eC F N T d) := by
  unfold F_are_record_terms fb_are_record_terms
  cases ht : tupD d with
  | false =>
    have e : recD F N d = false := by cases d <;> first | rfl | cases ht
    rw [e]
    simp [a_run, noOwnB, isTup _ h.pl, ht, truD]
  | true =>
    obtain ⟨m, ts, rfl, rfl⟩ := h.up ht
    obtain ⟨hl, hx⟩ := h.at
    have comp : eLc (iAny (eVar 2)) (gPut 3) (eRet true) (eCallV F_is_term (eCons (eVar 1) (eOne (eVar 3)))) [3] (eC F N T (.tup ts) ++ [none]) = some (.new (.lst (ts.map fun d => .bl (tmD N d))), eC F N T (.tup ts) ++ [none]) := by
      refine eLc_each (fun d => .bl (tmD N d)) (fun d => .val (.bl (tmD N d))) (by simp [itemsD]) rfl (by omega) fun d hd => ?_
      simp [F_term, (hx d hd).pl]
    simp only [eC, scD, List.cons_append, List.nil_append] at comp
    have e2 : ((ts.length : Int) == (F.length : Int)) = (ts.length == F.length) := by
      rw [Bool.eq_iff_iff]
      simp
      omega
    cases c3 : (ts.length == F.length) <;>
    simp [a_run, noOwnB, isTup _ h.pl, truD, dLen, dNe, e2, c3, comp, all_map, recD]
theorem P_change (F N : List Str) (T : List Dat) {n : Nat} {d : Dat} (h : okD n d) (hn : n ≤ 40) : F_is_change (eC F N T d) = some (.val (.bl (chD F N d)), eC F N T d) := by
  unfold F_is_change fb_is_change
  cases ht : tupD d with
  | false =>
    rw [chD_no ht]
    simp [a_run, noOwnB, isTup _ h.pl, ht, truD]
  | true =>
    obtain ⟨m, ds, rfl, rfl⟩ := h.up ht
    obtain ⟨hl, hx⟩ := h.at
    match ds, h, hl, hx with
    | [], h, hl, hx => simp [a_run, noOwnB, isTup _ h.pl, truD, dLen, dLt, chD]
    | [x], h, hl, hx => simp [a_run, noOwnB, isTup _ h.pl, truD, dLen, dLt, chD]
    | x :: t :: ds, h, hl, hx =>
      have h0 := hx x (by simp)
      have h1 := hx t (by simp)
      have hlt : ¬ ((ds.length : Int) + 1 + 1 < 2) := by omega
      cases c1 : tmD N t with
      | false =>
        have e : chD F N (.tup (x :: t :: ds)) = false := by
          match ds with
          | [] => simp [chD, c1]
          | [v] => simp [chD, c1]
          | [v, u] => simp [chD, c1]
          | _ :: _ :: _ :: _ => rfl
        rw [e]
        simp [a_run, noOwnB, isTup _ h.pl, truD, dLen, dLt, hlt, dIx, at0, at1, at2, at3, F_term, h1.pl, c1]
      | true =>
        have q0 := fun s => eqQ_s' s h0 (by omega : m ≤ 40)
        cases s1 : isS (Str.ofString "make") x with
        | true =>
          have ex := isS_str s1
          subst ex
          by_cases hq : ds.length = 1
          · match ds, hq, h, hx with
            | [v], _, h, hx =>
              have h2 := hx v (by simp)
              have r := P_rec F N T h2
              simp only [eC, scD] at r
              cases c2 : recD F N v <;>
              simp [a_run, noOwnB, isTup _ h.pl, truD, dLen, dLt, dIx, at0, at1, at2, at3, F_term, h1.pl, c1, dEq, r, c2, chD, isS]
          · have hq' : ((ds.length : Int) + 1 + 1 == 3) = false := by rw [beq_eq_false_iff_ne]; omega
            have e : chD F N (.tup (.str (Str.ofString "make") :: t :: ds)) = false := by
              match ds, hq with
              | [], _ => rfl
              | [v], hq => exact absurd rfl hq
              | [v, u], _ => rfl
              | _ :: _ :: _ :: _, _ => rfl
            rw [e]
            simp [a_run, noOwnB, isTup _ h.pl, truD, dLen, dLt, hlt, dIx, at0, at1, at2, at3, F_term, h1.pl, c1, dEq, hq']
        | false =>
          cases s2 : isS (Str.ofString "set") x with
          | true =>
            have ex := isS_str s2
            subst ex
            by_cases hq : ds.length = 2
            · match ds, hq, h, hx with
              | [f, u], _, h, hx =>
                have h2 := hx f (by simp)
                have h3 := hx u (by simp)
                cases c3 : inF F f <;> cases c4 : tmD N u <;>
                simp [a_run, noOwnB, isTup _ h.pl, truD, dLen, dLt, dIx, at0, at1, at2, at3, F_term, h1.pl, h3.pl, c1, dEq, dIn_F h2, c3, c4, chD, isS]
            · have hq' : ((ds.length : Int) + 1 + 1 == 4) = false := by rw [beq_eq_false_iff_ne]; omega
              have e : chD F N (.tup (.str (Str.ofString "set") :: t :: ds)) = false := by
                match ds, hq with
                | [], _ => rfl
                | [v], _ => rfl
                | [v, u], hq => exact absurd rfl hq
                | _ :: _ :: _ :: _, _ => rfl
              rw [e]
              simp [a_run, noOwnB, isTup _ h.pl, truD, dLen, dLt, hlt, dIx, at0, at1, at2, at3, F_term, h1.pl, c1, dEq, hq']
          | false =>
            by_cases hq : ds.length = 0
            · match ds, hq, h, hx with
              | [], _, h, hx =>
                cases s3 : isS (Str.ofString "drop") x <;>
                simp [a_run, noOwnB, isTup _ h.pl, truD, dLen, dLt, dIx, at0, at1, at2, at3, F_term, h1.pl, c1, dEq, q0, s1, s2, s3, chD]
            · have hq' : ((ds.length : Int) + 1 + 1 == 2) = false := by rw [beq_eq_false_iff_ne]; omega
              have e : chD F N (.tup (x :: t :: ds)) = false := by
                match ds, hq with
                | [], hq => exact absurd rfl hq
                | [v], _ => simp [chD, s1]
                | [v, u], _ => simp [chD, s2]
                | _ :: _ :: _ :: _, _ => rfl
              rw [e]
              cases s3 : isS (Str.ofString "drop") x <;>
              simp [a_run, noOwnB, isTup _ h.pl, truD, dLen, dLt, hlt, dIx, at0, at1, at2, at3, F_term, h1.pl, c1, dEq, q0, s1, s2, s3, hq']
theorem P_say (F N : List Str) (T : List Dat) {n : Nat} {x : Dat} {ds : List Dat} (h : okD (n + 1) (.tup (x :: ds))) (hn : n ≤ 40) :
    F_is_say (eC F N T (.tup (x :: ds))) = some (.val (.bl (sayD F N ds)), eC F N T (.tup (x :: ds))) := by
  unfold F_is_say fb_is_say
  obtain ⟨hl, hx⟩ := h.at
  by_cases hq : ds.length = 2
  · match ds, hq, h, hl, hx with
    | [c, w], _, h, hl, hx =>
      have h1 := hx c (by simp)
      have h2 := hx w (by simp)
      cases ht : tupD c with
      | false =>
        have e : syD F N c w = false := by
          unfold syD
          cases c <;> first | (exact Bool.and_false _) | cases ht
        simp [a_run, noOwnB, isTup _ h1.pl, ht, truD, dLen, dNe, dIx, at0, at1, at2, at3, e, sayD]
      | true =>
        obtain ⟨m, cs, rfl, rfl⟩ := h1.up ht
        obtain ⟨hl2, hx2⟩ := h1.at
        have comp : eLc (iAny (eOp2 dIx (eVar 2) (eCon (.int 1)))) (gPut 3) (eRet true) (eCallV F_is_change (eCons (eVar 0) (eCons (eVar 1) (eOne (eVar 3))))) [3] (eC F N T (.tup [x, .tup cs, w]) ++ [none]) = some (.new (.lst (cs.map fun d => .bl (chD F N d))), eC F N T (.tup [x, .tup cs, w]) ++ [none]) := by
          refine eLc_each (fun d => .bl (chD F N d)) (fun d => .val (.bl (chD F N d))) (by simp [itemsD, dIx, at0, at1, at2, at3]) rfl (by omega) fun d hd => ?_
          have r := P_change F N T (hx2 d hd) (by omega)
          simp only [eC, scD] at r
          simp [r]
        simp only [eC, scD, List.cons_append, List.nil_append] at comp
        cases c1 : nmD w <;> cases c2 : cs.all (chD F N) <;> simp [a_run, noOwnB, isTup _ h1.pl, truD, dLen, dNe, dIx, at0, at1, at2, at3, F_name, h2.pl, h2.sz, c1, c2, comp, all_map, sayD, syD]
  · have e : sayD F N ds = false := by
      match ds, hq with
      | [], _ => rfl
      | [_], _ => rfl
      | [_, _], h => exact absurd rfl h
      | _ :: _ :: _ :: _, _ => rfl
    have hq' : ((ds.length : Int) + 1 == 3) = false := by rw [beq_eq_false_iff_ne]; omega
    rw [e]
    simp [a_run, noOwnB, truD, dLen, dNe, hq']
end Prg
/-! The program's is_body. -/
namespace Prg
open PySem PySem.Spec L2 DL
open PyProof.Rows hiding St
/-! the beginning of a tuple against one word -/
theorem okD.take1 {n : Nat} {x : Dat} {ds : List Dat} (h : okD (n + 1) (.tup (x :: ds))) : okD (n + 1) (.tup [x]) := ⟨by simp, fun y hy => by
  rw [List.mem_singleton.mp hy]
  exact h.2 x (by simp)⟩
theorem eqQ_1 (s : Str) {n : Nat} {x : Dat} (h : okD (n + 1) (.tup [x])) (hn : n ≤ 40) : eqQ (.tup [x]) (.tup [.str s]) = some (isS s x) := by
  have hf := h.facts
  unfold eqQ
  rw [if_pos ⟨by omega, hf.2.2.1, rfl⟩]
  rw [eqD, eqDs, eqD_s' s (h.2 x (by simp)).pl, eqDs]
  simp
theorem eqQ_0 (s : Str) : eqQ (.tup []) (.tup [.str s]) = some false := by
  simp [eqQ, depD, depDs, noObj, noObjs, eqD, eqDs]
theorem eqQ_1' (s : Str) {n : Nat} {x : Dat} (h : okD (n + 1) (.tup [x])) : eqQ (.tup [.str s]) (.tup [x]) = some (isS s x) := by
  have hf := h.facts
  unfold eqQ
  rw [if_pos ⟨by simp [depD, depDs], rfl, hf.2.2.1⟩]
  rw [eqD, eqDs, eqD_s s (h.2 x (by simp)).pl, eqDs]
  simp
theorem cut1 {α : Type} (x : α) (ds : List α) : DL.cutD (x :: ds) none (some 1) = [x] := by
  simp [DL.cutD, HT.sIx]
theorem cut_n2 {α : Type} (ds : List α) : DL.cutD ds none (some (-2)) = ds.take (ds.length - 2) := by
  simp [DL.cutD, HT.sIx]
  congr 1
  omega
theorem cut_2n {α : Type} (ds : List α) : DL.cutD ds (some (-2)) none = ds.drop (ds.length - 2) := by
  have e : ((-2 : Int) + (ds.length : Int)).toNat = ds.length - 2 := by omega
  simp [DL.cutD, HT.sIx, e]
  exact List.take_of_length_le
      (by simp)
theorem cut_n1 {α : Type} (ds : List α) : DL.cutD ds none (some (-1)) = ds.take (ds.length - 1) := by
  simp [DL.cutD, HT.sIx]
  congr 1
  omega
theorem cut_1n {α : Type} (ds : List α) : DL.cutD ds (some (-1)) none = ds.drop (ds.length - 1) := by
  have e : ((-1 : Int) + (ds.length : Int)).toNat = ds.length - 1 := by omega
  simp [DL.cutD, HT.sIx, e]
  exact List.take_of_length_le
      (by simp)
theorem P_divided {n : Nat} {x : Dat} {ds : List Dat} (h : okD (n + 1) (.tup (x :: ds))) (hn : n ≤ 40) : F_divided [some (.val (.tup (x :: ds)))] =
    some (.val (.tup (if (isS (Str.ofString "has") x || isS (Str.ofString "is") x) = true then [.tup ((x :: ds).take ((x :: ds).length - 2)), .tup ((x :: ds).drop ((x :: ds).length - 2))] else [.tup ((x :: ds).take ((x :: ds).length - 1)), .tup ((x :: ds).drop ((x :: ds).length - 1))])), [some (.val (.tup (x :: ds)))]) := by
  unfold F_divided fb_divided
  have h1 := h.take1
  have e : dIn (.tup [x]) (.tup [.tup [.str (Str.ofString "has")], .tup [.str (Str.ofString "is")]]) = some (false, .bl (isS (Str.ofString "has") x || isS (Str.ofString "is") x)) := by
    simp [dIn, inDs, eqQ_1' _ h1]
  cases c : (isS (Str.ofString "has") x || isS (Str.ofString "is") x) <;> rw [c] at e <;>
  simp [a_run, noOwnB, dCut, cut1, cut_n2, cut_2n, cut_n1, cut_1n, dNeg, e]
theorem eqQ_0' (s : Str) : eqQ (.tup [.str s]) (.tup []) = some false := by
  simp [eqQ, depD, depDs, noObj, noObjs, eqD, eqDs]
theorem cut10 {α : Type} (lo hi : Option Int) : DL.cutD ([] : List α) lo hi = [] := by
  simp [DL.cutD]
theorem P_divided0 : F_divided [some (.val (.tup []))] = some (.val (.tup [.tup [], .tup []]), [some (.val (.tup []))]) := by
  unfold F_divided fb_divided
  have e : dIn (.tup []) (.tup [.tup [.str (Str.ofString "has")], .tup [.str (Str.ofString "is")]]) = some (false, .bl false) := by
    simp [dIn, inDs, eqQ_0']
  simp [a_run, noOwnB, dCut, cut10, dNeg, e]
def headD (F N : List Str) (T : List Dat) : List Dat → Bool
  | x :: r => if isS (Str.ofString "has") x = true then (match r with
      | [t] => tmD N t
      | _ => false)
    else if isS (Str.ofString "is") x = true then (match r with
      | [t, f, u] => (tmD N t && inT T t) && (inF F f && tmD N u)
      | _ => false)
    else if isS (Str.ofString "let") x = true then (match r with
      | [y, t, f] => (nmD y && !inN N y) && ((tmD N t && inT T t) && inF F f)
      | _ => false)
    else false
  | [] => false
theorem P_head (F N : List Str) (T : List Dat) (hT : ∀ s ∈ T, kyD s = true) {n : Nat} {hd : List Dat} (h : okD (n + 1) (.tup hd)) (hn : n ≤ 40) : F_is_head (eC F N T (.tup hd)) = some (.val (.bl (headD F N T hd)), eC F N T (.tup hd)) := by
  unfold F_is_head fb_is_head
  obtain ⟨hl, hx⟩ := h.at
  match hd, h, hl, hx with
  | [], h, hl, hx => simp [a_run, noOwnB, dCut, cut10, dEq, eqQ_0, headD]
  | x :: r, h, hl, hx =>
    have h1 := h.take1
    have q1 := fun s => eqQ_1 s h1 hn
    cases s1 : isS (Str.ofString "has") x with
    | true =>
      by_cases hq : r.length = 1
      · match r, hq, h, hx with
        | [t], _, h, hx =>
          have ht := hx t (by simp)
          cases c1 : tmD N t <;> simp [a_run, noOwnB, dCut, cut1, dEq, q1, s1, dLen, dIx, at0, at1, at2, at3, F_term, ht.pl, c1, headD, truD]
      · have e : headD F N T (x :: r) = false := by
          simp only [headD, s1, if_true]
          match r, hq with
          | [], _ => rfl
          | [_], hq => exact absurd rfl hq
          | _ :: _ :: _, _ => rfl
        have hq' : ((r.length : Int) + 1 == 2) = false := by rw [beq_eq_false_iff_ne]; omega
        rw [e]
        simp [a_run, noOwnB, dCut, cut1, dEq, q1, s1, dLen, hq', truD]
    | false =>
      cases s2 : isS (Str.ofString "is") x with
      | true =>
        have s3 : isS (Str.ofString "let") x = false := by
          rw [isS_str s2]
          simp [isS]
        by_cases hq : r.length = 3
        · match r, hq, h, hx with
          | [t, f, u], _, h, hx =>
            have ht := hx t (by simp)
            have hf := hx f (by simp)
            have hu := hx u (by simp)
            have r1 := P_tested N T hT t ht.pl
            simp only [scD] at r1
            have e : headD F N T [x, t, f, u] = ((tmD N t && inT T t) && (inF F f && tmD N u)) := by
              simp only [headD, s1, s2, if_true, Bool.false_eq_true, if_false]
            rw [e]
            cases c1 : (tmD N t && inT T t) <;> cases c2 : inF F f <;> cases c3 : tmD N u <;> rw [c1] at r1 <;>
            simp [a_run, noOwnB, dCut, cut1, dEq, q1, s1, s2, dLen, dIx, at0, at1, at2, at3, F_term, hu.pl, r1, dIn_F hf, c2, c3, truD]
        · have e : headD F N T (x :: r) = false := by
            simp only [headD, s1, s2, if_true, Bool.false_eq_true, if_false]
            match r, hq with
            | [], _ => rfl
            | [_], _ => rfl
            | [_, _], _ => rfl
            | [_, _, _], hq => exact absurd rfl hq
            | _ :: _ :: _ :: _ :: _, _ => rfl
          have hq' : ((r.length : Int) + 1 == 4) = false := by rw [beq_eq_false_iff_ne]; omega
          rw [e]
          simp [a_run, noOwnB, dCut, cut1, dEq, q1, s1, s2, s3, dLen, hq', truD]
      | false =>
        cases s3 : isS (Str.ofString "let") x with
        | true =>
          by_cases hq : r.length = 3
          · match r, hq, h, hx with
            | [y, t, f], _, h, hx =>
              have hy := hx y (by simp)
              have ht := hx t (by simp)
              have hf := hx f (by simp)
              have r1 := P_tested N T hT t ht.pl
              have r2 := P_new N T y hy.pl hy.sz
              simp only [scD] at r1 r2
              have e : headD F N T [x, y, t, f] = ((nmD y && !inN N y) && ((tmD N t && inT T t) && inF F f)) := by
                simp only [headD, s1, s2, s3, if_true, Bool.false_eq_true, if_false]
              rw [e]
              cases c1 : (tmD N t && inT T t) <;> cases c2 : inF F f <;> cases c3 : (nmD y && !inN N y) <;> rw [c1] at r1 <;> rw [c3] at r2 <;>
              simp [a_run, noOwnB, dCut, cut1, dEq, q1, s1, s2, s3, dLen, dIx, at0, at1, at2, at3, r1, r2, dIn_F hf, c2, truD]
          · have e : headD F N T (x :: r) = false := by
              simp only [headD, s1, s2, s3, if_true, Bool.false_eq_true, if_false]
              match r, hq with
              | [], _ => rfl
              | [_], _ => rfl
              | [_, _], _ => rfl
              | [_, _, _], hq => exact absurd rfl hq
              | _ :: _ :: _ :: _ :: _, _ => rfl
            have hq' : ((r.length : Int) + 1 == 4) = false := by rw [beq_eq_false_iff_ne]; omega
            rw [e]
            simp [a_run, noOwnB, dCut, cut1, dEq, q1, s1, s2, s3, dLen, hq', truD]
        | false =>
          simp [a_run, noOwnB, dCut, cut1, dEq, q1, s1, s2, s3, headD]
end Prg
/-! The program's is_body. -/
namespace Prg
open PySem PySem.Spec L2 DL
open PyProof.Rows hiding St
/-- a loop over two, the body's slots 5 and 6 -/
theorem wipe2 (a b c d e x y : Option Slot) (hx : isMtb (some x) = false) (hy : isMtb (some y) = false) : eWipe [5, 6] [a, b, c, d, e, x, y] = some ((), [a, b, c, d, e, none, none]) := by
  show andThen (andThen (some ((), [a, b, c, d, e, x, y])) fun _ e1 => (if isMtb e1[6]? = false then some ((), e1.set 6 none) else none)) (fun _ e1 => (if isMtb e1[5]? = false then some ((), e1.set 5 none) else none)) = _
  simp [hx, hy]
theorem loop2 {f : EM R} {a b c d e : Option Slot} : ∀ (ps : List (Dat × Dat × Bool)) (acc : List Dat), (∀ p ∈ ps, f [a, b, c, d, e, some (.val p.1), some (.val p.2.1)] = some (.val (.bl p.2.2), [a, b, c, d, e, some (.val p.1), some (.val p.2.1)])) → acc.length + ps.length ≤ 100000 →
    loopC (gTupD 2 (gConsD (gPut 5) (gConsD (gPut 6) gNilD))) (eRet true) f [5, 6] (ps.map fun p => .tup [p.1, p.2.1]) acc [a, b, c, d, e, none, none] = some (acc ++ ps.map (fun p => .bl p.2.2), [a, b, c, d, e, none, none])
  | [], acc, _, _ => by
    show some (acc, _) = _
    simp
  | p :: ps, acc, hd, hl => by
    have h1 := hd p (by simp)
    have hp : gTupD 2 (gConsD (gPut 5) (gConsD (gPut 6) gNilD)) (.tup [p.1, p.2.1]) [a, b, c, d, e, none, none] = some ((), [a, b, c, d, e, some (.val p.1), some (.val p.2.1)]) := rfl
    show eBind (gTupD 2 _ (.tup [p.1, p.2.1])) _ _ = _
    rw [a_bind, hp, at_some, a_bind, a_ret, at_some, if_pos rfl, a_bind, h1, at_some, a_bind, f_val, at_some, a_bind, wipe2 _ _ _ _ _ _ _ rfl rfl, at_some, if_pos (by simp at hl; omega)]
    rw [loop2 ps (acc ++ [Dat.bl p.2.2]) (fun e he => hd e (by simp [he])) (by simp at hl ⊢; omega)]
    simp
theorem lc2P {it : EM (List Dat)} {f : EM R} {a b c d e : Option Slot} {ps : List (Dat × Dat × Bool)} (hi : it [a, b, c, d, e, none, none] = some (ps.map fun p => .tup [p.1, p.2.1], [a, b, c, d, e, none, none])) (hl : ps.length ≤ 100000)
    (hd : ∀ p ∈ ps, f [a, b, c, d, e, some (.val p.1), some (.val p.2.1)] = some (.val (.bl p.2.2), [a, b, c, d, e, some (.val p.1), some (.val p.2.1)])) :
    eLc it (gTupD 2 (gConsD (gPut 5) (gConsD (gPut 6) gNilD))) (eRet true) f [5, 6] [a, b, c, d, e, none, none] = some (.new (.lst (ps.map fun p => .bl p.2.2)), [a, b, c, d, e, none, none]) := by
  unfold eLc
  rw [a_bind, hi, at_some]
  rw [if_pos (by rfl), a_bind, loop2 ps [] hd (by simpa using hl)]
  rfl
theorem all_bl : ∀ ps : List (Dat × Dat × Bool), dAll [.lst (ps.map fun p => .bl p.2.2)] = some (false, .bl (ps.all fun p => p.2.2)) := fun ps => by
  have h : ∀ ps : List (Dat × Dat × Bool), bools (ps.map fun p => .bl p.2.2) = some (ps.map fun p => p.2.2) := fun ps => by
    induction ps with
    | nil => rfl
    | cons p ps ih =>
      show (bools (ps.map fun p => .bl p.2.2)).map _ = _
      rw [ih]
      rfl
  show (bools (ps.map fun p => .bl p.2.2)).map _ = _
  rw [h]
  simp [List.all_map]
theorem P_inner_has (N : List Str) (T : List Dat) (t : Dat) (hT : T.length ≤ 5000) : F_inner_scopes [some (.val (scD N T)), some (.val (.tup [.str (Str.ofString "has"), t]))] = some (.new (.lst [scD N (T ++ [t]), scD N T]), [some (.val (scD N T)), some (.val (.tup [.str (Str.ofString "has"), t]))]) := by
  have h : T.length + 1 ≤ 100000 := by omega
  unfold F_inner_scopes fb_inner_scopes
  simp [a_run, noOwnB, gTupD, gConsD, gNilD, dIx, at0, at1, dEq, dAdd, h]
theorem P_inner_let (N : List Str) (T : List Dat) (y t f : Dat) (hN : N.length ≤ 5000) (hy : y = .str (strOf y)) : F_inner_scopes [some (.val (scD N T)), some (.val (.tup [.str (Str.ofString "let"), y, t, f]))] = some (.new (.lst [scD (N ++ [strOf y]) T]), [some (.val (scD N T)), some (.val (.tup [.str (Str.ofString "let"), y, t, f]))]) := by
  have h : N.length + 1 ≤ 100000 := by omega
  unfold F_inner_scopes fb_inner_scopes
  have e : scD (N ++ [strOf y]) T = .tup [.tup (N.map .str ++ [y]), .tup T] := by
    rw [scD, List.map_append, List.map_cons, List.map_nil, ← hy]
  rw [e]
  simp [a_run, noOwnB, gTupD, gConsD, gNilD, dIx, at0, at1, dEq, dAdd, h]
theorem P_inner_is (N : List Str) (T : List Dat) (t f u : Dat) : F_inner_scopes [some (.val (scD N T)), some (.val (.tup [.str (Str.ofString "is"), t, f, u]))] = some (.new (.lst [scD N T, scD N T]), [some (.val (scD N T)), some (.val (.tup [.str (Str.ofString "is"), t, f, u]))]) := by
  unfold F_inner_scopes fb_inner_scopes
  simp [a_run, noOwnB, gTupD, gConsD, gNilD, dIx, at0, at1, dEq]
theorem okD.sub {n : Nat} {ds es : List Dat} (h : okD (n + 1) (.tup ds)) (hl : es.length ≤ ds.length) (hs : ∀ x ∈ es, x ∈ ds) : okD (n + 1) (.tup es) := ⟨Nat.le_trans hl h.1, fun x hx => h.2 x (hs x hx)⟩
@[simp] theorem a_izip (fs : EM (List R)) (env : DL.Env) : iZipD fs env = andThen (fs env) fun rs e1 => andThen (eForces rs e1) fun ds e2 => withEnv (match ds with
  | [.lst as, .lst bs] => some (pairsD as bs)
  | [.tup as, .tup bs] => some (pairsD as bs)
  | [.lst as, .tup bs] => some (pairsD as bs)
  | _ => none) e2 := rfl
theorem headD_no {F N : List Str} {T : List Dat} {x : Dat} {r : List Dat} (h1 : isS (Str.ofString "has") x = false) (h2 : isS (Str.ofString "is") x = false) (h3 : isS (Str.ofString "let") x = false) : headD F N T (x :: r) = false := by
  simp [headD, h1, h2, h3]
theorem P_body (F : List Str) : ∀ (m n : Nat) (N : List Str) (T : List Dat) (d : Dat), n < m → n ≤ 40 → okD n d → (∀ s ∈ T, kyD s = true) → T.length + m ≤ 2000 → N.length + m ≤ 2000 →
    FR_is_body m (eC F N T d) = some (.val (.bl (bodyD F m N T d)), eC F N T d) := by
  intro m
  induction m with
  | zero => intro n N T d h; omega
  | succ m ih =>
    intro n N T d hnm hn hd hT hTl hNl
    show runF 7 3 (fb_is_body (FR_is_body m)) _ = _
    unfold fb_is_body
    cases ht : tupD d with
    | false =>
      have e : bodyD F (m + 1) N T d = false := by cases d <;> first | rfl | cases ht
      rw [e]
      simp [a_run, noOwnB, isTup _ hd.pl, ht, truD]
    | true =>
      obtain ⟨k, ds, rfl, rfl⟩ := hd.up ht
      obtain ⟨hl, hx⟩ := hd.at
      match ds, hd, hl, hx with
      | [], hd, hl, hx =>
        have e2 : bodyD F (m + 1) N T (.tup []) = false := rfl
        have r := P_head F N T hT (n := 0) (hd := []) ⟨by simp, by simp⟩ (by omega)
        simp only [eC, scD] at r
        rw [e2]
        simp [a_run, noOwnB, isTup _ hd.pl, truD, dCut, cut10, dEq, eqQ_0, P_divided0, gTupD, gConsD, gNilD, r, headD]
      | x :: ds, hd, hl, hx =>
        have hx0 := hx x (by simp)
        have h1 := hd.take1
        have hn' : k ≤ 40 := by omega
        have q1 := fun s => eqQ_1 s h1 hn'
        have dv := P_divided hd hn'
        -- a head that is none
        have bad : isS (Str.ofString "say") x = false → ∀ A B : List Dat, F_divided [some (.val (.tup (x :: ds)))] = some (.val (.tup [.tup A, .tup B]), [some (.val (.tup (x :: ds)))]) → okD (k + 1) (.tup A) → headD F N T A = false →
            runF 7 3 (fb_is_body (FR_is_body m)) (eC F N T (.tup (x :: ds))) = some (.val (.bl false), eC F N T (.tup (x :: ds))) := fun s1 A B hA hok hno => by
          have r := P_head F N T hT hok hn'
          simp only [eC, scD] at r
          rw [hno] at r
          unfold fb_is_body
          simp [a_run, noOwnB, isTup _ hd.pl, truD, dCut, cut1, dEq, q1, s1, hA, gTupD, gConsD, gNilD, r]
        have good : isS (Str.ofString "say") x = false → ∀ (A B scs : List Dat) (ps : List (Dat × Dat × Bool)), F_divided [some (.val (.tup (x :: ds)))] = some (.val (.tup [.tup A, .tup B]), [some (.val (.tup (x :: ds)))]) → okD (k + 1) (.tup A) → headD F N T A = true →
            F_inner_scopes [some (.val (scD N T)), some (.val (.tup A))] = some (.new (.lst scs), [some (.val (scD N T)), some (.val (.tup A))]) → pairsD scs B = (ps.map fun p => .tup [p.1, p.2.1]) → ps.length ≤ 10 →
            (∀ p ∈ ps, FR_is_body m [some (.val (.tup (F.map .str))), some (.val p.1), some (.val p.2.1)] = some (.val (.bl p.2.2), [some (.val (.tup (F.map .str))), some (.val p.1), some (.val p.2.1)])) →
            runF 7 3 (fb_is_body (FR_is_body m)) (eC F N T (.tup (x :: ds))) = some (.val (.bl (ps.all fun p => p.2.2)), eC F N T (.tup (x :: ds))) := fun s1 A B scs ps hA hok hyes hin hz hlp hp => by
          have r := P_head F N T hT hok hn'
          simp only [eC, scD] at r
          rw [hyes] at r
          have comp : eLc (iZipD (eCons (eCallV F_inner_scopes (eCons (eVar 1) (eOne (eVar 3)))) (eOne (eVar 4)))) (gTupD 2 (gConsD (gPut 5) (gConsD (gPut 6) gNilD))) (eRet true) (eCallV (FR_is_body m) (eCons (eVar 0) (eCons (eVar 5) (eOne (eVar 6))))) [5, 6] [some (.val (.tup (F.map .str))), some (.val (scD N T)), some (.val (.tup (x :: ds))), some (.val (.tup A)), some (.val (.tup B)), none, none] =
              some (.new (.lst (ps.map fun p => .bl p.2.2)), [some (.val (.tup (F.map .str))), some (.val (scD N T)), some (.val (.tup (x :: ds))), some (.val (.tup A)), some (.val (.tup B)), none, none]) := by
            refine lc2P (by simp only [scD] at hin; simp [hin, hz]) (by omega) fun p hp2 => ?_
            simp [hp p hp2]
          simp only [scD] at comp
          have e := all_bl ps
          unfold fb_is_body
          generalize (ps.map fun p => Dat.bl p.2.2) = L at comp e
          simp [a_run, noOwnB, isTup _ hd.pl, truD, dCut, cut1, dEq, q1, s1, hA, gTupD, gConsD, gNilD, r, comp, e]
        show runF 7 3 (fb_is_body (FR_is_body m)) _ = _
        cases s1 : isS (Str.ofString "say") x with
        | true =>
          have r := P_say F N T hd hn'
          simp only [eC, scD] at r
          have e : bodyD F (m + 1) N T (.tup (x :: ds)) = sayD F N ds := by
            simp only [bodyD, s1, if_true]
            match ds with
            | [] => rfl
            | [_] => rfl
            | [_, _] => rfl
            | _ :: _ :: _ :: _ => rfl
          rw [e]
          unfold fb_is_body
          simp [a_run, noOwnB, isTup _ hd.pl, truD, dCut, cut1, dEq, q1, s1, r]
        | false =>
          have bad := bad s1
          have good := good s1
          cases s2 : isS (Str.ofString "has") x with
          | true =>
            have ex := isS_str s2
            subst ex
            rw [s2, Bool.true_or, if_pos rfl] at dv
            by_cases hq : ds.length = 3
            · match ds, hq, hd, hl, hx, dv, bad, good with
              | [t, a, b], _, hd, hl, hx, dv, bad, good =>
                have ht := hx t (by simp)
                have ha := hx a (by simp)
                have hb := hx b (by simp)
                have hok : okD (k + 1) (.tup [.str (Str.ofString "has"), t]) := hd.sub (by simp) (by simp)
                cases c1 : tmD N t with
                | false =>
                  rw [bad _ _ dv hok (by simp [headD, isS, c1])]
                  simp [bodyD, isS, c1]
                | true =>
                  have i1 := ih k N (T ++ [t]) a (by omega) (by omega) ha (fun s hs => by
                    rcases List.mem_append.mp hs with h | h
                    · exact hT s h
                    · rw [List.mem_singleton.mp h]; exact kyD_tm c1) (by simp; omega) (by omega)
                  have i2 := ih k N T b (by omega) (by omega) hb hT (by omega) (by omega)
                  rw [good [.str (Str.ofString "has"), t] [a, b] [scD N (T ++ [t]), scD N T] [(scD N (T ++ [t]), a, bodyD F m N (T ++ [t]) a), (scD N T, b, bodyD F m N T b)] dv hok (by simp [headD, isS, c1]) (P_inner_has N T t (by omega)) rfl (by simp) fun p hp => by
                    rcases List.mem_cons.mp hp with h | h
                    · rw [h]; exact i1
                    · rw [List.mem_singleton.mp h]; exact i2]
                  simp [bodyD, isS, c1]
            · have e : bodyD F (m + 1) N T (.tup (.str (Str.ofString "has") :: ds)) = false := by
                match ds, hq with
                | [], _ => rfl
                | [_], _ => rfl
                | [_, _], _ => rfl
                | [_, _, _], h => exact absurd rfl h
                | _ :: _ :: _ :: _ :: _, _ => rfl
              rw [e]
              refine bad _ _ dv (hd.sub (List.length_take_le' _ _) fun x hx => List.mem_of_mem_take hx) ?_
              match ds, hq with
              | [], _ => rfl
              | [_], _ => rfl
              | [_, _], _ => rfl
              | [_, _, _], h => exact absurd rfl h
              | a :: b :: c :: d :: r, _ =>
                have e3 : (Dat.str (Str.ofString "has") :: a :: b :: c :: d :: r).length - 2 = r.length + 3 := by simp
                rw [e3]
                rfl
          | false =>
            cases s3 : isS (Str.ofString "is") x with
            | true =>
              have ex := isS_str s3
              subst ex
              rw [s2, s3, Bool.false_or, if_pos rfl] at dv
              by_cases hq : ds.length = 5
              · match ds, hq, hd, hl, hx, dv, bad, good with
                | [t, f, u, a, b], _, hd, hl, hx, dv, bad, good =>
                  have ha := hx a (by simp)
                  have hb := hx b (by simp)
                  have hok : okD (k + 1) (.tup [.str (Str.ofString "is"), t, f, u]) := hd.sub (by simp) (by simp)
                  have hh : headD F N T [.str (Str.ofString "is"), t, f, u] = ((tmD N t && inT T t) && (inF F f && tmD N u)) := by simp [headD, isS]
                  cases c1 : ((tmD N t && inT T t) && (inF F f && tmD N u)) with
                  | false =>
                    rw [bad _ _ dv hok (hh.trans c1)]
                    have e : bodyD F (m + 1) N T (.tup [.str (Str.ofString "is"), t, f, u, a, b]) = (((tmD N t && inT T t) && (inF F f && tmD N u)) && (bodyD F m N T a && bodyD F m N T b)) := by
                      simp only [bodyD, isS, w_say_is, w_has_is, BEq.rfl, if_true, Bool.false_eq_true, if_false]
                      cases tmD N t <;> cases inT T t <;> cases inF F f <;> cases tmD N u <;> rfl
                    rw [e, c1, Bool.false_and]
                  | true =>
                    have i1 := ih k N T a (by omega) (by omega) ha hT (by omega) (by omega)
                    have i2 := ih k N T b (by omega) (by omega) hb hT (by omega) (by omega)
                    rw [good [.str (Str.ofString "is"), t, f, u] [a, b] [scD N T, scD N T] [(scD N T, a, bodyD F m N T a), (scD N T, b, bodyD F m N T b)] dv hok (hh.trans c1) (P_inner_is N T t f u) rfl (by simp) fun p hp => by
                      rcases List.mem_cons.mp hp with h | h
                      · rw [h]; exact i1
                      · rw [List.mem_singleton.mp h]; exact i2]
                    have e : bodyD F (m + 1) N T (.tup [.str (Str.ofString "is"), t, f, u, a, b]) = (((tmD N t && inT T t) && (inF F f && tmD N u)) && (bodyD F m N T a && bodyD F m N T b)) := by
                      simp only [bodyD, isS, w_say_is, w_has_is, BEq.rfl, if_true, Bool.false_eq_true, if_false]
                      cases tmD N t <;> cases inT T t <;> cases inF F f <;> cases tmD N u <;> rfl
                    rw [e, c1]
                    simp
              · have e : bodyD F (m + 1) N T (.tup (.str (Str.ofString "is") :: ds)) = false := by
                  match ds, hq with
                  | [], _ => rfl
                  | [_], _ => rfl
                  | [_, _], _ => rfl
                  | [_, _, _], _ => rfl
                  | [_, _, _, _], _ => rfl
                  | [_, _, _, _, _], h => exact absurd rfl h
                  | _ :: _ :: _ :: _ :: _ :: _ :: _, _ => rfl
                rw [e]
                refine bad _ _ dv (hd.sub (List.length_take_le' _ _) fun x hx => List.mem_of_mem_take hx) ?_
                match ds, hq with
                | [], _ => rfl
                | [_], _ => rfl
                | [_, _], _ => rfl
                | [_, _, _], _ => rfl
                | [_, _, _, _], _ => rfl
                | [_, _, _, _, _], h => exact absurd rfl h
                | a :: b :: c :: d :: e :: g :: r, _ =>
                  have e3 : (Dat.str (Str.ofString "is") :: a :: b :: c :: d :: e :: g :: r).length - 2 = r.length + 5 := by simp
                  rw [e3]
                  rfl
            | false =>
              rw [s2, s3, Bool.false_or, if_neg Bool.false_ne_true] at dv
              cases s4 : isS (Str.ofString "let") x with
              | true =>
                have ex := isS_str s4
                subst ex
                by_cases hq : ds.length = 4
                · match ds, hq, hd, hl, hx, dv, bad, good with
                  | [y, t, f, a], _, hd, hl, hx, dv, bad, good =>
                    have ha := hx a (by simp)
                    have hok : okD (k + 1) (.tup [.str (Str.ofString "let"), y, t, f]) := hd.sub (by simp) (by simp)
                    have hh : headD F N T [.str (Str.ofString "let"), y, t, f] = ((nmD y && !inN N y) && ((tmD N t && inT T t) && inF F f)) := by simp [headD, isS]
                    have e : bodyD F (m + 1) N T (.tup [.str (Str.ofString "let"), y, t, f, a]) = (((nmD y && !inN N y) && ((tmD N t && inT T t) && inF F f)) && bodyD F m (N ++ [strOf y]) T a) := by
                      simp only [bodyD, isS, w_say_let, w_has_let, w_is_let, BEq.rfl, if_true, Bool.false_eq_true, if_false]
                      cases nmD y <;> cases inN N y <;> cases tmD N t <;> cases inT T t <;> cases inF F f <;> rfl
                    cases c1 : ((nmD y && !inN N y) && ((tmD N t && inT T t) && inF F f)) with
                    | false =>
                      rw [bad _ _ dv hok (hh.trans c1), e, c1, Bool.false_and]
                    | true =>
                      have hy : nmD y = true := by
                        cases q : nmD y with
                        | true => rfl
                        | false => rw [q] at c1; cases c1
                      have i1 := ih k (N ++ [strOf y]) T a (by omega) (by omega) ha hT (by omega) (by simp; omega)
                      rw [good [.str (Str.ofString "let"), y, t, f] [a] [scD (N ++ [strOf y]) T] [(scD (N ++ [strOf y]) T, a, bodyD F m (N ++ [strOf y]) T a)] dv hok (hh.trans c1) (P_inner_let N T y t f (by omega) (nmD_str hy)) rfl (by simp) fun p hp => by
                        rw [List.mem_singleton.mp hp]; exact i1]
                      rw [e, c1]
                      simp
                · have e : bodyD F (m + 1) N T (.tup (.str (Str.ofString "let") :: ds)) = false := by
                    match ds, hq with
                    | [], _ => rfl
                    | [_], _ => rfl
                    | [_, _], _ => rfl
                    | [_, _, _], _ => rfl
                    | [_, _, _, _], h => exact absurd rfl h
                    | _ :: _ :: _ :: _ :: _ :: _, _ => rfl
                  rw [e]
                  refine bad _ _ dv (hd.sub (List.length_take_le' _ _) fun x hx => List.mem_of_mem_take hx) ?_
                  match ds, hq with
                  | [], _ => rfl
                  | [_], _ => rfl
                  | [_, _], _ => rfl
                  | [_, _, _], _ => rfl
                  | [_, _, _, _], h => exact absurd rfl h
                  | a :: b :: c :: d :: e :: r, _ =>
                    have e3 : (Dat.str (Str.ofString "let") :: a :: b :: c :: d :: e :: r).length - 1 = r.length + 5 := by simp
                    rw [e3]
                    rfl
              | false =>
                have e : bodyD F (m + 1) N T (.tup (x :: ds)) = false := by simp [bodyD, s1, s2, s3, s4]
                rw [e]
                refine bad _ _ dv (hd.sub (List.length_take_le' _ _) fun x hx => List.mem_of_mem_take hx) ?_
                cases hc : (x :: ds).take ((x :: ds).length - 1) with
                | nil => rfl
                | cons y r =>
                  have hy : y = x := by
                    cases hm : (x :: ds).length - 1 with
                    | zero => rw [hm] at hc; cases hc
                    | succ j =>
                      rw [hm, List.take_succ_cons] at hc
                      exact (List.cons.inj hc).1.symm
                  rw [hy]
                  exact headD_no s2 s3 s4
end Prg
/-! is_kind of both sides. -/
namespace Prg
open PySem PySem.Spec L2 DL
open PyProof.Rows hiding St
@[simp] theorem a_lenset (f : EM R) (env : DL.Env) : eLenSet f env = andThen (f env) fun r e1 => andThen (eLook r e1) fun d e2 => andThen (withEnv (rowD d) e2) fun zs e3 => withEnv (if zs.length ≤ 100 then some (.val (.int (setN zs))) else none) e3 := rfl
theorem names_strs : ∀ {ps : List Dat}, ps.all nmD = true → strsD ps = some (ps.map strOf) ∧ ps = (ps.map strOf).map .str
  | [], _ => ⟨rfl, rfl⟩
  | p :: ps, h => by
    rw [List.all_cons,
        Bool.and_eq_true] at h
    obtain ⟨h1, h2⟩ := names_strs h.2
    have e := nmD_str h.1
    refine ⟨?_, by rw [List.map_cons, List.map_cons, ← e, ← h2]⟩
    rw [e]
    show (strsD ps).map _ = _
    rw [h1]
    rfl
/-- parameters: at most two NAMEs, unlike -/
def parD : Dat → Bool
  | .tup ps => decide (ps.length ≤ 2) && (ps.all nmD && (setN (ps.map strOf) == ps.length))
  | _ => false
def parN : Dat → List Str
  | .tup ps => ps.map strOf
  | _ => []
def kindD (F : List Str) : Dat → Bool
  | .tup [n, ps, b] => nmD n && (parD ps && bodyD F 60 (parN ps) [] b)
  | _ => false
theorem int_eq (a b : Nat) : ((a : Int) == (b : Int)) = (a == b) := by
  rw [Bool.eq_iff_iff]
  simp
  omega
theorem P_params {n : Nat} {d : Dat} (h : okD n d) (hn : n ≤ 40) : F_are_parameters [some (.val d)] = some (.val (.bl (parD d)), [some (.val d)]) := by
  unfold F_are_parameters fb_are_parameters
  have key : F_are_names [some (.val d), some (.val (.int 0)), some (.val (.int 2))] = some (.val (.bl (parD d)), [some (.val d), some (.val (.int 0)), some (.val (.int 2))]) := by
    unfold F_are_names fb_are_names
    cases ht : tupD d with
    | false =>
      have e : parD d = false := by cases d <;> first | rfl | cases ht
      rw [e]
      simp [a_run, noOwnB, isTup _ h.pl, ht, truD]
    | true =>
      obtain ⟨m, ps, rfl, rfl⟩ := h.up ht
      obtain ⟨hl, hx⟩ := h.at
      by_cases h2 : ps.length ≤ 2
      · have h2' : (ps.length : Int) ≤ 2 := by omega
        have comp : eLc (iAny (eVar 0)) (gPut 3) (eRet true) (eCallV F_is_name (eOne (eVar 3))) [3] [some (.val (.tup ps)), some (.val (.int 0)), some (.val (.int 2)), none] =
            some (.new (.lst (ps.map fun d => .bl (nmD d))), [some (.val (.tup ps)), some (.val (.int 0)), some (.val (.int 2)), none]) := by
          refine eLc_each (fun d => .bl (nmD d)) (fun d => .val (.bl (nmD d))) (by simp [itemsD]) rfl (by omega) fun d hd => ?_
          simp [F_name, (hx d hd).pl, (hx d hd).sz]
        have hall := all_map nmD ps
        cases c : ps.all nmD with
        | false =>
          have e : parD (.tup ps) = false := by simp [parD, c]
          rw [c] at hall
          rw [e]
          simp [a_run, noOwnB, isTup _ h.pl, truD, dLen, dLe, h2', comp, hall]
        | true =>
          obtain ⟨e1, e2⟩ := names_strs c
          have e : parD (.tup ps) = (setN (ps.map strOf) == ps.length) := by simp [parD, c, h2]
          rw [c] at hall
          rw [e]
          have hl2 : ps.length ≤ 100 := by omega
          simp [a_run, noOwnB, isTup _ h.pl, truD, dLen, dLe, h2', comp, hall, rowD, e1, hl2, dEq, int_eq]
      · have h2' : ¬ ((ps.length : Int) ≤ 2) := by omega
        have e : parD (.tup ps) = false := by simp [parD, h2]
        rw [e]
        simp [a_run, noOwnB, isTup _ h.pl, truD, dLen, dLe, h2']
  simp [a_run, noOwnB, key]
theorem P_kind (F : List Str) {n : Nat} {d : Dat} (h : okD n d) (hn : n ≤ 40) : F_is_kind_for [some (.val (.tup (F.map .str))), some (.val d)] = some (.val (.bl (kindD F d)), [some (.val (.tup (F.map .str))), some (.val d)]) := by
  unfold F_is_kind_for fb_is_kind_for
  cases ht : tupD d with
  | false =>
    have e : kindD F d = false := by cases d <;> first | rfl | cases ht
    rw [e]
    simp [a_run, noOwnB, isTup _ h.pl, ht, truD]
  | true =>
    obtain ⟨m, ds, rfl, rfl⟩ := h.up ht
    obtain ⟨hl, hx⟩ := h.at
    by_cases hq : ds.length = 3
    · match ds, hq, h, hx with
      | [nm, ps, b], _, h, hx =>
        have h0 := hx nm (by simp)
        have h1 := hx ps (by simp)
        have h2 := hx b (by simp)
        have r1 := P_params h1 (by omega)
        cases c0 : nmD nm with
        | false => simp [a_run, noOwnB, isTup _ h.pl, truD, dLen, dNe, gTupD, gConsD, gNilD, F_name, h0.pl, h0.sz, c0, kindD]
        | true =>
          cases c1 : parD ps with
          | false =>
            rw [c1] at r1
            simp [a_run, noOwnB, isTup _ h.pl, truD, dLen, dNe, gTupD, gConsD, gNilD, F_name, h0.pl, h0.sz, c0, r1, c1, kindD]
          | true =>
            rw [c1] at r1
            have hps : ∃ qs, ps = .tup qs ∧ qs.length ≤ 2 ∧ qs.all nmD = true := by
              obtain ⟨qs, e⟩ : ∃ qs, ps = .tup qs := by cases ps <;> first | exact ⟨_, rfl⟩ | cases c1
              refine ⟨qs, e, ?_⟩
              rw [e] at c1
              have := c1
              simp only [parD, Bool.and_eq_true, decide_eq_true_eq] at this
              exact ⟨this.1, this.2.1⟩
            obtain ⟨qs, rfl, hql, hqa⟩ := hps
            obtain ⟨_, e2⟩ := names_strs hqa
            have r2 := P_body F 60 m (qs.map strOf) [] b (by omega) (by omega) h2 (by simp) (by simp) (by simp; omega)
            simp only [eC, scD, ← e2] at r2
            simp [a_run, noOwnB, isTup _ h.pl, truD, dLen, dNe, gTupD, gConsD, gNilD, F_name, h0.pl, h0.sz, c0, r1, c1, r2, kindD, parN]
    · have e : kindD F (.tup ds) = false := by
        match ds, hq with
        | [], _ => rfl
        | [_], _ => rfl
        | [_, _], _ => rfl
        | [_, _, _], h => exact absurd rfl h
        | _ :: _ :: _ :: _ :: _, _ => rfl
      have hq' : ((ds.length : Int) == 3) = false := by rw [beq_eq_false_iff_ne]; omega
      rw [e]
      simp [a_run, noOwnB, isTup _ h.pl, truD, dLen, dNe, hq']
end Prg
/-! Running loops, append, join. -/
namespace DL
open PySem PySem.Spec L2
def hasS (o : Option (Option Slot)) (env : DL.Env) : Option (Unit × DL.Env) := match o with
  | some (some s) => if s.wr = true then (match s.dat with
      | .lst _ => some ((), env)
      | _ => none) else none
  | _ => none
@[simp] theorem hasS_o (ds : List Dat) (env : DL.Env) : hasS (some (some (.own (.lst ds)))) env = some ((), env) := rfl
@[simp] theorem hasS_m (ds : List Dat) (env : DL.Env) : hasS (some (some (.mtb (.lst ds)))) env = some ((), env) := rfl
@[simp] theorem a_hasL (j : Nat) (env : DL.Env) : hasL j env = hasS env[j]? env := rfl
def endS (o : Option (Option Slot)) (j : Nat) (d : Dat) (env : DL.Env) : Option (R × DL.Env) := match o with
  | some (some s) => if s.wr = true then (match s.dat with
      | .lst ds => if ds.length < 100000 then some (.val .non, env.set j (some (s.put (.lst (ds ++ [d]))))) else none
      | _ => none) else none
  | _ => none
@[simp] theorem endS_o (ds : List Dat) (j : Nat) (d : Dat) (env : DL.Env) : endS (some (some (.own (.lst ds)))) j d env = if ds.length < 100000 then some (.val .non, env.set j (some (.own (.lst (ds ++ [d]))))) else none := rfl
@[simp] theorem a_putEnd (j : Nat) (d : Dat) (env : DL.Env) : putEnd j d env = endS env[j]? j d env := rfl
def app1 (j : Nat) (ds : List Dat) (env : DL.Env) : Option (R × DL.Env) := match ds with
  | [d] => putEnd j d env
  | _ => none
@[simp] theorem app1_e (j : Nat) (d : Dat) (env : DL.Env) : app1 j [d] env = putEnd j d env := rfl
@[simp] theorem a_app (j : Nat) (fs : EM (List R)) (env : DL.Env) : eApp j fs env = andThen (fs env) fun rs e1 => andThen (eForces rs e1) fun ds e2 => app1 j ds e2 := by
  show andThen (fs env) _ = _
  refine congrArg _ (funext fun rs => funext fun e1 => ?_)
  show andThen (eForces rs e1) _ = _
  refine congrArg _ (funext fun ds => funext fun e2 => ?_)
  match ds with
  | [] => rfl
  | [d] => rfl
  | d :: e :: ds => rfl
@[simp] theorem a_sfor (it : EM (List Dat)) (g : Dat → EM Unit) (b : EM O) (env : DL.Env) : sFor it g b env = andThen (it env) fun ds e1 => loopS g b ds e1 := rfl
def rangeO (ds : List Dat) (env : DL.Env) : Option (List Dat × DL.Env) := match ds with
  | [.int j] => withEnv (if -(2 ^ 62) ≤ j ∧ j < 2 ^ 62 then some (rngD 0 j.toNat) else none) env
  | _ => none
theorem rangeO_e (j : Int) (env : DL.Env) (h : -(2 ^ 62) ≤ j ∧ j < 2 ^ 62) : rangeO [.int j] env = some (rngD 0 j.toNat, env) := by
  show withEnv (if _ then _ else _) env = _
  rw [if_pos h]
  rfl
@[simp] theorem a_irange (fs : EM (List R)) (env : DL.Env) : iRange fs env = andThen (fs env) fun rs e1 => andThen (eLooks rs e1) fun ds e2 => rangeO ds e2 := by
  show andThen (fs env) _ = _
  refine congrArg _ (funext fun rs => funext fun e1 => ?_)
  show andThen (eLooks rs e1) _ = _
  refine congrArg _ (funext fun ds => funext fun e2 => ?_)
  match ds with
  | [] => rfl
  | [d] => cases d <;> rfl
  | d :: e :: ds => cases d <;> rfl
def joinO (a : Dat) (g : EM R) (env : DL.Env) : Option (R × DL.Env) := match a with
  | .str z => andThen (g env) fun s e3 => andThen (eLook s e3) fun b e4 => andThen (withEnv (rowD b) e4) fun zs e5 => withEnv (if (zs.map (·.length)).sum + zs.length * z.length ≤ 100000 then some (.val (.str (Txt.join z zs))) else none) e5
  | _ => none
@[simp] theorem joinO_s (z : Str) (g : EM R) (env : DL.Env) : joinO (.str z) g env = andThen (g env) fun s e3 => andThen (eLook s e3) fun b e4 => andThen (withEnv (rowD b) e4) fun zs e5 => withEnv (if (zs.map (·.length)).sum + zs.length * z.length ≤ 100000 then some (.val (.str (Txt.join z zs))) else none) e5 := rfl
@[simp] theorem a_join (f g : EM R) (env : DL.Env) : eJoin f g env = andThen (f env) fun r e1 => andThen (eLook r e1) fun a e2 => joinO a g e2 := by
  show andThen (f env) _ = _
  refine congrArg _ (funext fun rs => funext fun e1 => ?_)
  show andThen (eLook rs e1) _ = _
  refine congrArg _ (funext fun ds => funext fun e2 => ?_)
  cases ds <;> rfl
/-- a loop by an invariant of environments -/
theorem loop_inv {g : Dat → EM Unit} {body : EM O} (I : Nat → DL.Env → Prop) : ∀ (ds : List Dat) (i : Nat) (env : DL.Env), I i env →
    (∀ (j : Nat) (x : Dat) (env : DL.Env), ds[j]? = some x → I (i + j) env → ∃ e1 e2, g x env = some ((), e1) ∧ body e1 = some (.nx, e2) ∧ I (i + j + 1) e2) → ∃ env', loopS g body ds env = some (.nx, env') ∧ I (i + ds.length) env'
  | [], i, env, h, _ => ⟨env, rfl, h⟩
  | d :: ds, i, env, h, hs => by
    obtain ⟨e1, e2, h1, h2, h3⟩ := hs 0 d env rfl h
    obtain ⟨e3, h4, h5⟩ := loop_inv I ds (i + 1) e2 h3 fun j x env hx hI => by
      have := hs (j + 1) x env (by simpa using hx) (by rw [show i + (j + 1) = i + 1 + j by omega]; exact hI)
      rw [show i + (j + 1) + 1 = i + 1 + j + 1 by omega] at this
      exact this
    refine ⟨e3, ?_, by rw [List.length_cons, show i + (ds.length + 1) = i + 1 + ds.length by omega]; exact h5⟩
    show eBind (g d) _ env = _
    rw [a_bind, h1, at_some, a_bind, h2, at_some]
    exact h4
/-- a loop that may end with a result -/
theorem loop_inv_rt {g : Dat → EM Unit} {body : EM O} {r : R} (I : Nat → DL.Env → Prop) (J : DL.Env → Prop) : ∀ (ds : List Dat) (i : Nat) (env : DL.Env), I i env →
    (∀ (j : Nat) (x : Dat) (env : DL.Env), ds[j]? = some x → I (i + j) env → ∃ e1 e2, g x env = some ((), e1) ∧ ((body e1 = some (.nx, e2) ∧ I (i + j + 1) e2) ∨ (body e1 = some (.rt r, e2) ∧ J e2))) → ∃ env', (loopS g body ds env = some (.nx, env') ∧ I (i + ds.length) env') ∨ (loopS g body ds env = some (.rt r, env') ∧ J env')
  | [], i, env, h, _ => ⟨env, .inl ⟨rfl, h⟩⟩
  | d :: ds, i, env, h, hs => by
    obtain ⟨e1, e2, h1, h2⟩ := hs 0 d env rfl h
    rcases h2 with ⟨h2, h3⟩ | ⟨h2, h3⟩
    · obtain ⟨e3, h4⟩ := loop_inv_rt I J ds (i + 1) e2 h3 fun j x env hx hI => by
        have := hs (j + 1) x env (by simpa using hx) (by rw [show i + (j + 1) = i + 1 + j by omega]; exact hI)
        rw [show i + (j + 1) + 1 = i + 1 + j + 1 by omega] at this
        exact this
      refine ⟨e3, ?_⟩
      have e : loopS g body (d :: ds) env = loopS g body ds e2 := by
        show eBind (g d) _ env = _
        rw [a_bind, h1, at_some, a_bind, h2, at_some]
      rw [e, List.length_cons, show i + (ds.length + 1) = i + 1 + ds.length by omega]
      exact h4
    · refine ⟨e2, .inr ⟨?_, h3⟩⟩
      show eBind (g d) _ env = _
      rw [a_bind, h1, at_some, a_bind, h2, at_some]
      rfl
/-- a comprehension whose items change the first slot alone -/
theorem loopC_draw {i : Nat} {f : EM R} {rest : DL.Env} {P : Dat → Prop} {B : Nat → Dat → Prop} {k M : Nat} (hr : rest[i]? = some none) : ∀ (ds acc : List Dat) (m : Nat) (d : Dat), B m d → m + ds.length * k ≤ M →
    (∀ (x : Dat) (m' : Nat) (d : Dat), x ∈ ds → B m' d → m' + k ≤ M → ∃ (r : R) (v d' : Dat), f (some (.mtb d) :: rest.set i (some (.val x))) = some (r, some (.mtb d') :: rest.set i (some (.val x))) ∧ eForce r (some (.mtb d') :: rest.set i (some (.val x))) = some (v, some (.mtb d') :: rest.set i (some (.val x))) ∧ P v ∧ B (m' + k) d') →
    acc.length + ds.length ≤ 100000 →
    ∃ (vs : List Dat) (d' : Dat), loopC (gPut (i + 1)) (eRet true) f [i + 1] ds acc (some (.mtb d) :: rest) = some (acc ++ vs, some (.mtb d') :: rest) ∧ vs.length = ds.length ∧ (∀ v ∈ vs, P v) ∧ B (m + ds.length * k) d'
  | [], acc, m, d, hB, hM, _, _ => ⟨[], d, by show some (acc, _) = _; simp, rfl, by simp, by simpa using hB⟩
  | x :: ds, acc, m, d, hB, hM, hf, hl => by
    have hi : i < rest.length := (List.getElem?_eq_some_iff.mp hr).1
    have hk : m + k ≤ M := by
      rw [List.length_cons, Nat.succ_mul] at hM
      omega
    obtain ⟨r, v, d1, h1, h2, hP, hB1⟩ := hf x m d (by simp) hB hk
    obtain ⟨vs, d2, h3, h4, h5, h6⟩ := loopC_draw hr ds (acc ++ [v]) (m + k) d1 hB1 (by rw [List.length_cons, Nat.succ_mul] at hM; omega) (fun y m' d hy => hf y m' d (by simp [hy])) (by simp at hl ⊢; omega)
    refine ⟨v :: vs, d2, ?_, by simp [h4], fun y hy => ?_, by rw [List.length_cons, Nat.succ_mul, show m + (ds.length * k + k) = m + k + ds.length * k by omega]; exact h6⟩
    · have hp : gPut (i + 1) x (some (.mtb d) :: rest) = some ((), some (.mtb d) :: rest.set i (some (.val x))) := by
        rw [a_put, if_pos ⟨by simp; omega, by rw [List.getElem?_cons_succ, hr]; rfl⟩]
        rfl
      have hw : eWipe [i + 1] (some (.mtb d1) :: rest.set i (some (.val x))) = some ((), some (.mtb d1) :: rest) := by
        have := wipe1 (i := i + 1) (env := some (Slot.mtb d1) :: rest) (d := x) (by rw [List.getElem?_cons_succ]; exact hr)
        rw [List.set_cons_succ] at this
        exact this
      show eBind (gPut (i + 1) x) _ _ = _
      rw [a_bind, hp, at_some, a_bind, a_ret, at_some, if_pos rfl, a_bind, h1, at_some, a_bind, h2, at_some, a_bind, hw, at_some, if_pos (by simp at hl; omega), h3]
      simp
    · rcases List.mem_cons.mp hy with z | z
      · rw [z]; exact hP
      · exact h5 y z
theorem eLc_draw {i : Nat} {it : EM (List Dat)} {f : EM R} {env0 rest : DL.Env} {P : Dat → Prop} {B : Nat → Dat → Prop} {k M m : Nat} {ds : List Dat} {d : Dat} (hit : it env0 = some (ds, some (.mtb d) :: rest)) (hr : rest[i]? = some none) (hB : B m d) (hM : m + ds.length * k ≤ M) (hl : ds.length ≤ 100000)
    (hf : ∀ (x : Dat) (m' : Nat) (d : Dat), x ∈ ds → B m' d → m' + k ≤ M → ∃ (r : R) (v d' : Dat), f (some (.mtb d) :: rest.set i (some (.val x))) = some (r, some (.mtb d') :: rest.set i (some (.val x))) ∧ eForce r (some (.mtb d') :: rest.set i (some (.val x))) = some (v, some (.mtb d') :: rest.set i (some (.val x))) ∧ P v ∧ B (m' + k) d') :
    ∃ (vs : List Dat) (d' : Dat), eLc it (gPut (i + 1)) (eRet true) f [i + 1] env0 = some (.new (.lst vs), some (.mtb d') :: rest) ∧ vs.length = ds.length ∧ (∀ v ∈ vs, P v) ∧ B (m + ds.length * k) d' := by
  obtain ⟨vs, d', h1, h2, h3, h4⟩ := loopC_draw hr ds [] m d hB hM hf (by simpa using hl)
  refine ⟨vs, d', ?_, h2, h3, h4⟩
  unfold eLc
  rw [a_bind, hit, at_some]
  have hfr : freeAt [i + 1] (some (Slot.mtb d) :: rest) = true := by
    simp [freeAt, hr]
  rw [if_pos hfr, a_bind, h1]
  rfl
end DL
/-! Draws: take, of, names. -/
namespace Prg
open PySem PySem.Spec L2 DL
open PyProof.Rows hiding St
/-- the source of draws, m of them at most drawn by counting -/
def Bx (m : Nat) (d : Dat) : Prop := ∃ a b c : Int, d = .lst [.int a, .int b, .int c] ∧ 0 ≤ c ∧ c ≤ m
theorem Bx.mono {m k : Nat} {d : Dat} (h : Bx m d) (hk : m ≤ k) : Bx k d := by
  obtain ⟨a, b, c, e, h1, h2⟩ := h
  exact ⟨a, b, c, e, h1, by omega⟩
theorem dMul_i {i j : Int} (h : (-(2 ^ 64) < i ∧ i < 2 ^ 64) ∨ (-(2 ^ 64) < j ∧ j < 2 ^ 64)) : dMul (.int i) (.int j) = some (false, .int (i * j)) := if_pos h
theorem D_take {m : Nat} {d : Dat} (h : Bx m d) (hm : m ≤ 1000000) {n : Int} (h0 : 0 < n) (h1 : n < 1073741824) :
    ∃ (x : Int) (d' : Dat), F_L_take [some (.mtb d), some (.val (.int n))] = some (.val (.int x), [some (.mtb d'), some (.val (.int n))]) ∧ 0 ≤ x ∧ x < n ∧ Bx (m + 1) d' := by
  obtain ⟨a, b, c, rfl, hc0, hc1⟩ := h
  by_cases ha : 0 < a
  · refine ⟨a % n, .lst [.int (a / n), .int b, .int c], ?_, Int.emod_nonneg _ (by omega), Int.emod_lt_of_pos _ h0, _, _, _, rfl, hc0, by omega⟩
    unfold F_L_take fb_L_take
    simp [a_run, noOwnB, dIx, atI, ixN, dGt, dMod, dInt, int2, ha, h0, dFdv, h1]
  · have hmul : ∀ i : Int, dMul (.int i) (.int (39373 + (c + 1))) = some (false, .int (i * (39373 + (c + 1)))) := fun i => dMul_i (.inr ⟨by omega, by omega⟩)
    have hmul2 : ∀ i : Int, dMul (.int 48271) (.int i) = some (false, .int (48271 * i)) := fun i => dMul_i (.inl ⟨by decide, by decide⟩)
    have hmul3 : ∀ i : Int, dMul (.int i) (.int 48271) = some (false, .int (i * 48271)) := fun i => dMul_i (.inr ⟨by decide, by decide⟩)
    have hmul4 : ∀ i j : Int, dMul (.int i) (.int (j % 40009 + 7)) = some (false, .int (i * (j % 40009 + 7))) := fun i j => by
      have g1 := Int.emod_nonneg j (by decide : (40009 : Int) ≠ 0)
      have g2 := Int.emod_lt_of_pos j (by decide : (0 : Int) < 40009)
      exact dMul_i (.inr ⟨by omega, by omega⟩)
    have key : ∃ x : Int, F_L_take [some (.mtb (.lst [.int a, .int b, .int c])), some (.val (.int n))] = some (.val (.int (x % n)), [some (.mtb (.lst [.int a, .int b, .int (c + 1)])), some (.val (.int n))]) := by
      unfold F_L_take fb_L_take
      simp [a_run, noOwnB, dIx, atI, ixN, dGt, dMod, dInt, int2, ha, h0, dFdv, h1, dAdd, hmul, hmul2, hmul3, hmul4]
      exact ⟨_, rfl⟩
    obtain ⟨x, e⟩ := key
    exact ⟨x % n, .lst [.int a, .int b, .int (c + 1)], e, Int.emod_nonneg _ (by omega), Int.emod_lt_of_pos _ h0, a, b, c + 1, rfl, by omega, by push_cast; omega⟩
/-! ### of -/
theorem atI_in {α : Type} {ds : List α} {x : Int} (h0 : 0 ≤ x) (h1 : x < (ds.length : Int)) : ∃ y, atI ds x = some y ∧ y ∈ ds := by
  obtain ⟨j, rfl⟩ :=
      Int.eq_ofNat_of_zero_le h0
  have hj : j < ds.length := by omega
  refine ⟨ds[j], ?_, List.getElem_mem hj⟩
  have e : ixN ds.length (j : Int) = some j := by
    unfold ixN
    rw [if_pos h0, if_pos h1]
    rfl
  show (ixN ds.length (j : Int)).bind _ = _
  rw [e]
  exact List.getElem?_eq_getElem hj
theorem D_ofL {m : Nat} {d : Dat} (h : Bx m d) (hm : m ≤ 1000000) {ds : List Dat} (hne : ds ≠ []) (hl : ds.length ≤ 100000) :
    ∃ (x d' : Dat), F_L_of [some (.mtb d), some (.val (.lst ds))] = some (.val x, [some (.mtb d'), some (.val (.lst ds))]) ∧ x ∈ ds ∧ Bx (m + 1) d' := by
  have hp : 0 < ds.length := List.length_pos_iff.mpr hne
  obtain ⟨x, d', e, h0, h1, hb⟩ := D_take h hm (n := (ds.length : Int)) (by omega) (by omega)
  obtain ⟨y, e2, hy⟩ := atI_in h0 h1
  refine ⟨y, d', ?_, hy, hb⟩
  unfold F_L_of fb_L_of
  simp [a_run, noOwnB, dLen, e, dIx, e2]
theorem D_ofT {m : Nat} {d : Dat} (h : Bx m d) (hm : m ≤ 1000000) {ds : List Dat} (hne : ds ≠ []) (hl : ds.length ≤ 100000) :
    ∃ (x d' : Dat), F_L_of [some (.mtb d), some (.val (.tup ds))] = some (.val x, [some (.mtb d'), some (.val (.tup ds))]) ∧ x ∈ ds ∧ Bx (m + 1) d' := by
  have hp : 0 < ds.length := List.length_pos_iff.mpr hne
  obtain ⟨x, d', e, h0, h1, hb⟩ := D_take h hm (n := (ds.length : Int)) (by omega) (by omega)
  obtain ⟨y, e2, hy⟩ := atI_in h0 h1
  refine ⟨y, d', ?_, hy, hb⟩
  unfold F_L_of fb_L_of
  simp [a_run, noOwnB, dLen, e, dIx, e2]
theorem D_ofS {m : Nat} {d : Dat} (h : Bx m d) (hm : m ≤ 1000000) {z : Str} (hne : 0 < z.length) (hl : z.length ≤ 100000) :
    ∃ (c : Nat) (d' : Dat), F_L_of [some (.mtb d), some (.val (.str z))] = some (.val (chS c), [some (.mtb d'), some (.val (.str z))]) ∧ c ∈ z.cps.toList ∧ Bx (m + 1) d' := by
  obtain ⟨x, d', e, h0, h1, hb⟩ := D_take h hm (n := (z.length : Int)) (by omega) (by omega)
  obtain ⟨y, e2, hy⟩ := atI_in (ds := z.cps.toList) h0 (by rw [Array.length_toList]; exact h1)
  refine ⟨y, d', ?_, hy, hb⟩
  unfold F_L_of fb_L_of
  simp [a_run, noOwnB, dLen, hl, e, dIx, e2]
/-! ### names -/
theorem chars_strs : ∀ {vs : List Dat}, (∀ v ∈ vs, ∃ c, v = chS c ∧ letterC c = true) → ∃ cs : List Nat, vs = cs.map chS ∧ strsD vs = some (cs.map fun k => (⟨#[k]⟩ : Str)) ∧ cs.length = vs.length ∧ ∀ c ∈ cs, letterC c = true
  | [], _ => ⟨[], rfl, rfl, rfl, by simp⟩
  | v :: vs, h => by
    obtain ⟨c, rfl, hc⟩ := h v (by simp)
    obtain ⟨cs, h0, h1, h2, h3⟩ := chars_strs (vs := vs) fun x hx => h x (by simp [hx])
    refine ⟨c :: cs, by rw [h0]; rfl, ?_, by simp [h2], fun z hz => ?_⟩
    · show (strsD vs).map _ = _
      rw [h1]
      rfl
    · rcases List.mem_cons.mp hz with q | q
      · rw [q]; exact hc
      · exact h3 z q
theorem abc_letters : (Str.ofString "abcdefghijklmnopqrstuvwxyz").cps.toList.all letterC = true := by decide +kernel
theorem sum_ones : ∀ {zs : List Str}, (∀ z ∈ zs, z.length = 1) → (zs.map (·.length)).sum = zs.length
  | [], _ => rfl
  | z :: zs, h => by
    rw [List.map_cons, List.sum_cons, h z (by simp), sum_ones fun x hx => h x (by simp [hx])]
    simp
    omega
def wordOk (w : Str) : Prop := w.length ≤ 8
theorem abc_len : (Str.ofString "abcdefghijklmnopqrstuvwxyz").length = 26 := by decide +kernel
theorem join_word (cs : List Nat) : Txt.join (Str.ofString "") (cs.map fun k => (⟨#[k]⟩ : Str)) = ⟨cs.toArray⟩ := by
  have e0 : Str.ofString "" = ⟨#[]⟩ := by decide +kernel
  show (Builtin.Str.glued (PySem.Str.ofString "") _) = _
  rw [StrLaws.glued_eq_join, e0]
  exact PyProof.Rows.join_ones cs
/-- a word of so many small letters -/
def wordS (lo hi : Nat) (w : Str) : Prop := lo ≤ w.length ∧ w.length ≤ hi ∧ w.cps.toList.all letterC = true
theorem D_word {m : Nat} {d : Dat} (h : Bx m d) (hm : m ≤ 900000) (k : Dat) (fnd : List Dat) (s3 s4 : Option Slot) :
    ∃ (w : Str) (d' : Dat), eJoin (eCon (.str (Str.ofString ""))) (eLc (iRange (eOne (eOp2 dAdd (eCon (.int 1)) (eCallM F_L_take (eCons (eVar 0) (eOne (eCon (.int 4)))))))) (gPut 5) (eRet true) (eCallM F_L_of (eCons (eVar 0) (eOne (eCon (.str (Str.ofString "abcdefghijklmnopqrstuvwxyz")))))) [5]) [some (.mtb d), some (.val k), some (.own (.lst fnd)), s3, s4, none] =
      some (.val (.str w), [some (.mtb d'), some (.val k), some (.own (.lst fnd)), s3, s4, none]) ∧ wordS 1 4 w ∧ Bx (m + 5) d' := by
  obtain ⟨x, d1, e1, h0, h1, hb1⟩ := D_take h (by omega) (n := 4) (by decide) (by decide)
  have hit : iRange (eOne (eOp2 dAdd (eCon (.int 1)) (eCallM F_L_take (eCons (eVar 0) (eOne (eCon (.int 4))))))) [some (.mtb d), some (.val k), some (.own (.lst fnd)), s3, s4, none] = some (rngD 0 (1 + x).toNat, [some (.mtb d1), some (.val k), some (.own (.lst fnd)), s3, s4, none]) := by
    simp [e1, dAdd]
    rw [rangeO_e _ _ (by constructor <;> omega)]
  obtain ⟨vs, d2, e2, hl, hP, hb2⟩ := eLc_draw (i := 4) (P := fun v => ∃ c, v = chS c ∧ letterC c = true) (B := Bx) (k := 1) (M := 1000000) (f := eCallM F_L_of (eCons (eVar 0) (eOne (eCon (.str (Str.ofString "abcdefghijklmnopqrstuvwxyz")))))) hit rfl hb1 (by rw [rngD_len]; omega) (by rw [rngD_len]; omega) fun y m' d' _ hB hM => by
    obtain ⟨c, d3, e3, hc, hb3⟩ := D_ofS hB (by omega) (z := Str.ofString "abcdefghijklmnopqrstuvwxyz") (by rw [abc_len]; decide) (by rw [abc_len]; decide)
    refine ⟨.val (chS c), chS c, d3, ?_, rfl, ⟨c, rfl, List.all_eq_true.mp abc_letters c hc⟩, hb3⟩
    simp [e3]
  obtain ⟨cs, g0, g1, g2, g3⟩ := chars_strs hP
  have ones : ∀ z ∈ cs.map fun k => (⟨#[k]⟩ : Str), z.length = 1 := fun z hz => by
    obtain ⟨c, _, rfl⟩ := List.mem_map.mp hz
    rfl
  have hs := sum_ones ones
  have e0 : (Str.ofString "").length = 0 := by decide +kernel
  have hx : (1 + x).toNat ≤ 4 := by omega
  rw [rngD_len] at hl hb2
  have hlen : (⟨cs.toArray⟩ : Str).length = cs.length := by
    show cs.toArray.size = _
    rw [List.size_toArray]
  refine ⟨Txt.join (Str.ofString "") (cs.map fun k => (⟨#[k]⟩ : Str)), d2, ?_, ?_, hb2.mono (by omega)⟩
  · have hcond : ((cs.map fun k => (⟨#[k]⟩ : Str)).map (·.length)).sum + (cs.map fun k => (⟨#[k]⟩ : Str)).length * (Str.ofString "").length ≤ 100000 := by
      rw [hs, e0, List.length_map]
      omega
    generalize hzs : (cs.map fun k => (⟨#[k]⟩ : Str)) = zs at g1 hcond
    simp [e2, rowD, g1, hcond]
  · rw [join_word]
    exact ⟨by rw [hlen]; omega, by rw [hlen]; omega, by simpa using List.all_eq_true.mpr g3⟩
end Prg
/-! Drawn names; a drawn say. -/
namespace Prg
open PySem PySem.Spec L2 DL
open PyProof.Rows hiding St
theorem rngD_get {n i : Nat} {x : Dat} (h : (rngD 0 n)[i]? = some x) : x = .int i ∧ i < n := by
  unfold rngD at h
  rw [List.getElem?_map] at h
  by_cases hi : i < n
  · rw [List.getElem?_range hi] at h
    refine ⟨?_, hi⟩
    have := Option.some.inj h
    rw [← this]
    simp
  · rw [List.getElem?_eq_none (by simp; omega)] at h
    cases h
theorem cutS_le (z : Str) (lo hi : Option Int) : (cutS z lo hi).length ≤ z.length := cutS_length z lo hi
def wordE : EM R := eJoin (eCon (.str (Str.ofString ""))) (eLc (iRange (eOne (eOp2 dAdd (eCon (.int 1)) (eCallM F_L_take (eCons (eVar 0) (eOne (eCon (.int 4)))))))) (gPut 5) (eRet true) (eCallM F_L_of (eCons (eVar 0) (eOne (eCon (.str (Str.ofString "abcdefghijklmnopqrstuvwxyz")))))) [5])
def nameB : EM O := (sSeq (sSet 4 wordE) (sSeq (eIf (DL.tCmp dIn (eVar 4) (eVar 2)) (sSet 4 (eOp2 dAdd (eCut (eOp2 dAdd (eVar 4) (eCon (.str (Str.ofString "jjjj")))) oNone (oInt (eCon (.int 4)))) (eOp2 dMul (eOp2 dIx (eCon (.str (Str.ofString "abcdefghijklmnopqrstuvwxyz"))) (eVar 3)) (eCon (.int 2))))) (eRet .nx)) (sExp (eBind (hasL 2) fun _ => eApp 2 (eOne (eVar 4))))))
theorem fb_names : fb_L_names = sSeq (sSet 2 (eLst eNil)) (sSeq (sFor (iRange (eOne (eVar 1))) (gPut 3) nameB) (sRet (eVar 2))) := rfl
theorem D_word' {m : Nat} {d : Dat} (h : Bx m d) (hm : m ≤ 900000) (k : Dat) (fnd : List Dat) (s3 s4 : Option Slot) :
    ∃ (w : Str) (d' : Dat), wordE [some (.mtb d), some (.val k), some (.own (.lst fnd)), s3, s4, none] = some (.val (.str w), [some (.mtb d'), some (.val k), some (.own (.lst fnd)), s3, s4, none]) ∧ wordS 1 4 w ∧ Bx (m + 5) d' := D_word h hm k fnd s3 s4
abbrev eN (d k : Dat) (f : List Dat) (s3 s4 : Option Slot) : DL.Env := [some (.mtb d), some (.val k), some (.own (.lst f)), s3, s4, none]
theorem nameB_no {d d1 : Dat} {k : Nat} {ws : List Str} {j : Nat} {s4 : Option Slot} {w : Str} (hs4 : isMtb (some s4) = false) (ew : wordE (eN d (.int k) (ws.map .str) (some (.val (.int j))) s4) = some (.val (.str w), eN d1 (.int k) (ws.map .str) (some (.val (.int j))) s4))
    (hl : ws.length < 100000) (c : (ws.any fun y => y == w) = false) : nameB (eN d (.int k) (ws.map .str) (some (.val (.int j))) s4) = some (.nx, eN d1 (.int k) ((ws ++ [w]).map .str) (some (.val (.int j))) (some (.val (.str w)))) := by
  have hin : dIn (.str w) (.lst (ws.map .str)) = some (false, .bl false) := (dIn_N w ws).trans (by rw [c])
  unfold nameB
  simp [ew, hs4, hin, hl]
theorem len1 (ch : Nat) : (⟨#[ch]⟩ : Str).length = 1 := rfl
theorem mul2 (ch : Nat) : (Txt.mul (⟨#[ch]⟩ : Str) 2).length = 2 := by
  have := mulS_len (z := ⟨#[ch]⟩) (i := 2) (by decide)
  rw [len1] at this
  omega
theorem cut4 (z : Str) : (cutS z none (some 4)).length ≤ 4 := by
  have h : HT.sIx z.length z.length (some 4) ≤ 4 := Nat.min_le_left 4 z.length
  unfold cutS
  show (List.toArray _).size ≤ 4
  rw [List.size_toArray, List.length_take]
  omega
theorem mul2' (ch : Nat) : Txt.mul (⟨#[ch]⟩ : Str) 2 = ⟨#[ch, ch]⟩ := rfl
theorem cps_app (a b : Str) : (a ++ b).cps.toList = a.cps.toList ++ b.cps.toList := by
  rw [PySem.Str.cps_append]
  simp
theorem cut4_of {z : Str} (h : 4 ≤ z.length) : (cutS z none (some 4)).cps.toList = z.cps.toList.take 4 := by
  have h1 : HT.sIx z.length z.length (some 4) = 4 := by
    show min 4 z.length = 4
    omega
  have h0 : HT.sIx z.length 0 none = 0 := rfl
  unfold cutS
  rw [h1, h0]
  simp
/-- the word of this place: short, or long with its own last sign -/
def nmI (j : Nat) (v : Str) : Prop := wordS 1 4 v ∨ (wordS 6 6 v ∧ v.cps.toList.getLast? = (Str.ofString "abcdefghijklmnopqrstuvwxyz").cps.toList[j]?)
theorem nameB_yes {d d1 : Dat} {k : Nat} {ws : List Str} {j : Nat} {s4 : Option Slot} {w : Str} (hj : j < 26) (hw : wordS 1 4 w) (hs4 : isMtb (some s4) = false) (ew : wordE (eN d (.int k) (ws.map .str) (some (.val (.int j))) s4) = some (.val (.str w), eN d1 (.int k) (ws.map .str) (some (.val (.int j))) s4))
    (hl : ws.length < 100000) (c : (ws.any fun y => y == w) = true) : ∃ v : Str, (wordS 6 6 v ∧ v.cps.toList.getLast? = (Str.ofString "abcdefghijklmnopqrstuvwxyz").cps.toList[j]?) ∧ nameB (eN d (.int k) (ws.map .str) (some (.val (.int j))) s4) = some (.nx, eN d1 (.int k) ((ws ++ [v]).map .str) (some (.val (.int j))) (some (.val (.str v)))) := by
  have hin : dIn (.str w) (.lst (ws.map .str)) = some (false, .bl true) := (dIn_N w ws).trans (by rw [c])
  have hjl : j < (Str.ofString "abcdefghijklmnopqrstuvwxyz").cps.toList.length := by
    rw [Array.length_toList]
    have := abc_len
    show j < (Str.ofString "abcdefghijklmnopqrstuvwxyz").length
    omega
  obtain ⟨ch, ec, hch⟩ : ∃ ch, atI (Str.ofString "abcdefghijklmnopqrstuvwxyz").cps.toList (j : Int) = some ch ∧ (Str.ofString "abcdefghijklmnopqrstuvwxyz").cps.toList[j]? = some ch := by
    refine ⟨(Str.ofString "abcdefghijklmnopqrstuvwxyz").cps.toList[j], ?_, List.getElem?_eq_getElem hjl⟩
    have e : ixN (Str.ofString "abcdefghijklmnopqrstuvwxyz").cps.toList.length (j : Int) = some j := by
      unfold ixN
      rw [if_pos (by omega),
          if_pos (by omega)]
      rfl
    show (ixN _ (j : Int)).bind _ = _
    rw [e]
    exact List.getElem?_eq_getElem hjl
  have hlet : letterC ch = true := List.all_eq_true.mp abc_letters ch (List.mem_of_getElem? hch)
  have ha : (Str.ofString "abcdefghijklmnopqrstuvwxyz").length ≤ 100000 := by rw [abc_len]; omega
  have e4 : (Str.ofString "jjjj").length = 4 := by decide +kernel
  have j4 : (Str.ofString "jjjj").cps.toList.all letterC = true := by decide +kernel
  rw [hch]
  generalize hab : Str.ofString "abcdefghijklmnopqrstuvwxyz" = abc at ec ha
  have h5 := mul2 ch
  have h6 := cut4 (w ++ Str.ofString "jjjj")
  have hw2 := hw.2.1
  have hcut := cut4_of (z := w ++ Str.ofString "jjjj") (by rw [PySem.Str.length_append]; omega)
  have hlen4 : (cutS (w ++ Str.ofString "jjjj") none (some 4)).length = 4 := by
    show (cutS (w ++ Str.ofString "jjjj") none (some 4)).cps.size = 4
    rw [← Array.length_toList, hcut, List.length_take, Array.length_toList]
    show min 4 (w ++ Str.ofString "jjjj").length = 4
    rw [PySem.Str.length_append]
    omega
  refine ⟨cutS (w ++ Str.ofString "jjjj") none (some 4) ++ Txt.mul (⟨#[ch]⟩ : Str) 2, ⟨⟨by rw [PySem.Str.length_append]; omega, by rw [PySem.Str.length_append]; omega, ?_⟩, ?_⟩, ?_⟩
  · rw [cps_app, List.all_append, hcut, mul2']
    have hall : ((w ++ Str.ofString "jjjj").cps.toList.take 4).all letterC = true := by
      rw [List.all_eq_true]
      intro x hx
      have hx2 := List.mem_of_mem_take hx
      rw [cps_app] at hx2
      rcases List.mem_append.mp hx2 with q | q
      · exact List.all_eq_true.mp hw.2.2 x q
      · exact List.all_eq_true.mp j4 x q
    rw [hall]
    simp [hlet]
  · rw [cps_app, mul2']
    simp
  generalize hq : Str.ofString "jjjj" = jj at e4 h6
  generalize hv : cutS (w ++ jj) none (some 4) = v1 at h6
  generalize hm : Txt.mul (⟨#[ch]⟩ : Str) 2 = v2 at h5
  have x1 : dAdd (.str w) (.str jj) = some (false, .str (w ++ jj)) := if_pos (by omega)
  have x2 : dCut (.str (w ++ jj)) none (some 4) = some (false, .str v1) := by
    rw [← hv]
    exact if_pos (by rw [PySem.Str.length_append]; omega)
  have x3 : dIx (.str abc) (.int j) = some (false, .str ⟨#[ch]⟩) := by
    show (if abc.length ≤ 100000 then (atI abc.cps.toList (j : Int)).map fun c => (false, chS c) else none) = _
    rw [if_pos ha, ec]
    rfl
  have x4 : dMul (.str ⟨#[ch]⟩) (.int 2) = some (false, .str v2) := by
    rw [← hm]
    show (if (⟨#[ch]⟩ : Str).length ≤ 16 ∧ (0 : Int) ≤ 2 ∧ (2 : Int) ≤ 1000 then some (false, Dat.str (Txt.mul (⟨#[ch]⟩ : Str) 2)) else none) = _
    rw [if_pos ⟨by rw [len1]; omega, by omega, by omega⟩]
  have x5 : dAdd (.str v1) (.str v2) = some (false, .str (v1 ++ v2)) := if_pos (by omega)
  unfold nameB
  simp only [hq, hab]
  simp [ew, hs4, hin, hl, x1, x2, x3, x4, x5]
theorem abc_nodup : (Str.ofString "abcdefghijklmnopqrstuvwxyz").cps.toList.Nodup := by decide +kernel
/-- names of these places -/
def nmsI (ws : List Str) : Prop := ∀ (i : Nat) (w : Str), ws[i]? = some w → nmI i w
theorem nms_add {ws : List Str} {v : Str} (h : nmsI ws) (hn : ws.Nodup) (hl : ws.length < 26) (hv : (wordS 1 4 v ∧ (ws.any fun y => y == v) = false) ∨ (wordS 6 6 v ∧ v.cps.toList.getLast? = (Str.ofString "abcdefghijklmnopqrstuvwxyz").cps.toList[ws.length]?)) : nmsI (ws ++ [v]) ∧ (ws ++ [v]).Nodup := by
  constructor
  · intro i w hi
    by_cases hlt : i < ws.length
    · rw [List.getElem?_append_left hlt] at hi
      exact h i w hi
    · rw [List.getElem?_append_right (by omega)] at hi
      have : i = ws.length := by
        cases hq : i - ws.length with
        | zero => omega
        | succ n => rw [hq] at hi; cases hi
      subst this
      rw [Nat.sub_self] at hi
      cases hi
      exact hv.elim (fun z => .inl z.1) .inr
  · rw [List.nodup_append]
    refine ⟨hn, by simp, fun a ha b hb => ?_⟩
    rw [List.mem_singleton.mp hb]
    rintro rfl
    rcases hv with ⟨_, c⟩ | ⟨c1, c2⟩
    · rw [List.any_eq_false] at c
      exact c a ha (beq_self_eq_true a)
    · obtain ⟨i, hi⟩ := List.mem_iff_getElem?.mp ha
      have hlt := (List.getElem?_eq_some_iff.mp hi).1
      rcases h i a hi with z | ⟨z1, z2⟩
      · have := z.2.1
        have := c1.1
        omega
      · rw [c2] at z2
        have l1 : ws.length < (Str.ofString "abcdefghijklmnopqrstuvwxyz").cps.toList.length := by
          rw [Array.length_toList]
          have := abc_len
          show ws.length < (Str.ofString "abcdefghijklmnopqrstuvwxyz").length
          omega
        rw [List.getElem?_eq_getElem l1, List.getElem?_eq_getElem (by omega)] at z2
        have := (List.getElem_inj abc_nodup).mp (Option.some.inj z2)
        omega
end Prg
/-! Drawn names; a drawn say. -/
namespace Prg
open PySem PySem.Spec L2 DL
open PyProof.Rows hiding St
theorem D_names {m : Nat} {d : Dat} (h : Bx m d) (hm : m ≤ 850000) {k : Nat} (hk : k ≤ 5) :
    ∃ (ws : List Str) (d' : Dat), F_L_names [some (.mtb d), some (.val (.int k))] = some (.new (.lst (ws.map .str)), [some (.mtb d'), some (.val (.int k))]) ∧ ws.length = k ∧ nmsI ws ∧ ws.Nodup ∧ Bx (m + 5 * k) d' := by
  obtain ⟨e3, hloop, hI⟩ := loop_inv (g := gPut 3) (body := nameB)
    (fun i env => ∃ (d : Dat) (ws : List Str) (s3 s4 : Option Slot), env = eN d (.int k) (ws.map .str) s3 s4 ∧ Bx (m + 5 * i) d ∧ ws.length = i ∧ nmsI ws ∧ ws.Nodup ∧ isMtb (some s3) = false ∧ isMtb (some s4) = false)
    (rngD 0 k) 0 (eN d (.int k) [] none none) ⟨d, [], none, none, rfl, h, rfl, (fun i w e => by simp at e), List.nodup_nil, rfl, rfl⟩ (by
      rintro j x env hx ⟨d, ws, s3, s4, rfl, hB, hl, hw, hnd, hs3, hs4⟩
      obtain ⟨rfl, hj⟩ := rngD_get hx
      rw [Nat.zero_add] at hB hl
      obtain ⟨w, d1, ew, hwl, hB1⟩ := D_word' hB (by omega) (.int k) (ws.map .str) (some (.val (.int j))) s4
      have hp : gPut 3 (.int j) (eN d (.int k) (ws.map .str) s3 s4) = some ((), eN d (.int k) (ws.map .str) (some (.val (.int j))) s4) := by
        simp [hs3]
      refine ⟨eN d (.int k) (ws.map .str) (some (.val (.int j))) s4, ?_⟩
      cases c : ws.any fun y => y == w with
      | false =>
        obtain ⟨a1, a2⟩ := nms_add hw hnd (by omega) (.inl ⟨hwl, c⟩)
        exact ⟨_, hp, nameB_no hs4 ew (by omega) c, d1, ws ++ [w], _, _, rfl, hB1.mono (by omega), by simp [hl], a1, a2, rfl, rfl⟩
      | true =>
        obtain ⟨v0, hv0, e0⟩ := nameB_yes (by omega) hwl hs4 ew (by omega) c
        obtain ⟨a1, a2⟩ := nms_add hw hnd (by omega) (.inr ⟨hv0.1, by rw [hl]; exact hv0.2⟩)
        exact ⟨_, hp, e0, d1, ws ++ [v0], _, _, rfl, hB1.mono (by omega), by simp [hl], a1, a2, rfl, rfl⟩)
  obtain ⟨d', ws, s3, s4, rfl, hB, hl, hw, hnd, hs3, hs4⟩ := hI
  rw [rngD_len, Nat.zero_add] at hB hl
  refine ⟨ws, d', ?_, hl, hw, hnd, hB⟩
  have hr : ∀ env, rangeO [.int (k : Int)] env = some (rngD 0 k, env) := fun env => by
    have := rangeO_e (k : Int) env (by constructor <;> omega)
    rw [show (k : Int).toNat = k by omega] at this
    exact this
  have e1 : sSet 2 (eLst eNil) [some (.mtb d), some (.val (.int k)), none, none, none, none] = some (.nx, eN d (.int k) [] none none) := by simp
  have e2 : sFor (iRange (eOne (eVar 1))) (gPut 3) nameB (eN d (.int k) [] none none) = some (.nx, eN d' (.int k) (ws.map .str) s3 s4) := by
    have hi : iRange (eOne (eVar 1)) (eN d (.int k) [] none none) = some (rngD 0 k, eN d (.int k) [] none none) := by
      rw [a_irange, a_one, a_var, List.getElem?_cons_succ, List.getElem?_cons_zero, slotV_s, at_some, at_some, ls_cons, a_look, l_bor, List.getElem?_cons_succ, List.getElem?_cons_zero, slotD_s, we_some, at_some, ls_nil, at_some, at_some]
      exact hr _
    rw [a_sfor, hi, at_some]
    exact hloop
  have e3 : sRet (eVar 2) (eN d' (.int k) (ws.map .str) s3 s4) = some (.rt (.bor 2), eN d' (.int k) (ws.map .str) s3 s4) := by simp
  have eb : fb_L_names [some (.mtb d), some (.val (.int k)), none, none, none, none] = some (.rt (.bor 2), eN d' (.int k) (ws.map .str) s3 s4) := by
    rw [fb_names, a_seq, e1, at_some, seqO_n, a_seq, e2, at_some, seqO_n, e3]
  show runF 6 2 fb_L_names _ = _
  rw [a_run, if_pos ⟨rfl, rfl⟩]
  show andThen (fb_L_names [some (.mtb d), some (.val (.int k)), none, none, none, none]) _ = _
  rw [eb, at_some]
  rfl
/-! ### a say -/
/-- drawn data: short, no dicts -/
def okW : Nat → Dat → Prop
  | n + 1, .tup ds => ds.length ≤ 20 ∧ ∀ x ∈ ds, okW n x
  | _, .non => True
  | _, .bl _ => True
  | _, .int _ => True
  | _, .str z => z.length ≤ 20
  | _, _ => False
theorem okW.up : ∀ {n : Nat} {d : Dat}, okW n d → okW (n + 1) d
  | 0, d, h => by
    cases d <;> first | exact h | exact h.elim
  | n + 1, .tup ds, h => ⟨h.1, fun x hx => (h.2 x hx).up⟩
  | n + 1, .non, h => h
  | n + 1, .bl _, h => h
  | n + 1, .int _, h => h
  | n + 1, .str _, h => h
  | n + 1, .lst _, h => h.elim
  | n + 1, .dct _ _, h => h.elim
  | n + 1, .obj _ _ _, h => h.elim
  | n + 1, .ty _, h => h.elim
  | n + 1, .dcT _ _, h => h.elim
theorem okW.mono {n k : Nat} {d : Dat} (h : okW n d) (hk : n ≤ k) : okW k d := by
  induction hk with
  | refl => exact h
  | step _ ih => exact ih.up
theorem okW.okD : ∀ {n : Nat} {d : Dat}, okW n d → Prg.okD n d
  | 0, d, h => by
    cases d with
    | str z => have : z.length ≤ 20 := h; show z.length ≤ 1000; omega
    | _ => first | exact h | exact h.elim
  | n + 1, .tup ds, h => ⟨by have := h.1; omega, fun x hx => (h.2 x hx).okD⟩
  | n + 1, .non, h => h
  | n + 1, .bl _, h => h
  | n + 1, .int _, h => h
  | n + 1, .str z, h => by have : z.length ≤ 20 := h; show z.length ≤ 1000; omega
  | n + 1, .lst _, h => h.elim
  | n + 1, .dct _ _, h => h.elim
  | n + 1, .obj _ _ _, h => h.elim
  | n + 1, .ty _, h => h.elim
  | n + 1, .dcT _ _, h => h.elim
/-- the change that is put -/
def makeE : EM R := eOpN dTuple (eOne (eLc (iAny (eVar 1)) (gPut 8) (eRet true) (eCallM F_L_of (eCons (eVar 0) (eOne (eOp2 dAdd (eVar 2) (eLst (eOne (eCon (.int 0)))))))) [8]))
def sayB : EM O := (sSeq (sPar 6 7 (eCons (eCallM F_L_of (eCons (eVar 0) (eOne (eVar 2)))) (eOne (eCallM F_L_take (eCons (eVar 0) (eOne (eCon (.int 4)))))))) (eIf (DL.tCmp dLt (eVar 7) (eCon (.int 2))) (sExp (eBind (hasL 4) fun _ => eApp 4 (eOne (eTup (eCons (eCon (.str (Str.ofString "make"))) (eCons (eVar 6) (eOne makeE))))))) (eIf (DL.tCmp dEq (eVar 7) (eCon (.int 2))) (sExp (eBind (hasL 4) fun _ => eApp 4 (eOne (eTup (eCons (eCon (.str (Str.ofString "set"))) (eCons (eVar 6) (eCons (eCallM F_L_of (eCons (eVar 0) (eOne (eVar 1)))) (eOne (eCallM F_L_of (eCons (eVar 0) (eOne (eOp2 dAdd (eVar 2) (eLst (eOne (eCon (.int 0)))))))))))))))) (sExp (eBind (hasL 4) fun _ => eApp 4 (eOne (eTup (eCons (eCon (.str (Str.ofString "drop"))) (eOne (eVar 6))))))))))
theorem fb_say : fb_L_say = (sSeq (sSet 4 (eLst eNil)) (sSeq (sFor (iRange (eOne (eIf (DL.tCmp dNe (eVar 2) (eLst eNil)) (eCallM F_L_of (eCons (eVar 0) (eOne (eLst (eCons (eCon (.int 0)) (eCons (eCon (.int 1)) (eCons (eCon (.int 1)) (eOne (eCon (.int 2)))))))))) (eCon (.int 0))))) (gPut 5) sayB) (sRet (eTup (eCons (eCon (.str (Str.ofString "say"))) (eCons (eOpN dTuple (eOne (eVar 4))) (eOne (eCallM F_L_of (eCons (eVar 0) (eOne (eVar 3))))))))))) := rfl
/-- a TERM in this scope -/
def tmOk (N : List Str) (d : Dat) : Prop := (∃ i, d = .int i) ∨ ∃ z ∈ N, d = .str z
theorem tmOk.mono {N M : List Str} {d : Dat} (h : tmOk N d) (hs : ∀ z ∈ N, z ∈ M) : tmOk M d := h.elim .inl fun ⟨z, q, e⟩ => .inr ⟨z, hs z q, e⟩
abbrev S (s : String) : Dat := .str (Str.ofString s)
inductive Chg (N : List Str) (F : List Dat) : Dat → Prop
  | make {k ts} : tmOk N k → ts.length = F.length → (∀ t ∈ ts, tmOk N t) → Chg N F (.tup [S "make", k, .tup ts])
  | set {k f v} : tmOk N k → f ∈ F → tmOk N v → Chg N F (.tup [S "set", k, f, v])
  | drop {k} : tmOk N k → Chg N F (.tup [S "drop", k])
structure Rows (N : List Str) (F ts W : List Dat) : Prop where
  nk : ∀ x ∈ ts, tmOk N x
  nb : ∀ z ∈ N, Dat.str z ∈ ts
  fne : F ≠ []
  fl : F.length ≤ 5
  fk : ∀ x ∈ F, okW 0 x
  tl : ts.length ≤ 100
  tk : ∀ x ∈ ts, okW 0 x
  td : depDs ts = 0 ∧ noObjs ts = true
  wne : W ≠ []
  wl : W.length ≤ 100
  wk : ∀ x ∈ W, okW 0 x
abbrev eS (d : Dat) (F ts W cs : List Dat) (s5 s6 s7 : Option Slot) : DL.Env := [some (.mtb d), some (.val (.tup F)), some (.val (.lst ts)), some (.val (.lst W)), some (.own (.lst cs)), s5, s6, s7, none]
theorem D_make {m : Nat} {d : Dat} {N : List Str} {F ts W cs : List Dat} (R : Rows N F ts W) (h : Bx m d) (hm : m ≤ 900000) (s5 s6 s7 : Option Slot) :
    ∃ (vs : List Dat) (d' : Dat), makeE (eS d F ts W cs s5 s6 s7) = some (.val (.tup vs), eS d' F ts W cs s5 s6 s7) ∧ okW 1 (.tup vs) ∧ vs.length = F.length ∧ (∀ t ∈ vs, tmOk N t) ∧ Bx (m + 5) d' := by
  have hl := R.fl
  obtain ⟨vs, d2, e2, hvl, hP, hb2⟩ := eLc_draw (i := 7) (it := iAny (eVar 1)) (env0 := eS d F ts W cs s5 s6 s7) (P := fun x => okW 0 x ∧ tmOk N x) (B := Bx) (k := 1) (M := 1000000) (f := eCallM F_L_of (eCons (eVar 0) (eOne (eOp2 dAdd (eVar 2) (eLst (eOne (eCon (.int 0)))))))) (rest := [some (.val (.tup F)), some (.val (.lst ts)), some (.val (.lst W)), some (.own (.lst cs)), s5, s6, s7, none]) (ds := F) (d := d) (by simp [itemsD]) rfl h (by omega) (by omega) fun y m' d' _ hB hM => by
    obtain ⟨x, d3, e3, hx, hb3⟩ := D_ofL hB (by omega) (ds := ts ++ [.int 0]) (by simp) (by have := R.tl; simp; omega)
    have h1 : ts.length + 1 ≤ 100000 := by have := R.tl; omega
    refine ⟨.val x, x, d3, by simp [dAdd, h1, e3], rfl, ?_, hb3⟩
    rcases List.mem_append.mp hx
        with q | q
    · exact ⟨R.tk x q, R.nk x q⟩
    · rw [List.mem_singleton.mp q]
      exact ⟨trivial, .inl ⟨0, rfl⟩⟩
  refine ⟨vs, d2, ?_, ⟨by omega, fun x hx => (hP x hx).1⟩, hvl, fun x hx => (hP x hx).2, hb2.mono (by omega)⟩
  simp only [eS] at e2 ⊢
  unfold makeE
  simp [e2, dTuple]
theorem sayB_ok {m : Nat} {d : Dat} {N : List Str} {F ts W cs : List Dat} (R : Rows N F ts W) (htn : ts ≠ []) (h : Bx m d) (hm : m ≤ 890000) (hc : cs.length ≤ 10) {s5 s6 s7 : Option Slot} (hs6 : isMtb (some s6) = false) (hs7 : isMtb (some s7) = false) :
    ∃ (v d' : Dat) (t6 t7 : Option Slot), sayB (eS d F ts W cs s5 s6 s7) = some (.nx, eS d' F ts W (cs ++ [v]) s5 t6 t7) ∧ okW 2 v ∧ Chg N F v ∧ Bx (m + 10) d' ∧ isMtb (some t6) = false ∧ isMtb (some t7) = false := by
  have hcl : cs.length < 100000 := by omega
  obtain ⟨x, d1, e1, hx, hb1⟩ := D_ofL h (by omega) (ds := ts) htn (by have := R.tl; omega)
  obtain ⟨y, d2, e2, hy0, hy1, hb2⟩ := D_take hb1 (by omega) (n := 4) (by decide) (by decide)
  have hxk := R.tk x hx
  have hxn := R.nk x hx
  by_cases c1 : y < 2
  · obtain ⟨v, d3, e3, hv, hvl, hvt, hb3⟩ := D_make (cs := cs) R hb2 (by omega) s5 (some (.val x)) (some (.val (.int y)))
    simp only [eS] at e3
    refine ⟨.tup [.str (Str.ofString "make"), x, .tup v], d3, some (.val x), some (.val (.int y)), ?_, ⟨by simp, ?_⟩, .make hxn hvl hvt, hb3.mono (by omega), rfl, rfl⟩
    · unfold sayB
      simp [e1, e2, hs6, hs7, dLt, c1, hcl, e3]
    · intro z hz
      simp at hz
      rcases hz with q | q | q <;> rw [q]
      · have : (Str.ofString "make").length ≤ 20 := by decide +kernel
        exact this
      · exact hxk.up
      · exact hv
  · by_cases c2 : y = 2
    · subst c2
      obtain ⟨f, d3, e3, hf, hb3⟩ := D_ofT hb2 (by omega) (ds := F) R.fne (by have := R.fl; omega)
      obtain ⟨u, d4, e4, hu, hb4⟩ := D_ofL hb3 (by omega) (ds := ts ++ [.int 0]) (by simp) (by have := R.tl; simp; omega)
      have h1 : ts.length + 1 ≤ 100000 := by have := R.tl; omega
      refine ⟨.tup [.str (Str.ofString "set"), x, f, u], d4, some (.val x), some (.val (.int 2)), ?_, ⟨by simp, ?_⟩, .set hxn hf ((List.mem_append.mp hu).elim (R.nk u) fun q => by rw [List.mem_singleton.mp q]; exact .inl ⟨0, rfl⟩), hb4.mono (by omega), rfl, rfl⟩
      · unfold sayB
        simp [e1, e2, hs6, hs7, dLt, dEq, hcl, e3, e4, dAdd, h1]
      · intro z hz
        simp at hz
        rcases hz with q | q | q | q <;> rw [q]
        · have : (Str.ofString "set").length ≤ 20 := by decide +kernel
          exact this
        · exact hxk.up
        · exact (R.fk f hf).up
        · rcases List.mem_append.mp hu with q | q
          · exact (R.tk u q).up
          · rw [List.mem_singleton.mp q]; trivial
    · have c2' : (y == 2) = false := by rw [beq_eq_false_iff_ne]; exact c2
      refine ⟨.tup [.str (Str.ofString "drop"), x], d2, some (.val x), some (.val (.int y)), ?_, ⟨by simp, ?_⟩, .drop hxn, hb2.mono (by omega), rfl, rfl⟩
      · unfold sayB
        simp [e1, e2, hs6, hs7, dLt, c1, dEq, c2', hcl]
      · intro z hz
        simp at hz
        rcases hz with q | q <;> rw [q]
        · have : (Str.ofString "drop").length ≤ 20 := by decide +kernel
          exact this
        · exact hxk.up
end Prg
/-! A drawn say. -/
namespace Prg
open PySem PySem.Spec L2 DL
open PyProof.Rows hiding St
abbrev eW (d : Dat) (F ts W : List Dat) : DL.Env := [some (.mtb d), some (.val (.tup F)), some (.val (.lst ts)), some (.val (.lst W))]
theorem eqQ_l0 {ts : List Dat} (h : ts ≠ []) (hd : depDs ts = 0 ∧ noObjs ts = true) : eqQ (.lst ts) (.lst []) = some false := by
  have hl : ts.length ≠ 0 := fun e => h (List.length_eq_zero_iff.mp e)
  unfold eqQ
  rw [if_pos ⟨by rw [depD, hd.1]; decide, hd.2, rfl⟩, eqD, if_neg (by simpa using h)]
theorem eqQ_00 : eqQ (.lst []) (.lst []) = some true := by
  simp [eqQ, depD, depDs, noObj, noObjs, eqD, eqDs]
theorem sayLoop {N : List Str} {F ts W : List Dat} (R : Rows N F ts W) (htn : ts ≠ []) : ∀ (n : Nat), n ≤ 2 → ∀ {m : Nat} {d : Dat}, Bx m d → m ≤ 880000 →
    ∃ (cs : List Dat) (d' : Dat) (s5 s6 s7 : Option Slot), loopS (gPut 5) sayB (rngD 0 n) (eS d F ts W [] none none none) = some (.nx, eS d' F ts W cs s5 s6 s7) ∧ cs.length = n ∧ (∀ c ∈ cs, okW 2 c ∧ Chg N F c) ∧ Bx (m + 10 * n) d' := by
  intro n hn m d hB hm
  obtain ⟨e3, hloop, hI⟩ := loop_inv (g := gPut 5) (body := sayB)
    (fun i env => ∃ (d : Dat) (cs : List Dat) (s5 s6 s7 : Option Slot), env = eS d F ts W cs s5 s6 s7 ∧ Bx (m + 10 * i) d ∧ cs.length = i ∧ (∀ c ∈ cs, okW 2 c ∧ Chg N F c) ∧ isMtb (some s5) = false ∧ isMtb (some s6) = false ∧ isMtb (some s7) = false)
    (rngD 0 n) 0 (eS d F ts W [] none none none) ⟨d, [], none, none, none, rfl, hB, rfl, by simp, rfl, rfl, rfl⟩ (by
      rintro j x env hx ⟨d, cs, s5, s6, s7, rfl, hB, hl, hc, h5, h6, h7⟩
      obtain ⟨rfl, hj⟩ := rngD_get hx
      rw [Nat.zero_add] at hB hl
      obtain ⟨v, d1, t6, t7, e1, hv, hvc, hB1, g6, g7⟩ := sayB_ok R htn hB (by omega) (cs := cs) (by omega) (s5 := some (.val (.int j))) h6 h7
      have hp : gPut 5 (.int j) (eS d F ts W cs s5 s6 s7) = some ((), eS d F ts W cs (some (.val (.int j))) s6 s7) := by
        rw [a_put, if_pos ⟨by simp, h5⟩]
        rfl
      refine ⟨_, _, hp, e1, d1, cs ++ [v], _, t6, t7, rfl, hB1.mono (by omega), by simp [hl], fun y hy => ?_, rfl, g6, g7⟩
      rcases List.mem_append.mp hy with q | q
      · exact hc y q
      · rw [List.mem_singleton.mp q]
        exact ⟨hv, hvc⟩)
  obtain ⟨d', cs, s5, s6, s7, rfl, hB', hl, hc, _, _, _⟩ := hI
  rw [rngD_len, Nat.zero_add] at hB' hl
  exact ⟨cs, d', s5, s6, s7, hloop, hl, hc, hB'⟩
def manyE : EM R := (eIf (DL.tCmp dNe (eVar 2) (eLst eNil)) (eCallM F_L_of (eCons (eVar 0) (eOne (eLst (eCons (eCon (.int 0)) (eCons (eCon (.int 1)) (eCons (eCon (.int 1)) (eOne (eCon (.int 2))))))))) ) (eCon (.int 0)))
theorem D_many {N : List Str} {F ts W : List Dat} (R : Rows N F ts W) {m : Nat} {d : Dat} (h : Bx m d) (hm : m ≤ 880000) :
    ∃ (n : Nat) (d' : Dat), manyE (eS d F ts W [] none none none) = some (.val (.int n), eS d' F ts W [] none none none) ∧ n ≤ 2 ∧ (ts = [] → n = 0) ∧ Bx (m + 1) d' := by
  by_cases ht : ts = []
  · subst ht
    refine ⟨0, d, ?_, by omega, fun _ => rfl, h.mono (by omega)⟩
    unfold manyE
    simp [dNe, eqQ_00]
  · obtain ⟨x, d1, e1, hx, hb1⟩ := D_ofL h (by omega) (ds := [.int 0, .int 1, .int 1, .int 2]) (by simp) (by simp)
    have hn : ∃ n : Nat, x = .int n ∧ n ≤ 2 := by
      simp at hx
      rcases hx with q | q | q
      · exact ⟨0, q, by omega⟩
      · exact ⟨1, q, by omega⟩
      · exact ⟨2, q, by omega⟩
    obtain ⟨n, rfl, hn⟩ := hn
    refine ⟨n, d1, ?_, hn, fun e => absurd e ht, hb1⟩
    unfold manyE
    simp [dNe, eqQ_l0 ht R.td, e1]
theorem D_say {N : List Str} {F ts W : List Dat} (R : Rows N F ts W) {m : Nat} {d : Dat} (h : Bx m d) (hm : m ≤ 870000) :
    ∃ (cs : List Dat) (w d' : Dat), F_L_say (eW d F ts W) = some (.val (.tup [S "say", .tup cs, w]), eW d' F ts W) ∧ okW 4 (.tup [S "say", .tup cs, w]) ∧ cs.length ≤ 2 ∧ (∀ c ∈ cs, Chg N F c) ∧ w ∈ W ∧ Bx (m + 30) d' := by
  obtain ⟨n, d1, e1, hn, hn0, hb1⟩ := D_many R h (by omega)
  have loop : ∃ (cs : List Dat) (d2 : Dat) (s5 s6 s7 : Option Slot), loopS (gPut 5) sayB (rngD 0 n) (eS d1 F ts W [] none none none) = some (.nx, eS d2 F ts W cs s5 s6 s7) ∧ cs.length ≤ 2 ∧ (∀ c ∈ cs, okW 2 c ∧ Chg N F c) ∧ Bx (m + 1 + 20) d2 := by
    by_cases ht : ts = []
    · have := hn0 ht
      subst this
      exact ⟨[], d1, none, none, none, rfl, by simp, by simp, hb1.mono (by omega)⟩
    · obtain ⟨cs, d2, s5, s6, s7, e2, hl, hc, hb2⟩ := sayLoop R ht n hn hb1 (by omega)
      exact ⟨cs, d2, s5, s6, s7, e2, by omega, hc, hb2.mono (by omega)⟩
  obtain ⟨cs, d2, s5, s6, s7, e2, hl, hc, hb2⟩ := loop
  obtain ⟨w, d3, e3, hw, hb3⟩ := D_ofL hb2 (by omega) (ds := W) R.wne (by have := R.wl; omega)
  refine ⟨cs, w, d3, ?_, ⟨by simp, fun z hz => ?_⟩, hl, fun c hcc => (hc c hcc).2, hw, hb3.mono (by omega)⟩
  · have x1 : sSet 4 (eLst eNil) (eW d F ts W ++ [none, none, none, none, none]) = some (.nx, eS d F ts W [] none none none) := by simp
    have x2 : iRange (eOne manyE) (eS d F ts W [] none none none) = some (rngD 0 n, eS d1 F ts W [] none none none) := by
      rw [a_irange, a_one, e1, at_some, at_some, ls_cons, a_look, l_val, we_some, at_some, ls_nil, at_some, at_some]
      have := rangeO_e (n : Int) (eS d1 F ts W [] none none none) (by constructor <;> omega)
      rw [show (n : Int).toNat = n by omega] at this
      exact this
    have x3 : sFor (iRange (eOne manyE)) (gPut 5) sayB (eS d F ts W [] none none none) = some (.nx, eS d2 F ts W cs s5 s6 s7) := by
      rw [a_sfor, x2, at_some]
      exact e2
    have x4 : sRet (eTup (eCons (eCon (.str (Str.ofString "say"))) (eCons (eOpN dTuple (eOne (eVar 4))) (eOne (eCallM F_L_of (eCons (eVar 0) (eOne (eVar 3)))))))) (eS d2 F ts W cs s5 s6 s7) = some (.rt (.val (.tup [.str (Str.ofString "say"), .tup cs, w])), eS d3 F ts W cs s5 s6 s7) := by
      simp [dTuple, e3]
    have eb : fb_L_say (eW d F ts W ++ [none, none, none, none, none]) = some (.rt (.val (.tup [.str (Str.ofString "say"), .tup cs, w])), eS d3 F ts W cs s5 s6 s7) := by
      rw [fb_say, a_seq, x1, at_some, seqO_n, a_seq]
      show andThen (sFor (iRange (eOne manyE)) (gPut 5) sayB (eS d F ts W [] none none none)) _ = _
      rw [x3, at_some, seqO_n, x4]
    show runF 9 4 fb_L_say _ = _
    rw [a_run, if_pos ⟨rfl, rfl⟩]
    show andThen (fb_L_say (eW d F ts W ++ [none, none, none, none, none])) _ = _
    rw [eb, at_some]
    rfl
  · simp at hz
    rcases hz with q | q | q <;> rw [q]
    · have : (Str.ofString "say").length ≤ 20 := by decide +kernel
      exact this
    · exact ⟨by omega, fun c hcc => (hc c hcc).1⟩
    · exact (R.wk w hw).mono (by omega)
end Prg
/-! A drawn BODY. -/
namespace Prg
open PySem PySem.Spec L2 DL
open PyProof.Rows hiding St
theorem merge_vals : ∀ (ds : List Dat) (fs : DL.Env), merge (ds.map fun d => some (.val d)) fs = ds.map fun d => some (.val d)
  | [], _ => rfl
  | d :: ds, [] => rfl
  | d :: ds, f :: fs => by
    show some (.val d) :: merge (ds.map fun d => some (.val d)) fs = _
    rw [merge_vals ds fs]
    rfl
theorem okW0 {x : Dat} (h : okW 0 x) : depD x = 0 ∧ noObj x = true := by
  cases x <;> first | exact ⟨rfl, rfl⟩ | exact h.elim
theorem flat_all : ∀ {ts : List Dat}, (∀ x ∈ ts, okW 0 x) → depDs ts = 0 ∧ noObjs ts = true
  | [], _ => ⟨rfl, rfl⟩
  | t :: ts, h => by
    obtain ⟨h1, h2⟩ := okW0 (h t (by simp))
    obtain ⟨h3, h4⟩ := flat_all (ts := ts) fun x hx => h x (by simp [hx])
    exact ⟨by rw [depDs, h1, h3]; rfl, by rw [noObjs, h2, h4]; rfl⟩
theorem dNotIn_no (z : Str) {ts : List Dat} (h : ∀ x ∈ ts, okW 0 x) (hz : ∀ x ∈ ts, isS z x = false) : dNotIn (.str z) (.lst ts) = some (false, .bl true) := by
  have key : ∀ {ts : List Dat}, (∀ x ∈ ts, okW 0 x) → (∀ x ∈ ts, isS z x = false) → inDs (.str z) ts = some false := fun {ts} => by
    induction ts with
    | nil => intro _ _; rfl
    | cons t ts ih =>
      intro h hz
      have hb := ih (fun x hx => h x (by simp [hx])) fun x hx => hz x (by simp [hx])
      have hk := (h t (by simp)).okD
      show (match eqQ t (.str z), inDs (.str z) ts with
        | some a, some b => some (a || b)
        | _, _ => none) = _
      rw [eqQ_s' z hk (by omega), hb, hz t (by simp)]
      rfl
  show (inDs (.str z) ts).map (fun k => (false, Dat.bl (!k))) = _
  rw [key h hz]
  rfl
theorem isS_no {N : List Str} {z : Str} (hz : z ∉ N) {d : Dat} (h : tmOk N d) : isS z d = false := by
  rcases h with ⟨i, rfl⟩ | ⟨y, hy, rfl⟩
  · rfl
  · cases e : isS z (.str y) with
    | false => rfl
    | true =>
      have := isS_str e
      cases this
      exact absurd hy hz
/-- a BODY -/
inductive Bd where
  | say (cs : List Dat) (w : Dat)
  | lt (x : Str) (t f : Dat) (b : Bd)
  | hs (t : Dat) (a b : Bd)
  | tst (t f u : Dat) (a b : Bd)
def Bd.d : Bd → Dat
  | .say cs w => .tup [S "say", .tup cs, w]
  | .lt x t f b => .tup [S "let", .str x, t, f, b.d]
  | .hs t a b => .tup [S "has", t, a.d, b.d]
  | .tst t f u a b => .tup [S "is", t, f, u, a.d, b.d]
def Valid (F W : List Dat) : List Str → List Dat → Bd → Prop
  | N, T, .say cs w => (∀ c ∈ cs, Chg N F c) ∧ cs.length ≤ 2 ∧ w ∈ W
  | N, T, .lt x t f b => x = Str.ofString "x" ∧ x ∉ N ∧ tmOk N t ∧ t ∈ T ∧ f ∈ F ∧ Valid F W (N ++ [x]) T b
  | N, T, .hs t a b => tmOk N t ∧ Valid F W N (T ++ [t]) a ∧ Valid F W N T b
  | N, T, .tst t f u a b => tmOk N t ∧ t ∈ T ∧ f ∈ F ∧ tmOk N u ∧ Valid F W N T a ∧ Valid F W N T b
theorem Rows.add {N : List Str} {F ts W : List Dat} (R : Rows N F ts W) {x : Str} (h : okW 0 (.str x)) (hl : ts.length + 1 ≤ 100) : Rows (N ++ [x]) F (ts ++ [.str x]) W :=
  have hk : ∀ y ∈ ts ++ [Dat.str x], okW 0 y := fun y hy => (List.mem_append.mp hy).elim (R.tk y) fun q => by rw [List.mem_singleton.mp q]; exact h
  ⟨fun y hy => (List.mem_append.mp hy).elim (fun q => (R.nk y q).mono fun z hz => List.mem_append_left _ hz) fun q => by
      rw [List.mem_singleton.mp q]
      exact .inr ⟨x, by simp, rfl⟩, fun z hz => (List.mem_append.mp hz).elim (fun q => List.mem_append_left _ (R.nb z q)) fun q => by
      rw [List.mem_singleton.mp q]
      simp, R.fne, R.fl, R.fk, by simpa using hl, hk, flat_all hk, R.wne, R.wl, R.wk⟩
abbrev bArgs (F ts S : List Dat) (t l : Int) (W : List Dat) : List Dat := [.tup F, .lst ts, .lst S, .int t, .int l, .lst W]
abbrev eD (d : Dat) (as : List Dat) : DL.Env := some (.mtb d) :: as.map fun d => some (.val d)
abbrev nine : DL.Env := [none, none, none, none, none, none, none, none, none]
def bodyLet (fb : EM R) : EM O := (sSeq (sSet 7 (eIf (DL.tCmp dNotIn (eCon (.str (Str.ofString "x"))) (eVar 2)) (eCon (.str (Str.ofString "x"))) (eCon (.str (Str.ofString "xx"))))) (sSeq (sPar 8 9 (eCons (eCallM F_L_of (eCons (eVar 0) (eOne (eVar 3)))) (eOne (eCallM F_L_of (eCons (eVar 0) (eOne (eVar 1))))))) (sSeq (sSet 10 (eCallM fb (eCons (eVar 0) (eCons (eVar 1) (eCons (eOp2 dAdd (eVar 2) (eLst (eOne (eVar 7)))) (eCons (eVar 3) (eCons (eVar 4) (eCons (eOp2 dSub (eVar 5) (eCon (.int 1))) (eOne (eVar 6)))))))))) (sRet (eTup (eCons (eCon (.str (Str.ofString "let"))) (eCons (eVar 7) (eCons (eVar 8) (eCons (eVar 9) (eOne (eVar 10)))))))))))
def bodyIs (fb : EM R) : EM O := (sSeq (sSet 12 (eTup (eCons (eCon (.str (Str.ofString "is"))) (eCons (eCallM F_L_of (eCons (eVar 0) (eOne (eVar 3)))) (eCons (eCallM F_L_of (eCons (eVar 0) (eOne (eVar 1)))) (eOne (eCallM F_L_of (eCons (eVar 0) (eOne (eOp2 dAdd (eVar 2) (eLst (eOne (eCon (.int 0)))))))))))))) (sSet 13 (eCallM fb (eCons (eVar 0) (eCons (eVar 1) (eCons (eVar 2) (eCons (eVar 3) (eCons (eVar 11) (eCons (eVar 5) (eOne (eVar 6)))))))))))
def bodyHas (fb : EM R) : EM O := (sSeq (sSet 14 (eCallM F_L_of (eCons (eVar 0) (eOne (eVar 2))))) (sSeq (sSet 12 (eTup (eCons (eCon (.str (Str.ofString "has"))) (eOne (eVar 14))))) (sSet 13 (eCallM fb (eCons (eVar 0) (eCons (eVar 1) (eCons (eVar 2) (eCons (eOp2 dAdd (eVar 3) (eLst (eOne (eVar 14)))) (eCons (eVar 11) (eCons (eVar 5) (eOne (eVar 6))))))))))))
def bodyEnd (fb : EM R) : EM O := (sSeq (sSet 15 (eCallM fb (eCons (eVar 0) (eCons (eVar 1) (eCons (eVar 2) (eCons (eVar 3) (eCons (eOp2 dSub (eOp2 dSub (eVar 4) (eCon (.int 1))) (eVar 11)) (eCons (eVar 5) (eOne (eVar 6)))))))))) (sRet (eOp2 dAdd (eVar 12) (eTup (eCons (eVar 13) (eOne (eVar 15)))))))
theorem fb_body (fb : EM R) : fb_L_body fb = (sSeq (eIf (tAnd2 (DL.tCmp dNe (eVar 3) (eLst eNil)) (tAnd2 (DL.tCmp dGt (eVar 5) (eCon (.int 0))) (DL.tCmp dEq (eCallM F_L_take (eCons (eVar 0) (eOne (eCon (.int 3))))) (eCon (.int 0))))) (bodyLet fb) (eRet .nx)) (sSeq (eIf (tOr2 (DL.tCmp dEq (eVar 4) (eCon (.int 0))) (DL.tCmp dEq (eVar 2) (eLst eNil))) (sRet (eCallM F_L_say (eCons (eVar 0) (eCons (eVar 1) (eCons (eVar 2) (eOne (eVar 6))))))) (eRet .nx)) (sSeq (sSet 11 (eCallM F_L_take (eCons (eVar 0) (eOne (eVar 4))))) (sSeq (eIf (tAnd2 (DL.tCmp dNe (eVar 3) (eLst eNil)) (DL.tCmp dEq (eCallM F_L_take (eCons (eVar 0) (eOne (eCon (.int 2))))) (eCon (.int 0)))) (bodyIs fb) (bodyHas fb)) (bodyEnd fb))))) := rfl
/-- what a call of the def itself gives -/
def Rec (fb : EM R) (j : Nat) : Prop := ∀ {N : List Str} {F ts W S : List Dat} {t l m : Nat} {d : Dat}, t + l ≤ j → Rows N F ts W → ts.length + j ≤ 90 → (∀ x ∈ S, okW 0 x) → (∀ x ∈ S, tmOk N x) → S.length + j ≤ 90 → (0 < l → l = 1 ∧ Str.ofString "x" ∉ N) → Bx m d → m + 50 * 3 ^ j ≤ 860000 →
  ∃ (b : Bd) (d' : Dat), fb (eD d (bArgs F ts S t l W)) = some (.val b.d, eD d' (bArgs F ts S t l W)) ∧ okW (4 + j) b.d ∧ Valid F W N S b ∧ Bx (m + 50 * 3 ^ j) d'
theorem w20 (s : String) (h : (Str.ofString s).length ≤ 20) (n : Nat) : okW n (.str (Str.ofString s)) := by
  cases n <;> exact h
theorem ex_r {e : Option (O × DL.Env)} {o : O} {d : Dat} {B : Prop} (h : ∃ r, e = some (o, some (.mtb d) :: r)) (hB : B) : ∃ r, e = some (o, some (.mtb d) :: r) ∧ B :=
  h.elim fun r q => ⟨r, q, hB⟩
theorem let_ok {fb : EM R} {j : Nat} (ih : Rec fb j) {N : List Str} {F ts W S : List Dat} {t l m : Nat} {d : Dat} (hj : t + l ≤ j + 1) (hl0 : 0 < l) (R : Rows N F ts W) (ht : ts.length + (j + 1) ≤ 90) (hS : ∀ x ∈ S, okW 0 x) (hSn : ∀ x ∈ S, tmOk N x) (hne : S ≠ []) (hSl : S.length + (j + 1) ≤ 90) (hx1 : 0 < l → l = 1 ∧ Str.ofString "x" ∉ N) (h : Bx m d) (hm : m + 2 + 50 * 3 ^ j ≤ 860000) :
    ∃ (b : Bd) (d' : Dat) (r : DL.Env), bodyLet fb (eD d (bArgs F ts S t l W) ++ nine) = some (.rt (.val b.d), some (.mtb d') :: r) ∧ okW (4 + (j + 1)) b.d ∧ Valid F W N S b ∧ Bx (m + 2 + 50 * 3 ^ j) d' := by
  have h3 : 50 * 3 ^ (j + 1) = 150 * 3 ^ j := by rw [Nat.pow_succ]; omega
  have h4 : 1 ≤ 3 ^ j := Nat.pow_pos (by decide)
  obtain ⟨hl1, hxN⟩ := hx1 hl0
  have hb := dNotIn_no (Str.ofString "x") R.tk fun y hy => isS_no hxN (R.nk y hy)
  obtain ⟨x, d1, e1, hx, hb1⟩ := D_ofL h (by omega) (ds := S) hne (by omega)
  obtain ⟨f, d2, e2, hf, hb2⟩ := D_ofT hb1 (by omega) (ds := F) R.fne (by have := R.fl; omega)
  have htl : ts.length + 1 ≤ 100000 := by omega
  have lx : (Str.ofString "x").length ≤ 20 := by decide +kernel
  have ll : (Str.ofString "let").length ≤ 20 := by decide +kernel
  have ok0 : okW 0 (.str (Str.ofString "x")) := w20 "x" lx 0
  have hy := ih (t := t) (l := l - 1) (by omega) (R.add ok0 (by omega)) (by simp; omega) hS (fun y hy => (hSn y hy).mono fun z hz => List.mem_append_left _ hz) (by omega) (fun z => by omega) hb2 (by omega)
  rw [show ((l - 1 : Nat) : Int) = (l : Int) - 1 by omega] at hy
  obtain ⟨v, d3, e3, hv, hvv, hb3⟩ := hy
  simp only [eD, bArgs, List.map_cons, List.map_nil] at e3
  refine ⟨.lt (Str.ofString "x") x f v, d3, ex_r ?_ ⟨⟨by simp, fun z hz => ?_⟩, ⟨rfl, hxN, hSn x hx, hx, hf, hvv⟩, hb3⟩⟩
  · unfold bodyLet
    simp [hb, e1, e2, dAdd, htl, dSub, int2, e3, Bd.d]
  · simp at hz
    rcases hz with q | q | q | q | q <;> rw [q]
    · exact w20 "let" ll _
    · exact ok0.mono (by omega)
    · exact (hS x hx).mono (by omega)
    · exact (R.fk f hf).mono (by omega)
    · exact hv
end Prg
/-! A drawn BODY: the tests. -/
namespace Prg
open PySem PySem.Spec L2 DL
open PyProof.Rows hiding St
abbrev mid (c : Int) : DL.Env := [none, none, none, none, some (.val (.int c)), none, none, none, none]
abbrev aft (c : Int) (ms : List Dat) (v : Dat) (s : Option Slot) : DL.Env := [none, none, none, none, some (.val (.int c)), some (.val (.tup ms)), some (.val v), s, none]
theorem D_ofT0 {m : Nat} {d : Dat} {N : List Str} {ts : List Dat} (h : Bx m d) (hm : m ≤ 900000) (hl : ts.length ≤ 1000) (hk : ∀ x ∈ ts, okW 0 x) (hn : ∀ x ∈ ts, tmOk N x) :
    ∃ (y d' : Dat), F_L_of [some (.mtb d), some (.val (.lst (ts ++ [.int 0])))] = some (.val y, [some (.mtb d'), some (.val (.lst (ts ++ [.int 0])))]) ∧ okW 0 y ∧ tmOk N y ∧ Bx (m + 1) d' := by
  obtain ⟨y, d', e, hy, hb⟩ := D_ofL h (by omega) (ds := ts ++ [.int 0]) (by simp) (by simp; omega)
  refine ⟨y, d', e, ?_, ?_, hb⟩
  · rcases List.mem_append.mp hy with q | q
    · exact hk y q
    · rw [List.mem_singleton.mp q]; trivial
  · rcases List.mem_append.mp hy with q | q
    · exact hn y q
    · rw [List.mem_singleton.mp q]; exact .inl ⟨0, rfl⟩
/-- the first part of a test, with what stands behind yes -/
def Hd (F W : List Dat) (N : List Str) (T ms : List Dat) (v : Dat) : Prop := (∃ (x f y : Dat) (b : Bd), ms = [S "is", x, f, y] ∧ v = b.d ∧ tmOk N x ∧ x ∈ T ∧ f ∈ F ∧ tmOk N y ∧ Valid F W N T b) ∨ (∃ (y : Dat) (b : Bd), ms = [S "has", y] ∧ v = b.d ∧ tmOk N y ∧ Valid F W N (T ++ [y]) b)
theorem is_ok {fb : EM R} {j : Nat} (ih : Rec fb j) {N : List Str} {F ts W T : List Dat} {t l m c : Nat} {d : Dat} (hj : c + l ≤ j) (R : Rows N F ts W) (ht : ts.length + (j + 1) ≤ 90) (hS : ∀ x ∈ T, okW 0 x) (hSn : ∀ x ∈ T, tmOk N x) (hne : T ≠ []) (hSl : T.length + (j + 1) ≤ 90) (hx1 : 0 < l → l = 1 ∧ Str.ofString "x" ∉ N) (h : Bx m d) (hm : m + 3 + 50 * 3 ^ j ≤ 860000) :
    ∃ (ms : List Dat) (v d' : Dat) (s : Option Slot), bodyIs fb (eD d (bArgs F ts T t l W) ++ mid c) = some (.nx, eD d' (bArgs F ts T t l W) ++ aft c ms v s) ∧ ms.length ≤ 4 ∧ (∀ x ∈ ms, okW 0 x) ∧ okW (4 + j) v ∧ Hd F W N T ms v ∧ Bx (m + 3 + 50 * 3 ^ j) d' := by
  obtain ⟨x, d1, e1, hx, hb1⟩ := D_ofL h (by omega) (ds := T) hne (by omega)
  obtain ⟨f, d2, e2, hf, hb2⟩ := D_ofT hb1 (by omega) (ds := F) R.fne (by have := R.fl; omega)
  obtain ⟨y, d3, e3, hy, hyn, hb3⟩ := D_ofT0 hb2 (by omega) (by omega) R.tk R.nk
  obtain ⟨v, d4, e4, hv, hvv, hb4⟩ := ih (t := c) (l := l) hj R (by omega) hS hSn (by omega) hx1 hb3 (by omega)
  simp only [eD, bArgs, List.map_cons, List.map_nil] at e4
  have htl : ts.length + 1 ≤ 100000 := by omega
  have li : (Str.ofString "is").length ≤ 20 := by decide +kernel
  refine ⟨[.str (Str.ofString "is"), x, f, y], v.d, d4, none, ?_, by simp, fun z hz => ?_, hv, .inl ⟨x, f, y, v, rfl, rfl, hSn x hx, hx, hf, hyn, hvv⟩, hb4⟩
  · unfold bodyIs
    simp [e1, e2, dAdd, htl, e3, e4]
  · simp at hz
    rcases hz with q | q | q | q <;> rw [q]
    · exact w20 "is" li 0
    · exact hS x hx
    · exact R.fk f hf
    · exact hy
theorem has_ok {fb : EM R} {j : Nat} (ih : Rec fb j) {N : List Str} {F ts W T : List Dat} {t l m c : Nat} {d : Dat} (hj : c + l ≤ j) (R : Rows N F ts W) (ht : ts.length + (j + 1) ≤ 90) (htn : ts ≠ []) (hS : ∀ x ∈ T, okW 0 x) (hSn : ∀ x ∈ T, tmOk N x) (hSl : T.length + (j + 1) ≤ 90) (hx1 : 0 < l → l = 1 ∧ Str.ofString "x" ∉ N) (h : Bx m d) (hm : m + 3 + 50 * 3 ^ j ≤ 860000) :
    ∃ (ms : List Dat) (v d' : Dat) (s : Option Slot), bodyHas fb (eD d (bArgs F ts T t l W) ++ mid c) = some (.nx, eD d' (bArgs F ts T t l W) ++ aft c ms v s) ∧ ms.length ≤ 4 ∧ (∀ x ∈ ms, okW 0 x) ∧ okW (4 + j) v ∧ Hd F W N T ms v ∧ Bx (m + 3 + 50 * 3 ^ j) d' := by
  obtain ⟨y, d1, e1, hy, hb1⟩ := D_ofL h (by omega) (ds := ts) htn (by omega)
  have hS' : ∀ x ∈ T ++ [y], okW 0 x := fun x hx => (List.mem_append.mp hx).elim (hS x) fun q => by rw [List.mem_singleton.mp q]; exact R.tk y hy
  have hSn' : ∀ x ∈ T ++ [y], tmOk N x := fun x hx => (List.mem_append.mp hx).elim (hSn x) fun q => by rw [List.mem_singleton.mp q]; exact R.nk y hy
  obtain ⟨v, d4, e4, hv, hvv, hb4⟩ := ih (t := c) (l := l) hj R (by omega) hS' hSn' (by simp; omega) hx1 hb1 (by omega)
  simp only [eD, bArgs, List.map_cons, List.map_nil] at e4
  have hsl : T.length + 1 ≤ 100000 := by omega
  have li : (Str.ofString "has").length ≤ 20 := by decide +kernel
  refine ⟨[.str (Str.ofString "has"), y], v.d, d4, some (.val y), ?_, by simp, fun z hz => ?_, hv, .inr ⟨y, v, rfl, rfl, R.nk y hy, hvv⟩, hb4.mono (by omega)⟩
  · unfold bodyHas
    simp [e1, dAdd, hsl, e4]
  · simp at hz
    rcases hz with q | q <;> rw [q]
    · exact w20 "has" li 0
    · exact R.tk y hy
theorem end_ok {fb : EM R} {j : Nat} (ih : Rec fb j) {N : List Str} {F ts W T ms : List Dat} {t l m c : Nat} {d v : Dat} {s : Option Slot} (hj : t + l ≤ j + 1) (hc : c < t) (R : Rows N F ts W) (ht : ts.length + (j + 1) ≤ 90) (hS : ∀ x ∈ T, okW 0 x) (hSn : ∀ x ∈ T, tmOk N x) (hSl : T.length + (j + 1) ≤ 90) (hx1 : 0 < l → l = 1 ∧ Str.ofString "x" ∉ N) (hm4 : ms.length ≤ 4) (hms : ∀ x ∈ ms, okW 0 x) (hv : okW (4 + j) v) (hh : Hd F W N T ms v) (h : Bx m d) (hm : m + 50 * 3 ^ j ≤ 860000) :
    ∃ (b : Bd) (d' : Dat) (r : DL.Env), bodyEnd fb (eD d (bArgs F ts T t l W) ++ aft c ms v s) = some (.rt (.val b.d), some (.mtb d') :: r) ∧ okW (4 + (j + 1)) b.d ∧ Valid F W N T b ∧ Bx (m + 50 * 3 ^ j) d' := by
  obtain ⟨v2, d4, e4, hv2, hvv2, hb4⟩ := ih (t := t - 1 - c) (l := l) (by omega) R (by omega) hS hSn (by omega) hx1 h (by omega)
  rw [show ((t - 1 - c : Nat) : Int) = (t : Int) - 1 - c by omega] at e4
  simp only [eD, bArgs, List.map_cons, List.map_nil] at e4
  have hl : ms.length + 2 ≤ 100000 := by omega
  have hok : okW (4 + (j + 1)) (.tup (ms ++ [v, v2.d])) := ⟨by simp; omega, fun z hz => by
    rcases List.mem_append.mp hz with q | q
    · exact (hms z q).mono (by omega)
    · simp at q
      rcases q with q | q <;> rw [q] <;> assumption⟩
  have er : ∃ r, bodyEnd fb (eD d (bArgs F ts T t l W) ++ aft c ms v s) = some (.rt (.val (.tup (ms ++ [v, v2.d]))), some (.mtb d4) :: r) := by
    unfold bodyEnd
    simp [dSub, int2, e4, dAdd, hl]
  obtain ⟨r, er⟩ := er
  rcases hh with ⟨x, f, y, b, rfl, rfl, q1, q2, q3, q4, q5⟩ | ⟨y, b, rfl, rfl, q1, q2⟩
  · exact ⟨.tst x f y b v2, d4, r, er, hok, ⟨q1, q2, q3, q4, q5, hvv2⟩, hb4⟩
  · exact ⟨.hs y b v2, d4, r, er, hok, ⟨q1, q2, hvv2⟩, hb4⟩
end Prg
/-! A drawn BODY, whole. -/
namespace Prg
open PySem PySem.Spec L2 DL
open PyProof.Rows hiding St
theorem seq_rt {f g : EM O} {e e1 : DL.Env} {r : R} (h : f e = some (.rt r, e1)) : sSeq f g e = some (.rt r, e1) := by
  rw [a_seq, h]; rfl
theorem seq_nx {f g : EM O} {e e1 : DL.Env} (h : f e = some (.nx, e1)) : sSeq f g e = g e1 := by
  rw [a_seq, h]; rfl
theorem if_t {α : Type} {c : EM Bool} {f g : EM α} {e e1 : DL.Env} (h : c e = some (true, e1)) : eIf c f g e = f e1 := by
  unfold eIf
  rw [a_bind, h, at_some]; rfl
theorem if_f {α : Type} {c : EM Bool} {f g : EM α} {e e1 : DL.Env} (h : c e = some (false, e1)) : eIf c f g e = g e1 := by
  unfold eIf
  rw [a_bind, h, at_some]; rfl
def cLet : EM Bool := (tAnd2 (DL.tCmp dNe (eVar 3) (eLst eNil)) (tAnd2 (DL.tCmp dGt (eVar 5) (eCon (.int 0))) (DL.tCmp dEq (eCallM F_L_take (eCons (eVar 0) (eOne (eCon (.int 3))))) (eCon (.int 0)))))
def cEnd : EM Bool := (tOr2 (DL.tCmp dEq (eVar 4) (eCon (.int 0))) (DL.tCmp dEq (eVar 2) (eLst eNil)))
def cIs : EM Bool := (tAnd2 (DL.tCmp dNe (eVar 3) (eLst eNil)) (DL.tCmp dEq (eCallM F_L_take (eCons (eVar 0) (eOne (eCon (.int 2))))) (eCon (.int 0))))
def sayE : EM O := (sRet (eCallM F_L_say (eCons (eVar 0) (eCons (eVar 1) (eCons (eVar 2) (eOne (eVar 6)))))))
def takeE : EM O := (sSet 11 (eCallM F_L_take (eCons (eVar 0) (eOne (eVar 4)))))
theorem fb_body' (fb : EM R) : fb_L_body fb = sSeq (eIf cLet (bodyLet fb) (eRet .nx)) (sSeq (eIf cEnd sayE (eRet .nx)) (sSeq takeE (sSeq (eIf cIs (bodyIs fb) (bodyHas fb)) (bodyEnd fb)))) := rfl
section
variable {N : List Str} {F ts W S : List Dat} {t l m : Nat} {d : Dat}
theorem cLet_ok (hS : ∀ x ∈ S, okW 0 x) (h : Bx m d) (hm : m ≤ 900000) :
    ∃ (b : Bool) (d' : Dat), cLet (eD d (bArgs F ts S t l W) ++ nine) = some (b, eD d' (bArgs F ts S t l W) ++ nine) ∧ (b = true → S ≠ [] ∧ 0 < l) ∧ Bx (m + 1) d' := by
  by_cases hs : S = []
  · subst hs
    refine ⟨false, d, ?_, by simp, h.mono (by omega)⟩
    unfold cLet
    simp [dNe, eqQ_00]
  · by_cases hl : 0 < l
    · obtain ⟨y, d1, e1, hy0, hy1, hb1⟩ := D_take h (by omega) (n := 3) (by decide) (by decide)
      refine ⟨y == 0, d1, ?_, fun _ => ⟨hs, hl⟩, hb1⟩
      unfold cLet
      simp [dNe, eqQ_l0 hs (flat_all hS), dGt, hl, e1, dEq]
    · have hl0 : l = 0 := by omega
      subst hl0
      refine ⟨false, d, ?_, by simp, h.mono (by omega)⟩
      unfold cLet
      simp [dNe, eqQ_l0 hs (flat_all hS), dGt]
theorem cEnd_ok (R : Rows N F ts W) : ∃ b : Bool, cEnd (eD d (bArgs F ts S t l W) ++ nine) = some (b, eD d (bArgs F ts S t l W) ++ nine) ∧ (b = false → 0 < t ∧ ts ≠ []) := by
  by_cases ht : t = 0
  · subst ht
    refine ⟨true, ?_, by simp⟩
    unfold cEnd
    simp [dEq]
  · have h0 : ((t : Int) == 0) = false := by rw [beq_eq_false_iff_ne]; omega
    by_cases hs : ts = []
    · subst hs
      refine ⟨true, ?_, by simp⟩
      unfold cEnd
      simp [dEq, h0, eqQ_00]
    · refine ⟨false, ?_, fun _ => ⟨by omega, hs⟩⟩
      unfold cEnd
      simp [dEq, h0, eqQ_l0 hs R.td]
theorem take_ok (ht : 0 < t) (hl : t ≤ 100) (h : Bx m d) (hm : m ≤ 900000) :
    ∃ (c : Nat) (d' : Dat), takeE (eD d (bArgs F ts S t l W) ++ nine) = some (.nx, eD d' (bArgs F ts S t l W) ++ mid c) ∧ c < t ∧ Bx (m + 1) d' := by
  obtain ⟨y, d1, e1, hy0, hy1, hb1⟩ := D_take h (by omega) (n := (t : Int)) (by omega) (by omega)
  refine ⟨y.toNat, d1, ?_, by omega, hb1⟩
  rw [show (y.toNat : Int) = y by omega]
  unfold takeE
  simp [e1]
theorem cIs_ok {c : Int} (hS : ∀ x ∈ S, okW 0 x) (h : Bx m d) (hm : m ≤ 900000) :
    ∃ (b : Bool) (d' : Dat), cIs (eD d (bArgs F ts S t l W) ++ mid c) = some (b, eD d' (bArgs F ts S t l W) ++ mid c) ∧ (b = true → S ≠ []) ∧ Bx (m + 1) d' := by
  by_cases hs : S = []
  · subst hs
    refine ⟨false, d, ?_, by simp, h.mono (by omega)⟩
    unfold cIs
    simp [dNe, eqQ_00]
  · obtain ⟨y, d1, e1, hy0, hy1, hb1⟩ := D_take h (by omega) (n := 2) (by decide) (by decide)
    refine ⟨y == 0, d1, ?_, fun _ => hs, hb1⟩
    unfold cIs
    simp [dNe, eqQ_l0 hs (flat_all hS), e1, dEq]
theorem say_ok (R : Rows N F ts W) (h : Bx m d) (hm : m ≤ 870000) :
    ∃ (b : Bd) (d' : Dat) (r : DL.Env), sayE (eD d (bArgs F ts S t l W) ++ nine) = some (.rt (.val b.d), some (.mtb d') :: r) ∧ okW 4 b.d ∧ Valid F W N S b ∧ Bx (m + 30) d' := by
  obtain ⟨cs, w, d1, e1, hv, hl, hc, hw, hb1⟩ := D_say R h hm
  refine ⟨.say cs w, d1, ex_r ?_ ⟨hv, ⟨hc, hl, hw⟩, hb1⟩⟩
  unfold sayE
  simp [e1, Bd.d]
end
theorem body_step {fb : EM R} {j : Nat} (ih : ∀ i, i + 1 = j → Rec fb i) (hj : j ≤ 60) {N : List Str} {F ts W S : List Dat} {t l m : Nat} {d : Dat} (htl : t + l ≤ j) (R : Rows N F ts W) (ht : ts.length + j ≤ 90) (hS : ∀ x ∈ S, okW 0 x) (hSn : ∀ x ∈ S, tmOk N x) (hSl : S.length + j ≤ 90) (hx1 : 0 < l → l = 1 ∧ Str.ofString "x" ∉ N) (h : Bx m d) (hm : m + 50 * 3 ^ j ≤ 860000) :
    ∃ (b : Bd) (d' : Dat) (r : DL.Env), fb_L_body fb (eD d (bArgs F ts S t l W) ++ nine) = some (.rt (.val b.d), some (.mtb d') :: r) ∧ okW (4 + j) b.d ∧ Valid F W N S b ∧ Bx (m + 50 * 3 ^ j) d' := by
  have p1 : 1 ≤ 3 ^ j := Nat.pow_pos (by decide)
  rw [fb_body']
  obtain ⟨b, d1, e1, hc1, hb1⟩ := cLet_ok (F := F) (ts := ts) (W := W) (t := t) (l := l) hS h (by omega)
  cases b with
  | true =>
    obtain ⟨hs, hl⟩ := hc1 rfl
    obtain ⟨i, rfl⟩ : ∃ i, j = i + 1 := ⟨j - 1, by omega⟩
    have h3 : 50 * 3 ^ (i + 1) = 150 * 3 ^ i := by rw [Nat.pow_succ]; omega
    have p2 : 1 ≤ 3 ^ i := Nat.pow_pos (by decide)
    obtain ⟨v, d2, r, e2, hv, hvv, hb2⟩ := let_ok (ih i rfl) (t := t) (l := l) htl hl R ht hS hSn hs hSl hx1 hb1 (by omega)
    exact ⟨v, d2, r, seq_rt ((if_t e1).trans e2), hv, hvv, hb2.mono (by omega)⟩
  | false =>
    have x1 : eIf cLet (bodyLet fb) (eRet .nx) (eD d (bArgs F ts S t l W) ++ nine) = some (.nx, eD d1 (bArgs F ts S t l W) ++ nine) := if_f e1
    rw [seq_nx x1]
    obtain ⟨b, e2, hc2⟩ := cEnd_ok (d := d1) (S := S) (t := t) (l := l) R
    cases b with
    | true =>
      obtain ⟨v, d2, r, e3, hv, hvv, hb2⟩ := say_ok (S := S) (t := t) (l := l) R hb1 (by omega)
      exact ⟨v, d2, r, seq_rt ((if_t e2).trans e3), hv.mono (by omega), hvv, hb2.mono (by omega)⟩
    | false =>
      obtain ⟨ht0, htn⟩ := hc2 rfl
      obtain ⟨i, rfl⟩ : ∃ i, j = i + 1 := ⟨j - 1, by omega⟩
      have h3 : 50 * 3 ^ (i + 1) = 150 * 3 ^ i := by rw [Nat.pow_succ]; omega
      have p2 : 1 ≤ 3 ^ i := Nat.pow_pos (by decide)
      have x2 : eIf cEnd sayE (eRet .nx) (eD d1 (bArgs F ts S t l W) ++ nine) = some (.nx, eD d1 (bArgs F ts S t l W) ++ nine) := if_f e2
      rw [seq_nx x2]
      obtain ⟨c, d3, e3, hc, hb3⟩ := take_ok (F := F) (ts := ts) (W := W) (S := S) (t := t) (l := l) ht0 (by omega) hb1 (by omega)
      rw [seq_nx e3]
      obtain ⟨b, d4, e4, hc4, hb4⟩ := cIs_ok (F := F) (ts := ts) (W := W) (t := t) (l := l) (c := c) hS hb3 (by omega)
      have key : ∃ (ms : List Dat) (v d' : Dat) (s : Option Slot), eIf cIs (bodyIs fb) (bodyHas fb) (eD d3 (bArgs F ts S t l W) ++ mid c) = some (.nx, eD d' (bArgs F ts S t l W) ++ aft c ms v s) ∧ ms.length ≤ 4 ∧ (∀ x ∈ ms, okW 0 x) ∧ okW (4 + i) v ∧ Hd F W N S ms v ∧ Bx (m + 6 + 50 * 3 ^ i) d' := by
        cases b with
        | true =>
          obtain ⟨ms, v, d5, s, e5, q1, q2, q3, q4, hb5⟩ := is_ok (ih i rfl) (t := t) (l := l) (c := c) (by omega) R ht hS hSn (hc4 rfl) hSl hx1 hb4 (by omega)
          exact ⟨ms, v, d5, s, (if_t e4).trans e5, q1, q2, q3, q4, hb5.mono (by omega)⟩
        | false =>
          obtain ⟨ms, v, d5, s, e5, q1, q2, q3, q4, hb5⟩ := has_ok (ih i rfl) (t := t) (l := l) (c := c) (by omega) R ht htn hS hSn hSl hx1 hb4 (by omega)
          exact ⟨ms, v, d5, s, (if_f e4).trans e5, q1, q2, q3, q4, hb5.mono (by omega)⟩
      obtain ⟨ms, v, d5, s, e5, q1, q2, q3, q4, hb5⟩ := key
      rw [seq_nx e5]
      obtain ⟨v', d6, r, e6, hv', hvv', hb6⟩ := end_ok (ih i rfl) htl hc R ht hS hSn hSl hx1 q1 q2 q3 q4 hb5 (by omega)
      exact ⟨v', d6, r, e6, hv', hvv', hb6.mono (by omega)⟩
theorem D_bodyR : ∀ (j fuel : Nat), j < fuel → j ≤ 60 → Rec (FR_L_body fuel) j
  | j, fuel + 1, hf, hj => by
    rename_i N F ts W S t l m d
    have ih : ∀ i, i + 1 = j → Rec (FR_L_body fuel) i := fun i hi => by
      subst hi
      exact D_bodyR i fuel (by omega) (by omega)
    intro htl R ht hS hSn hSl hx1 h hm
    obtain ⟨v, d', r, e, hv, hvv, hb⟩ := body_step ih hj htl R ht hS hSn hSl hx1 h hm
    refine ⟨v, d', ?_, hv, hvv, hb⟩
    show runF 16 7 (fb_L_body (FR_L_body fuel)) _ = _
    rw [a_run, if_pos ⟨rfl, rfl⟩]
    show andThen (fb_L_body (FR_L_body fuel) (eD d (bArgs F ts S t l W) ++ nine)) _ = _
    rw [e, at_some]
    show some (DL.R.val v.d, merge (eD d (bArgs F ts S t l W)) (some (.mtb d') :: r)) = _
    show some (DL.R.val v.d, some (.mtb d') :: merge ((bArgs F ts S t l W).map fun d => some (.val d)) r) = _
    rw [merge_vals]
/-- a drawn BODY -/
theorem D_body {N : List Str} {F ts W S : List Dat} {t l m : Nat} {d : Dat} {j : Nat} (hj : j ≤ 6) (htl : t + l ≤ j) (R : Rows N F ts W) (ht : ts.length + j ≤ 90) (hS : ∀ x ∈ S, okW 0 x) (hSn : ∀ x ∈ S, tmOk N x) (hSl : S.length + j ≤ 90) (hx1 : 0 < l → l = 1 ∧ Str.ofString "x" ∉ N) (h : Bx m d) (hm : m + 50 * 3 ^ j ≤ 860000) :
    ∃ (b : Bd) (d' : Dat), F_L_body (eD d (bArgs F ts S t l W)) = some (.val b.d, eD d' (bArgs F ts S t l W)) ∧ okW (4 + j) b.d ∧ Valid F W N S b ∧ Bx (m + 50 * 3 ^ j) d' := by
  exact D_bodyR j 60 (by omega) (by omega) htl R ht hS hSn hSl hx1 h hm
end Prg
/-! A drawn KIND. -/
namespace Prg
open PySem PySem.Spec L2 DL
open PyProof.Rows hiding St
theorem fb_kind : fb_L_kind = fb_L_kind := rfl
theorem D_ofC {m : Nat} {d : Dat} (h : Bx m d) (hm : m ≤ 900000) (ds : List Dat) (hne : ds ≠ []) (hl : ds.length ≤ 10) :
    ∃ (x : Dat) (d' : Dat), F_L_of [some (.mtb d), some (.val (.lst ds))] = some (.val x, [some (.mtb d'), some (.val (.lst ds))]) ∧ x ∈ ds ∧ Bx (m + 1) d' :=
  D_ofL h (by omega) hne (by omega)
theorem okW_tup {n : Nat} {zs : List Dat} (h1 : zs.length ≤ 20) (h2 : ∀ x ∈ zs, okW n x) : okW (n + 1) (.tup zs) := ⟨h1, h2⟩
abbrev kA (F : List Dat) (nm : Dat) (W cs : List Dat) : List Dat := [.tup F, nm, .lst W, .int 1, .int 3, .lst cs]
def parB (ps : List Str) : Bool := decide (ps.length ≤ 2) && decide ps.Nodup && ps.all nameS && ps.all (fun z => decide (z.length ≤ 20)) && !ps.contains (Str.ofString "x")
theorem par_all : ∀ x ∈ [Str.ofString "a", Str.ofString "k", Str.ofString "key"], ∀ y ∈ [Str.ofString "b", Str.ofString "v", Str.ofString "value"], parB [] = true ∧ parB [x] = true ∧ parB [x, y] = true := by decide +kernel
theorem cut2 (x y : Dat) {n : Int} (hn : n = 0 ∨ n = 1 ∨ n = 2) : ∃ zs : List Dat, dCut (.lst [x, y]) none (some n) = some (true, .lst zs) ∧ (zs = [] ∨ zs = [x] ∨ zs = [x, y]) := by
  rcases hn with q | q | q <;> subst q
  · exact ⟨[], rfl, by simp⟩
  · exact ⟨[x], rfl, by simp⟩
  · exact ⟨[x, y], rfl, by simp⟩
theorem D_kind {m : Nat} {d nm : Dat} {F W cs : List Dat} (hF : F ≠ []) (hFl : F.length ≤ 5) (hFk : ∀ x ∈ F, okW 0 x) (hW : W ≠ []) (hWl : W.length ≤ 100) (hWk : ∀ x ∈ W, okW 0 x) (hcl : cs.length ≤ 5) (hck : ∀ x ∈ cs, ∃ i : Int, x = .int i) (h : Bx m d) (hm : m ≤ 850000) :
    ∃ (ps : List Str) (b : Bd) (d' : Dat), F_L_kind (eD d (kA F nm W cs)) = some (.val (.tup [nm, .tup (ps.map .str), b.d]), eD d' (kA F nm W cs)) ∧ parB ps = true ∧ Valid F W ps [] b ∧ okW 8 b.d ∧ Bx (m + 5000) d' := by
  obtain ⟨x, d1, e1, hx, hb1⟩ := D_ofC h (by omega) [.str (Str.ofString "a"), .str (Str.ofString "k"), .str (Str.ofString "key")] (by simp) (by simp)
  obtain ⟨y, d2, e2, hy, hb2⟩ := D_ofC hb1 (by omega) [.str (Str.ofString "b"), .str (Str.ofString "v"), .str (Str.ofString "value")] (by simp) (by simp)
  obtain ⟨n, d3, e3, hnn, hb3⟩ := D_ofC hb2 (by omega) [.int 0, .int 1, .int 1, .int 1, .int 2, .int 2] (by simp) (by simp)
  obtain ⟨xs, rfl, hxs⟩ : ∃ xs, x = .str xs ∧ xs ∈ [Str.ofString "a", Str.ofString "k", Str.ofString "key"] := by
    simp only [List.mem_cons, List.mem_nil_iff, or_false] at hx ⊢
    rcases hx with q | q | q <;> exact ⟨_, q, by simp⟩
  obtain ⟨ys, rfl, hys⟩ : ∃ ys, y = .str ys ∧ ys ∈ [Str.ofString "b", Str.ofString "v", Str.ofString "value"] := by
    simp only [List.mem_cons, List.mem_nil_iff, or_false] at hy ⊢
    rcases hy with q | q | q <;> exact ⟨_, q, by simp⟩
  obtain ⟨i, rfl, hi⟩ : ∃ i : Int, n = .int i ∧ (i = 0 ∨ i = 1 ∨ i = 2) := by
    simp at hnn
    rcases hnn with q | q | q <;> exact ⟨_, q, by simp⟩
  obtain ⟨zs, ez, hz⟩ := cut2 (.str xs) (.str ys) hi
  obtain ⟨p0, p1, p2⟩ := par_all xs hxs ys hys
  obtain ⟨ps, rfl, hps⟩ : ∃ ps : List Str, zs = ps.map Dat.str ∧ parB ps = true := by
    rcases hz with q | q | q <;> subst q
    · exact ⟨[], rfl, p0⟩
    · exact ⟨[xs], rfl, p1⟩
    · exact ⟨[xs, ys], rfl, p2⟩
  have hps' := hps
  unfold parB at hps'
  simp only [Bool.and_eq_true, decide_eq_true_eq, List.all_eq_true, Bool.not_eq_true'] at hps'
  obtain ⟨⟨⟨⟨hpl, hpn⟩, hpnm⟩, hp20⟩, hpx⟩ := hps'
  have hck0 : ∀ x ∈ cs, okW 0 x := fun x hx => by
    obtain ⟨i, rfl⟩ := hck x hx
    trivial
  have htk : ∀ z ∈ ps.map Dat.str ++ cs, okW 0 z := fun z q => (List.mem_append.mp q).elim (fun q => by
    obtain ⟨p, hp, rfl⟩ :=
        List.mem_map.mp q
    exact hp20 p hp) (hck0 z)
  have hzl : (ps.map Dat.str).length ≤ 2 := by rw [List.length_map]; exact hpl
  have R : Rows ps F (ps.map Dat.str ++ cs) W := ⟨fun z q => (List.mem_append.mp q).elim (fun q => by
    obtain ⟨p, hp, rfl⟩ :=
        List.mem_map.mp q
    exact .inr ⟨p, hp, rfl⟩) fun q => .inl (hck z q), fun z q => List.mem_append_left _ (List.mem_map_of_mem q), hF, hFl, hFk, by rw [List.length_append]; omega, htk, flat_all htk, hW, hWl, hWk⟩
  obtain ⟨t, d4, e4, ht0, ht1, hb4⟩ := D_take hb3 (by omega) (n := 3) (by decide) (by decide)
  obtain ⟨b, d5, e5, hv, hvv, hb5⟩ := D_body (j := 4) (t := 1 + t.toNat) (l := 1) (S := []) (by omega) (by omega) R (by rw [List.length_append]; omega) (by simp) (by simp) (by simp) (fun _ => ⟨rfl, by simpa using hpx⟩) hb4 (by omega)
  rw [show ((1 + t.toNat : Nat) : Int) = 1 + t by omega, show ((1 : Nat) : Int) = 1 from rfl] at e5
  simp only [eD, bArgs, List.map_cons, List.map_nil] at e5
  refine ⟨ps, b, d5, ?_, hps, hvv, hv, hb5.mono (by omega)⟩
  generalize hzs : ps.map Dat.str = zs at ez e5 hzl
  have hsl : zs.length + cs.length ≤ 100000 := by omega
  show runF 10 7 fb_L_kind _ = _
  rw [a_run, if_pos ⟨rfl, rfl⟩]
  have eb : ∃ r, fb_L_kind (eD d (kA F nm W cs) ++ [none, none, none]) = some (.rt (.val (.tup [nm, .tup zs, b.d])), some (.mtb d5) :: r) := by
    unfold fb_L_kind
    simp [e1, e2, e3, ez, e4, e5, dAdd, dList, dTuple, hsl, int2]
  obtain ⟨r, eb⟩ := eb
  show andThen (fb_L_kind (eD d (kA F nm W cs) ++ [none, none, none])) _ = _
  rw [eb, at_some]
  show some (DL.R.val _, some (.mtb d5) :: merge ((kA F nm W cs).map fun d => some (.val d)) r) = _
  rw [merge_vals]
end Prg
/-! A drawn KIND is a KIND. -/
namespace Prg
open PySem PySem.Spec L2 DL
open PyProof.Rows hiding St
def Bd.dep : Bd → Nat
  | .say _ _ => 0
  | .lt _ _ _ b => b.dep + 1
  | .hs _ a b => max a.dep b.dep + 1
  | .tst _ _ _ a b => max a.dep b.dep + 1
theorem Bd.dep_le : ∀ (b : Bd) (n : Nat), okW n b.d → b.dep ≤ n
  | .say _ _, _, _ => Nat.zero_le _
  | .lt _ _ _ b, 0, h => h.elim
  | .hs _ a b, 0, h => h.elim
  | .tst _ _ _ a b, 0, h => h.elim
  | .lt x t f b, n + 1, h => by
    have := b.dep_le n (h.2 b.d (by simp))
    show b.dep + 1 ≤ _
    omega
  | .hs t a b, n + 1, h => by
    have h1 := a.dep_le n (h.2 a.d (by simp))
    have h2 := b.dep_le n (h.2 b.d (by simp))
    show max a.dep b.dep + 1 ≤ _
    omega
  | .tst t f u a b, n + 1, h => by
    have h1 := a.dep_le n (h.2 a.d (by simp))
    have h2 := b.dep_le n (h.2 b.d (by simp))
    show max a.dep b.dep + 1 ≤ _
    omega
theorem tmD_of {N : List Str} {d : Dat} (h : tmOk N d) : tmD N d = true := by
  rcases h with ⟨i, rfl⟩ | ⟨z, hz, rfl⟩
  · rfl
  · show (N.any fun y => y == z) = true
    rw [List.any_eq_true]
    exact ⟨z, hz, beq_self_eq_true z⟩
theorem tmOk_ky {N : List Str} {d : Dat} (h : tmOk N d) : kyD d = true := kyD_tm (tmD_of h)
theorem inF_of {F : List Str} {f : Dat} (h : f ∈ F.map Dat.str) : inF F f = true := by
  obtain ⟨s, hs, rfl⟩ := List.mem_map.mp h
  show (F.any fun s' => isS s' (.str s)) = true
  rw [List.any_eq_true]
  exact ⟨s, hs, beq_self_eq_true s⟩
theorem inT_of {T : List Dat} {t : Dat} (hk : kyD t = true) (h : t ∈ T) : inT T t = true := by
  show (T.any fun s => eqB s t) = true
  rw [List.any_eq_true]
  refine ⟨t, h, ?_⟩
  cases t <;> first | (cases hk; done) | (simp [eqB, eqD])
theorem chD_of {F : List Str} {N : List Str} {c : Dat} (h : Chg N (F.map .str) c) : chD F N c = true := by
  cases h with
  | make h1 h2 h3 =>
    rename_i k ts
    show (isS (Str.ofString "make") (S "make") && (tmD N k && (ts.length == F.length && ts.all (tmD N)))) = true
    rw [tmD_of h1, h2, List.length_map]
    simp [isS, List.all_eq_true]
    exact fun x hx => tmD_of (h3 x hx)
  | set h1 h2 h3 =>
    rename_i k f v
    show (isS (Str.ofString "set") (S "set") && (tmD N k && (inF F f && tmD N v))) = true
    rw [tmD_of h1, inF_of h2, tmD_of h3]
    simp [isS]
  | drop h1 =>
    rename_i k
    show (isS (Str.ofString "drop") (S "drop") && tmD N k) = true
    rw [tmD_of h1]
    simp [isS]
theorem isS_self (s : Str) : isS s (.str s) = true := beq_self_eq_true s
theorem nameX : nameS (Str.ofString "x") = true := by decide +kernel
theorem bodyD_of {F : List Str} {W : List Dat} (hW : ∀ w ∈ W, nmD w = true) : ∀ (b : Bd) (m : Nat) (N : List Str) (T : List Dat), b.dep < m → Valid (F.map .str) W N T b → bodyD F m N T b.d = true
  | _, 0, _, _, h, _ => absurd h (Nat.not_lt_zero _)
  | .say cs w, m + 1, N, T, _, h => by
    obtain ⟨h1, h2, h3⟩ := h
    show (if isS (Str.ofString "say") (S "say") = true then syD F N (.tup cs) w else _) = true
    rw [if_pos (isS_self _)]
    show (nmD w && cs.all (chD F N)) = true
    rw [hW w h3, Bool.true_and, List.all_eq_true]
    exact fun c hc => chD_of (h1 c hc)
  | .hs t a b, m + 1, N, T, hm, h => by
    obtain ⟨h1, h2, h3⟩ := h
    have hm' : max a.dep b.dep + 1 < m + 1 := hm
    have n1 : isS (Str.ofString "say") (S "has") = false := by decide +kernel
    show (if isS (Str.ofString "say") (S "has") = true then _ else if isS (Str.ofString "has") (S "has") = true then (tmD N t && (bodyD F m N (T ++ [t]) a.d && bodyD F m N T b.d)) else _) = true
    rw [n1, if_neg Bool.false_ne_true, if_pos (isS_self _), tmD_of h1, bodyD_of hW a m N _ (by omega) h2, bodyD_of hW b m N _ (by omega) h3]
    rfl
  | .tst t f u a b, m + 1, N, T, hm, h => by
    obtain ⟨h1, h2, h3, h4, h5, h6⟩ := h
    have hm' : max a.dep b.dep + 1 < m + 1 := hm
    have n1 : isS (Str.ofString "say") (S "is") = false := by decide +kernel
    have n2 : isS (Str.ofString "has") (S "is") = false := by decide +kernel
    show (if isS (Str.ofString "say") (S "is") = true then _ else if isS (Str.ofString "has") (S "is") = true then _ else if isS (Str.ofString "is") (S "is") = true then ((tmD N t && tmD N u) && ((inT T t && inF F f) && (bodyD F m N T a.d && bodyD F m N T b.d))) else _) = true
    rw [n1, if_neg Bool.false_ne_true, n2, if_neg Bool.false_ne_true, if_pos (isS_self _), tmD_of h1, tmD_of h4, inT_of (tmOk_ky h1) h2, inF_of h3, bodyD_of hW a m N _ (by omega) h5, bodyD_of hW b m N _ (by omega) h6]
    rfl
  | .lt x t f b, m + 1, N, T, hm, h => by
    obtain ⟨rfl, h2, h3, h4, h5, h6⟩ := h
    have hm' : b.dep + 1 < m + 1 := hm
    have n1 : isS (Str.ofString "say") (S "let") = false := by decide +kernel
    have n2 : isS (Str.ofString "has") (S "let") = false := by decide +kernel
    have n3 : isS (Str.ofString "is") (S "let") = false := by decide +kernel
    have hx : inN N (S "x") = false := by
      show (N.any fun y => y == Str.ofString "x") = false
      rw [List.any_eq_false]
      intro y hy e
      rw [beq_iff_eq] at e
      exact h2 (e ▸ hy)
    show (if isS (Str.ofString "say") (S "let") = true then _ else if isS (Str.ofString "has") (S "let") = true then _ else if isS (Str.ofString "is") (S "let") = true then _ else if isS (Str.ofString "let") (S "let") = true then ((nmD (S "x") && !inN N (S "x")) && (tmD N t && (inT T t && (inF F f && bodyD F m (N ++ [Str.ofString "x"]) T b.d)))) else _) = true
    rw [n1, if_neg Bool.false_ne_true, n2, if_neg Bool.false_ne_true, n3, if_neg Bool.false_ne_true, if_pos (isS_self _), hx, tmD_of h3, inT_of (tmOk_ky h3) h4, inF_of h5, bodyD_of hW b m _ _ (by omega) h6]
    show ((nameS (Str.ofString "x") && !false) && (true && (true && (true && true)))) = true
    rw [nameX]
    rfl
end Prg
/-! Running: comprehensions that change nothing; objects. -/
namespace Prg
open PySem PySem.Spec L2 DL
open PyProof.Rows hiding St
/-- a turn of a comprehension that changes nothing -/
def Turn1 (g : Dat → EM Unit) (t : EM Bool) (f : EM R) (vs : List Nat) (env : DL.Env) (p : Dat → Bool) (h : Dat → Dat) (d : Dat) : Prop :=
  ∃ (e : DL.Env) (r : DL.R), g d env = some ((), e) ∧ t e = some (p d, e) ∧ (p d = true → f e = some (r, e) ∧ eForce r e = some (h d, e)) ∧ eWipe vs e = some ((), env)
theorem loopC_gen {g : Dat → EM Unit} {t : EM Bool} {f : EM R} {vs : List Nat} {env : DL.Env} {p : Dat → Bool} {h : Dat → Dat} : ∀ (ds acc : List Dat), (∀ d ∈ ds, Turn1 g t f vs env p h d) → acc.length + ds.length ≤ 100000 → loopC g t f vs ds acc env = some (acc ++ (ds.filter p).map h, env)
  | [], acc, _, _ => by
    show some (acc, env) = _
    simp
  | d :: ds, acc, hd, hl => by
    obtain ⟨e, r, h1, h2, h3, h4⟩ := hd d (by simp)
    have ih := fun acc hl => loopC_gen (p := p) (h := h) ds acc (fun e he => hd e (by simp [he])) hl
    show eBind (g d) _ env = _
    rw [a_bind, h1, at_some, a_bind, h2, at_some]
    cases hp : p d with
    | true =>
      obtain ⟨h5, h6⟩ := h3 hp
      rw [if_pos rfl, a_bind, h5, at_some, a_bind, h6, at_some, a_bind, h4, at_some, if_pos (by simp at hl; omega), ih _ (by simp at hl ⊢; omega)]
      simp [hp]
    | false =>
      rw [if_neg Bool.false_ne_true, a_bind, h4, at_some, ih _ (by simp at hl ⊢; omega)]
      simp [hp]
theorem eLc_gen {it : EM (List Dat)} {g : Dat → EM Unit} {t : EM Bool} {f : EM R} {vs : List Nat} {env env1 : DL.Env} {ds : List Dat} (p : Dat → Bool) (h : Dat → Dat) (hi : it env = some (ds, env1)) (hf : freeAt vs env1 = true) (hl : ds.length ≤ 100000) (hd : ∀ d ∈ ds, Turn1 g t f vs env1 p h d) :
    eLc it g t f vs env = some (.new (.lst ((ds.filter p).map h)), env1) := by
  unfold eLc
  rw [a_bind, hi, at_some, if_pos hf, a_bind, loopC_gen ds [] hd (by simpa using hl), at_some]
  rfl
/-- two generators, nothing changed -/
theorem loop2_gen {g : Dat → EM Unit} {t : EM Bool} {it1 : EM (List Dat)} {g1 : Dat → EM Unit} {t1 : EM Bool} {f : EM R} {vs vs1 : List Nat} {env : DL.Env} {h : Dat → List Dat} {M : Nat} : ∀ (ds acc : List Dat),
    (∀ d ∈ ds, ∃ (e : DL.Env) (ds1 : List Dat) (p1 : Dat → Bool) (h1 : Dat → Dat), g d env = some ((), e) ∧ t e = some (true, e) ∧ it1 e = some (ds1, e) ∧ freeAt vs1 e = true ∧ (∀ d1 ∈ ds1, Turn1 g1 t1 f vs1 e p1 h1 d1) ∧ h d = (ds1.filter p1).map h1 ∧ ds1.length ≤ M ∧ eWipe vs e = some ((), env)) →
    acc.length + ds.length * M ≤ 100000 → DL.loop2 g t it1 g1 t1 f vs vs1 ds acc env = some (acc ++ ds.flatMap h, env)
  | [], acc, _, _ => by
    show some (acc, env) = _
    simp
  | d :: ds, acc, hd, hl => by
    obtain ⟨e, ds1, p1, h1, a1, a2, a3, a4, a5, a6, a7, a8⟩ := hd d (by simp)
    rw [List.length_cons, Nat.succ_mul] at hl
    have hle : ((ds1.filter p1).map h1).length ≤ ds1.length := by rw [List.length_map]; exact List.length_filter_le _ _
    show eBind (g d) _ env = _
    rw [a_bind, a1, at_some, a_bind, a2, at_some, if_pos rfl, a_bind, a3, at_some, if_pos a4, a_bind, loopC_gen ds1 acc a5 (by omega), at_some, a_bind, a8, at_some, loop2_gen (M := M) ds _ (fun e he => hd e (by simp [he])) (by rw [List.length_append]; omega)]
    rw [List.flatMap_cons, a6, List.append_assoc]
theorem eLc2_gen {it : EM (List Dat)} {g : Dat → EM Unit} {t : EM Bool} {it1 : EM (List Dat)} {g1 : Dat → EM Unit} {t1 : EM Bool} {f : EM R} {vs vs1 : List Nat} {env env1 : DL.Env} {ds : List Dat} {M : Nat} (h : Dat → List Dat) (hi : it env = some (ds, env1)) (hf : freeAt vs env1 = true) (hl : ds.length * M ≤ 100000)
    (hd : ∀ d ∈ ds, ∃ (e : DL.Env) (ds1 : List Dat) (p1 : Dat → Bool) (h1 : Dat → Dat), g d env1 = some ((), e) ∧ t e = some (true, e) ∧ it1 e = some (ds1, e) ∧ freeAt vs1 e = true ∧ (∀ d1 ∈ ds1, Turn1 g1 t1 f vs1 e p1 h1 d1) ∧ h d = (ds1.filter p1).map h1 ∧ ds1.length ≤ M ∧ eWipe vs e = some ((), env1)) :
    DL.eLc2 it g t it1 g1 t1 f vs vs1 env = some (.new (.lst (ds.flatMap h)), env1) := by
  unfold DL.eLc2
  rw [a_bind, hi, at_some, if_pos hf, a_bind, loop2_gen (M := M) ds [] hd (by simpa using hl), at_some]
  rfl
/-! objects -/
@[simp] theorem a_fld (c f : Str) (fo : EM R) (env : DL.Env) : eFld c f fo env = andThen (fo env) fun r e1 => andThen (eLook r e1) fun d e2 => withEnv (match d with
  | .obj c' ns ds => if c' = c then (fldD f ns ds).map DL.R.val else none
  | _ => none) e2 := rfl
@[simp] theorem a_enumx (fs : EM (List R)) (env : DL.Env) : iEnumX fs env = andThen (fs env) fun rs e1 => andThen (eForces rs e1) fun ds e2 => withEnv (match ds with
  | [.lst ds] => some (numbered 0 ds)
  | [.tup ds] => some (numbered 0 ds)
  | _ => none) e2 := rfl
@[simp] theorem a_sasg (f : EM R) (g : Dat → EM Unit) (env : DL.Env) : sAsg f g env = andThen (f env) fun r e1 => andThen (eForce r e1) fun d e2 => andThen (g d e2) fun _ e3 => some (.nx, e3) := rfl
@[simp] theorem a_swp (fs : EM (List R)) (env : DL.Env) : eSwap fs env = andThen (fs env) fun rs e1 => some (swap2 rs, e1) := rfl
/-- the Book of these fields and KINDs -/
def bookD (F : List Str) (ks : List Dat) : Dat := .obj (Str.ofString "Book") [Str.ofString "_fields", Str.ofString "_kinds"] [.tup (F.map .str), .tup ks]
theorem fld_k (F : List Str) (ks : List Dat) : fldD (Str.ofString "_kinds") [Str.ofString "_fields", Str.ofString "_kinds"] [.tup (F.map Dat.str), .tup ks] = some (.tup ks) := by
  have n : Str.ofString "_fields" ≠ Str.ofString "_kinds" := by decide +kernel
  show (if Str.ofString "_fields" = Str.ofString "_kinds" then _ else if Str.ofString "_kinds" = Str.ofString "_kinds" then some (Dat.tup ks) else _) = _
  rw [if_neg n, if_pos rfl]
theorem wipe_one {i : Nat} {env : DL.Env} {d : Dat} (h : env[i]? = some none) : eWipe [i] (env.set i (some (.val d))) = some ((), env) := wipe1 h
end Prg
/-! tupled. -/
namespace Prg
open PySem PySem.Spec L2 DL
open PyProof.Rows hiding St
def flat : Dat → Bool
  | .non => true
  | .bl _ => true
  | .int _ => true
  | .str _ => true
  | _ => false
/-- tuples for lists, so deep -/
def tpN : Nat → Dat → Dat
  | n + 1, .tup ds => .tup (ds.map (tpN n))
  | n + 1, .lst ds => .tup (ds.map (tpN n))
  | _, d => d
def tpR (n : Nat) (d : Dat) : DL.R := match n, d with
  | n + 1, .tup ds => .val (.tup (ds.map (tpN n)))
  | n + 1, .lst ds => .val (.tup (ds.map (tpN n)))
  | _, d => .val d
/-- rows of rows, so deep -/
def okM : Nat → Dat → Prop
  | n + 1, .tup ds => ds.length ≤ 1000 ∧ ∀ x ∈ ds, okM n x
  | n + 1, .lst ds => ds.length ≤ 1000 ∧ ∀ x ∈ ds, okM n x
  | _, d => flat d = true
theorem okM_up : ∀ {n : Nat} {d : Dat}, okM n d → flat d = true ∨ ∃ k ds, n = k + 1 ∧ (d = .tup ds ∨ d = .lst ds) ∧ ds.length ≤ 1000 ∧ ∀ x ∈ ds, okM k x
  | 0, d, h => .inl h
  | n + 1, d, h => by
    cases d <;> first | exact .inl h | exact .inr ⟨_, _, rfl, .inl rfl, h.1, h.2⟩ | exact .inr ⟨_, _, rfl, .inr rfl, h.1, h.2⟩
theorem tpN_flat {d : Dat} (h : flat d = true) : ∀ n, tpN n d = d
  | 0 => rfl
  | n + 1 => by cases d <;> first | rfl | cases h
theorem tpR_flat {d : Dat} (h : flat d = true) : ∀ n, tpR n d = .val d
  | 0 => rfl
  | n + 1 => by cases d <;> first | rfl | cases h
theorem tpR_val (n : Nat) (d : Dat) : tpR n d = .val (tpN n d) := by
  cases n <;> cases d <;> rfl
theorem isiT_row (ds : List Dat) : dIsi [.tup ds, .tup [.ty "list", .ty "tuple"]] = some (false, .bl true) := by rfl
theorem isiL_row (ds : List Dat) : dIsi [.lst ds, .tup [.ty "list", .ty "tuple"]] = some (false, .bl true) := by rfl
theorem isiF_row {d : Dat} (h : flat d = true) : dIsi [d, .tup [.ty "list", .ty "tuple"]] = some (false, .bl false) := by
  cases d <;> first | rfl | cases h
theorem F_tup : ∀ (fuel n : Nat) (d : Dat), n < fuel → okM n d → FR_tupled fuel [some (.val d)] = some (.val (tpN n d), [some (.val d)])
  | fuel + 1, n, d, hn, h => by
    show runF 2 1 (fb_tupled (FR_tupled fuel)) _ = _
    rcases okM_up h with hf | ⟨k, ds, rfl, hd, hl, hx⟩
    · rw [tpN_flat hf]
      unfold fb_tupled
      simp [a_run, noOwnB, isiF_row hf, truD]
    · have comp : ∀ D : Dat, itemsD D = some ds → eLc (iAny (eVar 0)) (gPut 1) (eRet true) (eCallV (FR_tupled fuel) (eOne (eVar 1))) [1] [some (.val D), none] = some (.new (.lst (ds.map (tpN k))), [some (.val D), none]) := fun D hD => by
        refine eLc_each (tpN k) (fun d => .val (tpN k d)) (by simp [hD]) rfl (by omega) fun d hd => ?_
        have := F_tup fuel k d (by omega) (hx d hd)
        constructor
        · simp [this]
        · rfl
      rcases hd with rfl | rfl
      · have c := comp (.tup ds) rfl
        unfold fb_tupled
        simp [a_run, noOwnB, isiT_row, truD, c, tpN, dTuple]
      · have c := comp (.lst ds) rfl
        unfold fb_tupled
        simp [a_run, noOwnB, isiL_row, truD, c, tpN, dTuple]
theorem F_tupled_ok {n : Nat} (hn : n ≤ 40) {d : Dat} (h : okM n d) : F_tupled [some (.val d)] = some (.val (tpN n d), [some (.val d)]) := F_tup 60 n d (by omega) h
theorem okW_up : ∀ {n : Nat} {d : Dat}, okW n d → flat d = true ∨ ∃ k ds, n = k + 1 ∧ d = .tup ds ∧ ds.length ≤ 20 ∧ ∀ x ∈ ds, okW k x
  | 0, d, h => by
    cases d <;> first | exact .inl rfl | exact h.elim
  | n + 1, d, h => by
    cases d <;> first | exact .inl rfl | exact .inr ⟨_, _, rfl, rfl, h.1, h.2⟩ | exact h.elim
theorem okW.okM : ∀ {n : Nat} {d : Dat}, okW n d → Prg.okM n d
  | n, d, h => by
    rcases okW_up h with hf | ⟨k, ds, rfl, rfl, hl, hx⟩
    · cases n <;> cases d <;> first | exact hf | cases hf
    · exact ⟨by omega, fun x hx' => (hx x hx').okM⟩
theorem okW.tp : ∀ {n : Nat} {d : Dat}, okW n d → tpN n d = d
  | n, d, h => by
    rcases okW_up h with hf | ⟨k, ds, rfl, rfl, hl, hx⟩
    · exact tpN_flat hf n
    · show Dat.tup (ds.map (tpN k)) = .tup ds
      congr 1
      exact (List.map_congr_left fun x hx' => (hx x hx').tp).trans (List.map_id' ds)
end Prg
/-! Drawn KINDs; fields. -/
namespace Prg
open PySem PySem.Spec L2 DL
open PyProof.Rows hiding St
theorem wordS_name {lo hi : Nat} {v : Str} (h1 : 1 ≤ lo) (h2 : hi ≤ 8) (h : wordS lo hi v) : nameS v = true := by
  obtain ⟨a, b, c⟩ := h
  have hh : (1 ≤ v.length ∧ v.length ≤ 8) := by omega
  unfold nameS
  rw [c, Bool.and_true]
  exact decide_eq_true hh
theorem nms_name {ws : List Str} (h : nmsI ws) : ∀ w ∈ ws, nameS w = true := fun w hw => by
  obtain ⟨i, hi⟩ := List.mem_iff_getElem?.mp hw
  rcases h i w hi with q | q
  · exact wordS_name (by omega) (by omega) q
  · exact wordS_name (by omega) (by omega) q.1
theorem name_len {w : Str} (h : nameS w = true) : 1 ≤ w.length ∧ w.length ≤ 8 := by
  unfold nameS at h
  rw [Bool.and_eq_true] at h
  exact of_decide_eq_true h.1
theorem setN_nd : ∀ (n : Nat) (zs : List Str), zs.length = n → zs.Nodup → setN zs = zs.length
  | 0, [], _, _ => rfl
  | n + 1, zs, hl, h => by
    have hne : zs ≠ [] := fun e => by rw [e] at hl; cases hl
    obtain ⟨ys, x, rfl⟩ : ∃ ys x, zs = ys ++ [x] := ⟨zs.dropLast, zs.getLast hne, (List.dropLast_concat_getLast hne).symm⟩
    rw [List.nodup_append] at h
    have ih := setN_nd n ys (by simp at hl; omega) h.1
    have no : ¬ (ys.any (fun y => y == x) = true) := fun c => by
      obtain ⟨y, hy, e⟩ := List.any_eq_true.mp c
      rw [beq_iff_eq] at e
      exact h.2.2 y hy x (by simp) e
    rw [setN_snoc, if_neg no, ih]
    simp
/-- a KIND -/
structure KK where
  nm : Str
  ps : List Str
  b : Bd
def KK.d (k : KK) : Dat := .tup [.str k.nm, .tup (k.ps.map .str), k.b.d]
structure KK.Ok (F : List Str) (W : List Dat) (k : KK) : Prop where
  nms : nameS k.nm = true
  par : parB k.ps = true
  val : Valid (F.map .str) W k.ps [] k.b
  wk : okW 8 k.b.d
theorem par_all' {ps : List Str} (h : parB ps = true) : ps.length ≤ 2 ∧ ps.Nodup ∧ (∀ p ∈ ps, nameS p = true) ∧ (∀ p ∈ ps, p.length ≤ 20) ∧ Str.ofString "x" ∉ ps := by
  unfold parB at h
  simp only [Bool.and_eq_true, decide_eq_true_eq, List.all_eq_true, Bool.not_eq_true'] at h
  obtain ⟨⟨⟨⟨h1, h2⟩, h3⟩, h4⟩, h5⟩ := h
  exact ⟨h1, h2, h3, h4, by simpa using h5⟩
theorem strOf_map (ps : List Str) : (ps.map Dat.str).map strOf = ps := by
  rw [List.map_map]
  exact List.map_id' ps
theorem KK.Ok.kind {F : List Str} {W : List Dat} (hW : ∀ w ∈ W, nmD w = true) {k : KK} (h : k.Ok F W) : kindD F k.d = true := by
  obtain ⟨p1, p2, p3, p4, p5⟩ := par_all' h.par
  have hp : parD (.tup (k.ps.map .str)) = true := by
    show (decide ((k.ps.map Dat.str).length ≤ 2) && ((k.ps.map Dat.str).all nmD && (setN ((k.ps.map Dat.str).map strOf) == (k.ps.map Dat.str).length))) = true
    rw [strOf_map, setN_nd _ _ rfl p2, List.length_map, decide_eq_true p1, beq_self_eq_true]
    simp [List.all_eq_true]
    exact p3
  show (nameS k.nm && (parD (.tup (k.ps.map .str)) && bodyD F 60 ((k.ps.map Dat.str).map strOf) [] k.b.d)) = true
  rw [h.nms, hp, strOf_map, bodyD_of hW k.b 60 k.ps [] (by have := k.b.dep_le 8 h.wk; omega) h.val]
  rfl
theorem KK.Ok.okW {F : List Str} {W : List Dat} {k : KK} (h : k.Ok F W) : Prg.okW 9 k.d := by
  obtain ⟨p1, p2, p3, p4, p5⟩ := par_all' h.par
  refine ⟨by simp, fun x hx => ?_⟩
  simp at hx
  rcases hx with rfl | rfl | rfl
  · have := (name_len h.nms).2
    show k.nm.length ≤ 20
    omega
  · refine ⟨by rw [List.length_map]; omega, fun y hy => ?_⟩
    obtain ⟨p, hp, rfl⟩ := List.mem_map.mp hy
    exact p4 p hp
  · exact h.wk
theorem P_are_kind {F : List Str} {W : List Dat} (hW : ∀ w ∈ W, nmD w = true) {k : KK} (h : k.Ok F W) : F_is_kind_for [some (.val (.tup (F.map .str))), some (.val k.d)] = some (.val (.bl true), [some (.val (.tup (F.map .str))), some (.val k.d)]) := by
  have := P_kind F h.okW.okD (by omega)
  rw [h.kind hW] at this
  exact this
theorem P_fields {F : List Str} (h1 : 1 ≤ F.length) (h2 : F.length ≤ 2) (hn : ∀ f ∈ F, nameS f = true) (hd : F.Nodup) : F_checked_fields [some (.val (.tup (F.map .str)))] = some (.val (.tup (F.map .str)), [some (.val (.tup (F.map .str)))]) := by
  have ok : ∀ x ∈ F.map Dat.str, okD 0 x := fun x hx => by
    obtain ⟨f, hf, rfl⟩ := List.mem_map.mp hx
    have := (name_len (hn f hf)).2
    show f.length ≤ 1000
    omega
  have all : (F.map Dat.str).all nmD = true := by
    simp [List.all_eq_true]
    exact hn
  have key : F_are_names [some (.val (.tup (F.map .str))), some (.val (.int 1)), some (.val (.int 2))] = some (.val (.bl true), [some (.val (.tup (F.map .str))), some (.val (.int 1)), some (.val (.int 2))]) := by
    have comp : eLc (iAny (eVar 0)) (gPut 3) (eRet true) (eCallV F_is_name (eOne (eVar 3))) [3] [some (.val (.tup (F.map .str))), some (.val (.int 1)), some (.val (.int 2)), none] =
        some (.new (.lst ((F.map .str).map fun d => .bl (nmD d))), [some (.val (.tup (F.map .str))), some (.val (.int 1)), some (.val (.int 2)), none]) := by
      refine eLc_each (fun d => .bl (nmD d)) (fun d => .val (.bl (nmD d))) (by simp [itemsD]) rfl (by rw [List.length_map]; omega) fun d hd => ?_
      simp [F_name, (ok d hd).pl, (ok d hd).sz]
    have hall := all_map nmD (F.map Dat.str)
    rw [all] at hall
    obtain ⟨e1, e2⟩ := names_strs all
    rw [strOf_map] at e1
    have hs := setN_nd _ F rfl hd
    have a1 : (1 : Int) ≤ F.length := by omega
    have a2 : (F.length : Int) ≤ 2 := by omega
    have a3 : F.length ≤ 100 := by omega
    have ht : dIsi [.tup (F.map .str), .ty "tuple"] = some (false, .bl true) := rfl
    have hl : dLen [.tup (F.map .str)] = some (false, .int F.length) := by
      show some (false, Dat.int ((F.map Dat.str).length : Int)) = _
      rw [List.length_map]
    unfold F_are_names fb_are_names
    simp only [List.map_map] at comp hall
    generalize F.map Dat.str = ds at comp e1 ht hl all ⊢
    simp [a_run, noOwnB, ht, truD, hl, dLe, a1, a2, comp, hall, rowD, e1, a3, dEq, hs]
  unfold F_checked_fields fb_checked_fields F_are_fields fb_are_fields
  simp [a_run, noOwnB, key, truD]
end Prg
/-! The Book. -/
namespace Prg
open PySem PySem.Spec L2 DL
open PyProof.Rows hiding St
abbrev nm (s : Option Slot) : Prop := isMtb (some s) = false
abbrev kds (ks : List KK) : List Dat := ks.map KK.d
theorem cut_take {α : Type} (ds : List α) {j : Nat} (h : j ≤ ds.length) : DL.cutD ds none (some (j : Int)) = ds.take j := by
  have e : HT.sIx ds.length ds.length (some (j : Int)) = j := by
    unfold HT.sIx
    simp only []
    rw [if_neg (by omega)]
    omega
  have e0 : HT.sIx ds.length 0 none = 0 := rfl
  unfold DL.cutD
  rw [e, e0]
  simp
theorem kd_nm (k : KK) : dIx k.d (.int 0) = some (false, .str k.nm) := rfl
theorem kd_ps (k : KK) : dIx k.d (.int 1) = some (false, .tup (k.ps.map .str)) := rfl
theorem kd_b (k : KK) : dIx k.d (.int 2) = some (false, k.b.d) := rfl
abbrev eCK (F : List Str) (ks : List KK) (s2 s3 : Option Slot) : DL.Env := [some (.val (.tup (F.map .str))), some (.val (.tup (kds ks))), s2, s3, none]
theorem ck_it (F : List Str) (ks : List KK) (s2 s3 : Option Slot) : iEnumX (eOne (eVar 1)) (eCK F ks s2 s3) = some (numbered 0 (kds ks), eCK F ks s2 s3) := by
  generalize hd : kds ks = ds
  simp [hd]
theorem ck_put {F : List Str} {ks : List KK} {s2 s3 : Option Slot} (j : Int) (d : Dat) (h2 : nm s2) (h3 : nm s3) : gTupD 2 (gConsD (gPut 2) (gConsD (gPut 3) gNilD)) (.tup [.int j, d]) (eCK F ks s2 s3) = some ((), eCK F ks (some (.val (.int j))) (some (.val d))) := by
  simp [gTupD, gConsD, gNilD, h2, h3]
def ckB1 : EM O := (eIf (tNo (eTruth (eCallV F_is_kind_for (eCons (eVar 0) (eOne (eVar 3)))))) (fun _ => none) (eRet .nx))
def ckB2 : EM O := (eIf (DL.tCmp dIn (eOp2 dIx (eVar 3) (eCon (.int 0))) (eLc (iAny (eCut (eVar 1) oNone (oInt (eVar 2)))) (gPut 4) (eRet true) (eOp2 dIx (eVar 4) (eCon (.int 0))) [4])) (fun _ => none) (eRet .nx))
theorem fb_ck : fb_checked_kinds = sSeq (sFor (iEnumX (eOne (eVar 1))) (gTupD 2 (gConsD (gPut 2) (gConsD (gPut 3) gNilD))) ckB1) (sSeq (sFor (iEnumX (eOne (eVar 1))) (gTupD 2 (gConsD (gPut 2) (gConsD (gPut 3) gNilD))) ckB2) (sRet (eVar 1))) := rfl
theorem kds_get {ks : List KK} {j : Nat} {x : Dat} (h : (numbered 0 (kds ks))[j]? = some x) : ∃ k, ks[j]? = some k ∧ x = .tup [.int j, k.d] := by
  rw [numbered_get] at h
  obtain ⟨y, hy, rfl⟩ := Option.map_eq_some_iff.mp h
  rw [List.getElem?_map] at hy
  obtain ⟨k, hk, rfl⟩ := Option.map_eq_some_iff.mp hy
  exact ⟨k, hk, by rw [Nat.zero_add]⟩
theorem ck1 {F : List Str} {W : List Dat} (hW : ∀ w ∈ W, nmD w = true) {ks : List KK} (h : ∀ k ∈ ks, k.Ok F W) : ∃ s2 s3, nm s2 ∧ nm s3 ∧ sFor (iEnumX (eOne (eVar 1))) (gTupD 2 (gConsD (gPut 2) (gConsD (gPut 3) gNilD))) ckB1 (eCK F ks none none) = some (.nx, eCK F ks s2 s3) := by
  obtain ⟨e3, hloop, s2, s3, rfl, h2, h3⟩ := loop_inv (g := gTupD 2 (gConsD (gPut 2) (gConsD (gPut 3) gNilD))) (body := ckB1)
    (fun i env => ∃ s2 s3, env = eCK F ks s2 s3 ∧ nm s2 ∧ nm s3) (numbered 0 (kds ks)) 0 (eCK F ks none none) ⟨none, none, rfl, rfl, rfl⟩ (by
      rintro j x env hx ⟨s2, s3, rfl, h2, h3⟩
      obtain ⟨k, hk, rfl⟩ := kds_get hx
      refine ⟨_, eCK F ks (some (.val (.int j))) (some (.val k.d)), ck_put j k.d h2 h3, ?_, _, _, rfl, rfl, rfl⟩
      have := P_are_kind hW (h k (List.mem_of_getElem? hk))
      unfold ckB1
      simp [this, truD])
  refine ⟨s2, s3, h2, h3, ?_⟩
  rw [a_sfor, ck_it, at_some]
  exact hloop
theorem ckB2_ok {F : List Str} {ks : List KK} {j : Nat} {k : KK} (hk : ks[j]? = some k) (hl : ks.length ≤ 50) (hn : (ks.map KK.nm).Nodup) : ckB2 (eCK F ks (some (.val (.int j))) (some (.val k.d))) = some (.nx, eCK F ks (some (.val (.int j))) (some (.val k.d))) := by
  have hj : j < ks.length := (List.getElem?_eq_some_iff.mp hk).1
  have hcut : dCut (.tup (kds ks)) none (some (j : Int)) = some (false, .tup (kds (ks.take j))) := by
    show some (false, Dat.tup (DL.cutD (kds ks) none (some (j : Int)))) = _
    rw [cut_take _ (by rw [List.length_map]; omega)]
    show some (false, Dat.tup (List.take j (ks.map KK.d))) = some (false, Dat.tup ((ks.take j).map KK.d))
    rw [List.map_take]
  have it : iAny (eCut (eVar 1) oNone (oInt (eVar 2))) (eCK F ks (some (.val (.int j))) (some (.val k.d))) = some (kds (ks.take j), eCK F ks (some (.val (.int j))) (some (.val k.d))) := by
    generalize hd : kds ks = ds at hcut
    simp [hd, hcut, itemsD]
  have comp : eLc (iAny (eCut (eVar 1) oNone (oInt (eVar 2)))) (gPut 4) (eRet true) (eOp2 dIx (eVar 4) (eCon (.int 0))) [4] (eCK F ks (some (.val (.int j))) (some (.val k.d))) = some (.new (.lst ((kds (ks.take j)).map fun d => .str (match d with | .tup (.str z :: _) => z | _ => Str.empty))), eCK F ks (some (.val (.int j))) (some (.val k.d))) := by
    refine eLc_each _ (fun d => .val (.str (match d with | .tup (.str z :: _) => z | _ => Str.empty))) it rfl (by rw [List.length_map, List.length_take]; omega) fun d hd => ?_
    obtain ⟨k', hk', rfl⟩ := List.mem_map.mp hd
    have := kd_nm k'
    constructor
    · simp [this]
      rfl
    · rfl
  have e : (kds (ks.take j)).map (fun d => Dat.str (match d with | .tup (.str z :: _) => z | _ => Str.empty)) = ((ks.take j).map KK.nm).map .str := by
    rw [List.map_map,
        List.map_map]
    rfl
  rw [e] at comp
  have no : ((ks.take j).map KK.nm).any (fun y => y == k.nm) = false := by
    rw [List.any_eq_false]
    intro y hy c
    rw [beq_iff_eq] at c
    obtain ⟨k', hk', rfl⟩ := List.mem_map.mp hy
    obtain ⟨i, hi⟩ := List.mem_iff_getElem?.mp hk'
    rw [List.getElem?_take] at hi
    split at hi
    · rename_i hij
      have hi' : i < ks.length :=
          by omega
      have := (List.getElem_inj (xs := ks.map KK.nm) (h₀ := by simpa using hi') (h₁ := by simpa using hj) hn).mp (by
        rw [List.getElem_map, List.getElem_map]
        rw [List.getElem?_eq_getElem hi'] at hi
        rw [List.getElem?_eq_getElem hj] at hk
        rw [Option.some.inj hi, Option.some.inj hk, c])
      omega
    · cases hi
  have hin : dIn (.str k.nm) (.lst (((ks.take j).map KK.nm).map .str)) = some (false, .bl false) := by rw [dIn_N, no]
  have h0 : eOp2 dIx (eVar 3) (eCon (.int 0)) (eCK F ks (some (.val (.int j))) (some (.val k.d))) = some (.val (.str k.nm), eCK F ks (some (.val (.int j))) (some (.val k.d))) := by
    have := kd_nm k
    simp [this]
  unfold ckB2
  rw [a_if, a_tcmp, a_op2, h0, at_some, comp, at_some, a_look, l_val, we_some, at_some, a_look, l_new, we_some, at_some, hin, we_some, at_some]
  rfl
theorem ck2 {F : List Str} {ks : List KK} (hl : ks.length ≤ 50) (hn : (ks.map KK.nm).Nodup) {t2 t3 : Option Slot} (n2 : nm t2) (n3 : nm t3) : ∃ s2 s3, sFor (iEnumX (eOne (eVar 1))) (gTupD 2 (gConsD (gPut 2) (gConsD (gPut 3) gNilD))) ckB2 (eCK F ks t2 t3) = some (.nx, eCK F ks s2 s3) := by
  obtain ⟨e3, hloop, s2, s3, rfl, h2, h3⟩ := loop_inv (g := gTupD 2 (gConsD (gPut 2) (gConsD (gPut 3) gNilD))) (body := ckB2)
    (fun i env => ∃ s2 s3, env = eCK F ks s2 s3 ∧ nm s2 ∧ nm s3) (numbered 0 (kds ks)) 0 (eCK F ks t2 t3) ⟨t2, t3, rfl, n2, n3⟩ (by
      rintro j x env hx ⟨s2, s3, rfl, h2, h3⟩
      obtain ⟨k, hk, rfl⟩ := kds_get hx
      exact ⟨_, eCK F ks (some (.val (.int j))) (some (.val k.d)), ck_put j k.d h2 h3, ckB2_ok hk hl hn, _, _, rfl, rfl, rfl⟩)
  refine ⟨s2, s3, ?_⟩
  rw [a_sfor, ck_it, at_some]
  exact hloop
theorem P_kinds {F : List Str} {W : List Dat} (hW : ∀ w ∈ W, nmD w = true) {ks : List KK} (h : ∀ k ∈ ks, k.Ok F W) (hl : ks.length ≤ 50) (hn : (ks.map KK.nm).Nodup) :
    F_checked_kinds [some (.val (.tup (F.map .str))), some (.val (.tup (kds ks)))] = some (.val (.tup (kds ks)), [some (.val (.tup (F.map .str))), some (.val (.tup (kds ks)))]) := by
  obtain ⟨s2, s3, h2, h3, e1⟩ := ck1 hW h
  obtain ⟨t2, t3, e2⟩ := ck2 (F := F) hl hn h2 h3
  have eb : fb_checked_kinds (eCK F ks none none) = some (.rt (.bor 1), eCK F ks t2 t3) := by
    rw [fb_ck]
    exact (seq_nx e1).trans ((seq_nx e2).trans rfl)
  show runF 5 2 fb_checked_kinds _ = _
  rw [a_run, if_pos ⟨rfl, rfl⟩]
  show andThen (fb_checked_kinds (eCK F ks none none)) _ = _
  rw [eb, at_some]
  rfl
end Prg
/-! The Book, made; its members. -/
namespace Prg
open PySem PySem.Spec L2 DL
open PyProof.Rows hiding St
@[simp] theorem a_sfld (c f : Str) (j : Nat) (fe : EM R) (env : DL.Env) : sFldD c f j fe env = andThen (fe env) fun r e1 => andThen (eForce r e1) fun d e2 => andThen (eVar j e2) fun _ e3 => fldAt c f j d e3 := rfl
theorem fld_f (F : List Str) (ks : List Dat) : fldD (Str.ofString "_fields") [Str.ofString "_fields"] [.tup (F.map Dat.str)] = some (.tup (F.map Dat.str)) := rfl
theorem put1 (d : Dat) (es : DL.Env) : fldAt (Str.ofString "Book") (Str.ofString "_fields") 0 d (some (.mtb (.obj (Str.ofString "Book") [] [])) :: es) = some (.nx, some (.mtb (.obj (Str.ofString "Book") [Str.ofString "_fields"] [d])) :: es) := rfl
theorem put2 (d0 d : Dat) (es : DL.Env) : fldAt (Str.ofString "Book") (Str.ofString "_kinds") 0 d (some (.mtb (.obj (Str.ofString "Book") [Str.ofString "_fields"] [d0])) :: es) = some (.nx, some (.mtb (.obj (Str.ofString "Book") [Str.ofString "_fields", Str.ofString "_kinds"] [d0, d])) :: es) := by
  have n : Str.ofString "_fields" ≠ Str.ofString "_kinds" := by decide +kernel
  show (if (Str.ofString "Book" = Str.ofString "Book" ∧ 1 < 1000) then some (O.nx, some (Slot.mtb (.obj (Str.ofString "Book") (if Str.ofString "_fields" = Str.ofString "_kinds" then [Str.ofString "_fields"] else [Str.ofString "_fields", Str.ofString "_kinds"]) (if Str.ofString "_fields" = Str.ofString "_kinds" then [d] else [d0, d]))) :: es) else none) = _
  rw [if_neg n, if_neg n, if_pos ⟨rfl, by decide⟩]
theorem tup_strs (F : List Str) (hl : F.length ≤ 1000) : F_tupled [some (.val (.tup (F.map .str)))] = some (.val (.tup (F.map .str)), [some (.val (.tup (F.map .str)))]) := by
  have h : okM 1 (.tup (F.map .str)) := ⟨by rw [List.length_map]; exact hl, fun x hx => by
    obtain ⟨f, _, rfl⟩ := List.mem_map.mp hx
    rfl⟩
  have := F_tupled_ok (by decide) h
  have e : tpN 1 (.tup (F.map .str)) = .tup (F.map .str) := by
    show Dat.tup ((F.map Dat.str).map (tpN 0)) = _
    rw [List.map_congr_left (fun x _ => show tpN 0 x = x from rfl), List.map_id']
  rw [e] at this
  exact this
theorem tup_kinds {F : List Str} {W : List Dat} {ks : List KK} (h : ∀ k ∈ ks, k.Ok F W) (hl : ks.length ≤ 50) : F_tupled [some (.val (.lst (kds ks)))] = some (.val (.tup (kds ks)), [some (.val (.lst (kds ks)))]) := by
  have hm : okM 10 (.lst (kds ks)) := ⟨by rw [List.length_map]; omega, fun x hx => by
    obtain ⟨k, hk, rfl⟩ := List.mem_map.mp hx
    exact (h k hk).okW.okM⟩
  have := F_tupled_ok (by decide) hm
  have e : tpN 10 (.lst (kds ks)) = .tup (kds ks) := by
    show Dat.tup ((kds ks).map (tpN 9)) = _
    rw [List.map_congr_left (g := fun d => d) (fun x hx => by
      obtain ⟨k, hk, rfl⟩ := List.mem_map.mp hx
      exact (h k hk).okW.tp), List.map_id']
  rw [e] at this
  exact this
theorem P_init {F : List Str} {W : List Dat} (hW : ∀ w ∈ W, nmD w = true) (h1 : 1 ≤ F.length) (h2 : F.length ≤ 2) (hn : ∀ f ∈ F, nameS f = true) (hd : F.Nodup) {ks : List KK} (h : ∀ k ∈ ks, k.Ok F W) (hl : ks.length ≤ 50) (hk : (ks.map KK.nm).Nodup) :
    ∃ e, F_Book_init [some (.mtb (.obj (Str.ofString "Book") [] [])), some (.val (.tup (F.map .str))), some (.val (.lst (kds ks)))] = some (.val .non, some (.mtb (bookD F (kds ks))) :: e) := by
  have t1 := tup_strs F (by omega)
  have t2 := tup_kinds h hl
  have t3 := P_fields h1 h2 hn hd
  have t4 := P_kinds hW h hl hk
  have t5 := fld_f F []
  unfold F_Book_init fb_Book_init bookD
  generalize F.map Dat.str = fs at t1 t3 t4 t5 ⊢
  generalize kds ks = ds at t2 t4 ⊢
  simp [a_run, noOwnB, t1, t2, t3, t4, t5, put1, put2]
theorem P_make {F : List Str} {W : List Dat} (hW : ∀ w ∈ W, nmD w = true) (h1 : 1 ≤ F.length) (h2 : F.length ≤ 2) (hn : ∀ f ∈ F, nameS f = true) (hd : F.Nodup) {ks : List KK} (h : ∀ k ∈ ks, k.Ok F W) (hl : ks.length ≤ 50) (hk : (ks.map KK.nm).Nodup) {fs : EM (List R)} {rs : List R} {env e1 e2 : DL.Env}
    (hf : fs env = some (rs, e1)) (hr : eForces rs e1 = some ([.tup (F.map .str), .lst (kds ks)], e2)) : eMake (Str.ofString "Book") F_Book_init fs env = some (.new (bookD F (kds ks)), e2) := by
  obtain ⟨e, he⟩ := P_init hW h1 h2 hn hd h hl hk
  unfold eMake
  rw [a_bind, hf, at_some, a_bind, hr, at_some]
  show (match F_Book_init [some (.mtb (.obj (Str.ofString "Book") [] [])), some (.val (.tup (F.map .str))), some (.val (.lst (kds ks)))] with
    | some (.val .non, some (.mtb o) :: _) => some (DL.R.new o, e2)
    | _ => none) = _
  rw [he]
theorem any_map (p : Dat → Bool) (ds : List Dat) : dAny [.lst (ds.map fun d => .bl (p d))] = some (false, .bl (ds.any p)) := by
  induction ds with
  | nil => rfl
  | cons d ds ih =>
    show (bools ((d :: ds).map fun d => Dat.bl (p d))).map _ = _
    have ih' : (bools (ds.map fun d => Dat.bl (p d))).map (fun bs => (false, Dat.bl (bs.any id))) = some (false, .bl (ds.any p)) := ih
    obtain ⟨bs, e1, e2⟩ := Option.map_eq_some_iff.mp ih'
    show ((bools (ds.map fun d => Dat.bl (p d))).map fun bs => p d :: bs).map _ = _
    rw [e1]
    have e3 : bs.any id = ds.any p := by injection e2 with _ e; injection e
    show some (false, Dat.bl ((p d :: bs).any id)) = _
    rw [List.any_cons, e3, List.any_cons]
    rfl
abbrev bkD (F : List Str) (ks : List KK) : Dat := bookD F (kds ks)
theorem fldk (F : List Str) (ks : List KK) (env : DL.Env) : eFld (Str.ofString "Book") (Str.ofString "_kinds") (eVar 0) (some (.val (bkD F ks)) :: env) = some (.val (.tup (kds ks)), some (.val (bkD F ks)) :: env) := by
  have := fld_k F (kds ks)
  simp [bookD, this]
def nmOf : Dat → Str
  | .tup (.str z :: _) => z
  | _ => Str.empty
theorem any_nm (ks : List KK) (z : Str) : (kds ks).any (fun d => nmOf d == z) = (ks.map KK.nm).any (fun y => y == z) := by
  rw [List.any_map, List.any_map]
  rfl
theorem P_in {F : List Str} {ks : List KK} (hl : ks.length ≤ 50) (z : Str) : F_Book_contains [some (.val (bkD F ks)), some (.val (.str z))] = some (.val (.bl ((ks.map KK.nm).any fun y => y == z)), [some (.val (bkD F ks)), some (.val (.str z))]) := by
  have comp : eLc (iAny (eFld (Str.ofString "Book") (Str.ofString "_kinds") (eVar 0))) (gPut 2) (eRet true) (eOp2 dEq (eOp2 dIx (eVar 2) (eCon (.int 0))) (eVar 1)) [2] [some (.val (bkD F ks)), some (.val (.str z)), none] = some (.new (.lst ((kds ks).map fun d => .bl (nmOf d == z))), [some (.val (bkD F ks)), some (.val (.str z)), none]) := by
    refine eLc_each _ (fun d => .val (.bl (nmOf d == z))) ?_ rfl (by rw [List.length_map]; omega) fun d hd => ?_
    · rw [a_iany, fldk, at_some, f_val, at_some]
      rfl
    · obtain ⟨k, _, rfl⟩ := List.mem_map.mp hd
      have := kd_nm k
      constructor
      · simp [this, dEq]
        rfl
      · rfl
  have ha := any_map (fun d => nmOf d == z) (kds ks)
  rw [any_nm] at ha
  show runF 3 2 fb_Book_contains _ = _
  unfold fb_Book_contains
  rw [a_run, if_pos ⟨rfl, rfl⟩]
  show andThen (sRet _ [some (.val (bkD F ks)), some (.val (.str z)), none]) _ = _
  rw [a_sret, a_opN, a_one, comp, at_some, at_some, ls_cons, a_look, l_new, we_some, at_some, ls_nil, at_some, at_some, ha]
  rfl
def getB : EM O := (eIf (DL.tCmp dEq (eOp2 dIx (eVar 2) (eCon (.int 0))) (eVar 1)) (sRet (eVar 2)) (eRet .nx))
theorem fb_get : fb_Book_getitem = (sSeq (sFor (iAny (eFld (Str.ofString "Book") (Str.ofString "_kinds") (eVar 0))) (gPut 2) getB) (fun _ => none)) := rfl
theorem get_loop {B : Dat} {k : KK} : ∀ (ks : List KK) (s2 : Option Slot), k ∈ ks → (ks.map KK.nm).Nodup → nm s2 →
    loopS (gPut 2) getB (kds ks) [some (.val B), some (.val (.str k.nm)), s2] = some (.rt (.bor 2), [some (.val B), some (.val (.str k.nm)), some (.val k.d)])
  | [], _, h, _, _ =>
      by cases h
  | k' :: ks, s2, h, hn, h2 => by
    rw [List.map_cons,
        List.nodup_cons] at hn
    have hp : gPut 2 k'.d [some (.val B), some (.val (.str k.nm)), s2] = some ((), [some (.val B), some (.val (.str k.nm)), some (.val k'.d)]) := by
      simp [h2]
    have hb : getB [some (.val B), some (.val (.str k.nm)), some (.val k'.d)] = some ((if k'.nm = k.nm then O.rt (.bor 2) else .nx), [some (.val B), some (.val (.str k.nm)), some (.val k'.d)]) := by
      have := kd_nm k'
      unfold getB
      by_cases c : k'.nm = k.nm
      · simp [this, dEq, c]
      · have c' : (k'.nm == k.nm) = false := by rw [beq_eq_false_iff_ne]; exact c
        simp [this, dEq, c, c']
    show eBind (gPut 2 k'.d) _ _ = _
    rw [a_bind, hp, at_some, a_bind, hb, at_some]
    by_cases c : k'.nm = k.nm
    · rw [if_pos c]
      have : k' = k := by
        rcases List.mem_cons.mp h
            with q | q
        · exact q.symm
        · exact absurd (c ▸ List.mem_map_of_mem q) hn.1
      rw [this]
      rfl
    · rw [if_neg c]
      have hk : k ∈ ks := by
        rcases List.mem_cons.mp h
            with q | q
        · exact absurd (by rw [q]) c
        · exact q
      exact get_loop ks _ hk hn.2 rfl
theorem P_get {F : List Str} {ks : List KK} {k : KK} (hk : k ∈ ks) (hn : (ks.map KK.nm).Nodup) : F_Book_getitem [some (.val (bkD F ks)), some (.val (.str k.nm))] = some (.val k.d, [some (.val (bkD F ks)), some (.val (.str k.nm))]) := by
  have hl := get_loop (B := bkD F ks) ks none hk hn rfl
  show runF 3 2 fb_Book_getitem _ = _
  rw [a_run, if_pos ⟨rfl, rfl⟩]
  have eb : fb_Book_getitem [some (.val (bkD F ks)), some (.val (.str k.nm)), none] = some (.rt (.bor 2), [some (.val (bkD F ks)), some (.val (.str k.nm)), some (.val k.d)]) := by
    rw [fb_get]
    refine seq_rt ?_
    rw [a_sfor, a_iany, fldk, at_some, f_val, at_some]
    exact hl
  show andThen (fb_Book_getitem [some (.val (bkD F ks)), some (.val (.str k.nm)), none]) _ = _
  rw [eb, at_some]
  rfl
end Prg
/-! Lines. -/
namespace Prg
open PySem PySem.Spec L2 DL
open PyProof.Rows hiding St
theorem ixO_ok {F : EM R} {c : Str} {D A v : Dat} {i : Nat} {fa : EM R} {ra : R} {e : DL.Env} {env : DL.Env} (h : env[i]? = some (some (.val D))) (ho : isOb c Str.empty D = true) (ha : fa env = some (ra, env)) (hr : eForces [ra.weak] env = some ([A], env)) (hF : F [some (.val D), some (.val A)] = some (.val v, e)) :
    eIxO c F (eVar i) fa env = some (.val v, env) := by
  unfold eIxO
  have hv : eVar i env = some (.bor i, env) := by rw [a_var, h, slotV_s]
  have hl : look env (.bor i) = some D := by rw [l_bor, h]; rfl
  have hm : mutR env (.bor i) = false := by
    show (match env[i]? with | some (some s) => s.wr | _ => false) = false
    rw [h]
  rw [a_bind, hv, at_some, a_bind, ha, at_some, a_bind, w_bor, a_look, hl, we_some, at_some, if_pos ho]
  unfold eCallO
  rw [if_neg (by rw [hm]; exact Bool.false_ne_true), a_callV, a_ret, at_some, w_bor, fs_cons, f_bor, h, slotF_v, at_some, hr, at_some, at_some]
  show callO (F [some (.val D), some (.val A)]) env = _
  rw [hF, callO_v]
theorem inO_ok {F : EM R} {c : Str} {D A : Dat} {i : Nat} {fa : EM R} {ra : R} {e : DL.Env} {env : DL.Env} {b : Bool} (h : env[i]? = some (some (.val D))) (ho : isOb c Str.empty D = true) (ha : fa env = some (ra, env)) (hr : eForces [ra.weak] env = some ([A], env)) (hF : F [some (.val D), some (.val A)] = some (.val (.bl b), e)) :
    tInO true c F fa (eVar i) env = some (!b, env) := by
  unfold tInO eInO
  have hv : eVar i env = some (.bor i, env) := by rw [a_var, h, slotV_s]
  have hl : look env (.bor i) = some D := by rw [l_bor, h]; rfl
  have hm : mutR env (.bor i) = false := by
    show (match env[i]? with | some (some s) => s.wr | _ => false) = false
    rw [h]
  rw [a_bind, a_bind, ha, at_some, a_bind, hv, at_some, a_bind, a_look, hl, we_some, at_some, if_pos ho, w_bor, a_bind]
  unfold eCallO
  rw [if_neg (by rw [hm]; exact Bool.false_ne_true), a_callV, a_ret, at_some, w_bor, fs_cons, f_bor, h, slotF_v, at_some, hr, at_some, at_some]
  show andThen (andThen (callO (F [some (.val D), some (.val A)]) env) _) _ = _
  rw [hF, callO_v, at_some]
  cases b <;> rfl
/-- a line: a call of a KIND, and what is said -/
structure LL where
  k : KK
  as : List Int
  w : Str
def LL.call (l : LL) : Dat := .tup (.str l.k.nm :: l.as.map .int)
def LL.d (l : LL) : Dat := .tup [l.call, .str l.w]
structure LL.Ok (ks : List KK) (l : LL) : Prop where
  mem : l.k ∈ ks
  len : l.as.length = l.k.ps.length
  sm : l.as.length ≤ 2
theorem bk_ob (F : List Str) (ks : List KK) : isOb (Str.ofString "Book") Str.empty (bkD F ks) = true := by
  have h : ([Str.ofString "_fields", Str.ofString "_kinds"].any fun n => decide (n = Str.empty)) = false := by decide +kernel
  show (decide (Str.ofString "Book" = Str.ofString "Book") && !([Str.ofString "_fields", Str.ofString "_kinds"].any fun n => decide (n = Str.empty))) = true
  rw [h, decide_eq_true rfl]
  rfl
theorem cut_tl {α : Type} (x : α) (xs : List α) : DL.cutD (x :: xs) (some 1) none = xs := by
  simp [DL.cutD, HT.sIx]
theorem P_is_call {F : List Str} {ks : List KK} (hl : ks.length ≤ 50) (hn : (ks.map KK.nm).Nodup) {l : LL} (h : l.Ok ks) : F_is_call [some (.val (bkD F ks)), some (.val l.call)] = some (.val (.bl true), [some (.val (bkD F ks)), some (.val l.call)]) := by
  have e0 : dIx l.call (.int 0) = some (false, .str l.k.nm) := by
    show (atI (Dat.str l.k.nm :: l.as.map Dat.int) 0).map _ = _
    rw [at0]
    rfl
  have e1 : dLen [l.call] = some (false, .int (1 + (l.as.length : Int))) := by
    show some (false, Dat.int (((Dat.str l.k.nm :: l.as.map Dat.int).length : Nat) : Int)) = _
    rw [List.length_cons, List.length_map]
    congr 3
    omega
  have e2 : dIsi [l.call, .ty "tuple"] = some (false, .bl true) := rfl
  have e3 : dCut l.call (some 1) none = some (false, .tup (l.as.map .int)) := by
    show some (false, Dat.tup (DL.cutD (Dat.str l.k.nm :: l.as.map Dat.int) (some 1) none)) = _
    rw [cut_tl]
  have e4 := kd_ps l.k
  have e5 : dLen [.tup (l.k.ps.map .str)] = some (false, .int (l.k.ps.length : Int)) := by
    show some (false, Dat.int (((l.k.ps.map Dat.str).length : Nat) : Int)) = _
    rw [List.length_map]
  have z : (1 + (l.as.length : Int) == 0) = false := by rw [beq_eq_false_iff_ne]; omega
  have ix := ixO_ok (F := F_Book_getitem) (c := Str.ofString "Book") (D := bkD F ks) (i := 0) (fa := eOp2 dIx (eVar 1) (eCon (.int 0))) (env := [some (.val (bkD F ks)), some (.val l.call), none]) rfl (bk_ob F ks) (by simp [e0]; rfl) rfl (P_get (F := F) h.mem hn)
  have io := inO_ok (F := F_Book_contains) (c := Str.ofString "Book") (D := bkD F ks) (i := 0) (fa := eOp2 dIx (eVar 1) (eCon (.int 0))) (env := [some (.val (bkD F ks)), some (.val l.call), none]) rfl (bk_ob F ks) (by simp [e0]; rfl) rfl (P_in (F := F) (ks := ks) hl l.k.nm)
  have hany : (ks.map KK.nm).any (fun y => y == l.k.nm) = true := List.any_eq_true.mpr ⟨_, List.mem_map_of_mem h.mem, beq_self_eq_true _⟩
  rw [hany] at io
  have comp : eLc (iAny (eCut (eVar 1) (oInt (eCon (.int 1))) oNone)) (gPut 2) (eRet true) (eCallV F_is_number (eOne (eVar 2))) [2] [some (.val (bkD F ks)), some (.val l.call), none] = some (.new (.lst ((l.as.map Dat.int).map fun d => .bl (numD d))), [some (.val (bkD F ks)), some (.val l.call), none]) := by
    refine eLc_each (fun d => .bl (numD d)) (fun d => .val (.bl (numD d))) ?_ rfl (by rw [List.length_map]; have := h.sm; omega) fun d hd => ?_
    · generalize hv : l.call = v at e3
      generalize l.as.map Dat.int = es at e3
      simp [e3, itemsD]
    · obtain ⟨i, _, rfl⟩ := List.mem_map.mp hd
      have := F_num (.int i) rfl
      constructor
      · simp [this]
      · rfl
  have hall := all_map numD (l.as.map Dat.int)
  have ht : (l.as.map Dat.int).all numD = true := by
    rw [List.all_eq_true]
    intro x hx
    obtain ⟨i, _, rfl⟩ := List.mem_map.mp hx
    rfl
  rw [ht] at hall
  show runF 3 2 fb_is_call _ = _
  rw [a_run, if_pos ⟨rfl, rfl⟩]
  have eb : fb_is_call [some (.val (bkD F ks)), some (.val l.call), none] = some (.rt (.val (.bl true)), [some (.val (bkD F ks)), some (.val l.call), none]) := by
    have hlen : (1 + (l.as.length : Int) == 1 + (l.k.ps.length : Int)) = true := by rw [h.len]; exact beq_self_eq_true _
    unfold fb_is_call
    generalize bkD F ks = B at ix io comp ⊢
    generalize l.call = v at ix io comp e0 e1 e2 ⊢
    generalize l.k.d = kd at ix e4
    generalize l.k.ps.map Dat.str = pd at e4 e5
    simp only [List.map_map] at comp hall
    simp [io, e2, truD, e1, dEq, z, ix, e4, e5, dAdd, hlen, comp, hall]
  show andThen (fb_is_call [some (.val (bkD F ks)), some (.val l.call), none]) _ = _
  rw [eb, at_some]
  rfl
theorem tp_tup {n : Nat} {m : Dat} {ds : List Dat} (h : okM n m) (e : tpN n m = .tup ds) : ∃ k es, n = k + 1 ∧ (m = .tup es ∨ m = .lst es) ∧ es.map (tpN k) = ds ∧ es.length ≤ 1000 ∧ ∀ x ∈ es, okM k x := by
  rcases okM_up h with hf | ⟨k, es, rfl, hm, hl, hx⟩
  · rw [tpN_flat hf] at e
    rw [e] at hf
    cases hf
  · refine ⟨k, es, rfl, hm, ?_, hl, hx⟩
    rcases hm with rfl | rfl <;> (injection e)
theorem tp_str {n : Nat} {m : Dat} {z : Str} (h : okM n m) (e : tpN n m = .str z) : m = .str z := by
  rcases okM_up h with hf | ⟨k, es, rfl, hm, hl, hx⟩
  · rw [tpN_flat hf] at e
    exact e
  · rcases hm with rfl | rfl <;> cases e
theorem P_checked_call {F : List Str} {ks : List KK} (hl : ks.length ≤ 50) (hn : (ks.map KK.nm).Nodup) {l : LL} (h : l.Ok ks) {n : Nat} (hnn : n ≤ 40) {c : Dat} (hc : okM n c) (ec : tpN n c = l.call) : F_checked_call [some (.val (bkD F ks)), some (.val c)] = some (.val l.call, [some (.val (bkD F ks)), some (.val c)]) := by
  have t := F_tupled_ok hnn hc
  rw [ec] at t
  have q := P_is_call (F := F) hl hn h
  unfold F_checked_call fb_checked_call
  generalize bkD F ks = B at q ⊢
  simp [a_run, noOwnB, t, q, truD]
@[simp] theorem gx_l (n : Nat) (g : List Dat → EM Unit) (ds : List Dat) (env : DL.Env) : gTupX n g (.lst ds) env = if ds.length = n then g ds env else none := by
  show (if ds.length = n then g ds else fun _ => none) env = _
  split <;> rfl
@[simp] theorem gx_t (n : Nat) (g : List Dat → EM Unit) (ds : List Dat) (env : DL.Env) : gTupX n g (.tup ds) env = if ds.length = n then g ds env else none := by
  show (if ds.length = n then g ds else fun _ => none) env = _
  split <;> rfl
theorem P_line {F : List Str} {ks : List KK} (hl : ks.length ≤ 50) (hn : (ks.map KK.nm).Nodup) {l : LL} (h : l.Ok ks) {n : Nat} (hnn : n ≤ 40) {m : Dat} (hm : okM n m) (em : tpN n m = l.d) : F_checked_line [some (.val (bkD F ks)), some (.val m)] = some (.val l.d, [some (.val (bkD F ks)), some (.val m)]) := by
  obtain ⟨k, es, rfl, hes, e, _, hx⟩ := tp_tup hm em
  have hlen : es.length = 2 := by rw [← List.length_map (f := tpN k), e]; rfl
  match es, hlen, e, hx, hes with
  | [c, w], _, e, hx, hes =>
    simp only [List.map_cons, List.map_nil, List.cons.injEq, and_true] at e
    have q := P_checked_call (F := F) hl hn h (by omega) (hx c (by simp)) e.1
    have ew := tp_str (hx w (by simp)) e.2
    subst ew
    unfold F_checked_line fb_checked_line LL.d
    generalize bkD F ks = B at q ⊢
    rcases hes with rfl | rfl <;> simp [a_run, noOwnB, gConsD, gNilD, q]
theorem P_lines {F : List Str} {ks : List KK} (hl : ks.length ≤ 50) (hn : (ks.map KK.nm).Nodup) {ls : List LL} (h : ∀ l ∈ ls, l.Ok ks) {n : Nat} (hnn : n ≤ 40) {m : Dat} (hm : okM n m) (em : tpN n m = .tup (ls.map LL.d)) : F_checked_lines [some (.val (bkD F ks)), some (.val m)] = some (.val (.tup (ls.map LL.d)), [some (.val (bkD F ks)), some (.val m)]) := by
  obtain ⟨k, es, rfl, hes, e, hel, hx⟩ := tp_tup hm em
  have comp : eLc (iAny (eVar 1)) (gPut 2) (eRet true) (eCallV F_checked_line (eCons (eVar 0) (eOne (eVar 2)))) [2] [some (.val (bkD F ks)), some (.val m), none] = some (.new (.lst (es.map (tpN k))), [some (.val (bkD F ks)), some (.val m), none]) := by
    refine eLc_each (tpN k) (fun d => .val (tpN k d)) ?_ rfl (by omega) fun d hd => ?_
    · generalize bkD F ks = B
      rcases hes with rfl | rfl <;> simp [itemsD]
    · obtain ⟨l, hl', el⟩ : ∃ l ∈ ls, tpN k d = l.d := by
        have : tpN k d ∈ ls.map LL.d := e ▸ List.mem_map_of_mem hd
        obtain ⟨l, a, b⟩ := List.mem_map.mp this
        exact ⟨l, a, b.symm⟩
      have q := P_line (F := F) hl hn (h l hl') (by omega) (hx d hd) el
      rw [el]
      generalize bkD F ks = B at q ⊢
      constructor
      · simp [q]
      · rfl
  rw [e] at comp
  unfold F_checked_lines fb_checked_lines
  generalize bkD F ks = B at comp ⊢
  generalize ls.map LL.d = ds at comp ⊢
  simp [a_run, noOwnB, comp, dTuple]
end Prg
/-! Paths of a BODY. -/
namespace Prg
open PySem PySem.Spec L2 DL
open PyProof.Rows hiding St
/-- a say of a BODY: its path, how many tests stand above, the names let there, its changes and its word -/
structure Sy where
  p : List Bool
  k : Nat
  L : List Str
  cs : List Dat
  w : Dat
def Sy.say (s : Sy) : Dat := .tup [S "say", .tup s.cs, s.w]
def Sy.ent (s : Sy) : Dat := .tup [.tup (s.p.map .bl), s.say]
def Bd.sy : List Bool → Nat → List Str → Bd → List Sy
  | p, k, L, .say cs w => [⟨p, k, L, cs, w⟩]
  | p, k, L, .lt x _ _ b => b.sy p (k + 1) (L ++ [x])
  | p, k, L, .hs _ a b => a.sy (p ++ [true]) (k + 1) L ++ b.sy (p ++ [false]) (k + 1) L
  | p, k, L, .tst _ _ _ a b => a.sy (p ++ [true]) (k + 1) L ++ b.sy (p ++ [false]) (k + 1) L
theorem sy_len : ∀ (b : Bd) (p : List Bool) (k : Nat) (L : List Str), (b.sy p k L).length ≤ 2 ^ b.dep
  | .say _ _, _, _, _ => Nat.le_refl 1
  | .lt x t f b, p, k, L => by
    have := sy_len b p (k + 1) (L ++ [x])
    show (b.sy p (k + 1) (L ++ [x])).length ≤ 2 ^ (b.dep + 1)
    rw [Nat.pow_succ]
    omega
  | .hs t a b, p, k, L => by
    have h1 := sy_len a (p ++ [true]) (k + 1) L
    have h2 := sy_len b (p ++ [false]) (k + 1) L
    have g1 : 2 ^ a.dep ≤ 2 ^ max a.dep b.dep := Nat.pow_le_pow_right (by decide) (Nat.le_max_left _ _)
    have g2 : 2 ^ b.dep ≤ 2 ^ max a.dep b.dep := Nat.pow_le_pow_right (by decide) (Nat.le_max_right _ _)
    show (a.sy (p ++ [true]) (k + 1) L ++ b.sy (p ++ [false]) (k + 1) L).length ≤ 2 ^ (max a.dep b.dep + 1)
    rw [List.length_append, Nat.pow_succ]
    omega
  | .tst t f u a b, p, k, L => by
    have h1 := sy_len a (p ++ [true]) (k + 1) L
    have h2 := sy_len b (p ++ [false]) (k + 1) L
    have g1 : 2 ^ a.dep ≤ 2 ^ max a.dep b.dep := Nat.pow_le_pow_right (by decide) (Nat.le_max_left _ _)
    have g2 : 2 ^ b.dep ≤ 2 ^ max a.dep b.dep := Nat.pow_le_pow_right (by decide) (Nat.le_max_right _ _)
    show (a.sy (p ++ [true]) (k + 1) L ++ b.sy (p ++ [false]) (k + 1) L).length ≤ 2 ^ (max a.dep b.dep + 1)
    rw [List.length_append, Nat.pow_succ]
    omega
theorem sy_ne : ∀ (b : Bd) (p : List Bool) (k : Nat) (L : List Str), b.sy p k L ≠ []
  | .say _ _, _, _, _ => by
    intro h
    cases h
  | .lt x t f b, p, k, L => sy_ne b p (k + 1) (L ++ [x])
  | .hs t a b, p, k, L => fun h => sy_ne a (p ++ [true]) (k + 1) L (List.append_eq_nil_iff.mp h).1
  | .tst t f u a b, p, k, L => fun h => sy_ne a (p ++ [true]) (k + 1) L (List.append_eq_nil_iff.mp h).1
theorem sy_pre : ∀ (b : Bd) (p : List Bool) (k : Nat) (L : List Str), ∀ s ∈ b.sy p k L, ∃ r, s.p = p ++ r
  | .say cs w, p, k, L, s, h => by
    rw [List.mem_singleton.mp h]
    exact ⟨[], by simp⟩
  | .lt x t f b, p, k, L, s, h => sy_pre b p (k + 1) (L ++ [x]) s h
  | .hs t a b, p, k, L, s, h => by
    rcases List.mem_append.mp h
        with q | q
    · obtain ⟨r, e⟩ := sy_pre a _ _ _ s q
      exact ⟨[true] ++ r, by rw [e, List.append_assoc]⟩
    · obtain ⟨r, e⟩ := sy_pre b _ _ _ s q
      exact ⟨[false] ++ r, by rw [e, List.append_assoc]⟩
  | .tst t f u a b, p, k, L, s, h => by
    rcases List.mem_append.mp h
        with q | q
    · obtain ⟨r, e⟩ := sy_pre a _ _ _ s q
      exact ⟨[true] ++ r, by rw [e, List.append_assoc]⟩
    · obtain ⟨r, e⟩ := sy_pre b _ _ _ s q
      exact ⟨[false] ++ r, by rw [e, List.append_assoc]⟩
theorem sy_two {a b : Bd} {p : List Bool} {k : Nat} {L : List Str} (h1 : ((a.sy (p ++ [true]) k L).map Sy.p).Nodup) (h2 : ((b.sy (p ++ [false]) k L).map Sy.p).Nodup) : ((a.sy (p ++ [true]) k L ++ b.sy (p ++ [false]) k L).map Sy.p).Nodup := by
  rw [List.map_append,
      List.nodup_append]
  refine ⟨h1, h2, fun x hx y hy e => ?_⟩
  obtain ⟨s, hs, rfl⟩ := List.mem_map.mp hx
  obtain ⟨u, hu, rfl⟩ := List.mem_map.mp hy
  obtain ⟨r1, e1⟩ := sy_pre _ _ _ _ s hs
  obtain ⟨r2, e2⟩ := sy_pre _ _ _ _ u hu
  rw [e1, e2, List.append_assoc, List.append_assoc, List.append_cancel_left_eq] at e
  injection e with e _
  cases e
theorem sy_nd : ∀ (b : Bd) (p : List Bool) (k : Nat) (L : List Str), ((b.sy p k L).map Sy.p).Nodup
  | .say _ _, _, _, _ => List.nodup_cons.mpr ⟨by simp, List.nodup_nil⟩
  | .lt x t f b, p, k, L => sy_nd b p (k + 1) (L ++ [x])
  | .hs t a b, p, k, L => sy_two (sy_nd a _ _ _) (sy_nd b _ _ _)
  | .tst t f u a b, p, k, L => sy_two (sy_nd a _ _ _) (sy_nd b _ _ _)
/-! ### divided -/
theorem okW_tupD {n : Nat} {ds : List Dat} (h : okW n (.tup ds)) : ∃ m, n = m + 1 ∧ ds.length ≤ 20 ∧ ∀ x ∈ ds, okW m x := by
  cases n with
  | zero => exact h.elim
  | succ m => exact ⟨m, rfl, h.1, h.2⟩
theorem div_lt {n : Nat} (hn : n ≤ 40) {x : Str} {t f : Dat} {b : Bd} (h : okW (n + 1) (Bd.lt x t f b).d) : F_divided [some (.val (Bd.lt x t f b).d)] = some (.val (.tup [.tup [S "let", .str x, t, f], .tup [b.d]]), [some (.val (Bd.lt x t f b).d)]) := by
  have := P_divided (n := n) (x := S "let") (ds := [.str x, t, f, b.d]) h.okD (by omega)
  have e : (isS (Str.ofString "has") (S "let") || isS (Str.ofString "is") (S "let")) = false := by decide +kernel
  rw [e, if_neg Bool.false_ne_true] at this
  exact this
theorem div_hs {n : Nat} (hn : n ≤ 40) {t : Dat} {a b : Bd} (h : okW (n + 1) (Bd.hs t a b).d) : F_divided [some (.val (Bd.hs t a b).d)] = some (.val (.tup [.tup [S "has", t], .tup [a.d, b.d]]), [some (.val (Bd.hs t a b).d)]) := by
  have := P_divided (n := n) (x := S "has") (ds := [t, a.d, b.d]) h.okD (by omega)
  have e : (isS (Str.ofString "has") (S "has") || isS (Str.ofString "is") (S "has")) = true := by decide +kernel
  rw [e, if_pos rfl] at this
  exact this
theorem div_is {n : Nat} (hn : n ≤ 40) {t f u : Dat} {a b : Bd} (h : okW (n + 1) (Bd.tst t f u a b).d) : F_divided [some (.val (Bd.tst t f u a b).d)] = some (.val (.tup [.tup [S "is", t, f, u], .tup [a.d, b.d]]), [some (.val (Bd.tst t f u a b).d)]) := by
  have := P_divided (n := n) (x := S "is") (ds := [t, f, u, a.d, b.d]) h.okD (by omega)
  have e : (isS (Str.ofString "has") (S "is") || isS (Str.ofString "is") (S "is")) = true := by decide +kernel
  rw [e, if_pos rfl] at this
  exact this
/-! ### stars -/
def starM (d : Dat) (fs : EM (List R)) (env : DL.Env) : Option (List R × DL.Env) := match d with
  | .lst ds => andThen (fs env) fun rs e1 => some (ds.map R.val ++ rs, e1)
  | .tup ds => andThen (fs env) fun rs e1 => some (ds.map R.val ++ rs, e1)
  | _ => none
@[simp] theorem a_star (f : EM R) (fs : EM (List R)) (env : DL.Env) : eStar f fs env = andThen (f env) fun r e1 => andThen (eLook r e1) fun d e2 => starM d fs e2 := by
  unfold eStar
  rw [a_bind]
  congr 1
  funext r e1
  rw [a_bind]
  congr 1
  funext d e2
  unfold starM
  cases d <;> rfl
@[simp] theorem star_l (ds : List Dat) (fs : EM (List R)) (env : DL.Env) : starM (.lst ds) fs env = andThen (fs env) fun rs e1 => some (ds.map R.val ++ rs, e1) := rfl
@[simp] theorem star_t (ds : List Dat) (fs : EM (List R)) (env : DL.Env) : starM (.tup ds) fs env = andThen (fs env) fun rs e1 => some (ds.map R.val ++ rs, e1) := rfl
theorem forces_map (rs : List R) (env : DL.Env) : ∀ ds : List Dat, eForces (ds.map R.val ++ rs) env = andThen (eForces rs env) fun es e => some (ds ++ es, e)
  | [] => by
    show eForces rs env = _
    cases h : eForces rs env with
    | none => rfl
    | some x => rfl
  | d :: ds => by
    show eForces (R.val d :: (ds.map R.val ++ rs)) env = _
    rw [fs_cons, f_val, at_some, forces_map rs env ds]
    cases h : eForces rs env with
    | none => rfl
    | some x => rfl
/-! ### paths -/
abbrev pD (p : List Bool) : Dat := .tup (p.map .bl)
theorem path_add (b : Bool) (p : List Bool) (hl : p.length ≤ 1000) (env : DL.Env) (i : Nat) (h : env[i]? = some (some (.val (pD p)))) : eTup (eStar (eVar i) (eCons (eCon (.bl b)) eNil)) env = some (.val (pD (p ++ [b])), env) := by
  have hl' : (p.map Dat.bl).length + 1 ≤ 100000 := by rw [List.length_map]; omega
  have e : pD (p ++ [b]) = .tup (p.map .bl ++ [.bl b]) := by
    show Dat.tup ((p ++ [b]).map .bl) = _
    rw [List.map_append]
    rfl
  rw [e]
  unfold pD at h
  generalize p.map Dat.bl = ps at h hl'
  simp [h, forces_map, hl']
theorem P_paths : ∀ (b : Bd) (fuel n : Nat) (p : List Bool) (k : Nat) (L : List Str), n < fuel → n ≤ 12 → p.length + n ≤ 100 → okW n b.d →
    FR_paths_in fuel [some (.val b.d), some (.val (pD p))] = some (.new (.lst ((b.sy p k L).map Sy.ent)), [some (.val b.d), some (.val (pD p))])
  | _, 0, _, _, _, _, h, _, _, _ => absurd h (Nat.not_lt_zero _)
  | .say cs w, fuel + 1, n, p, k, L, hn, h12, hp, h => by
    have e0 : dIx (.tup [S "say", .tup cs, w]) (.int 0) = some (false, S "say") := rfl
    show runF 4 2 (fb_paths_in (FR_paths_in fuel)) _ = _
    unfold fb_paths_in
    show runF 4 2 _ [some (.val (.tup [S "say", .tup cs, w])), some (.val (pD p))] = some (.new (.lst [.tup [pD p, .tup [S "say", .tup cs, w]]]), [some (.val (.tup [S "say", .tup cs, w])), some (.val (pD p))])
    generalize Dat.tup [S "say", Dat.tup cs, w] = v at e0 ⊢
    generalize pD p = q
    simp [a_run, noOwnB, e0, dEq]
  | .lt x t f b, fuel + 1, n, p, k, L, hn, h12, hp, h => by
    obtain ⟨m, rfl, _, hx⟩ := okW_tupD h
    have e0 : dIx (Bd.lt x t f b).d (.int 0) = some (false, S "let") := rfl
    have e1 := div_lt (by omega) h
    have ih := P_paths b fuel m p (k + 1) (L ++ [x]) (by omega) (by omega) (by omega) (hx b.d (by simp))
    show runF 4 2 (fb_paths_in (FR_paths_in fuel)) _ = _
    unfold fb_paths_in
    show runF 4 2 _ _ = some (.new (.lst ((b.sy p (k + 1) (L ++ [x])).map Sy.ent)), _)
    generalize (Bd.lt x t f b).d = v at e0 e1 ⊢
    generalize pD p = q at ih ⊢
    have e2 : dIx (.tup [b.d]) (.int 0) = some (false, b.d) := rfl
    generalize b.d = bd at ih e1 e2 ⊢
    simp [a_run, noOwnB, e0, dEq, e1, gTupD, gConsD, gNilD, dLen, e2, ih]
  | .hs t a b, fuel + 1, n, p, k, L, hn, h12, hp, h => by
    obtain ⟨m, rfl, _, hx⟩ := okW_tupD h
    have e0 : dIx (Bd.hs t a b).d (.int 0) = some (false, S "has") := rfl
    have e1 := div_hs (by omega) h
    have oa := hx a.d (by simp)
    have ob := hx b.d (by simp)
    have i1 := P_paths a fuel m (p ++ [true]) (k + 1) L (by omega) (by omega) (by rw [List.length_append]; simp; omega) oa
    have i2 := P_paths b fuel m (p ++ [false]) (k + 1) L (by omega) (by omega) (by rw [List.length_append]; simp; omega) ob
    have l1 := sy_len a (p ++ [true]) (k + 1) L
    have l2 := sy_len b (p ++ [false]) (k + 1) L
    have g1 : 2 ^ a.dep ≤ 2 ^ 12 := Nat.pow_le_pow_right (by decide) (by have := a.dep_le m oa; omega)
    have g2 : 2 ^ b.dep ≤ 2 ^ 12 := Nat.pow_le_pow_right (by decide) (by have := b.dep_le m ob; omega)
    have hl : ((a.sy (p ++ [true]) (k + 1) L).map Sy.ent).length + ((b.sy (p ++ [false]) (k + 1) L).map Sy.ent).length ≤ 100000 := by
      rw [List.length_map, List.length_map]
      omega
    have t1 := fun (env : DL.Env) => path_add true p (by omega) env 1
    have t2 := fun (env : DL.Env) => path_add false p (by omega) env 1
    show runF 4 2 (fb_paths_in (FR_paths_in fuel)) _ = _
    unfold fb_paths_in
    show runF 4 2 _ _ = some (.new (.lst ((a.sy (p ++ [true]) (k + 1) L ++ b.sy (p ++ [false]) (k + 1) L).map Sy.ent)), _)
    rw [List.map_append]
    generalize (a.sy (p ++ [true]) (k + 1) L).map Sy.ent = xs at i1 hl ⊢
    generalize (b.sy (p ++ [false]) (k + 1) L).map Sy.ent = ys at i2 hl ⊢
    generalize (Bd.hs t a b).d = v at e0 e1 ⊢
    generalize pD p = q at t1 t2 ⊢
    generalize pD (p ++ [true]) = q1 at t1 i1
    generalize pD (p ++ [false]) = q2 at t2 i2
    have e2 : dIx (.tup [a.d, b.d]) (.int 0) = some (false, a.d) := rfl
    have e3 : dIx (.tup [a.d, b.d]) (.int 1) = some (false, b.d) := rfl
    generalize a.d = ad at i1 e1 e2 e3 ⊢
    generalize b.d = bd at i2 e1 e2 e3 ⊢
    generalize eTup (eStar (eVar 1) (eCons (eCon (.bl true)) eNil)) = T1 at t1 ⊢
    generalize eTup (eStar (eVar 1) (eCons (eCon (.bl false)) eNil)) = T2 at t2 ⊢
    simp [a_run, noOwnB, e0, dEq, e1, gTupD, gConsD, gNilD, dLen, e2, e3, i1, i2, dAdd, hl, t1, t2]
  | .tst t f u a b, fuel + 1, n, p, k, L, hn, h12, hp, h => by
    obtain ⟨m, rfl, _, hx⟩ := okW_tupD h
    have e0 : dIx (Bd.tst t f u a b).d (.int 0) = some (false, S "is") := rfl
    have e1 := div_is (by omega) h
    have oa := hx a.d (by simp)
    have ob := hx b.d (by simp)
    have i1 := P_paths a fuel m (p ++ [true]) (k + 1) L (by omega) (by omega) (by rw [List.length_append]; simp; omega) oa
    have i2 := P_paths b fuel m (p ++ [false]) (k + 1) L (by omega) (by omega) (by rw [List.length_append]; simp; omega) ob
    have l1 := sy_len a (p ++ [true]) (k + 1) L
    have l2 := sy_len b (p ++ [false]) (k + 1) L
    have g1 : 2 ^ a.dep ≤ 2 ^ 12 := Nat.pow_le_pow_right (by decide) (by have := a.dep_le m oa; omega)
    have g2 : 2 ^ b.dep ≤ 2 ^ 12 := Nat.pow_le_pow_right (by decide) (by have := b.dep_le m ob; omega)
    have hl : ((a.sy (p ++ [true]) (k + 1) L).map Sy.ent).length + ((b.sy (p ++ [false]) (k + 1) L).map Sy.ent).length ≤ 100000 := by
      rw [List.length_map, List.length_map]
      omega
    have t1 := fun (env : DL.Env) => path_add true p (by omega) env 1
    have t2 := fun (env : DL.Env) => path_add false p (by omega) env 1
    show runF 4 2 (fb_paths_in (FR_paths_in fuel)) _ = _
    unfold fb_paths_in
    show runF 4 2 _ _ = some (.new (.lst ((a.sy (p ++ [true]) (k + 1) L ++ b.sy (p ++ [false]) (k + 1) L).map Sy.ent)), _)
    rw [List.map_append]
    generalize (a.sy (p ++ [true]) (k + 1) L).map Sy.ent = xs at i1 hl ⊢
    generalize (b.sy (p ++ [false]) (k + 1) L).map Sy.ent = ys at i2 hl ⊢
    generalize (Bd.tst t f u a b).d = v at e0 e1 ⊢
    generalize pD p = q at t1 t2 ⊢
    generalize pD (p ++ [true]) = q1 at t1 i1
    generalize pD (p ++ [false]) = q2 at t2 i2
    have e2 : dIx (.tup [a.d, b.d]) (.int 0) = some (false, a.d) := rfl
    have e3 : dIx (.tup [a.d, b.d]) (.int 1) = some (false, b.d) := rfl
    generalize a.d = ad at i1 e1 e2 e3 ⊢
    generalize b.d = bd at i2 e1 e2 e3 ⊢
    generalize eTup (eStar (eVar 1) (eCons (eCon (.bl true)) eNil)) = T1 at t1 ⊢
    generalize eTup (eStar (eVar 1) (eCons (eCon (.bl false)) eNil)) = T2 at t2 ⊢
    simp [a_run, noOwnB, e0, dEq, e1, gTupD, gConsD, gNilD, dLen, e2, e3, i1, i2, dAdd, hl, t1, t2]
end Prg
/-! Terms; names let; hides. -/
namespace Prg
open PySem PySem.Spec L2 DL
open PyProof.Rows hiding St
/-! equal -/
def eqX (a b : Dat) : Bool := (eqD a b).getD false
theorem eqDs_some {as : List Dat} : ∀ {bs : List Dat}, (∀ a ∈ as, ∀ b ∈ bs, ∃ r, eqD a b = some r) → ∃ r, eqDs as bs = some r := by
  induction as with
  | nil =>
    intro bs _
    cases bs <;> exact ⟨_, by rw [eqDs]⟩
  | cons a as ih =>
    intro bs h
    cases bs with
    | nil => exact ⟨_, by rw [eqDs]⟩
    | cons b bs =>
      obtain ⟨r1, e1⟩ := h a (by simp) b (by simp)
      obtain ⟨r2, e2⟩ := ih (bs := bs) fun x hx y hy => h x (by simp [hx]) y (by simp [hy])
      exact ⟨_, by rw [eqDs, e1, e2]⟩
theorem okW_flat {n : Nat} {d : Dat} (h : okW n d) (hf : flat d = true) : d = .non ∨ (∃ b, d = .bl b) ∨ (∃ i, d = .int i) ∨ ∃ z, d = .str z := by
  cases d <;> first | (cases hf; done) | simp
theorem eqD_some : ∀ (n m : Nat) (a b : Dat), okW n a → okW m b → ∃ r, eqD a b = some r
  | n, m, a, b, ha, hb => by
    rcases okW_up ha with fa | ⟨k, as, rfl, rfl, _, ha'⟩
    · rcases okW_flat ha fa with rfl | ⟨_, rfl⟩ | ⟨_, rfl⟩ | ⟨_, rfl⟩ <;>
      (rcases okW_up hb with fb | ⟨k', bs, rfl, rfl, _, hb'⟩
       · rcases okW_flat hb fb with rfl | ⟨_, rfl⟩ | ⟨_, rfl⟩ | ⟨_, rfl⟩ <;> exact ⟨_, by rw [eqD]⟩
       · exact ⟨_, by rw [eqD]⟩)
    · rcases okW_up hb with fb | ⟨k', bs, rfl, rfl, _, hb'⟩
      · rcases okW_flat hb fb with rfl | ⟨_, rfl⟩ | ⟨_, rfl⟩ | ⟨_, rfl⟩ <;> exact ⟨_, by rw [eqD]⟩
      · obtain ⟨r, e⟩ := eqDs_some (as := as) (bs := bs) fun x hx y hy => eqD_some k k' x y (ha' x hx) (hb' y hy)
        exact ⟨r, by rw [eqD, e]⟩
theorem eqQ_X {n m : Nat} {a b : Dat} (ha : okW n a) (hb : okW m b) (hn : n ≤ 40) : eqQ a b = some (eqX a b) := by
  obtain ⟨r, e⟩ := eqD_some n m a b ha hb
  unfold eqQ eqX
  rw [if_pos ⟨by have := ha.okD.facts.2.2.2; omega, ha.okD.facts.2.2.1, hb.okD.facts.2.2.1⟩, e]
  rfl
theorem eqX_refl {n : Nat} {a : Dat} (ha : okW n a) : eqX a a = true := by
  obtain ⟨r, e⟩ := eqD_some n n a a ha ha
  unfold eqX
  rw [e]
  exact eqD_refl _ a r (Nat.le_refl _) e
theorem eqDs_bl : ∀ p q : List Bool, eqDs (p.map Dat.bl) (q.map Dat.bl) = some (p == q)
  | [], [] => by rw [List.map_nil, eqDs]; rfl
  | [], _ :: _ => by rw [List.map_nil, List.map_cons, eqDs]; rfl
  | _ :: _, [] => by rw [List.map_nil, List.map_cons, eqDs]; rfl
  | a :: p, b :: q => by
    rw [List.map_cons, List.map_cons, eqDs, eqDs_bl p q, eqD]
    rfl
theorem dep_bl : ∀ p : List Bool, depDs (p.map Dat.bl) = 0 ∧ noObjs (p.map Dat.bl) = true
  | [] => ⟨rfl, rfl⟩
  | a :: p => by
    obtain ⟨h1, h2⟩ := dep_bl p
    exact ⟨by rw [List.map_cons, depDs, h1]; rfl, by rw [List.map_cons, noObjs, h2]; rfl⟩
theorem dEq_p (p q : List Bool) : dEq (pD p) (pD q) = some (false, .bl (p == q)) := by
  unfold dEq eqQ
  rw [if_pos ⟨by rw [depD, (dep_bl p).1]; decide, by rw [noObj, (dep_bl p).2], by rw [noObj, (dep_bl q).2]⟩, eqD, eqDs_bl]
  rfl
/-! terms -/
def trm (c : Dat) : List Dat := match c with
  | .tup [_, k] => [k]
  | .tup [_, k, _, v] => [k, v]
  | .tup [_, k, t] => k :: (match t with
    | .tup ts => ts
    | _ => [])
  | _ => []
theorem P_terms {N : List Str} {F : List Dat} {c : Dat} (h : Chg N F c) (hF : F.length ≤ 5) : F_change_terms [some (.val c)] = some (.new (.lst (trm c)), [some (.val c)]) ∧ (trm c).length ≤ 10 ∧ ∀ t ∈ trm c, tmOk N t := by
  cases h with
  | make h1 h2 h3 =>
    rename_i k ts
    refine ⟨?_, by show ts.length + 1 ≤ 10; omega, fun t ht => ?_⟩
    · have e0 : dIx (.tup [S "make", k, .tup ts]) (.int 0) = some (false, S "make") := rfl
      have e1 : dIx (.tup [S "make", k, .tup ts]) (.int 1) = some (false, k) := rfl
      have e2 : dIx (.tup [S "make", k, .tup ts]) (.int 2) = some (false, .tup ts) := rfl
      have hl : ts.length + 1 ≤ 100000 := by omega
      show _ = some (R.new (.lst (k :: ts)), _)
      generalize Dat.tup [S "make", k, .tup ts] = v at e0 e1 e2 ⊢
      have hm := forces_map [] 
      simp only [List.append_nil] at hm
      unfold F_change_terms fb_change_terms
      simp [a_run, noOwnB, e0, dEq, e1, e2, hm, hl]
    · rcases List.mem_cons.mp ht with q | q
      · rw [q]; exact h1
      · exact h3 t q
  | set h1 h2 h3 =>
    rename_i k f v
    refine ⟨?_, by show 2 ≤ 10; omega, fun t ht => ?_⟩
    · have e0 : dIx (.tup [S "set", k, f, v]) (.int 0) = some (false, S "set") := rfl
      have e1 : dIx (.tup [S "set", k, f, v]) (.int 1) = some (false, k) := rfl
      have e2 : dIx (.tup [S "set", k, f, v]) (.int 3) = some (false, v) := rfl
      show _ = some (R.new (.lst [k, v]), _)
      generalize Dat.tup [S "set", k, f, v] = u at e0 e1 e2 ⊢
      unfold F_change_terms fb_change_terms
      simp [a_run, noOwnB, e0, dEq, e1, e2]
    · have ht' : t ∈ [k, v] := ht
      simp at ht'
      rcases ht' with q | q <;> rw [q] <;> assumption
  | drop h1 =>
    rename_i k
    refine ⟨?_, by show 1 ≤ 10; omega, fun t ht => ?_⟩
    · have e0 : dIx (.tup [S "drop", k]) (.int 0) = some (false, S "drop") := rfl
      have e1 : dIx (.tup [S "drop", k]) (.int 1) = some (false, k) := rfl
      show _ = some (R.new (.lst [k]), _)
      generalize Dat.tup [S "drop", k] = u at e0 e1 ⊢
      unfold F_change_terms fb_change_terms
      simp [a_run, noOwnB, e0, dEq, e1]
    · have ht' : t ∈ [k] := ht
      rw [List.mem_singleton.mp ht']
      exact h1
/-! names let -/
def letX (ps : List Str) (cs : List Dat) : Bool := (cs.flatMap trm).any fun t => strD t && !(ps.any fun y => y == strOf t)
def sayV (cs : List Dat) (w : Dat) : Dat := .tup [S "say", .tup cs, w]
theorem P_let {N : List Str} {F : List Dat} {ps : List Str} {cs : List Dat} {w : Dat} (hF : F.length ≤ 5) (hc : ∀ c ∈ cs, Chg N F c) (hl : cs.length ≤ 2) :
    F_names_let [some (.val (.tup (ps.map .str))), some (.val (sayV cs w))] = some (.val (.bl (letX ps cs)), [some (.val (.tup (ps.map .str))), some (.val (sayV cs w))]) := by
  have e1 : dIx (sayV cs w) (.int 1) = some (false, .tup cs) := rfl
  have hb : (cs.flatMap trm).length ≤ 20 := by
    have : ∀ (cs : List Dat), (∀ c ∈ cs, Chg N F c) → (cs.flatMap trm).length ≤ cs.length * 10 := fun cs => by
      induction cs with
      | nil => intro _; simp
      | cons c cs ih =>
        intro h
        have a := ih fun x hx => h x (by simp [hx])
        have b := (P_terms (h c (by simp)) hF).2.1
        rw [List.flatMap_cons, List.length_append, List.length_cons]
        omega
    have := this cs hc
    omega
  have ht : ∀ t ∈ cs.flatMap trm, tmOk N t := fun t ht => by
    obtain ⟨c, h1, h2⟩ := List.mem_flatMap.mp ht
    exact (P_terms (hc c h1) hF).2.2 t h2
  have hn : ∀ z, dNotIn (.str z) (.tup (ps.map .str)) = some (false, .bl (!ps.any fun y => y == z)) := fun z => dNotIn_N z ps
  unfold letX
  generalize Dat.tup (ps.map .str) = Q at hn ⊢
  generalize sayV cs w = v at e1 ⊢
  have comp : DL.eLc2 (iAny (eOp2 dIx (eVar 1) (eCon (.int 1)))) (gPut 3) (eRet true) (iAny (eCallV F_change_terms (eOne (eVar 3)))) (gPut 4) (eRet true) (eVar 4) [3, 4] [4] [some (.val Q), some (.val v), none, none, none] = some (.new (.lst (cs.flatMap trm)), [some (.val Q), some (.val v), none, none, none]) := by
    refine eLc2_gen (M := 10) trm (by simp [e1, itemsD]) rfl (by omega) fun c hcc => ?_
    obtain ⟨t1, t2, _⟩ := P_terms (hc c hcc) hF
    refine ⟨[some (.val Q), some (.val v), none, some (.val c), none], trm c, fun _ => true, fun d => d, rfl, rfl, by simp [t1, itemsD], rfl, fun d hd => ?_, by rw [List.filter_eq_self.mpr (fun _ _ => rfl), List.map_id'], t2, rfl⟩
    exact ⟨[some (.val Q), some (.val v), none, some (.val c), some (.val d)], .bor 4, rfl, rfl, fun _ => ⟨rfl, rfl⟩, rfl⟩
  generalize cs.flatMap trm = ts at comp hb ht ⊢
  have comp2 : eLc (iAny (eVar 2)) (gPut 4) (eRet true) (eAnd2 (eOpN dIsi (eCons (eVar 4) (eOne (eCon (.ty "str"))))) (eOp2 dNotIn (eVar 4) (eVar 0))) [4] [some (.val Q), some (.val v), some (.own (.lst ts)), none, none] = some (.new (.lst (ts.map fun t => .bl (strD t && !(ps.any fun y => y == strOf t)))), [some (.val Q), some (.val v), some (.val (.lst ts)), none, none]) := by
    refine eLc_each _ (fun t => .val (.bl (strD t && !(ps.any fun y => y == strOf t)))) (by simp [itemsD]) rfl (by omega) fun d hd => ?_
    rcases ht d hd with ⟨i, rfl⟩ | ⟨z, _, rfl⟩
    · have hi : dIsi [.int i, .ty "str"] = some (false, .bl false) := rfl
      constructor
      · simp [hi, truD]
        intro h
        cases h
      · rfl
    · have hi : dIsi [.str z, .ty "str"] = some (false, .bl true) := rfl
      have hz := hn z
      have hs : strOf (.str z) = z := rfl
      constructor
      · simp [hi, truD, hz, hs]
        intro _
        rfl
      · rfl
  have ha := any_map (fun t => strD t && !(ps.any fun y => y == strOf t)) ts
  unfold F_names_let fb_names_let
  simp [a_run, noOwnB, comp, comp2, ha]
/-! hides -/
def hidX (ps : List Str) (s u : Sy) (same : Bool) : Bool := (strOf s.w == strOf u.w) && (if same then letX ps s.cs else !eqX (.tup s.cs) (.tup u.cs))
structure SyOk (ps : List Str) (F : List Dat) (W : List Dat) (s : Sy) : Prop where
  cs : ∀ c ∈ s.cs, Chg (ps ++ s.L) F c
  len : s.cs.length ≤ 2
  w : s.w ∈ W
  ws : s.w = .str (strOf s.w)
  dis : ∀ x ∈ s.L, x ∉ ps
  wk : okW 8 (.tup s.cs)
theorem P_hides {F W : List Dat} (hF : F.length ≤ 5) {ps : List Str} {s u : Sy} (hs : SyOk ps F W s) (hu : SyOk ps F W u) (same : Bool) :
    F_hides [some (.val (.tup (ps.map .str))), some (.val s.say), some (.val u.say), some (.val (.bl same))] = some (.val (.bl (hidX ps s u same)), [some (.val (.tup (ps.map .str))), some (.val s.say), some (.val u.say), some (.val (.bl same))]) := by
  have a1 : dIx s.say (.int 1) = some (false, .tup s.cs) := rfl
  have a2 : dIx s.say (.int 2) = some (false, .str (strOf s.w)) := by
    show some (false, s.w) = _
    rw [← hs.ws]
  have b1 : dIx u.say (.int 1) = some (false, .tup u.cs) := rfl
  have b2 : dIx u.say (.int 2) = some (false, .str (strOf u.w)) := by
    show some (false, u.w) = _
    rw [← hu.ws]
  have q := P_let (ps := ps) (w := s.w) hF hs.cs hs.len
  have qe : dNe (.tup s.cs) (.tup u.cs) = some (false, .bl (!eqX (.tup s.cs) (.tup u.cs))) := by
    unfold dNe
    rw [eqQ_X hs.wk hu.wk (by omega)]
    rfl
  have q' : F_names_let [some (.val (.tup (ps.map .str))), some (.val s.say)] = some (.val (.bl (letX ps s.cs)), [some (.val (.tup (ps.map .str))), some (.val s.say)]) := q
  unfold hidX
  generalize Dat.tup (ps.map .str) = Q at q' ⊢
  generalize letX ps s.cs = lx at q' ⊢
  generalize eqX (.tup s.cs) (.tup u.cs) = ex at qe ⊢
  generalize Dat.tup s.cs = cs1 at a1 qe
  generalize Dat.tup u.cs = cs2 at b1 qe
  generalize s.say = v1 at a1 a2 q' ⊢
  generalize u.say = v2 at b1 b2 ⊢
  have ne : dNe (.str (strOf s.w)) (.str (strOf u.w)) = some (false, .bl (!(strOf s.w == strOf u.w))) := by
    unfold dNe
    rw [eqQ_ss]
    rfl
  unfold F_hides fb_hides
  cases c : strOf s.w == strOf u.w with
  | false => simp [a_run, noOwnB, a2, b2, ne, c]
  | true => cases same <;> simp [a_run, noOwnB, a2, b2, ne, c, truD, q', a1, b1, qe]
end Prg
/-! Sayings; hiding; telling. -/
namespace Prg
open PySem PySem.Spec L2 DL
open PyProof.Rows hiding St
theorem bools_bl : ∀ p : List Bool, bools (p.map Dat.bl) = some p
  | [] => rfl
  | b :: p => by
    show (bools (p.map Dat.bl)).map _ = _
    rw [bools_bl p]
    rfl
theorem ents_sy : ∀ ss : List Sy, entsD (ss.map Sy.ent) = some (ss.map fun s => (s.p, s.say))
  | [] => rfl
  | s :: ss => by
    show ((bools (s.p.map Dat.bl)).map fun bs => (bs, s.say)).bind _ = _
    rw [bools_bl]
    show (entsD (ss.map Sy.ent)).map _ = _
    rw [ents_sy ss]
    rfl
abbrev syDct (ss : List Sy) : Dat := .dcT (ss.map fun s => pD s.p) (ss.map Sy.say)
theorem dct_sy {ss : List Sy} (h : (ss.map Sy.p).Nodup) (hl : ss.length ≤ 100000) : dDictT [.lst (ss.map Sy.ent)] = some (true, syDct ss) := by
  show (entsD (ss.map Sy.ent)).bind _ = _
  rw [ents_sy]
  show (if ((ss.map fun s => (s.p, s.say)).map (·.1)).Nodup ∧ _ then _ else none) = _
  have e : (ss.map fun s => (s.p, s.say)).map (·.1) = ss.map Sy.p := by
    rw [List.map_map]
    rfl
  rw [if_pos ⟨by rw [e]; exact h, by rw [List.length_map]; exact hl⟩, List.map_map, List.map_map]
  rfl
theorem pairs_sy : ∀ ss : List Sy, itPairs (ss.map fun s => pD s.p) (ss.map Sy.say) = ss.map Sy.ent
  | [] => rfl
  | s :: ss => by
    show Dat.tup [pD s.p, s.say] :: itPairs (ss.map fun s => pD s.p) (ss.map Sy.say) = _
    rw [pairs_sy ss]
    rfl
/-- the says of a KIND -/
abbrev KK.sy (k : KK) : List Sy := k.b.sy [] 0 []
theorem kk_len {k : KK} (h : okW 8 k.b.d) : k.sy.length ≤ 256 := by
  have h1 := sy_len k.b [] 0 []
  have h2 : 2 ^ k.b.dep ≤ 2 ^ 8 := Nat.pow_le_pow_right (by decide) (k.b.dep_le 8 h)
  have h3 : 2 ^ 8 = 256 := rfl
  show (k.b.sy [] 0 []).length ≤ 256
  omega
theorem get_nm {F : List Str} {ks : List KK} {k : KK} (hk : k ∈ ks) (hn : (ks.map KK.nm).Nodup) {env : DL.Env} (h0 : env[0]? = some (some (.val (bkD F ks)))) (h1 : env[1]? = some (some (.val (.str k.nm)))) :
    eIxO (Str.ofString "Book") F_Book_getitem (eVar 0) (eVar 1) env = some (.val k.d, env) :=
  ixO_ok h0 (bk_ob F ks) (ra := .bor 1) (A := .str k.nm) (by rw [a_var, h1, slotV_s]) (by rw [w_bor, fs_cons, f_bor, h1, slotF_v, at_some, fs_nil, at_some]) (P_get (F := F) hk hn)
theorem P_sayings {F : List Str} {ks : List KK} {k : KK} (hk : k ∈ ks) (hn : (ks.map KK.nm).Nodup) (hw : okW 8 k.b.d) :
    F_sayings [some (.val (bkD F ks)), some (.val (.str k.nm))] = some (.val (.tup [.tup (k.ps.map .str), syDct k.sy]), [some (.val (bkD F ks)), some (.val (.str k.nm))]) := by
  have g := get_nm (F := F) hk hn (env := [some (.val (bkD F ks)), some (.val (.str k.nm)), none, none, none]) rfl rfl
  have p := P_paths k.b 60 8 [] 0 [] (by decide) (by decide) (by decide) hw
  have d := dct_sy (sy_nd k.b [] 0 []) (by have : (k.b.sy [] 0 []).length ≤ 256 := kk_len hw; omega)
  have hkd : k.d = .tup [.str k.nm, .tup (k.ps.map .str), k.b.d] := rfl
  rw [hkd] at g
  unfold F_sayings fb_sayings
  show runF 5 2 _ [some (.val (bkD F ks)), some (.val (.str k.nm))] = some (.val (.tup [.tup (k.ps.map .str), syDct (k.b.sy [] 0 [])]), _)
  generalize bkD F ks = B at g ⊢
  generalize (k.b.sy [] 0 []).map Sy.ent = es at p d
  generalize syDct (k.b.sy [] 0 []) = dd at d ⊢
  generalize Dat.tup (k.ps.map .str) = Q at g ⊢
  have pe : pD [] = .tup [] := rfl
  rw [pe] at p
  generalize k.b.d = bd at g p ⊢
  simp [a_run, noOwnB, g, gTupD, gConsD, gNilD, p, d]
/-- a loop that ends at the first one of a sort -/
theorem loop_find {g : Dat → EM Unit} {body : EM O} (I : DL.Env → Prop) (J : R → DL.Env → Prop) (P : Dat → Bool) : ∀ (ds : List Dat) (env : DL.Env), I env →
    (∀ d ∈ ds, ∀ env, I env → ∃ e1, g d env = some ((), e1) ∧ ((P d = false ∧ ∃ e2, body e1 = some (.nx, e2) ∧ I e2) ∨ (P d = true ∧ ∃ r e2, body e1 = some (.rt r, e2) ∧ J r e2))) →
    ∃ env', (ds.any P = false ∧ loopS g body ds env = some (.nx, env') ∧ I env') ∨ (ds.any P = true ∧ ∃ r, loopS g body ds env = some (.rt r, env') ∧ J r env')
  | [], env, h, _ => ⟨env, .inl ⟨rfl, rfl, h⟩⟩
  | d :: ds, env, h, hs => by
    obtain ⟨e1, h1, h2⟩ := hs d (by simp) env h
    rcases h2 with ⟨hp, e2, h3, h4⟩ | ⟨hp, r, e2, h3, h4⟩
    · obtain ⟨e3, h5⟩ := loop_find I J P ds e2 h4 fun x hx => hs x (by simp [hx])
      have e : loopS g body (d :: ds) env = loopS g body ds e2 := by
        show eBind (g d) _ env = _
        rw [a_bind, h1, at_some, a_bind, h3, at_some]
      rw [e, List.any_cons, hp]
      exact ⟨e3, h5⟩
    · refine ⟨e2, .inr ⟨by rw [List.any_cons, hp]; rfl, r, ?_, h4⟩⟩
      show eBind (g d) _ env = _
      rw [a_bind, h1, at_some, a_bind, h3, at_some]
      rfl
/-! ### hiding -/
abbrev eH (B n q dd : Dat) (s4 s5 s6 s7 : Option Slot) : DL.Env := [some (.val B), some (.val n), some (.val q), some (.val dd), s4, s5, s6, s7]
def hidC : EM Bool := (eTruth (eCallV F_hides (eCons (eVar 2) (eCons (eVar 5) (eCons (eVar 7) (eOne (eOp2 dEq (eVar 4) (eVar 6))))))))
def hidR : EM O := (sRet (eTup (eCons (eOp2 dIx (eVar 5) (eCon (.int 2))) (eCons (eVar 4) (eOne (eVar 6))))))
def hidB : EM O := eIf hidC hidR (eRet .nx)
def hidF : EM O := (sFor (iItemsD (eVar 3)) (gTupD 2 (gConsD (gPut 6) (gConsD (gPut 7) gNilD))) hidB)
theorem fb_hid : fb_hiding = (sSeq (sAsg (eCallV F_sayings (eCons (eVar 0) (eOne (eVar 1)))) (gTupD 2 (gConsD (gPut 2) (gConsD (gPut 3) gNilD)))) (sSeq (sFor (iItemsD (eVar 3)) (gTupD 2 (gConsD (gPut 4) (gConsD (gPut 5) gNilD))) hidF) (sRet (eCon .non)))) := rfl
theorem items_ok {env : DL.Env} {ss : List Sy} (h : env[3]? = some (some (.val (syDct ss)))) : iItemsD (eVar 3) env = some (ss.map Sy.ent, env) := by
  unfold iItemsD
  rw [a_bind, a_var, h, slotV_s, at_some, a_bind, f_bor, h, slotF_v, at_some]
  show (if (ss.map fun s => pD s.p).length = (ss.map Sy.say).length then eRet (itPairs (ss.map fun s => pD s.p) (ss.map Sy.say)) else fun _ => none) env = _
  rw [if_pos (by rw [List.length_map, List.length_map]), pairs_sy]
  rfl
def tupR (r : R) : Prop := ∃ ds, r = .val (.tup ds)
theorem hidB_ok {F W : List Dat} (hF : F.length ≤ 5) {ps : List Str} {s u : Sy} (hs : SyOk ps F W s) (hu : SyOk ps F W u) {B n dd : Dat} :
    (hidX ps s u (s.p == u.p) = false ∧ hidB (eH B n (.tup (ps.map .str)) dd (some (.val (pD s.p))) (some (.val s.say)) (some (.val (pD u.p))) (some (.val u.say))) = some (.nx, eH B n (.tup (ps.map .str)) dd (some (.val (pD s.p))) (some (.val s.say)) (some (.val (pD u.p))) (some (.val u.say)))) ∨
    (hidX ps s u (s.p == u.p) = true ∧ ∃ r, tupR r ∧ hidB (eH B n (.tup (ps.map .str)) dd (some (.val (pD s.p))) (some (.val s.say)) (some (.val (pD u.p))) (some (.val u.say))) = some (.rt r, eH B n (.tup (ps.map .str)) dd (some (.val (pD s.p))) (some (.val s.say)) (some (.val (pD u.p))) (some (.val u.say)))) := by
  have q := P_hides hF hs hu (s.p == u.p)
  have e := dEq_p s.p u.p
  have a2 : dIx s.say (.int 2) = some (false, s.w) := rfl
  unfold hidB hidC hidR tupR
  generalize Dat.tup (ps.map .str) = Q at q ⊢
  generalize pD s.p = p1 at e ⊢
  generalize pD u.p = p2 at e ⊢
  generalize s.say = v1 at q a2 ⊢
  generalize u.say = v2 at q ⊢
  generalize (s.p == u.p) = b at q e ⊢
  cases c : hidX ps s u b with
  | false =>
    rw [c] at q
    exact .inl ⟨rfl, by simp [e, q, truD]⟩
  | true =>
    rw [c] at q
    exact .inr ⟨rfl, _, ⟨_, rfl⟩, by simp [e, q, truD, a2]; rfl⟩
theorem put67 {B n q dd p v : Dat} {s4 s5 s6 s7 : Option Slot} (h6 : nm s6) (h7 : nm s7) : gTupD 2 (gConsD (gPut 6) (gConsD (gPut 7) gNilD)) (.tup [p, v]) (eH B n q dd s4 s5 s6 s7) = some ((), eH B n q dd s4 s5 (some (.val p)) (some (.val v))) := by
  simp [gTupD, gConsD, gNilD, h6, h7]
theorem put45 {B n q dd p v : Dat} {s4 s5 s6 s7 : Option Slot} (h4 : nm s4) (h5 : nm s5) : gTupD 2 (gConsD (gPut 4) (gConsD (gPut 5) gNilD)) (.tup [p, v]) (eH B n q dd s4 s5 s6 s7) = some ((), eH B n q dd (some (.val p)) (some (.val v)) s6 s7) := by
  simp [gTupD, gConsD, gNilD, h4, h5]
open Classical in
/-- a say that hides, read from its entry -/
noncomputable def entOf (ss : List Sy) (d : Dat) (P : Sy → Bool) : Bool := ss.any fun s => decide (s.ent = d) && P s
theorem ent_inj {s u : Sy} (h : s.ent = u.ent) : s.p = u.p := by
  have h1 : s.p.map Dat.bl = u.p.map Dat.bl := by
    have h' : Dat.tup [.tup (s.p.map .bl), s.say] = .tup [.tup (u.p.map .bl), u.say] := h
    injection h' with h'
    injection h' with h' _
    injection h'
  exact List.map_inj_right (fun a b e => by injection e) |>.mp h1
theorem sy_inj {ss : List Sy} (hn : (ss.map Sy.p).Nodup) {s u : Sy} (hs : s ∈ ss) (hu : u ∈ ss) (h : s.p = u.p) : s = u := by
  obtain ⟨i, hi⟩ := List.mem_iff_getElem.mp hs
  obtain ⟨j, hj⟩ := List.mem_iff_getElem.mp hu
  obtain ⟨hi, ei⟩ := hi
  obtain ⟨hj, ej⟩ := hj
  have := (List.getElem_inj (xs := ss.map Sy.p) (h₀ := by simpa using hi) (h₁ := by simpa using hj) hn).mp (by rw [List.getElem_map, List.getElem_map, ei, ej, h])
  subst this
  rw [← ei, ← ej]
theorem entOf_eq {ss : List Sy} (hn : (ss.map Sy.p).Nodup) {s : Sy} (hs : s ∈ ss) (P : Sy → Bool) : entOf ss s.ent P = P s := by
  unfold entOf
  cases c : P s with
  | true => exact List.any_eq_true.mpr ⟨s, hs, by simp [c]⟩
  | false =>
    rw [List.any_eq_false]
    intro u hu
    by_cases e : u.ent = s.ent
    · have := sy_inj hn hu hs (ent_inj e)
      subst this
      simp [c]
    · simp [e]
theorem entOf_any {ss : List Sy} (hn : (ss.map Sy.p).Nodup) (P : Sy → Bool) : (ss.map Sy.ent).any (fun d => entOf ss d P) = ss.any P := by
  rw [List.any_map]
  rw [Bool.eq_iff_iff,
      List.any_eq_true, List.any_eq_true]
  constructor
  · rintro ⟨s, hs, h⟩
    exact ⟨s, hs, by rw [← entOf_eq hn hs P]; exact h⟩
  · rintro ⟨s, hs, h⟩
    refine ⟨s, hs, ?_⟩
    show entOf ss s.ent P = true
    rw [entOf_eq hn hs]
    exact h
theorem hidF_ok {F W : List Dat} (hF : F.length ≤ 5) {ps : List Str} {ss : List Sy} (hn : (ss.map Sy.p).Nodup) (hs : ∀ s ∈ ss, SyOk ps F W s) {s : Sy} (hsm : s ∈ ss) {B n : Dat} {s6 s7 : Option Slot} (h6 : nm s6) (h7 : nm s7) :
    ∃ t6 t7, nm t6 ∧ nm t7 ∧ ((ss.any (fun u => hidX ps s u (s.p == u.p)) = false ∧ hidF (eH B n (.tup (ps.map .str)) (syDct ss) (some (.val (pD s.p))) (some (.val s.say)) s6 s7) = some (.nx, eH B n (.tup (ps.map .str)) (syDct ss) (some (.val (pD s.p))) (some (.val s.say)) t6 t7)) ∨
    (ss.any (fun u => hidX ps s u (s.p == u.p)) = true ∧ ∃ r, tupR r ∧ hidF (eH B n (.tup (ps.map .str)) (syDct ss) (some (.val (pD s.p))) (some (.val s.say)) s6 s7) = some (.rt r, eH B n (.tup (ps.map .str)) (syDct ss) (some (.val (pD s.p))) (some (.val s.say)) t6 t7))) := by
  obtain ⟨env', h⟩ := loop_find (g := gTupD 2 (gConsD (gPut 6) (gConsD (gPut 7) gNilD))) (body := hidB)
    (fun env => ∃ t6 t7, nm t6 ∧ nm t7 ∧ env = eH B n (.tup (ps.map .str)) (syDct ss) (some (.val (pD s.p))) (some (.val s.say)) t6 t7)
    (fun r env => tupR r ∧ ∃ t6 t7, nm t6 ∧ nm t7 ∧ env = eH B n (.tup (ps.map .str)) (syDct ss) (some (.val (pD s.p))) (some (.val s.say)) t6 t7)
    (fun d => entOf ss d fun u => hidX ps s u (s.p == u.p)) (ss.map Sy.ent) _ ⟨s6, s7, h6, h7, rfl⟩ fun d hd env he => by
      obtain ⟨t6, t7, g6, g7, rfl⟩ := he
      obtain ⟨u, hu, rfl⟩ := List.mem_map.mp hd
      refine ⟨_, put67 (p := pD u.p) (v := u.say) g6 g7, ?_⟩
      rw [entOf_eq hn hu]
      rcases hidB_ok hF (hs s hsm) (hs u hu) (B := B) (n := n) (dd := syDct ss) with ⟨a1, a2⟩ | ⟨a1, r, a2, a3⟩
      · exact .inl ⟨a1, _, a2, _, _, rfl, rfl, rfl⟩
      · exact .inr ⟨a1, r, _, a3, a2, _, _, rfl, rfl, rfl⟩
  rw [entOf_any hn] at h
  have it : ∀ s6 s7, hidF (eH B n (.tup (ps.map .str)) (syDct ss) (some (.val (pD s.p))) (some (.val s.say)) s6 s7) = loopS (gTupD 2 (gConsD (gPut 6) (gConsD (gPut 7) gNilD))) hidB (ss.map Sy.ent) (eH B n (.tup (ps.map .str)) (syDct ss) (some (.val (pD s.p))) (some (.val s.say)) s6 s7) := fun s6 s7 => by
    unfold hidF
    rw [a_sfor, items_ok rfl, at_some]
  rcases h with ⟨a1, a2, t6, t7, g6, g7, rfl⟩ | ⟨a1, r, a2, a3, t6, t7, g6, g7, rfl⟩
  · exact ⟨t6, t7, g6, g7, .inl ⟨a1, by rw [it, a2]⟩⟩
  · exact ⟨t6, t7, g6, g7, .inr ⟨a1, r, a3, by rw [it, a2]⟩⟩
/-- one that hides stands there -/
def hidS (ps : List Str) (ss : List Sy) : Bool := ss.any fun s => ss.any fun u => hidX ps s u (s.p == u.p)
theorem P_hiding {F : List Str} {W : List Dat} (hF : F.length ≤ 5) {ks : List KK} {k : KK} (hk : k ∈ ks) (hn : (ks.map KK.nm).Nodup) (hw : okW 8 k.b.d) (hs : ∀ s ∈ k.sy, SyOk k.ps (F.map .str) W s) :
    ∃ v, F_hiding [some (.val (bkD F ks)), some (.val (.str k.nm))] = some (.val v, [some (.val (bkD F ks)), some (.val (.str k.nm))]) ∧ dIs v .non = some (false, .bl (!hidS k.ps k.sy)) := by
  have sn := sy_nd k.b [] 0 []
  obtain ⟨env', h⟩ := loop_find (g := gTupD 2 (gConsD (gPut 4) (gConsD (gPut 5) gNilD))) (body := hidF)
    (fun env => ∃ t4 t5 t6 t7, nm t4 ∧ nm t5 ∧ nm t6 ∧ nm t7 ∧ env = eH (bkD F ks) (.str k.nm) (.tup (k.ps.map .str)) (syDct k.sy) t4 t5 t6 t7)
    (fun r env => tupR r ∧ ∃ t4 t5 t6 t7, env = eH (bkD F ks) (.str k.nm) (.tup (k.ps.map .str)) (syDct k.sy) t4 t5 t6 t7)
    (fun d => entOf k.sy d fun s => k.sy.any fun u => hidX k.ps s u (s.p == u.p)) (k.sy.map Sy.ent) _ ⟨none, none, none, none, rfl, rfl, rfl, rfl, rfl⟩ fun d hd env he => by
      obtain ⟨t4, t5, t6, t7, g4, g5, g6, g7, rfl⟩ := he
      obtain ⟨s, hsm, rfl⟩ := List.mem_map.mp hd
      refine ⟨_, put45 (p := pD s.p) (v := s.say) g4 g5, ?_⟩
      rw [entOf_eq sn hsm]
      obtain ⟨u6, u7, n6, n7, q⟩ := hidF_ok (by rw [List.length_map]; exact hF) sn hs hsm (B := bkD F ks) (n := .str k.nm) g6 g7
      rcases q with ⟨a1, a2⟩ | ⟨a1, r, a2, a3⟩
      · exact .inl ⟨a1, _, a2, _, _, _, _, rfl, rfl, n6, n7, rfl⟩
      · exact .inr ⟨a1, r, _, a3, a2, _, _, _, _, rfl⟩
  rw [entOf_any sn] at h
  have x1 : sAsg (eCallV F_sayings (eCons (eVar 0) (eOne (eVar 1)))) (gTupD 2 (gConsD (gPut 2) (gConsD (gPut 3) gNilD))) [some (.val (bkD F ks)), some (.val (.str k.nm)), none, none, none, none, none, none] = some (.nx, eH (bkD F ks) (.str k.nm) (.tup (k.ps.map .str)) (syDct k.sy) none none none none) := by
    have q := P_sayings (F := F) hk hn hw
    generalize bkD F ks = B at q ⊢
    generalize Dat.tup (k.ps.map .str) = Q at q ⊢
    generalize syDct k.sy = dd at q ⊢
    simp [q, gTupD, gConsD, gNilD]
  have x2 : sFor (iItemsD (eVar 3)) (gTupD 2 (gConsD (gPut 4) (gConsD (gPut 5) gNilD))) hidF (eH (bkD F ks) (.str k.nm) (.tup (k.ps.map .str)) (syDct k.sy) none none none none) = loopS (gTupD 2 (gConsD (gPut 4) (gConsD (gPut 5) gNilD))) hidF (k.sy.map Sy.ent) (eH (bkD F ks) (.str k.nm) (.tup (k.ps.map .str)) (syDct k.sy) none none none none) := by
    rw [a_sfor, items_ok rfl, at_some]
  rcases h with ⟨a1, a2, t4, t5, t6, t7, _, _, _, _, rfl⟩ | ⟨a1, r, a2, ⟨ds, rfl⟩, t4, t5, t6, t7, rfl⟩
  · refine ⟨.non, ?_, by unfold hidS; rw [a1]; rfl⟩
    show runF 8 2 fb_hiding _ = _
    rw [a_run, if_pos ⟨rfl, rfl⟩]
    show andThen (fb_hiding [some (.val (bkD F ks)), some (.val (.str k.nm)), none, none, none, none, none, none]) _ = _
    rw [fb_hid, seq_nx x1, seq_nx (x2.trans a2)]
    rfl
  · refine ⟨.tup ds, ?_, by unfold hidS; rw [a1]; rfl⟩
    show runF 8 2 fb_hiding _ = _
    rw [a_run, if_pos ⟨rfl, rfl⟩]
    show andThen (fb_hiding [some (.val (bkD F ks)), some (.val (.str k.nm)), none, none, none, none, none, none]) _ = _
    rw [fb_hid, seq_nx x1, seq_rt (x2.trans a2)]
    rfl
theorem P_telling {F : List Str} {W : List Dat} (hF : F.length ≤ 5) {ks : List KK} {k : KK} (hk : k ∈ ks) (hn : (ks.map KK.nm).Nodup) (hw : okW 8 k.b.d) (hs : ∀ s ∈ k.sy, SyOk k.ps (F.map .str) W s) :
    F_is_telling [some (.val (bkD F ks)), some (.val (.str k.nm))] = some (.val (.bl (!hidS k.ps k.sy)), [some (.val (bkD F ks)), some (.val (.str k.nm))]) := by
  obtain ⟨v, e1, e2⟩ := P_hiding hF hk hn hw hs
  unfold F_is_telling fb_is_telling
  generalize bkD F ks = B at e1 ⊢
  simp [a_run, noOwnB, e1, e2]
end Prg
/-! Lengths; most calls. -/
namespace Prg
open PySem PySem.Spec L2 DL
open PyProof.Rows hiding St
theorem loopC_xs {α : Type} {g : Dat → EM Unit} {t : EM Bool} {f : EM R} {vs : List Nat} {env : DL.Env} (u hf : α → Dat) : ∀ (xs : List α) (acc : List Dat),
    (∀ x ∈ xs, ∃ (e : DL.Env) (r : R), g (u x) env = some ((), e) ∧ t e = some (true, e) ∧ f e = some (r, e) ∧ eForce r e = some (hf x, e) ∧ eWipe vs e = some ((), env)) → acc.length + xs.length ≤ 100000 → loopC g t f vs (xs.map u) acc env = some (acc ++ xs.map hf, env)
  | [], acc, _, _ => by
    show some (acc, env) = _
    simp
  | x :: xs, acc, hd, hl => by
    obtain ⟨e, r, h1, h2, h3, h4, h5⟩ := hd x (by simp)
    show eBind (g (u x)) _ env = _
    rw [a_bind, h1, at_some, a_bind, h2, at_some, if_pos rfl, a_bind, h3, at_some, a_bind, h4, at_some, a_bind, h5, at_some, if_pos (by simp at hl; omega), loopC_xs u hf xs _ (fun y hy => hd y (by simp [hy])) (by simp at hl ⊢; omega)]
    simp
theorem eLc_xs {α : Type} {it : EM (List Dat)} {g : Dat → EM Unit} {t : EM Bool} {f : EM R} {vs : List Nat} {env env1 : DL.Env} (xs : List α) (u hf : α → Dat) (hi : it env = some (xs.map u, env1)) (hfr : freeAt vs env1 = true) (hl : xs.length ≤ 100000)
    (hd : ∀ x ∈ xs, ∃ (e : DL.Env) (r : R), g (u x) env1 = some ((), e) ∧ t e = some (true, e) ∧ f e = some (r, e) ∧ eForce r e = some (hf x, e) ∧ eWipe vs e = some ((), env1)) :
    eLc it g t f vs env = some (.new (.lst (xs.map hf)), env1) := by
  unfold eLc
  rw [a_bind, hi, at_some, if_pos hfr, a_bind, loopC_xs u hf xs [] hd (by simpa using hl), at_some]
  rfl
theorem ints_map : ∀ is : List Int, intsD (is.map Dat.int) = some is
  | [] => rfl
  | i :: is => by
    show (intsD (is.map Dat.int)).map _ = _
    rw [ints_map is]
    rfl
theorem maxL1 (x : Int) : dMaxL [.lst [.int x]] = some (false, .int x) := rfl
theorem maxL2 (x y : Int) : dMaxL [.lst [.int x, .int y]] = some (false, .int (max x y)) := rfl
/-! ### lengths -/
theorem len_say (cs : List Dat) (w : Dat) (F : EM R) : runF 4 1 (fb_body_length F) [some (.val (Bd.say cs w).d)] = some (.val (.int 0), [some (.val (Bd.say cs w).d)]) := by
  have e0 : dIx (Bd.say cs w).d (.int 0) = some (false, S "say") := rfl
  unfold fb_body_length
  generalize (Bd.say cs w).d = v at e0 ⊢
  simp [a_run, noOwnB, e0, dEq]
theorem len_other {v hd : Dat} {bs : List Bd} {z : Str} {x : Int} {F : EM R} (e0 : dIx v (.int 0) = some (false, .str z)) (hz : (z == Str.ofString "say") = false) (e1 : F_divided [some (.val v)] = some (.val (.tup [hd, .tup (bs.map Bd.d)]), [some (.val v)])) (hl : bs.length ≤ 10)
    (hF : ∀ b ∈ bs, F [some (.val b.d)] = some (.val (.int b.dep), [some (.val b.d)])) (hx : dMaxL [.lst (bs.map fun b => .int b.dep)] = some (false, .int x)) : runF 4 1 (fb_body_length F) [some (.val v)] = some (.val (.int (1 + x)), [some (.val v)]) := by
  have comp : eLc (iAny (eVar 2)) (gPut 3) (eRet true) (eCallV F (eOne (eVar 3))) [3] [some (.val v), some (.val hd), some (.val (.tup (bs.map Bd.d))), none] = some (.new (.lst (bs.map fun b => .int b.dep)), [some (.val v), some (.val hd), some (.val (.tup (bs.map Bd.d))), none]) := by
    refine eLc_xs bs Bd.d (fun b => .int b.dep) ?_ rfl (by omega) fun b hb => ?_
    · generalize bs.map Bd.d = ds
      simp [itemsD]
    · have := hF b hb
      refine ⟨[some (.val v), some (.val hd), some (.val (.tup (bs.map Bd.d))), some (.val b.d)], .val (.int b.dep), rfl, rfl, ?_, rfl, rfl⟩
      generalize bs.map Bd.d = ds
      simp [this]
  generalize (bs.map fun b => Dat.int b.dep) = is at comp hx
  generalize bs.map Bd.d = ds at comp e1
  unfold fb_body_length
  simp [a_run, noOwnB, e0, dEq, hz, e1, gTupD, gConsD, gNilD, comp, hx, dAdd]
theorem P_len : ∀ (b : Bd) (fuel n : Nat), n < fuel → n ≤ 40 → okW n b.d → FR_body_length fuel [some (.val b.d)] = some (.val (.int b.dep), [some (.val b.d)])
  | _, 0, _, h, _, _ => absurd h (Nat.not_lt_zero _)
  | .say cs w, fuel + 1, n, _, _, _ => len_say cs w _
  | .lt x t f b, fuel + 1, n, hn, h40, h => by
    obtain ⟨m, rfl, _, hx⟩ := okW_tupD h
    have ih := P_len b fuel m (by omega) (by omega) (hx b.d (by simp))
    have q := len_other (v := (Bd.lt x t f b).d) (bs := [b]) (F := FR_body_length fuel) (z := Str.ofString "let") (x := b.dep) rfl (by decide +kernel) (div_lt (by omega) h) (by simp) (fun c hc => by
      rw [List.mem_singleton.mp hc]
      exact ih) rfl
    show runF 4 1 (fb_body_length (FR_body_length fuel)) _ = _
    rw [q]
    show some (R.val (.int (1 + (b.dep : Int))), _) = some (R.val (.int ((b.dep + 1 : Nat) : Int)), _)
    rw [show (1 + (b.dep : Int)) = ((b.dep + 1 : Nat) : Int) by omega]
  | .hs t a b, fuel + 1, n, hn, h40, h => by
    obtain ⟨m, rfl, _, hx⟩ := okW_tupD h
    have i1 := P_len a fuel m (by omega) (by omega) (hx a.d (by simp))
    have i2 := P_len b fuel m (by omega) (by omega) (hx b.d (by simp))
    have q := len_other (v := (Bd.hs t a b).d) (bs := [a, b]) (F := FR_body_length fuel) (z := Str.ofString "has") (x := max (a.dep : Int) b.dep) rfl (by decide +kernel) (div_hs (by omega) h) (by simp) (fun c hc => by
      simp at hc
      rcases hc with rfl | rfl <;> assumption) rfl
    show runF 4 1 (fb_body_length (FR_body_length fuel)) _ = _
    rw [q]
    show some (R.val (.int (1 + max (a.dep : Int) b.dep)), _) = some (R.val (.int ((max a.dep b.dep + 1 : Nat) : Int)), _)
    rw [show (1 + max (a.dep : Int) b.dep) = ((max a.dep b.dep + 1 : Nat) : Int) by omega]
  | .tst t f u a b, fuel + 1, n, hn, h40, h => by
    obtain ⟨m, rfl, _, hx⟩ := okW_tupD h
    have i1 := P_len a fuel m (by omega) (by omega) (hx a.d (by simp))
    have i2 := P_len b fuel m (by omega) (by omega) (hx b.d (by simp))
    have q := len_other (v := (Bd.tst t f u a b).d) (bs := [a, b]) (F := FR_body_length fuel) (z := Str.ofString "is") (x := max (a.dep : Int) b.dep) rfl (by decide +kernel) (div_is (by omega) h) (by simp) (fun c hc => by
      simp at hc
      rcases hc with rfl | rfl <;> assumption) rfl
    show runF 4 1 (fb_body_length (FR_body_length fuel)) _ = _
    rw [q]
    show some (R.val (.int (1 + max (a.dep : Int) b.dep)), _) = some (R.val (.int ((max a.dep b.dep + 1 : Nat) : Int)), _)
    rw [show (1 + max (a.dep : Int) b.dep) = ((max a.dep b.dep + 1 : Nat) : Int) by omega]
theorem P_length {F : List Str} {ks : List KK} {k : KK} (hk : k ∈ ks) (hn : (ks.map KK.nm).Nodup) (hw : okW 8 k.b.d) : F_length [some (.val (bkD F ks)), some (.val (.str k.nm))] = some (.val (.int k.b.dep), [some (.val (bkD F ks)), some (.val (.str k.nm))]) := by
  have g := get_nm (F := F) hk hn (env := [some (.val (bkD F ks)), some (.val (.str k.nm))]) rfl rfl
  have q := P_len k.b 60 8 (by decide) (by decide) hw
  have e := kd_b k
  unfold F_length fb_length
  generalize bkD F ks = B at g ⊢
  simp [a_run, noOwnB, g, e, q]
/-! ### most calls -/
def costL (l : LL) : Int := if hidS l.k.ps l.k.sy = true then l.k.b.dep else 0
def min2 (i j : Int) : Int := if j < i then j else i
def stepL (cs : List Int) (x : LL × Nat) : Int := min2 ((x.2 : Int) + 1) (1 + x.1.k.b.dep + (cs.take x.2).sum)
def mostL (ls : List LL) : Int := (maxI (ls.zipIdx.map (stepL (ls.map costL)))).getD 0
def nmL (l : LL) : Dat := .str l.k.nm
theorem num_zip (ls : List LL) : numbered 0 (ls.map nmL) = ls.zipIdx.map fun x => .tup [.int (x.2 : Int), nmL x.1] := by
  apply List.ext_getElem?
  intro j
  rw [numbered_get, List.getElem?_map, List.getElem?_map, List.getElem?_zipIdx]
  cases ls[j]? with
  | none => rfl
  | some l => rfl
structure KsOk (F : List Str) (W : List Dat) (ks : List KK) : Prop where
  fl : F.length ≤ 5
  nd : (ks.map KK.nm).Nodup
  len : ks.length ≤ 50
  wk : ∀ k ∈ ks, okW 8 k.b.d
  sy : ∀ k ∈ ks, ∀ s ∈ k.sy, SyOk k.ps (F.map .str) W s
abbrev eM (B m : Dat) (s2 s3 s4 s5 s6 : Option Slot) : DL.Env := [some (.val B), some (.val m), s2, s3, s4, s5, s6]
def mcA : EM R := eLc (iAny (eCallV F_checked_lines (eCons (eVar 0) (eOne (eVar 1))))) (gPut 3) (eRet true) (eOp2 dIx (eOp2 dIx (eVar 3) (eCon (.int 0))) (eCon (.int 0))) [3]
def mcB : EM R := eLc (iAny (eVar 2)) (gPut 5) (eRet true) (eIf (eTruth (eCallV F_is_telling (eCons (eVar 0) (eOne (eVar 5))))) (eCon (.int 0)) (eCallV F_length (eCons (eVar 0) (eOne (eVar 5))))) [5]
def mcC : EM R := eLc (iEnumX (eOne (eVar 2))) (gTupD 2 (gConsD (gPut 6) (gConsD (gPut 5) gNilD))) (eRet true) (eOpN dMin2 (eCons (eOp2 dAdd (eVar 6) (eCon (.int 1))) (eOne (eOp2 dAdd (eOp2 dAdd (eCon (.int 1)) (eCallV F_length (eCons (eVar 0) (eOne (eVar 5))))) (eOpN dSum (eOne (eCut (eVar 4) oNone (oInt (eVar 6))))))))) [6, 5]
theorem fb_most : fb_most_calls = (sSeq (sSet 2 mcA) (sSeq (sSet 4 mcB) (sRet (eMaxD mcC (eCon (.int 0)))))) := rfl
variable {F : List Str} {W : List Dat} {ks : List KK}
theorem mcA_ok (K : KsOk F W ks) {ls : List LL} (h : ∀ l ∈ ls, l.Ok ks) (hll : ls.length ≤ 100) {n : Nat} (hnn : n ≤ 40) {m : Dat} (hm : okM n m) (em : tpN n m = .tup (ls.map LL.d)) : mcA (eM (bkD F ks) m none none none none none) = some (.new (.lst (ls.map nmL)), eM (bkD F ks) m none none none none none) := by
  have q := P_lines (F := F) K.len K.nd h hnn hm em
  unfold mcA
  generalize bkD F ks = B at q ⊢
  refine eLc_xs ls LL.d nmL ?_ rfl (by omega) fun l hl => ?_
  · generalize ls.map LL.d = ds at q ⊢
    simp [q, itemsD]
  · have e0 : dIx l.d (.int 0) = some (false, l.call) := rfl
    have e1 : dIx l.call (.int 0) = some (false, nmL l) := by
      show (atI (Dat.str l.k.nm :: l.as.map Dat.int) 0).map _ = _
      rw [at0]
      rfl
    refine ⟨eM B m none (some (.val l.d)) none none none, .val (nmL l), rfl, rfl, ?_, rfl, rfl⟩
    simp [e0, e1]
theorem mcB_ok (K : KsOk F W ks) {ls : List LL} (h : ∀ l ∈ ls, l.Ok ks) (hll : ls.length ≤ 100) {m : Dat} : mcB (eM (bkD F ks) m (some (.own (.lst (ls.map nmL)))) none none none none) = some (.new (.lst (ls.map fun l => .int (costL l))), eM (bkD F ks) m (some (.val (.lst (ls.map nmL)))) none none none none) := by
  unfold mcB
  refine eLc_xs ls nmL (fun l => .int (costL l)) ?_ rfl (by omega) fun l hl => ?_
  · generalize ls.map nmL = ds
    generalize bkD F ks = B
    simp [itemsD]
  · have hk := (h l hl).mem
    have t := P_telling (W := W) K.fl hk K.nd (K.wk _ hk) (K.sy _ hk)
    have g := P_length (F := F) hk K.nd (K.wk _ hk)
    refine ⟨eM (bkD F ks) m (some (.val (.lst (ls.map nmL)))) none none (some (.val (nmL l))) none, .val (.int (costL l)), rfl, rfl, ?_, rfl, rfl⟩
    have en : nmL l = .str l.k.nm := rfl
    rw [en]
    unfold costL
    generalize bkD F ks = B at t g ⊢
    generalize ls.map nmL = ds
    cases c : hidS l.k.ps l.k.sy with
    | true =>
      rw [c] at t
      simp [t, truD, g]
    | false =>
      rw [c] at t
      simp [t, truD]
theorem mcC_ok (K : KsOk F W ks) {ls : List LL} (h : ∀ l ∈ ls, l.Ok ks) (hll : ls.length ≤ 100) {m : Dat} : mcC (eM (bkD F ks) m (some (.val (.lst (ls.map nmL)))) none (some (.own (.lst (ls.map fun l => .int (costL l))))) none none) = some (.new (.lst (ls.zipIdx.map fun x => .int (stepL (ls.map costL) x))), eM (bkD F ks) m (some (.val (.lst (ls.map nmL)))) none (some (.own (.lst (ls.map fun l => .int (costL l))))) none none) := by
  unfold mcC
  refine eLc_xs ls.zipIdx (fun x => .tup [.int (x.2 : Int), nmL x.1]) (fun x => .int (stepL (ls.map costL) x)) ?_ rfl (by rw [List.length_zipIdx]; omega) fun x hx => ?_
  · have := num_zip ls
    rw [← this]
    generalize ls.map nmL = ds
    generalize bkD F ks = B
    generalize (ls.map fun l => Dat.int (costL l)) = cs
    simp
  · obtain ⟨l, i⟩ := x
    have hi : ls[i]? = some l := by
      have := List.mk_mem_zipIdx_iff_getElem?.mp hx
      exact this
    have hil : i < ls.length := (List.getElem?_eq_some_iff.mp hi).1
    have hk := (h l (List.mem_of_getElem? hi)).mem
    have g := P_length (F := F) hk K.nd (K.wk _ hk)
    have cut : dCut (.lst (ls.map fun l => .int (costL l))) none (some (i : Int)) = some (true, .lst (((ls.map costL).take i).map .int)) := by
      show some (true, Dat.lst (DL.cutD (ls.map fun l => Dat.int (costL l)) none (some (i : Int)))) = _
      rw [cut_take _ (by rw [List.length_map]; omega), List.map_take, List.map_map]
      rfl
    have sum : dSum [.lst (((ls.map costL).take i).map .int)] = some (false, .int ((ls.map costL).take i).sum) := by
      show (intsD (((ls.map costL).take i).map .int)).map _ = _
      rw [ints_map]
      rfl
    have mn : dMin2 [.int ((i : Int) + 1), .int (1 + (l.k.b.dep : Int) + ((ls.map costL).take i).sum)] = some (false, .int (stepL (ls.map costL) (l, i))) := rfl
    refine ⟨eM (bkD F ks) m (some (.val (.lst (ls.map nmL)))) none (some (.own (.lst (ls.map fun l => .int (costL l))))) (some (.val (nmL l))) (some (.val (.int (i : Int)))), .val (.int (stepL (ls.map costL) (l, i))), rfl, rfl, ?_, rfl, rfl⟩
    have en : nmL l = .str l.k.nm := rfl
    rw [en]
    generalize stepL (ls.map costL) (l, i) = st at mn ⊢
    generalize ((ls.map costL).take i).sum = sm at sum mn
    generalize ((ls.map costL).take i).map Dat.int = tk at cut sum
    generalize (ls.map fun l => Dat.int (costL l)) = cs at cut ⊢
    generalize bkD F ks = B at g ⊢
    generalize ls.map nmL = ds
    simp [g, cut, sum, dAdd, mn]
theorem P_most (K : KsOk F W ks) {ls : List LL} (h : ∀ l ∈ ls, l.Ok ks) (hll : ls.length ≤ 100) {n : Nat} (hnn : n ≤ 40) {m : Dat} (hm : okM n m) (em : tpN n m = .tup (ls.map LL.d)) :
    F_most_calls [some (.val (bkD F ks)), some (.val m)] = some (.val (.int (mostL ls)), [some (.val (bkD F ks)), some (.val m)]) := by
  have a := mcA_ok K h hll hnn hm em
  have b := mcB_ok K h hll (m := m)
  have c := mcC_ok K h hll (m := m)
  have i := ints_map (ls.zipIdx.map (stepL (ls.map costL)))
  rw [List.map_map] at i
  have i' : intsD (ls.zipIdx.map fun x => .int (stepL (ls.map costL) x)) = some (ls.zipIdx.map (stepL (ls.map costL))) := i
  have mx : eMaxD mcC (eCon (.int 0)) (eM (bkD F ks) m (some (.val (.lst (ls.map nmL)))) none (some (.own (.lst (ls.map fun l => .int (costL l))))) none none) = some (.val (.int (mostL ls)), eM (bkD F ks) m (some (.val (.lst (ls.map nmL)))) none (some (.own (.lst (ls.map fun l => .int (costL l))))) none none) := by
    unfold eMaxD
    rw [a_bind, c, at_some, a_bind, a_con, at_some, a_bind, a_look, l_new, we_some, at_some, a_bind, a_look, l_val, we_some, at_some]
    show eOpt ((intsD (ls.zipIdx.map fun x => .int (stepL (ls.map costL) x))).map fun is => R.val (.int ((maxI is).getD 0))) _ = _
    rw [i']
    rfl
  show runF 7 2 fb_most_calls _ = _
  rw [a_run, if_pos ⟨rfl, rfl⟩]
  have s1 : sSet 2 mcA (eM (bkD F ks) m none none none none none) = some (.nx, eM (bkD F ks) m (some (.own (.lst (ls.map nmL)))) none none none none) := by
    rw [a_sset, a, at_some, a_setn, if_pos ⟨by simp, rfl⟩]
    rfl
  have s2 : sSet 4 mcB (eM (bkD F ks) m (some (.own (.lst (ls.map nmL)))) none none none none) = some (.nx, eM (bkD F ks) m (some (.val (.lst (ls.map nmL)))) none (some (.own (.lst (ls.map fun l => .int (costL l))))) none none) := by
    rw [a_sset, b, at_some, a_setn, if_pos ⟨by simp, rfl⟩]
    rfl
  have eb : fb_most_calls (eM (bkD F ks) m none none none none none) = some (.rt (.val (.int (mostL ls))), eM (bkD F ks) m (some (.val (.lst (ls.map nmL)))) none (some (.own (.lst (ls.map fun l => .int (costL l))))) none none) := by
    rw [fb_most, seq_nx s1, seq_nx s2, a_sret, mx, at_some]
  show andThen (fb_most_calls (eM (bkD F ks) m none none none none none)) _ = _
  rw [eb, at_some]
  rfl
end Prg
/-! Draws: a pool, calls; mixed. -/
namespace Prg
open PySem PySem.Spec L2 DL
open PyProof.Rows hiding St
theorem D_pool {m : Nat} {d : Dat} (h : Bx m d) (hm : m ≤ 900000) : ∃ (is : List Int) (d' : Dat), F_L_pool [some (.mtb d)] = some (.new (.lst (is.map .int)), [some (.mtb d')]) ∧ is.length = 4 ∧ Bx (m + 4) d' := by
  obtain ⟨x1, d1, e1, _, _, hb1⟩ := D_take h (by omega) (n := 8) (by decide) (by decide)
  obtain ⟨x2, d2, e2, _, _, hb2⟩ := D_take hb1 (by omega) (n := 5) (by decide) (by decide)
  obtain ⟨x3, d3, e3, _, _, hb3⟩ := D_take hb2 (by omega) (n := 4) (by decide) (by decide)
  obtain ⟨x4, d4, e4, _, _, hb4⟩ := D_take hb3 (by omega) (n := 1000) (by decide) (by decide)
  refine ⟨[x1, x1 + 1 + x2, -1 - x3, 10000000000000000000000000 + x4], d4, ?_, rfl, hb4⟩
  have hp : dPow (.int 10) (.int 25) = some (false, .int 10000000000000000000000000) := by kernel_rfl
  have hs : dSub (.int (-1)) (.int x3) = some (false, .int (-1 - x3)) := rfl
  unfold F_L_pool fb_L_pool
  simp [a_run, noOwnB, e1, e2, e3, e4, hp, dAdd, dNeg, hs]
/-- what stands in one place: the fields and the KINDs -/
abbrev bkT (F : List Str) (ks : List KK) : Dat := .tup [.tup (F.map .str), .tup (kds ks)]
theorem strs_ints : ∀ {vs : List Dat}, (∀ v ∈ vs, ∃ i : Int, v = .int i) → ∃ is : List Int, vs = is.map .int
  | [], _ => ⟨[], rfl⟩
  | v :: vs, h => by
    obtain ⟨i, rfl⟩ := h v (by simp)
    obtain ⟨is, rfl⟩ := strs_ints (vs := vs) fun x hx => h x (by simp [hx])
    exact ⟨i :: is, rfl⟩
abbrev cl (k : KK) (as : List Int) : Dat := .tup (.str k.nm :: as.map .int)
theorem D_call {m : Nat} {d : Dat} (h : Bx m d) (hm : m ≤ 900000) {F : List Str} {ks : List KK} (hne : ks ≠ []) (hl : ks.length ≤ 50) (hp : ∀ k ∈ ks, k.ps.length ≤ 2) {is : List Int} (hi : is.length = 4) :
    ∃ (k : KK) (as : List Int) (d' : Dat), F_L_call [some (.mtb d), some (.val (bkT F ks)), some (.val (.lst (is.map .int)))] = some (.val (cl k as), [some (.mtb d'), some (.val (bkT F ks)), some (.val (.lst (is.map .int)))]) ∧ k ∈ ks ∧ as.length = k.ps.length ∧ Bx (m + 3) d' := by
  obtain ⟨x, d1, e1, hx, hb1⟩ := D_ofT h (by omega) (ds := kds ks) (by simpa using hne) (by rw [List.length_map]; omega)
  obtain ⟨k, hk, rfl⟩ := List.mem_map.mp hx
  have hk2 := hp k hk
  have e0 : dIx (bkT F ks) (.int 1) = some (false, .tup (kds ks)) := rfl
  have hit : iAny (eOp2 dIx (eVar 3) (eCon (.int 1))) [some (.mtb d1), some (.val (bkT F ks)), some (.val (.lst (is.map .int))), some (.val k.d), none] = some (k.ps.map .str, [some (.mtb d1), some (.val (bkT F ks)), some (.val (.lst (is.map .int))), some (.val k.d), none]) := by
    have := kd_ps k
    generalize bkT F ks = B
    generalize k.ps.map Dat.str = qs at this ⊢
    generalize is.map Dat.int = js
    simp [this, itemsD]
  obtain ⟨vs, d2, e2, hvl, hP, hb2⟩ := eLc_draw (i := 3) (P := fun v => ∃ i : Int, v = .int i) (B := Bx) (k := 1) (M := 1000000) (f := eCallM F_L_of (eCons (eVar 0) (eOne (eVar 2)))) hit rfl hb1 (by rw [List.length_map]; omega) (by rw [List.length_map]; omega) fun y m' d' _ hB hM => by
    obtain ⟨c, d3, e3, hc, hb3⟩ := D_ofL hB (by omega) (ds := is.map .int) (by intro e; rw [List.map_eq_nil_iff] at e; rw [e] at hi; cases hi) (by rw [List.length_map]; omega)
    obtain ⟨j, _, rfl⟩ := List.mem_map.mp hc
    refine ⟨.val (.int j), .int j, d3, ?_, rfl, ⟨j, rfl⟩, hb3⟩
    generalize bkT F ks = B
    generalize is.map Dat.int = js at e3 ⊢
    simp [e3]
  obtain ⟨as, rfl⟩ := strs_ints hP
  rw [List.length_map] at hvl hb2
  rw [List.length_map] at hvl
  refine ⟨k, as, d2, ?_, hk, hvl, hb2.mono (by omega)⟩
  have a1 : dAdd (.tup [.str k.nm]) (.tup (as.map .int)) = some (false, cl k as) := by
    show (if 1 + (as.map Dat.int).length ≤ 100000 then some (false, Dat.tup ([Dat.str k.nm] ++ as.map Dat.int)) else none) = _
    rw [List.length_map, if_pos (by omega)]
    rfl
  have n0 := kd_nm k
  unfold F_L_call fb_L_call
  generalize cl k as = c at a1 ⊢
  generalize as.map Dat.int = aj at e2 a1
  generalize bkT F ks = B at e0 e2 ⊢
  generalize is.map Dat.int = js at e2 ⊢
  generalize kds ks = kd at e0 e1
  generalize k.d = kx at e1 e2 n0
  simp [a_run, noOwnB, e0, e1, e2, n0, dTuple, a1]
/-- a call of one of the KINDs -/
def isCl (ks : List KK) (v : Dat) : Prop := ∃ k ∈ ks, ∃ as : List Int, v = cl k as ∧ as.length = k.ps.length
theorem D_calls {m : Nat} {d : Dat} (h : Bx m d) (hm : m ≤ 800000) {F : List Str} {ks : List KK} (hne : ks ≠ []) (hl : ks.length ≤ 50) (hp : ∀ k ∈ ks, k.ps.length ≤ 2) {is : List Int} (hi : is.length = 4) {n : Nat} (hn : n ≤ 12) :
    ∃ (vs : List Dat) (d' : Dat), F_L_calls [some (.mtb d), some (.val (bkT F ks)), some (.val (.lst (is.map .int))), some (.val (.int n))] = some (.val (.tup vs), [some (.mtb d'), some (.val (bkT F ks)), some (.val (.lst (is.map .int))), some (.val (.int n))]) ∧ vs.length = n ∧ (∀ v ∈ vs, isCl ks v) ∧ Bx (m + 36) d' := by
  have hit : iRange (eOne (eVar 3)) [some (.mtb d), some (.val (bkT F ks)), some (.val (.lst (is.map .int))), some (.val (.int n)), none] = some (rngD 0 n, [some (.mtb d), some (.val (bkT F ks)), some (.val (.lst (is.map .int))), some (.val (.int n)), none]) := by
    generalize bkT F ks = B
    generalize is.map Dat.int = js
    have hv : eVar 3 [some (.mtb d), some (.val B), some (.val (.lst js)), some (.val (.int n)), none] = some (.bor 3, [some (.mtb d), some (.val B), some (.val (.lst js)), some (.val (.int n)), none]) := rfl
    have hlk : look [some (.mtb d), some (.val B), some (.val (.lst js)), some (.val (.int n)), none] (.bor 3) = some (.int n) := rfl
    rw [a_irange, a_one, hv, at_some, at_some, ls_cons, a_look, hlk, we_some, at_some, ls_nil, at_some, at_some]
    have := rangeO_e (n : Int) [some (.mtb d), some (.val B), some (.val (.lst js)), some (.val (.int n)), none] (by constructor <;> omega)
    rw [show (n : Int).toNat = n by omega] at this
    exact this
  obtain ⟨vs, d2, e2, hvl, hP, hb2⟩ := eLc_draw (i := 3) (P := isCl ks) (B := Bx) (k := 3) (M := 900000) (f := eCallM F_L_call (eCons (eVar 0) (eCons (eVar 1) (eOne (eVar 2))))) hit rfl h (by rw [rngD_len]; omega) (by rw [rngD_len]; omega) fun y m' d' _ hB hM => by
    obtain ⟨k, as, d3, e3, hk, ha, hb3⟩ := D_call hB (by omega) (F := F) hne hl hp hi
    refine ⟨.val (cl k as), cl k as, d3, ?_, rfl, ⟨k, hk, as, rfl, ha⟩, hb3⟩
    generalize cl k as = c at e3 ⊢
    generalize bkT F ks = B at e3 ⊢
    generalize is.map Dat.int = js at e3 ⊢
    simp [e3]
  rw [rngD_len] at hvl hb2
  refine ⟨vs, d2, ?_, hvl, hP, hb2.mono (by omega)⟩
  generalize bkT F ks = B at e2 ⊢
  generalize is.map Dat.int = js at e2 ⊢
  show runF 5 4 fb_L_calls _ = _
  rw [a_run, if_pos ⟨rfl, rfl⟩]
  have eb : fb_L_calls [some (.mtb d), some (.val B), some (.val (.lst js)), some (.val (.int n)), none] = some (.rt (.val (.tup vs)), [some (.mtb d2), some (.val B), some (.val (.lst js)), some (.val (.int n)), none]) := by
    unfold fb_L_calls
    rw [a_sret, a_opN, a_one, e2, at_some, at_some, ls_cons, a_look, l_new, we_some, at_some, ls_nil, at_some, at_some]
    rfl
  show andThen (fb_L_calls [some (.mtb d), some (.val B), some (.val (.lst js)), some (.val (.int n)), none]) _ = _
  rw [eb, at_some]
  rfl
/-! ### mixed -/
/-- how many calls it takes -/
def szM : Nat → Dat → Nat
  | n + 1, .tup ds => (ds.map (szM n)).sum + 1
  | _, _ => 1
theorem loopC_mix {i : Nat} {f : EM R} {rest : DL.Env} (hr : rest[i]? = some none) (tp : Dat → Dat) (ok : Dat → Prop) (sz : Dat → Nat) (M : Nat) : ∀ (ds acc : List Dat) (m : Nat) (d : Dat), Bx m d → m + (ds.map sz).sum ≤ M →
    (∀ (x : Dat) (m' : Nat) (d : Dat), x ∈ ds → Bx m' d → m' + sz x ≤ M → ∃ (r : R) (v d' : Dat), f (some (.mtb d) :: rest.set i (some (.val x))) = some (r, some (.mtb d') :: rest.set i (some (.val x))) ∧ eForce r (some (.mtb d') :: rest.set i (some (.val x))) = some (v, some (.mtb d') :: rest.set i (some (.val x))) ∧ tp v = x ∧ ok v ∧ Bx (m' + sz x) d') →
    acc.length + ds.length ≤ 100000 → ∃ (vs : List Dat) (d' : Dat), loopC (gPut (i + 1)) (eRet true) f [i + 1] ds acc (some (.mtb d) :: rest) = some (acc ++ vs, some (.mtb d') :: rest) ∧ vs.map tp = ds ∧ (∀ v ∈ vs, ok v) ∧ Bx (m + (ds.map sz).sum) d'
  | [], acc, m, d, hB, _, _, _ => ⟨[], d, by show some (acc, _) = _; simp, rfl, by simp, by simpa using hB⟩
  | x :: ds, acc, m, d, hB, hM, hf, hl => by
    rw [List.map_cons, List.sum_cons] at hM
    obtain ⟨r, v, d1, e1, e2, e3, e4, hb1⟩ := hf x m d (by simp) hB (by omega)
    obtain ⟨vs, d2, e5, e6, e7, hb2⟩ := loopC_mix hr tp ok sz M ds (acc ++ [v]) (m + sz x) d1 hb1 (by omega) (fun y m' d' hy => hf y m' d' (by simp [hy])) (by simp at hl ⊢; omega)
    have hp : gPut (i + 1) x (some (.mtb d) :: rest) = some ((), some (.mtb d) :: rest.set i (some (.val x))) := by
      have hi : i < rest.length := (List.getElem?_eq_some_iff.mp hr).1
      rw [a_put, if_pos ⟨by simp; omega, by rw [List.getElem?_cons_succ, hr]; rfl⟩]
      rfl
    have hw : eWipe [i + 1] (some (Slot.mtb d1) :: rest.set i (some (.val x))) = some ((), some (.mtb d1) :: rest) := by
      have h0 : (some (Slot.mtb d1) :: rest)[i + 1]? = some none := by rw [List.getElem?_cons_succ]; exact hr
      exact wipe_one (i := i + 1) (env := some (Slot.mtb d1) :: rest) (d := x) h0
    refine ⟨v :: vs, d2, ?_, by rw [List.map_cons, e3, e6], fun y hy => ?_, by rw [List.map_cons, List.sum_cons, ← Nat.add_assoc]; exact hb2⟩
    · show eBind (gPut (i + 1) x) _ _ = _
      rw [a_bind, hp, at_some, a_bind, a_ret, at_some, if_pos rfl, a_bind, e1, at_some, a_bind, e2, at_some, a_bind, hw, at_some, if_pos (by simp at hl; omega), e5, List.append_assoc]
      rfl
    · rcases List.mem_cons.mp hy with q | q
      · rw [q]; exact e4
      · exact e7 y q
theorem eq00 (y : Int) : DL.tCmp dEq (eCon (.int y)) (eCon (.int 0)) = DL.tCmp dEq (eCon (.int y)) (eCon (.int 0)) := rfl
theorem D_mixed : ∀ (fuel n : Nat) (d : Dat) (m : Nat) (b : Dat), n < fuel → okW n d → Bx m b → m + szM n d ≤ 900000 →
    ∃ (r : R) (v b' : Dat), FR_L_mixed fuel [some (.mtb b), some (.val d)] = some (r, [some (.mtb b'), some (.val d)]) ∧ (r = .val v ∨ r = .new v) ∧ tpN n v = d ∧ okM n v ∧ Bx (m + szM n d) b'
  | 0, _, _, _, _, h, _, _, _ => absurd h (Nat.not_lt_zero _)
  | fuel + 1, n, d, m, b, hn, hd, hB, hM => by
    show ∃ r v b', runF 4 2 (fb_L_mixed (FR_L_mixed fuel)) _ = _ ∧ _
    rcases okW_up hd with hf | ⟨k, ds, rfl, rfl, hl, hx⟩
    · have hs : 1 ≤ szM n d := by
        cases n <;> cases d <;> first | (cases hf; done) | exact Nat.le_refl 1
      refine ⟨.val d, d, b, ?_, .inl rfl, tpN_flat hf n, ?_, hB.mono (by omega)⟩
      · unfold fb_L_mixed
        simp [a_run, noOwnB, isiF_row hf, truD]
      · cases n <;> cases d <;> first | exact hf | cases hf
    · have hsz : szM (k + 1) (.tup ds) = (ds.map (szM k)).sum + 1 := rfl
      obtain ⟨vs, b1, e1, e2, e3, hb1⟩ := loopC_mix (i := 2) (f := eCallM (FR_L_mixed fuel) (eCons (eVar 0) (eOne (eVar 3)))) (rest := [some (.val (.tup ds)), none, none]) rfl (tpN k) (okM k) (szM k) 900000 ds [] m b hB (by omega) (fun x m' d' hxd hB' hM' => by
        obtain ⟨r, v, d2, q1, q2, q3, q4, q5⟩ := D_mixed fuel k x m' d' (by omega) (hx x hxd) hB' hM'
        refine ⟨r, v, d2, ?_, ?_, q3, q4, q5⟩
        · rcases q2 with rfl | rfl <;> simp [q1]
        · rcases q2 with rfl | rfl <;> rfl) (by simp; omega)
      have comp : eLc (iAny (eVar 1)) (gPut 3) (eRet true) (eCallM (FR_L_mixed fuel) (eCons (eVar 0) (eOne (eVar 3)))) [3] [some (.mtb b), some (.val (.tup ds)), none, none] = some (.new (.lst vs), [some (.mtb b1), some (.val (.tup ds)), none, none]) := by
        unfold eLc
        have hi : iAny (eVar 1) [some (.mtb b), some (.val (.tup ds)), none, none] = some (ds, [some (.mtb b), some (.val (.tup ds)), none, none]) := by simp [itemsD]
        rw [a_bind, hi, at_some, if_pos (show freeAt [3] [some (Slot.mtb b), some (.val (.tup ds)), none, none] = true from rfl), a_bind, e1, at_some]
        rfl
      have hvl : vs.length ≤ 1000 := by
        have := congrArg List.length e2
        rw [List.length_map] at this
        omega
      obtain ⟨y, b2, e4, _, _, hb2⟩ := D_take hb1 (by omega) (n := 2) (by decide) (by decide)
      have ht := isiT_row ds
      cases c : y == 0 with
      | true =>
        refine ⟨.new (.lst vs), .lst vs, b2, ?_, .inr rfl, by show Dat.tup (vs.map (tpN k)) = _; rw [e2], ⟨hvl, e3⟩, by rw [hsz, ← Nat.add_assoc]; exact hb2⟩
        unfold fb_L_mixed
        simp [a_run, noOwnB, ht, truD, comp, e4, dEq, c]
      | false =>
        refine ⟨.val (.tup vs), .tup vs, b2, ?_, .inl rfl, by show Dat.tup (vs.map (tpN k)) = _; rw [e2], ⟨hvl, e3⟩, by rw [hsz, ← Nat.add_assoc]; exact hb2⟩
        unfold fb_L_mixed
        simp [a_run, noOwnB, ht, truD, comp, e4, dEq, c, dTuple]
end Prg
/-! The law's says, tells. -/
namespace Prg
open PySem PySem.Spec L2 DL
open PyProof.Rows hiding St
theorem loopC_fx {α : Type} {g : Dat → EM Unit} {t : EM Bool} {f : EM R} {vs : List Nat} {env : DL.Env} (u hf : α → Dat) (p : α → Bool) : ∀ (xs : List α) (acc : List Dat),
    (∀ x ∈ xs, ∃ (e : DL.Env) (r : R), g (u x) env = some ((), e) ∧ t e = some (p x, e) ∧ f e = some (r, e) ∧ eForce r e = some (hf x, e) ∧ eWipe vs e = some ((), env)) → acc.length + xs.length ≤ 100000 → loopC g t f vs (xs.map u) acc env = some (acc ++ (xs.filter p).map hf, env)
  | [], acc, _, _ => by
    show some (acc, env) = _
    simp
  | x :: xs, acc, hd, hl => by
    obtain ⟨e, r, h1, h2, h3, h4, h5⟩ := hd x (by simp)
    show eBind (g (u x)) _ env = _
    rw [a_bind, h1, at_some, a_bind, h2, at_some]
    cases c : p x with
    | true =>
      rw [if_pos rfl, a_bind, h3, at_some, a_bind, h4, at_some, a_bind, h5, at_some, if_pos (by simp at hl; omega), loopC_fx u hf p xs _ (fun y hy => hd y (by simp [hy])) (by simp at hl ⊢; omega)]
      simp [c]
    | false =>
      rw [if_neg Bool.false_ne_true, a_bind, h5, at_some, loopC_fx u hf p xs _ (fun y hy => hd y (by simp [hy])) (by simp at hl ⊢; omega)]
      simp [c]
theorem eLc_fx {α : Type} {it : EM (List Dat)} {g : Dat → EM Unit} {t : EM Bool} {f : EM R} {vs : List Nat} {env env1 : DL.Env} (xs : List α) (u hf : α → Dat) (p : α → Bool) (hi : it env = some (xs.map u, env1)) (hfr : freeAt vs env1 = true) (hl : xs.length ≤ 100000)
    (hd : ∀ x ∈ xs, ∃ (e : DL.Env) (r : R), g (u x) env1 = some ((), e) ∧ t e = some (p x, e) ∧ f e = some (r, e) ∧ eForce r e = some (hf x, e) ∧ eWipe vs e = some ((), env1)) :
    eLc it g t f vs env = some (.new (.lst ((xs.filter p).map hf)), env1) := by
  unfold eLc
  rw [a_bind, hi, at_some, if_pos hfr, a_bind, loopC_fx u hf p xs [] hd (by simpa using hl), at_some]
  rfl
theorem loop_findx {α : Type} {g : Dat → EM Unit} {body : EM O} (u : α → Dat) (I : DL.Env → Prop) (J : R → DL.Env → Prop) (P : α → Bool) : ∀ (xs : List α) (env : DL.Env), I env →
    (∀ x ∈ xs, ∀ env, I env → ∃ e1, g (u x) env = some ((), e1) ∧ ((P x = false ∧ ∃ e2, body e1 = some (.nx, e2) ∧ I e2) ∨ (P x = true ∧ ∃ r e2, body e1 = some (.rt r, e2) ∧ J r e2))) →
    ∃ env', (xs.any P = false ∧ loopS g body (xs.map u) env = some (.nx, env') ∧ I env') ∨ (xs.any P = true ∧ ∃ r, loopS g body (xs.map u) env = some (.rt r, env') ∧ J r env')
  | [], env, h, _ => ⟨env, .inl ⟨rfl, rfl, h⟩⟩
  | d :: ds, env, h, hs => by
    obtain ⟨e1, h1, h2⟩ := hs d (by simp) env h
    rcases h2 with ⟨hp, e2, h3, h4⟩ | ⟨hp, r, e2, h3, h4⟩
    · obtain ⟨e3, h5⟩ := loop_findx u I J P ds e2 h4 fun x hx => hs x (by simp [hx])
      have e : loopS g body ((d :: ds).map u) env = loopS g body (ds.map u) e2 := by
        show eBind (g (u d)) _ env = _
        rw [a_bind, h1, at_some, a_bind, h3, at_some]
      rw [e, List.any_cons, hp]
      exact ⟨e3, h5⟩
    · refine ⟨e2, .inr ⟨by rw [List.any_cons, hp]; rfl, r, ?_, h4⟩⟩
      show eBind (g (u d)) _ env = _
      rw [a_bind, h1, at_some, a_bind, h3, at_some]
      rfl
theorem eqQ_nil {ts : List Dat} (h : depDs ts ≤ 59 ∧ noObjs ts = true) : eqQ (.lst ts) (.lst []) = some ts.isEmpty := by
  unfold eqQ
  rw [if_pos ⟨by rw [depD]; omega, h.2, rfl⟩, eqD]
  cases ts with
  | nil => rw [if_pos rfl, eqDs]; rfl
  | cons t ts => rw [if_neg (by simp)]; rfl
theorem dep_all {n : Nat} : ∀ {ts : List Dat}, (∀ x ∈ ts, depD x ≤ n ∧ noObj x = true) → depDs ts ≤ n ∧ noObjs ts = true
  | [], _ => ⟨Nat.zero_le _, rfl⟩
  | t :: ts, h => by
    obtain ⟨h1, h2⟩ := h t (by simp)
    obtain ⟨h3, h4⟩ := dep_all (ts := ts) fun x hx => h x (by simp [hx])
    exact ⟨by rw [depDs]; omega, by rw [noObjs, h2, h4]; rfl⟩
theorem dNe_nil {ts : List Dat} (h : ∀ x ∈ ts, depD x ≤ 59 ∧ noObj x = true) : dNe (.lst ts) (.lst []) = some (false, .bl (!ts.isEmpty)) := by
  unfold dNe
  rw [eqQ_nil (dep_all h)]
  rfl
theorem filt_any {α β : Type} (xs : List α) (p : α → Bool) (f : α → β) : (!((xs.filter p).map f).isEmpty) = xs.any p := by
  induction xs with
  | nil => rfl
  | cons x xs ih =>
    cases c : p x with
    | true => simp [c]
    | false => rw [List.filter_cons_of_neg (by simp [c]), ih, List.any_cons, c]; rfl
/-! ### the KIND of a name -/
theorem filt_nm {k : KK} : ∀ {ks : List KK}, k ∈ ks → (ks.map KK.nm).Nodup → ks.filter (fun x => x.nm == k.nm) = [k]
  | [], h, _ => by cases h
  | x :: ks, h, hn => by
    rw [List.map_cons,
        List.nodup_cons] at hn
    by_cases c : x.nm = k.nm
    · have e : x = k := by
        rcases List.mem_cons.mp h
            with q | q
        · exact q.symm
        · exact absurd (c ▸ List.mem_map_of_mem q) hn.1
      subst e
      rw [List.filter_cons_of_pos (by simp)]
      congr 1
      rw [List.filter_eq_nil_iff]
      intro y hy e
      rw [beq_iff_eq] at e
      exact hn.1 (e ▸ List.mem_map_of_mem hy)
    · rw [List.filter_cons_of_neg (by simpa using c)]
      refine filt_nm ?_ hn.2
      rcases List.mem_cons.mp h
          with q | q
      · exact absurd (by rw [q]) c
      · exact q
theorem P_kind_of {F : List Str} {ks : List KK} {k : KK} (hk : k ∈ ks) (hn : (ks.map KK.nm).Nodup) (hl : ks.length ≤ 50) : F_L_kind_of [some (.val (bkT F ks)), some (.val (.str k.nm))] = some (.val k.d, [some (.val (bkT F ks)), some (.val (.str k.nm))]) := by
  have e0 : dIx (bkT F ks) (.int 1) = some (false, .tup (kds ks)) := rfl
  have comp : eLc (iAny (eOp2 dIx (eVar 0) (eCon (.int 1)))) (gPut 2) (DL.tCmp dEq (eOp2 dIx (eVar 2) (eCon (.int 0))) (eVar 1)) (eVar 2) [2] [some (.val (bkT F ks)), some (.val (.str k.nm)), none] = some (.new (.lst ((ks.filter fun x => x.nm == k.nm).map KK.d)), [some (.val (bkT F ks)), some (.val (.str k.nm)), none]) := by
    refine eLc_fx ks KK.d KK.d (fun x => x.nm == k.nm) ?_ rfl (by omega) fun x hx => ?_
    · generalize bkT F ks = B at e0 ⊢
      show _ = some (kds ks, _)
      generalize kds ks = kd at e0 ⊢
      simp [e0, itemsD]
    · have := kd_nm x
      refine ⟨[some (.val (bkT F ks)), some (.val (.str k.nm)), some (.val x.d)], .bor 2, rfl, ?_, rfl, rfl, rfl⟩
      generalize bkT F ks = B
      generalize x.d = xd at this ⊢
      simp [this, dEq]
  rw [filt_nm hk hn] at comp
  have e1 : dIx (.lst [k.d]) (.int 0) = some (false, k.d) := rfl
  unfold F_L_kind_of fb_L_kind_of
  generalize bkT F ks = B at comp ⊢
  have comp' := comp
  rw [List.map_cons, List.map_nil] at comp'
  generalize k.d = kd at comp' e1 ⊢
  simp [a_run, noOwnB, comp', e1]
/-! ### says -/
abbrev tD (L : List Str) : Dat := .tup (L.map .str)
def Sy.row (s : Sy) : Dat := .tup [.int (s.k : Int), tD s.L, .tup s.cs, s.w]
theorem let_add (x : Str) (L : List Str) (hl : L.length ≤ 1000) : dAdd (tD L) (.tup [.str x]) = some (false, tD (L ++ [x])) := by
  show (if (L.map Dat.str).length + 1 ≤ 100000 then some (false, Dat.tup (L.map Dat.str ++ [Dat.str x])) else none) = _
  rw [if_pos (by rw [List.length_map]; omega)]
  show _ = some (false, Dat.tup ((L ++ [x]).map .str))
  rw [List.map_append]
  rfl
theorem say_two {v a b : Dat} {z : Str} {F : EM R} {k : Nat} {L : List Str} {xs ys : List Dat} (e0 : dIx v (.int 0) = some (false, .str z)) (h1 : (z == Str.ofString "say") = false) (h2 : (z == Str.ofString "let") = false) (e1 : dIx v (.int (-2)) = some (false, a)) (e2 : dIx v (.int (-1)) = some (false, b))
    (i1 : F [some (.val a), some (.val (.int ((k + 1 : Nat) : Int))), some (.val (tD L))] = some (.new (.lst xs), [some (.val a), some (.val (.int ((k + 1 : Nat) : Int))), some (.val (tD L))])) (i2 : F [some (.val b), some (.val (.int ((k + 1 : Nat) : Int))), some (.val (tD L))] = some (.new (.lst ys), [some (.val b), some (.val (.int ((k + 1 : Nat) : Int))), some (.val (tD L))])) (hl : xs.length + ys.length ≤ 100000) :
    runF 3 3 (fb_L_says F) [some (.val v), some (.val (.int (k : Int))), some (.val (tD L))] = some (.new (.lst (xs ++ ys)), [some (.val v), some (.val (.int (k : Int))), some (.val (tD L))]) := by
  rw [show ((k + 1 : Nat) : Int) = (k : Int) + 1 by omega] at i1 i2
  unfold fb_L_says
  generalize tD L = l at i1 i2 ⊢
  simp [a_run, noOwnB, e0, dEq, h1, h2, e1, e2, dNeg, dAdd, i1, i2, hl]
theorem P_says : ∀ (b : Bd) (fuel n : Nat) (p : List Bool) (k : Nat) (L : List Str), n < fuel → n ≤ 12 → L.length + n ≤ 1000 → okW n b.d →
    FR_L_says fuel [some (.val b.d), some (.val (.int (k : Int))), some (.val (tD L))] = some (.new (.lst ((b.sy p k L).map Sy.row)), [some (.val b.d), some (.val (.int (k : Int))), some (.val (tD L))])
  | _, 0, _, _, _, _, h, _, _, _ => absurd h (Nat.not_lt_zero _)
  | .say cs w, fuel + 1, n, p, k, L, hn, h12, hp, h => by
    have e0 : dIx (Bd.say cs w).d (.int 0) = some (false, S "say") := rfl
    have e1 : dIx (Bd.say cs w).d (.int 1) = some (false, .tup cs) := rfl
    have e2 : dIx (Bd.say cs w).d (.int 2) = some (false, w) := rfl
    show runF 3 3 (fb_L_says (FR_L_says fuel)) _ = some (.new (.lst [.tup [.int (k : Int), tD L, .tup cs, w]]), _)
    unfold fb_L_says
    generalize (Bd.say cs w).d = v at e0 e1 e2 ⊢
    generalize tD L = l
    simp [a_run, noOwnB, e0, dEq, e1, e2]
  | .lt x t f b, fuel + 1, n, p, k, L, hn, h12, hp, h => by
    obtain ⟨m, rfl, _, hx⟩ := okW_tupD h
    have e0 : dIx (Bd.lt x t f b).d (.int 0) = some (false, S "let") := rfl
    have e1 : dIx (Bd.lt x t f b).d (.int 1) = some (false, .str x) := rfl
    have e2 : dIx (Bd.lt x t f b).d (.int 4) = some (false, b.d) := rfl
    have a := let_add x L (by omega)
    have ih := P_says b fuel m p (k + 1) (L ++ [x]) (by omega) (by omega) (by rw [List.length_append, List.length_singleton]; omega) (hx b.d (by simp))
    rw [show ((k + 1 : Nat) : Int) = (k : Int) + 1 by omega] at ih
    show runF 3 3 (fb_L_says (FR_L_says fuel)) _ = some (.new (.lst ((b.sy p (k + 1) (L ++ [x])).map Sy.row)), _)
    unfold fb_L_says
    generalize (b.sy p (k + 1) (L ++ [x])).map Sy.row = xs at ih ⊢
    generalize (Bd.lt x t f b).d = v at e0 e1 e2 ⊢
    have a' : ∀ (i j : Int), dAdd (.int i) (.int j) = some (false, .int (i + j)) := fun _ _ => rfl
    generalize tD L = l at a ⊢
    generalize tD (L ++ [x]) = l' at a ih
    simp [a_run, noOwnB, e0, dEq, e1, e2, a, a', ih]
  | .hs t a b, fuel + 1, n, p, k, L, hn, h12, hp, h => by
    obtain ⟨m, rfl, _, hx⟩ := okW_tupD h
    have oa := hx a.d (by simp)
    have ob := hx b.d (by simp)
    have i1 := P_says a fuel m (p ++ [true]) (k + 1) L (by omega) (by omega) (by omega) oa
    have i2 := P_says b fuel m (p ++ [false]) (k + 1) L (by omega) (by omega) (by omega) ob
    have l1 := sy_len a (p ++ [true]) (k + 1) L
    have l2 := sy_len b (p ++ [false]) (k + 1) L
    have g1 : 2 ^ a.dep ≤ 2 ^ 12 := Nat.pow_le_pow_right (by decide) (by have := a.dep_le m oa; omega)
    have g2 : 2 ^ b.dep ≤ 2 ^ 12 := Nat.pow_le_pow_right (by decide) (by have := b.dep_le m ob; omega)
    have hl : ((a.sy (p ++ [true]) (k + 1) L).map Sy.row).length + ((b.sy (p ++ [false]) (k + 1) L).map Sy.row).length ≤ 100000 := by
      rw [List.length_map, List.length_map]
      omega
    show runF 3 3 (fb_L_says (FR_L_says fuel)) _ = some (.new (.lst ((a.sy (p ++ [true]) (k + 1) L ++ b.sy (p ++ [false]) (k + 1) L).map Sy.row)), _)
    rw [List.map_append]
    exact say_two (z := Str.ofString "has") rfl (by decide +kernel) (by decide +kernel) rfl rfl i1 i2 hl
  | .tst t f u a b, fuel + 1, n, p, k, L, hn, h12, hp, h => by
    obtain ⟨m, rfl, _, hx⟩ := okW_tupD h
    have oa := hx a.d (by simp)
    have ob := hx b.d (by simp)
    have i1 := P_says a fuel m (p ++ [true]) (k + 1) L (by omega) (by omega) (by omega) oa
    have i2 := P_says b fuel m (p ++ [false]) (k + 1) L (by omega) (by omega) (by omega) ob
    have l1 := sy_len a (p ++ [true]) (k + 1) L
    have l2 := sy_len b (p ++ [false]) (k + 1) L
    have g1 : 2 ^ a.dep ≤ 2 ^ 12 := Nat.pow_le_pow_right (by decide) (by have := a.dep_le m oa; omega)
    have g2 : 2 ^ b.dep ≤ 2 ^ 12 := Nat.pow_le_pow_right (by decide) (by have := b.dep_le m ob; omega)
    have hl : ((a.sy (p ++ [true]) (k + 1) L).map Sy.row).length + ((b.sy (p ++ [false]) (k + 1) L).map Sy.row).length ≤ 100000 := by
      rw [List.length_map, List.length_map]
      omega
    show runF 3 3 (fb_L_says (FR_L_says fuel)) _ = some (.new (.lst ((a.sy (p ++ [true]) (k + 1) L ++ b.sy (p ++ [false]) (k + 1) L).map Sy.row)), _)
    rw [List.map_append]
    exact say_two (z := Str.ofString "is") rfl (by decide +kernel) (by decide +kernel) rfl rfl i1 i2 hl
end Prg
/-! The law's tells. -/
namespace Prg
open PySem PySem.Spec L2 DL
open PyProof.Rows hiding St
def inL (L : List Str) : Dat → Bool
  | .str z => L.any fun y => y == z
  | _ => false
def bad2 (s : Sy) : Bool := s.cs.any fun c => (trm c).any (inL s.L)
def bad1 (ss : List Sy) (s : Sy) : Bool := ss.any fun u => (strOf u.w == strOf s.w) && !eqX (.tup u.cs) (.tup s.cs)
abbrev eT (rows : Dat) (s1 s2 s3 s4 s5 s6 s7 s8 : Option Slot) : DL.Env := [some (.val rows), s1, s2, s3, s4, s5, s6, s7, s8]
def chSet : EM O := (sSet 7 (eOp2 dAdd (eLst (eOne (eOp2 dIx (eVar 6) (eCon (.int 1))))) (eOpN dList (eOne (eIf (DL.tCmp dEq (eOp2 dIx (eVar 6) (eCon (.int 0))) (eCon (.str (Str.ofString "make")))) (eOp2 dIx (eVar 6) (eCon (.int 2))) (eCut (eVar 6) (oInt (eCon (.int 3))) oNone))))))
def chLc : EM R := (eLc (iAny (eVar 7)) (gPut 8) (DL.tCmp dIn (eVar 8) (eVar 2)) (eVar 8) [8])
def chIf : EM O := (eIf (DL.tCmp dNe chLc (eLst eNil)) (sRet (eCon (.bl false))) (eRet .nx))
def chB : EM O := sSeq chSet chIf
def teLc : EM R := (eLc (iAny (eVar 0)) (gPut 5) (tAnd2 (DL.tCmp dEq (eOp2 dIx (eVar 5) (eCon (.int 3))) (eVar 4)) (DL.tCmp dNe (eOp2 dIx (eVar 5) (eCon (.int 2))) (eVar 3))) (eVar 5) [5])
def teIf : EM O := (eIf (DL.tCmp dNe teLc (eLst eNil)) (sRet (eCon (.bl false))) (eRet .nx))
def teF : EM O := (sFor (iAny (eVar 3)) (gPut 6) chB)
def teB : EM O := sSeq teIf teF
theorem fb_te : fb_L_tells = (sSeq (sFor (iAny (eVar 0)) (gTupD 4 (gConsD (gPut 1) (gConsD (gPut 2) (gConsD (gPut 3) (gConsD (gPut 4) gNilD))))) teB) (sRet (eCon (.bl true)))) := rfl
theorem chSet_ok {N : List Str} {F : List Dat} {c : Dat} (h : Chg N F c) (hF : F.length ≤ 5) {rows : Dat} {s1 s2 s3 s4 s5 s7 s8 : Option Slot} (h7 : nm s7) : chSet (eT rows s1 s2 s3 s4 s5 (some (.val c)) s7 s8) = some (.nx, eT rows s1 s2 s3 s4 s5 (some (.val c)) (some (.own (.lst (trm c)))) s8) := by
  cases h with
  | make h1 h2 h3 =>
    rename_i k ts
    have e0 : dIx (.tup [S "make", k, .tup ts]) (.int 0) = some (false, S "make") := rfl
    have e1 : dIx (.tup [S "make", k, .tup ts]) (.int 1) = some (false, k) := rfl
    have e2 : dIx (.tup [S "make", k, .tup ts]) (.int 2) = some (false, .tup ts) := rfl
    have hl : dAdd (.lst [k]) (.lst ts) = some (true, .lst (k :: ts)) := by
      show (if 1 + ts.length ≤ 100000 then some (true, Dat.lst ([k] ++ ts)) else none) = _
      rw [if_pos (by omega)]
      rfl
    show _ = some (O.nx, eT rows s1 s2 s3 s4 s5 _ (some (.own (.lst (k :: ts)))) s8)
    generalize Dat.tup [S "make", k, .tup ts] = v at e0 e1 e2 ⊢
    unfold chSet
    simp [e0, dEq, e1, e2, hl, dList, h7]
  | set h1 h2 h3 =>
    rename_i k f v
    have e0 : dIx (.tup [S "set", k, f, v]) (.int 0) = some (false, S "set") := rfl
    have e1 : dIx (.tup [S "set", k, f, v]) (.int 1) = some (false, k) := rfl
    have e2 : dCut (.tup [S "set", k, f, v]) (some 3) none = some (false, .tup [v]) := rfl
    have hl : dAdd (.lst [k]) (.lst [v]) = some (true, .lst [k, v]) := rfl
    show _ = some (O.nx, eT rows s1 s2 s3 s4 s5 _ (some (.own (.lst [k, v]))) s8)
    generalize Dat.tup [S "set", k, f, v] = u at e0 e1 e2 ⊢
    unfold chSet
    simp [e0, dEq, e1, e2, hl, dList, h7]
  | drop h1 =>
    rename_i k
    have e0 : dIx (.tup [S "drop", k]) (.int 0) = some (false, S "drop") := rfl
    have e1 : dIx (.tup [S "drop", k]) (.int 1) = some (false, k) := rfl
    have e2 : dCut (.tup [S "drop", k]) (some 3) none = some (false, .tup []) := rfl
    have hl : dAdd (.lst [k]) (.lst []) = some (true, .lst [k]) := rfl
    show _ = some (O.nx, eT rows s1 s2 s3 s4 s5 _ (some (.own (.lst [k]))) s8)
    generalize Dat.tup [S "drop", k] = u at e0 e1 e2 ⊢
    unfold chSet
    simp [e0, dEq, e1, e2, hl, dList, h7]
theorem in_none (i : Int) : ∀ L : List Str, inDs (.int i) (L.map Dat.str) = some false
  | [] => rfl
  | z :: L => by
    show (match eqQ (.str z) (.int i), inDs (.int i) (L.map Dat.str) with
      | some a, some b => some (a || b)
      | _, _ => none) = _
    rw [in_none i L]
    have : eqQ (.str z) (.int i) = some false := by
      unfold eqQ
      rw [if_pos ⟨by show 0 ≤ 60; decide, rfl, rfl⟩, eqD]
    rw [this]
    rfl
theorem dIn_L {N : List Str} {t : Dat} (h : tmOk N t) (L : List Str) : dIn t (tD L) = some (false, .bl (inL L t)) := by
  rcases h with ⟨i, rfl⟩ | ⟨z, _, rfl⟩
  · show (inDs (.int i) (L.map Dat.str)).map _ = _
    rw [in_none]
    rfl
  · show (inDs (.str z) (L.map Dat.str)).map _ = _
    rw [in_strs]
    rfl
theorem tm_flat {N : List Str} {t : Dat} (h : tmOk N t) : depD t ≤ 59 ∧ noObj t = true := by
  rcases h with ⟨i, rfl⟩ | ⟨z, _, rfl⟩ <;> exact ⟨Nat.zero_le _, rfl⟩
theorem chIf_ok {N : List Str} {ts : List Dat} (ht : ∀ t ∈ ts, tmOk N t) (hl : ts.length ≤ 100) (L : List Str) {rows : Dat} {s1 s3 s4 s5 s6 : Option Slot} :
    (ts.any (inL L) = false ∧ chIf (eT rows s1 (some (.val (tD L))) s3 s4 s5 s6 (some (.own (.lst ts))) none) = some (.nx, eT rows s1 (some (.val (tD L))) s3 s4 s5 s6 (some (.val (.lst ts))) none)) ∨
    (ts.any (inL L) = true ∧ chIf (eT rows s1 (some (.val (tD L))) s3 s4 s5 s6 (some (.own (.lst ts))) none) = some (.rt (.val (.bl false)), eT rows s1 (some (.val (tD L))) s3 s4 s5 s6 (some (.val (.lst ts))) none)) := by
  have comp : chLc (eT rows s1 (some (.val (tD L))) s3 s4 s5 s6 (some (.own (.lst ts))) none) = some (.new (.lst ((ts.filter (inL L)).map fun d => d)), eT rows s1 (some (.val (tD L))) s3 s4 s5 s6 (some (.val (.lst ts))) none) := by
    unfold chLc
    refine eLc_fx ts (fun d => d) (fun d => d) (inL L) (by simp [itemsD]) rfl (by omega) fun d hd => ?_
    have := dIn_L (ht d hd) L
    refine ⟨eT rows s1 (some (.val (tD L))) s3 s4 s5 s6 (some (.val (.lst ts))) (some (.val d)), .bor 8, rfl, ?_, rfl, rfl, rfl⟩
    generalize tD L = l at this ⊢
    simp [this]
  have ne := dNe_nil (ts := (ts.filter (inL L)).map fun d => d) (fun x hx => by
    rw [List.map_id'] at hx
    exact tm_flat (ht x (List.mem_filter.mp hx).1))
  rw [filt_any] at ne
  unfold chIf
  generalize (ts.filter (inL L)).map (fun d => d) = fs at comp ne
  generalize tD L = l at comp ⊢
  cases c : ts.any (inL L) with
  | false =>
    rw [c] at ne
    exact .inl ⟨rfl, by simp [comp, ne]⟩
  | true =>
    rw [c] at ne
    exact .inr ⟨rfl, by simp [comp, ne]⟩
theorem chB_ok {N : List Str} {F : List Dat} {c : Dat} (h : Chg N F c) (hF : F.length ≤ 5) (L : List Str) {rows : Dat} {s1 s3 s4 s5 s7 : Option Slot} (h7 : nm s7) :
    ((trm c).any (inL L) = false ∧ chB (eT rows s1 (some (.val (tD L))) s3 s4 s5 (some (.val c)) s7 none) = some (.nx, eT rows s1 (some (.val (tD L))) s3 s4 s5 (some (.val c)) (some (.val (.lst (trm c)))) none)) ∨
    ((trm c).any (inL L) = true ∧ chB (eT rows s1 (some (.val (tD L))) s3 s4 s5 (some (.val c)) s7 none) = some (.rt (.val (.bl false)), eT rows s1 (some (.val (tD L))) s3 s4 s5 (some (.val c)) (some (.val (.lst (trm c)))) none)) := by
  have a := chSet_ok h hF (rows := rows) (s1 := s1) (s2 := some (.val (tD L))) (s3 := s3) (s4 := s4) (s5 := s5) (s8 := none) h7
  obtain ⟨_, t2, t3⟩ := P_terms h hF
  unfold chB
  rw [seq_nx a]
  exact chIf_ok t3 (by omega) L
theorem teF_ok {N : List Str} {F : List Dat} (hF : F.length ≤ 5) {cs : List Dat} (h : ∀ c ∈ cs, Chg N F c) (L : List Str) {rows : Dat} {s1 s4 s5 s6 s7 : Option Slot} (h6 : nm s6) (h7 : nm s7) :
    ∃ t6 t7, nm t6 ∧ nm t7 ∧ ((cs.any (fun c => (trm c).any (inL L)) = false ∧ teF (eT rows s1 (some (.val (tD L))) (some (.val (.tup cs))) s4 s5 s6 s7 none) = some (.nx, eT rows s1 (some (.val (tD L))) (some (.val (.tup cs))) s4 s5 t6 t7 none)) ∨
    (cs.any (fun c => (trm c).any (inL L)) = true ∧ teF (eT rows s1 (some (.val (tD L))) (some (.val (.tup cs))) s4 s5 s6 s7 none) = some (.rt (.val (.bl false)), eT rows s1 (some (.val (tD L))) (some (.val (.tup cs))) s4 s5 t6 t7 none))) := by
  obtain ⟨env', q⟩ := loop_findx (g := gPut 6) (body := chB) (fun d : Dat => d)
    (fun env => ∃ t6 t7, nm t6 ∧ nm t7 ∧ env = eT rows s1 (some (.val (tD L))) (some (.val (.tup cs))) s4 s5 t6 t7 none)
    (fun r env => r = .val (.bl false) ∧ ∃ t6 t7, nm t6 ∧ nm t7 ∧ env = eT rows s1 (some (.val (tD L))) (some (.val (.tup cs))) s4 s5 t6 t7 none)
    (fun c => (trm c).any (inL L)) cs _ ⟨s6, s7, h6, h7, rfl⟩ fun c hc env he => by
      obtain ⟨t6, t7, g6, g7, rfl⟩ := he
      refine ⟨eT rows s1 (some (.val (tD L))) (some (.val (.tup cs))) s4 s5 (some (.val c)) t7 none, by rw [a_put, if_pos ⟨by simp, g6⟩]; rfl, ?_⟩
      rcases chB_ok (h c hc) hF L (rows := rows) (s1 := s1) (s3 := some (.val (.tup cs))) (s4 := s4) (s5 := s5) g7 with ⟨a1, a2⟩ | ⟨a1, a2⟩
      · exact .inl ⟨a1, _, a2, _, _, rfl, rfl, rfl⟩
      · exact .inr ⟨a1, _, _, a2, rfl, _, _, rfl, rfl, rfl⟩
  rw [List.map_id'] at q
  have it : teF (eT rows s1 (some (.val (tD L))) (some (.val (.tup cs))) s4 s5 s6 s7 none) = loopS (gPut 6) chB cs (eT rows s1 (some (.val (tD L))) (some (.val (.tup cs))) s4 s5 s6 s7 none) := by
    unfold teF
    have hi : iAny (eVar 3) (eT rows s1 (some (.val (tD L))) (some (.val (.tup cs))) s4 s5 s6 s7 none) = some (cs, eT rows s1 (some (.val (tD L))) (some (.val (.tup cs))) s4 s5 s6 s7 none) := by
      generalize tD L = l
      simp [itemsD]
    rw [a_sfor, hi, at_some]
  rcases q with ⟨a1, a2, t6, t7, g6, g7, rfl⟩ | ⟨a1, r, a2, rfl, t6, t7, g6, g7, rfl⟩
  · exact ⟨t6, t7, g6, g7, .inl ⟨a1, by rw [it, a2]⟩⟩
  · exact ⟨t6, t7, g6, g7, .inr ⟨a1, by rw [it, a2]⟩⟩
theorem teIf_ok {ps : List Str} {F W : List Dat} {ss : List Sy} (hs : ∀ s ∈ ss, SyOk ps F W s) (hr : ∀ s ∈ ss, okW 9 s.row) (hl : ss.length ≤ 1000) {s : Sy} (hsm : s ∈ ss) {s1 s2 s6 s7 : Option Slot} :
    (bad1 ss s = false ∧ teIf (eT (.lst (ss.map Sy.row)) s1 s2 (some (.val (.tup s.cs))) (some (.val s.w)) none s6 s7 none) = some (.nx, eT (.lst (ss.map Sy.row)) s1 s2 (some (.val (.tup s.cs))) (some (.val s.w)) none s6 s7 none)) ∨
    (bad1 ss s = true ∧ teIf (eT (.lst (ss.map Sy.row)) s1 s2 (some (.val (.tup s.cs))) (some (.val s.w)) none s6 s7 none) = some (.rt (.val (.bl false)), eT (.lst (ss.map Sy.row)) s1 s2 (some (.val (.tup s.cs))) (some (.val s.w)) none s6 s7 none)) := by
  have comp : teLc (eT (.lst (ss.map Sy.row)) s1 s2 (some (.val (.tup s.cs))) (some (.val s.w)) none s6 s7 none) = some (.new (.lst ((ss.filter fun u => (strOf u.w == strOf s.w) && !eqX (.tup u.cs) (.tup s.cs)).map Sy.row)), eT (.lst (ss.map Sy.row)) s1 s2 (some (.val (.tup s.cs))) (some (.val s.w)) none s6 s7 none) := by
    unfold teLc
    refine eLc_fx ss Sy.row Sy.row (fun u => (strOf u.w == strOf s.w) && !eqX (.tup u.cs) (.tup s.cs)) ?_ rfl (by omega) fun u hu => ?_
    · generalize ss.map Sy.row = rs
      simp [itemsD]
    · have e2 : dIx u.row (.int 2) = some (false, .tup u.cs) := rfl
      have e3 : dIx u.row (.int 3) = some (false, .str (strOf u.w)) := by
        show some (false, u.w) = _
        rw [← (hs u hu).ws]
      have qe : dNe (.tup u.cs) (.tup s.cs) = some (false, .bl (!eqX (.tup u.cs) (.tup s.cs))) := by
        unfold dNe
        rw [eqQ_X (hs u hu).wk (hs s hsm).wk (by omega)]
        rfl
      refine ⟨eT (.lst (ss.map Sy.row)) s1 s2 (some (.val (.tup s.cs))) (some (.val s.w)) (some (.val u.row)) s6 s7 none, .bor 5, rfl, ?_, rfl, rfl, rfl⟩
      have ws := (hs s hsm).ws
      generalize eqX (.tup u.cs) (.tup s.cs) = ex at qe ⊢
      generalize Dat.tup s.cs = c1 at qe ⊢
      generalize Dat.tup u.cs = c2 at qe e2
      generalize u.row = ur at e2 e3 ⊢
      generalize ss.map Sy.row = rs
      rw [ws]
      have so : strOf (.str (strOf s.w)) = strOf s.w := rfl
      cases c : strOf u.w == strOf s.w <;> simp [e3, dEq, c, e2, qe, so]
  have ne := dNe_nil (ts := (ss.filter fun u => (strOf u.w == strOf s.w) && !eqX (.tup u.cs) (.tup s.cs)).map Sy.row) (fun x hx => by
    obtain ⟨u, hu, rfl⟩ := List.mem_map.mp hx
    have := (hr u (List.mem_filter.mp hu).1).okD.facts
    exact ⟨by omega, this.2.2.1⟩)
  rw [filt_any] at ne
  unfold teIf bad1
  generalize (ss.filter fun u => (strOf u.w == strOf s.w) && !eqX (.tup u.cs) (.tup s.cs)).map Sy.row = fs at comp ne
  cases c : ss.any fun u => (strOf u.w == strOf s.w) && !eqX (.tup u.cs) (.tup s.cs) with
  | false =>
    rw [c] at ne
    refine .inl ⟨rfl, ?_⟩
    rw [a_if, a_tcmp, a_op2, comp]
    generalize ss.map Sy.row = rs
    generalize Dat.tup s.cs = c1
    simp [ne]
  | true =>
    rw [c] at ne
    refine .inr ⟨rfl, ?_⟩
    rw [a_if, a_tcmp, a_op2, comp]
    generalize ss.map Sy.row = rs
    generalize Dat.tup s.cs = c1
    simp [ne]
def badS (ss : List Sy) : Bool := ss.any fun s => bad1 ss s || bad2 s
theorem P_tells {ps : List Str} {F W : List Dat} (hF : F.length ≤ 5) {ss : List Sy} (hs : ∀ s ∈ ss, SyOk ps F W s) (hr : ∀ s ∈ ss, okW 9 s.row) (hl : ss.length ≤ 1000) : F_L_tells [some (.val (.lst (ss.map Sy.row)))] = some (.val (.bl (!badS ss)), [some (.val (.lst (ss.map Sy.row)))]) := by
  obtain ⟨env', q⟩ := loop_findx (g := gTupD 4 (gConsD (gPut 1) (gConsD (gPut 2) (gConsD (gPut 3) (gConsD (gPut 4) gNilD))))) (body := teB) Sy.row
    (fun env => ∃ t1 t2 t3 t4 t6 t7, nm t1 ∧ nm t2 ∧ nm t3 ∧ nm t4 ∧ nm t6 ∧ nm t7 ∧ env = eT (.lst (ss.map Sy.row)) t1 t2 t3 t4 none t6 t7 none)
    (fun r env => r = .val (.bl false) ∧ ∃ t1 t2 t3 t4 t6 t7, env = eT (.lst (ss.map Sy.row)) t1 t2 t3 t4 none t6 t7 none)
    (fun s => bad1 ss s || bad2 s) ss _ ⟨none, none, none, none, none, none, rfl, rfl, rfl, rfl, rfl, rfl, rfl⟩ fun s hsm env he => by
      obtain ⟨t1, t2, t3, t4, t6, t7, g1, g2, g3, g4, g6, g7, rfl⟩ := he
      refine ⟨eT (.lst (ss.map Sy.row)) (some (.val (.int (s.k : Int)))) (some (.val (tD s.L))) (some (.val (.tup s.cs))) (some (.val s.w)) none t6 t7 none, ?_, ?_⟩
      · unfold Sy.row
        generalize ss.map _ = rs
        generalize tD s.L = l
        simp [gTupD, gConsD, gNilD, g1, g2, g3, g4]
      · unfold teB
        rcases teIf_ok hs hr hl hsm (s1 := some (.val (.int (s.k : Int)))) (s2 := some (.val (tD s.L))) (s6 := t6) (s7 := t7) with ⟨a1, a2⟩ | ⟨a1, a2⟩
        · rw [seq_nx a2, a1, Bool.false_or]
          obtain ⟨u6, u7, n6, n7, q⟩ := teF_ok hF (hs s hsm).cs s.L (rows := .lst (ss.map Sy.row)) (s1 := some (.val (.int (s.k : Int)))) (s4 := some (.val s.w)) (s5 := none) g6 g7
          rcases q with ⟨b1, b2⟩ | ⟨b1, b2⟩
          · exact .inl ⟨b1, _, b2, _, _, _, _, _, _, rfl, rfl, rfl, rfl, n6, n7, rfl⟩
          · exact .inr ⟨b1, _, _, b2, rfl, _, _, _, _, _, _, rfl⟩
        · rw [seq_rt a2, a1, Bool.true_or]
          exact .inr ⟨rfl, _, _, rfl, rfl, _, _, _, _, _, _, rfl⟩
  have it : sFor (iAny (eVar 0)) (gTupD 4 (gConsD (gPut 1) (gConsD (gPut 2) (gConsD (gPut 3) (gConsD (gPut 4) gNilD))))) teB (eT (.lst (ss.map Sy.row)) none none none none none none none none) = loopS (gTupD 4 (gConsD (gPut 1) (gConsD (gPut 2) (gConsD (gPut 3) (gConsD (gPut 4) gNilD))))) teB (ss.map Sy.row) (eT (.lst (ss.map Sy.row)) none none none none none none none none) := by
    have hi : iAny (eVar 0) (eT (.lst (ss.map Sy.row)) none none none none none none none none) = some (ss.map Sy.row, eT (.lst (ss.map Sy.row)) none none none none none none none none) := by
      generalize ss.map Sy.row = rs
      simp [itemsD]
    rw [a_sfor, hi, at_some]
  show runF 9 1 fb_L_tells _ = _
  rw [a_run, if_pos ⟨rfl, rfl⟩]
  show andThen (fb_L_tells (eT (.lst (ss.map Sy.row)) none none none none none none none none)) _ = _
  rw [fb_te]
  unfold badS
  rcases q with ⟨a1, a2, t1, t2, t3, t4, t6, t7, _, _, _, _, _, _, rfl⟩ | ⟨a1, r, a2, rfl, t1, t2, t3, t4, t6, t7, rfl⟩
  · rw [seq_nx (it.trans a2), a1]
    rfl
  · rw [seq_rt (it.trans a2), a1]
    rfl
end Prg
/-! Both sides agree. -/
namespace Prg
open PySem PySem.Spec L2 DL
open PyProof.Rows hiding St
theorem hid_bad {ps : List Str} {F W : List Dat} {ss : List Sy} (hn : (ss.map Sy.p).Nodup) (hs : ∀ s ∈ ss, SyOk ps F W s) (hF : F.length ≤ 5) : hidS ps ss = badS ss := by
  rw [Bool.eq_iff_iff]
  unfold hidS badS
  constructor
  · intro h
    obtain ⟨s, hsm, h⟩ := List.any_eq_true.mp h
    obtain ⟨u, hum, h⟩ := List.any_eq_true.mp h
    unfold hidX at h
    rw [Bool.and_eq_true] at h
    obtain ⟨hw, h⟩ := h
    cases c : s.p == u.p with
    | true =>
      rw [c, if_pos rfl] at h
      unfold letX at h
      obtain ⟨t, ht, h⟩ := List.any_eq_true.mp h
      rw [Bool.and_eq_true] at h
      obtain ⟨ch, hch, htc⟩ := List.mem_flatMap.mp ht
      have tm := (P_terms ((hs s hsm).cs ch hch) hF).2.2 t htc
      refine List.any_eq_true.mpr ⟨s, hsm, ?_⟩
      rw [Bool.or_eq_true]
      right
      refine List.any_eq_true.mpr ⟨ch, hch, List.any_eq_true.mpr ⟨t, htc, ?_⟩⟩
      rcases tm with ⟨i, rfl⟩ | ⟨z, hz, rfl⟩
      · cases h.1
      · have hz2 : z ∉ ps := fun hp => by
          have : (ps.any fun y => y == strOf (.str z)) = true := List.any_eq_true.mpr ⟨z, hp, beq_self_eq_true z⟩
          rw [this] at h
          cases h.2
        rcases List.mem_append.mp hz with q | q
        · exact absurd q hz2
        · exact List.any_eq_true.mpr ⟨z, q, beq_self_eq_true z⟩
    | false =>
      rw [c, if_neg Bool.false_ne_true] at h
      refine List.any_eq_true.mpr ⟨u, hum, ?_⟩
      rw [Bool.or_eq_true]
      left
      refine List.any_eq_true.mpr ⟨s, hsm, ?_⟩
      rw [hw, h]
      rfl
  · intro h
    obtain ⟨s, hsm, h⟩ := List.any_eq_true.mp h
    rw [Bool.or_eq_true] at h
    rcases h with h | h
    · obtain ⟨u, hum, h⟩ := List.any_eq_true.mp h
      rw [Bool.and_eq_true] at h
      refine List.any_eq_true.mpr ⟨u, hum, List.any_eq_true.mpr ⟨s, hsm, ?_⟩⟩
      unfold hidX
      rw [h.1, Bool.true_and]
      cases c : u.p == s.p with
      | false =>
        rw [if_neg
            Bool.false_ne_true]
        exact h.2
      | true =>
        rw [beq_iff_eq] at c
        have e := sy_inj hn hum hsm c
        subst e
        have := h.2
        rw [eqX_refl (hs u hum).wk] at this
        cases this
    · obtain ⟨ch, hch, h⟩ := List.any_eq_true.mp h
      obtain ⟨t, ht, h⟩ := List.any_eq_true.mp h
      refine List.any_eq_true.mpr ⟨s, hsm, List.any_eq_true.mpr ⟨s, hsm, ?_⟩⟩
      unfold hidX
      rw [beq_self_eq_true, beq_self_eq_true, if_pos rfl, Bool.true_and]
      refine List.any_eq_true.mpr ⟨t, List.mem_flatMap.mpr ⟨ch, hch, ht⟩, ?_⟩
      cases t with
      | str z =>
        obtain ⟨y, hy, e⟩ := List.any_eq_true.mp h
        rw [beq_iff_eq] at e
        subst e
        have := (hs s hsm).dis y hy
        show (true && !(ps.any fun x => x == y)) = true
        rw [Bool.true_and, Bool.not_eq_true', List.any_eq_false]
        intro x hx e
        rw [beq_iff_eq] at e
        exact this (e ▸ hx)
      | _ => cases h
/-! what a drawn BODY gives -/
theorem sy_val {ps : List Str} {F W : List Dat} : ∀ (b : Bd) (p : List Bool) (k : Nat) (L : List Str) (T : List Dat), Valid F W (ps ++ L) T b → (∀ x ∈ L, x ∉ ps ∧ x = Str.ofString "x") →
    ∀ s ∈ b.sy p k L, (∀ c ∈ s.cs, Chg (ps ++ s.L) F c) ∧ s.cs.length ≤ 2 ∧ s.w ∈ W ∧ (∀ x ∈ s.L, x ∉ ps ∧ x = Str.ofString "x") ∧ s.L.length ≤ L.length + b.dep
  | .say cs w, p, k, L, T, h, hL, s, hs => by
    rw [List.mem_singleton.mp hs]
    exact ⟨h.1, h.2.1, h.2.2, hL, Nat.le_add_right _ _⟩
  | .lt x t f b, p, k, L, T, h, hL, s, hs => by
    obtain ⟨hx, hxn, _, _, _, hv⟩ := h
    rw [List.append_assoc] at hv
    obtain ⟨a1, a2, a3, a4, a5⟩ := sy_val b p (k + 1) (L ++ [x]) T hv (fun y hy => by
      rcases List.mem_append.mp hy with q | q
      · exact hL y q
      · rw [List.mem_singleton.mp q]
        exact ⟨fun hp => hxn (List.mem_append_left _ hp), hx⟩) s hs
    refine ⟨a1, a2, a3, a4, ?_⟩
    rw [List.length_append, List.length_singleton] at a5
    show _ ≤ L.length + (b.dep + 1)
    omega
  | .hs t a b, p, k, L, T, h, hL, s, hs => by
    obtain ⟨_, h1, h2⟩ := h
    rcases List.mem_append.mp hs with q | q
    · obtain ⟨a1, a2, a3, a4, a5⟩ := sy_val a _ _ L _ h1 hL s q
      refine ⟨a1, a2, a3, a4, ?_⟩
      show _ ≤ L.length + (max a.dep b.dep + 1)
      omega
    · obtain ⟨a1, a2, a3, a4, a5⟩ := sy_val b _ _ L _ h2 hL s q
      refine ⟨a1, a2, a3, a4, ?_⟩
      show _ ≤ L.length + (max a.dep b.dep + 1)
      omega
  | .tst t f u a b, p, k, L, T, h, hL, s, hs => by
    obtain ⟨_, _, _, _, h1, h2⟩ := h
    rcases List.mem_append.mp hs with q | q
    · obtain ⟨a1, a2, a3, a4, a5⟩ := sy_val a _ _ L _ h1 hL s q
      refine ⟨a1, a2, a3, a4, ?_⟩
      show _ ≤ L.length + (max a.dep b.dep + 1)
      omega
    · obtain ⟨a1, a2, a3, a4, a5⟩ := sy_val b _ _ L _ h2 hL s q
      refine ⟨a1, a2, a3, a4, ?_⟩
      show _ ≤ L.length + (max a.dep b.dep + 1)
      omega
theorem sy_okW : ∀ (b : Bd) (p : List Bool) (k : Nat) (L : List Str) (n : Nat), okW n b.d → ∀ s ∈ b.sy p k L, okW n (.tup s.cs)
  | .say cs w, p, k, L, n, h, s, hs => by
    obtain ⟨m, rfl, _, hx⟩ := okW_tupD h
    rw [List.mem_singleton.mp hs]
    exact (hx (.tup cs) (by simp)).up
  | .lt x t f b, p, k, L, n, h, s, hs => by
    obtain ⟨m, rfl, _, hx⟩ := okW_tupD h
    exact (sy_okW b p (k + 1) (L ++ [x]) m (hx b.d (by simp)) s hs).up
  | .hs t a b, p, k, L, n, h, s, hs => by
    obtain ⟨m, rfl, _, hx⟩ := okW_tupD h
    rcases List.mem_append.mp hs with q | q
    · exact (sy_okW a _ _ L m (hx a.d (by simp)) s q).up
    · exact (sy_okW b _ _ L m (hx b.d (by simp)) s q).up
  | .tst t f u a b, p, k, L, n, h, s, hs => by
    obtain ⟨m, rfl, _, hx⟩ := okW_tupD h
    rcases List.mem_append.mp hs with q | q
    · exact (sy_okW a _ _ L m (hx a.d (by simp)) s q).up
    · exact (sy_okW b _ _ L m (hx b.d (by simp)) s q).up
structure WsOk (W : List Dat) : Prop where
  nm : ∀ w ∈ W, nmD w = true
  wk : ∀ w ∈ W, okW 0 w
theorem kk_sy {F : List Str} {W : List Dat} (hW : WsOk W) {k : KK} (h : k.Ok F W) : ∀ s ∈ k.sy, SyOk k.ps (F.map .str) W s := fun s hs => by
  obtain ⟨a1, a2, a3, a4, a5⟩ := sy_val (ps := k.ps) k.b [] 0 [] [] (by rw [List.append_nil]; exact h.val) (by simp) s hs
  exact ⟨a1, a2, a3, nmD_str (hW.nm _ a3), fun x hx => (a4 x hx).1, sy_okW k.b [] 0 [] 8 h.wk s hs⟩
theorem kk_row {F : List Str} {W : List Dat} (hW : WsOk W) {k : KK} (h : k.Ok F W) : ∀ s ∈ k.sy, okW 9 s.row := fun s hs => by
  obtain ⟨a1, a2, a3, a4, a5⟩ := sy_val (ps := k.ps) k.b [] 0 [] [] (by rw [List.append_nil]; exact h.val) (by simp) s hs
  have hd := k.b.dep_le 8 h.wk
  refine ⟨by simp, fun x hx => ?_⟩
  simp at hx
  rcases hx with rfl | rfl | rfl | rfl
  · trivial
  · refine ⟨by rw [List.length_map]; simp at a5; omega, fun y hy => ?_⟩
    obtain ⟨z, hz, rfl⟩ := List.mem_map.mp hy
    rw [(a4 z hz).2]
    exact w20 "x" (by decide +kernel) 7
  · exact sy_okW k.b [] 0 [] 8 h.wk s hs
  · exact (hW.wk _ a3).mono (by omega)
/-! the longest way -/
theorem sy_k : ∀ (b : Bd) (p : List Bool) (k : Nat) (L : List Str), (∀ s ∈ b.sy p k L, s.k ≤ k + b.dep) ∧ ∃ s ∈ b.sy p k L, s.k = k + b.dep
  | .say cs w, p, k, L => ⟨fun s hs => by rw [List.mem_singleton.mp hs]; exact Nat.le_refl k, ⟨p, k, L, cs, w⟩, List.mem_singleton.mpr rfl, rfl⟩
  | .lt x t f b, p, k, L => by
    obtain ⟨h1, s, h2, h3⟩ := sy_k b p (k + 1) (L ++ [x])
    have e : (Bd.lt x t f b).dep = b.dep + 1 := rfl
    refine ⟨fun u hu => ?_, s, h2, by omega⟩
    have := h1 u hu
    omega
  | .hs t a b, p, k, L => by
    obtain ⟨h1, s, h2, h3⟩ := sy_k a (p ++ [true]) (k + 1) L
    obtain ⟨g1, u, g2, g3⟩ := sy_k b (p ++ [false]) (k + 1) L
    have e : (Bd.hs t a b).dep = max a.dep b.dep + 1 := rfl
    refine ⟨fun v hv => ?_, ?_⟩
    · rcases List.mem_append.mp hv with q | q
      · have := h1 v q
        omega
      · have := g1 v q
        omega
    · by_cases c : a.dep ≤ b.dep
      · exact ⟨u, List.mem_append_right _ g2, by omega⟩
      · exact ⟨s, List.mem_append_left _ h2, by omega⟩
  | .tst t f w a b, p, k, L => by
    obtain ⟨h1, s, h2, h3⟩ := sy_k a (p ++ [true]) (k + 1) L
    obtain ⟨g1, u, g2, g3⟩ := sy_k b (p ++ [false]) (k + 1) L
    have e : (Bd.tst t f w a b).dep = max a.dep b.dep + 1 := rfl
    refine ⟨fun v hv => ?_, ?_⟩
    · rcases List.mem_append.mp hv with q | q
      · have := h1 v q
        omega
      · have := g1 v q
        omega
    · by_cases c : a.dep ≤ b.dep
      · exact ⟨u, List.mem_append_right _ g2, by omega⟩
      · exact ⟨s, List.mem_append_left _ h2, by omega⟩
theorem maxI_eq {is : List Int} {x : Int} (h1 : x ∈ is) (h2 : ∀ y ∈ is, y ≤ x) : maxI is = some x := by
  cases is with
  | nil => cases h1
  | cons n ns =>
    obtain ⟨a1, a2, a3⟩ := foldl_max ns n
    show some (ns.foldl max n) = some x
    congr 1
    have b1 := h2 _ a1
    have b2 : x ≤ ns.foldl max n := by
      rcases List.mem_cons.mp h1 with q | q
      · rw [q]; exact a2
      · exact a3 x q
    omega
theorem max_k (k : KK) : maxI (k.sy.map fun s => (s.k : Int)) = some (k.b.dep : Int) := by
  obtain ⟨h1, s, h2, h3⟩ := sy_k k.b [] 0 []
  refine maxI_eq (List.mem_map.mpr ⟨s, h2, by omega⟩) fun y hy => ?_
  obtain ⟨u, hu, rfl⟩ := List.mem_map.mp hy
  have := h1 u hu
  omega
theorem max_0 {is : List Int} (h : ∀ i ∈ is, 0 ≤ i) : maxI (0 :: is) = some ((maxI is).getD 0) := by
  cases is with
  | nil => rfl
  | cons n ns =>
    have h0 : max 0 n = n := by
      have := h n (by simp)
      omega
    show some ((n :: ns).foldl max 0) = some (ns.foldl max n)
    rw [List.foldl_cons, h0]
end Prg
/-! The law's due; same. -/
namespace Prg
open PySem PySem.Spec L2 DL
open PyProof.Rows hiding St
theorem atI_get {α : Type} {ds : List α} {i : Nat} {x : α} (h : ds[i]? = some x) : atI ds (i : Int) = some x := by
  have hi : i < ds.length := (List.getElem?_eq_some_iff.mp h).1
  have e : ixN ds.length (i : Int) = some i := by
    unfold ixN
    rw [if_pos (by omega),
        if_pos (by omega)]
    rfl
  show (ixN ds.length (i : Int)).bind _ = _
  rw [e]
  exact h
abbrev lsD (ls : List LL) : Dat := .tup (ls.map LL.d)
abbrev eU (B L : Dat) (cs : List Dat) (sp : Int) (s4 s5 s6 : Option Slot) : DL.Env := [some (.val B), some (.val L), some (.own (.lst cs)), some (.val (.int sp)), s4, s5, s6, none]
def due1 : EM O := (sSet 5 (eCallV F_L_says (eCons (eOp2 dIx (eCallV F_L_kind_of (eCons (eVar 0) (eOne (eOp2 dIx (eOp2 dIx (eOp2 dIx (eVar 1) (eVar 4)) (eCon (.int 0))) (eCon (.int 0)))))) (eCon (.int 2))) (eCons (eCon (.int 0)) (eOne (eTup eNil))))))
def dueLc : EM R := (eLc (iAny (eVar 5)) (gPut 7) (eRet true) (eOp2 dIx (eVar 7) (eCon (.int 0))) [7])
def due2 : EM O := (sSet 6 (eOpN dMaxL (eOne dueLc)))
def due3 : EM O := (sExp (eBind (hasL 2) fun _ => eApp 2 (eOne (eOpN dMin2 (eCons (eOp2 dAdd (eVar 4) (eCon (.int 1))) (eOne (eOp2 dAdd (eOp2 dAdd (eCon (.int 1)) (eVar 6)) (eVar 3))))))))
def due4 : EM O := (eIf (tNo (eTruth (eCallV F_L_tells (eOne (eVar 5))))) (sSet 3 (eOp2 dAdd (eVar 3) (eVar 6))) (eRet .nx))
def dueB : EM O := sSeq due1 (sSeq due2 (sSeq due3 due4))
theorem fb_due : fb_L_due = (sSeq (sParO 2 3 (eLst (eOne (eCon (.int 0)))) 0) (sSeq (sFor (iRange (eOne (eOpN dLen (eOne (eVar 1))))) (gPut 4) dueB) (sRet (eOpN dMaxL (eOne (eVar 2)))))) := rfl
structure KsLaw (F : List Str) (W : List Dat) (ks : List KK) : Prop extends KsOk F W ks where
  row : ∀ k ∈ ks, ∀ s ∈ k.sy, okW 9 s.row
variable {F : List Str} {W : List Dat} {ks : List KK}
theorem due1_ok (K : KsLaw F W ks) {ls : List LL} {l : LL} {i : Nat} (hi : ls[i]? = some l) (hl : l.Ok ks) {cs : List Dat} {sp : Int} {s5 s6 : Option Slot} (h5 : nm s5) :
    due1 (eU (bkT F ks) (lsD ls) cs sp (some (.val (.int i))) s5 s6) = some (.nx, eU (bkT F ks) (lsD ls) cs sp (some (.val (.int i))) (some (.own (.lst (l.k.sy.map Sy.row)))) s6) := by
  have e0 : dIx (lsD ls) (.int (i : Int)) = some (false, l.d) := by
    show (atI (ls.map LL.d) (i : Int)).map _ = _
    rw [atI_get (x := l.d) (by rw [List.getElem?_map, hi]; rfl)]
    rfl
  have e1 : dIx l.d (.int 0) = some (false, l.call) := rfl
  have e2 : dIx l.call (.int 0) = some (false, .str l.k.nm) := by
    show (atI (Dat.str l.k.nm :: l.as.map Dat.int) 0).map _ = _
    rw [at0]
    rfl
  have q := P_kind_of (F := F) hl.mem K.nd K.len
  have e3 := kd_b l.k
  have s := P_says l.k.b 60 8 [] 0 [] (by decide) (by decide) (by decide) (K.wk _ hl.mem)
  have et : tD [] = .tup [] := rfl
  rw [et] at s
  have es : (l.k.b.sy [] 0 []).map Sy.row = l.k.sy.map Sy.row := rfl
  rw [es, show (((0 : Nat) : Int)) = 0 from rfl] at s
  unfold due1
  generalize l.k.sy.map Sy.row = rs at s ⊢
  generalize bkT F ks = B at q ⊢
  generalize lsD ls = D at e0 ⊢
  generalize l.k.d = kd at q e3
  generalize l.k.b.d = bd at s e3
  simp [e0, e1, e2, q, e3, s, h5]
theorem due2_ok (K : KsLaw F W ks) {l : LL} (hl : l.Ok ks) {B L : Dat} {cs : List Dat} {sp : Int} {s4 s6 : Option Slot} (h6 : nm s6) :
    due2 (eU B L cs sp s4 (some (.own (.lst (l.k.sy.map Sy.row)))) s6) = some (.nx, eU B L cs sp s4 (some (.val (.lst (l.k.sy.map Sy.row)))) (some (.val (.int (l.k.b.dep : Int))))) := by
  have hlen := kk_len (K.wk _ hl.mem)
  have comp : dueLc (eU B L cs sp s4 (some (.own (.lst (l.k.sy.map Sy.row)))) s6) = some (.new (.lst (l.k.sy.map fun s => .int (s.k : Int))), eU B L cs sp s4 (some (.val (.lst (l.k.sy.map Sy.row)))) s6) := by
    unfold dueLc
    refine eLc_xs l.k.sy Sy.row (fun s => .int (s.k : Int)) ?_ rfl (by omega) fun s hs => ?_
    · generalize l.k.sy.map Sy.row = rs
      simp [itemsD]
    · have e : dIx s.row (.int 0) = some (false, .int (s.k : Int)) := rfl
      refine ⟨[some (.val B), some (.val L), some (.own (.lst cs)), some (.val (.int sp)), s4, some (.val (.lst (l.k.sy.map Sy.row))), s6, some (.val s.row)], .val (.int (s.k : Int)), rfl, rfl, ?_, rfl, rfl⟩
      generalize l.k.sy.map Sy.row = rs
      generalize s.row = r at e ⊢
      simp [e]
  have mx : dMaxL [.lst (l.k.sy.map fun s => .int (s.k : Int))] = some (false, .int (l.k.b.dep : Int)) := by
    have i := ints_map (l.k.sy.map fun s => (s.k : Int))
    rw [List.map_map] at i
    have i' : intsD (l.k.sy.map fun s => Dat.int (s.k : Int)) = some (l.k.sy.map fun s => (s.k : Int)) := i
    show ((intsD (l.k.sy.map fun s => Dat.int (s.k : Int))).bind maxI).map _ = _
    rw [i', Option.bind_some, max_k]
    rfl
  unfold due2
  generalize (l.k.sy.map fun s => Dat.int (s.k : Int)) = ms at comp mx
  generalize l.k.sy.map Sy.row = rs at comp ⊢
  simp [comp, mx, h6]
theorem due3_ok {B L : Dat} {cs : List Dat} {sp : Int} {i : Nat} {dp : Nat} {s5 : Option Slot} (hc : cs.length ≤ 1000) :
    due3 (eU B L cs sp (some (.val (.int i))) s5 (some (.val (.int (dp : Int))))) = some (.nx, eU B L (cs ++ [.int (min2 ((i : Int) + 1) (1 + dp + sp))]) sp (some (.val (.int i))) s5 (some (.val (.int (dp : Int))))) := by
  have mn : dMin2 [.int ((i : Int) + 1), .int (1 + (dp : Int) + sp)] = some (false, .int (min2 ((i : Int) + 1) (1 + dp + sp))) := rfl
  have hl : cs.length < 100000 := by omega
  generalize min2 ((i : Int) + 1) (1 + dp + sp) = mm at mn ⊢
  unfold due3
  simp [dAdd, mn, hl]
theorem due4_ok (K : KsLaw F W ks) {l : LL} (hl : l.Ok ks) {B L : Dat} {cs : List Dat} {sp : Int} {s4 : Option Slot} :
    due4 (eU B L cs sp s4 (some (.val (.lst (l.k.sy.map Sy.row)))) (some (.val (.int (l.k.b.dep : Int))))) = some (.nx, eU B L cs (sp + costL l) s4 (some (.val (.lst (l.k.sy.map Sy.row)))) (some (.val (.int (l.k.b.dep : Int))))) := by
  have hlen := kk_len (K.wk _ hl.mem)
  have t := P_tells (by rw [List.length_map]; exact K.fl) (K.sy _ hl.mem) (K.row _ hl.mem) (by omega)
  rw [← hid_bad (sy_nd l.k.b [] 0 []) (K.sy _ hl.mem) (by rw [List.length_map]; exact K.fl)] at t
  unfold costL due4
  generalize l.k.sy.map Sy.row = rs at t ⊢
  cases c : hidS l.k.ps l.k.sy with
  | true =>
    rw [c] at t
    simp [t, truD, dAdd]
  | false =>
    rw [c] at t
    simp [t, truD]
def stepsN (ls : List LL) (i : Nat) : List Int := (ls.zipIdx.take i).map (stepL (ls.map costL))
theorem steps_succ {ls : List LL} {l : LL} {i : Nat} (hi : ls[i]? = some l) : stepsN ls (i + 1) = stepsN ls i ++ [stepL (ls.map costL) (l, i)] := by
  unfold stepsN
  rw [List.take_succ, List.getElem?_zipIdx, hi, List.map_append]
  simp
theorem sum_succ {ls : List LL} {l : LL} {i : Nat} (hi : ls[i]? = some l) : ((ls.map costL).take (i + 1)).sum = ((ls.map costL).take i).sum + costL l := by
  rw [List.take_succ, List.getElem?_map, hi, List.sum_append]
  simp
theorem P_due (K : KsLaw F W ks) {ls : List LL} (h : ∀ l ∈ ls, l.Ok ks) (hll : ls.length ≤ 100) : F_L_due [some (.val (bkT F ks)), some (.val (lsD ls))] = some (.val (.int (mostL ls)), [some (.val (bkT F ks)), some (.val (lsD ls))]) := by
  have x1 : sParO 2 3 (eLst (eOne (eCon (.int 0)))) 0 [some (.val (bkT F ks)), some (.val (lsD ls)), none, none, none, none, none, none] = some (.nx, eU (bkT F ks) (lsD ls) [.int 0] 0 none none none) := by
    generalize bkT F ks = B
    generalize lsD ls = D
    rfl
  have hit : iRange (eOne (eOpN dLen (eOne (eVar 1)))) (eU (bkT F ks) (lsD ls) [.int 0] 0 none none none) = some (rngD 0 ls.length, eU (bkT F ks) (lsD ls) [.int 0] 0 none none none) := by
    have hlen : eOpN dLen (eOne (eVar 1)) (eU (bkT F ks) (lsD ls) [.int 0] 0 none none none) = some (.val (.int ls.length), eU (bkT F ks) (lsD ls) [.int 0] 0 none none none) := by
      have : dLen [lsD ls] = some (false, .int (ls.length : Int)) := by
        show some (false, Dat.int (((ls.map LL.d).length : Nat) : Int)) = _
        rw [List.length_map]
      generalize bkT F ks = B
      generalize lsD ls = D at this ⊢
      simp [this]
    rw [a_irange, a_one, hlen, at_some, at_some, ls_cons, a_look, l_val, we_some, at_some, ls_nil, at_some, at_some]
    have := rangeO_e (ls.length : Int) (eU (bkT F ks) (lsD ls) [.int 0] 0 none none none) (by constructor <;> omega)
    rw [show (ls.length : Int).toNat = ls.length by omega] at this
    exact this
  obtain ⟨e3, hloop, s4, s5, s6, rfl, h4, h5, h6⟩ := loop_inv (g := gPut 4) (body := dueB)
    (fun i env => ∃ s4 s5 s6, env = eU (bkT F ks) (lsD ls) ((0 :: stepsN ls i).map .int) ((ls.map costL).take i).sum s4 s5 s6 ∧ nm s4 ∧ nm s5 ∧ nm s6)
    (rngD 0 ls.length) 0 (eU (bkT F ks) (lsD ls) [.int 0] 0 none none none) ⟨none, none, none, rfl, rfl, rfl, rfl⟩ (by
      rintro j x env hx ⟨s4, s5, s6, rfl, h4, h5, h6⟩
      obtain ⟨rfl, hj⟩ := rngD_get hx
      rw [Nat.zero_add]
      obtain ⟨l, hl⟩ : ∃ l, ls[j]? = some l := ⟨ls[j], List.getElem?_eq_getElem hj⟩
      have hlo := h l (List.mem_of_getElem? hl)
      have hp : gPut 4 (.int (j : Int)) (eU (bkT F ks) (lsD ls) ((0 :: stepsN ls j).map .int) ((ls.map costL).take j).sum s4 s5 s6) = some ((), eU (bkT F ks) (lsD ls) ((0 :: stepsN ls j).map .int) ((ls.map costL).take j).sum (some (.val (.int (j : Int)))) s5 s6) := by
        rw [a_put, if_pos ⟨by simp, h4⟩]
        rfl
      have hcl : ((0 :: stepsN ls j).map Dat.int).length ≤ 1000 := by
        unfold stepsN
        rw [List.length_map, List.length_cons, List.length_map, List.length_take, List.length_zipIdx]
        omega
      refine ⟨_, _, hp, ?_, some (.val (.int (j : Int))), some (.val (.lst (l.k.sy.map Sy.row))), some (.val (.int (l.k.b.dep : Int))), rfl, rfl, rfl, rfl⟩
      unfold dueB
      rw [seq_nx (due1_ok K hl hlo h5), seq_nx (due2_ok K hlo h6), seq_nx (due3_ok hcl), due4_ok K hlo, steps_succ hl, sum_succ hl]
      show _ = some (O.nx, eU _ _ ((0 :: (stepsN ls j ++ [stepL (ls.map costL) (l, j)])).map .int) _ _ _ _)
      rw [← List.cons_append, List.map_append]
      rfl)
  rw [rngD_len, Nat.zero_add] at hloop
  have hall : stepsN ls ls.length = ls.zipIdx.map (stepL (ls.map costL)) := by
    unfold stepsN
    rw [List.take_of_length_le (by rw [List.length_zipIdx]; omega)]
  rw [hall] at hloop
  have nn : ∀ i ∈ ls.zipIdx.map (stepL (ls.map costL)), 0 ≤ i := fun i hi => by
    obtain ⟨x, _, rfl⟩ := List.mem_map.mp hi
    have sm : ∀ cs : List Int, (∀ c ∈ cs, 0 ≤ c) → 0 ≤ cs.sum := fun cs => by
      induction cs with
      | nil => intro _; exact Int.le_refl 0
      | cons c cs ih =>
        intro h
        have a := h c (by simp)
        have b := ih fun x hx => h x (by simp [hx])
        rw [List.sum_cons]
        omega
    have := sm ((ls.map costL).take x.2) (fun c hc => by
      obtain ⟨l, _, rfl⟩ := List.mem_map.mp (List.mem_of_mem_take hc)
      unfold costL
      split <;> omega)
    unfold stepL min2
    split <;> omega
  have mx : dMaxL [.lst ((0 :: ls.zipIdx.map (stepL (ls.map costL))).map .int)] = some (false, .int (mostL ls)) := by
    show ((intsD ((0 :: ls.zipIdx.map (stepL (ls.map costL))).map .int)).bind maxI).map _ = _
    rw [ints_map, Option.bind_some, max_0 nn]
    rfl
  show runF 8 2 fb_L_due _ = _
  rw [a_run, if_pos ⟨rfl, rfl⟩]
  have x2 : sFor (iRange (eOne (eOpN dLen (eOne (eVar 1))))) (gPut 4) dueB (eU (bkT F ks) (lsD ls) [.int 0] 0 none none none) = some (.nx, eU (bkT F ks) (lsD ls) ((0 :: ls.zipIdx.map (stepL (ls.map costL))).map .int) ((ls.map costL).take ls.length).sum s4 s5 s6) := by
    rw [a_sfor, hit, at_some]
    exact hloop
  have x3 : sRet (eOpN dMaxL (eOne (eVar 2))) (eU (bkT F ks) (lsD ls) ((0 :: ls.zipIdx.map (stepL (ls.map costL))).map .int) ((ls.map costL).take ls.length).sum s4 s5 s6) = some (.rt (.val (.int (mostL ls))), eU (bkT F ks) (lsD ls) ((0 :: ls.zipIdx.map (stepL (ls.map costL))).map .int) ((ls.map costL).take ls.length).sum s4 s5 s6) := by
    generalize (0 :: ls.zipIdx.map (stepL (ls.map costL))).map Dat.int = cs at mx ⊢
    generalize bkT F ks = B
    generalize lsD ls = D
    simp [mx]
  have eb : fb_L_due [some (.val (bkT F ks)), some (.val (lsD ls)), none, none, none, none, none, none] = some (.rt (.val (.int (mostL ls))), eU (bkT F ks) (lsD ls) ((0 :: ls.zipIdx.map (stepL (ls.map costL))).map .int) ((ls.map costL).take ls.length).sum s4 s5 s6) := by
    rw [fb_due, seq_nx x1, seq_nx x2, x3]
  show andThen (fb_L_due [some (.val (bkT F ks)), some (.val (lsD ls)), none, none, none, none, none, none]) _ = _
  rw [eb, at_some]
  rfl
/-! same -/
theorem same_int (fuel : Nat) (x : Int) : FR_L_same (fuel + 1) [some (.val (.int x)), some (.val (.int x))] = some (.val (.bl true), [some (.val (.int x)), some (.val (.int x))]) := by
  have e0 : dIsi [.int x, .ty "dict"] = some (false, .bl false) := rfl
  have e1 := isiF_row (d := .int x) rfl
  have e2 : dIs (.int x) .non = some (false, .bl false) := rfl
  have e3 : dIsi [.int x, .tup [.ty "bool", .ty "str"]] = some (false, .bl false) := rfl
  have q := F_Lnum (.int x) rfl
  show runF 5 2 (fb_L_same (FR_L_same fuel)) _ = _
  unfold fb_L_same
  simp [a_run, noOwnB, e0, e1, e2, e3, q, truD, dEq, numD]
theorem P_same (x : Int) : F_L_same [some (.val (.lst [.int x, .int x])), some (.val (.lst [.int x, .int x]))] = some (.val (.bl true), [some (.val (.lst [.int x, .int x])), some (.val (.lst [.int x, .int x]))]) := by
  have e0 : dIsi [.lst [.int x, .int x], .ty "dict"] = some (false, .bl false) := rfl
  have e1 := isiL_row [.int x, .int x]
  have e2 : dIsi [.lst [.int x, .int x], .ty "list"] = some (false, .bl true) := rfl
  have e3 : dIsi [.lst [.int x, .int x], .ty "tuple"] = some (false, .bl false) := rfl
  have e4 : dLen [.lst [.int x, .int x]] = some (false, .int 2) := rfl
  have bb : ∀ a b : Bool, dNe (.bl a) (.bl b) = some (false, .bl (!(a == b))) := fun a b => by
    unfold dNe eqQ
    rw [if_pos ⟨by show 0 ≤ 60; decide, rfl, rfl⟩, eqD]
    rfl
  have i := same_int 58 x
  have z : eLc (iZipD (eCons (eVar 0) (eOne (eVar 1)))) (gTupD 2 (gConsD (gPut 3) (gConsD (gPut 4) gNilD))) (eRet true) (eCallV (FR_L_same 59) (eCons (eVar 3) (eOne (eVar 4)))) [3, 4] [some (.val (.lst [.int x, .int x])), some (.val (.lst [.int x, .int x])), none, none, none] = some (.new (.lst [.bl true, .bl true]), [some (.val (.lst [.int x, .int x])), some (.val (.lst [.int x, .int x])), none, none, none]) := by
    have := eLc_xs (it := iZipD (eCons (eVar 0) (eOne (eVar 1)))) (g := gTupD 2 (gConsD (gPut 3) (gConsD (gPut 4) gNilD))) (t := eRet true) (f := eCallV (FR_L_same 59) (eCons (eVar 3) (eOne (eVar 4)))) (vs := [3, 4]) (env := [some (.val (.lst [.int x, .int x])), some (.val (.lst [.int x, .int x])), none, none, none]) (env1 := [some (.val (.lst [.int x, .int x])), some (.val (.lst [.int x, .int x])), none, none, none]) [(), ()] (fun _ => .tup [.int x, .int x]) (fun _ => .bl true) rfl rfl (by simp) (fun _ _ => ⟨[some (.val (.lst [.int x, .int x])), some (.val (.lst [.int x, .int x])), none, some (.val (.int x)), some (.val (.int x))], .val (.bl true), rfl, rfl, by simp [i], rfl, rfl⟩)
    exact this
  have al : dAll [.lst [.bl true, .bl true]] = some (false, .bl true) := rfl
  show runF 5 2 (fb_L_same (FR_L_same 59)) _ = _
  unfold fb_L_same
  generalize Dat.lst [.int x, .int x] = v at e0 e1 e2 e3 e4 z ⊢
  simp [a_run, noOwnB, e0, e1, e2, e3, bb, e4, z, truD, dEq, al]
end Prg
namespace Prg
open PySem PySem.Spec L2 DL
open PyProof.Rows hiding St
theorem hand_ok : F_L_by_hand_right [] = some (.val (.bl true), []) := by kernel_rfl
end Prg
/-! One turn of the law. -/
namespace Prg
open PySem PySem.Spec L2 DL
open PyProof.Rows hiding St
abbrev eE (d : Dat) (i : Int) (s2 s3 s4 s5 s6 s7 s8 s9 s10 s11 : Option Slot) : DL.Env := [some (.mtb d), some (.val (.int i)), s2, s3, s4, s5, s6, s7, s8, s9, s10, s11]
def rA0 : EM R := (eOpN dTuple (eOne (eCallM F_L_names (eCons (eVar 0) (eOne (eOp2 dAdd (eCon (.int 1)) (eCallM F_L_take (eCons (eVar 0) (eOne (eCon (.int 2)))))))))))
def rA1 : EM R := (eCallM F_L_names (eCons (eVar 0) (eOne (eCon (.int 3)))))
def rA : EM O := sAsgL 2 3 4 rA0 rA1
def kB : EM O := (sExp (eBind (hasL 4) fun _ => eApp 4 (eOne (eCallM F_L_kind (eCons (eVar 0) (eCons (eVar 2) (eCons (eVar 5) (eCons (eVar 3) (eCons (eCon (.int 1)) (eCons (eCon (.int 3)) (eOne (eCut (eLst (eCons (eCon (.int 0)) (eOne (eCon (.int 7))))) oNone (oInt (eCallM F_L_take (eCons (eVar 0) (eOne (eCon (.int 3))))))))))))))))))
def rB : EM O := (sFor (iAny (eCallM F_L_names (eCons (eVar 0) (eOne (eCon (.int 4)))))) (gPut 5) kB)
def rC : EM O := (sSet 6 (eTup (eCons (eVar 2) (eOne (eOpN dTuple (eOne (eVar 4)))))))
def rD : EM O := (sSet 7 (eCallM F_L_calls (eCons (eVar 0) (eCons (eVar 6) (eCons (eCallM F_L_pool (eOne (eVar 0))) (eOne (eCallM F_L_take (eCons (eVar 0) (eOne (eCon (.int 13)))))))))))
def rE0 : EM R := (eLc (iAny (eVar 7)) (gPut 9) (eRet true) (eTup (eCons (eVar 9) (eOne (eCallM F_L_of (eCons (eVar 0) (eOne (eVar 3))))))) [9])
def rE : EM O := (sSet 8 (eOpN dTuple (eOne rE0)))
def rF0 : EM R := (eMake "Book" F_Book_init (eCons (eVar 2) (eOne (eVar 4))))
def rF1 : EM R := (eCallV F_L_due (eCons (eVar 6) (eOne (eVar 8))))
def rF : EM O := (sPar 10 11 (eCons rF0 (eOne rF1)))
def rG : EM O := (eIf (tNo (eTruth (eCallV F_L_same (eCons (eLst (eCons (eCallV F_most_calls (eCons (eVar 10) (eOne (eVar 8)))) (eOne (eCallV F_most_calls (eSwap (eCons (eCallM F_L_mixed (eCons (eVar 0) (eOne (eVar 8)))) (eOne (eVar 10)))))))) (eOne (eLst (eCons (eVar 11) (eOne (eVar 11))))))))) (sRet (eCon (.bl false))) (eRet .nx))
def turnB : EM O := sSeq rA (sSeq rB (sSeq rC (sSeq rD (sSeq rE (sSeq rF rG)))))
theorem fb_right : fb_L_right = (sSeq (eIf (tNo (eTruth (eCall0 F_L_by_hand_right))) (sRet (eCon (.bl false))) (eRet .nx)) (sSeq (sFor (iRange (eOne (eCon (.int 4)))) (gPut 1) turnB) (sRet (eCon (.bl true))))) := rfl
structure Nms (ws : List Str) : Prop where
  nm : ∀ w ∈ ws, nameS w = true
  nd : ws.Nodup
theorem Nms.wk {ws : List Str} (h : Nms ws) : ∀ x ∈ ws.map Dat.str, okW 0 x := fun x hx => by
  obtain ⟨w, hw, rfl⟩ := List.mem_map.mp hx
  have := (name_len (h.nm w hw)).2
  show w.length ≤ 20
  omega
theorem D_nms {m : Nat} {d : Dat} (h : Bx m d) (hm : m ≤ 800000) {k : Nat} (hk : k ≤ 5) :
    ∃ (ws : List Str) (d' : Dat), F_L_names [some (.mtb d), some (.val (.int k))] = some (.new (.lst (ws.map .str)), [some (.mtb d'), some (.val (.int k))]) ∧ ws.length = k ∧ Nms ws ∧ Bx (m + 5 * k) d' := by
  obtain ⟨ws, d', e, hl, hn, hd, hb⟩ := D_names h (by omega) hk
  exact ⟨ws, d', e, hl, ⟨nms_name hn, hd⟩, hb⟩
theorem rA_ok {m : Nat} {d : Dat} {i : Int} (h : Bx m d) (hm : m ≤ 700000) {s2 s3 s4 s5 s6 s7 s8 s9 s10 s11 : Option Slot} (h2 : nm s2) (h3 : nm s3) (h4 : nm s4) :
    ∃ (F ws : List Str) (d' : Dat), rA (eE d i s2 s3 s4 s5 s6 s7 s8 s9 s10 s11) = some (.nx, eE d' i (some (.val (.tup (F.map .str)))) (some (.val (.lst (ws.map .str)))) (some (.own (.lst []))) s5 s6 s7 s8 s9 s10 s11) ∧ 1 ≤ F.length ∧ F.length ≤ 2 ∧ Nms F ∧ ws.length = 3 ∧ Nms ws ∧ Bx (m + 30) d' := by
  obtain ⟨y, d1, e1, hy0, hy1, hb1⟩ := D_take h (by omega) (n := 2) (by decide) (by decide)
  obtain ⟨F, d2, e2, hF, nF, hb2⟩ := D_nms hb1 (by omega) (k := 1 + y.toNat) (by omega)
  obtain ⟨ws, d3, e3, hw, nw, hb3⟩ := D_nms hb2 (by omega) (k := 3) (by omega)
  rw [show ((1 + y.toNat : Nat) : Int) = 1 + y by omega] at e2
  rw [show ((3 : Nat) : Int) = 3 from rfl] at e3
  refine ⟨F, ws, d3, ?_, by omega, by omega, nF, hw, nw, hb3.mono (by omega)⟩
  have f0 : rA0 (eE d i s2 s3 s4 s5 s6 s7 s8 s9 s10 s11) = some (.val (.tup (F.map .str)), eE d2 i s2 s3 s4 s5 s6 s7 s8 s9 s10 s11) := by
    unfold rA0
    generalize F.map Dat.str = fs at e2 ⊢
    simp [e1, e2, dAdd, dTuple]
  have f1 : rA1 (eE d2 i s2 s3 s4 s5 s6 s7 s8 s9 s10 s11) = some (.new (.lst (ws.map .str)), eE d3 i s2 s3 s4 s5 s6 s7 s8 s9 s10 s11) := by
    unfold rA1
    generalize ws.map Dat.str = fs at e3 ⊢
    simp [e3]
  unfold rA sAsgL
  rw [a_bind, f0, at_some, a_bind, f1, at_some]
  generalize ws.map Dat.str = fs
  generalize F.map Dat.str = gs
  simp [h2, h3, h4]
theorem kB_ok {m : Nat} {d : Dat} {i : Int} (h : Bx m d) (hm : m ≤ 800000) {F ws : List Str} {z : Str} {cs : List Dat} (hF1 : 1 ≤ F.length) (hF2 : F.length ≤ 2) (nF : Nms F) (hw : ws.length = 3) (nw : Nms ws) (hz : nameS z = true) (hcs : cs.length ≤ 10) {s6 s7 s8 s9 s10 s11 : Option Slot} :
    ∃ (k : KK) (d' : Dat), kB (eE d i (some (.val (.tup (F.map .str)))) (some (.val (.lst (ws.map .str)))) (some (.own (.lst cs))) (some (.val (.str z))) s6 s7 s8 s9 s10 s11) = some (.nx, eE d' i (some (.val (.tup (F.map .str)))) (some (.val (.lst (ws.map .str)))) (some (.own (.lst (cs ++ [k.d])))) (some (.val (.str z))) s6 s7 s8 s9 s10 s11) ∧ k.nm = z ∧ k.Ok F (ws.map .str) ∧ Bx (m + 5010) d' := by
  obtain ⟨y, d1, e1, hy0, hy1, hb1⟩ := D_take h (by omega) (n := 3) (by decide) (by decide)
  have hne : F.map Dat.str ≠ [] := by
    intro e
    rw [List.map_eq_nil_iff] at e
    rw [e] at hF1
    cases hF1
  have hwn : ws.map Dat.str ≠ [] := by
    intro e
    rw [List.map_eq_nil_iff] at e
    rw [e] at hw
    cases hw
  have hcut : ∃ ps : List Dat, dCut (.lst [.int 0, .int 7]) none (some y) = some (true, .lst ps) ∧ ps.length ≤ 5 ∧ ∀ x ∈ ps, ∃ i : Int, x = .int i := by
    have : y = 0 ∨ y = 1 ∨ y = 2 := by omega
    rcases this with q | q | q <;> subst q
    · exact ⟨[], rfl, by simp, by simp⟩
    · exact ⟨[.int 0], rfl, by simp, by simp⟩
    · refine ⟨[.int 0, .int 7], rfl, by simp, fun x hx => ?_⟩
      simp at hx
      rcases hx with rfl | rfl
      · exact ⟨0, rfl⟩
      · exact ⟨7, rfl⟩
  obtain ⟨ps, ec, hp1, hp2⟩ := hcut
  obtain ⟨pp, b, d2, e2, hpar, hval, hok, hb2⟩ := D_kind (nm := .str z) (F := F.map .str) (W := ws.map .str) (cs := ps) hne (by rw [List.length_map]; omega) nF.wk hwn (by rw [List.length_map]; omega) nw.wk hp1 hp2 hb1 (by omega)
  refine ⟨⟨z, pp, b⟩, d2, ?_, rfl, ⟨hz, hpar, hval, hok⟩, hb2.mono (by omega)⟩
  have hl : cs.length < 100000 := by omega
  simp only [eD, kA, List.map_cons, List.map_nil] at e2
  have kd : (KK.mk z pp b).d = .tup [.str z, .tup (pp.map .str), b.d] := rfl
  rw [kd]
  unfold kB
  generalize Dat.tup [.str z, .tup (pp.map .str), b.d] = kk at e2 ⊢
  generalize F.map Dat.str = fs at e2 ⊢
  generalize ws.map Dat.str = gs at e2 ⊢
  simp [e1, ec, e2, hl]
theorem rB_ok {m : Nat} {d : Dat} {i : Int} (h : Bx m d) (hm : m ≤ 700000) {F ws : List Str} (hF1 : 1 ≤ F.length) (hF2 : F.length ≤ 2) (nF : Nms F) (hw : ws.length = 3) (nw : Nms ws) {s5 s6 s7 s8 s9 s10 s11 : Option Slot} (h5 : nm s5) :
    ∃ (ks : List KK) (d' : Dat) (t5 : Option Slot), rB (eE d i (some (.val (.tup (F.map .str)))) (some (.val (.lst (ws.map .str)))) (some (.own (.lst []))) s5 s6 s7 s8 s9 s10 s11) = some (.nx, eE d' i (some (.val (.tup (F.map .str)))) (some (.val (.lst (ws.map .str)))) (some (.own (.lst (kds ks)))) t5 s6 s7 s8 s9 s10 s11) ∧ ks.length = 4 ∧ (∀ k ∈ ks, k.Ok F (ws.map .str)) ∧ (ks.map KK.nm).Nodup ∧ nm t5 ∧ Bx (m + 20100) d' := by
  obtain ⟨ns, d1, e1, hn, nn, hb1⟩ := D_nms h (by omega) (k := 4) (by omega)
  have hit : iAny (eCallM F_L_names (eCons (eVar 0) (eOne (eCon (.int 4))))) (eE d i (some (.val (.tup (F.map .str)))) (some (.val (.lst (ws.map .str)))) (some (.own (.lst []))) s5 s6 s7 s8 s9 s10 s11) = some (ns.map .str, eE d1 i (some (.val (.tup (F.map .str)))) (some (.val (.lst (ws.map .str)))) (some (.own (.lst []))) s5 s6 s7 s8 s9 s10 s11) := by
    rw [show ((4 : Nat) : Int) = 4 from rfl] at e1
    generalize ns.map Dat.str = js at e1 ⊢
    generalize F.map Dat.str = fs
    generalize ws.map Dat.str = gs
    simp [e1, itemsD]
  obtain ⟨e3, hloop, hI⟩ := loop_inv (g := gPut 5) (body := kB)
    (fun j env => ∃ (ks : List KK) (d' : Dat) (t5 : Option Slot), env = eE d' i (some (.val (.tup (F.map .str)))) (some (.val (.lst (ws.map .str)))) (some (.own (.lst (kds ks)))) t5 s6 s7 s8 s9 s10 s11 ∧ ks.map KK.nm = ns.take j ∧ (∀ k ∈ ks, k.Ok F (ws.map .str)) ∧ nm t5 ∧ Bx (m + 5 * 4 + 5010 * j) d' ∧ j ≤ 4)
    (ns.map .str) 0 _ ⟨[], d1, s5, rfl, by simp, by simp, h5, hb1, by omega⟩ (by
      rintro j x env hx ⟨ks, d', t5, rfl, hks, hok, h5, hB, hj⟩
      rw [Nat.zero_add] at hks hB ⊢
      rw [List.getElem?_map] at hx
      obtain ⟨z, hz, rfl⟩ := Option.map_eq_some_iff.mp hx
      have hjl : j < ns.length := (List.getElem?_eq_some_iff.mp hz).1
      have hp : gPut 5 (.str z) (eE d' i (some (.val (.tup (F.map .str)))) (some (.val (.lst (ws.map .str)))) (some (.own (.lst (kds ks)))) t5 s6 s7 s8 s9 s10 s11) = some ((), eE d' i (some (.val (.tup (F.map .str)))) (some (.val (.lst (ws.map .str)))) (some (.own (.lst (kds ks)))) (some (.val (.str z))) s6 s7 s8 s9 s10 s11) := by
        rw [a_put, if_pos ⟨by simp, h5⟩]
        rfl
      have hl : (kds ks).length ≤ 10 := by
        have := congrArg List.length hks
        rw [List.length_map, List.length_take] at this
        rw [List.length_map]
        omega
      obtain ⟨k, d2, e2, hk1, hk2, hb2⟩ := kB_ok hB (by omega) hF1 hF2 nF hw nw (nn.nm z (List.mem_of_getElem? hz)) hl (i := i) (s6 := s6) (s7 := s7) (s8 := s8) (s9 := s9) (s10 := s10) (s11 := s11)
      refine ⟨_, _, hp, e2, ks ++ [k], d2, some (.val (.str z)), ?_, ?_, ?_, rfl, hb2.mono (by omega), by omega⟩
      · show eE d2 i _ _ (some (.own (.lst (ks.map KK.d ++ [k.d])))) _ _ _ _ _ _ _ = eE d2 i _ _ (some (.own (.lst ((ks ++ [k]).map KK.d)))) _ _ _ _ _ _ _
        rw [List.map_append]
        rfl
      · rw [List.map_append, hks, List.take_succ, hz]
        show _ ++ [k.nm] = _ ++ [z]
        rw [hk1]
      · intro y hy
        rcases List.mem_append.mp hy with q | q
        · exact hok y q
        · rw [List.mem_singleton.mp q]
          exact hk2)
  obtain ⟨ks, d', t5, rfl, hks, hok, h5', hB, _⟩ := hI
  rw [List.length_map, Nat.zero_add, hn] at hB hks
  rw [List.take_of_length_le (by omega)] at hks
  refine ⟨ks, d', t5, ?_, ?_, hok, by rw [hks]; exact nn.nd, h5', hB.mono (by omega)⟩
  · unfold rB
    rw [a_sfor, hit, at_some]
    exact hloop
  · rw [← hn, ← hks, List.length_map]
end Prg
/-! One turn of the law, whole. -/
namespace Prg
open PySem PySem.Spec L2 DL
open PyProof.Rows hiding St
theorem nms_wsok {ws : List Str} (h : Nms ws) : WsOk (ws.map .str) where
  nm := fun w hw => by
    obtain ⟨z, hz, rfl⟩ := List.mem_map.mp hw
    exact h.nm z hz
  wk := h.wk
theorem ks_law {F ws : List Str} {ks : List KK} (hF2 : F.length ≤ 2) (nw : Nms ws) (hk : ks.length = 4) (hok : ∀ k ∈ ks, k.Ok F (ws.map .str)) (hnd : (ks.map KK.nm).Nodup) : KsLaw F (ws.map .str) ks where
  fl := by omega
  nd := hnd
  len := by omega
  wk := fun k h => (hok k h).wk
  sy := fun k h => kk_sy (nms_wsok nw) (hok k h)
  row := fun k h => kk_row (nms_wsok nw) (hok k h)
theorem rC_ok {d : Dat} {i : Int} {F : List Str} {W : Dat} {ks : List KK} {s5 s6 s7 s8 s9 s10 s11 : Option Slot} (h6 : nm s6) :
    rC (eE d i (some (.val (.tup (F.map .str)))) (some (.val W)) (some (.own (.lst (kds ks)))) s5 s6 s7 s8 s9 s10 s11) = some (.nx, eE d i (some (.val (.tup (F.map .str)))) (some (.val W)) (some (.own (.lst (kds ks)))) s5 (some (.val (bkT F ks))) s7 s8 s9 s10 s11) := by
  unfold rC bkT
  generalize F.map Dat.str = fs
  generalize kds ks = kk
  simp [dTuple, h6]
theorem rD_ok {m : Nat} {d : Dat} {i : Int} (h : Bx m d) (hm : m ≤ 700000) {F : List Str} {ks : List KK} (hk : ks.length = 4) (hp : ∀ k ∈ ks, k.ps.length ≤ 2) {s2 s3 s4 s5 s7 s8 s9 s10 s11 : Option Slot} (h7 : nm s7) :
    ∃ (vs : List Dat) (d' : Dat), rD (eE d i s2 s3 s4 s5 (some (.val (bkT F ks))) s7 s8 s9 s10 s11) = some (.nx, eE d' i s2 s3 s4 s5 (some (.val (bkT F ks))) (some (.val (.tup vs))) s8 s9 s10 s11) ∧ vs.length ≤ 12 ∧ (∀ v ∈ vs, isCl ks v) ∧ Bx (m + 50) d' := by
  obtain ⟨is, d1, e1, hi, hb1⟩ := D_pool h (by omega)
  obtain ⟨y, d2, e2, hy0, hy1, hb2⟩ := D_take hb1 (by omega) (n := 13) (by decide) (by decide)
  obtain ⟨vs, d3, e3, hv, hcl, hb3⟩ := D_calls hb2 (by omega) (F := F) (ks := ks) (by intro e; rw [e] at hk; cases hk) (by omega) hp hi (n := y.toNat) (by omega)
  rw [show ((y.toNat : Nat) : Int) = y by omega] at e3
  refine ⟨vs, d3, ?_, by omega, hcl, hb3.mono (by omega)⟩
  unfold rD
  generalize bkT F ks = B at e3 ⊢
  generalize is.map Dat.int = js at e1 e3
  simp [e1, e2, e3, h7]
theorem lines_of {ks : List KK} {ws : List Str} : ∀ {vs : List Dat}, (∀ v ∈ vs, ∃ l : LL, v = l.d ∧ l.Ok ks ∧ l.w ∈ ws) → ∃ ls : List LL, vs = ls.map LL.d ∧ (∀ l ∈ ls, l.Ok ks ∧ l.w ∈ ws)
  | [], _ => ⟨[], rfl, by simp⟩
  | v :: vs, h => by
    obtain ⟨l, rfl, h1, h2⟩ := h v (by simp)
    obtain ⟨ls, rfl, h3⟩ := lines_of (vs := vs) fun x hx => h x (by simp [hx])
    refine ⟨l :: ls, rfl, fun x hx => ?_⟩
    rcases List.mem_cons.mp hx with rfl | q
    · exact ⟨h1, h2⟩
    · exact h3 x q
theorem rE_ok {m : Nat} {d : Dat} {i : Int} (h : Bx m d) (hm : m ≤ 700000) {ws : List Str} {ks : List KK} (hw : ws.length = 3) (hp : ∀ k ∈ ks, k.ps.length ≤ 2) {vs : List Dat} (hv : vs.length ≤ 12) (hcl : ∀ v ∈ vs, isCl ks v) {s2 s4 s5 s6 s8 s10 s11 : Option Slot} (h8 : nm s8) :
    ∃ (ls : List LL) (d' : Dat), rE (eE d i s2 (some (.val (.lst (ws.map .str)))) s4 s5 s6 (some (.val (.tup vs))) s8 none s10 s11) = some (.nx, eE d' i s2 (some (.val (.lst (ws.map .str)))) s4 s5 s6 (some (.val (.tup vs))) (some (.val (lsD ls))) none s10 s11) ∧ ls.length ≤ 12 ∧ (∀ l ∈ ls, l.Ok ks ∧ l.w ∈ ws) ∧ Bx (m + 12) d' := by
  have hit : iAny (eVar 7) (eE d i s2 (some (.val (.lst (ws.map .str)))) s4 s5 s6 (some (.val (.tup vs))) s8 none s10 s11) = some (vs, eE d i s2 (some (.val (.lst (ws.map .str)))) s4 s5 s6 (some (.val (.tup vs))) s8 none s10 s11) := by
    generalize ws.map Dat.str = gs
    simp [itemsD]
  obtain ⟨us, d2, e2, hul, hP, hb2⟩ := eLc_draw (i := 8) (P := fun v => ∃ l : LL, v = l.d ∧ l.Ok ks ∧ l.w ∈ ws) (B := Bx) (k := 1) (M := 1000000) (f := eTup (eCons (eVar 9) (eOne (eCallM F_L_of (eCons (eVar 0) (eOne (eVar 3))))))) hit rfl h (by omega) (by omega) fun y m' d' hy hB hM => by
    obtain ⟨c, d3, e3, hc, hb3⟩ := D_ofL hB (by omega) (ds := ws.map .str) (by intro e; rw [List.map_eq_nil_iff] at e; rw [e] at hw; cases hw) (by rw [List.length_map]; omega)
    obtain ⟨w, hw', rfl⟩ := List.mem_map.mp hc
    obtain ⟨k, hk, as, rfl, ha⟩ := hcl y hy
    have hkl := hp k hk
    refine ⟨.val (.tup [cl k as, .str w]), .tup [cl k as, .str w], d3, ?_, rfl, ⟨⟨k, as, w⟩, rfl, ⟨hk, ha, by show as.length ≤ 2; omega⟩, hw'⟩, hb3⟩
    generalize cl k as = c
    generalize ws.map Dat.str = js at e3 ⊢
    simp [e3]
  obtain ⟨ls, rfl, hls⟩ := lines_of hP
  rw [List.length_map] at hul
  refine ⟨ls, d2, ?_, by omega, hls, hb2.mono (by omega)⟩
  have e2' : rE0 (eE d i s2 (some (.val (.lst (ws.map .str)))) s4 s5 s6 (some (.val (.tup vs))) s8 none s10 s11) = some (.new (.lst (ls.map LL.d)), eE d2 i s2 (some (.val (.lst (ws.map .str)))) s4 s5 s6 (some (.val (.tup vs))) s8 none s10 s11) := e2
  unfold rE
  generalize ws.map Dat.str = gs at e2' ⊢
  unfold lsD
  generalize ls.map LL.d = ld at e2' ⊢
  simp [e2', dTuple, h8]
theorem cl_W {ks : List KK} (hn : ∀ k ∈ ks, nameS k.nm = true) {l : LL} (h : l.Ok ks) : okW 1 l.call := by
  have h2 := h.sm
  refine ⟨by rw [List.length_cons, List.length_map]; omega, fun x hx => ?_⟩
  rcases List.mem_cons.mp hx with rfl | q
  · have := (name_len (hn _ h.mem)).2
    show l.k.nm.length ≤ 20
    omega
  · obtain ⟨j, _, rfl⟩ := List.mem_map.mp q
    trivial
theorem ll_W {ks : List KK} {ws : List Str} (hn : ∀ k ∈ ks, nameS k.nm = true) (nw : Nms ws) {l : LL} (h : l.Ok ks ∧ l.w ∈ ws) : okW 2 l.d := by
  refine ⟨by simp, fun x hx => ?_⟩
  simp at hx
  rcases hx with rfl | rfl
  · exact cl_W hn h.1
  · have := (name_len (nw.nm _ h.2)).2
    show l.w.length ≤ 20
    omega
theorem ls_W {ks : List KK} {ws : List Str} (hn : ∀ k ∈ ks, nameS k.nm = true) (nw : Nms ws) {ls : List LL} (hl : ls.length ≤ 12) (h : ∀ l ∈ ls, l.Ok ks ∧ l.w ∈ ws) : okW 3 (lsD ls) := by
  refine ⟨by rw [List.length_map]; omega, fun x hx => ?_⟩
  obtain ⟨l, hl', rfl⟩ := List.mem_map.mp hx
  exact ll_W hn nw (h l hl')
theorem sum_le {α : Type} (f : α → Nat) (k : Nat) : ∀ xs : List α, (∀ x ∈ xs, f x ≤ k) → (xs.map f).sum ≤ xs.length * k
  | [], _ => by simp
  | x :: xs, h => by
    have h1 := h x (by simp)
    have h2 := sum_le f k xs fun y hy => h y (by simp [hy])
    rw [List.map_cons, List.sum_cons,
        List.length_cons, Nat.succ_mul]
    omega
theorem szM_row (n k : Nat) (ds : List Dat) (h : ∀ d ∈ ds, szM n d ≤ k) : szM (n + 1) (.tup ds) ≤ ds.length * k + 1 := by
  have := sum_le (szM n) k ds h
  show (ds.map (szM n)).sum + 1 ≤ _
  omega
theorem szM_0 (d : Dat) : szM 0 d ≤ 1 := by
  show 1 ≤ 1
  exact Nat.le_refl 1
theorem szM_1 : ∀ d : Dat, (∀ ds, d ≠ .tup ds) → ∀ n, szM n d ≤ 1
  | d, h, 0 => szM_0 d
  | d, h, n + 1 => by cases d <;> first | exact Nat.le_refl 1 | exact absurd rfl (h _)
theorem ls_sz {ks : List KK} {ls : List LL} (hl : ls.length ≤ 12) (h : ∀ l ∈ ls, l.Ok ks) : szM 3 (lsD ls) ≤ 200 := by
  have : szM 3 (.tup (ls.map LL.d)) ≤ (ls.map LL.d).length * 9 + 1 := szM_row 2 9 (ls.map LL.d) fun d hd => by
    obtain ⟨l, hl', rfl⟩ := List.mem_map.mp hd
    have := szM_row 1 4 [l.call, .str l.w] fun d hd => by
      simp at hd
      rcases hd with rfl | rfl
      · have q : szM 1 (.tup (.str l.k.nm :: l.as.map .int)) ≤ (Dat.str l.k.nm :: l.as.map .int).length * 1 + 1 := szM_row 0 1 (.str l.k.nm :: l.as.map .int) fun d _ => szM_0 d
        rw [List.length_cons, List.length_map] at q
        have := (h l hl').sm
        show szM 1 (.tup (.str l.k.nm :: l.as.map .int)) ≤ 4
        omega
      · exact Nat.le_trans (szM_1 _ (by intro ds e; cases e) 1) (by decide)
    exact this
  rw [List.length_map] at this
  show szM 3 (.tup (ls.map LL.d)) ≤ 200
  omega
end Prg
/-! One turn of the law, whole. -/
namespace Prg
open PySem PySem.Spec L2 DL
open PyProof.Rows hiding St
theorem rF1_ok {d : Dat} {i x : Int} {B L : Dat} (q : F_L_due [some (.val B), some (.val L)] = some (.val (.int x), [some (.val B), some (.val L)])) {s2 s3 s4 s5 s7 s9 s10 s11 : Option Slot} :
    rF1 (eE d i s2 s3 s4 s5 (some (.val B)) s7 (some (.val L)) s9 s10 s11) = some (.val (.int x), eE d i s2 s3 s4 s5 (some (.val B)) s7 (some (.val L)) s9 s10 s11) := by
  unfold rF1
  simp [q]
theorem rF_put {d : Dat} {i x : Int} {b : Dat} {s2 s3 s4 s4' s5 s6 s7 s8 s9 s10 s11 : Option Slot} (h10 : nm s10) (h11 : nm s11)
    (f0 : rF0 (eE d i s2 s3 s4 s5 s6 s7 s8 s9 s10 s11) = some (.new b, eE d i s2 s3 s4' s5 s6 s7 s8 s9 s10 s11)) (f1 : rF1 (eE d i s2 s3 s4' s5 s6 s7 s8 s9 s10 s11) = some (.val (.int x), eE d i s2 s3 s4' s5 s6 s7 s8 s9 s10 s11)) :
    rF (eE d i s2 s3 s4 s5 s6 s7 s8 s9 s10 s11) = some (.nx, eE d i s2 s3 s4' s5 s6 s7 s8 s9 (some (.val b)) (some (.val (.int x)))) := by
  unfold rF
  rw [a_par, a_cons, f0, at_some, a_one, f1, at_some, at_some, at_some]
  simp [h10, h11]
theorem rF0_ok {d : Dat} {i : Int} {fs kk : List Dat} {s3 s5 s6 s7 s8 s9 s10 s11 : Option Slot} :
    (eCons (eVar 2) (eOne (eVar 4))) (eE d i (some (.val (.tup fs))) s3 (some (.own (.lst kk))) s5 s6 s7 s8 s9 s10 s11) = some ([.bor 2, .bor 4], eE d i (some (.val (.tup fs))) s3 (some (.own (.lst kk))) s5 s6 s7 s8 s9 s10 s11) ∧
    eForces [.bor 2, .bor 4] (eE d i (some (.val (.tup fs))) s3 (some (.own (.lst kk))) s5 s6 s7 s8 s9 s10 s11) = some ([.tup fs, .lst kk], eE d i (some (.val (.tup fs))) s3 (some (.val (.lst kk))) s5 s6 s7 s8 s9 s10 s11) := by
  constructor <;> simp
theorem rF_ok {d : Dat} {i : Int} {F ws : List Str} {ks : List KK} (hF1 : 1 ≤ F.length) (hF2 : F.length ≤ 2) (nF : Nms F) (nw : Nms ws) (hk : ks.length = 4) (hok : ∀ k ∈ ks, k.Ok F (ws.map .str)) (hnd : (ks.map KK.nm).Nodup) {ls : List LL} (hl : ls.length ≤ 12) (hls : ∀ l ∈ ls, l.Ok ks) {W : Dat} {s5 s7 s9 s10 s11 : Option Slot} (h10 : nm s10) (h11 : nm s11) :
    rF (eE d i (some (.val (.tup (F.map .str)))) (some (.val W)) (some (.own (.lst (kds ks)))) s5 (some (.val (bkT F ks))) s7 (some (.val (lsD ls))) s9 s10 s11) = some (.nx, eE d i (some (.val (.tup (F.map .str)))) (some (.val W)) (some (.val (.lst (kds ks)))) s5 (some (.val (bkT F ks))) s7 (some (.val (lsD ls))) s9 (some (.val (bkD F ks))) (some (.val (.int (mostL ls))))) := by
  exact rF_put h10 h11 (P_make (nms_wsok nw).nm hF1 hF2 nF.nm nF.nd hok (by omega) hnd rF0_ok.1 rF0_ok.2) (rF1_ok (P_due (ks_law hF2 nw hk hok hnd) hls (by omega)))
end Prg
/-! One turn of the law, whole. -/
namespace Prg
open PySem PySem.Spec L2 DL
open PyProof.Rows hiding St
theorem rG_run {d d1 v B L : Dat} {i x : Int} {r : R} (p1 : F_most_calls [some (.val B), some (.val L)] = some (.val (.int x), [some (.val B), some (.val L)])) (e1 : F_L_mixed [some (.mtb d), some (.val L)] = some (r, [some (.mtb d1), some (.val L)])) (hr : r = .val v ∨ r = .new v)
    (p2 : F_most_calls [some (.val B), some (.val v)] = some (.val (.int x), [some (.val B), some (.val v)])) (q : F_L_same [some (.val (.lst [.int x, .int x])), some (.val (.lst [.int x, .int x]))] = some (.val (.bl true), [some (.val (.lst [.int x, .int x])), some (.val (.lst [.int x, .int x]))])) {s2 s3 s4 s5 s6 s7 s9 : Option Slot} :
    rG (eE d i s2 s3 s4 s5 s6 s7 (some (.val L)) s9 (some (.val B)) (some (.val (.int x)))) = some (.nx, eE d1 i s2 s3 s4 s5 s6 s7 (some (.val L)) s9 (some (.val B)) (some (.val (.int x)))) := by
  unfold rG
  rcases hr with rfl | rfl <;> simp [p1, e1, swap2, p2, q, truD]
theorem rG_ok {m : Nat} {d : Dat} {i : Int} (h : Bx m d) (hm : m ≤ 700000) {F ws : List Str} {ks : List KK} (hF2 : F.length ≤ 2) (nw : Nms ws) (hk : ks.length = 4) (hok : ∀ k ∈ ks, k.Ok F (ws.map .str)) (hnd : (ks.map KK.nm).Nodup) {ls : List LL} (hl : ls.length ≤ 12) (hls : ∀ l ∈ ls, l.Ok ks ∧ l.w ∈ ws) {s2 s3 s4 s5 s6 s7 s9 : Option Slot} :
    ∃ d' : Dat, rG (eE d i s2 s3 s4 s5 s6 s7 (some (.val (lsD ls))) s9 (some (.val (bkD F ks))) (some (.val (.int (mostL ls))))) = some (.nx, eE d' i s2 s3 s4 s5 s6 s7 (some (.val (lsD ls))) s9 (some (.val (bkD F ks))) (some (.val (.int (mostL ls))))) ∧ Bx (m + 200) d' := by
  have K := (ks_law hF2 nw hk hok hnd).toKsOk
  have hW := ls_W (fun k hk => (hok k hk).nms) nw hl hls
  have h1 := fun l hl' => (hls l hl').1
  have hz := ls_sz hl h1
  have p1 := P_most K h1 (by omega) (n := 3) (by decide) hW.okM hW.tp
  obtain ⟨r, v, d1, e1, hr, tv, ov, hb⟩ := D_mixed 60 3 (lsD ls) m d (by decide) hW h (by omega)
  have p2 := P_most K h1 (by omega) (n := 3) (by decide) ov tv
  have q := P_same (mostL ls)
  exact ⟨d1, rG_run p1 e1 hr p2 q, hb.mono (by omega)⟩
end Prg
/-! The turns; the law's own answer. -/
namespace Prg
open PySem PySem.Spec L2 DL
open PyProof.Rows hiding St
abbrev eG (d : Dat) (s1 s2 s3 s4 s5 s6 s7 s8 s10 s11 : Option Slot) : DL.Env := [some (.mtb d), s1, s2, s3, s4, s5, s6, s7, s8, none, s10, s11]
theorem turn_ok {m : Nat} {d : Dat} {i : Int} (h : Bx m d) (hm : m ≤ 600000) {s2 s3 s4 s5 s6 s7 s8 s10 s11 : Option Slot} (h2 : nm s2) (h3 : nm s3) (h4 : nm s4) (h5 : nm s5) (h6 : nm s6) (h7 : nm s7) (h8 : nm s8) (h10 : nm s10) (h11 : nm s11) :
    ∃ (d' : Dat) (t2 t3 t4 t5 t6 t7 t8 t10 t11 : Option Slot), turnB (eE d i s2 s3 s4 s5 s6 s7 s8 none s10 s11) = some (.nx, eE d' i t2 t3 t4 t5 t6 t7 t8 none t10 t11) ∧ nm t2 ∧ nm t3 ∧ nm t4 ∧ nm t5 ∧ nm t6 ∧ nm t7 ∧ nm t8 ∧ nm t10 ∧ nm t11 ∧ Bx (m + 21000) d' := by
  obtain ⟨F, ws, d1, e1, hF1, hF2, nF, hw, nw, hb1⟩ := rA_ok h (by omega) (i := i) (s5 := s5) (s6 := s6) (s7 := s7) (s8 := s8) (s9 := none) (s10 := s10) (s11 := s11) h2 h3 h4
  obtain ⟨ks, d2, t5, e2, hk, hok, hnd, n5, hb2⟩ := rB_ok hb1 (by omega) (i := i) hF1 hF2 nF hw nw (s6 := s6) (s7 := s7) (s8 := s8) (s9 := none) (s10 := s10) (s11 := s11) h5
  have hp : ∀ k ∈ ks, k.ps.length ≤ 2 := fun k hk => (par_all' (hok k hk).par).1
  have e3 := rC_ok (d := d2) (i := i) (F := F) (W := .lst (ws.map .str)) (ks := ks) (s5 := t5) (s7 := s7) (s8 := s8) (s9 := none) (s10 := s10) (s11 := s11) h6
  obtain ⟨vs, d3, e4, hv, hcl, hb3⟩ := rD_ok hb2 (by omega) (i := i) (F := F) hk hp (s2 := some (.val (.tup (F.map .str)))) (s3 := some (.val (.lst (ws.map .str)))) (s4 := some (.own (.lst (kds ks)))) (s5 := t5) (s8 := s8) (s9 := none) (s10 := s10) (s11 := s11) h7
  obtain ⟨ls, d4, e5, hl, hls, hb4⟩ := rE_ok hb3 (by omega) (i := i) hw hp hv hcl (s2 := some (.val (.tup (F.map .str)))) (s4 := some (.own (.lst (kds ks)))) (s5 := t5) (s6 := some (.val (bkT F ks))) (s10 := s10) (s11 := s11) h8
  have e6 := rF_ok (d := d4) (i := i) hF1 hF2 nF nw hk hok hnd hl (fun l hl' => (hls l hl').1) (W := .lst (ws.map .str)) (s5 := t5) (s7 := some (.val (.tup vs))) (s9 := none) (s10 := s10) (s11 := s11) h10 h11
  obtain ⟨d5, e7, hb5⟩ := rG_ok hb4 (by omega) (i := i) hF2 nw hk hok hnd hl hls (s2 := some (.val (.tup (F.map .str)))) (s3 := some (.val (.lst (ws.map .str)))) (s4 := some (.val (.lst (kds ks)))) (s5 := t5) (s6 := some (.val (bkT F ks))) (s7 := some (.val (.tup vs))) (s9 := none)
  refine ⟨d5, some (.val (.tup (F.map .str))), some (.val (.lst (ws.map .str))), some (.val (.lst (kds ks))), t5, some (.val (bkT F ks)), some (.val (.tup vs)), some (.val (lsD ls)), some (.val (bkD F ks)), some (.val (.int (mostL ls))), ?_, rfl, rfl, rfl, n5, rfl, rfl, rfl, rfl, rfl, hb5.mono (by omega)⟩
  unfold turnB
  rw [seq_nx e1, seq_nx e2, seq_nx e3, seq_nx e4, seq_nx e5, seq_nx e6, e7]
theorem turns_ok {d : Dat} (h : Bx 0 d) : ∃ (d' : Dat) (r : DL.Env), sFor (iRange (eOne (eCon (.int 4)))) (gPut 1) turnB (eG d none none none none none none none none none none) = some (.nx, some (.mtb d') :: r) := by
  have hit : iRange (eOne (eCon (.int 4))) (eG d none none none none none none none none none none) = some (rngD 0 4, eG d none none none none none none none none none none) := rangeO_e 4 _ ⟨by decide, by decide⟩
  obtain ⟨e3, hloop, d', s1, s2, s3, s4, s5, s6, s7, s8, s10, s11, rfl, _⟩ := loop_inv (g := gPut 1) (body := turnB)
    (fun j env => ∃ (d : Dat) (s1 s2 s3 s4 s5 s6 s7 s8 s10 s11 : Option Slot), env = eG d s1 s2 s3 s4 s5 s6 s7 s8 s10 s11 ∧ nm s1 ∧ nm s2 ∧ nm s3 ∧ nm s4 ∧ nm s5 ∧ nm s6 ∧ nm s7 ∧ nm s8 ∧ nm s10 ∧ nm s11 ∧ Bx (21000 * j) d ∧ j ≤ 4)
    (rngD 0 4) 0 _ ⟨d, none, none, none, none, none, none, none, none, none, none, rfl, rfl, rfl, rfl, rfl, rfl, rfl, rfl, rfl, rfl, rfl, h, by decide⟩ (by
      rintro j x env hx ⟨d, s1, s2, s3, s4, s5, s6, s7, s8, s10, s11, rfl, h1, h2, h3, h4, h5, h6, h7, h8, h10, h11, hB, hj⟩
      obtain ⟨rfl, hj4⟩ := rngD_get hx
      rw [Nat.zero_add] at hB ⊢
      have hp : gPut 1 (.int (j : Int)) (eG d s1 s2 s3 s4 s5 s6 s7 s8 s10 s11) = some ((), eE d j s2 s3 s4 s5 s6 s7 s8 none s10 s11) := by
        rw [a_put, if_pos ⟨by simp, h1⟩]
        rfl
      obtain ⟨d', t2, t3, t4, t5, t6, t7, t8, t10, t11, e, n2, n3, n4, n5, n6, n7, n8, n10, n11, hb⟩ := turn_ok hB (by omega) (i := (j : Int)) h2 h3 h4 h5 h6 h7 h8 h10 h11
      exact ⟨_, _, hp, e, d', _, t2, t3, t4, t5, t6, t7, t8, t10, t11, rfl, rfl, n2, n3, n4, n5, n6, n7, n8, n10, n11, hb.mono (by omega), by omega⟩)
  exact ⟨d', _, by rw [a_sfor, hit, at_some]; exact hloop⟩
theorem right_ok {d : Dat} (h : Bx 0 d) : ∃ d', F_L_right [some (.mtb d)] = some (.val (.bl true), [some (.mtb d')]) := by
  obtain ⟨d', r, e⟩ := turns_ok h
  refine ⟨d', ?_⟩
  show runF 12 1 fb_L_right _ = _
  rw [a_run, if_pos ⟨rfl, rfl⟩]
  have hand : (tNo (eTruth (eCall0 F_L_by_hand_right))) (eG d none none none none none none none none none none) = some (false, eG d none none none none none none none none none none) := by
    have : eCall0 F_L_by_hand_right (eG d none none none none none none none none none none) = some (.val (.bl true), eG d none none none none none none none none none none) := by
      unfold eCall0
      rw [hand_ok]
    rw [a_tno, a_truth, this]
    rfl
  have last : ∀ e : DL.Env, sRet (eCon (.bl true)) e = some (.rt (.val (.bl true)), e) := fun e => by rw [a_sret, a_con, at_some]
  have eb : fb_L_right (eG d none none none none none none none none none none) = some (.rt (.val (.bl true)), some (.mtb d') :: r) := by
    rw [fb_right]
    exact (seq_nx ((if_f hand).trans rfl)).trans ((seq_nx e).trans (last _))
  show andThen (fb_L_right (eG d none none none none none none none none none none)) _ = _
  rw [eb, at_some]
  rfl
theorem box_run {ns : List Int} {k : Nat} {c A G P M X B : Int} {g : Bool} (hk : k < ns.length) (hix : dIx (.lst (ns.map .int)) (.int k) = some (false, .int c)) (h1 : dAbs [.int c] = some (false, .int A)) (h2 : dPow (.int 10) (.int 18) = some (false, .int P)) (h3 : dGe (.int A) (.int P) = some (false, .bl g))
    (h4 : dInt [.bl g] = some (false, .int G)) (h5 : dMul (.int A) (.int G) = some (false, .int B)) (h6 : dMod (.int c) (.int 2305843009213693951) = some (false, .int M)) (h7 : dMul (.int 39373) (.int k) = some (false, .int X)) :
    F_L_box [some (.val (.lst (ns.map .int))), some (.val (.int k))] = some (.new (.lst [.int B, .int (M + X + 58523), .int 0]), [some (.val (.lst (ns.map .int))), some (.val (.int k))]) := by
  have hlt : (k : Int) < (ns.length : Int) := by omega
  have i1 : dInt [.int c] = some (false, .int c) := rfl
  have ad : ∀ i j : Int, dAdd (.int i) (.int j) = some (false, .int (i + j)) := fun _ _ => rfl
  show runF 3 2 fb_L_box _ = _
  unfold fb_L_box
  simp [a_run, noOwnB, dLen, dLt, hlt, hk, hix, h1, h2, h3, h4, h5, h6, h7, i1, ad]
theorem g01 : ∀ g : Bool, (-(2 ^ 64) : Int) < (if g = true then 1 else 0) ∧ (if g = true then (1 : Int) else 0) < 2 ^ 64 := by decide
theorem box_ok {ns : List Int} {k : Nat} (hk : k < ns.length) (hl : ns.length ≤ 100) : ∃ d, F_L_box [some (.val (.lst (ns.map .int))), some (.val (.int k))] = some (.new d, [some (.val (.lst (ns.map .int))), some (.val (.int k))]) ∧ Bx 0 d := by
  have hix : dIx (.lst (ns.map .int)) (.int k) = some (false, .int ns[k]) := by
    simp [dIx, atI, ixN, hk]
  refine ⟨_, box_run hk hix rfl (P := 10 ^ (18 : Int).toNat) rfl rfl rfl (dMul_i (.inr ?_)) (M := ns[k] % 2305843009213693951) rfl (dMul_i (.inl ⟨by decide, by decide⟩)), _, _, _, rfl, by decide, by decide⟩
  exact g01 _
end Prg
/-! The law answers True. -/
namespace Prg
open PySem PySem.Spec L2 DL
open PyProof.Rows hiding St
def oneE : EM DL.R := (eCallM F_L_right (eOne (eCallV F_L_box (eCons (eVar 1) (eOne (eVar 2))))))
def compE : EM DL.R := eLc (iRange (eOne (eOpN dLen (eOne (eVar 1))))) (gPut 2) (eRet true) oneE [2]
def tailE : EM DL.O := sRet (eOpN dAll (eOne compE))
theorem one_ok {x0 : Option Slot} {A : List Int} (hA : A.length ≤ 100) {k : Nat} (hk : k < A.length) {s1 : Slot} (h1 : s1 = .own (.lst (A.map .int)) ∨ s1 = .val (.lst (A.map .int))) :
    oneE [x0, some s1, some (.val (.int k))] = some (.val (.bl true), [x0, some (.val (.lst (A.map .int))), some (.val (.int k))]) := by
  obtain ⟨d, e1, hb⟩ := box_ok hk hA
  obtain ⟨d', e2⟩ := right_ok hb
  unfold oneE
  rcases h1 with rfl | rfl <;> simp [e1, e2]
theorem law_loop {x0 : Option Slot} {A : List Int} (hA : A.length ≤ 100) : ∀ (ds acc : List Dat) (s1 : Slot), (∀ x ∈ ds, ∃ k : Nat, k < A.length ∧ x = .int k) → (s1 = .own (.lst (A.map .int)) ∨ s1 = .val (.lst (A.map .int))) → acc.length + ds.length ≤ 1000 →
    ∃ s1', loopC (gPut 2) (eRet true) oneE [2] ds acc [x0, some s1, none] = some (acc ++ ds.map (fun _ => Dat.bl true), [x0, s1', none])
  | [], acc, s1, _, _, _ => ⟨some s1, by show some (acc, _) = _; simp⟩
  | x :: ds, acc, s1, hx, h1, hl => by
    obtain ⟨k, hk, rfl⟩ := hx x (by simp)
    obtain ⟨s1', ih⟩ := law_loop hA ds (acc ++ [Dat.bl true]) (.val (.lst (A.map .int))) (fun y hy => hx y (by simp [hy])) (.inr rfl) (by simp at hl ⊢; omega)
    refine ⟨s1', ?_⟩
    have hp : gPut 2 (.int (k : Int)) [x0, some s1, none] = some ((), [x0, some s1, some (.val (.int (k : Int)))]) := rfl
    have hw : eWipe [2] [x0, some (.val (.lst (A.map .int))), some (.val (.int (k : Int)))] = some ((), [x0, some (.val (.lst (A.map .int))), none]) := rfl
    have ha : acc.length < 100000 := by simp at hl; omega
    show eBind (gPut 2 (.int (k : Int))) _ _ = _
    rw [a_bind, hp, at_some, a_bind, a_ret, at_some, if_pos rfl, a_bind, one_ok hA hk h1, at_some, a_bind, f_val, at_some, a_bind, hw, at_some, if_pos ha, ih, List.append_assoc]
    rfl
theorem tail_ok {x0 : Option Slot} {A : List Int} (hA : A.length ≤ 100) : ∃ s1', tailE [x0, some (.own (.lst (A.map .int))), none] = some (.rt (.val (.bl true)), [x0, s1', none]) := by
  have hr : iRange (eOne (eOpN dLen (eOne (eVar 1)))) [x0, some (.own (.lst (A.map .int))), none] = some (rngD 0 A.length, [x0, some (.own (.lst (A.map .int))), none]) := by
    have hlen : eOpN dLen (eOne (eVar 1)) [x0, some (.own (.lst (A.map .int))), none] = some (.val (.int A.length), [x0, some (.own (.lst (A.map .int))), none]) := by simp [dLen]
    rw [a_irange, a_one, hlen, at_some, at_some, ls_cons, a_look, l_val, we_some, at_some, ls_nil, at_some, at_some]
    have := rangeO_e (A.length : Int) [x0, some (.own (.lst (A.map .int))), none] (by constructor <;> omega)
    rw [show (A.length : Int).toNat = A.length by omega] at this
    exact this
  have hrl : (rngD 0 A.length).length = A.length := by simp [rngD]
  obtain ⟨s1', el⟩ := law_loop (x0 := x0) (A := A) (by omega) (rngD 0 A.length) [] (.own (.lst (A.map .int))) (fun x hx => by
    obtain ⟨i, hi⟩ :=
        List.mem_iff_getElem?.mp hx
    obtain ⟨rfl, hi2⟩ := rngD_get hi
    exact ⟨i, hi2, rfl⟩) (.inl rfl) (by rw [hrl]; simp; omega)
  have ec : compE [x0, some (.own (.lst (A.map .int))), none] = some (.new (.lst ((rngD 0 A.length).map fun _ => Dat.bl true)), [x0, s1', none]) := by
    unfold compE eLc
    rw [a_bind, hr, at_some, if_pos (show freeAt [2] [x0, some (Slot.own (.lst (A.map .int))), none] = true from rfl), a_bind, el, at_some]
    rfl
  have hall := all_map (fun _ => true) (rngD 0 A.length)
  rw [List.all_eq_true.mpr (fun _ _ => rfl)] at hall
  refine ⟨s1', ?_⟩
  unfold tailE
  rw [a_sret, a_opN, a_one, ec, at_some, at_some, ls_cons, a_look, l_new, we_some, at_some, ls_nil, at_some, at_some, hall]
  rfl
end Prg
/-! The cells of the script by hand (the script is the caller's), then the law. -/
namespace Prg
open PySem PySem.Spec L2
open PyProof.Rows hiding St
namespace Cl
/-- a loop over enumerate(a list) -/
theorem for_enum {K : PySem.W.Frag} {a : Addr} {xs : List V} {g : TG} {tb : TS} {D : Ends} {σ : L2.St} {H : Hp} (Pv : Nat → L2.St → Hp → Prop) (h0 : Pv 0 σ H) (hl : ∀ i σ H, i ≤ xs.length → Pv i σ H → SqL K H a xs)
    (hs : ∀ i x T σ H, xs[i]? = some x → Pv i σ H → H T = none → g (.ref T) σ (upd H T (.tup [.int (i : Nat), x])) fun σ2 H2 => tb { D with nx := Pv (i + 1), ct := Pv (i + 1), bk := D.nx } σ2 H2) (hd : ∀ σ H, Pv xs.length σ H → D.nx σ H) :
    ∃ W : Nat → Nat → L2.St → Hp → Prop,
        (∃ m, W 0 m σ H) ∧ ∀ i m σ H, W i m σ H →
      ((Ite K a).stop i H ∧ D.nx σ H) ∨ ((Ite K a).go i H ∧ ∃ N : L2.St → Hp → Prop, (∀ σ' H', N σ' H' → ∃ m', m' < m ∧ W (i + 1) m' σ' H') ∧ ∀ x H', (Ite K a).yld i H x H' → g x σ H' fun σ2 H2 => tb { D with nx := N, ct := N, bk := D.nx } σ2 H2) := by
  refine ⟨fun i m σ H => m = xs.length - i ∧ i ≤ xs.length ∧ Pv i σ H,
      ⟨xs.length, by simp, Nat.zero_le _, h0⟩, ?_⟩
  rintro i m σ H ⟨rfl, hi, p⟩
  have q := hl i σ H hi p
  by_cases hlt : i < xs.length
  · refine .inr ⟨⟨xs, xs[i], q,
        by simp [hlt]⟩, Pv (i + 1), fun σ' H' p' => ⟨xs.length - (i + 1), by omega, rfl, hlt, p'⟩, fun x H' y => ?_⟩
    obtain ⟨T, z, rfl, hT, rfl, y⟩ := y
    exact hs i z T σ H (y xs q) p hT
  · have e : i = xs.length :=
        by omega
    subst e
    exact .inl ⟨⟨xs, q,
        Nat.le_refl _⟩, hd σ H p⟩
def spCells (K : PySem.W.Frag) : Sp := fun vs H Q _ => ∃ (a : Addr) (ns : List Int) (m : Nat), vs = [.ref a, .int (m : Int)] ∧ SqL K H a (ns.map V.int) ∧ ns.length ≤ 63 ∧ 0 < m ∧ m ≤ 10 ∧
  ∀ (l : Addr) (cs : List Int) (H' : Hp), cs.length ≤ m → H l = none → H' l = some (.lst (cs.map V.int)) → Same H H' → Q (.ref l) H'
/-- what follows the first row of _law_cells -/
def tCR (K : PySem.W.Frag) : TS := tSeq (tFor (iEnum K (tCons (tSl (rSlL K) (tVar 0) (tPart (tVar 1)) (tPart (L2.tC (.int 63)))) tNil)) (gTup K 2 (gCons (gName 3) (gCons (gName 4) gNil)))
  (tSeq (tAsg (tOp (rI (fun _ j => 0 < j) fun i j => .int (i % j)) (tCB (fun xs H Q => (∃ i, xs = [.int i] ∧ Q (.int i) H) ∨ ∃ k, xs = [.bl k] ∧ Q (.int (if k = true then 1 else 0)) H) (tCons (tVar 3) tNil)) (tVar 1)) (gName 5))
    (tAsg (tOp (rI0 fun i j => .int (i + j)) (tOp (rIxL K) (tVar 2) (tVar 5)) (tOp (rI CMul fun i j => .int (i * j)) (tVar 4) (tOp (rI0 fun i j => .int (i + j)) (tVar 3) (L2.tC (.int 2))))) (gSub (tVar 2) (tVar 5) rSetL)))) (tRet (tVar 2))
theorem cut_first (ns : List Int) (m : Nat) : ∃ cs : List Int, cutV (ns.map V.int) none (some (m : Int)) = cs.map V.int ∧ cs.length ≤ m ∧ (m < ns.length → cs.length = m) ∧ (0 < m → cs = [] → ns = []) := by
  refine ⟨ns.take (min m ns.length), ?_, ?_, fun h => ?_, fun h e => ?_⟩
  · unfold cutV
    rw [HT.sIx_nat, HT.sIx_none, List.drop_zero, Nat.sub_zero, List.length_map, List.map_take]
  · rw [List.length_take]
    omega
  · rw [List.length_take]
    omega
  · have z : (ns.take (min m ns.length)).length = 0 := by rw [e]; rfl
    rw [List.length_take] at z
    exact List.eq_nil_of_length_eq_zero (by omega)
theorem cut_rest (ns : List Int) (m : Nat) : ∃ zs : List Int, cutV (ns.map V.int) (some (m : Int)) (some (63 : Int)) = zs.map V.int ∧ (zs ≠ [] → m < ns.length) ∧ zs.length ≤ ns.length := by
  have h63 : (63 : Int) = ((63 : Nat) : Int) := rfl
  refine ⟨(ns.drop (min m ns.length)).take (min 63 ns.length - min m ns.length), ?_, fun h => ?_, ?_⟩
  · unfold cutV
    rw [h63, HT.sIx_nat, HT.sIx_nat, List.length_map, List.map_take, List.map_drop]
  · by_cases q : m < ns.length
    · exact q
    · exfalso
      apply h
      apply
          List.eq_nil_of_length_eq_zero
      rw [List.length_take,
          List.length_drop]
      omega
  · rw [List.length_take, List.length_drop]
    omega
theorem Same.upd {q : Addr} {H H' : Hp} {o : HO} (h : Same H H') (hq : H' q = none) : Same H (L2.upd H' q o) := fun b u e => by
  have z := h b u e
  rw [upd_ne (ne_of_none z hq)]
  exact z
theorem Same.put {q : Addr} {H H' : Hp} {o : HO} (h : Same H H') (hq : H q = none) : Same H (L2.upd H' q o) := fun b u e => by
  rw [upd_ne (ne_of_none e hq)]
  exact h b u e
section
variable {P : Program} {w : World} {K : PySem.W.Frag}
    {mg : Str → Option Value} {base : Heap}
theorem ok_cells {f : Addr} {fd : FuncData} (F : FnP K "_law_cells" s_L_cells f fd) (mInt : mg "int" = none) (mList : mg "list" = none) (mEnum : mg "enumerate" = none) : FnOk P w K mg base CX0 1 f fd ["_law_script", "_law_most_so"] (spCells K) := by
  refine F.ok sc_L_cells (fun vs H Q E h => ?_) (fun cdv A outer s H vs Q E hr h => ?_)
  · obtain ⟨a, ns, m, rfl, _⟩ := h
    rfl
  · obtain ⟨a, ns, m, rfl, hS, hl, hm0, hm, k⟩ := h
    refine ⟨_, PSs.nox (pss_cons (ps_set (i := 2) sc_L_cells.nd rfl (.inl rfl) (pe_orT (pe_callTy call_list_of (by rfl) mList (by decide +kernel) (pa_cons (pe_slice sl_list (pv 0) po_none (po_some (pv 1))) pa_nil)) (pe_one (pe_lst (pa_cons pe_int pa_nil)))))
      (pss_cons (ps_for PassesOwn.never rfl (pi_enum (by rfl) mEnum (pa_cons (pe_slice sl_list (pv 0) (po_some (pv 1)) (po_some pe_int)) pa_nil)) (pg_tup rfl (pgs_cons (pg_name (i := 3) sc_L_cells.nd rfl (.inl rfl)) (pgs_cons (pg_name (i := 4) sc_L_cells.nd rfl (.inl rfl)) pgs_nil)))
        (pss_cons (ps_set (i := 5) sc_L_cells.nd rfl (.inl rfl) (pe_op op_mod (pe_callTy call_int1 (by rfl) mInt (by decide +kernel) (pa_cons (pv 3) pa_nil)) (pv 1)))
        (pss_one (ps_asg (pe_op op_add (pe_ix ix_list (pv 2) (pv 5) (fun _ _ => rfl)) (pe_op op_mul (pv 4) (pe_op op_add (pv 3) pe_int))) (pg_sub (pv 2) (pv 5) set_list)))))
      (pss_one (ps_ret (pv 2))))), ?_⟩
    obtain ⟨cs1, ec1, lc1, fc1, z1⟩ := cut_first ns m
    obtain ⟨zs, ez, fz, lz⟩ := cut_rest ns m
    refine ⟨_, rfl, _, rfl, _, rfl, a, _, rfl, hS, fun p1 hp1 => ?_⟩
    refine ⟨p1, _, rfl, .inl (SqL.of upd_same), fun l1 hl1 => ?_⟩
    have s1 : Same H (L2.upd H p1 (.lst (cutV (ns.map V.int) none (some (m : Int))))) := Same.upd (Same.refl H) hp1
    have s2 : Same H (L2.upd (L2.upd H p1 (.lst (cutV (ns.map V.int) none (some (m : Int))))) l1 (.lst (cutV (ns.map V.int) none (some (m : Int))))) := Same.upd s1 hl1
    have f1 : H l1 = none := s1.free hl1
    refine ⟨_, .inl ⟨_, SqL.of upd_same, rfl⟩, ?_⟩
    have rest : ∀ (l : Addr) (cs : List Int) (H1 : Hp), cs.length ≤ m → (m < ns.length → cs.length = m) → H l = none → H1 l = some (.lst (cs.map V.int)) → Same H H1 →
        tCR K { nx := fun _ H' => Q .non H', rt := Q } [some (.ref a), some (.int (m : Int)), some (.ref l), none, none, none] H1 := by
      intro l cs H1 hc hf fl hl1 sm
      refine ⟨_, rfl, _, rfl, _, rfl, _, rfl, a, _, rfl, sm.seq hS, fun p3 hp3 => ⟨p3, _, rfl, SqL.of upd_same, ?_⟩⟩
      rw [ez]
      have n3l : p3 ≠ l := fun e => by
        rw [e, hl1] at hp3
        cases hp3
      refine for_enum (xs := zs.map V.int) (fun i σ H2 => ∃ (cs2 : List Int) (o1 o2 o3 : Option V), σ = [some (.ref a), some (.int (m : Int)), some (.ref l), o1, o2, o3] ∧ cs2.length = cs.length ∧ H2 l = some (.lst (cs2.map V.int)) ∧ H2 p3 = some (.lst (zs.map V.int)) ∧ Same H H2) ?_ ?_ ?_ ?_
      · exact ⟨cs, none, none, none, rfl, rfl, by rw [upd_ne (Ne.symm n3l)]; exact hl1, upd_same, Same.upd sm hp3⟩
      · rintro i σ H2 hi ⟨cs2, o1, o2, o3, rfl, e2, hl2, hp2, s2'⟩
        exact SqL.of hp2
      · rintro i x T σ H2 hx ⟨cs2, o1, o2, o3, rfl, e2, hl2, hp2, s2'⟩ hT
        have hi : i < zs.length := by
          have := (List.getElem?_eq_some_iff.mp hx).1
          rw [List.length_map] at this
          exact this
        obtain ⟨zv, rfl⟩ : ∃ zv : Int, x = .int zv := by
          rw [List.getElem?_map, List.getElem?_eq_getElem hi] at hx
          exact ⟨_, (Option.some.inj hx).symm⟩
        have hm' : cs2.length = m := by
          rw [e2]
          exact hf (fz fun e => by rw [e] at hi; exact absurd hi (Nat.not_lt_zero _))
        have nTl : T ≠ l := fun e => by
          rw [e, hl2] at hT
          cases hT
        have nT3 : T ≠ p3 := fun e => by
          rw [e, hp2] at hT
          cases hT
        refine ⟨T, _, rfl, SqT.of upd_same, rfl, _, _, rfl, _, _, rfl, rfl, ?_⟩
        have hl3 : (L2.upd H2 T (.tup [.int (i : Nat), .int zv])) l = some (.lst (cs2.map V.int)) := by
          rw [upd_ne (Ne.symm nTl)]
          exact hl2
        refine ⟨_, rfl, .inl ⟨_, rfl, _, rfl, _, _, rfl, rfl, (by show (0 : Int) < (m : Int); omega), ?_⟩⟩
        have hj : i % m < cs2.length := by
          rw [hm']
          exact Nat.mod_lt _ hm0
        have ej : ((i : Int) % (m : Int)) = ((i % m : Nat) : Int) := by omega
        have hat : atI (cs2.map V.int) ((i : Int) % (m : Int)) = some (.int cs2[i % m]) := by
          rw [ej]
          exact atI_nat (by rw [List.getElem?_map, List.getElem?_eq_getElem hj]; rfl)
        have hix : ixN (cs2.map V.int).length ((i : Int) % (m : Int)) = some (i % m) := by
          unfold ixN
          rw [ej, List.length_map, if_pos (by omega), if_pos (by omega)]
          exact congrArg some (Int.toNat_natCast _)
        refine ⟨_, rfl, _, rfl, l, _, _, _, rfl, rfl, SqL.of hl3, hat, _, rfl, _, rfl, _, _, rfl, rfl, _, _, rfl, rfl, .inr ⟨by omega, by omega⟩, _, _, rfl, rfl, _, rfl, _, rfl, l, _, _, i % m, rfl, rfl, hl3, hix, ?_⟩
        refine ⟨cs2.set (i % m) (cs2[i % m] + zv * ((i : Int) + 2)), _, _, _, rfl, by rw [List.length_set]; exact e2, by rw [upd_same, List.map_set], by rw [upd_ne (Ne.symm n3l).symm, upd_ne (Ne.symm nT3)]; exact hp2, ?_⟩
        exact Same.put (Same.upd s2' hT) fl
      · rintro σ H2 ⟨cs2, o1, o2, o3, rfl, e2, hl2, hp2, s2'⟩
        exact ⟨_, rfl, k l cs2 H2 (by omega) fl hl2 s2'⟩
    refine ite2 (fun c =>
        ?_) (fun c => ?_)
    · exact rest l1 cs1 _ lc1 fc1 f1 (by rw [upd_same, ec1]) s2
    · have en : ns = [] := by
        rw [ec1] at c
        refine z1 hm0 ?_
        cases cs1 with
        | nil => rfl
        | cons z r => exact absurd rfl c
      refine ⟨by show 1 ≤ sizeLine; decide, fun l2 hl2 => ?_⟩
      exact rest l2 [0] _ (by show 1 ≤ m; omega) (fun h => by rw [en] at h; exact absurd h (Nat.not_lt_zero _)) (s2.free hl2) upd_same (Same.upd s2 hl2)
end
/-! ### the law -/
open DL
section
variable {P : Program} {w : World} {K : PySem.W.Frag}
    {mg : Str → Option Value} {base : Heap}
def spLaw (K : PySem.W.Frag) : Sp := fun vs H Q _ => ∃ (a : Addr) (ns : List Int),
    vs = [.ref a] ∧ SqL K H a (ns.map V.int) ∧ ns.length ≤ 63 ∧ ∀ H', Q (.bl true) H'
theorem ints_ds {p : Addr → Prop} {H : Hp} : ∀ cs : List Int, IsDs mg p H (cs.map Dat.int) (cs.map V.int)
  | [] => .nil
  | c :: cs => .cons .int (ints_ds cs)
theorem rel_tail {a l : Addr} {cs : List Int} {H : Hp} (h : H l = some (.lst (cs.map V.int))) : Rel mg (fun _ => False) [none, some (.own (.lst (cs.map .int))), none] [some (.ref a), some (.ref l), none] H where
  len := rfl
  val := fun i d e => by
    rcases i with _ | _ | _ | i <;> simp at e
  wr := fun i s e ws => by
    rcases i with _ | _ | _ | i <;> simp at e
    subst e
    exact ⟨l, rfl, fun z => z, _, h, ints_ds cs⟩
  inj := fun i j s t b e _ f _ _ _ => by
    rcases i with _ | _ | _ | i <;> simp at e
    rcases j with _ | _ | _ | j <;> simp at f
    rfl
  qin := fun _ z => z.elim
theorem ok_lawH {fC f : Addr} {fdC fd : FuncData} (FC : FnP K "_law_cells" s_L_cells fC fdC) (mC : mg "_law_cells" = some (.ref fC)) (G_L_right : Fnk P w K mg base "_law_right" 71 1 F_L_right) (G_L_box : Fnk P w K mg base "_law_box" 1 2 F_L_box) (M : MgB mg) (F : FnP K "law" s_law f fd) : FnOk P w K mg base CX0 72 f fd ["_law_script"] (spLaw K) := by
  have GC := ok_cells (P := P) (w := w) (base := base) FC M.int M.list M.enumerate
  have bC : Binds K fdC ["_law_script", "_law_most_so"] [] := FC.bindsN fun _ _ _ _ _ _ us hl => match us, hl with | [_, _], _ => rfl
  refine F.ok sc_law (fun vs H Q _ h => ?_) (fun cdv A outer s H vs Q _ hr h => ?_)
  · obtain ⟨a, ns, rfl, _⟩ := h
    rfl
  · obtain ⟨a, ns, rfl, hS, hl, k⟩ := h
    have hr1 : Room 1 _ :=
        hr.mono (by decide)
    refine ⟨_, PSs.nox (pss_cons (ps_set (i := 1) sc_law.nd rfl (Or.inr rfl) (pe_call GC hr1 rfl mC FC.kp bC .nil pass0 (pa_cons (pv 0) (pa_cons pe_int pa_nil))))
      ((ds_one (ds_ret (dB (r_all rfl) M.all (dl (d_lc (own := [("_law_k", 2)]) rfl sc_law.nd (di_range rfl M.range (dl (dB r_len M.len (dl (dv 1)) (hv := bt_len)))) (blkOk_by (own := [("_law_k", 2)]) (N := ["_law_script", "_law_cells_here", "_law_k"]) (sc := defScope s_law) (by decide +kernel)) (by decide) (fun _ _ _ _ _ => (dg_name (i := 2) sc_law.nd rfl (by first | exact Or.inl rfl | exact Or.inr rfl) (by first | exact Or.inl rfl | exact Or.inr rfl))) (fun _ _ _ _ _ => dts_nil) (fun _ _ _ _ _ => (dcallM G_L_right hr (dl (dcall G_L_box hr (dc (dv 1) (dl (dv 2))))))))) (hv := bt_all)))))), ?_⟩
    refine ⟨_, rfl, a, ns, 3, rfl, hS, hl, by decide, by decide, fun l cs H1 hc hl1 h1 s1 => ?_⟩
    obtain ⟨s1', et⟩ := tail_ok (x0 := none) (A := cs) (by omega)
    exact ⟨_, _, _, _, rel_tail h1, et, fun v σ' H' _ _ i1 => by
      cases i1
      exact k H'⟩
end
end Cl
end Prg
/-! The end. -/
namespace Prg
open PySem PySem.Spec L2 DL
open PyProof.Rows hiding St
namespace Hd
theorem mgb_of {K : PySem.W.Frag} {h : Heap} {mg : Str → Option Value} (X : K.In h) (G : h.Ns mainGlobals mg) (c : He5.SaysA faA fnA K) : MgB mg where
  isinstance := He.free_ok X G (c.fact 61 (f := .free "isinstance") rfl)
  list := He.free_ok X G (c.fact 62 (f := .free "list") rfl)
  tuple := He.free_ok X G (c.fact 63 (f := .free "tuple") rfl)
  dict := He.free_ok X G (c.fact 64 (f := .free "dict") rfl)
  int := He.free_ok X G (c.fact 65 (f := .free "int") rfl)
  bool := He.free_ok X G (c.fact 66 (f := .free "bool") rfl)
  str := He.free_ok X G (c.fact 67 (f := .free "str") rfl)
  len := He.free_ok X G (c.fact 68 (f := .free "len") rfl)
  all := He.free_ok X G (c.fact 69 (f := .free "all") rfl)
  any := He.free_ok X G (c.fact 70 (f := .free "any") rfl)
  zip := He.free_ok X G (c.fact 71 (f := .free "zip") rfl)
  set := He.free_ok X G (c.fact 72 (f := .free "set") rfl)
  enumerate := He.free_ok X G (c.fact 73 (f := .free "enumerate") rfl)
  range := He.free_ok X G (c.fact 74 (f := .free "range") rfl)
  abs := He.free_ok X G (c.fact 75 (f := .free "abs") rfl)
  max := He.free_ok X G (c.fact 76 (f := .free "max") rfl)
  min := He.free_ok X G (c.fact 77 (f := .free "min") rfl)
  sum := He.free_ok X G (c.fact 78 (f := .free "sum") rfl)
theorem facts {P : Program} {w : World} {K : PySem.W.Frag} {h : Heap} {mg : Str → Option Value} {f : Addr} (X : K.In h) (G : h.Ns mainGlobals mg) (hfa : mg ("law" : Str) = some (.ref f)) (c : He5.SaysA faA fnA K) (e : clB K = true) :
    ∃ fd : FuncData, (∀ (s : Shared) (v : Value), BindsTo s fd ⟨[v], []⟩ [("_law_script", v)]) ∧ ∀ base : Heap, K.In base → base.Ns mainGlobals mg → FnOk P w K mg base CX0 72 f fd ["_law_script"] (Cl.spLaw K) := by
  have M := mgb_of X G c
  have e := e
  simp only [clB, Bool.and_eq_true] at e
  obtain ⟨⟨f0, f1⟩, f2⟩ := e
  have m_Book := He.glo_ok X G (c.fact 0 (f := .glo "Book") rfl)
  have c_Book := He.cls_ok (c.fact 1 (f := .cls "Book") rfl)
  have n_Book_0 := He.noat_ok (c.fact 2 (f := .noat "Book" "_fields") rfl)
  have n_Book_1 := He.noat_ok (c.fact 3 (f := .noat "Book" "_kinds") rfl)
  have B_Book : ObC K mg "Book" (He.ga K "Book") ownBook := ⟨m_Book, c_Book, fun f hf => by
    simp only [ownBook, List.mem_cons, List.not_mem_nil, or_false] at hf
    rcases hf with rfl | rfl
    · exact n_Book_0
    · exact n_Book_1⟩
  have k_Book_init := He.mkr_ok (c.fact 4 (f := .mkr "Book") rfl)
  obtain ⟨fd_Book_init, D_Book_init⟩ := c.def_ 0 (d := dM "Book" "__init__" "Book.__init__" s_Book_init) rfl
  have k_Book_contains := He.meth_ok (c.fact 5 (f := .meth "Book" "__contains__") rfl)
  obtain ⟨fd_Book_contains, D_Book_contains⟩ := c.def_ 1 (d := dM "Book" "__contains__" "Book.__contains__" s_Book_contains) rfl
  have k_Book_getitem := He.meth_ok (c.fact 6 (f := .meth "Book" "__getitem__") rfl)
  obtain ⟨fd_Book_getitem, D_Book_getitem⟩ := c.def_ 2 (d := dM "Book" "__getitem__" "Book.__getitem__" s_Book_getitem) rfl
  obtain ⟨fd_is_number, D_is_number⟩ := c.def_ 3 (d := dF "is_number" s_is_number) rfl
  have m_is_number := He.glo_ok X G (c.fact 7 (f := .glo "is_number") rfl)
  obtain ⟨fd_is_name, D_is_name⟩ := c.def_ 4 (d := dF "is_name" s_is_name) rfl
  have m_is_name := He.glo_ok X G (c.fact 8 (f := .glo "is_name") rfl)
  obtain ⟨fd_are_names, D_are_names⟩ := c.def_ 5 (d := dF "are_names" s_are_names) rfl
  have m_are_names := He.glo_ok X G (c.fact 9 (f := .glo "are_names") rfl)
  obtain ⟨fd_tupled, D_tupled⟩ := c.def_ 6 (d := dF "tupled" s_tupled) rfl
  have m_tupled := He.glo_ok X G (c.fact 10 (f := .glo "tupled") rfl)
  obtain ⟨fd_are_fields, D_are_fields⟩ := c.def_ 7 (d := dF "are_fields" s_are_fields) rfl
  have m_are_fields := He.glo_ok X G (c.fact 11 (f := .glo "are_fields") rfl)
  obtain ⟨fd_are_parameters, D_are_parameters⟩ := c.def_ 8 (d := dF "are_parameters" s_are_parameters) rfl
  have m_are_parameters := He.glo_ok X G (c.fact 12 (f := .glo "are_parameters") rfl)
  obtain ⟨fd_is_term, D_is_term⟩ := c.def_ 9 (d := dF "is_term" s_is_term) rfl
  have m_is_term := He.glo_ok X G (c.fact 13 (f := .glo "is_term") rfl)
  obtain ⟨fd_is_tested, D_is_tested⟩ := c.def_ 10 (d := dF "is_tested" s_is_tested) rfl
  have m_is_tested := He.glo_ok X G (c.fact 14 (f := .glo "is_tested") rfl)
  obtain ⟨fd_is_new_name, D_is_new_name⟩ := c.def_ 11 (d := dF "is_new_name" s_is_new_name) rfl
  have m_is_new_name := He.glo_ok X G (c.fact 15 (f := .glo "is_new_name") rfl)
  obtain ⟨fd_are_record_terms, D_are_record_terms⟩ := c.def_ 12 (d := dF "are_record_terms" s_are_record_terms) rfl
  have m_are_record_terms := He.glo_ok X G (c.fact 16 (f := .glo "are_record_terms") rfl)
  obtain ⟨fd_is_change, D_is_change⟩ := c.def_ 13 (d := dF "is_change" s_is_change) rfl
  have m_is_change := He.glo_ok X G (c.fact 17 (f := .glo "is_change") rfl)
  obtain ⟨fd_is_say, D_is_say⟩ := c.def_ 14 (d := dF "is_say" s_is_say) rfl
  have m_is_say := He.glo_ok X G (c.fact 18 (f := .glo "is_say") rfl)
  obtain ⟨fd_divided, D_divided⟩ := c.def_ 15 (d := dF "divided" s_divided) rfl
  have m_divided := He.glo_ok X G (c.fact 19 (f := .glo "divided") rfl)
  obtain ⟨fd_is_head, D_is_head⟩ := c.def_ 16 (d := dF "is_head" s_is_head) rfl
  have m_is_head := He.glo_ok X G (c.fact 20 (f := .glo "is_head") rfl)
  obtain ⟨fd_inner_scopes, D_inner_scopes⟩ := c.def_ 17 (d := dF "inner_scopes" s_inner_scopes) rfl
  have m_inner_scopes := He.glo_ok X G (c.fact 21 (f := .glo "inner_scopes") rfl)
  obtain ⟨fd_is_body, D_is_body⟩ := c.def_ 18 (d := dF "is_body" s_is_body) rfl
  have m_is_body := He.glo_ok X G (c.fact 22 (f := .glo "is_body") rfl)
  obtain ⟨fd_is_kind_for, D_is_kind_for⟩ := c.def_ 19 (d := dF "is_kind_for" s_is_kind_for) rfl
  have m_is_kind_for := He.glo_ok X G (c.fact 23 (f := .glo "is_kind_for") rfl)
  obtain ⟨fd_change_terms, D_change_terms⟩ := c.def_ 20 (d := dF "change_terms" s_change_terms) rfl
  have m_change_terms := He.glo_ok X G (c.fact 24 (f := .glo "change_terms") rfl)
  obtain ⟨fd_checked_fields, D_checked_fields⟩ := c.def_ 21 (d := dF "checked_fields" s_checked_fields) rfl
  have m_checked_fields := He.glo_ok X G (c.fact 25 (f := .glo "checked_fields") rfl)
  obtain ⟨fd_checked_kinds, D_checked_kinds⟩ := c.def_ 22 (d := dF "checked_kinds" s_checked_kinds) rfl
  have m_checked_kinds := He.glo_ok X G (c.fact 26 (f := .glo "checked_kinds") rfl)
  obtain ⟨fd_is_call, D_is_call⟩ := c.def_ 23 (d := dF "is_call" s_is_call) rfl
  have m_is_call := He.glo_ok X G (c.fact 27 (f := .glo "is_call") rfl)
  obtain ⟨fd_checked_call, D_checked_call⟩ := c.def_ 24 (d := dF "checked_call" s_checked_call) rfl
  have m_checked_call := He.glo_ok X G (c.fact 28 (f := .glo "checked_call") rfl)
  obtain ⟨fd_checked_line, D_checked_line⟩ := c.def_ 25 (d := dF "checked_line" s_checked_line) rfl
  have m_checked_line := He.glo_ok X G (c.fact 29 (f := .glo "checked_line") rfl)
  obtain ⟨fd_checked_lines, D_checked_lines⟩ := c.def_ 26 (d := dF "checked_lines" s_checked_lines) rfl
  have m_checked_lines := He.glo_ok X G (c.fact 30 (f := .glo "checked_lines") rfl)
  obtain ⟨fd_names_let, D_names_let⟩ := c.def_ 27 (d := dF "names_let" s_names_let) rfl
  have m_names_let := He.glo_ok X G (c.fact 31 (f := .glo "names_let") rfl)
  obtain ⟨fd_hides, D_hides⟩ := c.def_ 28 (d := dF "hides" s_hides) rfl
  have m_hides := He.glo_ok X G (c.fact 32 (f := .glo "hides") rfl)
  obtain ⟨fd_paths_in, D_paths_in⟩ := c.def_ 29 (d := dF "paths_in" s_paths_in) rfl
  have m_paths_in := He.glo_ok X G (c.fact 33 (f := .glo "paths_in") rfl)
  obtain ⟨fd_sayings, D_sayings⟩ := c.def_ 30 (d := dF "sayings" s_sayings) rfl
  have m_sayings := He.glo_ok X G (c.fact 34 (f := .glo "sayings") rfl)
  obtain ⟨fd_hiding, D_hiding⟩ := c.def_ 31 (d := dF "hiding" s_hiding) rfl
  have m_hiding := He.glo_ok X G (c.fact 35 (f := .glo "hiding") rfl)
  obtain ⟨fd_is_telling, D_is_telling⟩ := c.def_ 32 (d := dF "is_telling" s_is_telling) rfl
  have m_is_telling := He.glo_ok X G (c.fact 36 (f := .glo "is_telling") rfl)
  obtain ⟨fd_body_length, D_body_length⟩ := c.def_ 33 (d := dF "body_length" s_body_length) rfl
  have m_body_length := He.glo_ok X G (c.fact 37 (f := .glo "body_length") rfl)
  obtain ⟨fd_length, D_length⟩ := c.def_ 34 (d := dF "length" s_length) rfl
  have m_length := He.glo_ok X G (c.fact 38 (f := .glo "length") rfl)
  obtain ⟨fd_most_calls, D_most_calls⟩ := c.def_ 35 (d := dF "most_calls" s_most_calls) rfl
  have m_most_calls := He.glo_ok X G (c.fact 39 (f := .glo "most_calls") rfl)
  obtain ⟨fd_L_box, D_L_box⟩ := c.def_ 36 (d := dF "_law_box" s_L_box) rfl
  have m_L_box := He.glo_ok X G (c.fact 40 (f := .glo "_law_box") rfl)
  obtain ⟨fd_L_take, D_L_take⟩ := c.def_ 37 (d := dF "_law_take" s_L_take) rfl
  have m_L_take := He.glo_ok X G (c.fact 41 (f := .glo "_law_take") rfl)
  obtain ⟨fd_L_cells, D_L_cells⟩ := c.def_ 38 (d := dF "_law_cells" s_L_cells) rfl
  have m_L_cells := He.glo_ok X G (c.fact 42 (f := .glo "_law_cells") rfl)
  obtain ⟨fd_L_of, D_L_of⟩ := c.def_ 39 (d := dF "_law_of" s_L_of) rfl
  have m_L_of := He.glo_ok X G (c.fact 43 (f := .glo "_law_of") rfl)
  obtain ⟨fd_L_is_number, D_L_is_number⟩ := c.def_ 40 (d := dF "_law_is_number" s_L_is_number) rfl
  have m_L_is_number := He.glo_ok X G (c.fact 44 (f := .glo "_law_is_number") rfl)
  obtain ⟨fd_L_mixed, D_L_mixed⟩ := c.def_ 41 (d := dF "_law_mixed" s_L_mixed) rfl
  have m_L_mixed := He.glo_ok X G (c.fact 45 (f := .glo "_law_mixed") rfl)
  obtain ⟨fd_L_same, D_L_same⟩ := c.def_ 42 (d := dF "_law_same" s_L_same) rfl
  have m_L_same := He.glo_ok X G (c.fact 46 (f := .glo "_law_same") rfl)
  obtain ⟨fd_L_names, D_L_names⟩ := c.def_ 43 (d := dF "_law_names" s_L_names) rfl
  have m_L_names := He.glo_ok X G (c.fact 47 (f := .glo "_law_names") rfl)
  obtain ⟨fd_L_pool, D_L_pool⟩ := c.def_ 44 (d := dF "_law_pool" s_L_pool) rfl
  have m_L_pool := He.glo_ok X G (c.fact 48 (f := .glo "_law_pool") rfl)
  obtain ⟨fd_L_say, D_L_say⟩ := c.def_ 45 (d := dF "_law_say" s_L_say) rfl
  have m_L_say := He.glo_ok X G (c.fact 49 (f := .glo "_law_say") rfl)
  obtain ⟨fd_L_body, D_L_body⟩ := c.def_ 46 (d := dF "_law_body" s_L_body) rfl
  have m_L_body := He.glo_ok X G (c.fact 50 (f := .glo "_law_body") rfl)
  obtain ⟨fd_L_kind, D_L_kind⟩ := c.def_ 47 (d := dF "_law_kind" s_L_kind) rfl
  have m_L_kind := He.glo_ok X G (c.fact 51 (f := .glo "_law_kind") rfl)
  obtain ⟨fd_L_call, D_L_call⟩ := c.def_ 48 (d := dF "_law_call" s_L_call) rfl
  have m_L_call := He.glo_ok X G (c.fact 52 (f := .glo "_law_call") rfl)
  obtain ⟨fd_L_calls, D_L_calls⟩ := c.def_ 49 (d := dF "_law_calls" s_L_calls) rfl
  have m_L_calls := He.glo_ok X G (c.fact 53 (f := .glo "_law_calls") rfl)
  obtain ⟨fd_L_kind_of, D_L_kind_of⟩ := c.def_ 50 (d := dF "_law_kind_of" s_L_kind_of) rfl
  have m_L_kind_of := He.glo_ok X G (c.fact 54 (f := .glo "_law_kind_of") rfl)
  obtain ⟨fd_L_says, D_L_says⟩ := c.def_ 51 (d := dF "_law_says" s_L_says) rfl
  have m_L_says := He.glo_ok X G (c.fact 55 (f := .glo "_law_says") rfl)
  obtain ⟨fd_L_tells, D_L_tells⟩ := c.def_ 52 (d := dF "_law_tells" s_L_tells) rfl
  have m_L_tells := He.glo_ok X G (c.fact 56 (f := .glo "_law_tells") rfl)
  obtain ⟨fd_L_due, D_L_due⟩ := c.def_ 53 (d := dF "_law_due" s_L_due) rfl
  have m_L_due := He.glo_ok X G (c.fact 57 (f := .glo "_law_due") rfl)
  obtain ⟨fd_L_by_hand_right, D_L_by_hand_right⟩ := c.def_ 54 (d := dF "_law_by_hand_right" s_L_by_hand_right) rfl
  have m_L_by_hand_right := He.glo_ok X G (c.fact 58 (f := .glo "_law_by_hand_right") rfl)
  obtain ⟨fd_L_right, D_L_right⟩ := c.def_ 55 (d := dF "_law_right" s_L_right) rfl
  have m_L_right := He.glo_ok X G (c.fact 59 (f := .glo "_law_right") rfl)
  obtain ⟨fd_law, D_law⟩ := c.def_ 56 (d := dF "law" s_law) rfl
  have m_law := He.glo_ok X G (c.fact 60 (f := .glo "law") rfl)
  have e0 := hfa.symm.trans m_law
  cases e0
  have b := FunD.bindsA (ps := ["_law_script"]) D_law fun _ _ _ _ _ _ us hl => match us, hl with | [_], _ => rfl
  refine ⟨fd_law, fun s v => b s [v] rfl, fun base _ _ => ?_⟩
  have G_is_number := ok_is_number (P := P) (w := w) (base := base)  M m_is_number D_is_number
  have G_is_name := ok_is_name (P := P) (w := w) (base := base)  M m_is_name D_is_name
  have G_are_names := ok_are_names (P := P) (w := w) (base := base) G_is_name M m_are_names D_are_names
  have G_tupled := ok_tupled (P := P) (w := w) (base := base)  M m_tupled D_tupled
  have G_are_fields := ok_are_fields (P := P) (w := w) (base := base) G_are_names M m_are_fields D_are_fields
  have G_are_parameters := ok_are_parameters (P := P) (w := w) (base := base) G_are_names M m_are_parameters D_are_parameters
  have G_is_term := ok_is_term (P := P) (w := w) (base := base) G_is_number M m_is_term D_is_term
  have G_is_tested := ok_is_tested (P := P) (w := w) (base := base) G_is_term M m_is_tested D_is_tested
  have G_is_new_name := ok_is_new_name (P := P) (w := w) (base := base) G_is_name M m_is_new_name D_is_new_name
  have G_are_record_terms := ok_are_record_terms (P := P) (w := w) (base := base) G_is_term M m_are_record_terms D_are_record_terms
  have G_is_change := ok_is_change (P := P) (w := w) (base := base) G_is_term G_are_record_terms M m_is_change D_is_change
  have G_is_say := ok_is_say (P := P) (w := w) (base := base) G_is_change G_is_name M m_is_say D_is_say
  have G_divided := ok_divided (P := P) (w := w) (base := base)  M m_divided D_divided
  have G_is_head := ok_is_head (P := P) (w := w) (base := base) G_is_term G_is_tested G_is_new_name M m_is_head D_is_head
  have G_inner_scopes := ok_inner_scopes (P := P) (w := w) (base := base)  M m_inner_scopes D_inner_scopes
  have G_is_body := ok_is_body (P := P) (w := w) (base := base) G_is_say G_divided G_is_head G_inner_scopes M m_is_body D_is_body
  have G_is_kind_for := ok_is_kind_for (P := P) (w := w) (base := base) G_is_name G_are_parameters G_is_body M m_is_kind_for D_is_kind_for
  have G_change_terms := ok_change_terms (P := P) (w := w) (base := base)  M m_change_terms D_change_terms
  have G_checked_fields := ok_checked_fields (P := P) (w := w) (base := base) G_are_fields M m_checked_fields D_checked_fields
  have G_checked_kinds := ok_checked_kinds (P := P) (w := w) (base := base) G_is_kind_for M m_checked_kinds D_checked_kinds
  have G_Book_init := ok_Book_init (P := P) (w := w) (base := base) G_checked_fields G_tupled G_checked_kinds M B_Book k_Book_init D_Book_init
  have G_Book_contains := ok_Book_contains (P := P) (w := w) (base := base)  M B_Book k_Book_contains f1 D_Book_contains
  have G_Book_getitem := ok_Book_getitem (P := P) (w := w) (base := base)  M B_Book k_Book_getitem f2 D_Book_getitem
  have G_is_call := ok_is_call (P := P) (w := w) (base := base) G_is_number G_Book_contains G_Book_getitem M m_is_call D_is_call
  have G_checked_call := ok_checked_call (P := P) (w := w) (base := base) G_is_call G_tupled M m_checked_call D_checked_call
  have G_checked_line := ok_checked_line (P := P) (w := w) (base := base) G_checked_call M m_checked_line D_checked_line
  have G_checked_lines := ok_checked_lines (P := P) (w := w) (base := base) G_checked_line M m_checked_lines D_checked_lines
  have G_names_let := ok_names_let (P := P) (w := w) (base := base) G_change_terms M m_names_let D_names_let
  have G_hides := ok_hides (P := P) (w := w) (base := base) G_names_let M m_hides D_hides
  have G_paths_in := ok_paths_in (P := P) (w := w) (base := base) G_divided M m_paths_in D_paths_in
  have G_sayings := ok_sayings (P := P) (w := w) (base := base) G_paths_in G_Book_getitem M m_sayings D_sayings
  have G_hiding := ok_hiding (P := P) (w := w) (base := base) G_sayings G_hides M m_hiding D_hiding
  have G_is_telling := ok_is_telling (P := P) (w := w) (base := base) G_hiding M m_is_telling D_is_telling
  have G_body_length := ok_body_length (P := P) (w := w) (base := base) G_divided M m_body_length D_body_length
  have G_length := ok_length (P := P) (w := w) (base := base) G_body_length G_Book_getitem M m_length D_length
  have G_most_calls := ok_most_calls (P := P) (w := w) (base := base) G_checked_lines G_is_telling G_length M m_most_calls D_most_calls
  have GK_most_calls := okK_most_calls (P := P) (w := w) (base := base) G_checked_lines G_is_telling G_length M m_most_calls D_most_calls
  have G_L_box := ok_L_box (P := P) (w := w) (base := base)  M m_L_box D_L_box
  have G_L_take := ok_L_take (P := P) (w := w) (base := base)  M m_L_take D_L_take
  have G_L_of := ok_L_of (P := P) (w := w) (base := base) G_L_take M m_L_of D_L_of
  have G_L_is_number := ok_L_is_number (P := P) (w := w) (base := base)  M m_L_is_number D_L_is_number
  have G_L_mixed := ok_L_mixed (P := P) (w := w) (base := base) G_L_take M m_L_mixed D_L_mixed
  have G_L_same := ok_L_same (P := P) (w := w) (base := base) G_L_is_number M m_L_same D_L_same
  have G_L_names := ok_L_names (P := P) (w := w) (base := base) G_L_take G_L_of M m_L_names D_L_names
  have G_L_pool := ok_L_pool (P := P) (w := w) (base := base) G_L_take M m_L_pool D_L_pool
  have G_L_say := ok_L_say (P := P) (w := w) (base := base) G_L_of G_L_take M m_L_say D_L_say
  have G_L_body := ok_L_body (P := P) (w := w) (base := base) G_L_take G_L_of G_L_say M m_L_body D_L_body
  have G_L_kind := ok_L_kind (P := P) (w := w) (base := base) G_L_of G_L_body G_L_take M m_L_kind D_L_kind
  have G_L_call := ok_L_call (P := P) (w := w) (base := base) G_L_of M m_L_call D_L_call
  have G_L_calls := ok_L_calls (P := P) (w := w) (base := base) G_L_call M m_L_calls D_L_calls
  have G_L_kind_of := ok_L_kind_of (P := P) (w := w) (base := base)  M m_L_kind_of D_L_kind_of
  have G_L_says := ok_L_says (P := P) (w := w) (base := base)  M m_L_says D_L_says
  have G_L_tells := ok_L_tells (P := P) (w := w) (base := base)  M m_L_tells D_L_tells
  have G_L_due := ok_L_due (P := P) (w := w) (base := base) G_L_says G_L_kind_of G_L_tells M m_L_due D_L_due
  have G_L_by_hand_right := ok_L_by_hand_right (P := P) (w := w) (base := base) G_most_calls G_L_same G_Book_init M m_L_by_hand_right D_L_by_hand_right
  have G_L_right := ok_L_right (P := P) (w := w) (base := base) G_L_by_hand_right G_L_names G_L_take G_L_kind G_L_calls G_L_pool G_L_of G_L_due G_L_same G_most_calls G_L_mixed GK_most_calls G_Book_init M m_L_right D_L_right
  exact Cl.ok_lawH D_L_cells m_L_cells G_L_right G_L_box M D_law
end Hd
end Prg
open PySem PySem.W
    PySem.Calls PyProof.Rows
theorem PySem.Challenge.cw_stillgood_k23_how_many_calls_at_most_holds : PySem.Challenge.rw_stillgood_k23_how_many_calls_at_most.Holds := by
  w_on; o_law
  refine HandSHeadRun.head_any (r := OpenLaw.row PySem.Challenge.rw_stillgood_k23_how_many_calls_at_most) (q := view (OpenLaw.row PySem.Challenge.rw_stillgood_k23_how_many_calls_at_most).prog [71]) (H := Prg.Hd.hk) (ob := Prg.Hd.ob) (M := 12000) (loose := Prg.Hd.loose) (d := HandSHeadRun.topDef (OpenLaw.row PySem.Challenge.rw_stillgood_k23_how_many_calls_at_most).prog 71) (kwd := []) Prg.Hd.ob_eq
    (by kernel_rfl) (fun s => by kernel_rfl) Prg.Hd.run (by kernel_rfl) (by kernel_rfl) (by kernel_rfl) (by rfl) (by first | assumption | decide +kernel) (by decide +kernel) ⟨rfl, rfl, rfl, rfl, rfl, by decide +kernel⟩ ?hw ?hc
  case hw => w_witness2
  case hc =>
    refine L2.walk_ofE (l := PySem.Challenge.rw_stillgood_k23_how_many_calls_at_most) (n := 63) (k := 72) (x := "_law_script") (CX := L2.CX0) rfl (by decide) (by kernel_rfl) ⟨rfl, by decide, by decide⟩ ?F (fun _ _ _ _ z => z)
    intro w mg fa h Y G hmg0
    obtain ⟨K, KX, c, ce⟩ := Y
    have hmg : mg ("law" : PySem.Str)
        = some (.ref fa) := by
      have e : (HandSHeadRun.topDef (OpenLaw.row PySem.Challenge.rw_stillgood_k23_how_many_calls_at_most).prog 71).name = ("law" : PySem.Str) := by kernel_rfl
      rw [← e]; exact hmg0
    obtain ⟨fd, hb, hF⟩ := Prg.Hd.facts (P := (PySem.Challenge.rw_stillgood_k23_how_many_calls_at_most).prog) (w := w) KX G hmg c ce
    exact ⟨K, fd, Prg.Cl.spLaw K, KX, hb, fun H a ns hl _ hS => ⟨a, ns, rfl, hS, hl, fun _ => rfl⟩, hF⟩
