import PyProof.Rows.All
import Wide.All
import OpenK.AllK
import Wide.FinOn
import PyProof.EqAt
import PyProof.EqKinds
import PyProof.TupleCall
import KE.KExcInit
import KE.KIsAll
import KE.KTryMore
import HandS.Base
import HandS.Call
import HandS.List
import HandS.Ends
import HandS.Exc
import HandS.Defaults
import HandS.ExcInit
import HandS.ExcIs
import HandS.IsInst
import HandS.MakeKw
import HandS.MakeKwOnly
import HandS.Words
import HandS.ForMost
import HandS.Wide
import HandS.Zip
import KE.KxIndex
import KE.KxText
import HandS.Flow
import HandS.Walk
import HandS.Style
import HandS.HeadHook1
import HandS.HeadHook2
import KE.KStateDown
import Lean
import HandS.More
import HandS.Head0
import HandS.Head1
import HandS.Head2
import HandS.HeadEnd
import PySem.Challenge.RW_stillgood_k12_errors_and_their_values
set_option Elab.async false
set_option linter.all false
set_option maxRecDepth 100000
set_option maxHeartbeats 0
/-! Own exception classes over LookupError, ValueError, RuntimeError, made, kept as values, their attributes read, asked by isinstance. -/
namespace PySem
namespace EXVm
open Builtin Builtin.ObjectAttr HandSPX
/-! ### the model's steps, the class's base any of the three, the call's keywords any -/
section
variable {M : Model} {A : Around} {E : Value → Shared → Prop} {h : Heap} {g : Array GenState} {d : Drawn} {t : Nat} {os : OsState}
variable {nm q : Str} {C N : Addr} {bs bm bmB : List Value} {hdct : Bool} {sn : List Str} {sub : List Value} {ab : Bool} {col : Option Bool} {dd : Option Addr} {k0 k1 k2 k3 k5 : Option Value} {B newId initId : String}
theorem check_new_kw (F : ExcBaseFacts B newId initId bmB) (hT : ∀ X : String, bm.contains (.type X) = bmB.contains (.type X)) {rest : List Value} {kw : List (Str × Value)} {Q : Unit → Shared → Prop}
    (hC : h.get? C = some (excClassObj nm q C N bs bm hdct sn sub ab col dd k0 k1 k2 k3 k5 newId)) (hq : Q () ⟨h, g, d, t, os⟩) : wpAny M A (checkBuiltinCall newId ⟨.ref C :: rest, kw⟩) Q E ⟨h, g, d, t, os⟩ := by
  have hcont : (Value.ref C :: bm).contains (.type B) = true := by rw [List.contains_cons, hT, F.hasB, Bool.or_true]
  have hstar := F.noStar
  simp only [checkBuiltinCall, F.newKind, F.newSplit, F.newRow]
  repeat (first | refine wpAny_loadPart_at hC ?_ | (refine wpAny_isSubtype_exc hC ?_; rw [hcont]) | refine wpAny_staticBase_exc hC ?_ | refine wpAny_madeBy_exc hC ?_ | simp only [bne_self_eq_false, Bool.false_eq_true, if_false] | wp_step)
  exact hq
end
section
variable {prog : Program} {w : World} {A : Around} {E : Value → Shared → Prop} {R : Result → Shared → Prop} {h : Heap} {g : Array GenState} {d : Drawn} {t : Nat} {os : OsState}
variable {nm q : Str} {C N : Addr} {bs bm bmB : List Value} {hdct : Bool} {sn : List Str} {sub : List Value} {ab : Bool} {col : Option Bool} {dd : Option Addr} {k0 k1 k2 k3 k5 : Option Value} {B newId initId : String}
theorem new_kw (F : ExcBaseFacts B newId initId bmB) (hT : ∀ X : String, bm.contains (.type X) = bmB.contains (.type X)) {rest : List Value} {kw : List (Str × Value)}
    (hC : h.get? C = some (excClassObj nm q C N bs bm hdct sn sub ab col dd k0 k1 k2 k3 k5 newId))
    (hq : R (.ok (.ret (.ref (h.objs.size + 1)))) ⟨(h.push { cls := .type "tuple", data := .seq rest.toArray }).push
      { cls := .ref C, data := .fields #[.ref h.objs.size, .none, .none, .none, .bool false, .none] }, g, d, t, os⟩) (hrest : rest.length ≤ sizeLine) :
    codeAny (model prog w) A (.builtin newId ⟨.ref C :: rest, kw⟩) R ⟨h, g, d, t, os⟩ := by
  have hends := F.ends
  have hcB : (Value.ref C :: bm).contains (.type B) = true := by rw [List.contains_cons, hT, F.hasB, Bool.or_true]
  have hcA : (Value.ref C :: bm).contains (.type "AttributeError") = false := by rw [List.contains_cons, hT, F.noAttr]; rfl
  have hcN : (Value.ref C :: bm).contains (.type "NameError") = false := by rw [List.contains_cons, hT, F.noName]; rfl
  refine codeAny_builtinAt F.entry ?_
  unfold Builtin.«BaseException.__new__»
  refine wpAt_bind ?_
  show wpAt _ _ _ (stack >>= _) _ _ _
  refine wpAt_bind (wpAt_stack fun p below => wpAt_of_wpAny ?_)
  wp_walk
  refine wpAt_of_wpAny ?_
  rw [F.owner]
  repeat (first | with_reducible refine wpAny_madeHere_exc F.canon hC ?_ | with_reducible refine wpAny_loadPart_at hC ?_ | (with_reducible refine wpAny_isSubtype_exc hC ?_; first | rw [hcB] | rw [hcA] | rw [hcN]) | wp_step)
  show R _ _
  rw [Heap.size_push]
  exact hq
theorem type_call_kw (F : ExcBaseFacts B newId initId bmB) (hT : ∀ X : String, bm.contains (.type X) = bmB.contains (.type X)) {rest : List Value} {kw : List (Str × Value)} {fI : Addr} {Q : Fin → Shared → Prop}
    (hC : h.get? C = some (excClassObj nm q C N bs bm hdct sn sub ab col dd k0 k1 k2 k3 k5 newId))
    (hi : W.Looks (model prog w) h (typeLookup (.ref C) "__init__") (some (.ref fI))) (hb : ∀ self, W.Looks (model prog w) h (bindSpecial (.ref fI) self) (.ref fI, [self])) (hrest : rest.length ≤ sizeLine)
    (hq : codeAny (model prog w) A (.call (.ref fI) ⟨.ref (h.objs.size + 1) :: rest, kw⟩)
      (fun r s' => match r with | .ok (.ret v) => v = .none ∧ Q (.done (.ret (.ref (h.objs.size + 1)))) s' | .ok _ => False | .error e => E e s')
      ⟨(h.push (W.kdv_tup rest)).push (excO C h.objs.size), g, d, t, os⟩) :
    wpAny (model prog w) A (Builtin.«type.__call__» ⟨.ref C :: rest, kw⟩) Q E ⟨h, g, d, t, os⟩ := by
  repeat (first | with_reducible refine wpAny_loadPart_at hC ?_ | with_reducible refine wpAny_madeBy_exc hC ?_ | wp_step)
  refine codeAny_call_builtin_code (Code.quiet_builtin _ F.quiet) (check_new_kw F hT hC ?_)
  refine new_kw F hT hC ?_ hrest
  show wpAny _ _ _ _ _ _
  have k : ∀ b o, h.get? b = some o → ((h.push (W.kdv_tup rest)).push (excO C h.objs.size)).get? b = some o := fun b o e => Heap.get?_push_of_some _ (Heap.get?_push_of_some _ e)
  have hC₁ := k _ _ hC
  have hget : ((h.push (W.kdv_tup rest)).push (excO C h.objs.size)).get? (h.objs.size + 1) = some (excO C h.objs.size) := by heap_get
  have hcC : (Value.ref C :: bm).contains (.ref C) = true := by simp
  have i1 := hi.keeps k
  have b1 := (hb (.ref (h.objs.size + 1))).keeps k
  unfold isInstance
  repeat (first | with_reducible refine wpAny_loadPart_at hget ?_ | (with_reducible refine wpAny_isSubtype_exc hC₁ ?_; rw [hcC]) | wp_step)
  show wpAny _ _ (typeLookup (.ref C) _) _ _ _
  refine i1.at ?_
  refine wpAny_holding (wpAny_bind (b1.at ?_))
  refine wpAny_bind (wpAny_call (codeAny_mono hq fun r s' z => ?_))
  rcases r with e | (v | _ | _ | _) <;> first | exact z | exact z.elim | skip
  obtain ⟨rfl, z⟩ := z
  first
    | exact wpAny_pure (wpAny_pure z)
    | (wp_walk; exact z)
theorem call_kw (F : ExcBaseFacts B newId initId bmB) (hT : ∀ X : String, bm.contains (.type X) = bmB.contains (.type X)) {rest : List Value} {kw : List (Str × Value)} {fI : Addr}
    (hC : h.get? C = some (excClassObj nm q C N bs bm hdct sn sub ab col dd k0 k1 k2 k3 k5 newId))
    (hi : W.Looks (model prog w) h (typeLookup (.ref C) "__init__") (some (.ref fI))) (hb : ∀ self, W.Looks (model prog w) h (bindSpecial (.ref fI) self) (.ref fI, [self])) (hrest : rest.length ≤ sizeLine)
    (hq : codeAny (model prog w) (A.under (.builtin "type.__call__" ⟨.ref C :: rest, kw⟩)) (.call (.ref fI) ⟨.ref (h.objs.size + 1) :: rest, kw⟩) (W.InitBack (h.objs.size + 1) R)
      ⟨(h.push (W.kdv_tup rest)).push (excO C h.objs.size), g, d, t, os⟩) :
    codeAny (model prog w) A (.call (.ref C) ⟨rest, kw⟩) R ⟨h, g, d, t, os⟩ := by
  have f1 := tc_lookup
  have f2 := tc_bind (.ref C)
  have hTy : (⟨h, g, d, t, os⟩ : Shared).TypeIs (.ref C) "type" := ⟨_, hC, rfl⟩
  have L0 : W.Looks (model prog w) h (typeOf (.ref C)) (.type "type") := (W.Looks.ld hC).andThen .now
  have typ : W.Looks (model prog w) h (isInstance (.ref C) (.type "type")) true := L0.andThen (W.Looks.of_pure tc_sub)
  refine codeAny_of_tree ?_
  show wpAny _ _ (callAny (.ref C) _) _ _ _
  repeat (any_goals (first | assumption | with_reducible refine wpAny_loadPart_at hC ?_ | wp_step))
  refine ⟨rfl, ?_⟩
  refine codeAny_call_builtin_at (Code.quiet_builtin _ (by decide +kernel)) entry_typeCall (W.check_slot tc_kind tc_split typ (W.tc_args _ _ _) (type_call_kw F hT hC hi hb hrest ?_))
  refine codeAny_mono hq fun r s' z => ?_
  rcases r with e | (v | _ | _ | _) <;> exact z
/-- B.__init__(e, ..): the args are laid anew, whatever the dict -/
theorem init_base_d (F : ExcBaseFacts B newId initId bmB) (hT : ∀ X : String, bm.contains (.type X) = bmB.contains (.type X)) {e t0 : Addr} {dv : Option Addr} {rest : List Value}
    (hC : h.get? C = some (excClassObj nm q C N bs bm hdct sn sub ab col dd k0 k1 k2 k3 k5 newId)) (he : h.get? e = some ({ cls := .ref C, dict := dv, data := .fields #[.ref t0, .none, .none, .none, .bool false, .none] } : Obj)) (hrest : rest.length ≤ sizeLine)
    (hq : ∀ h' t1, (∀ b o, b ≠ e → h.get? b = some o → h'.get? b = some o) → h'.get? e = some ({ cls := .ref C, dict := dv, data := .fields #[.ref t1, .none, .none, .none, .bool false, .none] } : Obj) → R (.ok (.ret .none)) ⟨h', g, d, t, os⟩) :
    codeAny (model prog w) A (.call (.builtin initId) ⟨.ref e :: rest, []⟩) R ⟨h, g, d, t, os⟩ := by
  refine codeAny_call_builtin F.init.plain F.initEntry (check_init_own F hT hC he rfl ?_)
  wp_walk
  refine hq _ h.objs.size (fun b o hb ho => ?_) ?_
  · rw [Heap.get?_update_other _ _ (Ne.symm hb)]
    exact Heap.get?_push_of_some _ ho
  · rw [Heap.get?_update_self _ (Heap.get?_push_of_some _ he) rfl]
    rfl
end
end EXVm
end PySem
namespace L2
open PySem PySem.Spec PyProof.Rows
/-! ### bases -/
inductive Bs where
  | L | V | R
  deriving DecidableEq
def Bs.nm : Bs → String
  | .L => "LookupError"
  | .V => "ValueError"
  | .R => "RuntimeError"
def Bs.nw : Bs → String
  | .L => "LookupError.__new__"
  | .V => "ValueError.__new__"
  | .R => "RuntimeError.__new__"
def Bs.it : Bs → String
  | .L => "LookupError.__init__"
  | .V => "ValueError.__init__"
  | .R => "RuntimeError.__init__"
def Bs.mro (b : Bs) : List Value := [.type b.nm, .type "Exception", .type "BaseException", .type "object"]
theorem Bs.fb (b : Bs) : ExcBaseFacts b.nm b.nw b.it b.mro := by
  cases b
  · exact PySem.F.excBase_LookupError
  · exact PySem.F.excBase_ValueError
  · exact PySem.F.excBase_RuntimeError
theorem Bs.sf (b : Bs) : StoreFacts b.nm b.mro "object.__setattr__" "object" := by
  cases b
  · exact PySem.F.store_LookupError
  · exact PySem.F.store_ValueError
  · exact PySem.F.store_RuntimeError
/-! ### a class's facts -/
structure XC (K : PySem.W.Frag) (C : Addr) (b : Bs) : Prop where
  q : PySem.W.excInitIn K C b.mro b.nw = true
  ov : PySem.W.excOver K C b.mro = true
  hd : PySem.W.hasDictIn K C = true
  sa : PySem.W.findIn K (.ref C) "__setattr__" = some (some (.builtin "object.__setattr__"))
  ex : ExcC K C
  kC : PySem.W.keepIn K (.ref C) = true
end L2
namespace PySem
namespace EXVm
open PySem.W PySem.Calls PySem.HandSPX L2 Builtin Builtin.ObjectAttr
section
variable {prog : PySem.Program} {w : World} {A : Around} {R : Result → Shared → Prop} {hp : Heap} {g : Array GenState} {d : Drawn} {t : Nat} {os : OsState} {b : Bs}
theorem taker_none {K : W.Frag} {C : Addr} {name : Str} (h : W.findIn K (.ref C) name = some none) : W.takerIn K C name = some none := by
  unfold W.takerIn
  rw [h]
  rfl
theorem xosa_new {K : W.Frag} {name : Str} {tk : Tok} {v : Value} {x C : Addr} {fv : Array Value} (T : XC K C b)
    (X : K.In hp) (hx : hp.get? x = some { cls := .ref C, data := .fields fv }) (ha : W.findIn K (.ref C) name = some none)
    (hq : ∀ h' tk' dx, (∀ b o, b ≠ x → hp.get? b = some o → h'.get? b = some o) → hp.objs.size ≤ dx → dx ≠ x → h'.get? x = some { cls := .ref C, dict := some dx, data := .fields fv } →
      h'.Ns1 dx (fun y => if y = name then some v else none) → R (.ok (.ret .none)) ⟨h', g, d, tk', os⟩) :
    codeAny (model prog w) A (.call (.builtin "object.__setattr__") ⟨[.ref x, .str name tk, v], []⟩) R ⟨hp, g, d, t, os⟩ := by
  have I : W.InstAt hp x { cls := .ref C, data := .fields fv } C none := ⟨hx, rfl, rfl, trivial⟩
  obtain ⟨cd, hcd, hh⟩ := W.any_some T.hd
  have hxs : x ≠ hp.objs.size := Nat.ne_of_lt (Heap.lt_size hx)
  have hcls : W.Looks (model prog w) hp (classData C) cd := W.looks_clsIn X hcd
  refine W.osa_openX (od := none) b.sf X I T.ov (taker_none ha) fun bb => ?_
  show wpAny _ _ (storeInOwnDict (.ref x) (.ref C) (.str name tk) name v bb) _ _ _
  obtain ⟨nm, bs, mro, ns, qn, hd, sn, sb, ab, col, del⟩ := cd
  dsimp only at hh
  subst hh
  unfold storeInOwnDict ownDictForStores
  repeat (first | with_reducible refine HandSPX.store_in_new ?_ ?_ | with_reducible refine wpAny_loadPart_at hx ?_ | with_reducible refine hcls.at ?_ | wp_step)
  · exact ⟨_, #[], _, (Heap.get?_update_ne _ _ _ _ hxs.symm).trans (Heap.get?_push_at rfl rfl), rfl, fun e he => absurd he (by simp), fun _ => rfl⟩
  · intro h' tk' hn' hs
    have hx₁ : (hp.push { cls := .type "dict", data := .dict #[] }).get? x = some { cls := .ref C, data := .fields fv } := Heap.get?_push_of_some _ hx
    refine hq h' tk' hp.objs.size (fun b o hb ho => ?_) (Nat.le_refl _) hxs.symm ?_ hn'
    · exact (hs.2 b (Nat.ne_of_lt (Heap.lt_size ho))).trans ((Heap.get?_update_ne _ _ _ _ hb).trans (Heap.get?_push_of_some _ ho))
    · exact (hs.2 x hxs).trans (Heap.get?_update_self _ hx₁ rfl)
theorem xosa_old {K : W.Frag} {name : Str} {tk : Tok} {v : Value} {x C dx : Addr} {fv : Array Value} {m0 : Str → Option Value} {nl : List Str} (T : XC K C b)
    (X : K.In hp) (hx : hp.get? x = some { cls := .ref C, dict := some dx, data := .fields fv }) (hns : hp.Ns1 dx m0) (hw : Within m0 nl) (hz : nl.length ≤ 1000)
    (ha : W.findIn K (.ref C) name = some none)
    (hq : ∀ h' tk', (∀ b o, b ≠ dx → hp.get? b = some o → h'.get? b = some o) → h'.Ns1 dx (fun y => if y = name then some v else m0 y) → R (.ok (.ret .none)) ⟨h', g, d, tk', os⟩) :
    codeAny (model prog w) A (.call (.builtin "object.__setattr__") ⟨[.ref x, .str name tk, v], []⟩) R ⟨hp, g, d, t, os⟩ := by
  obtain ⟨oD, esD, epD, hoD, hdD, _⟩ := hns.count hw
  have I : W.InstAt hp x { cls := .ref C, dict := some dx, data := .fields fv } C (some oD) := ⟨hx, rfl, rfl, hoD⟩
  obtain ⟨cd, hcd, hh⟩ := W.any_some T.hd
  have hcls : W.Looks (model prog w) hp (classData C) cd := W.looks_clsIn X hcd
  refine W.osa_openX (od := some oD) b.sf X I T.ov (taker_none ha) fun bb => ?_
  show wpAny _ _ (storeInOwnDict (.ref x) (.ref C) (.str name tk) name v bb) _ _ _
  obtain ⟨nm, bs, mro, ns, qn, hd, sn, sb, ab, col, del⟩ := cd
  dsimp only at hh
  subst hh
  unfold storeInOwnDict ownDictForStores
  repeat (first | with_reducible refine PySem.OEX.store_in_old hns hw hz ?_ | with_reducible refine wpAny_loadPart_at hx ?_ | with_reducible refine hcls.at ?_ | wp_step)
  intro h' tk' hn' hs
  exact hq h' tk' (fun b o hb ho => (hs.2 b hb).trans ho) hn'
end
end EXVm
end PySem
/-! Own exception classes over LookupError, ValueError, RuntimeError, made, kept as values, their attributes read, asked by isinstance. -/
namespace L2
open PySem PySem.Spec PyProof.Rows
section
variable {X : Cx} {pins : List (Addr × Obj)} {σ : St} {H : Hp} {s : Shared} {a C dx : Addr} {f : Str} {y : V} {u : Value} {fs : List (Str × V)} {Q : Unit → Shared → Prop} {E : Value → Shared → Prop} {A : Around} {b : Bs}
/-- self.f = y, the first one -/
theorem xst_new (T : XC X.K C b) (I : Inv X pins σ H s) (e : H a = some (exo a C none)) (hno : PySem.W.findIn X.K (.ref C) f = some none) (ry : RelV y u)
    (h : ∀ dx s', H dx = none → dx ≠ a → Inv X pins σ (upd (upd H dx (exd dx [(f, y)])) a (exo a C (some dx))) s' → Q () s') : wpAny (model X.prog X.w) A (setAttr (.ref a) f u) Q E s := by
  obtain ⟨t1, ho⟩ := exo_at I.hok e
  obtain ⟨hp, g, d, t, os⟩ := s
  refine PySem.W.set_plain I.kIn (ox := { cls := .ref C, dict := none, data := .fields #[.ref t1, .none, .none, .none, .bool false, .none] }) (od := none) ⟨ho, rfl, rfl, trivial⟩ T.sa ?_
  refine PySem.EXVm.xosa_new T I.kIn ho hno (fun h' tk' dx k dn dne hx hn => ?_)
  have hnd : H dx = none := I.hok.fresh dn
  have nd : ∀ {b : Addr} {o : Obj}, hp.get? b = some o → b ≠ dx := fun {b o} q => Nat.ne_of_lt (Nat.lt_of_lt_of_le (Heap.lt_size q) dn)
  have na : ∀ {b : Addr}, H b = none → b ≠ a := fun {b} n z => by
    rw [z, e] at n
    cases n
  have Un1 : Un X.fs [] H (upd (upd H dx (exd dx [(f, y)])) a (exo a C (some dx))) hp h' := {
    keep := fun b o q n _ _ => k b o (na n) q
    slot := fun b o q n _ _ => ⟨o.slots, k b o (na n) q⟩
    free := fun b o q n _ => by rw [upd_ne (na n), upd_ne (nd q)]; exact n
    there := fun b o q _ => by
      by_cases hb : b = a
      · exact ⟨_, by rw [hb]; exact hx⟩
      · exact ⟨o, k b o hb q⟩
    tups := fun b xs q => by rw [upd_ne (at_ne e q exo_tup), upd_ne (ne_of_none q hnd)]; exact q
    frzs := fun b o v q => by rw [upd_ne (at_ne e q exo_frz), upd_ne (ne_of_none q hnd)]; exact q
    tbls := fun b ps q => ⟨#[], by rw [upd_ne (at_ne e q exo_tbl), upd_ne (ne_of_none q hnd), q]; simp⟩ }
  refine h dx _ hnd dne (I.un (t' := tk') Un1 fun b o q => ?_)
  by_cases hb : b = a
  · subst hb
    rw [upd_same] at q
    cases q
    exact exo_ok hx
  · rw [upd_ne hb] at q
    by_cases hd : b = dx
    · subst hd
      rw [upd_same] at q
      cases q
      exact exd_ok hn (relO_put (fs := []) ry fun g => True.intro)
    · rw [upd_ne hd] at q
      exact (I.hok b o q).stay (fun c v hc z => k c v (by
          rcases hc with hc | hc
          · rw [hc]
            exact hb
          · exact at_ne e hc exo_own) z)
        (fun c hc => by rw [upd_ne (at_ne e hc exo_own), upd_ne (ne_of_none hc hnd)]; exact hc) (fun c xs hc => by rw [upd_ne (at_ne e hc exo_tup), upd_ne (ne_of_none hc hnd)]; exact hc)
/-- self.f = y, a further one -/
theorem xst_old (T : XC X.K C b) (I : Inv X pins σ H s) (e : H a = some (exo a C (some dx))) (ed : H dx = some (exd dx fs)) (hl : fs.length ≤ 900) (hno : PySem.W.findIn X.K (.ref C) f = some none) (ry : RelV y u)
    (h : ∀ s', Inv X pins σ (upd H dx (exd dx ((f, y) :: fs))) s' → Q () s') : wpAny (model X.prog X.w) A (setAttr (.ref a) f u) Q E s := by
  obtain ⟨t1, ho⟩ := exo_at I.hok e
  obtain ⟨mA, hns, rel⟩ := exd_at I.hok ed
  have hw := within_of rel
  obtain ⟨hp, g, d, t, os⟩ := s
  obtain ⟨oD, _, _, hoD, _, _⟩ := hns.count hw
  refine PySem.W.set_plain I.kIn (ox := { cls := .ref C, dict := some dx, data := .fields #[.ref t1, .none, .none, .none, .bool false, .none] }) (od := some oD) ⟨ho, rfl, rfl, hoD⟩ T.sa ?_
  refine PySem.EXVm.xosa_old T I.kIn ho hns hw (by rw [List.length_map]; omega) hno (fun h' tk' k hn => ?_)
  have hd : ∃ o, h'.get? dx = some o := by
    obtain ⟨o, _, _, e', _⟩ := hn
    exact ⟨o, e'⟩
  exact h _ (I.write (t' := tk') (x := dx) (e := dx) (o := exd dx ((f, y) :: fs)) (by rw [ed]; exact True.intro) (.inl rfl) k hd (exd_ok hn (relO_put ry rel)))
/-- B.__init__(self, ..): nothing of it is told -/
theorem xinit_ok {us : List Value} {od : Option Addr} {Q : Value → Shared → Prop} (T : XC X.K C b) (I : Inv X pins σ H s) (e : H a = some (exo a C od)) (hl : us.length ≤ sizeLine) (h : ∀ s', Inv X pins σ H s' → Q .none s') :
    wpAny (model X.prog X.w) A (call (.builtin b.it) (.ref a :: us)) Q E s := by
  obtain ⟨nm, N', qn, bs, bm, hdct, sn, sub, ab, col, dd, k0, k1, k2, k3, k5, hC, hT⟩ := W.excInit_of I.kIn T.q
  obtain ⟨t1, ho⟩ := exo_at I.hok e
  obtain ⟨hp, g, d, t, os⟩ := s
  refine wpAny_call (PySem.EXVm.init_base_d b.fb hT hC ho hl fun h' t2 k hx => ?_)
  have J := I.write (t' := t) (x := a) (e := a) (o := exo a C od) (by rw [e]; exact True.intro) (.inl rfl) k ⟨_, hx⟩ (exo_ok hx)
  have eu : upd H a (exo a C od) = H := by
    funext b
    by_cases hb : b = a
    · rw [hb, upd_same, e]
    · rw [upd_ne hb]
  rw [eu] at J
  exact h _ J
end
/-! ### readings and rules -/
/-- B.__init__(self, ..) -/
def tXi (K : PySem.W.Frag) (b : Bs) (ta : TA) : TE := fun σ H Q => ta σ H fun vs H1 => ∃ (a C : Addr) (od : Option Addr) (ws : List V), vs = .ref a :: ws ∧ ws.length ≤ 1000 ∧ XC K C b ∧ H1 a = some (exo a C od) ∧ Q .non H1
/-- self.f = e -/
def tXst (K : PySem.W.Frag) (b : Bs) (f : Str) (to te : TE) : TS := fun D σ H => te σ H fun y H1 => to σ H1 fun x H2 => ∃ a C : Addr, x = .ref a ∧ XC K C b ∧ PySem.W.findIn K (.ref C) f = some none ∧
  ((H2 a = some (exo a C none) ∧ ∀ dx, H2 dx = none → dx ≠ a → D.nx σ (upd (upd H2 dx (exd dx [(f, y)])) a (exo a C (some dx)))) ∨
    ∃ (dx : Addr) (fs : List (Str × V)), H2 a = some (exo a C (some dx)) ∧ H2 dx = some (exd dx fs) ∧ fs.length ≤ 900 ∧ D.nx σ (upd H2 dx (exd dx ((f, y) :: fs))))
/-- e.f -/
def tXf (K : PySem.W.Frag) (b : Bs) (f : Str) (te : TE) : TE := fun σ H Q => te σ H fun x H1 => ∃ (a C d : Addr) (fs : List (Str × V)) (v : V), x = .ref a ∧ XC K C b ∧ PySem.W.findIn K (.ref C) f = some none ∧ H1 a = some (exo a C (some d)) ∧ H1 d = some (exd d fs) ∧ fs.lookup f = some v ∧ Q v H1
section
variable {X : Cx} {o e : Expr} {es : List Expr} {to te : TE} {ta : TA} {f : Str} {p p' p1 p2 pos : Pos} {b : Bs}
theorem pe_xiV {pl : Sem Bool} (hg : Gl X "ValueError") (hm : X.mg "ValueError" = none) (ha : PA X (e :: es) ta)
    (hc : eval (.Call (.Attribute (.Name "ValueError" p1) "__init__" p2) (e :: es) [] pos) X.env = (do
      let ov ← eval (.Name "ValueError" p1) X.env
      standAt p2.atName
      let (f, first) ← holding [ov] (getMethod ov "__init__" pl)
      callWith pos f first (backTo pos (starEach (e :: es) X.env)) (backToKw pos (keywordEach [] X.env))) := by rfl)
    (he : starEach (e :: es) X.env = (false, eval e X.env) :: starEach es X.env := by rfl) (hpl : (backTo pos (starEach es X.env)).any (·.1) = false := by rfl) :
    PE X (.Call (.Attribute (.Name "ValueError" p1) "__init__" p2) (e :: es) [] pos) (tXi X.K .V ta) := by
  refine ⟨fun pins s σ H Q I h => ?_⟩
  refine PySem.W.methodCall_KW (ld_blt I hg hm PyProof.Rows.Boot.«ValueError» ?_ (by decide) (by decide)) hc
  obtain ⟨m, fr⟩ := I.fr
  refine PySem.W.method_type fr I.ok.mod.kin PySem.OEX.typ_VE (by decide +kernel) (by rfl) (by decide +kernel) ?_
  show wpAny _ _ (callWith pos (Value.builtin "ValueError.__init__") [] (backTo pos (starEach (e :: es) X.env)) []) _ _ _
  refine PyProof.Rows.callWith_method1 (thn (ha.run pos pins _ σ H _ (I.tok _) h) fun us s1 ⟨vs, H1, I1, r1, a, C, od, ws, ev, hl, T, ea, q⟩ => ?_) he hpl
  subst ev
  cases r1 with
  | @cons _ u0 _ ur ra rw' =>
    obtain rfl : u0 = Value.ref a := ra
    have hlen : ur.length ≤ sizeLine := by
      rw [← Paired.length rw', sizeLine_eq]
      omega
    exact xinit_ok T I1 ea hlen fun s' J => ⟨.non, H1, J, rfl, q⟩
end
end L2
/-! B.__init__ for the other bases, classes called with keywords, attributes, isinstance. -/
namespace PySem.W
open PySem PySem.Spec PySem.Calls PyProof.Rows
section
variable {prog : Program} {w : World} {A : Around} {E : Value → Shared → Prop} {s : Shared} {K : Frag} {x D : Addr} {ox : Obj} {od : Option Obj}
theorem findObj_dataG {C : Addr} {name : Str} {a g : Value} (hc : (clsIn K C).isSome = true) (ha : findIn K (.ref C) name = some (some a)) (hg : specialIn K a "__get__" = some (some g)) (ht : takesIn K a = some true) : findObj K C od name = some (.bind g a) := by
  obtain ⟨cd, hc⟩ := Option.isSome_iff_exists.mp hc
  unfold findObj
  rw [hc, Option.bind_some, ha, Option.bind_some]
  simp [hg, ht]
theorem kin_classG {Q : Option Value → Shared → Prop} (hga : findIn K (.ref D) "__getattribute__" = some (some (.builtin "BaseException.__getattribute__"))) (hgt : findIn K (.ref D) "__getattr__" = some none) (hsub : subIn K (.ref D) (.type "BaseException") = some true)
    (hdct : hasDictIn K D = true) (ha : findIn K (.ref D) "__class__" = some (some (.builtin "object.__class__")))
    (hn : specialIn K (.builtin "object.__class__") "__get__" = some (some (.builtin "getset_descriptor.__get__"))) (htk : takesIn K (.builtin "object.__class__") = some true) (hm : mroIn K D (.type "object") = some true)
    (X : K.In s.heap) (I : InstAt s.heap x ox D od) (h : Q (some (.ref D)) { s with toks := s.toks + 1 }) : wpAny (model prog w) A (getAttr? (.ref x) "__class__") Q E s := by
  have hf : findObj K D od "__class__" = some (.bind (.builtin "getset_descriptor.__get__") (.builtin "object.__class__")) := findObj_dataG (by obtain ⟨cd, hc, _⟩ := any_some hdct; rw [hc]; rfl) ha hn htk
  obtain ⟨hp, g, d, t, os⟩ := s
  have L0 := I.type (M := model prog w)
  have L1 := looks_findIn (M := model prog w) X hga
  have L2 := looks_findIn (M := model prog w) X hgt
  have L3 := looks_find (M := model prog w) X I hf
  have sub : Looks (model prog w) hp (isInstance (.ref x) (.type "BaseException")) true := L0.andThen (looks_subIn X hsub)
  have hx0 : (false && onTheHeap (Value.builtin "BaseException.__getattribute__")) = false := rfl
  have hx2 : (Value.builtin "BaseException.__getattribute__" == Value.builtin "object.__getattribute__") = false := by decide +kernel
  have hx1 : (onTheHeap (Value.ref D) && Value.builtin "BaseException.__getattribute__" == Value.builtin "object.__getattribute__") = false := by rw [hx2]; rfl
  unfold getAttr? getAttrBy? getAttrBy
  refine wpAny_bind (wpAny_mkText (wpAny_bind (wpAny_attempt (wpAny_holding (wpAny_bind (L0.at (wpAny_bind (L1.at ?_))))))))
  show wpAny _ _ (if (onTheHeap (Value.ref D) && Value.builtin "BaseException.__getattribute__" == Value.builtin "object.__getattribute__") = true then _ else _) _ _ _
  rw [hx1, if_neg Bool.false_ne_true]
  unfold getAttrByItsOwn hookBefore
  refine wpAny_bind ?_
  rw [if_pos (show onTheHeap (Value.ref D) = true from rfl)]
  refine L2.at ?_
  refine wpAny_bind (wpAny_attempt (wpAny_holding ?_))
  unfold callGetattribute
  rw [hx0, if_neg Bool.false_ne_true]
  unfold boundAndCalled
  rw [PySem.F.excAttr_ValueError.ga.bind (.ref x)]
  refine wpAny_bind (wpAny_pure ?_)
  show wpAny _ _ (call (.builtin "BaseException.__getattribute__") [.ref x, .str "__class__" t]) _ _ _
  refine wpAny_call (codeAny_call_builtin PySem.F.excAttr_ValueError.ga.plain PySem.F.entry_bexc_ga ?_)
  refine @check_slot (model prog w) _ _ ⟨hp, g, d, t + 1, os⟩ "BaseException.__getattribute__" "BaseException" "__getattribute__" (.ref x) [.str "__class__" t] [] _ (by decide +kernel) (by decide +kernel) sub (PySem.F.args_bexc_ga (.ref x) (.str "__class__" t)) ?_
  unfold Builtin.«object.__getattribute__»
  refine wpAny_bind (wpAny_of_eq (a := ((Value.ref x : Value), [Value.str "__class__" t])) (by first | rfl | (simp only [slotArgs]; rfl)) ?_)
  refine wpAny_bind (wpAny_pure (wpAny_bind (L0.at (wpAny_bind (L3.at ?_)))))
  show wpAny _ _ (holding [Value.builtin "object.__class__"] (call (.builtin "getset_descriptor.__get__") [.builtin "object.__class__", .ref x, .ref D]) >>= ret) _ _ _
  refine wpAny_bind (wpAny_holding (wpAny_call (class_get (s := ⟨hp, g, d, t + 1, os⟩) (ox := ox) (od := od) X I hm ?_)))
  refine wpAny_pure ?_
  show wpAny _ _ (handedOut (.ref D)) _ _ _
  rw [handedOut_of (v := .ref D) rfl]
  first
    | exact wpAny_pure (wpAny_pure h)
    | exact wpAny_pure h
    | exact wpAny_pure (wpAny_bind (wpAny_pure (wpAny_pure h)))
theorem kitx_excG (hga : findIn K (.ref D) "__getattribute__" = some (some (.builtin "BaseException.__getattribute__"))) (hgt : findIn K (.ref D) "__getattr__" = some none) (hsub : subIn K (.ref D) (.type "BaseException") = some true) (hdct : hasDictIn K D = true) (ha : findIn K (.ref D) "__class__" = some (some (.builtin "object.__class__")))
    (hn : specialIn K (.builtin "object.__class__") "__get__" = some (some (.builtin "getset_descriptor.__get__"))) (htk : takesIn K (.builtin "object.__class__") = some true) (hm : mroIn K D (.type "object") = some true) :
    KitX K (.ref x) (.ref D) (fun h => ∃ ox od, InstAt h x ox D od) where
  ty := fun _ _ _ ⟨_, _, I⟩ => I.type
  it := fun _ _ X _ => by
    obtain ⟨cdD, hcD, _⟩ := any_some hdct
    unfold clsIn at hcD
    split at hcD
    · rename_i c' d' cd' sl' ho
      intro A' Q' E' s' k q
      unfold isType loadHead
      exact wpAny_bind (wpAny_loadPart (k _ _ (X _ _ ho)) (wpAny_pure q))
    · cases hcD
  ne := fun h tp dd its n sl X htp => by
    obtain ⟨cdD, hcD, _⟩ := any_some hdct
    refine Bool.eq_false_iff.mpr fun q => ?_
    have e : D = tp := Value.ref.inj (beq_iff_eq.mp q)
    subst e
    unfold clsIn at hcD
    split at hcD
    · rename_i c' d' cd' sl' ho
      have z := (X _ _ ho).symm.trans htp
      cases z
    · cases hcD
  ca := fun X I k => by
    obtain ⟨_, _, I⟩ := I
    exact kin_classG hga hgt hsub hdct ha hn htk hm X I k
end
end PySem.W
namespace PySem.EXVm
theorem typ_LE : typeOf (.type "LookupError") = pure (.type "type") := by kernel_rfl
theorem typ_RE : typeOf (.type "RuntimeError") = pure (.type "type") := by kernel_rfl
end PySem.EXVm
namespace L2
open PySem PySem.Spec PyProof.Rows
section
variable {K : PySem.W.Frag} {x qual : Str} {params : Arguments} {body : List Stmt} {scope : Scope} {f : Addr} {fd : FuncData} {ps : List Str}
/-- a def without defaults, called with n values and the keywords ks -/
theorem FunD.kb (F : FunD K x qual params body scope [] [] f fd) (n : Nat) (ks : List Str) (g : {α : Type} → List α → List α → List α)
    (hrel : ∀ {vs zs : List V} {us ws : List Value}, Vals vs us → Vals zs ws → Vals (g vs zs) (g us ws))
    (h : ∀ (kV doc pm : Value) (an : Option Addr) (cdv ct : Value) (us ws : List Value), us.length = n → ws.length = ks.length → bindArgs (PySem.W.fnOf x qual params body scope .none kV doc pm an cdv ct) ⟨us, ks.zip ws⟩ = pure (ps.zip (g us ws))) :
    KBn K fd ps n ks (fun us ws => g us ws) (fun vs zs => g vs zs) := by
  obtain ⟨oc, od, dV, kV, doc, pm, an, cdv, ct, osl, rfl, lk, hcd, hD, hK⟩ := F.ex
  rcases hD with ⟨_, rfl⟩ | ⟨e, _⟩
  · exact ⟨fun s us ws _ l1 l2 => .of_eq (h kV doc pm an cdv ct us ws l1 l2), fun r z => hrel r z⟩
  · exact absurd rfl e
end
section
variable {X : Cx} {o e : Expr} {es : List Expr} {to te : TE} {ta : TA} {f : Str} {p p' p1 p2 pos : Pos} {b : Bs}
theorem pe_xiL {pl : Sem Bool} (hg : Gl X "LookupError") (hm : X.mg "LookupError" = none) (ha : PA X (e :: es) ta)
    (hc : eval (.Call (.Attribute (.Name "LookupError" p1) "__init__" p2) (e :: es) [] pos) X.env = (do
      let ov ← eval (.Name "LookupError" p1) X.env
      standAt p2.atName
      let (f, first) ← holding [ov] (getMethod ov "__init__" pl)
      callWith pos f first (backTo pos (starEach (e :: es) X.env)) (backToKw pos (keywordEach [] X.env))) := by rfl)
    (he : starEach (e :: es) X.env = (false, eval e X.env) :: starEach es X.env := by rfl) (hpl : (backTo pos (starEach es X.env)).any (·.1) = false := by rfl) :
    PE X (.Call (.Attribute (.Name "LookupError" p1) "__init__" p2) (e :: es) [] pos) (tXi X.K .L ta) := by
  refine ⟨fun pins s σ H Q I h => ?_⟩
  refine PySem.W.methodCall_KW (ld_blt I hg hm (show bootBuiltins ("LookupError" : Str) = some (.type "LookupError") by decide +kernel) ?_ (by decide) (by decide)) hc
  obtain ⟨m, fr⟩ := I.fr
  refine PySem.W.method_type fr I.ok.mod.kin PySem.EXVm.typ_LE (by decide +kernel) (by rfl) (by decide +kernel) ?_
  show wpAny _ _ (callWith pos (Value.builtin "LookupError.__init__") [] (backTo pos (starEach (e :: es) X.env)) []) _ _ _
  refine PyProof.Rows.callWith_method1 (thn (ha.run pos pins _ σ H _ (I.tok _) h) fun us s1 ⟨vs, H1, I1, r1, a, C, od, ws, ev, hl, T, ea, q⟩ => ?_) he hpl
  subst ev
  cases r1 with
  | @cons _ u0 _ ur ra rw' =>
    obtain rfl : u0 = Value.ref a := ra
    have hlen : ur.length ≤ sizeLine := by
      rw [← Paired.length rw', sizeLine_eq]
      omega
    exact xinit_ok T I1 ea hlen fun s' J => ⟨.non, H1, J, rfl, q⟩
theorem pe_xiR {pl : Sem Bool} (hg : Gl X "RuntimeError") (hm : X.mg "RuntimeError" = none) (ha : PA X (e :: es) ta)
    (hc : eval (.Call (.Attribute (.Name "RuntimeError" p1) "__init__" p2) (e :: es) [] pos) X.env = (do
      let ov ← eval (.Name "RuntimeError" p1) X.env
      standAt p2.atName
      let (f, first) ← holding [ov] (getMethod ov "__init__" pl)
      callWith pos f first (backTo pos (starEach (e :: es) X.env)) (backToKw pos (keywordEach [] X.env))) := by rfl)
    (he : starEach (e :: es) X.env = (false, eval e X.env) :: starEach es X.env := by rfl) (hpl : (backTo pos (starEach es X.env)).any (·.1) = false := by rfl) :
    PE X (.Call (.Attribute (.Name "RuntimeError" p1) "__init__" p2) (e :: es) [] pos) (tXi X.K .R ta) := by
  refine ⟨fun pins s σ H Q I h => ?_⟩
  refine PySem.W.methodCall_KW (ld_blt I hg hm (show bootBuiltins ("RuntimeError" : Str) = some (.type "RuntimeError") by decide +kernel) ?_ (by decide) (by decide)) hc
  obtain ⟨m, fr⟩ := I.fr
  refine PySem.W.method_type fr I.ok.mod.kin PySem.EXVm.typ_RE (by decide +kernel) (by rfl) (by decide +kernel) ?_
  show wpAny _ _ (callWith pos (Value.builtin "RuntimeError.__init__") [] (backTo pos (starEach (e :: es) X.env)) []) _ _ _
  refine PyProof.Rows.callWith_method1 (thn (ha.run pos pins _ σ H _ (I.tok _) h) fun us s1 ⟨vs, H1, I1, r1, a, C, od, ws, ev, hl, T, ea, q⟩ => ?_) he hpl
  subst ev
  cases r1 with
  | @cons _ u0 _ ur ra rw' =>
    obtain rfl : u0 = Value.ref a := ra
    have hlen : ur.length ≤ sizeLine := by
      rw [← Paired.length rw', sizeLine_eq]
      omega
    exact xinit_ok T I1 ea hlen fun s' J => ⟨.non, H1, J, rfl, q⟩
theorem ps_xst (ho : PE X o to) (he : PE X e te) (hs : swapsWith e (some (.Attribute o f p')) pos.line X.env = pure false := by rfl) : PS X (.Assign [.Attribute o f p'] e pos) (tXst X.K b f to te) := by
  refine ⟨fun pins s σ H D I h => ?_⟩
  refine plainObj_wpAny_Assign_Attribute (thn (he.run pins s σ H _ I h) fun v s1 ⟨y, H1, I1, r1, q1⟩ => thn (ho.run pins s1 σ H1 _ I1 q1) fun u s2 ⟨x, H2, I2, r2, a, C, ex, T, hno, q⟩ => ?_) hs
  subst ex
  obtain rfl : u = Value.ref a := r2
  rcases q with ⟨ea, q⟩ | ⟨dx, fs, ea, ed, hl, q⟩
  · exact xst_new T I2 ea hno r1 fun dx s' n ne J => ⟨σ, _, J, q dx n ne⟩
  · exact xst_old T I2 ea ed hl hno r1 fun s' J => ⟨σ, _, J, q⟩
/-- e.f, e an exception of an own class -/
theorem pe_xat (he : PE X e te) (hb : attributeBase e f X.env (eval e X.env) = eval e X.env := by rfl) : PE X (.Attribute e f pos) (tXf X.K b f te) := by
  refine ⟨fun pins s σ H Q I h => ?_⟩
  refine attr_of hb (thn (he.run pins s σ H _ I h) fun u s1 hh => ?_)
  obtain ⟨x, H1, I1, rx, a, C, d, fs, v, ex, T, hno, ea, ed, l, q⟩ := hh
  subst ex
  obtain rfl : u = Value.ref a := rx
  obtain ⟨t1, ho⟩ := exo_at I1.hok ea
  obtain ⟨mA, hns, hr⟩ := exd_at I1.hok ed
  obtain ⟨od, hod, hl⟩ := lookIn_ns hns
  obtain ⟨u, hu, ru⟩ := RelO.some_of (v := v) (o := mA f) (by rw [← l]; exact hr f)
  have J : PySem.W.InstAt s1.heap a { cls := .ref C, dict := some d, data := .fields #[.ref t1, .none, .none, .none, .bool false, .none] } C (some od) := ⟨ho, rfl, rfl, hod⟩
  exact HandSPX.exc_get I1.kIn J T.ex.hg T.ex.hk T.ex.hs (PySem.W.findObj_own T.hd hno rfl (by rw [hl, hu])) (handed_of ru) ⟨v, H1, I1.tok _, ru, q⟩
end
/-! ### isinstance -/
/-- at a: an exception of the class at C, its dict (if it has one) tracked -/
def ExcAt (H : Hp) (a C : Addr) : Prop := H a = some (exo a C none) ∨ ∃ d fs, H a = some (exo a C (some d)) ∧ H d = some (exd d fs)
theorem ExcAt.inst {P : Program} {w : World} {H : Hp} {h : Heap} {a C : Addr} (hok : HOk P w H h) (e : ExcAt H a C) : ∃ ox od, PySem.W.InstAt h a ox C od := by
  rcases e with e | ⟨d, fs, e, ed⟩
  · obtain ⟨t1, ho⟩ := exo_at hok e
    exact ⟨_, none, ho, rfl, rfl, trivial⟩
  · obtain ⟨t1, ho⟩ := exo_at hok e
    obtain ⟨mA, hns, hr⟩ := exd_at hok ed
    obtain ⟨od, hod, hl⟩ := lookIn_ns hns
    exact ⟨_, some od, ho, rfl, rfl, hod⟩
def rXis (K : PySem.W.Frag) : List V → Hp → VK → Prop := fun xs H Q => ∃ (a C : Addr) (c : V) (cv : Value) (b : Bool), xs = [.ref a, c] ∧ ClsV c cv ∧ ExcAt H a C ∧ ExcC K C ∧ PySem.W.kitOne K (.ref C) cv = some b ∧ Q (.bl b) H
def rXisT (K : PySem.W.Frag) : List V → Hp → VK → Prop := fun xs H Q => ∃ (a C tp : Addr) (cs : List V) (us : List Value) (b : Bool), xs = [.ref a, .ref tp] ∧ H tp = some (.tup cs) ∧ Paired ClsV cs us ∧ ExcAt H a C ∧ ExcC K C ∧ PySem.W.kitAny K (.ref C) us = some b ∧ Q (.bl b) H
section
variable {X : Cx}
theorem call_xis : CallR X (.builtin "isinstance") (rXis X.K) := by
  intro pins s σ H xs us Q I r h
  obtain ⟨a, C, c, cv, b, rfl, k, ea, T, e, q⟩ := h
  obtain ⟨u1, u2, rfl, r1, r2⟩ := vals2 r
  have e2 := k.eq r2
  subst e2
  cases (show u1 = Value.ref a from r1)
  exact PySem.W.kia_one (PySem.W.kitx_excG T.hg T.hk T.hs T.hd T.ha T.hn T.ht T.hm) I.kIn (ea.inst I.hok) e (fun z => nomatch z) fun tk => ⟨.bl b, H, I.tok tk, rfl, q⟩
theorem call_xisT : CallR X (.builtin "isinstance") (rXisT X.K) := by
  intro pins s σ H xs us Q I r h
  obtain ⟨a, C, tp, cs, ws, b, rfl, hT, k, ea, T, e, q⟩ := h
  obtain ⟨u1, u2, rfl, r1, r2⟩ := vals2 r
  cases (show u2 = Value.ref tp from r2)
  cases (show u1 = Value.ref a from r1)
  obtain ⟨_, its, rv, o, h1, h2, n, h3⟩ := (show ObjOk X.prog X.w H s.heap tp (.tup cs) from I.hok tp _ hT)
  have e3 := ClsV.all k rv
  subst e3
  obtain ⟨oc, od, dt, sl⟩ := o
  simp only at h2 h3
  subst h2 h3
  exact PySem.W.kia_tup (PySem.W.kitx_excG T.hg T.hk T.hs T.hd T.ha T.hn T.ht T.hm) I.kIn (ea.inst I.hok) h1 e (fun z => nomatch z) fun tk => ⟨.bl b, H, I.tok tk, rfl, q⟩
end
/-! ### C(e, .., k = v, ..), kept as a value -/
def tXmk (C : Addr) (n m : Nat) (sp : Sp) (gV : List V → List V → List V) (t tk : TA) : TE := fun σ H Q => t σ H fun vs H1 => tk σ H1 fun zs H2 => vs.length = n ∧ zs.length = m ∧
  ∀ x, H2 x = none → sp (gV (.ref x :: vs) zs) (upd H2 x (exo x C none)) (fun v H3 => v = .non ∧ Q (.ref x) H3) E0
section
variable {X : Cx} {k n : Nat} {fI C : Addr} {fd : FuncData} {ps ks : List Str} {sp : Sp} {x : Str} {p pos : Pos} {e : Expr} {es : List Expr} {kws : List Keyword} {t tk : TA} {g : List Value → List Value → List Value} {gV : List V → List V → List V} {b : Bs}
theorem run_xmk {pins : List (Addr × Obj)} {σ : St} {H : Hp} {s : Shared} {Q : VK} {us ws : List Value} {vs zs : List V} (T : XC X.K C b) (iC : PySem.W.findIn X.K (.ref C) "__init__" = some (some (.ref fI))) (tI : PySem.W.isFn X.K (.ref fI) = true)
    (F : FnOk X.prog X.w X.K X.mg X.base CX0 k fI fd ps sp) (hr : Room (k + 1) X.A) (hb : KBn X.K fd ps (n + 1) ks g gV) (hn : n ≤ 1000)
    (I : Inv X pins σ H s) (r : Vals vs us) (rz : Vals zs ws) (l1 : vs.length = n) (l2 : zs.length = ks.length)
    (h : ∀ x, H x = none → sp (gV (.ref x :: vs) zs) (upd H x (exo x C none)) (fun v H2 => v = .non ∧ Q (.ref x) H2) E0) :
    wpAny (model X.prog X.w) X.A (call (.ref C) us (ks.zip ws)) (EP X pins σ Q) X.xe s := by
  obtain ⟨nm, N', qn, bs, bm, hdct, sn, sub, ab, col, dd, k0, k1, k2, k3, k5, hC, hT⟩ := PySem.W.excInit_of I.kIn T.q
  obtain ⟨hp, gs, dr, tk', os⟩ := s
  have hsz : hp.objs.size ≤ hp.objs.size + 1 := Nat.le_succ _
  have hn1 : H (hp.objs.size + 1) = none := I.hok.fresh hsz
  have hq := h (hp.objs.size + 1) hn1
  have kk : ∀ b o, hp.get? b = some o → ((hp.push (PySem.W.kdv_tup us)).push (PySem.HandSPX.excO C hp.objs.size)).get? b = some o := fun b o e => Heap.get?_push_of_some _ (Heap.get?_push_of_some _ e)
  have hget : ((hp.push (PySem.W.kdv_tup us)).push (PySem.HandSPX.excO C hp.objs.size)).get? (hp.objs.size + 1) = some (PySem.HandSPX.excO C hp.objs.size) := by heap_get
  have I2 : Inv X pins σ (upd H (hp.objs.size + 1) (exo (hp.objs.size + 1) C none)) ⟨(hp.push (PySem.W.kdv_tup us)).push (PySem.HandSPX.excO C hp.objs.size), gs, dr, tk', os⟩ :=
    I.laid (t' := tk') (a := hp.objs.size + 1) (o := exo (hp.objs.size + 1) C none) (h' := (hp.push (PySem.W.kdv_tup us)).push (PySem.HandSPX.excO C hp.objs.size)) kk hsz (exo_ok hget)
  have r1 : Vals (V.ref (hp.objs.size + 1) :: vs) (Value.ref (hp.objs.size + 1) :: us) := .cons rfl r
  have r2 := hb.rel r1 rz
  have lu : us.length = n := by rw [← r.length, l1]
  have n1 : (Value.ref (hp.objs.size + 1) :: us).length = n + 1 := by
    rw [List.length_cons, lu]
  have hus : us.length ≤ sizeLine := by
    rw [lu, sizeLine_eq]
    omega
  refine wpAny_call (PySem.EXVm.call_kw b.fb hT hC (PySem.W.looks_findIn I.kIn iC) (fun self => PySem.W.bind_fn I.kIn self (beq_iff_eq.mp tI)) hus
    (codeAny_mono (F.run _ X.stack _ _ ⟨Value.ref (hp.objs.size + 1) :: us, ks.zip ws⟩ (g (Value.ref (hp.objs.size + 1) :: us) ws) _ _ E0 (hr.make C us (ks.zip ws)) (I2.env0.make C us (ks.zip ws)) (hb.to _ (Value.ref (hp.objs.size + 1) :: us) ws I2.kIn n1 (rz.length.symm.trans l2)) r2 hq) fun r s' hq' => ?_))
  cases r with
  | error er => exact pass0 pins σ _ _ er s' I2 hq'
  | ok fl =>
    cases fl with
    | ret u =>
      obtain ⟨v, H', I3, rv, ev, q3⟩ := I2.after hq'
      subst ev
      exact ⟨rv, ⟨V.ref (hp.objs.size + 1), H', I3, rfl, q3⟩⟩
    | next => exact False.elim hq'
    | brk => exact False.elim hq'
    | cont => exact False.elim hq'
/-- C(e, ..) -/
theorem pe_xmk (T : XC X.K C b) (iC : PySem.W.findIn X.K (.ref C) "__init__" = some (some (.ref fI))) (tI : PySem.W.isFn X.K (.ref fI) = true) (F : FnOk X.prog X.w X.K X.mg X.base CX0 k fI fd ps sp) (hr : Room (k + 1) X.A) (hb : KBn X.K fd ps (n + 1) [] g gV) (hn : n ≤ 1000)
    (hg : Gl X x) (hm : X.mg x = some (.ref C)) (ha : PA X (e :: es) t)
    (hdb : (x == ("__debug__" : Str)) = false := by decide) (he : starEach (e :: es) X.env = (false, eval e X.env) :: starEach es X.env := by rfl) (hpl : (backTo pos (starEach es X.env)).any (·.1) = false := by rfl) :
    PE X (.Call (.Name x p) (e :: es) [] pos) (tXmk C n 0 sp gV t tNil) := by
  refine ⟨fun pins s σ H Q I h => ?_⟩
  refine wpAny_Call_Name_kw (ld_glob I hg hm ?_ hdb)
  refine PySem.W.callWith_K (h₀ := X.base) I.ok.mod.kin T.kC (thn (ha.run pos pins s σ H _ I h) fun us s1 ⟨vs, H1, I1, r, l1, _, q⟩ => ⟨I1.kIn, ?_⟩) he hpl
  exact run_xmk (ws := []) (zs := []) T iC tI F hr hb hn I1 r .nil l1 rfl q
/-- C() -/
theorem pe_xmk0 (T : XC X.K C b) (iC : PySem.W.findIn X.K (.ref C) "__init__" = some (some (.ref fI))) (tI : PySem.W.isFn X.K (.ref fI) = true) (F : FnOk X.prog X.w X.K X.mg X.base CX0 k fI fd ps sp) (hr : Room (k + 1) X.A) (hb : KBn X.K fd ps 1 [] g gV)
    (hg : Gl X x) (hm : X.mg x = some (.ref C)) (hdb : (x == ("__debug__" : Str)) = false := by decide) :
    PE X (.Call (.Name x p) [] [] pos) (tXmk C 0 0 sp gV tNil tNil) := by
  refine ⟨fun pins s σ H Q I h => ?_⟩
  refine wpAny_Call_Name_kw (ld_glob I hg hm ?_ hdb)
  exact PySem.W.callWith_K0 I.kIn T.kC (run_xmk (us := []) (vs := []) (ws := []) (zs := []) T iC tI F hr hb (Nat.zero_le _) I .nil .nil rfl rfl h.2.2)
/-- C(k = v, ..) -/
theorem pe_xmkK (T : XC X.K C b) (iC : PySem.W.findIn X.K (.ref C) "__init__" = some (some (.ref fI))) (tI : PySem.W.isFn X.K (.ref fI) = true) (F : FnOk X.prog X.w X.K X.mg X.base CX0 k fI fd ps sp) (hr : Room (k + 1) X.A) (hb : KBn X.K fd ps 1 ks g gV)
    (hg : Gl X x) (hm : X.mg x = some (.ref C)) (hkw : PK X kws tk)
    (hall : (backToKw pos (keywordEach kws X.env)).all (·.1.isSome) = true := by rfl) (hks : (backToKw pos (keywordEach kws X.env)).filterMap (·.1) = ks := by rfl) (hdb : (x == ("__debug__" : Str)) = false := by decide)
    (hpl : ((backTo pos (starEach [] X.env)).any (·.1) || (backToKw pos (keywordEach kws X.env)).any (·.1.isNone)) = false := by rfl) :
    PE X (.Call (.Name x p) [] kws pos) (tXmk C 0 ks.length sp gV tNil tk) := by
  refine ⟨fun pins s σ H Q I h => ?_⟩
  refine wpAny_Call_Name_kw (ld_glob I hg hm ?_ hdb)
  refine PySem.W.callWith_KW0 (h₀ := X.base) I.ok.mod.kin T.kC hall ?_ hpl
  refine thn (hkw.run pos pins s σ H _ I h) fun ws s2 ⟨zs, H2, I2, rz, l1, l2, q2⟩ => ⟨I2.kIn, ?_⟩
  rw [hks]
  exact run_xmk (us := []) (vs := []) T iC tI F hr hb (Nat.zero_le _) I2 .nil rz rfl l2 q2
end
end L2
/-! The text by places; classes by their number; the exceptions' constructors. -/
namespace Own
open PySem PySem.Spec PyProof.Rows L2
def top (i : Nat) : Stmt := PySem.Challenge.pw_stillgood_k12_errors_and_their_values.main.body.getD i (.Pass ⟨0, 0, 0, 0⟩)
abbrev FnP (K : PySem.W.Frag) (x : Str) (st : Stmt) (f : Addr) (fd : FuncData) : Prop := FunD K x x (defArgs st) (defBody st) (defScope st) [] [] f fd
/-- an __init__ of the class named c -/
abbrev FnI (K : PySem.W.Frag) (c : Str) (st : Stmt) (f : Addr) (fd : FuncData) : Prop := FunD K "__init__" (c ++ ".__init__") (defArgs st) (defBody st) (defScope st) [] [] f fd
abbrev sTupled : Stmt := top 1
abbrev sBox : Stmt := top 26
abbrev sTake : Stmt := top 27
abbrev sCells : Stmt := top 28
abbrev sOf : Stmt := top 29
abbrev sSame : Stmt := top 30
abbrev sIsNum : Stmt := top 31
abbrev sNames : Stmt := top 32
abbrev sUnder : Stmt := top 33
abbrev sMarks : Stmt := top 34
abbrev sLookups : Stmt := top 35
abbrev sValues : Stmt := top 36
abbrev sPairs : Stmt := top 37
abbrev sRight : Stmt := top 38
abbrev sLaw : Stmt := top 39
abbrev sI (i : Nat) : Stmt := inClass (top (3 + i)) 0
/-! ### numbers drawn -/
/-- the source of draws: a list of three ints -/
def Box (H : Hp) (p : Addr) (n : Nat) : Prop := ∃ x y z : Int, H p = some (.lst [.int x, .int y, .int z]) ∧ 0 ≤ x ∧ -(2 ^ 40) < y ∧ y < 2 ^ 62 ∧ 0 ≤ z ∧ z ≤ n
theorem Box.mono {H : Hp} {p : Addr} {n m : Nat} (h : Box H p n) (l : n ≤ m) : Box H p m := by
  obtain ⟨x, y, z, a, b, c, d, e, f⟩ := h
  exact ⟨x, y, z, a, b, c, d, e, by omega⟩
/-- all that was tracked but p is as it was -/
def SameBut (p : Addr) (H H' : Hp) : Prop := ∀ b o, H b = some o → b ≠ p → H' b = some o
theorem SameBut.of {p : Addr} {H H' : Hp} (h : Same H H') : SameBut p H H' := fun b o e _ => h b o e
theorem SameBut.trans {p : Addr} {H H1 H2 : Hp} (a : SameBut p H H1) (b : SameBut p H1 H2) : SameBut p H H2 := fun c o h n => b c o (a c o h n) n
def spTake : Sp := fun vs H Q _ => ∃ (p : Addr) (n : Nat) (m : Int), vs = [.ref p, .int m] ∧ Box H p n ∧ n ≤ 100000 ∧ 0 < m ∧ m.natAbs < 2 ^ 200 ∧
  ∀ (r : Int) (x y z : Int), 0 ≤ r → r < m → 0 ≤ x → -(2 ^ 40) < y → y < 2 ^ 62 → 0 ≤ z → z ≤ (n + 1 : Nat) → Q (.int r) (upd H p (.lst [.int x, .int y, .int z]))
theorem scTake : FnScope ["_law_box_here", "_law_below", "_law_drawn", "_law_once", "_law_odd", "_law_twice"] ["_law_box_here", "_law_below"] (defScope sTake) := ⟨rfl, rfl, rfl, by decide +kernel, rfl, by decide +kernel, by decide +kernel⟩
section
variable {P : Program} {w : World} {K : PySem.W.Frag} {mg : Str → Option Value} {base : Heap}
/-- box[i] -/
theorem ok_take {f : Addr} {fd : FuncData} (F : FnP K "_law_take" sTake f fd) (mInt : mg "int" = none) : FnOk P w K mg base CX0 1 f fd ["_law_box_here", "_law_below"] spTake := by
  refine F.ok scTake (fun vs H Q E h => ?_) (fun cdv A outer s H vs Q E hr h => ?_)
  · obtain ⟨p, n, m, rfl, _⟩ := h
    rfl
  · obtain ⟨p, n, m, rfl, ⟨x, y, z, hb, hx, hy0, hy, hz0, hz⟩, hn, hm0, hm, k⟩ := h
    refine ⟨_, PSs.nox (pss_cons (ps_if (pt_cmpR op_gt (pe_ix ix_list (pv 0) pe_int (fun _ _ => rfl)) pe_int (nomark _))
        (pss_cons (ps_set (i := 2) scTake.nd rfl (Or.inl rfl) (pe_op op_mod (pe_callTy call_int1 (by rfl) mInt (by decide +kernel) (pa_cons (pe_ix ix_list (pv 0) pe_int (fun _ _ => rfl)) pa_nil)) (pv 1)))
        (pss_cons (ps_asg (pe_op op_fdivW (pe_ix ix_list (pv 0) pe_int (fun _ _ => rfl)) (pv 1)) (pg_sub (pv 0) pe_int set_list))
        (pss_one (ps_ret (pv 2))))) pss_nil)
      (pss_cons (ps_asg (pe_op op_add (pe_ix ix_list (pv 0) pe_int (fun _ _ => rfl)) pe_int) (pg_sub (pv 0) pe_int set_list))
      (pss_cons (ps_set (i := 3) scTake.nd rfl (Or.inl rfl) (pe_op op_mod (pe_callTy call_int1 (by rfl) mInt (by decide +kernel) (pa_cons (pe_op op_mul (pe_op op_add (pe_ix ix_list (pv 0) pe_int (fun _ _ => rfl)) (pe_op op_mul pe_int (pe_ix ix_list (pv 0) pe_int (fun _ _ => rfl)))) (pe_op op_add pe_int (pe_ix ix_list (pv 0) pe_int (fun _ _ => rfl)))) pa_nil)) pe_int))
      (pss_cons (ps_set (i := 4) scTake.nd rfl (Or.inl rfl) (pe_op op_add (pe_op op_mod (pe_callTy call_int1 (by rfl) mInt (by decide +kernel) (pa_cons (pv 3) pa_nil)) pe_int) pe_int))
      (pss_cons (ps_set (i := 5) scTake.nd rfl (Or.inl rfl) (pe_op op_mod (pe_callTy call_int1 (by rfl) mInt (by decide +kernel) (pa_cons (pe_op op_mul (pe_op op_add (pe_op op_add (pv 3) (pe_ix ix_list (pv 0) pe_int (fun _ _ => rfl))) (pe_op op_fdiv (pe_ix ix_list (pv 0) pe_int (fun _ _ => rfl)) pe_int)) (pv 4)) pa_nil)) pe_int))
      (pss_one (ps_ret (pe_op op_mod (pe_callTy call_int1 (by rfl) mInt (by decide +kernel) (pa_cons (pe_op op_fdiv (pe_op op_mod (pe_callTy call_int1 (by rfl) mInt (by decide +kernel) (pa_cons (pe_op op_add (pe_op op_mul (pv 5) pe_int) (pv 3)) pa_nil)) pe_int) pe_int) pa_nil)) (pv 1))))))))), ?_⟩
    have i0 : ∀ a b c : V, atI [a, b, c] (0 : Int) = some a := fun _ _ _ => rfl
    have i1 : ∀ a b c : V, atI [a, b, c] (1 : Int) = some b := fun _ _ _ => rfl
    have i2 : ∀ a b c : V, atI [a, b, c] (2 : Int) = some c := fun _ _ _ => rfl
    refine ⟨_, rfl, p, _, _, _, rfl, rfl, SqL.of hb, i0 _ _ _, _, _, rfl, rfl, _, rfl, ?_⟩
    refine ite2 (fun c => ?_) (fun c => ?_)
    · have c' : 0 < x := of_decide_eq_true c
      refine ⟨_, rfl, p, _, _, _, rfl, rfl, SqL.of hb, i0 _ _ _, .inl ⟨_, rfl, _, rfl, _, _, rfl, rfl, hm0, ?_⟩⟩
      refine ⟨_, rfl, p, _, _, _, rfl, rfl, SqL.of hb, i0 _ _ _, _, rfl, _, _, rfl, rfl, wide_div hm0 hm (by decide) (by decide), _, rfl, p, _, _, _, rfl, rfl, hb, rfl, ?_⟩
      refine ⟨_, rfl, ?_⟩
      exact k _ _ _ _ (Int.emod_nonneg _ (by omega)) (Int.emod_lt_of_pos _ hm0) (Int.ediv_nonneg hx (by omega)) hy0 hy hz0 (by omega)
    · refine ⟨_, rfl, p, _, _, _, rfl, rfl, SqL.of hb, i2 _ _ _, _, _, rfl, rfl, _, rfl, p, _, _, _, rfl, rfl, hb, rfl, ?_⟩
      have hb1 : (upd H p (.lst [.int x, .int y, .int (z + 1)])) p = some (.lst [.int x, .int y, .int (z + 1)]) := upd_same
      refine ⟨_, rfl, p, _, _, _, rfl, rfl, SqL.of hb1, i1 _ _ _, _, rfl, p, _, _, _, rfl, rfl, SqL.of hb1, i2 _ _ _, _, _, rfl, rfl, .inl ⟨by decide, by decide⟩, _, _, rfl, rfl, _, rfl, p, _, _, _, rfl, rfl, SqL.of hb1, i2 _ _ _, _, _, rfl, rfl, _, _, rfl, rfl, .inr ⟨by omega, by omega⟩, .inl ⟨_, rfl, _, _, rfl, rfl, (by show (0 : Int) < 2147483647; decide), ?_⟩⟩
      refine ⟨_, rfl, .inl ⟨_, rfl, _, _, rfl, rfl, (by show (0 : Int) < 40009; decide), _, _, rfl, rfl, ?_⟩⟩
      refine ⟨_, rfl, _, rfl, p, _, _, _, rfl, rfl, SqL.of hb1, i2 _ _ _, _, _, rfl, rfl, _, rfl, p, _, _, _, rfl, rfl, SqL.of hb1, i1 _ _ _, _, _, rfl, rfl, ⟨by decide, by decide⟩, _, _, rfl, rfl, _, rfl, _, _, rfl, rfl, .inr ⟨by omega, by omega⟩, .inl ⟨_, rfl, _, _, rfl, rfl, (by show (0 : Int) < 2147483629; decide), ?_⟩⟩
      refine ⟨_, rfl, _, _, rfl, rfl, .inr ⟨by decide, by decide⟩, _, rfl, _, _, rfl, rfl, .inl ⟨_, rfl, _, _, rfl, rfl, (by show (0 : Int) < 2147483587; decide), _, _, rfl, rfl, ⟨by decide, by decide⟩, .inl ⟨_, rfl, _, rfl, _, _, rfl, rfl, hm0, ?_⟩⟩⟩
      exact k _ _ _ _ (Int.emod_nonneg _ (by omega)) (Int.emod_lt_of_pos _ hm0) hx hy0 hy (by omega) (by omega)
end
end Own
/-! Letters and names drawn. -/
namespace Own
open PySem PySem.Spec PyProof.Rows L2
section
variable {X : Cx}
theorem op_mul_str : OpR X (binaryOp .Mult) (fun x y H Q => ∃ (z : Str) (n : Nat), x = .str z ∧ y = .int (n : Int) ∧ z.length ≤ 16 ∧ n ≤ 1000 ∧ ∀ r : Str, r.length = z.length * n → Q (.str r) H) := by
  intro pins s σ H x y v u Q I rx ry h
  obtain ⟨z, n, rfl, rfl, hz, hn, q⟩ := h
  obtain ⟨t, rfl⟩ := rx
  obtain ⟨t', rfl⟩ := ry
  refine PySem.W.KXi.mul (n := z.length) rfl hz (by omega) (by omega) fun t' k _ e => ⟨.str _, H, I.kept (t' := k) fun _ _ y => y, ⟨_, rfl⟩, q _ ?_⟩
  have e' := e (by omega)
  have e2 : ((z.length : Int) * (n : Int)) = ((z.length * n : Nat) : Int) := by simp
  rw [e2] at e'
  exact Int.ofNat.inj e'
end
/-- an item of a text at a drawn place -/
theorem atI_str {z : Str} {r : Int} (h0 : 0 ≤ r) (h1 : r < z.length) : ∃ c, atI z.cps.toList r = some c := by
  obtain ⟨j, rfl⟩ := Int.eq_ofNat_of_zero_le h0
  have hl : j < z.cps.toList.length := by
    rw [Array.length_toList]
    have : z.length = z.cps.size := rfl
    omega
  exact ⟨_, atI_nat (List.getElem?_eq_getElem hl)⟩
theorem Box.at {H : Hp} {p : Addr} {n : Nat} (h : Box H p n) : ∃ o, H p = some o := by
  obtain ⟨x, y, z, a, _⟩ := h
  exact ⟨_, a⟩
theorem Box.off {H : Hp} {p D : Addr} {n : Nat} (h : Box H p n) (hD : H D = none) : D ≠ p := by
  obtain ⟨o, ho⟩ := h.at
  intro e
  rw [e, ho] at hD
  cases hD
theorem Box.upd {H : Hp} {p q : Addr} {n : Nat} {o : HO} (h : Box H p n) (hq : q ≠ p) : Box (upd H q o) p n := by
  obtain ⟨x, y, z, a, r⟩ := h
  exact ⟨x, y, z, by rw [upd_ne (Ne.symm hq)]; exact a, r⟩
theorem Box.same {H H' : Hp} {p : Addr} {n : Nat} (h : Box H p n) (s : Same H H') : Box H' p n := by
  obtain ⟨x, y, z, a, r⟩ := h
  exact ⟨x, y, z, s _ _ a, r⟩
theorem SameBut.upd {p q : Addr} {H H' : Hp} {o : HO} (h : SameBut p H H') (hq : H' q = none) : SameBut p H (upd H' q o) := fun b u e n => by
  have z := h b u e n
  rw [upd_ne (ne_of_none z hq)]
  exact z
def abc : Str := "abcdefghijklmnopqrstuvwxyz"
def spOf : Sp := fun vs H Q _ => ∃ (p : Addr) (n : Nat) (s : Str), vs = [.ref p, .str s] ∧ Box H p n ∧ n ≤ 100000 ∧ 0 < s.length ∧ s.length ≤ 1000 ∧
  ∀ (c : Str) (H' : Hp), c.length = 1 → Box H' p (n + 1) → SameBut p H H' → Q (.str c) H'
theorem scOf : FnScope ["_law_box_here", "_law_some"] ["_law_box_here", "_law_some"] (defScope sOf) := ⟨rfl, rfl, rfl, by decide +kernel, rfl, by decide +kernel, by decide +kernel⟩
theorem scNames : FnScope ["_law_box_here", "_law_many", "_law_found", "_law_k", "_law_word_so", "_law_lap"] ["_law_box_here", "_law_many"] (defScope sNames) := ⟨rfl, rfl, rfl, by decide +kernel, rfl, by decide +kernel, by decide +kernel⟩
def spNames : Sp := fun vs H Q _ => ∃ (p : Addr) (n m : Nat), vs = [.ref p, .int (m : Int)] ∧ Box H p n ∧ m ≤ 20 ∧ n ≤ 10000 ∧
  ∀ (l : Addr) (ws : List Str) (H' : Hp), ws.length = m → (∀ x ∈ ws, x.length ≤ 16) → H l = none → H' l = some (.lst (ws.map V.str)) → Box H' p (n + 6 * m) → SameBut p H H' → Q (.ref l) H'
section
variable {P : Program} {w : World} {K : PySem.W.Frag} {mg : Str → Option Value} {base : Heap}
theorem ok_of {f fT : Addr} {fd fdT : FuncData} (F : FnP K "_law_of" sOf f fd) (FT : FnP K "_law_take" sTake fT fdT) (mTake : mg "_law_take" = some (.ref fT)) (mInt : mg "int" = none) (mLen : mg "len" = none) : FnOk P w K mg base CX0 2 f fd ["_law_box_here", "_law_some"] spOf := by
  have GT : FnOk P w K mg base CX0 1 fT fdT ["_law_box_here", "_law_below"] spTake := ok_take FT mInt
  have bT : Binds K fdT ["_law_box_here", "_law_below"] [] := FT.bindsN fun _ _ _ _ _ _ us hl => match us, hl with | [_, _], _ => rfl
  refine F.ok scOf (fun vs H Q E h => ?_) (fun cdv A outer s H vs Q E hr h => ?_)
  · obtain ⟨p, n, z, rfl, _⟩ := h
    rfl
  · obtain ⟨p, n, z, rfl, hb, hn, hz0, hz1, k⟩ := h
    refine ⟨_, PSs.nox (pss_one (ps_ret (pe_ix ix_str (pv 1) (pe_call GT hr rfl mTake FT.kp bT .nil pass0 (pa_cons (pv 0) (pa_cons (pe_callB call_len_str (by rfl) mLen PySem.boot_len (pa_cons (pv 1) pa_nil)) pa_nil))) (fun _ _ => rfl)))), ?_⟩
    have hs : z.length ≤ sizeLine := by rw [sizeLine_eq]; omega
    refine ⟨_, rfl, _, rfl, _, rfl, _, rfl, hs, p, n, _, rfl, hb, hn, by omega, by omega, fun r x y z' h0 h1 hx hy0 hy hz2 hz3 => ?_⟩
    obtain ⟨c, hc⟩ := atI_str h0 h1
    refine ⟨_, _, _, rfl, rfl, hs, hc, k _ _ rfl ⟨x, y, z', upd_same, hx, hy0, hy, hz2, hz3⟩ fun b o e ne => ?_⟩
    rw [upd_ne ne]
    exact e
end
end Own
namespace Own
open PySem PySem.Spec PyProof.Rows L2
theorem sum_ones : ∀ (l : List Str), (∀ a ∈ l, a.length = 1) → (l.map (·.length)).sum = l.length
  | [], _ => rfl
  | a :: r, h => by
    rw [List.map_cons, List.sum_cons, List.length_cons, h a (List.mem_cons_self ..), sum_ones r fun b hb => h b (List.mem_cons_of_mem _ hb)]
    omega
theorem join_ones' (l : List Str) (h : ∀ a ∈ l, a.length = 1) : (Txt.join ("" : Str) l).length = l.length := PySem.W.KT.join_ones l h
section
variable {P : Program} {w : World} {K : PySem.W.Frag} {mg : Str → Option Value} {base : Heap}
theorem ok_names {f fT fO : Addr} {fd fdT fdO : FuncData} (F : FnP K "_law_names" sNames f fd) (FT : FnP K "_law_take" sTake fT fdT) (FO : FnP K "_law_of" sOf fO fdO) (mTake : mg "_law_take" = some (.ref fT)) (mOf : mg "_law_of" = some (.ref fO)) (mInt : mg "int" = none) (mLen : mg "len" = none) (mRange : mg "range" = none) : FnOk P w K mg base CX0 3 f fd ["_law_box_here", "_law_many"] spNames := by
  have GT : FnOk P w K mg base CX0 1 fT fdT ["_law_box_here", "_law_below"] spTake := ok_take FT mInt
  have GO : FnOk P w K mg base CX0 2 fO fdO ["_law_box_here", "_law_some"] spOf := ok_of FO FT mTake mInt mLen
  have bT : Binds K fdT ["_law_box_here", "_law_below"] [] := FT.bindsN fun _ _ _ _ _ _ us hl => match us, hl with | [_, _], _ => rfl
  have bO : Binds K fdO ["_law_box_here", "_law_some"] [] := FO.bindsN fun _ _ _ _ _ _ us hl => match us, hl with | [_, _], _ => rfl
  refine F.ok scNames (fun vs H Q E h => ?_) (fun cdv A outer s H vs Q E hr h => ?_)
  · obtain ⟨p, n, m, rfl, _⟩ := h
    rfl
  · obtain ⟨p, n, m, rfl, hb, hm, hn, k⟩ := h
    have hr1 : Room 1 _ := hr.mono (by decide)
    refine ⟨_, PSs.nox (pss_cons (ps_set (i := 2) scNames.nd rfl (Or.inl rfl) (pe_lst pa_nil))
      (pss_cons (ps_for PassesOwn.never rfl (pi_range1 rfl mRange (pa_cons (pv 1) pa_nil)) (pg_name (i := 3) scNames.nd rfl (Or.inl rfl))
        (pss_cons (ps_set (i := 4) scNames.nd rfl (Or.inl rfl) (pe_join pe_str (pe_lc (own := [("_law_lap", 5)]) (g := gName 5) (tt := tYes) rfl scNames.nd
            (pi_range1 rfl mRange (pa_cons (pe_op op_add pe_int (pe_call GT hr1 rfl mTake FT.kp bT .nil pass0 (pa_cons (pv 0) (pa_cons pe_int pa_nil)))) pa_nil))
            (blkOk_by (own := [("_law_lap", 5)]) (N := ["_law_box_here", "_law_many", "_law_found", "_law_k", "_law_word_so", "_law_lap"]) (sc := defScope sNames) (by decide +kernel))
            (fun _ _ _ _ _ => pg_name (i := 5) scNames.nd rfl (Or.inl rfl)) (fun _ _ _ _ _ => pts_nil)
            (fun _ _ _ _ _ => pe_call GO hr rfl mOf FO.kp bO .nil pass0 (pa_cons (pv 0) (pa_cons pe_str pa_nil))))))
        (pss_cons (ps_if (pt_cmpR op_in_seq (pv 4) (pv 2) (by rfl))
          (pss_one (ps_set (i := 4) scNames.nd rfl (Or.inl rfl) (pe_op op_add_str (pe_slice sl_str (pe_op op_add_str (pv 4) pe_str) po_none (po_some pe_int)) (pe_op op_mul_str (pe_ix ix_str pe_str (pv 3) (fun _ _ => rfl)) pe_int)))) pss_nil)
        (pss_one (ps_expr (pe_bm PySem.F.plainAttrs_list PySem.F.slot_list_append PySem.F.type_list_append mt_append (pv 2) (pa_cons (pv 4) pa_nil)))))))
      (pss_one (ps_ret (pv 2))))), ?_⟩
    refine ⟨Nat.zero_le _, fun l hl => ?_⟩
    have nlp : l ≠ p := hb.off hl
    refine ⟨_, rfl, (m : Int), rfl, by omega, by omega, ?_⟩
    refine for_range (lo := 0) (n := (m : Int).toNat) (fun i σ H2 => ∃ (ws : List Str) (o1 o2 o3 : Option V), σ = [some (.ref p), some (.int (m : Int)), some (.ref l), o1, o2, o3] ∧ ws.length = i ∧ (∀ x ∈ ws, x.length ≤ 16) ∧ H2 l = some (.lst (ws.map V.str)) ∧ Box H2 p (n + 6 * i) ∧ SameBut p H H2) ?_ ?_ ?_
    · refine ⟨[], none, none, none, rfl, rfl, by simp, upd_same, (hb.upd nlp), SameBut.upd (fun b o e _ => e) hl⟩
    · rintro i σ H2 hi ⟨ws, o1, o2, o3, rfl, hw1, hw2, hlw, hb2, s2⟩
      have hi' : i < m := by omega
      -- the word
      refine ⟨⟨_, rfl⟩, ?_⟩
      refine ⟨_, rfl, p, n + 6 * i, _, rfl, hb2, by omega, by omega, by omega, fun r x y z h0 h1 hx hy0 hy hz0 hz => ?_⟩
      have hb3 : Box (upd H2 p (.lst [.int x, .int y, .int z])) p (n + 6 * i + 1) := ⟨x, y, z, upd_same, hx, hy0, hy, hz0, hz⟩
      have s3 : SameBut p H (upd H2 p (.lst [.int x, .int y, .int z])) := fun b o e ne => by
        rw [upd_ne ne]
        exact s2 b o e ne
      have hl3 : (upd H2 p (.lst [.int x, .int y, .int z])) l = some (.lst (ws.map V.str)) := by
        rw [upd_ne nlp]
        exact hlw
      generalize upd H2 p (.lst [.int x, .int y, .int z]) = H3 at hb3 s3 hl3
      refine ⟨_, _, rfl, rfl, _, rfl, by omega, by omega, fun D hD => ?_⟩
      have nDp : D ≠ p := hb3.off hD
      have nDl : D ≠ l := fun e => by
        rw [e, hl3] at hD
        cases hD
      refine lc_range (lo := 0) (n := (1 + r).toNat) (fun j H4 => ∃ cs : List Str, cs.length = j ∧ (∀ c ∈ cs, c.length = 1) ∧ H4 D = some (.lst (cs.map V.str)) ∧ H4 l = some (.lst (ws.map V.str)) ∧ Box H4 p (n + 6 * i + 1 + j) ∧ SameBut p H H4) ?_ ?_ ?_
      · exact ⟨[], rfl, by simp, upd_same, by rw [upd_ne (Ne.symm nDl)]; exact hl3, hb3.upd nDp, s3.upd hD⟩
      · rintro j H4 hj ⟨cs, hc1, hc2, hD4, hl4, hb4, s4⟩
        refine ⟨rfl, ?_⟩
        refine ⟨_, rfl, p, n + 6 * i + 1 + j, _, rfl, hb4, by omega, by decide, by decide, fun c H5 hc hb5 s5 => ?_⟩
        have hD5 := s5 _ _ hD4 nDp
        refine ⟨_, hD5, by rw [List.length_map]; exact small1000 (by omega), cs ++ [c], by simp [hc1], ?_, ?_, ?_, ?_, ?_⟩
        · intro a ha
          rcases List.mem_append.mp ha with h | h
          · exact hc2 a h
          · rw [List.mem_singleton.mp h]
            exact hc
        · rw [upd_same, List.map_append]
          rfl
        · rw [upd_ne (Ne.symm nDl)]
          exact s5 _ _ hl4 nlp
        · exact (hb5.upd nDp)
        · intro b o e ne
          have e4 := s4 b o e ne
          have ebD : b ≠ D := ne_of_none (s3 b o e ne) hD
          rw [upd_ne ebD]
          exact s5 _ _ e4 ne
      · rintro H4 ⟨cs, hc1, hc2, hD4, hl4, hb4, s4⟩
        have hlen : cs.length ≤ 4 := by omega
        have hsum : (cs.map (·.length)).sum = cs.length := sum_ones cs hc2
        have hz0 : ("" : Str).length = 0 := by decide
        refine ⟨_, _, cs, rfl, rfl, .inl (SqL.of hD4), by rw [hsum, hz0]; omega, ?_⟩
        have hw : (Txt.join ("" : Str) cs).length = cs.length := join_ones' cs hc2
        have hflat : (ws.map V.str).all flatV = true := by
          rw [List.all_map]
          exact List.all_eq_true.mpr fun _ _ => rfl
        have fin : ∀ x ∈ ws ++ [Txt.join ("" : Str) cs], x.length ≤ 16 := fun x hx => by
          rcases List.mem_append.mp hx with h | h
          · exact hw2 x h
          · rw [List.mem_singleton.mp h, hw]
            omega
        have hlt : (ws.map V.str).length < sizeLine := by
          rw [List.length_map]
          exact small1000 (by omega)
        have hb6 : ∀ o, Box (upd H4 l o) p (n + 6 * (i + 1)) := fun o => (hb4.mono (by omega)).upd nlp
        have s6 : ∀ o, SameBut p H (upd H4 l o) := fun o b u e ne => by
          rw [upd_ne (ne_of_none e hl)]
          exact s4 b u e ne
        refine ⟨_, rfl, _, rfl, l, _, rfl, .inl (SqL.of hl4), rfl, hflat, _, rfl, ?_⟩
        refine ite2 (fun _ => ?_) (fun _ => ?_)
        · have e4 : ("jjjj" : Str).length = 4 := by decide
          have hs4 : sizeLine = 16777216 := by rw [sizeLine_eq]
          have habc : ("abcdefghijklmnopqrstuvwxyz" : Str).length = 26 := by decide +kernel
          obtain ⟨c, hc⟩ := atI_str (z := ("abcdefghijklmnopqrstuvwxyz" : Str)) (r := 0 + (i : Int)) (by omega) (by rw [habc]; omega)
          have hcut : (cutS (Txt.join ("" : Str) cs ++ ("jjjj" : Str)) none (some 4)).length ≤ 8 := Nat.le_trans (cutS_length _ _ _) (by rw [PySem.Str.length_append, hw, e4]; omega)
          refine ⟨_, rfl, _, _, rfl, rfl, by rw [hw, e4, hs4]; omega, _, rfl, _, rfl, by rw [PySem.Str.length_append, hw, e4, hs4]; omega, _, rfl, _, _, c, rfl, rfl, by rw [habc, hs4]; decide, hc, _, 2, rfl, rfl, Nat.le_of_ble_eq_true rfl, by decide, fun r2 hr2 => ?_⟩
          have hr2' : r2.length = 2 := by
            rw [hr2]
            rfl
          refine ⟨_, _, rfl, rfl, by rw [hr2', hs4]; omega, ?_⟩
          refine ⟨_, rfl, .inl ⟨rfl, _, SqL.of hl4⟩, _, rfl, _, _, _, rfl, rfl, hl4, hlt, ?_⟩
          refine ⟨ws ++ [cutS (Txt.join ("" : Str) cs ++ ("jjjj" : Str)) none (some 4) ++ r2], _, _, _, rfl, by simp [hw1], fun x hx => ?_, by rw [upd_same, List.map_append]; rfl, hb6 _, s6 _⟩
          rcases List.mem_append.mp hx with h | h
          · exact hw2 x h
          · rw [List.mem_singleton.mp h, PySem.Str.length_append]
            omega
        · refine ⟨_, rfl, .inl ⟨rfl, _, SqL.of hl4⟩, _, rfl, _, _, _, rfl, rfl, hl4, hlt, ?_⟩
          exact ⟨ws ++ [Txt.join ("" : Str) cs], _, _, _, rfl, by simp [hw1], fin, by rw [upd_same, List.map_append]; rfl, hb6 _, s6 _⟩
    · rintro σ H2 ⟨ws, o1, o2, o3, rfl, hw1, hw2, hlw, hb2, s2⟩
      have e : (m : Int).toNat = m := by omega
      rw [e] at hw1 hb2
      exact ⟨_, rfl, k l ws H2 hw1 hw2 hl hlw hb2 s2⟩
end
end Own
/-! The cells and the source of draws. -/
namespace Own
open PySem PySem.Spec PyProof.Rows L2
/-- a loop over enumerate(a list) -/
theorem for_enum {K : PySem.W.Frag} {a : Addr} {xs : List V} {g : TG} {tb : TS} {D : Ends} {σ : L2.St} {H : Hp} (Pv : Nat → L2.St → Hp → Prop) (h0 : Pv 0 σ H) (hl : ∀ i σ H, i ≤ xs.length → Pv i σ H → SqL K H a xs)
    (hs : ∀ i x T σ H, xs[i]? = some x → Pv i σ H → H T = none → g (.ref T) σ (upd H T (.tup [.int (i : Nat), x])) fun σ2 H2 => tb { D with nx := Pv (i + 1), ct := Pv (i + 1), bk := D.nx } σ2 H2) (hd : ∀ σ H, Pv xs.length σ H → D.nx σ H) :
    ∃ W : Nat → Nat → L2.St → Hp → Prop, (∃ m, W 0 m σ H) ∧ ∀ i m σ H, W i m σ H →
      ((Ite K a).stop i H ∧ D.nx σ H) ∨ ((Ite K a).go i H ∧ ∃ N : L2.St → Hp → Prop, (∀ σ' H', N σ' H' → ∃ m', m' < m ∧ W (i + 1) m' σ' H') ∧ ∀ x H', (Ite K a).yld i H x H' → g x σ H' fun σ2 H2 => tb { D with nx := N, ct := N, bk := D.nx } σ2 H2) := by
  refine ⟨fun i m σ H => m = xs.length - i ∧ i ≤ xs.length ∧ Pv i σ H, ⟨xs.length, by simp, Nat.zero_le _, h0⟩, ?_⟩
  rintro i m σ H ⟨rfl, hi, p⟩
  have q := hl i σ H hi p
  by_cases hlt : i < xs.length
  · refine .inr ⟨⟨xs, xs[i], q, by simp [hlt]⟩, Pv (i + 1), fun σ' H' p' => ⟨xs.length - (i + 1), by omega, rfl, hlt, p'⟩, fun x H' y => ?_⟩
    obtain ⟨T, z, rfl, hT, rfl, y⟩ := y
    exact hs i z T σ H (y xs q) p hT
  · have e : i = xs.length := by omega
    subst e
    exact .inl ⟨⟨xs, q, Nat.le_refl _⟩, hd σ H p⟩
theorem scBox : FnScope ["_law_script", "_law_k", "_law_cell"] ["_law_script", "_law_k"] (defScope sBox) := ⟨rfl, rfl, rfl, by decide +kernel, rfl, by decide +kernel, by decide +kernel⟩
def spBox (K : PySem.W.Frag) : Sp := fun vs H Q _ => ∃ (a : Addr) (ns : List Int) (k : Nat), vs = [.ref a, .int (k : Int)] ∧ SqL K H a (ns.map V.int) ∧ k ≤ 10 ∧
  ∀ (p : Addr) (x y z : Int), H p = none → Box (upd H p (.lst [.int x, .int y, .int z])) p 0 → Q (.ref p) (upd H p (.lst [.int x, .int y, .int z]))
theorem scCells : FnScope ["_law_script", "_law_most_so", "_law_cells_here", "_law_k", "_law_cell", "_law_at_so"] ["_law_script", "_law_most_so"] (defScope sCells) := ⟨rfl, rfl, rfl, by decide +kernel, rfl, by decide +kernel, by decide +kernel⟩
def spCells (K : PySem.W.Frag) : Sp := fun vs H Q _ => ∃ (a : Addr) (ns : List Int) (m : Nat), vs = [.ref a, .int (m : Int)] ∧ SqL K H a (ns.map V.int) ∧ ns.length ≤ 63 ∧ 0 < m ∧ m ≤ 10 ∧
  ∀ (l : Addr) (cs : List Int) (H' : Hp), cs.length ≤ m → H l = none → H' l = some (.lst (cs.map V.int)) → Same H H' → Q (.ref l) H'
/-- what follows the first row of _law_cells -/
def tCR (K : PySem.W.Frag) : TS := tSeq (tFor (iEnum K (tCons (tSl (rSlL K) (tVar 0) (tPart (tVar 1)) (tPart (tC (.int 63)))) tNil)) (gTup K 2 (gCons (gName 3) (gCons (gName 4) gNil)))
  (tSeq (tAsg (tOp (rI (fun _ j => 0 < j) fun i j => .int (i % j)) (tCB (fun xs H Q => (∃ i, xs = [.int i] ∧ Q (.int i) H) ∨ ∃ k, xs = [.bl k] ∧ Q (.int (if k = true then 1 else 0)) H) (tCons (tVar 3) tNil)) (tVar 1)) (gName 5))
    (tAsg (tOp (rI0 fun i j => .int (i + j)) (tOp (rIxL K) (tVar 2) (tVar 5)) (tOp (rI CMul fun i j => .int (i * j)) (tVar 4) (tOp (rI0 fun i j => .int (i + j)) (tVar 3) (tC (.int 2))))) (gSub (tVar 2) (tVar 5) rSetL)))) (tRet (tVar 2))
theorem cut_first (ns : List Int) (m : Nat) : ∃ cs : List Int, cutV (ns.map V.int) none (some (m : Int)) = cs.map V.int ∧ cs.length ≤ m ∧ (m < ns.length → cs.length = m) ∧ (0 < m → cs = [] → ns = []) := by
  refine ⟨ns.take (min m ns.length), ?_, ?_, fun h => ?_, fun h e => ?_⟩
  · unfold cutV
    rw [HT.sIx_nat, HT.sIx_none, List.drop_zero, Nat.sub_zero, List.length_map, List.map_take]
  · rw [List.length_take]
    omega
  · rw [List.length_take]
    omega
  · have z : (ns.take (min m ns.length)).length = 0 := by rw [e]; rfl
    rw [List.length_take] at z
    exact List.eq_nil_of_length_eq_zero (by omega)
theorem cut_rest (ns : List Int) (m : Nat) : ∃ zs : List Int, cutV (ns.map V.int) (some (m : Int)) (some (63 : Int)) = zs.map V.int ∧ (zs ≠ [] → m < ns.length) ∧ zs.length ≤ ns.length := by
  have h63 : (63 : Int) = ((63 : Nat) : Int) := rfl
  refine ⟨(ns.drop (min m ns.length)).take (min 63 ns.length - min m ns.length), ?_, fun h => ?_, ?_⟩
  · unfold cutV
    rw [h63, HT.sIx_nat, HT.sIx_nat, List.length_map, List.map_take, List.map_drop]
  · by_cases q : m < ns.length
    · exact q
    · exfalso
      apply h
      apply List.eq_nil_of_length_eq_zero
      rw [List.length_take, List.length_drop]
      omega
  · rw [List.length_take, List.length_drop]
    omega
theorem Same.upd {q : Addr} {H H' : Hp} {o : HO} (h : Same H H') (hq : H' q = none) : Same H (L2.upd H' q o) := fun b u e => by
  have z := h b u e
  rw [upd_ne (ne_of_none z hq)]
  exact z
theorem Same.put {q : Addr} {H H' : Hp} {o : HO} (h : Same H H') (hq : H q = none) : Same H (L2.upd H' q o) := fun b u e => by
  rw [upd_ne (ne_of_none e hq)]
  exact h b u e
section
variable {P : Program} {w : World} {K : PySem.W.Frag} {mg : Str → Option Value} {base : Heap}
theorem ok_box {f : Addr} {fd : FuncData} (F : FnP K "_law_box" sBox f fd) (mInt : mg "int" = none) (mLen : mg "len" = none) (mAbs : mg "abs" = none) : FnOk P w K mg base CX0 1 f fd ["_law_script", "_law_k"] (spBox K) := by
  refine F.ok scBox (fun vs H Q E h => ?_) (fun cdv A outer s H vs Q E hr h => ?_)
  · obtain ⟨a, ns, kk, rfl, _⟩ := h
    rfl
  · obtain ⟨a, ns, kk, rfl, hS, hk, k⟩ := h
    refine ⟨_, PSs.nox (pss_cons (ps_set (i := 2) scBox.nd rfl (.inl rfl) (pe_ifExp (pt_cmpR op_lt (pv 1) (pe_callB call_len_seq (by rfl) mLen PySem.boot_len (pa_cons (pv 0) pa_nil)) (nomark _)) (pe_ix ix_list (pv 0) (pv 1) (fun _ _ => rfl)) pe_int))
      (pss_one (ps_ret (pe_lst (pa_cons (pe_op op_mul (pe_callB call_abs (by rfl) mAbs (by decide +kernel) (pa_cons (pv 2) pa_nil)) (pe_callTy call_int1 (by rfl) mInt (by decide +kernel) (pa_cons (pe_cmpR op_ge (pe_callB call_abs (by rfl) mAbs (by decide +kernel) (pa_cons (pv 2) pa_nil)) (pe_op op_pow pe_int pe_int) (nomark _)) pa_nil)))
        (pa_cons (pe_op op_add (pe_op op_add (pe_op op_mod (pe_callTy call_int1 (by rfl) mInt (by decide +kernel) (pa_cons (pv 2) pa_nil)) pe_int) (pe_op op_mul pe_int (pv 1))) pe_int) (pa_cons pe_int pa_nil))))))), ?_⟩
    refine ⟨_, rfl, _, rfl, a, _, rfl, .inl hS, _, _, rfl, rfl, _, rfl, ?_⟩
    have key : ∀ cell : Int, 0 ≤ (if cell < 0 then -cell else cell) := fun cell => by
      split <;> omega
    have fin : ∀ (cell : Int) (c : Bool) (p : Addr), H p = none → Q (.ref p) (upd H p (.lst [.int ((if cell < 0 then -cell else cell) * (if c = true then 1 else 0)), .int (cell % 2305843009213693951 + 39373 * (kk : Int) + 58512), .int 0])) := fun cell c p hp => by
      refine k p _ _ _ hp ⟨_, _, _, upd_same, ?_, ?_, ?_, by decide, by decide⟩
      · have := key cell
        cases c
        · simp
        · simpa using this
      · have := Int.emod_nonneg cell (show (2305843009213693951 : Int) ≠ 0 by decide)
        omega
      · have := Int.emod_lt_of_pos cell (show (0 : Int) < 2305843009213693951 by decide)
        omega
    have one : ∀ c : Bool, -(2 ^ 64) < (if c = true then (1 : Int) else 0) ∧ (if c = true then (1 : Int) else 0) < 2 ^ 64 := fun c => by
      cases c <;> decide
    refine ite2 (fun c => ?_) (fun c => ?_)
    · have hlt : kk < ns.length := by
        have := of_decide_eq_true c
        rw [List.length_map] at this
        omega
      refine ⟨_, rfl, _, rfl, a, _, _, .int ns[kk], rfl, rfl, hS, atI_nat (by rw [List.getElem?_map, List.getElem?_eq_getElem hlt]; rfl), ?_⟩
      refine ⟨_, rfl, _, rfl, _, rfl, _, rfl, _, _, rfl, rfl, ⟨by decide, by decide, by decide⟩, _, _, rfl, rfl, .inr ⟨_, rfl, _, _, rfl, rfl, .inr (one _), ?_⟩⟩
      refine ⟨_, rfl, .inl ⟨_, rfl, _, _, rfl, rfl, (by show (0 : Int) < 2305843009213693951; decide), _, rfl, _, _, rfl, rfl, .inl ⟨by decide, by decide⟩, _, _, rfl, rfl, _, _, rfl, rfl, ?_⟩⟩
      exact ⟨by show 3 ≤ sizeLine; decide, fun p hp => fin _ _ p hp⟩
    · show gName 2 _ _ _ _
      refine ⟨_, rfl, _, rfl, _, rfl, _, rfl, _, _, rfl, rfl, ⟨by decide, by decide, by decide⟩, _, _, rfl, rfl, .inr ⟨_, rfl, _, _, rfl, rfl, .inr (one _), ?_⟩⟩
      refine ⟨_, rfl, .inl ⟨_, rfl, _, _, rfl, rfl, (by show (0 : Int) < 2305843009213693951; decide), _, rfl, _, _, rfl, rfl, .inl ⟨by decide, by decide⟩, _, _, rfl, rfl, _, _, rfl, rfl, ?_⟩⟩
      exact ⟨by show 3 ≤ sizeLine; decide, fun p hp => fin 0 _ p hp⟩
theorem ok_cells {f : Addr} {fd : FuncData} (F : FnP K "_law_cells" sCells f fd) (mInt : mg "int" = none) (mList : mg "list" = none) (mEnum : mg "enumerate" = none) : FnOk P w K mg base CX0 1 f fd ["_law_script", "_law_most_so"] (spCells K) := by
  refine F.ok scCells (fun vs H Q E h => ?_) (fun cdv A outer s H vs Q E hr h => ?_)
  · obtain ⟨a, ns, m, rfl, _⟩ := h
    rfl
  · obtain ⟨a, ns, m, rfl, hS, hl, hm0, hm, k⟩ := h
    refine ⟨_, PSs.nox (pss_cons (ps_set (i := 2) scCells.nd rfl (.inl rfl) (pe_orT (pe_callTy call_list_of (by rfl) mList (by decide +kernel) (pa_cons (pe_slice sl_list (pv 0) po_none (po_some (pv 1))) pa_nil)) (pe_one (pe_lst (pa_cons pe_int pa_nil)))))
      (pss_cons (ps_for PassesOwn.never rfl (pi_enum (by rfl) mEnum (pa_cons (pe_slice sl_list (pv 0) (po_some (pv 1)) (po_some pe_int)) pa_nil)) (pg_tup rfl (pgs_cons (pg_name (i := 3) scCells.nd rfl (.inl rfl)) (pgs_cons (pg_name (i := 4) scCells.nd rfl (.inl rfl)) pgs_nil)))
        (pss_cons (ps_set (i := 5) scCells.nd rfl (.inl rfl) (pe_op op_mod (pe_callTy call_int1 (by rfl) mInt (by decide +kernel) (pa_cons (pv 3) pa_nil)) (pv 1)))
        (pss_one (ps_asg (pe_op op_add (pe_ix ix_list (pv 2) (pv 5) (fun _ _ => rfl)) (pe_op op_mul (pv 4) (pe_op op_add (pv 3) pe_int))) (pg_sub (pv 2) (pv 5) set_list)))))
      (pss_one (ps_ret (pv 2))))), ?_⟩
    obtain ⟨cs1, ec1, lc1, fc1, z1⟩ := cut_first ns m
    obtain ⟨zs, ez, fz, lz⟩ := cut_rest ns m
    refine ⟨_, rfl, _, rfl, _, rfl, a, _, rfl, hS, fun p1 hp1 => ?_⟩
    refine ⟨p1, _, rfl, .inl (SqL.of upd_same), fun l1 hl1 => ?_⟩
    have s1 : Same H (L2.upd H p1 (.lst (cutV (ns.map V.int) none (some (m : Int))))) := Same.upd (Same.refl H) hp1
    have s2 : Same H (L2.upd (L2.upd H p1 (.lst (cutV (ns.map V.int) none (some (m : Int))))) l1 (.lst (cutV (ns.map V.int) none (some (m : Int))))) := Same.upd s1 hl1
    have f1 : H l1 = none := s1.free hl1
    refine ⟨_, .inl ⟨_, SqL.of upd_same, rfl⟩, ?_⟩
    have rest : ∀ (l : Addr) (cs : List Int) (H1 : Hp), cs.length ≤ m → (m < ns.length → cs.length = m) → H l = none → H1 l = some (.lst (cs.map V.int)) → Same H H1 →
        tCR K { nx := fun _ H' => Q .non H', rt := Q } [some (.ref a), some (.int (m : Int)), some (.ref l), none, none, none] H1 := by
      intro l cs H1 hc hf fl hl1 sm
      refine ⟨_, rfl, _, rfl, _, rfl, _, rfl, a, _, rfl, sm.seq hS, fun p3 hp3 => ⟨p3, _, rfl, SqL.of upd_same, ?_⟩⟩
      rw [ez]
      have n3l : p3 ≠ l := fun e => by
        rw [e, hl1] at hp3
        cases hp3
      refine for_enum (xs := zs.map V.int) (fun i σ H2 => ∃ (cs2 : List Int) (o1 o2 o3 : Option V), σ = [some (.ref a), some (.int (m : Int)), some (.ref l), o1, o2, o3] ∧ cs2.length = cs.length ∧ H2 l = some (.lst (cs2.map V.int)) ∧ H2 p3 = some (.lst (zs.map V.int)) ∧ Same H H2) ?_ ?_ ?_ ?_
      · exact ⟨cs, none, none, none, rfl, rfl, by rw [upd_ne (Ne.symm n3l)]; exact hl1, upd_same, Same.upd sm hp3⟩
      · rintro i σ H2 hi ⟨cs2, o1, o2, o3, rfl, e2, hl2, hp2, s2'⟩
        exact SqL.of hp2
      · rintro i x T σ H2 hx ⟨cs2, o1, o2, o3, rfl, e2, hl2, hp2, s2'⟩ hT
        have hi : i < zs.length := by
          have := (List.getElem?_eq_some_iff.mp hx).1
          rw [List.length_map] at this
          exact this
        obtain ⟨zv, rfl⟩ : ∃ zv : Int, x = .int zv := by
          rw [List.getElem?_map, List.getElem?_eq_getElem hi] at hx
          exact ⟨_, (Option.some.inj hx).symm⟩
        have hm' : cs2.length = m := by
          rw [e2]
          exact hf (fz fun e => by rw [e] at hi; exact absurd hi (Nat.not_lt_zero _))
        have nTl : T ≠ l := fun e => by
          rw [e, hl2] at hT
          cases hT
        have nT3 : T ≠ p3 := fun e => by
          rw [e, hp2] at hT
          cases hT
        refine ⟨T, _, rfl, SqT.of upd_same, rfl, _, _, rfl, _, _, rfl, rfl, ?_⟩
        have hl3 : (L2.upd H2 T (.tup [.int (i : Nat), .int zv])) l = some (.lst (cs2.map V.int)) := by
          rw [upd_ne (Ne.symm nTl)]
          exact hl2
        refine ⟨_, rfl, .inl ⟨_, rfl, _, rfl, _, _, rfl, rfl, (by show (0 : Int) < (m : Int); omega), ?_⟩⟩
        have hj : i % m < cs2.length := by
          rw [hm']
          exact Nat.mod_lt _ hm0
        have ej : ((i : Int) % (m : Int)) = ((i % m : Nat) : Int) := by omega
        have hat : atI (cs2.map V.int) ((i : Int) % (m : Int)) = some (.int cs2[i % m]) := by
          rw [ej]
          exact atI_nat (by rw [List.getElem?_map, List.getElem?_eq_getElem hj]; rfl)
        have hix : ixN (cs2.map V.int).length ((i : Int) % (m : Int)) = some (i % m) := by
          unfold ixN
          rw [ej, List.length_map, if_pos (by omega), if_pos (by omega)]
          exact congrArg some (Int.toNat_natCast _)
        refine ⟨_, rfl, _, rfl, l, _, _, _, rfl, rfl, SqL.of hl3, hat, _, rfl, _, rfl, _, _, rfl, rfl, _, _, rfl, rfl, .inr ⟨by omega, by omega⟩, _, _, rfl, rfl, _, rfl, _, rfl, l, _, _, i % m, rfl, rfl, hl3, hix, ?_⟩
        refine ⟨cs2.set (i % m) (cs2[i % m] + zv * ((i : Int) + 2)), _, _, _, rfl, by rw [List.length_set]; exact e2, by rw [upd_same, List.map_set], by rw [upd_ne (Ne.symm n3l).symm, upd_ne (Ne.symm nT3)]; exact hp2, ?_⟩
        exact Same.put (Same.upd s2' hT) fl
      · rintro σ H2 ⟨cs2, o1, o2, o3, rfl, e2, hl2, hp2, s2'⟩
        exact ⟨_, rfl, k l cs2 H2 (by omega) fl hl2 s2'⟩
    refine ite2 (fun c => ?_) (fun c => ?_)
    · exact rest l1 cs1 _ lc1 fc1 f1 (by rw [upd_same, ec1]) s2
    · have en : ns = [] := by
        rw [ec1] at c
        refine z1 hm0 ?_
        cases cs1 with
        | nil => rfl
        | cons z r => exact absurd rfl c
      refine ⟨by show 1 ≤ sizeLine; decide, fun l2 hl2 => ?_⟩
      exact rest l2 [0] _ (by show 1 ≤ m; omega) (fun h => by rw [en] at h; exact absurd h (Nat.not_lt_zero _)) (s2.free hl2) upd_same (Same.upd s2 hl2)
end
end Own
/-! tupled, _law_is_number, _law_same. -/
namespace Own
open PySem PySem.Spec PyProof.Rows L2
theorem any2 {K : PySem.W.Frag} {t a b : String} {r1 r2 : Bool} (h1 : kitB t a = some r1) (h2 : kitB t b = some r2) : PySem.W.kitAny K (.type t) [.type a, .type b] = some (r1 || r2) := by
  refine kitAny_cons (kit_ty h1) (fun e => ?_) (fun e => by rw [e]; rfl)
  rw [e, Bool.false_or]
  exact kitAny_cons (kit_ty h2) (fun e => by rw [e]; exact kitAny_nil) (fun e => e)
theorem pair2 {a b : String} : Paired ClsV [V.ty a, V.ty b] [Value.type a, Value.type b] := .cons (.ty a) (.cons (.ty b) .nil)
/-- an int or a text -/
def Fl (v : V) : Prop := (∃ i, v = .int i) ∨ ∃ z, v = .str z
theorem scTupled : FnScope ["value", "part"] ["value"] (defScope sTupled) := ⟨rfl, rfl, rfl, by decide +kernel, rfl, by decide +kernel, by decide +kernel⟩
def spFlat : Sp := fun vs H Q _ => ∃ v : V, vs = [v] ∧ Fl v ∧ ∀ H', Same H H' → Q v H'
def spTupled : Sp := fun vs H Q _ => ∃ (a : Addr) (xs : List V), vs = [.ref a] ∧ H a = some (.tup xs) ∧ (∀ x ∈ xs, Fl x) ∧ xs.length ≤ 100 ∧ ∀ (b : Addr) (H' : Hp), H b = none → H' b = some (.tup xs) → Same H H' → Q (.ref b) H'
theorem scIsNum : FnScope ["_law_matter"] ["_law_matter"] (defScope sIsNum) := ⟨rfl, rfl, rfl, by decide +kernel, rfl, by decide +kernel, by decide +kernel⟩
def spIsNum : Sp := fun vs H Q _ => ∃ i : Int, vs = [.int i] ∧ Q (.bl true) H
/-- the same data, no more than so deep -/
def Eqv : Nat → Hp → V → V → Prop
  | 0, _, g, u => (∃ i, g = .int i ∧ u = .int i) ∨ ∃ z, g = .str z ∧ u = .str z
  | n + 1, H, g, u => ((∃ i, g = .int i ∧ u = .int i) ∨ ∃ z, g = .str z ∧ u = .str z) ∨ ∃ (a b : Addr) (xs ys : List V), g = .ref a ∧ u = .ref b ∧ ((H a = some (.lst xs) ∧ H b = some (.lst ys)) ∨ (H a = some (.tup xs) ∧ H b = some (.tup ys))) ∧ xs.length ≤ 100 ∧ Paired (Eqv n H) xs ys
theorem paired_mono {α β : Type} {R S : α → β → Prop} (h : ∀ a b, R a b → S a b) : ∀ {xs : List α} {ys : List β}, Paired R xs ys → Paired S xs ys
  | _, _, .nil => .nil
  | _, _, .cons r t => .cons (h _ _ r) (paired_mono h t)
theorem Eqv.same : ∀ {n : Nat} {H H' : Hp} {g u : V}, Same H H' → Eqv n H g u → Eqv n H' g u
  | 0, _, _, _, _, _, h => h
  | n + 1, _, _, _, _, s, h => by
    rcases h with h | ⟨a, b, xs, ys, e1, e2, h, l, p⟩
    · exact .inl h
    · refine .inr ⟨a, b, xs, ys, e1, e2, ?_, l, paired_mono (fun _ _ q => Eqv.same s q) p⟩
      rcases h with ⟨h1, h2⟩ | ⟨h1, h2⟩
      · exact .inl ⟨s _ _ h1, s _ _ h2⟩
      · exact .inr ⟨s _ _ h1, s _ _ h2⟩
theorem Eqv.fl {n : Nat} {H : Hp} {g u : V} (h : Eqv 0 H g u) : Eqv n H g u := by
  cases n with
  | zero => exact h
  | succ n => exact .inl h
def spSame (n : Nat) : Sp := fun vs H Q _ => ∃ g u : V, vs = [g, u] ∧ Eqv n H g u ∧ ∀ H', Same H H' → Q (.bl true) H'
theorem scSame : FnScope ["_law_got", "_law_due", "_law_mine", "_law_its"] ["_law_got", "_law_due"] (defScope sSame) := ⟨rfl, rfl, rfl, by decide +kernel, rfl, by decide +kernel, by decide +kernel⟩
section
variable {P : Program} {w : World} {K : PySem.W.Frag} {mg : Str → Option Value} {base : Heap}
structure MgT (mg : Str → Option Value) : Prop where
  isi : mg "isinstance" = none
  list : mg "list" = none
  tuple : mg "tuple" = none
  dict : mg "dict" = none
  int : mg "int" = none
  bool : mg "bool" = none
  str : mg "str" = none
  len : mg "len" = none
  all : mg "all" = none
  zip : mg "zip" = none
theorem ok_tupled0 {f : Addr} {fd : FuncData} (F : FnP K "tupled" sTupled f fd) (M : MgT mg) : FnOk P w K mg base CX0 1 f fd ["value"] spFlat := by
  refine F.ok scTupled (fun vs H Q E h => ?_) (fun cdv A outer s H vs Q E hr h => ?_)
  · obtain ⟨v, rfl, _⟩ := h
    rfl
  · obtain ⟨v, rfl, hf, k⟩ := h
    refine ⟨_, PSs.nox (pss_cons (ps_if (pt_val (pe_callB call_isiT (by rfl) M.isi (by decide +kernel) (pa_cons (pv 0) (pa_cons (pe_tup (pa_cons (pe_bltn (v := .ty "list") (by rfl) M.list (by decide +kernel) rfl) (pa_cons (pe_bltn (v := .ty "tuple") (by rfl) M.tuple (by decide +kernel) rfl) pa_nil))) pa_nil)))) (pss_one ps_never) pss_nil) (pss_one (ps_ret (pv 0)))), ?_⟩
    refine ⟨_, rfl, by show 2 ≤ sizeLine; decide, fun t ht => ?_⟩
    rcases hf with ⟨i, rfl⟩ | ⟨z, rfl⟩
    · refine ⟨_, t, _, .type "int", _, false, rfl, upd_same, pair2, .base (.int i), any2 (t := "int") (a := "list") (b := "tuple") (r1 := false) (r2 := false) (by decide +kernel) (by decide +kernel), _, rfl, ?_⟩
      refine iteF ?_
      exact ⟨_, rfl, k _ (Same.upd (Same.refl H) ht)⟩
    · refine ⟨_, t, _, .type "str", _, false, rfl, upd_same, pair2, .base (.str z), any2 (t := "str") (a := "list") (b := "tuple") (r1 := false) (r2 := false) (by decide +kernel) (by decide +kernel), _, rfl, ?_⟩
      refine iteF ?_
      exact ⟨_, rfl, k _ (Same.upd (Same.refl H) ht)⟩
theorem ok_tupled {f : Addr} {fd : FuncData} (F : FnP K "tupled" sTupled f fd) (M : MgT mg) (mF : mg "tupled" = some (.ref f)) : FnOk P w K mg base CX0 2 f fd ["value"] spTupled := by
  have G0 : FnOk P w K mg base CX0 1 f fd ["value"] spFlat := ok_tupled0 F M
  have b0 : Binds K fd ["value"] [] := F.bindsN fun _ _ _ _ _ _ us hl => match us, hl with | [_], _ => rfl
  refine F.ok scTupled (fun vs H Q E h => ?_) (fun cdv A outer s H vs Q E hr h => ?_)
  · obtain ⟨a, xs, rfl, _⟩ := h
    rfl
  · obtain ⟨a, xs, rfl, ha, hf, hl, k⟩ := h
    refine ⟨_, PSs.nox (pss_cons (ps_if (pt_val (pe_callB call_isiT (by rfl) M.isi (by decide +kernel) (pa_cons (pv 0) (pa_cons (pe_tup (pa_cons (pe_bltn (v := .ty "list") (by rfl) M.list (by decide +kernel) rfl) (pa_cons (pe_bltn (v := .ty "tuple") (by rfl) M.tuple (by decide +kernel) rfl) pa_nil))) pa_nil))))
      (pss_one (ps_ret (pe_callTy call_tuple_of (by rfl) M.tuple (by decide +kernel) (pa_cons (pe_lc (own := [("part", 1)]) (g := gName 1) (tt := tYes) rfl scTupled.nd (pi_tup (pv 0)) (blkOk_by (own := [("part", 1)]) (N := ["value", "part"]) (sc := defScope sTupled) (by decide +kernel))
        (fun _ _ _ _ _ => pg_name (i := 1) scTupled.nd rfl (Or.inl rfl)) (fun _ _ _ _ _ => pts_nil) (fun _ _ _ _ _ => pe_call G0 hr rfl mF F.kp b0 .nil pass0 (pa_cons (pv 1) pa_nil))) pa_nil)))) pss_nil) (pss_one ps_never)), ?_⟩
    refine ⟨_, rfl, by show 2 ≤ sizeLine; decide, fun t ht => ?_⟩
    have s1 : Same H (L2.upd H t (.tup [V.ty "list", V.ty "tuple"])) := Same.upd (Same.refl H) ht
    generalize hg : L2.upd H t (.tup [V.ty "list", V.ty "tuple"]) = H1 at s1
    refine ⟨_, t, _, .type "tuple", _, true, rfl, by rw [← hg, upd_same], pair2, .base (.tup (s1 _ _ ha)), any2 (t := "tuple") (a := "list") (b := "tuple") (r1 := false) (r2 := true) (by decide +kernel) (by decide +kernel), _, rfl, ?_⟩
    refine iteT ?_
    refine ⟨_, rfl, a, rfl, ⟨_, SqT.of (s1 _ _ ha)⟩, fun D hD => ?_⟩
    refine lc_tup (xs := xs) (fun i H2 => H2 D = some (.lst (xs.take i)) ∧ Same H H2) ?_ ?_ ?_ ?_
    · exact ⟨by rw [List.take_zero]; exact upd_same, Same.upd s1 hD⟩
    · rintro i H2 hi ⟨_, s2⟩
      exact SqT.of (s2 _ _ ha)
    · rintro i x H2 hx ⟨hD2, s2⟩
      refine ⟨rfl, _, rfl, x, rfl, hf x (List.mem_of_getElem? hx), fun H3 s3 => ?_⟩
      have hi := (List.getElem?_eq_some_iff.mp hx).1
      refine ⟨_, s3 _ _ hD2, by rw [List.length_take]; exact small1000 (by omega), ?_, ?_⟩
      · rw [upd_same]
        congr 2
        have e := (List.getElem?_eq_some_iff.mp hx).2
        rw [← e]
        exact (List.take_succ_eq_append_getElem hi).symm
      · exact Same.put (Same.trans s2 s3) (s1.free hD)
    · rintro H2 ⟨hD2, s2⟩
      rw [List.take_length] at hD2
      refine ⟨D, _, rfl, .inl ⟨SqL.of hD2, fun b hb => ?_⟩⟩
      exact k b _ (s2.free hb) upd_same (Same.upd s2 hb)
theorem ok_isnum {f : Addr} {fd : FuncData} (F : FnP K "_law_is_number" sIsNum f fd) (M : MgT mg) : FnOk P w K mg base CX0 1 f fd ["_law_matter"] spIsNum := by
  refine F.ok scIsNum (fun vs H Q E h => ?_) (fun cdv A outer s H vs Q E hr h => ?_)
  · obtain ⟨i, rfl, _⟩ := h
    rfl
  · obtain ⟨i, rfl, k⟩ := h
    refine ⟨_, PSs.nox (pss_one (ps_ret (pe_and (pe_callB call_isi (by rfl) M.isi (by decide +kernel) (pa_cons (pv 0) (pa_cons (pe_bltn (v := .ty "int") (by rfl) M.int (by decide +kernel) rfl) pa_nil))) (pe_one (pe_not (pe_callB call_isi (by rfl) M.isi (by decide +kernel) (pa_cons (pv 0) (pa_cons (pe_bltn (v := .ty "bool") (by rfl) M.bool (by decide +kernel) rfl) pa_nil)))))))), ?_⟩
    refine ⟨_, rfl, _, _, .type "int", _, true, rfl, .ty _, .base (.int i), kit_ty (by decide +kernel), true, rfl, iteT ?_⟩
    exact ⟨_, rfl, _, _, .type "int", _, false, rfl, .ty _, .base (.int i), kit_ty (by decide +kernel), false, rfl, k⟩
end
end Own
/-! _law_same. -/
namespace Own
open PySem PySem.Spec PyProof.Rows L2
theorem iteS {c A B : Prop} [Decidable c] (hc : c) (h : A) : if decide c = true then A else B := by
  rw [decide_eq_true hc]
  exact iteT h
theorem paired_at {α β : Type} {R : α → β → Prop} : ∀ {xs : List α} {ys : List β}, Paired R xs ys → ∀ (i : Nat) {x : α} {y : β}, xs[i]? = some x → ys[i]? = some y → R x y
  | _, _, .nil, i, _, _, h, _ => by simp at h
  | _, _, .cons r t, 0, _, _, h1, h2 => by
    cases h1
    cases h2
    exact r
  | _, _, .cons r t, i + 1, _, _, h1, h2 => paired_at t i h1 h2
open RZ in
theorem walk_zipT {K : PySem.W.Frag} {a b : Addr} {xs ys : List V} {n : Nat} (hn : n = min xs.length ys.length) : Walk (ItzT K a b) n (fun H => SqT K H a xs ∧ SqT K H b ys) (YPair (fun i => xs[i]?) (fun i => ys[i]?)) := by
  subst hn
  refine ⟨fun i _ hi q => ?_, fun _ q => ⟨xs, ys, q.1, q.2, by omega⟩, fun i H v H' _ q y => ?_⟩
  · have h1 : i < xs.length := by omega
    have h2 : i < ys.length := by omega
    exact ⟨xs, ys, xs[i], ys[i], q.1, q.2, by simp [h1], by simp [h2]⟩
  · obtain ⟨T, x, z, h1, h2, h3, h4, h5⟩ := y
    exact ⟨T, x, z, h1, h2, h3, h4 xs q.1, h5 ys q.2⟩
section
variable {P : Program} {w : World} {K : PySem.W.Frag} {mg : Str → Option Value} {base : Heap}
theorem ok_same0 {f fN : Addr} {fd fdN : FuncData} {n : Nat} (F : FnP K "_law_same" sSame f fd) (FN : FnP K "_law_is_number" sIsNum fN fdN) (M : MgT mg) (mN : mg "_law_is_number" = some (.ref fN)) : FnOk P w K mg base CX0 2 f fd ["_law_got", "_law_due"] (spSame 0) := by
  have GN : FnOk P w K mg base CX0 1 fN fdN ["_law_matter"] spIsNum := ok_isnum FN M
  have bN : Binds K fdN ["_law_matter"] [] := FN.bindsN fun _ _ _ _ _ _ us hl => match us, hl with | [_], _ => rfl
  refine F.ok scSame (fun vs H Q E h => ?_) (fun cdv A outer s H vs Q E hr h => ?_)
  · obtain ⟨g, u, rfl, _⟩ := h
    rfl
  · obtain ⟨g, u, rfl, he, k⟩ := h
    rcases he with ⟨i, rfl, rfl⟩ | ⟨z, rfl, rfl⟩
    · refine ⟨_, PSs.nox (pss_cons (ps_if (pt_val (pe_callB call_isi (by rfl) M.isi (by decide +kernel) (pa_cons (pv 1) (pa_cons (pe_bltn (v := .ty "dict") (by rfl) M.dict (by decide +kernel) rfl) pa_nil)))) (pss_cons ps_never (pss_one ps_never)) pss_nil)
        (pss_cons (ps_if (pt_val (pe_callB call_isiT (by rfl) M.isi (by decide +kernel) (pa_cons (pv 1) (pa_cons (pe_tup (pa_cons (pe_bltn (v := .ty "list") (by rfl) M.list (by decide +kernel) rfl) (pa_cons (pe_bltn (v := .ty "tuple") (by rfl) M.tuple (by decide +kernel) rfl) pa_nil))) pa_nil)))) (pss_cons ps_never (pss_one ps_never)) pss_nil)
        (pss_cons (ps_if (PW.pt (pw_or (pt_cmpR op_isN (pv 1) pe_non (nomark _)) (pw_or1 (pt_val (pe_callB call_isiT (by rfl) M.isi (by decide +kernel) (pa_cons (pv 1) (pa_cons (pe_tup (pa_cons (pe_bltn (v := .ty "bool") (by rfl) M.bool (by decide +kernel) rfl) (pa_cons (pe_bltn (v := .ty "str") (by rfl) M.str (by decide +kernel) rfl) pa_nil))) pa_nil))))))) (pss_one ps_never) pss_nil)
        (pss_one (ps_ret (pe_and (pe_call GN hr rfl mN FN.kp bN .nil pass0 (pa_cons (pv 0) pa_nil)) (pe_one (pe_cmpR op_eq (pv 0) (pv 1) (nomark _))))))))), ?_⟩
      refine ⟨_, rfl, _, _, .type "int", _, false, rfl, .ty _, .base (.int i), kit_ty (by decide +kernel), _, rfl, iteF ?_⟩
      refine ⟨_, rfl, by show 2 ≤ sizeLine; decide, fun t ht => ?_⟩
      have s1 := Same.upd (o := .tup [V.ty "list", V.ty "tuple"]) (Same.refl H) ht
      refine ⟨_, t, _, .type "int", _, false, rfl, upd_same, pair2, .base (.int i), any2 (t := "int") (a := "list") (b := "tuple") (r1 := false) (r2 := false) (by decide +kernel) (by decide +kernel), _, rfl, iteF ?_⟩
      refine ⟨_, rfl, rfl, _, rfl, iteF ?_⟩
      refine ⟨_, rfl, by show 2 ≤ sizeLine; decide, fun t2 ht2 => ?_⟩
      have s2 := Same.upd (o := .tup [V.ty "bool", V.ty "str"]) s1 ht2
      refine ⟨_, t2, _, .type "int", _, false, rfl, upd_same, pair2, .base (.int i), any2 (t := "int") (a := "bool") (b := "str") (r1 := false) (r2 := false) (by decide +kernel) (by decide +kernel), _, rfl, iteF ?_⟩
      refine ⟨_, rfl, i, rfl, true, rfl, iteT ⟨_, rfl, _, rfl, rfl, ?_⟩⟩
      rw [decide_eq_true rfl]
      exact k _ s2
    · refine ⟨_, PSs.nox (pss_cons (ps_if (pt_val (pe_callB call_isi (by rfl) M.isi (by decide +kernel) (pa_cons (pv 1) (pa_cons (pe_bltn (v := .ty "dict") (by rfl) M.dict (by decide +kernel) rfl) pa_nil)))) (pss_cons ps_never (pss_one ps_never)) pss_nil)
        (pss_cons (ps_if (pt_val (pe_callB call_isiT (by rfl) M.isi (by decide +kernel) (pa_cons (pv 1) (pa_cons (pe_tup (pa_cons (pe_bltn (v := .ty "list") (by rfl) M.list (by decide +kernel) rfl) (pa_cons (pe_bltn (v := .ty "tuple") (by rfl) M.tuple (by decide +kernel) rfl) pa_nil))) pa_nil)))) (pss_cons ps_never (pss_one ps_never)) pss_nil)
        (pss_cons (ps_if (PW.pt (pw_or (pt_cmpR op_isN (pv 1) pe_non (nomark _)) (pw_or1 (pt_val (pe_callB call_isiT (by rfl) M.isi (by decide +kernel) (pa_cons (pv 1) (pa_cons (pe_tup (pa_cons (pe_bltn (v := .ty "bool") (by rfl) M.bool (by decide +kernel) rfl) (pa_cons (pe_bltn (v := .ty "str") (by rfl) M.str (by decide +kernel) rfl) pa_nil))) pa_nil)))))))
          (pss_one (ps_ret (pe_and (pe_cmpR op_eq (pv 0) (pv 1) (nomark _)) (pe_and (pe_cmpR op_eq (pe_callB call_isi (by rfl) M.isi (by decide +kernel) (pa_cons (pv 0) (pa_cons (pe_bltn (v := .ty "bool") (by rfl) M.bool (by decide +kernel) rfl) pa_nil))) (pe_callB call_isi (by rfl) M.isi (by decide +kernel) (pa_cons (pv 1) (pa_cons (pe_bltn (v := .ty "bool") (by rfl) M.bool (by decide +kernel) rfl) pa_nil))) (nomark _)) (pe_one (pe_cmpR op_eq (pe_cmpR op_isN (pv 0) pe_non (nomark _)) (pe_cmpR op_isN (pv 1) pe_non (nomark _)) (nomark _))))))) pss_nil)
        (pss_one ps_never)))), ?_⟩
      refine ⟨_, rfl, _, _, .type "str", _, false, rfl, .ty _, .base (.str z), kit_ty (by decide +kernel), _, rfl, iteF ?_⟩
      refine ⟨_, rfl, by show 2 ≤ sizeLine; decide, fun t ht => ?_⟩
      have s1 := Same.upd (o := .tup [V.ty "list", V.ty "tuple"]) (Same.refl H) ht
      refine ⟨_, t, _, .type "str", _, false, rfl, upd_same, pair2, .base (.str z), any2 (t := "str") (a := "list") (b := "tuple") (r1 := false) (r2 := false) (by decide +kernel) (by decide +kernel), _, rfl, iteF ?_⟩
      refine ⟨_, rfl, rfl, _, rfl, iteF ?_⟩
      refine ⟨_, rfl, by show 2 ≤ sizeLine; decide, fun t2 ht2 => ?_⟩
      have s2 := Same.upd (o := .tup [V.ty "bool", V.ty "str"]) s1 ht2
      refine ⟨_, t2, _, .type "str", _, true, rfl, upd_same, pair2, .base (.str z), any2 (t := "str") (a := "bool") (b := "str") (r1 := false) (r2 := true) (by decide +kernel) (by decide +kernel), _, rfl, iteT ?_⟩
      refine ⟨_, rfl, _, rfl, rfl, _, rfl, iteS rfl ?_⟩
      refine ⟨_, rfl, _, _, .type "str", _, false, rfl, .ty _, .base (.str z), kit_ty (by decide +kernel), _, rfl, _, _, .type "str", _, false, rfl, .ty _, .base (.str z), kit_ty (by decide +kernel), rfl, _, rfl, iteS rfl ?_⟩
      refine ⟨_, rfl, rfl, _, rfl, rfl, rfl, ?_⟩
      rw [decide_eq_true rfl]
      exact k _ s2
theorem kit_l (t : String) : kitB "list" "list" = some true ∧ kitB "tuple" "list" = some false ∧ kitB "list" "tuple" = some false ∧ kitB "tuple" "tuple" = some true := by decide +kernel
open RZ in
theorem ok_sameS {f fN : Addr} {fd fdN : FuncData} {n lv : Nat} (F : FnP K "_law_same" sSame f fd) (M : MgT mg) (mF : mg "_law_same" = some (.ref f)) (G : FnOk P w K mg base CX0 (lv + 1) f fd ["_law_got", "_law_due"] (spSame n)) (G0 : FnOk P w K mg base CX0 2 f fd ["_law_got", "_law_due"] (spSame 0)) : FnOk P w K mg base CX0 (lv + 2) f fd ["_law_got", "_law_due"] (fun vs H Q E => ∃ (a b : Addr) (xs ys : List V), vs = [.ref a, .ref b] ∧ ((H a = some (.lst xs) ∧ H b = some (.lst ys)) ∨ (H a = some (.tup xs) ∧ H b = some (.tup ys))) ∧ xs.length ≤ 100 ∧ Paired (Eqv n H) xs ys ∧ ∀ H', Same H H' → Q (.bl true) H') := by
  have b0 : Binds K fd ["_law_got", "_law_due"] [] := F.bindsN fun _ _ _ _ _ _ us hl => match us, hl with | [_, _], _ => rfl
  refine F.ok scSame (fun vs H Q E h => ?_) (fun cdv A outer s H vs Q E hr h => ?_)
  · obtain ⟨a, b, xs, ys, rfl, _⟩ := h
    rfl
  · obtain ⟨a, b, xs, ys, rfl, hab, hl, hp, k⟩ := h
    have hlen : xs.length = ys.length := hp.length
    refine ⟨_, PSs.nox (pss_cons (ps_if (pt_val (pe_callB call_isi (by rfl) M.isi (by decide +kernel) (pa_cons (pv 1) (pa_cons (pe_bltn (v := .ty "dict") (by rfl) M.dict (by decide +kernel) rfl) pa_nil)))) (pss_cons ps_never (pss_one ps_never)) pss_nil)
      (pss_cons (ps_if (pt_val (pe_callB call_isiT (by rfl) M.isi (by decide +kernel) (pa_cons (pv 1) (pa_cons (pe_tup (pa_cons (pe_bltn (v := .ty "list") (by rfl) M.list (by decide +kernel) rfl) (pa_cons (pe_bltn (v := .ty "tuple") (by rfl) M.tuple (by decide +kernel) rfl) pa_nil))) pa_nil))))
        (pss_cons (ps_if (PW.pt (pw_or (pt_cmpR op_ne (pe_callB call_isi (by rfl) M.isi (by decide +kernel) (pa_cons (pv 0) (pa_cons (pe_bltn (v := .ty "list") (by rfl) M.list (by decide +kernel) rfl) pa_nil))) (pe_callB call_isi (by rfl) M.isi (by decide +kernel) (pa_cons (pv 1) (pa_cons (pe_bltn (v := .ty "list") (by rfl) M.list (by decide +kernel) rfl) pa_nil))) (nomark _))
            (pw_or1 (pt_cmpR op_ne (pe_callB call_isi (by rfl) M.isi (by decide +kernel) (pa_cons (pv 0) (pa_cons (pe_bltn (v := .ty "tuple") (by rfl) M.tuple (by decide +kernel) rfl) pa_nil))) (pe_callB call_isi (by rfl) M.isi (by decide +kernel) (pa_cons (pv 1) (pa_cons (pe_bltn (v := .ty "tuple") (by rfl) M.tuple (by decide +kernel) rfl) pa_nil))) (nomark _))))) (pss_one ps_never) pss_nil)
        (pss_one (ps_ret (pe_and (pe_cmpR op_eq (pe_callB call_len_seq (by rfl) M.len PySem.boot_len (pa_cons (pv 0) pa_nil)) (pe_callB call_len_seq (by rfl) M.len PySem.boot_len (pa_cons (pv 1) pa_nil)) (nomark _))
          (pe_one (pe_callB (cr_all rfl) (by rfl) M.all (by decide +kernel) (pa_cons (pe_lc (own := [("_law_mine", 2), ("_law_its", 3)]) (g := gTup K 2 (gCons (gName 2) (gCons (gName 3) gNil))) (tt := tYes) rfl scSame.nd (pi_zipA (by rfl) M.zip (pa_cons (pv 0) (pa_cons (pv 1) pa_nil))) (blkOk_by (own := [("_law_mine", 2), ("_law_its", 3)]) (N := ["_law_got", "_law_due", "_law_mine", "_law_its"]) (sc := defScope sSame) (by decide +kernel))
            (fun _ _ _ _ _ => pg_tup rfl (pgs_cons (pg_name (i := 2) scSame.nd rfl (Or.inl rfl)) (pgs_cons (pg_name (i := 3) scSame.nd rfl (Or.inl rfl)) pgs_nil))) (fun _ _ _ _ _ => pts_nil) (fun _ _ _ _ _ => pe_call G hr rfl mF F.kp b0 .nil pass0 (pa_cons (pv 2) (pa_cons (pv 3) pa_nil)))) pa_nil))))))) pss_nil)
      (pss_cons ps_never (pss_one ps_never)))), ?_⟩
    have turn : ∀ (D : Addr) (H1 : Hp), H D = none → Same H H1 → ∀ (i : Nat) (x : V) (H2 H3 : Hp), i < xs.length → (∃ bs : List Bool, bs.length = i ∧ bs.all id = true ∧ H2 D = some (.lst (bs.map V.bl)) ∧ Same H H2) → YPair (fun i => xs[i]?) (fun i => ys[i]?) i H2 x H3 →
        gTup K 2 (gCons (gName 2) (gCons (gName 3) gNil)) x [some (.ref a), some (.ref b), none, none] H3 fun σ2 H4 => wipe σ2 [2, 3] = wipe [some (.ref a), some (.ref b), none, none] [2, 3] ∧ tYes σ2 H4 fun c H5 =>
          if c = true then tCall (spSame n) [] E0 (tCons (tVar 2) (tCons (tVar 3) tNil)) σ2 H5 fun y H6 => ∃ acc, H6 D = some (.lst acc) ∧ acc.length < sizeLine ∧ ∃ bs : List Bool, bs.length = i + 1 ∧ bs.all id = true ∧ (L2.upd H6 D (.lst (acc ++ [y]))) D = some (.lst (bs.map V.bl)) ∧ Same H (L2.upd H6 D (.lst (acc ++ [y]))) else True := by
      rintro D H1 hD s1 i x H2 H3 hi ⟨bs, hb1, hb2, hb3, s2⟩ ⟨T, x1, y1, rfl, hT, rfl, hx, hy⟩
      have s3 : Same H (L2.upd H2 T (.tup [x1, y1])) := Same.upd s2 hT
      have nTD : T ≠ D := fun e => by
        rw [e, hb3] at hT
        cases hT
      refine ⟨T, _, rfl, SqT.of upd_same, rfl, _, _, rfl, _, _, rfl, rfl, rfl, ?_⟩
      refine ⟨_, rfl, _, rfl, x1, y1, rfl, Eqv.same s3 (paired_at hp i hx hy), fun H6 s6 => ?_⟩
      have hD3 : (L2.upd H2 T (.tup [x1, y1])) D = some (.lst (bs.map V.bl)) := by
        rw [upd_ne (Ne.symm nTD)]
        exact hb3
      refine ⟨_, s6 _ _ hD3, by rw [List.length_map]; exact small1000 (by omega), bs ++ [true], by simp [hb1], by rw [List.all_append, hb2]; rfl, by rw [upd_same, List.map_append]; rfl, Same.put (Same.trans s3 s6) hD⟩
    rcases hab with ⟨ha, hb⟩ | ⟨ha, hb⟩
    · refine ⟨_, rfl, _, _, .type "list", _, false, rfl, .ty _, .base (.lst hb), kit_ty (by decide +kernel), _, rfl, iteF ?_⟩
      refine ⟨_, rfl, by show 2 ≤ sizeLine; decide, fun t ht => ?_⟩
      have s1 := Same.upd (o := .tup [V.ty "list", V.ty "tuple"]) (Same.refl H) ht
      generalize hg : L2.upd H t (.tup [V.ty "list", V.ty "tuple"]) = H1 at s1
      refine ⟨_, t, _, .type "list", _, true, rfl, by rw [← hg, upd_same], pair2, .base (.lst (s1 _ _ hb)), any2 (t := "list") (a := "list") (b := "tuple") (r1 := true) (r2 := false) (by decide +kernel) (by decide +kernel), _, rfl, iteT ?_⟩
      refine ⟨_, rfl, _, _, .type "list", _, true, rfl, .ty _, .base (.lst (s1 _ _ ha)), kit_ty (by decide +kernel), _, rfl, _, _, .type "list", _, true, rfl, .ty _, .base (.lst (s1 _ _ hb)), kit_ty (by decide +kernel), rfl, _, rfl, iteNS rfl ?_⟩
      refine ⟨_, rfl, _, _, .type "list", _, false, rfl, .ty _, .base (.lst (s1 _ _ ha)), kit_ty (by decide +kernel), _, rfl, _, _, .type "list", _, false, rfl, .ty _, .base (.lst (s1 _ _ hb)), kit_ty (by decide +kernel), rfl, _, rfl, iteNS rfl ?_⟩
      refine ⟨_, rfl, a, _, rfl, .inl (SqL.of (s1 _ _ ha)), _, rfl, b, _, rfl, .inl (SqL.of (s1 _ _ hb)), rfl, _, rfl, iteS (by rw [hlen]) ?_⟩
      refine ⟨_, rfl, _, rfl, a, b, xs, ys, rfl, .inl ⟨SqL.of (s1 _ _ ha), SqL.of (s1 _ _ hb), fun D hD => ?_⟩⟩
      have hD0 : H D = none := s1.free hD
      refine lc_it (walk_zip (K := K) (a := a) (b := b) (xs := xs) (ys := ys) (n := xs.length) (by omega)) (fun i H2 => ∃ bs : List Bool, bs.length = i ∧ bs.all id = true ∧ H2 D = some (.lst (bs.map V.bl)) ∧ Same H H2) ?_ ?_ ?_ ?_
      · exact ⟨[], rfl, rfl, upd_same, Same.upd s1 hD⟩
      · rintro i H2 hi ⟨bs, _, _, _, s2⟩
        exact ⟨SqL.of (s2 _ _ ha), SqL.of (s2 _ _ hb)⟩
      · intro i x H2 H3 hi hP hY
        exact turn D H1 hD0 s1 i x H2 H3 hi hP hY
      · rintro H2 ⟨bs, hb1, hb2, hb3, s2⟩
        refine ⟨D, bs, rfl, SqL.of hb3, ?_⟩
        rw [hb2]
        exact k _ s2
    · refine ⟨_, rfl, _, _, .type "tuple", _, false, rfl, .ty _, .base (.tup hb), kit_ty (by decide +kernel), _, rfl, iteF ?_⟩
      refine ⟨_, rfl, by show 2 ≤ sizeLine; decide, fun t ht => ?_⟩
      have s1 := Same.upd (o := .tup [V.ty "list", V.ty "tuple"]) (Same.refl H) ht
      generalize hg : L2.upd H t (.tup [V.ty "list", V.ty "tuple"]) = H1 at s1
      refine ⟨_, t, _, .type "tuple", _, true, rfl, by rw [← hg, upd_same], pair2, .base (.tup (s1 _ _ hb)), any2 (t := "tuple") (a := "list") (b := "tuple") (r1 := false) (r2 := true) (by decide +kernel) (by decide +kernel), _, rfl, iteT ?_⟩
      refine ⟨_, rfl, _, _, .type "tuple", _, false, rfl, .ty _, .base (.tup (s1 _ _ ha)), kit_ty (by decide +kernel), _, rfl, _, _, .type "tuple", _, false, rfl, .ty _, .base (.tup (s1 _ _ hb)), kit_ty (by decide +kernel), rfl, _, rfl, iteNS rfl ?_⟩
      refine ⟨_, rfl, _, _, .type "tuple", _, true, rfl, .ty _, .base (.tup (s1 _ _ ha)), kit_ty (by decide +kernel), _, rfl, _, _, .type "tuple", _, true, rfl, .ty _, .base (.tup (s1 _ _ hb)), kit_ty (by decide +kernel), rfl, _, rfl, iteNS rfl ?_⟩
      refine ⟨_, rfl, a, _, rfl, .inr (SqT.of (s1 _ _ ha)), _, rfl, b, _, rfl, .inr (SqT.of (s1 _ _ hb)), rfl, _, rfl, iteS (by rw [hlen]) ?_⟩
      refine ⟨_, rfl, _, rfl, a, b, xs, ys, rfl, .inr ⟨SqT.of (s1 _ _ ha), SqT.of (s1 _ _ hb), fun D hD => ?_⟩⟩
      have hD0 : H D = none := s1.free hD
      refine lc_it (walk_zipT (K := K) (a := a) (b := b) (xs := xs) (ys := ys) (n := xs.length) (by omega)) (fun i H2 => ∃ bs : List Bool, bs.length = i ∧ bs.all id = true ∧ H2 D = some (.lst (bs.map V.bl)) ∧ Same H H2) ?_ ?_ ?_ ?_
      · exact ⟨[], rfl, rfl, upd_same, Same.upd s1 hD⟩
      · rintro i H2 hi ⟨bs, _, _, _, s2⟩
        exact ⟨SqT.of (s2 _ _ ha), SqT.of (s2 _ _ hb)⟩
      · intro i x H2 H3 hi hP hY
        exact turn D H1 hD0 s1 i x H2 H3 hi hP hY
      · rintro H2 ⟨bs, hb1, hb2, hb3, s2⟩
        refine ⟨D, bs, rfl, SqL.of hb3, ?_⟩
        rw [hb2]
        exact k _ s2
end
end Own
/-! _law_same at every depth; xs[::2]; exceptions kept; the constructors' promises. -/
namespace Own
open PySem PySem.Spec PyProof.Rows L2
section
variable {P : Program} {w : World} {K : PySem.W.Frag} {mg : Str → Option Value} {base : Heap}
theorem fnok_or {CX : CXT} {k : Nat} {f : Addr} {fd : FuncData} {ps : List Str} {sp sp' : Sp} (F : FnOk P w K mg base CX k f fd ps sp) (G : FnOk P w K mg base CX k f fd ps sp') : FnOk P w K mg base CX k f fd ps (fun vs H Q E => sp vs H Q E ∨ sp' vs H Q E) :=
  ⟨fun vs H Q E h => h.elim (F.len vs H Q E) (G.len vs H Q E), fun A outer s H args us vs Q E hr he hb hv h => h.elim (F.run A outer s H args us vs Q E hr he hb hv) (G.run A outer s H args us vs Q E hr he hb hv)⟩
theorem ok_same {f fN : Addr} {fd fdN : FuncData} (F : FnP K "_law_same" sSame f fd) (FN : FnP K "_law_is_number" sIsNum fN fdN) (M : MgT mg) (mF : mg "_law_same" = some (.ref f)) (mN : mg "_law_is_number" = some (.ref fN)) : ∀ n : Nat, FnOk P w K mg base CX0 (n + 2) f fd ["_law_got", "_law_due"] (spSame n)
  | 0 => ok_same0 (n := 0) F FN M mN
  | n + 1 => by
    have G0 : FnOk P w K mg base CX0 2 f fd ["_law_got", "_law_due"] (spSame 0) := ok_same0 (n := 0) F FN M mN
    have G := ok_same F FN M mF mN n
    refine (fnok_or (G0.mono (show 2 ≤ n + 1 + 2 by omega)) (ok_sameS (n := n) (lv := n + 1) (fN := fN) (fdN := fdN) F M mF G G0)).imp fun vs H Q E h => ?_
    obtain ⟨g, u, rfl, he, k⟩ := h
    rcases he with he | ⟨a, b, xs, ys, rfl, rfl, h1, h2, h3⟩
    · exact .inl ⟨g, u, rfl, he, k⟩
    · exact .inr ⟨a, b, xs, ys, rfl, h1, h2, h3, k⟩
end
/-! ### xs[::2] -/
def evens (xs : List V) : List V := (sliceRange 0 (xs.length : Int) 2).filterMap (xs[·]?)
theorem vals_pick {xs : List V} {us : List Value} (r : Vals xs us) : ∀ ks : List Nat, Vals (ks.filterMap (xs[·]?)) (ks.filterMap (us[·]?))
  | [] => .nil
  | k :: ks => by
    have ih := vals_pick r ks
    have hl := r.length
    by_cases h : k < xs.length
    · have h2 : k < us.length := by omega
      have e1 : xs[k]? = some xs[k] := List.getElem?_eq_getElem h
      have e2 : us[k]? = some us[k] := List.getElem?_eq_getElem h2
      rw [List.filterMap_cons_some e1, List.filterMap_cons_some e2]
      exact .cons (paired_at r k e1 e2) ih
    · have e1 : xs[k]? = none := List.getElem?_eq_none (by omega)
      have e2 : us[k]? = none := List.getElem?_eq_none (by omega)
      rw [List.filterMap_cons_none e1, List.filterMap_cons_none e2]
      exact ih
theorem evens_le (xs : List V) (h : xs.length ≤ 1000) : (evens xs).length ≤ sizeLine := by
  unfold evens
  have h1 : ((sliceRange 0 (xs.length : Int) 2).filterMap (xs[·]?)).length ≤ (sliceRange 0 (xs.length : Int) 2).length := List.length_filterMap_le _ _
  have h2 := sliceRange_len_le 0 (xs.length : Int) 2 (by decide)
  rw [if_pos (by decide)] at h2
  rw [sizeLine_eq]
  omega
def tEven (K : PySem.W.Frag) (te : TE) : TE := fun σ H Q => te σ H fun x H1 => ∃ a xs, x = .ref a ∧ SqL K H1 a xs ∧ xs.length ≤ 1000 ∧ ∀ p, H1 p = none → Q (.ref p) (L2.upd H1 p (.lst (evens xs)))
theorem pe_even {X : Cx} {e : Expr} {te : TE} {k : Nat} {p1 p3 pos : Pos} (he : PE X e te) : PE X (.Subscript e (.Slice none none (some (.Constant (.int 2) k p1)) p3) pos) (tEven X.K te) := by
  refine ⟨fun pins s σ H Q I h => ?_⟩
  refine Subscript_ (thn (he.run pins s σ H _ I h) fun v s1 ⟨x, H1, I1, r1, q1⟩ => ?_)
  obtain ⟨a, xs, ex, hx, hl1, q⟩ := q1
  subst ex
  cases r1
  have hst : PO X (some (.Constant (.int 2) k p1)) (tPart (tC (.int 2))) := po_some pe_int
  refine wpAny_Slice (thn (po_none.run pins s1 σ H1 (fun o H2 => o = none ∧ H2 = H1) I1 ⟨rfl, rfl⟩) fun vl s2 ⟨l, H2, I2, pl, el, e2⟩ => ?_)
  subst el e2
  refine thn (po_none.run pins s2 σ H2 (fun o H3 => o = none ∧ H3 = H2) I2 ⟨rfl, rfl⟩) fun vu s3 ⟨u, H3, I3, pu, eu, e3⟩ => ?_
  subst eu e3
  refine thn (hst.run pins s3 σ H3 (fun o H4 => o = some 2 ∧ H4 = H3) I3 ⟨2, rfl, rfl, rfl⟩) fun vs s4 ⟨o, H4, I4, ps, eo, e4⟩ => ?_
  subst eo e4
  have I5 : Inv X pins σ H4 { s4 with heap := s4.heap.push { cls := .type "slice", data := .fields #[vl, vu, vs] } } := I4.kept (t' := s4.toks) fun b ob q => Heap.get?_push_of_some _ q
  obtain ⟨its, r, ht, hz⟩ := I5.list hx
  have hlen := r.length
  show wpAny (model X.prog X.w) X.A (subscriptTail e (.Slice none none (some (.Constant (.int 2) k p1)) p3) (.ref a) (.ref s4.heap.objs.size)) (EP X pins σ Q) X.xe { s4 with heap := s4.heap.push { cls := .type "slice", data := .fields #[vl, vu, vs] } }
  refine tail_any (ops := [.ref a, .ref s4.heap.objs.size]) ht.isList.typeIs (PySem.slot_list_getitem.lookup) ?_ (by with_unfolding_all rfl)
  refine wpAny_getItem_list_slice ht.isList (Heap.IsSliceOf.new _ vl vu vs) pl pu ps (by decide) ?_ (by rw [List.size_toArray]; omega)
  have e : slicePick its.toArray none none (some 2) = ((sliceRange 0 (xs.length : Int) 2).filterMap (its[·]?)).toArray := by
    unfold slicePick
    have b : sliceBounds none none (some 2) its.toArray.size = (0, (its.toArray.size : Int), 2) := by
      first
      | rfl
      | simp [sliceBounds]
    rw [b, List.size_toArray, ← hlen]
    simp
  rw [e]
  refine ⟨.ref _, _, I5.laid (t' := s4.toks) (o := .lst (evens xs)) (fun b ob q => Heap.get?_push_of_some _ q) (Nat.le_refl _) ?_, rfl, q _ (I5.hok.fresh (Nat.le_refl _))⟩
  exact ⟨evens_le xs hl1, _, 0, vals_pick r _, Heap.get?_push_size _ rfl⟩
end Own
/-! The classes by their numbers; each __init__. -/
namespace Own
open PySem PySem.Spec PyProof.Rows L2
def cNames : List Str := ["NoKind", "NoPlace", "NoOrder", "NoLine", "NoGap", "BadFields", "BadKind", "Twice", "Unlike", "BadLine", "BadCall", "TooMany", "Passed", "NoWay", "NeverShown", "NotShown", "OtherBook", "Unsettled", "Turned", "BadPlan", "Uneven", "Untrue"]
def cBases : List Bs := [.L, .L, .L, .L, .L, .V, .V, .V, .V, .V, .V, .V, .V, .V, .V, .V, .V, .V, .V, .V, .V, .R]
def cAttrs : List (List Str) := [["name"], ["place"], ["number"], ["call"], ["gap"], [], ["place"], ["name"], ["one", "other"], ["number"], ["call"], ["most"], ["place"], [], [], ["place"], [], [], ["first", "second"], [], ["name"], ["place", "word"]]
def cN (i : Nat) : Str := cNames.getD i ""
def cB (i : Nat) : Bs := cBases.getD i .V
def cT (i : Nat) : List Str := cAttrs.getD i []
def cA (K : PySem.W.Frag) (i : Nat) : Addr := He.ga K (cN i)
def fA (K : PySem.W.Frag) (i : Nat) : Addr := He.ma K (cA K i) "__init__"
/-- at p: an exception of the class at C with these attributes -/
def ExC (C : Addr) (H : Hp) (p : Addr) (fs : List (Str × V)) : Prop := ∃ d, H p = some (exo p C (some d)) ∧ H d = some (exd d fs)
theorem ExC.same {C : Addr} {H H' : Hp} {p : Addr} {fs : List (Str × V)} (h : ExC C H p fs) (s : Same H H') : ExC C H' p fs := by
  obtain ⟨d, h1, h2⟩ := h
  exact ⟨d, s _ _ h1, s _ _ h2⟩
theorem ExC.at_ {C : Addr} {H : Hp} {p : Addr} {fs : List (Str × V)} (h : ExC C H p fs) : ExcAt H p C := by
  obtain ⟨d, h1, h2⟩ := h
  exact .inr ⟨d, fs, h1, h2⟩
def spA (C : Addr) (a : Str) : Sp := fun vs H Q _ => ∃ (p : Addr) (x : V), vs = [.ref p, x] ∧ H p = some (exo p C none) ∧ ∀ H', ExC C H' p [(a, x)] → SameBut p H H' → Q .non H'
def spB (C : Addr) (a : Str) : Sp := fun vs H Q _ => ∃ (p q : Addr) (xs : List V), vs = [.ref p, .ref q] ∧ H p = some (exo p C none) ∧ H q = some (.tup xs) ∧ (∀ x ∈ xs, Fl x) ∧ xs.length ≤ 100 ∧ ∀ (b : Addr) (H' : Hp), H' b = some (.tup xs) → ExC C H' p [(a, .ref b)] → SameBut p H H' → Q .non H'
def spC (C : Addr) : Sp := fun vs H Q _ => ∃ p : Addr, vs = [.ref p] ∧ H p = some (exo p C none) ∧ (∀ H', Same H H' → Q .non H')
def spD (C : Addr) (a b : Str) : Sp := fun vs H Q _ => ∃ (p : Addr) (x y : V), vs = [.ref p, x, y] ∧ H p = some (exo p C none) ∧ ∀ H', ExC C H' p [(b, y), (a, x)] → SameBut p H H' → Q .non H'
def spE (C : Addr) (a b : Str) : Sp := fun vs H Q _ => ∃ (p q r : Addr) (xs ys : List V), vs = [.ref p, .ref q, .ref r] ∧ H p = some (exo p C none) ∧ H q = some (.tup xs) ∧ H r = some (.tup ys) ∧ (∀ x ∈ xs, Fl x) ∧ (∀ x ∈ ys, Fl x) ∧ xs.length ≤ 100 ∧ ys.length ≤ 100 ∧
  ∀ (u v : Addr) (H' : Hp), H' u = some (.tup xs) → H' v = some (.tup ys) → ExC C H' p [(b, .ref v), (a, .ref u)] → SameBut p H H' → Q .non H'
/-- what is known of the classes -/
structure EF (K : PySem.W.Frag) (mg : Str → Option Value) : Prop where
  xc : ∀ i, i < 22 → XC K (cA K i) (cB i)
  ini : ∀ i, i < 22 → PySem.W.findIn K (.ref (cA K i)) "__init__" = some (some (.ref (fA K i)))
  fn : ∀ i, i < 22 → PySem.W.isFn K (.ref (fA K i)) = true
  gl : ∀ i, i < 22 → mg (cN i) = some (.ref (cA K i))
  no : ∀ i, i < 22 → ∀ f ∈ cT i, PySem.W.findIn K (.ref (cA K i)) f = some none
  kit : ∀ i j, i < 22 → j < 22 → PySem.W.kitOne K (.ref (cA K i)) (.ref (cA K j)) = some (decide (i = j))
  kitL : ∀ i, i < 22 → PySem.W.kitOne K (.ref (cA K i)) (.type "LookupError") = some (decide (cB i = .L))
  kitV : ∀ i, i < 22 → PySem.W.kitOne K (.ref (cA K i)) (.type "ValueError") = some (decide (cB i = .V))
  kitR : ∀ i, i < 22 → PySem.W.kitOne K (.ref (cA K i)) (.type "RuntimeError") = some (decide (cB i = .R))
  kitN : ∀ i, i < 22 → PySem.W.kitAny K (.ref (cA K i)) [.type "KeyError", .type "IndexError", .type "NotImplementedError"] = some false
  mL : mg "LookupError" = none
  mV : mg "ValueError" = none
  mR : mg "RuntimeError" = none
theorem SameBut.self {p : Addr} {H H1 : Hp} {o : HO} (h : SameBut p H H1) : SameBut p H (L2.upd H1 p o) := fun b u e n => by
  rw [upd_ne n]
  exact h b u e n
section
variable {P : Program} {w : World} {K : PySem.W.Frag} {mg : Str → Option Value} {base : Heap}
theorem scI0 : FnScope ["self", "name"] ["self", "name"] (defScope (sI 0)) := ⟨rfl, rfl, rfl, by decide +kernel, rfl, by decide +kernel, by decide +kernel⟩
theorem ok_i0 {f : Addr} {fd : FuncData} (F : FnI K "NoKind" (sI 0) f fd) (E : EF K mg) : FnOk P w K mg base CX0 1 f fd ["self", "name"] (spA (cA K 0) "name") := by
  refine F.ok scI0 (fun vs H Q E h => ?_) (fun cdv A outer s H vs Q _ hr h => ?_)
  · obtain ⟨p, x, rfl, _⟩ := h
    rfl
  · obtain ⟨p, x, rfl, hp, k⟩ := h
    refine ⟨_, PSs.nox (pss_cons (ps_xst (b := .L) (pv 0) (pv 1)) (pss_one (ps_expr (pe_xiL (by rfl) E.mL (pa_cons (pv 0) (pa_cons (pv 1) pa_nil)))))), ?_⟩
    refine ⟨_, rfl, _, rfl, p, _, rfl, (E.xc 0 (by decide)), (E.no 0 (by decide) _ (by decide)), .inl ⟨hp, fun d hd ne => ?_⟩⟩
    refine ⟨_, rfl, _, rfl, p, _, some d, _, rfl, Nat.le_of_ble_eq_true rfl, (E.xc 0 (by decide)), upd_same, ?_⟩
    exact k _ ⟨d, upd_same, by rw [upd_ne ne]; exact upd_same⟩ (SameBut.self (SameBut.upd (fun b o e _ => e) hd))
theorem scI1 : FnScope ["self", "place"] ["self", "place"] (defScope (sI 1)) := ⟨rfl, rfl, rfl, by decide +kernel, rfl, by decide +kernel, by decide +kernel⟩
theorem ok_i1 {f : Addr} {fd : FuncData} (F : FnI K "NoPlace" (sI 1) f fd) (E : EF K mg) : FnOk P w K mg base CX0 1 f fd ["self", "place"] (spA (cA K 1) "place") := by
  refine F.ok scI1 (fun vs H Q E h => ?_) (fun cdv A outer s H vs Q _ hr h => ?_)
  · obtain ⟨p, x, rfl, _⟩ := h
    rfl
  · obtain ⟨p, x, rfl, hp, k⟩ := h
    refine ⟨_, PSs.nox (pss_cons (ps_xst (b := .L) (pv 0) (pv 1)) (pss_one (ps_expr (pe_xiL (by rfl) E.mL (pa_cons (pv 0) (pa_cons (pv 1) pa_nil)))))), ?_⟩
    refine ⟨_, rfl, _, rfl, p, _, rfl, (E.xc 1 (by decide)), (E.no 1 (by decide) _ (by decide)), .inl ⟨hp, fun d hd ne => ?_⟩⟩
    refine ⟨_, rfl, _, rfl, p, _, some d, _, rfl, Nat.le_of_ble_eq_true rfl, (E.xc 1 (by decide)), upd_same, ?_⟩
    exact k _ ⟨d, upd_same, by rw [upd_ne ne]; exact upd_same⟩ (SameBut.self (SameBut.upd (fun b o e _ => e) hd))
theorem scI2 : FnScope ["self", "number"] ["self", "number"] (defScope (sI 2)) := ⟨rfl, rfl, rfl, by decide +kernel, rfl, by decide +kernel, by decide +kernel⟩
theorem ok_i2 {f : Addr} {fd : FuncData} (F : FnI K "NoOrder" (sI 2) f fd) (E : EF K mg) : FnOk P w K mg base CX0 1 f fd ["self", "number"] (spA (cA K 2) "number") := by
  refine F.ok scI2 (fun vs H Q E h => ?_) (fun cdv A outer s H vs Q _ hr h => ?_)
  · obtain ⟨p, x, rfl, _⟩ := h
    rfl
  · obtain ⟨p, x, rfl, hp, k⟩ := h
    refine ⟨_, PSs.nox (pss_cons (ps_xst (b := .L) (pv 0) (pv 1)) (pss_one (ps_expr (pe_xiL (by rfl) E.mL (pa_cons (pv 0) (pa_cons (pv 1) pa_nil)))))), ?_⟩
    refine ⟨_, rfl, _, rfl, p, _, rfl, (E.xc 2 (by decide)), (E.no 2 (by decide) _ (by decide)), .inl ⟨hp, fun d hd ne => ?_⟩⟩
    refine ⟨_, rfl, _, rfl, p, _, some d, _, rfl, Nat.le_of_ble_eq_true rfl, (E.xc 2 (by decide)), upd_same, ?_⟩
    exact k _ ⟨d, upd_same, by rw [upd_ne ne]; exact upd_same⟩ (SameBut.self (SameBut.upd (fun b o e _ => e) hd))
theorem scI3 : FnScope ["self", "call"] ["self", "call"] (defScope (sI 3)) := ⟨rfl, rfl, rfl, by decide +kernel, rfl, by decide +kernel, by decide +kernel⟩
theorem ok_i3 {f fT : Addr} {fd fdT : FuncData} (F : FnI K "NoLine" (sI 3) f fd) (FT : FnP K "tupled" sTupled fT fdT) (M : MgT mg) (mT : mg "tupled" = some (.ref fT)) (E : EF K mg) : FnOk P w K mg base CX0 3 f fd ["self", "call"] (spB (cA K 3) "call") := by
  have GT : FnOk P w K mg base CX0 2 fT fdT ["value"] spTupled := ok_tupled FT M mT
  have bT : Binds K fdT ["value"] [] := FT.bindsN fun _ _ _ _ _ _ us hl => match us, hl with | [_], _ => rfl
  refine F.ok scI3 (fun vs H Q E h => ?_) (fun cdv A outer s H vs Q _ hr h => ?_)
  · obtain ⟨p, q, xs, rfl, _⟩ := h
    rfl
  · obtain ⟨p, q, xs, rfl, hp, hq, hf, hl, k⟩ := h
    refine ⟨_, PSs.nox (pss_cons (ps_xst (b := .L) (pv 0) (pe_call GT hr rfl mT FT.kp bT .nil pass0 (pa_cons (pv 1) pa_nil))) (pss_one (ps_expr (pe_xiL (by rfl) E.mL (pa_cons (pv 0) (pa_cons (pe_xat (b := .L) (pv 0)) pa_nil)))))), ?_⟩
    refine ⟨_, rfl, q, xs, rfl, hq, hf, hl, fun u H1 hu hu1 s1 => ?_⟩
    refine ⟨_, rfl, p, _, rfl, (E.xc 3 (by decide)), (E.no 3 (by decide) _ (by decide)), .inl ⟨s1 _ _ hp, fun d hd ne => ?_⟩⟩
    have e1 : (L2.upd (L2.upd H1 d (exd d [("call", .ref u)])) p (exo p (cA K 3) (some d))) d = some (exd d [("call", .ref u)]) := by
      rw [upd_ne ne]
      exact upd_same
    refine ⟨_, rfl, _, rfl, p, _, d, _, _, rfl, (E.xc 3 (by decide)), (E.no 3 (by decide) _ (by decide)), upd_same, e1, rfl, p, _, some d, _, rfl, Nat.le_of_ble_eq_true rfl, (E.xc 3 (by decide)), upd_same, ?_⟩
    have nu : u ≠ p := Ne.symm (ne_of_none hp hu)
    refine k u _ ?_ ⟨d, upd_same, e1⟩ (SameBut.self (SameBut.upd (SameBut.of s1) hd))
    rw [upd_ne nu, upd_ne (ne_of_none hu1 hd)]
    exact hu1
theorem scI4 : FnScope ["self", "gap"] ["self", "gap"] (defScope (sI 4)) := ⟨rfl, rfl, rfl, by decide +kernel, rfl, by decide +kernel, by decide +kernel⟩
theorem ok_i4 {f fT : Addr} {fd fdT : FuncData} (F : FnI K "NoGap" (sI 4) f fd) (FT : FnP K "tupled" sTupled fT fdT) (M : MgT mg) (mT : mg "tupled" = some (.ref fT)) (E : EF K mg) : FnOk P w K mg base CX0 3 f fd ["self", "gap"] (spB (cA K 4) "gap") := by
  have GT : FnOk P w K mg base CX0 2 fT fdT ["value"] spTupled := ok_tupled FT M mT
  have bT : Binds K fdT ["value"] [] := FT.bindsN fun _ _ _ _ _ _ us hl => match us, hl with | [_], _ => rfl
  refine F.ok scI4 (fun vs H Q E h => ?_) (fun cdv A outer s H vs Q _ hr h => ?_)
  · obtain ⟨p, q, xs, rfl, _⟩ := h
    rfl
  · obtain ⟨p, q, xs, rfl, hp, hq, hf, hl, k⟩ := h
    refine ⟨_, PSs.nox (pss_cons (ps_xst (b := .L) (pv 0) (pe_call GT hr rfl mT FT.kp bT .nil pass0 (pa_cons (pv 1) pa_nil))) (pss_one (ps_expr (pe_xiL (by rfl) E.mL (pa_cons (pv 0) (pa_cons (pe_xat (b := .L) (pv 0)) pa_nil)))))), ?_⟩
    refine ⟨_, rfl, q, xs, rfl, hq, hf, hl, fun u H1 hu hu1 s1 => ?_⟩
    refine ⟨_, rfl, p, _, rfl, (E.xc 4 (by decide)), (E.no 4 (by decide) _ (by decide)), .inl ⟨s1 _ _ hp, fun d hd ne => ?_⟩⟩
    have e1 : (L2.upd (L2.upd H1 d (exd d [("gap", .ref u)])) p (exo p (cA K 4) (some d))) d = some (exd d [("gap", .ref u)]) := by
      rw [upd_ne ne]
      exact upd_same
    refine ⟨_, rfl, _, rfl, p, _, d, _, _, rfl, (E.xc 4 (by decide)), (E.no 4 (by decide) _ (by decide)), upd_same, e1, rfl, p, _, some d, _, rfl, Nat.le_of_ble_eq_true rfl, (E.xc 4 (by decide)), upd_same, ?_⟩
    have nu : u ≠ p := Ne.symm (ne_of_none hp hu)
    refine k u _ ?_ ⟨d, upd_same, e1⟩ (SameBut.self (SameBut.upd (SameBut.of s1) hd))
    rw [upd_ne nu, upd_ne (ne_of_none hu1 hd)]
    exact hu1
theorem scI5 : FnScope ["self"] ["self"] (defScope (sI 5)) := ⟨rfl, rfl, rfl, by decide +kernel, rfl, by decide +kernel, by decide +kernel⟩
theorem ok_i5 {f : Addr} {fd : FuncData} (F : FnI K "BadFields" (sI 5) f fd) (E : EF K mg) : FnOk P w K mg base CX0 1 f fd ["self"] (spC (cA K 5)) := by
  refine F.ok scI5 (fun vs H Q E h => ?_) (fun cdv A outer s H vs Q _ hr h => ?_)
  · obtain ⟨p, rfl, _⟩ := h
    rfl
  · obtain ⟨p, rfl, hp, k⟩ := h
    refine ⟨_, PSs.nox (pss_one (ps_expr (pe_xiV (by rfl) E.mV (pa_cons (pv 0) pa_nil)))), ?_⟩
    exact ⟨_, rfl, p, _, none, _, rfl, Nat.le_of_ble_eq_true rfl, (E.xc 5 (by decide)), hp, k _ (Same.refl _)⟩
theorem scI6 : FnScope ["self", "place"] ["self", "place"] (defScope (sI 6)) := ⟨rfl, rfl, rfl, by decide +kernel, rfl, by decide +kernel, by decide +kernel⟩
theorem ok_i6 {f : Addr} {fd : FuncData} (F : FnI K "BadKind" (sI 6) f fd) (E : EF K mg) : FnOk P w K mg base CX0 1 f fd ["self", "place"] (spA (cA K 6) "place") := by
  refine F.ok scI6 (fun vs H Q E h => ?_) (fun cdv A outer s H vs Q _ hr h => ?_)
  · obtain ⟨p, x, rfl, _⟩ := h
    rfl
  · obtain ⟨p, x, rfl, hp, k⟩ := h
    refine ⟨_, PSs.nox (pss_cons (ps_xst (b := .V) (pv 0) (pv 1)) (pss_one (ps_expr (pe_xiV (by rfl) E.mV (pa_cons (pv 0) (pa_cons (pv 1) pa_nil)))))), ?_⟩
    refine ⟨_, rfl, _, rfl, p, _, rfl, (E.xc 6 (by decide)), (E.no 6 (by decide) _ (by decide)), .inl ⟨hp, fun d hd ne => ?_⟩⟩
    refine ⟨_, rfl, _, rfl, p, _, some d, _, rfl, Nat.le_of_ble_eq_true rfl, (E.xc 6 (by decide)), upd_same, ?_⟩
    exact k _ ⟨d, upd_same, by rw [upd_ne ne]; exact upd_same⟩ (SameBut.self (SameBut.upd (fun b o e _ => e) hd))
theorem scI7 : FnScope ["self", "name"] ["self", "name"] (defScope (sI 7)) := ⟨rfl, rfl, rfl, by decide +kernel, rfl, by decide +kernel, by decide +kernel⟩
theorem ok_i7 {f : Addr} {fd : FuncData} (F : FnI K "Twice" (sI 7) f fd) (E : EF K mg) : FnOk P w K mg base CX0 1 f fd ["self", "name"] (spA (cA K 7) "name") := by
  refine F.ok scI7 (fun vs H Q E h => ?_) (fun cdv A outer s H vs Q _ hr h => ?_)
  · obtain ⟨p, x, rfl, _⟩ := h
    rfl
  · obtain ⟨p, x, rfl, hp, k⟩ := h
    refine ⟨_, PSs.nox (pss_cons (ps_xst (b := .V) (pv 0) (pv 1)) (pss_one (ps_expr (pe_xiV (by rfl) E.mV (pa_cons (pv 0) (pa_cons (pv 1) pa_nil)))))), ?_⟩
    refine ⟨_, rfl, _, rfl, p, _, rfl, (E.xc 7 (by decide)), (E.no 7 (by decide) _ (by decide)), .inl ⟨hp, fun d hd ne => ?_⟩⟩
    refine ⟨_, rfl, _, rfl, p, _, some d, _, rfl, Nat.le_of_ble_eq_true rfl, (E.xc 7 (by decide)), upd_same, ?_⟩
    exact k _ ⟨d, upd_same, by rw [upd_ne ne]; exact upd_same⟩ (SameBut.self (SameBut.upd (fun b o e _ => e) hd))
theorem scI8 : FnScope ["self", "one", "other"] ["self", "one", "other"] (defScope (sI 8)) := ⟨rfl, rfl, rfl, by decide +kernel, rfl, by decide +kernel, by decide +kernel⟩
theorem ok_i8 {f fT : Addr} {fd fdT : FuncData} (F : FnI K "Unlike" (sI 8) f fd) (FT : FnP K "tupled" sTupled fT fdT) (M : MgT mg) (mT : mg "tupled" = some (.ref fT)) (E : EF K mg) : FnOk P w K mg base CX0 3 f fd ["self", "one", "other"] (spE (cA K 8) "one" "other") := by
  have GT : FnOk P w K mg base CX0 2 fT fdT ["value"] spTupled := ok_tupled FT M mT
  have bT : Binds K fdT ["value"] [] := FT.bindsN fun _ _ _ _ _ _ us hl => match us, hl with | [_], _ => rfl
  refine F.ok scI8 (fun vs H Q E h => ?_) (fun cdv A outer s H vs Q _ hr h => ?_)
  · obtain ⟨p, q, r, xs, ys, rfl, _⟩ := h
    rfl
  · obtain ⟨p, q, r, xs, ys, rfl, hp, hq, hr2, hf, hf2, hl, hl2, k⟩ := h
    refine ⟨_, PSs.nox (pss_cons (ps_xst (b := .V) (pv 0) (pe_call GT hr rfl mT FT.kp bT .nil pass0 (pa_cons (pv 1) pa_nil))) (pss_cons (ps_xst (b := .V) (pv 0) (pe_call GT hr rfl mT FT.kp bT .nil pass0 (pa_cons (pv 2) pa_nil))) (pss_one (ps_expr (pe_xiV (by rfl) E.mV (pa_cons (pv 0) (pa_cons (pe_xat (b := .V) (pv 0)) (pa_cons (pe_xat (b := .V) (pv 0)) pa_nil)))))))), ?_⟩
    refine ⟨_, rfl, q, xs, rfl, hq, hf, hl, fun u H1 hu hu1 s1 => ?_⟩
    refine ⟨_, rfl, p, _, rfl, (E.xc 8 (by decide)), (E.no 8 (by decide) _ (by decide)), .inl ⟨s1 _ _ hp, fun d hd ne => ?_⟩⟩
    have nrp : r ≠ p := fun e => by
      rw [e, hp] at hr2
      exact exo_tup (Option.some.inj hr2)
    have e1 : (L2.upd (L2.upd H1 d (exd d [("one", .ref u)])) p (exo p (cA K 8) (some d))) d = some (exd d [("one", .ref u)]) := by
      rw [upd_ne ne]
      exact upd_same
    have e2 : (L2.upd (L2.upd H1 d (exd d [("one", .ref u)])) p (exo p (cA K 8) (some d))) r = some (.tup ys) := by
      rw [upd_ne nrp, upd_ne (ne_of_none (s1 _ _ hr2) hd)]
      exact s1 _ _ hr2
    have nu : u ≠ p := Ne.symm (ne_of_none hp hu)
    have e3 : (L2.upd (L2.upd H1 d (exd d [("one", .ref u)])) p (exo p (cA K 8) (some d))) u = some (.tup xs) := by
      rw [upd_ne nu, upd_ne (ne_of_none hu1 hd)]
      exact hu1
    have e4 : (L2.upd (L2.upd H1 d (exd d [("one", .ref u)])) p (exo p (cA K 8) (some d))) p = some (exo p (cA K 8) (some d)) := upd_same
    have s3 : SameBut p H (L2.upd (L2.upd H1 d (exd d [("one", .ref u)])) p (exo p (cA K 8) (some d))) := SameBut.self (SameBut.upd (SameBut.of s1) hd)
    have ndH : H d = none := s1.free hd
    generalize L2.upd (L2.upd H1 d (exd d [("one", .ref u)])) p (exo p (cA K 8) (some d)) = H2 at e1 e2 e3 e4 s3
    refine ⟨_, rfl, r, ys, rfl, e2, hf2, hl2, fun v H3 hv hv1 s4 => ?_⟩
    refine ⟨_, rfl, p, _, rfl, (E.xc 8 (by decide)), (E.no 8 (by decide) _ (by decide)), .inr ⟨d, _, s4 _ _ e4, s4 _ _ e1, by show 1 ≤ 900; decide, ?_⟩⟩
    have n1 : v ≠ d := Ne.symm (ne_of_none e1 hv)
    have n2 : u ≠ d := fun e => by
      rw [e, e1] at e3
      exact exd_tup (Option.some.inj e3)
    have f1 : (L2.upd H3 d (exd d [("other", .ref v), ("one", .ref u)])) p = some (exo p (cA K 8) (some d)) := by
      rw [upd_ne (Ne.symm ne)]
      exact s4 _ _ e4
    refine ⟨_, rfl, _, rfl, p, _, d, _, _, rfl, (E.xc 8 (by decide)), (E.no 8 (by decide) _ (by decide)), f1, upd_same, rfl, _, rfl, p, _, d, _, _, rfl, (E.xc 8 (by decide)), (E.no 8 (by decide) _ (by decide)), f1, upd_same, rfl, p, _, some d, _, rfl, Nat.le_of_ble_eq_true rfl, (E.xc 8 (by decide)), f1, ?_⟩
    refine k u v _ (by rw [upd_ne n2]; exact s4 _ _ e3) (by rw [upd_ne n1]; exact hv1) ⟨d, f1, upd_same⟩ fun b o e n => ?_
    rw [upd_ne (ne_of_none e ndH)]
    exact s4 _ _ (s3 b o e n)
theorem scI9 : FnScope ["self", "number"] ["self", "number"] (defScope (sI 9)) := ⟨rfl, rfl, rfl, by decide +kernel, rfl, by decide +kernel, by decide +kernel⟩
theorem ok_i9 {f : Addr} {fd : FuncData} (F : FnI K "BadLine" (sI 9) f fd) (E : EF K mg) : FnOk P w K mg base CX0 1 f fd ["self", "number"] (spA (cA K 9) "number") := by
  refine F.ok scI9 (fun vs H Q E h => ?_) (fun cdv A outer s H vs Q _ hr h => ?_)
  · obtain ⟨p, x, rfl, _⟩ := h
    rfl
  · obtain ⟨p, x, rfl, hp, k⟩ := h
    refine ⟨_, PSs.nox (pss_cons (ps_xst (b := .V) (pv 0) (pv 1)) (pss_one (ps_expr (pe_xiV (by rfl) E.mV (pa_cons (pv 0) (pa_cons (pv 1) pa_nil)))))), ?_⟩
    refine ⟨_, rfl, _, rfl, p, _, rfl, (E.xc 9 (by decide)), (E.no 9 (by decide) _ (by decide)), .inl ⟨hp, fun d hd ne => ?_⟩⟩
    refine ⟨_, rfl, _, rfl, p, _, some d, _, rfl, Nat.le_of_ble_eq_true rfl, (E.xc 9 (by decide)), upd_same, ?_⟩
    exact k _ ⟨d, upd_same, by rw [upd_ne ne]; exact upd_same⟩ (SameBut.self (SameBut.upd (fun b o e _ => e) hd))
theorem scI10 : FnScope ["self", "call"] ["self", "call"] (defScope (sI 10)) := ⟨rfl, rfl, rfl, by decide +kernel, rfl, by decide +kernel, by decide +kernel⟩
theorem ok_i10 {f fT : Addr} {fd fdT : FuncData} (F : FnI K "BadCall" (sI 10) f fd) (FT : FnP K "tupled" sTupled fT fdT) (M : MgT mg) (mT : mg "tupled" = some (.ref fT)) (E : EF K mg) : FnOk P w K mg base CX0 3 f fd ["self", "call"] (spB (cA K 10) "call") := by
  have GT : FnOk P w K mg base CX0 2 fT fdT ["value"] spTupled := ok_tupled FT M mT
  have bT : Binds K fdT ["value"] [] := FT.bindsN fun _ _ _ _ _ _ us hl => match us, hl with | [_], _ => rfl
  refine F.ok scI10 (fun vs H Q E h => ?_) (fun cdv A outer s H vs Q _ hr h => ?_)
  · obtain ⟨p, q, xs, rfl, _⟩ := h
    rfl
  · obtain ⟨p, q, xs, rfl, hp, hq, hf, hl, k⟩ := h
    refine ⟨_, PSs.nox (pss_cons (ps_xst (b := .V) (pv 0) (pe_call GT hr rfl mT FT.kp bT .nil pass0 (pa_cons (pv 1) pa_nil))) (pss_one (ps_expr (pe_xiV (by rfl) E.mV (pa_cons (pv 0) (pa_cons (pe_xat (b := .V) (pv 0)) pa_nil)))))), ?_⟩
    refine ⟨_, rfl, q, xs, rfl, hq, hf, hl, fun u H1 hu hu1 s1 => ?_⟩
    refine ⟨_, rfl, p, _, rfl, (E.xc 10 (by decide)), (E.no 10 (by decide) _ (by decide)), .inl ⟨s1 _ _ hp, fun d hd ne => ?_⟩⟩
    have e1 : (L2.upd (L2.upd H1 d (exd d [("call", .ref u)])) p (exo p (cA K 10) (some d))) d = some (exd d [("call", .ref u)]) := by
      rw [upd_ne ne]
      exact upd_same
    refine ⟨_, rfl, _, rfl, p, _, d, _, _, rfl, (E.xc 10 (by decide)), (E.no 10 (by decide) _ (by decide)), upd_same, e1, rfl, p, _, some d, _, rfl, Nat.le_of_ble_eq_true rfl, (E.xc 10 (by decide)), upd_same, ?_⟩
    have nu : u ≠ p := Ne.symm (ne_of_none hp hu)
    refine k u _ ?_ ⟨d, upd_same, e1⟩ (SameBut.self (SameBut.upd (SameBut.of s1) hd))
    rw [upd_ne nu, upd_ne (ne_of_none hu1 hd)]
    exact hu1
theorem scI11 : FnScope ["self", "most"] ["self", "most"] (defScope (sI 11)) := ⟨rfl, rfl, rfl, by decide +kernel, rfl, by decide +kernel, by decide +kernel⟩
theorem ok_i11 {f : Addr} {fd : FuncData} (F : FnI K "TooMany" (sI 11) f fd) (E : EF K mg) : FnOk P w K mg base CX0 1 f fd ["self", "most"] (spA (cA K 11) "most") := by
  refine F.ok scI11 (fun vs H Q E h => ?_) (fun cdv A outer s H vs Q _ hr h => ?_)
  · obtain ⟨p, x, rfl, _⟩ := h
    rfl
  · obtain ⟨p, x, rfl, hp, k⟩ := h
    refine ⟨_, PSs.nox (pss_cons (ps_xst (b := .V) (pv 0) (pv 1)) (pss_one (ps_expr (pe_xiV (by rfl) E.mV (pa_cons (pv 0) (pa_cons (pv 1) pa_nil)))))), ?_⟩
    refine ⟨_, rfl, _, rfl, p, _, rfl, (E.xc 11 (by decide)), (E.no 11 (by decide) _ (by decide)), .inl ⟨hp, fun d hd ne => ?_⟩⟩
    refine ⟨_, rfl, _, rfl, p, _, some d, _, rfl, Nat.le_of_ble_eq_true rfl, (E.xc 11 (by decide)), upd_same, ?_⟩
    exact k _ ⟨d, upd_same, by rw [upd_ne ne]; exact upd_same⟩ (SameBut.self (SameBut.upd (fun b o e _ => e) hd))
theorem scI12 : FnScope ["self", "place"] ["self", "place"] (defScope (sI 12)) := ⟨rfl, rfl, rfl, by decide +kernel, rfl, by decide +kernel, by decide +kernel⟩
theorem ok_i12 {f : Addr} {fd : FuncData} (F : FnI K "Passed" (sI 12) f fd) (E : EF K mg) : FnOk P w K mg base CX0 1 f fd ["self", "place"] (spA (cA K 12) "place") := by
  refine F.ok scI12 (fun vs H Q E h => ?_) (fun cdv A outer s H vs Q _ hr h => ?_)
  · obtain ⟨p, x, rfl, _⟩ := h
    rfl
  · obtain ⟨p, x, rfl, hp, k⟩ := h
    refine ⟨_, PSs.nox (pss_cons (ps_xst (b := .V) (pv 0) (pv 1)) (pss_one (ps_expr (pe_xiV (by rfl) E.mV (pa_cons (pv 0) (pa_cons (pv 1) pa_nil)))))), ?_⟩
    refine ⟨_, rfl, _, rfl, p, _, rfl, (E.xc 12 (by decide)), (E.no 12 (by decide) _ (by decide)), .inl ⟨hp, fun d hd ne => ?_⟩⟩
    refine ⟨_, rfl, _, rfl, p, _, some d, _, rfl, Nat.le_of_ble_eq_true rfl, (E.xc 12 (by decide)), upd_same, ?_⟩
    exact k _ ⟨d, upd_same, by rw [upd_ne ne]; exact upd_same⟩ (SameBut.self (SameBut.upd (fun b o e _ => e) hd))
theorem scI13 : FnScope ["self"] ["self"] (defScope (sI 13)) := ⟨rfl, rfl, rfl, by decide +kernel, rfl, by decide +kernel, by decide +kernel⟩
theorem ok_i13 {f : Addr} {fd : FuncData} (F : FnI K "NoWay" (sI 13) f fd) (E : EF K mg) : FnOk P w K mg base CX0 1 f fd ["self"] (spC (cA K 13)) := by
  refine F.ok scI13 (fun vs H Q E h => ?_) (fun cdv A outer s H vs Q _ hr h => ?_)
  · obtain ⟨p, rfl, _⟩ := h
    rfl
  · obtain ⟨p, rfl, hp, k⟩ := h
    refine ⟨_, PSs.nox (pss_one (ps_expr (pe_xiV (by rfl) E.mV (pa_cons (pv 0) pa_nil)))), ?_⟩
    exact ⟨_, rfl, p, _, none, _, rfl, Nat.le_of_ble_eq_true rfl, (E.xc 13 (by decide)), hp, k _ (Same.refl _)⟩
theorem scI14 : FnScope ["self"] ["self"] (defScope (sI 14)) := ⟨rfl, rfl, rfl, by decide +kernel, rfl, by decide +kernel, by decide +kernel⟩
theorem ok_i14 {f : Addr} {fd : FuncData} (F : FnI K "NeverShown" (sI 14) f fd) (E : EF K mg) : FnOk P w K mg base CX0 1 f fd ["self"] (spC (cA K 14)) := by
  refine F.ok scI14 (fun vs H Q E h => ?_) (fun cdv A outer s H vs Q _ hr h => ?_)
  · obtain ⟨p, rfl, _⟩ := h
    rfl
  · obtain ⟨p, rfl, hp, k⟩ := h
    refine ⟨_, PSs.nox (pss_one (ps_expr (pe_xiV (by rfl) E.mV (pa_cons (pv 0) pa_nil)))), ?_⟩
    exact ⟨_, rfl, p, _, none, _, rfl, Nat.le_of_ble_eq_true rfl, (E.xc 14 (by decide)), hp, k _ (Same.refl _)⟩
theorem scI15 : FnScope ["self", "place"] ["self", "place"] (defScope (sI 15)) := ⟨rfl, rfl, rfl, by decide +kernel, rfl, by decide +kernel, by decide +kernel⟩
theorem ok_i15 {f : Addr} {fd : FuncData} (F : FnI K "NotShown" (sI 15) f fd) (E : EF K mg) : FnOk P w K mg base CX0 1 f fd ["self", "place"] (spA (cA K 15) "place") := by
  refine F.ok scI15 (fun vs H Q E h => ?_) (fun cdv A outer s H vs Q _ hr h => ?_)
  · obtain ⟨p, x, rfl, _⟩ := h
    rfl
  · obtain ⟨p, x, rfl, hp, k⟩ := h
    refine ⟨_, PSs.nox (pss_cons (ps_xst (b := .V) (pv 0) (pv 1)) (pss_one (ps_expr (pe_xiV (by rfl) E.mV (pa_cons (pv 0) (pa_cons (pv 1) pa_nil)))))), ?_⟩
    refine ⟨_, rfl, _, rfl, p, _, rfl, (E.xc 15 (by decide)), (E.no 15 (by decide) _ (by decide)), .inl ⟨hp, fun d hd ne => ?_⟩⟩
    refine ⟨_, rfl, _, rfl, p, _, some d, _, rfl, Nat.le_of_ble_eq_true rfl, (E.xc 15 (by decide)), upd_same, ?_⟩
    exact k _ ⟨d, upd_same, by rw [upd_ne ne]; exact upd_same⟩ (SameBut.self (SameBut.upd (fun b o e _ => e) hd))
theorem scI16 : FnScope ["self"] ["self"] (defScope (sI 16)) := ⟨rfl, rfl, rfl, by decide +kernel, rfl, by decide +kernel, by decide +kernel⟩
theorem ok_i16 {f : Addr} {fd : FuncData} (F : FnI K "OtherBook" (sI 16) f fd) (E : EF K mg) : FnOk P w K mg base CX0 1 f fd ["self"] (spC (cA K 16)) := by
  refine F.ok scI16 (fun vs H Q E h => ?_) (fun cdv A outer s H vs Q _ hr h => ?_)
  · obtain ⟨p, rfl, _⟩ := h
    rfl
  · obtain ⟨p, rfl, hp, k⟩ := h
    refine ⟨_, PSs.nox (pss_one (ps_expr (pe_xiV (by rfl) E.mV (pa_cons (pv 0) pa_nil)))), ?_⟩
    exact ⟨_, rfl, p, _, none, _, rfl, Nat.le_of_ble_eq_true rfl, (E.xc 16 (by decide)), hp, k _ (Same.refl _)⟩
theorem scI17 : FnScope ["self"] ["self"] (defScope (sI 17)) := ⟨rfl, rfl, rfl, by decide +kernel, rfl, by decide +kernel, by decide +kernel⟩
theorem ok_i17 {f : Addr} {fd : FuncData} (F : FnI K "Unsettled" (sI 17) f fd) (E : EF K mg) : FnOk P w K mg base CX0 1 f fd ["self"] (spC (cA K 17)) := by
  refine F.ok scI17 (fun vs H Q E h => ?_) (fun cdv A outer s H vs Q _ hr h => ?_)
  · obtain ⟨p, rfl, _⟩ := h
    rfl
  · obtain ⟨p, rfl, hp, k⟩ := h
    refine ⟨_, PSs.nox (pss_one (ps_expr (pe_xiV (by rfl) E.mV (pa_cons (pv 0) pa_nil)))), ?_⟩
    exact ⟨_, rfl, p, _, none, _, rfl, Nat.le_of_ble_eq_true rfl, (E.xc 17 (by decide)), hp, k _ (Same.refl _)⟩
theorem scI18 : FnScope ["self", "first", "second"] ["self", "first", "second"] (defScope (sI 18)) := ⟨rfl, rfl, rfl, by decide +kernel, rfl, by decide +kernel, by decide +kernel⟩
theorem ok_i18 {f : Addr} {fd : FuncData} (F : FnI K "Turned" (sI 18) f fd) (E : EF K mg) : FnOk P w K mg base CX0 1 f fd ["self", "first", "second"] (spD (cA K 18) "first" "second") := by
  refine F.ok scI18 (fun vs H Q E h => ?_) (fun cdv A outer s H vs Q _ hr h => ?_)
  · obtain ⟨p, x, y, rfl, _⟩ := h
    rfl
  · obtain ⟨p, x, y, rfl, hp, k⟩ := h
    refine ⟨_, PSs.nox (pss_cons (ps_xst (b := .V) (pv 0) (pv 1)) (pss_cons (ps_xst (b := .V) (pv 0) (pv 2)) (pss_one (ps_expr (pe_xiV (by rfl) E.mV (pa_cons (pv 0) (pa_cons (pv 1) (pa_cons (pv 2) pa_nil)))))))), ?_⟩
    refine ⟨_, rfl, _, rfl, p, _, rfl, (E.xc 18 (by decide)), (E.no 18 (by decide) _ (by decide)), .inl ⟨hp, fun d hd ne => ?_⟩⟩
    have e1 : (L2.upd (L2.upd H d (exd d [("first", x)])) p (exo p (cA K 18) (some d))) d = some (exd d [("first", x)]) := by
      rw [upd_ne ne]
      exact upd_same
    refine ⟨_, rfl, _, rfl, p, _, rfl, (E.xc 18 (by decide)), (E.no 18 (by decide) _ (by decide)), .inr ⟨d, _, upd_same, e1, by show 1 ≤ 900; decide, ?_⟩⟩
    have e2 : (L2.upd (L2.upd (L2.upd H d (exd d [("first", x)])) p (exo p (cA K 18) (some d))) d (exd d [("second", y), ("first", x)])) p = some (exo p (cA K 18) (some d)) := by
      rw [upd_ne (Ne.symm ne)]
      exact upd_same
    refine ⟨_, rfl, _, rfl, _, rfl, p, _, some d, _, rfl, Nat.le_of_ble_eq_true rfl, (E.xc 18 (by decide)), e2, ?_⟩
    refine k _ ⟨d, e2, upd_same⟩ fun b o e n => ?_
    have nb : b ≠ d := ne_of_none e hd
    rw [upd_ne nb, upd_ne n, upd_ne nb]
    exact e
theorem scI19 : FnScope ["self"] ["self"] (defScope (sI 19)) := ⟨rfl, rfl, rfl, by decide +kernel, rfl, by decide +kernel, by decide +kernel⟩
theorem ok_i19 {f : Addr} {fd : FuncData} (F : FnI K "BadPlan" (sI 19) f fd) (E : EF K mg) : FnOk P w K mg base CX0 1 f fd ["self"] (spC (cA K 19)) := by
  refine F.ok scI19 (fun vs H Q E h => ?_) (fun cdv A outer s H vs Q _ hr h => ?_)
  · obtain ⟨p, rfl, _⟩ := h
    rfl
  · obtain ⟨p, rfl, hp, k⟩ := h
    refine ⟨_, PSs.nox (pss_one (ps_expr (pe_xiV (by rfl) E.mV (pa_cons (pv 0) pa_nil)))), ?_⟩
    exact ⟨_, rfl, p, _, none, _, rfl, Nat.le_of_ble_eq_true rfl, (E.xc 19 (by decide)), hp, k _ (Same.refl _)⟩
theorem scI20 : FnScope ["self", "name"] ["self", "name"] (defScope (sI 20)) := ⟨rfl, rfl, rfl, by decide +kernel, rfl, by decide +kernel, by decide +kernel⟩
theorem ok_i20 {f : Addr} {fd : FuncData} (F : FnI K "Uneven" (sI 20) f fd) (E : EF K mg) : FnOk P w K mg base CX0 1 f fd ["self", "name"] (spA (cA K 20) "name") := by
  refine F.ok scI20 (fun vs H Q E h => ?_) (fun cdv A outer s H vs Q _ hr h => ?_)
  · obtain ⟨p, x, rfl, _⟩ := h
    rfl
  · obtain ⟨p, x, rfl, hp, k⟩ := h
    refine ⟨_, PSs.nox (pss_cons (ps_xst (b := .V) (pv 0) (pv 1)) (pss_one (ps_expr (pe_xiV (by rfl) E.mV (pa_cons (pv 0) (pa_cons (pv 1) pa_nil)))))), ?_⟩
    refine ⟨_, rfl, _, rfl, p, _, rfl, (E.xc 20 (by decide)), (E.no 20 (by decide) _ (by decide)), .inl ⟨hp, fun d hd ne => ?_⟩⟩
    refine ⟨_, rfl, _, rfl, p, _, some d, _, rfl, Nat.le_of_ble_eq_true rfl, (E.xc 20 (by decide)), upd_same, ?_⟩
    exact k _ ⟨d, upd_same, by rw [upd_ne ne]; exact upd_same⟩ (SameBut.self (SameBut.upd (fun b o e _ => e) hd))
theorem scI21 : FnScope ["self", "place", "word"] ["self", "place", "word"] (defScope (sI 21)) := ⟨rfl, rfl, rfl, by decide +kernel, rfl, by decide +kernel, by decide +kernel⟩
theorem ok_i21 {f : Addr} {fd : FuncData} (F : FnI K "Untrue" (sI 21) f fd) (E : EF K mg) : FnOk P w K mg base CX0 1 f fd ["self", "place", "word"] (spD (cA K 21) "place" "word") := by
  refine F.ok scI21 (fun vs H Q E h => ?_) (fun cdv A outer s H vs Q _ hr h => ?_)
  · obtain ⟨p, x, y, rfl, _⟩ := h
    rfl
  · obtain ⟨p, x, y, rfl, hp, k⟩ := h
    refine ⟨_, PSs.nox (pss_cons (ps_xst (b := .R) (pv 0) (pv 1)) (pss_cons (ps_xst (b := .R) (pv 0) (pv 2)) (pss_one (ps_expr (pe_xiR (by rfl) E.mR (pa_cons (pv 0) (pa_cons (pv 1) (pa_cons (pv 2) pa_nil)))))))), ?_⟩
    refine ⟨_, rfl, _, rfl, p, _, rfl, (E.xc 21 (by decide)), (E.no 21 (by decide) _ (by decide)), .inl ⟨hp, fun d hd ne => ?_⟩⟩
    have e1 : (L2.upd (L2.upd H d (exd d [("place", x)])) p (exo p (cA K 21) (some d))) d = some (exd d [("place", x)]) := by
      rw [upd_ne ne]
      exact upd_same
    refine ⟨_, rfl, _, rfl, p, _, rfl, (E.xc 21 (by decide)), (E.no 21 (by decide) _ (by decide)), .inr ⟨d, _, upd_same, e1, by show 1 ≤ 900; decide, ?_⟩⟩
    have e2 : (L2.upd (L2.upd (L2.upd H d (exd d [("place", x)])) p (exo p (cA K 21) (some d))) d (exd d [("word", y), ("place", x)])) p = some (exo p (cA K 21) (some d)) := by
      rw [upd_ne (Ne.symm ne)]
      exact upd_same
    refine ⟨_, rfl, _, rfl, _, rfl, p, _, some d, _, rfl, Nat.le_of_ble_eq_true rfl, (E.xc 21 (by decide)), e2, ?_⟩
    refine k _ ⟨d, e2, upd_same⟩ fun b o e n => ?_
    have nb : b ≠ d := ne_of_none e hd
    rw [upd_ne nb, upd_ne n, upd_ne nb]
    exact e
end
end Own
/-! _law_under, _law_marks. -/
namespace Own
open PySem PySem.Spec PyProof.Rows L2
theorem _root_.L2.ExcAt.same {H H' : Hp} {a C : Addr} (h : ExcAt H a C) (s : Same H H') : ExcAt H' a C := by
  rcases h with h | ⟨d, fs, h1, h2⟩
  · exact .inl (s _ _ h)
  · exact .inr ⟨d, fs, s _ _ h1, s _ _ h2⟩
def marks (i : Nat) : List V := [.bl (decide (i = 0)), .bl (decide (i = 1)), .bl (decide (i = 2)), .bl (decide (i = 3)), .bl (decide (i = 4)), .bl (decide (i = 5)), .bl (decide (i = 6)), .bl (decide (i = 7)), .bl (decide (i = 8)), .bl (decide (i = 9)), .bl (decide (i = 10)), .bl (decide (i = 11)), .bl (decide (i = 12)), .bl (decide (i = 13)), .bl (decide (i = 14)), .bl (decide (i = 15)), .bl (decide (i = 16)), .bl (decide (i = 17)), .bl (decide (i = 18)), .bl (decide (i = 19)), .bl (decide (i = 20)), .bl (decide (i = 21))]
def mk0 (i : Nat) : List V := [.bl (decide (i = 0)), .bl (decide (i = 1)), .bl (decide (i = 2))]
def gk1 (i : Nat) : List V := [.bl (decide (i = 3)), .bl (decide (i = 4)), .bl (decide (i = 5))]
def mk1 (i : Nat) : List V := mk0 i ++ gk1 i
def gk2 (i : Nat) : List V := [.bl (decide (i = 6)), .bl (decide (i = 7)), .bl (decide (i = 8))]
def mk2 (i : Nat) : List V := mk1 i ++ gk2 i
def gk3 (i : Nat) : List V := [.bl (decide (i = 9)), .bl (decide (i = 10)), .bl (decide (i = 11))]
def mk3 (i : Nat) : List V := mk2 i ++ gk3 i
def gk4 (i : Nat) : List V := [.bl (decide (i = 12)), .bl (decide (i = 13)), .bl (decide (i = 14))]
def mk4 (i : Nat) : List V := mk3 i ++ gk4 i
def gk5 (i : Nat) : List V := [.bl (decide (i = 15)), .bl (decide (i = 16)), .bl (decide (i = 17))]
def mk5 (i : Nat) : List V := mk4 i ++ gk5 i
def gk6 (i : Nat) : List V := [.bl (decide (i = 18)), .bl (decide (i = 19)), .bl (decide (i = 20))]
def mk6 (i : Nat) : List V := mk5 i ++ gk6 i
def gk7 (i : Nat) : List V := [.bl (decide (i = 21))]
def mk7 (i : Nat) : List V := mk6 i ++ gk7 i
def spMarks (K : PySem.W.Frag) : Sp := fun vs H Q _ => ∃ (p : Addr) (i : Nat), vs = [.ref p] ∧ i < 22 ∧ ExcAt H p (cA K i) ∧ ∀ (l : Addr) (H' : Hp), H l = none → H' l = some (.lst (marks i)) → Same H H' → Q (.ref l) H'
theorem scMarks : FnScope ["_law_error", "_law_found"] ["_law_error"] (defScope sMarks) := ⟨rfl, rfl, rfl, by decide +kernel, rfl, by decide +kernel, by decide +kernel⟩
section
variable {P : Program} {w : World} {K : PySem.W.Frag} {mg : Str → Option Value} {base : Heap}
theorem ok_marks {f : Addr} {fd : FuncData} (F : FnP K "_law_marks" sMarks f fd) (M : MgT mg) (E : EF K mg) : FnOk P w K mg base CX0 1 f fd ["_law_error"] (spMarks K) := by
  refine F.ok scMarks (fun vs H Q E h => ?_) (fun cdv A outer s H vs Q _ hr h => ?_)
  · obtain ⟨p, i, rfl, _⟩ := h
    rfl
  · obtain ⟨p, i, rfl, hi, hE, k⟩ := h
    refine ⟨_, PSs.nox (pss_cons (ps_set (i := 1) scMarks.nd rfl (.inl rfl) (pe_lst (pa_cons (pe_callB call_xis (by rfl) M.isi (by decide +kernel) (pa_cons (pv 0) (pa_cons (pe_glob (v := .ref (cA K 0)) rfl (E.gl 0 (by decide)) rfl) pa_nil))) (pa_cons (pe_callB call_xis (by rfl) M.isi (by decide +kernel) (pa_cons (pv 0) (pa_cons (pe_glob (v := .ref (cA K 1)) rfl (E.gl 1 (by decide)) rfl) pa_nil))) (pa_cons (pe_callB call_xis (by rfl) M.isi (by decide +kernel) (pa_cons (pv 0) (pa_cons (pe_glob (v := .ref (cA K 2)) rfl (E.gl 2 (by decide)) rfl) pa_nil))) pa_nil))))) (pss_cons (ps_set (i := 1) scMarks.nd rfl (.inl rfl) (pe_op op_cat (pv 1) (pe_lst (pa_cons (pe_callB call_xis (by rfl) M.isi (by decide +kernel) (pa_cons (pv 0) (pa_cons (pe_glob (v := .ref (cA K 3)) rfl (E.gl 3 (by decide)) rfl) pa_nil))) (pa_cons (pe_callB call_xis (by rfl) M.isi (by decide +kernel) (pa_cons (pv 0) (pa_cons (pe_glob (v := .ref (cA K 4)) rfl (E.gl 4 (by decide)) rfl) pa_nil))) (pa_cons (pe_callB call_xis (by rfl) M.isi (by decide +kernel) (pa_cons (pv 0) (pa_cons (pe_glob (v := .ref (cA K 5)) rfl (E.gl 5 (by decide)) rfl) pa_nil))) pa_nil)))))) (pss_cons (ps_set (i := 1) scMarks.nd rfl (.inl rfl) (pe_op op_cat (pv 1) (pe_lst (pa_cons (pe_callB call_xis (by rfl) M.isi (by decide +kernel) (pa_cons (pv 0) (pa_cons (pe_glob (v := .ref (cA K 6)) rfl (E.gl 6 (by decide)) rfl) pa_nil))) (pa_cons (pe_callB call_xis (by rfl) M.isi (by decide +kernel) (pa_cons (pv 0) (pa_cons (pe_glob (v := .ref (cA K 7)) rfl (E.gl 7 (by decide)) rfl) pa_nil))) (pa_cons (pe_callB call_xis (by rfl) M.isi (by decide +kernel) (pa_cons (pv 0) (pa_cons (pe_glob (v := .ref (cA K 8)) rfl (E.gl 8 (by decide)) rfl) pa_nil))) pa_nil)))))) (pss_cons (ps_set (i := 1) scMarks.nd rfl (.inl rfl) (pe_op op_cat (pv 1) (pe_lst (pa_cons (pe_callB call_xis (by rfl) M.isi (by decide +kernel) (pa_cons (pv 0) (pa_cons (pe_glob (v := .ref (cA K 9)) rfl (E.gl 9 (by decide)) rfl) pa_nil))) (pa_cons (pe_callB call_xis (by rfl) M.isi (by decide +kernel) (pa_cons (pv 0) (pa_cons (pe_glob (v := .ref (cA K 10)) rfl (E.gl 10 (by decide)) rfl) pa_nil))) (pa_cons (pe_callB call_xis (by rfl) M.isi (by decide +kernel) (pa_cons (pv 0) (pa_cons (pe_glob (v := .ref (cA K 11)) rfl (E.gl 11 (by decide)) rfl) pa_nil))) pa_nil)))))) (pss_cons (ps_set (i := 1) scMarks.nd rfl (.inl rfl) (pe_op op_cat (pv 1) (pe_lst (pa_cons (pe_callB call_xis (by rfl) M.isi (by decide +kernel) (pa_cons (pv 0) (pa_cons (pe_glob (v := .ref (cA K 12)) rfl (E.gl 12 (by decide)) rfl) pa_nil))) (pa_cons (pe_callB call_xis (by rfl) M.isi (by decide +kernel) (pa_cons (pv 0) (pa_cons (pe_glob (v := .ref (cA K 13)) rfl (E.gl 13 (by decide)) rfl) pa_nil))) (pa_cons (pe_callB call_xis (by rfl) M.isi (by decide +kernel) (pa_cons (pv 0) (pa_cons (pe_glob (v := .ref (cA K 14)) rfl (E.gl 14 (by decide)) rfl) pa_nil))) pa_nil)))))) (pss_cons (ps_set (i := 1) scMarks.nd rfl (.inl rfl) (pe_op op_cat (pv 1) (pe_lst (pa_cons (pe_callB call_xis (by rfl) M.isi (by decide +kernel) (pa_cons (pv 0) (pa_cons (pe_glob (v := .ref (cA K 15)) rfl (E.gl 15 (by decide)) rfl) pa_nil))) (pa_cons (pe_callB call_xis (by rfl) M.isi (by decide +kernel) (pa_cons (pv 0) (pa_cons (pe_glob (v := .ref (cA K 16)) rfl (E.gl 16 (by decide)) rfl) pa_nil))) (pa_cons (pe_callB call_xis (by rfl) M.isi (by decide +kernel) (pa_cons (pv 0) (pa_cons (pe_glob (v := .ref (cA K 17)) rfl (E.gl 17 (by decide)) rfl) pa_nil))) pa_nil)))))) (pss_cons (ps_set (i := 1) scMarks.nd rfl (.inl rfl) (pe_op op_cat (pv 1) (pe_lst (pa_cons (pe_callB call_xis (by rfl) M.isi (by decide +kernel) (pa_cons (pv 0) (pa_cons (pe_glob (v := .ref (cA K 18)) rfl (E.gl 18 (by decide)) rfl) pa_nil))) (pa_cons (pe_callB call_xis (by rfl) M.isi (by decide +kernel) (pa_cons (pv 0) (pa_cons (pe_glob (v := .ref (cA K 19)) rfl (E.gl 19 (by decide)) rfl) pa_nil))) (pa_cons (pe_callB call_xis (by rfl) M.isi (by decide +kernel) (pa_cons (pv 0) (pa_cons (pe_glob (v := .ref (cA K 20)) rfl (E.gl 20 (by decide)) rfl) pa_nil))) pa_nil)))))) (pss_one (ps_ret (pe_op op_cat (pv 1) (pe_lst (pa_cons (pe_callB call_xis (by rfl) M.isi (by decide +kernel) (pa_cons (pv 0) (pa_cons (pe_glob (v := .ref (cA K 21)) rfl (E.gl 21 (by decide)) rfl) pa_nil))) pa_nil)))))))))))), ?_⟩
    have h0 : ExcAt H p (cA K i) := hE
    refine ⟨_, rfl, p, _, _, _, _, rfl, .own _, hE, (E.xc i hi).ex, E.kit i 0 hi (by decide), _, rfl, p, _, _, _, _, rfl, .own _, hE, (E.xc i hi).ex, E.kit i 1 hi (by decide), _, rfl, p, _, _, _, _, rfl, .own _, hE, (E.xc i hi).ex, E.kit i 2 hi (by decide), by show 3 ≤ sizeLine; decide, fun l0 hl0 => ?_⟩
    have s0 : Same H (L2.upd H l0 (.lst [.bl (decide (i = 0)), .bl (decide (i = 1)), .bl (decide (i = 2))])) := Same.upd (Same.refl H) hl0
    have a0 : (L2.upd H l0 (.lst [.bl (decide (i = 0)), .bl (decide (i = 1)), .bl (decide (i = 2))])) l0 = some (.lst [.bl (decide (i = 0)), .bl (decide (i = 1)), .bl (decide (i = 2))]) := upd_same
    generalize L2.upd H l0 (.lst [.bl (decide (i = 0)), .bl (decide (i = 1)), .bl (decide (i = 2))]) = H0 at s0 a0
    have a0 : H0 l0 = some (.lst (mk0 i)) := a0
    have f0 : H l0 = none := hl0
    refine ⟨_, rfl, _, rfl, p, _, _, _, _, rfl, .own _, (hE.same s0), (E.xc i hi).ex, E.kit i 3 hi (by decide), _, rfl, p, _, _, _, _, rfl, .own _, (hE.same s0), (E.xc i hi).ex, E.kit i 4 hi (by decide), _, rfl, p, _, _, _, _, rfl, .own _, (hE.same s0), (E.xc i hi).ex, E.kit i 5 hi (by decide), by show 3 ≤ sizeLine; decide, fun m1 hm1 => ?_⟩
    have t1 : Same H (L2.upd H0 m1 (.lst [.bl (decide (i = 3)), .bl (decide (i = 4)), .bl (decide (i = 5))])) := Same.upd s0 hm1
    have nn1 : m1 ≠ l0 := fun e => by
      rw [e, a0] at hm1
      cases hm1
    have b1 : (L2.upd H0 m1 (.lst [.bl (decide (i = 3)), .bl (decide (i = 4)), .bl (decide (i = 5))])) l0 = some (.lst (mk0 i)) := by
      rw [upd_ne (Ne.symm nn1)]
      exact a0
    have c1 : (L2.upd H0 m1 (.lst [.bl (decide (i = 3)), .bl (decide (i = 4)), .bl (decide (i = 5))])) m1 = some (.lst [.bl (decide (i = 3)), .bl (decide (i = 4)), .bl (decide (i = 5))]) := upd_same
    generalize L2.upd H0 m1 (.lst [.bl (decide (i = 3)), .bl (decide (i = 4)), .bl (decide (i = 5))]) = G1 at t1 b1 c1
    have c1 : G1 m1 = some (.lst (gk1 i)) := c1
    refine ⟨l0, m1, _, _, rfl, rfl, b1, c1, by show 6 ≤ sizeLine; decide, fun l1 hl1 => ?_⟩
    have s1 : Same H (L2.upd G1 l1 (.lst ((mk0 i) ++ gk1 i))) := Same.upd t1 hl1
    have a1 : (L2.upd G1 l1 (.lst ((mk0 i) ++ gk1 i))) l1 = some (.lst ((mk0 i) ++ gk1 i)) := upd_same
    generalize L2.upd G1 l1 (.lst ((mk0 i) ++ gk1 i)) = H1 at s1 a1
    have a1 : H1 l1 = some (.lst (mk1 i)) := a1
    refine ⟨_, rfl, _, rfl, p, _, _, _, _, rfl, .own _, (hE.same s1), (E.xc i hi).ex, E.kit i 6 hi (by decide), _, rfl, p, _, _, _, _, rfl, .own _, (hE.same s1), (E.xc i hi).ex, E.kit i 7 hi (by decide), _, rfl, p, _, _, _, _, rfl, .own _, (hE.same s1), (E.xc i hi).ex, E.kit i 8 hi (by decide), by show 3 ≤ sizeLine; decide, fun m2 hm2 => ?_⟩
    have t2 : Same H (L2.upd H1 m2 (.lst [.bl (decide (i = 6)), .bl (decide (i = 7)), .bl (decide (i = 8))])) := Same.upd s1 hm2
    have nn2 : m2 ≠ l1 := fun e => by
      rw [e, a1] at hm2
      cases hm2
    have b2 : (L2.upd H1 m2 (.lst [.bl (decide (i = 6)), .bl (decide (i = 7)), .bl (decide (i = 8))])) l1 = some (.lst (mk1 i)) := by
      rw [upd_ne (Ne.symm nn2)]
      exact a1
    have c2 : (L2.upd H1 m2 (.lst [.bl (decide (i = 6)), .bl (decide (i = 7)), .bl (decide (i = 8))])) m2 = some (.lst [.bl (decide (i = 6)), .bl (decide (i = 7)), .bl (decide (i = 8))]) := upd_same
    generalize L2.upd H1 m2 (.lst [.bl (decide (i = 6)), .bl (decide (i = 7)), .bl (decide (i = 8))]) = G2 at t2 b2 c2
    have c2 : G2 m2 = some (.lst (gk2 i)) := c2
    refine ⟨l1, m2, _, _, rfl, rfl, b2, c2, by show 9 ≤ sizeLine; decide, fun l2 hl2 => ?_⟩
    have s2 : Same H (L2.upd G2 l2 (.lst ((mk1 i) ++ gk2 i))) := Same.upd t2 hl2
    have a2 : (L2.upd G2 l2 (.lst ((mk1 i) ++ gk2 i))) l2 = some (.lst ((mk1 i) ++ gk2 i)) := upd_same
    generalize L2.upd G2 l2 (.lst ((mk1 i) ++ gk2 i)) = H2 at s2 a2
    have a2 : H2 l2 = some (.lst (mk2 i)) := a2
    refine ⟨_, rfl, _, rfl, p, _, _, _, _, rfl, .own _, (hE.same s2), (E.xc i hi).ex, E.kit i 9 hi (by decide), _, rfl, p, _, _, _, _, rfl, .own _, (hE.same s2), (E.xc i hi).ex, E.kit i 10 hi (by decide), _, rfl, p, _, _, _, _, rfl, .own _, (hE.same s2), (E.xc i hi).ex, E.kit i 11 hi (by decide), by show 3 ≤ sizeLine; decide, fun m3 hm3 => ?_⟩
    have t3 : Same H (L2.upd H2 m3 (.lst [.bl (decide (i = 9)), .bl (decide (i = 10)), .bl (decide (i = 11))])) := Same.upd s2 hm3
    have nn3 : m3 ≠ l2 := fun e => by
      rw [e, a2] at hm3
      cases hm3
    have b3 : (L2.upd H2 m3 (.lst [.bl (decide (i = 9)), .bl (decide (i = 10)), .bl (decide (i = 11))])) l2 = some (.lst (mk2 i)) := by
      rw [upd_ne (Ne.symm nn3)]
      exact a2
    have c3 : (L2.upd H2 m3 (.lst [.bl (decide (i = 9)), .bl (decide (i = 10)), .bl (decide (i = 11))])) m3 = some (.lst [.bl (decide (i = 9)), .bl (decide (i = 10)), .bl (decide (i = 11))]) := upd_same
    generalize L2.upd H2 m3 (.lst [.bl (decide (i = 9)), .bl (decide (i = 10)), .bl (decide (i = 11))]) = G3 at t3 b3 c3
    have c3 : G3 m3 = some (.lst (gk3 i)) := c3
    refine ⟨l2, m3, _, _, rfl, rfl, b3, c3, by show 12 ≤ sizeLine; decide, fun l3 hl3 => ?_⟩
    have s3 : Same H (L2.upd G3 l3 (.lst ((mk2 i) ++ gk3 i))) := Same.upd t3 hl3
    have a3 : (L2.upd G3 l3 (.lst ((mk2 i) ++ gk3 i))) l3 = some (.lst ((mk2 i) ++ gk3 i)) := upd_same
    generalize L2.upd G3 l3 (.lst ((mk2 i) ++ gk3 i)) = H3 at s3 a3
    have a3 : H3 l3 = some (.lst (mk3 i)) := a3
    refine ⟨_, rfl, _, rfl, p, _, _, _, _, rfl, .own _, (hE.same s3), (E.xc i hi).ex, E.kit i 12 hi (by decide), _, rfl, p, _, _, _, _, rfl, .own _, (hE.same s3), (E.xc i hi).ex, E.kit i 13 hi (by decide), _, rfl, p, _, _, _, _, rfl, .own _, (hE.same s3), (E.xc i hi).ex, E.kit i 14 hi (by decide), by show 3 ≤ sizeLine; decide, fun m4 hm4 => ?_⟩
    have t4 : Same H (L2.upd H3 m4 (.lst [.bl (decide (i = 12)), .bl (decide (i = 13)), .bl (decide (i = 14))])) := Same.upd s3 hm4
    have nn4 : m4 ≠ l3 := fun e => by
      rw [e, a3] at hm4
      cases hm4
    have b4 : (L2.upd H3 m4 (.lst [.bl (decide (i = 12)), .bl (decide (i = 13)), .bl (decide (i = 14))])) l3 = some (.lst (mk3 i)) := by
      rw [upd_ne (Ne.symm nn4)]
      exact a3
    have c4 : (L2.upd H3 m4 (.lst [.bl (decide (i = 12)), .bl (decide (i = 13)), .bl (decide (i = 14))])) m4 = some (.lst [.bl (decide (i = 12)), .bl (decide (i = 13)), .bl (decide (i = 14))]) := upd_same
    generalize L2.upd H3 m4 (.lst [.bl (decide (i = 12)), .bl (decide (i = 13)), .bl (decide (i = 14))]) = G4 at t4 b4 c4
    have c4 : G4 m4 = some (.lst (gk4 i)) := c4
    refine ⟨l3, m4, _, _, rfl, rfl, b4, c4, by show 15 ≤ sizeLine; decide, fun l4 hl4 => ?_⟩
    have s4 : Same H (L2.upd G4 l4 (.lst ((mk3 i) ++ gk4 i))) := Same.upd t4 hl4
    have a4 : (L2.upd G4 l4 (.lst ((mk3 i) ++ gk4 i))) l4 = some (.lst ((mk3 i) ++ gk4 i)) := upd_same
    generalize L2.upd G4 l4 (.lst ((mk3 i) ++ gk4 i)) = H4 at s4 a4
    have a4 : H4 l4 = some (.lst (mk4 i)) := a4
    refine ⟨_, rfl, _, rfl, p, _, _, _, _, rfl, .own _, (hE.same s4), (E.xc i hi).ex, E.kit i 15 hi (by decide), _, rfl, p, _, _, _, _, rfl, .own _, (hE.same s4), (E.xc i hi).ex, E.kit i 16 hi (by decide), _, rfl, p, _, _, _, _, rfl, .own _, (hE.same s4), (E.xc i hi).ex, E.kit i 17 hi (by decide), by show 3 ≤ sizeLine; decide, fun m5 hm5 => ?_⟩
    have t5 : Same H (L2.upd H4 m5 (.lst [.bl (decide (i = 15)), .bl (decide (i = 16)), .bl (decide (i = 17))])) := Same.upd s4 hm5
    have nn5 : m5 ≠ l4 := fun e => by
      rw [e, a4] at hm5
      cases hm5
    have b5 : (L2.upd H4 m5 (.lst [.bl (decide (i = 15)), .bl (decide (i = 16)), .bl (decide (i = 17))])) l4 = some (.lst (mk4 i)) := by
      rw [upd_ne (Ne.symm nn5)]
      exact a4
    have c5 : (L2.upd H4 m5 (.lst [.bl (decide (i = 15)), .bl (decide (i = 16)), .bl (decide (i = 17))])) m5 = some (.lst [.bl (decide (i = 15)), .bl (decide (i = 16)), .bl (decide (i = 17))]) := upd_same
    generalize L2.upd H4 m5 (.lst [.bl (decide (i = 15)), .bl (decide (i = 16)), .bl (decide (i = 17))]) = G5 at t5 b5 c5
    have c5 : G5 m5 = some (.lst (gk5 i)) := c5
    refine ⟨l4, m5, _, _, rfl, rfl, b5, c5, by show 18 ≤ sizeLine; decide, fun l5 hl5 => ?_⟩
    have s5 : Same H (L2.upd G5 l5 (.lst ((mk4 i) ++ gk5 i))) := Same.upd t5 hl5
    have a5 : (L2.upd G5 l5 (.lst ((mk4 i) ++ gk5 i))) l5 = some (.lst ((mk4 i) ++ gk5 i)) := upd_same
    generalize L2.upd G5 l5 (.lst ((mk4 i) ++ gk5 i)) = H5 at s5 a5
    have a5 : H5 l5 = some (.lst (mk5 i)) := a5
    refine ⟨_, rfl, _, rfl, p, _, _, _, _, rfl, .own _, (hE.same s5), (E.xc i hi).ex, E.kit i 18 hi (by decide), _, rfl, p, _, _, _, _, rfl, .own _, (hE.same s5), (E.xc i hi).ex, E.kit i 19 hi (by decide), _, rfl, p, _, _, _, _, rfl, .own _, (hE.same s5), (E.xc i hi).ex, E.kit i 20 hi (by decide), by show 3 ≤ sizeLine; decide, fun m6 hm6 => ?_⟩
    have t6 : Same H (L2.upd H5 m6 (.lst [.bl (decide (i = 18)), .bl (decide (i = 19)), .bl (decide (i = 20))])) := Same.upd s5 hm6
    have nn6 : m6 ≠ l5 := fun e => by
      rw [e, a5] at hm6
      cases hm6
    have b6 : (L2.upd H5 m6 (.lst [.bl (decide (i = 18)), .bl (decide (i = 19)), .bl (decide (i = 20))])) l5 = some (.lst (mk5 i)) := by
      rw [upd_ne (Ne.symm nn6)]
      exact a5
    have c6 : (L2.upd H5 m6 (.lst [.bl (decide (i = 18)), .bl (decide (i = 19)), .bl (decide (i = 20))])) m6 = some (.lst [.bl (decide (i = 18)), .bl (decide (i = 19)), .bl (decide (i = 20))]) := upd_same
    generalize L2.upd H5 m6 (.lst [.bl (decide (i = 18)), .bl (decide (i = 19)), .bl (decide (i = 20))]) = G6 at t6 b6 c6
    have c6 : G6 m6 = some (.lst (gk6 i)) := c6
    refine ⟨l5, m6, _, _, rfl, rfl, b6, c6, by show 21 ≤ sizeLine; decide, fun l6 hl6 => ?_⟩
    have s6 : Same H (L2.upd G6 l6 (.lst ((mk5 i) ++ gk6 i))) := Same.upd t6 hl6
    have a6 : (L2.upd G6 l6 (.lst ((mk5 i) ++ gk6 i))) l6 = some (.lst ((mk5 i) ++ gk6 i)) := upd_same
    generalize L2.upd G6 l6 (.lst ((mk5 i) ++ gk6 i)) = H6 at s6 a6
    have a6 : H6 l6 = some (.lst (mk6 i)) := a6
    refine ⟨_, rfl, _, rfl, p, _, _, _, _, rfl, .own _, (hE.same s6), (E.xc i hi).ex, E.kit i 21 hi (by decide), by show 1 ≤ sizeLine; decide, fun m7 hm7 => ?_⟩
    have t7 : Same H (L2.upd H6 m7 (.lst [.bl (decide (i = 21))])) := Same.upd s6 hm7
    have nn7 : m7 ≠ l6 := fun e => by
      rw [e, a6] at hm7
      cases hm7
    have b7 : (L2.upd H6 m7 (.lst [.bl (decide (i = 21))])) l6 = some (.lst (mk6 i)) := by
      rw [upd_ne (Ne.symm nn7)]
      exact a6
    have c7 : (L2.upd H6 m7 (.lst [.bl (decide (i = 21))])) m7 = some (.lst [.bl (decide (i = 21))]) := upd_same
    generalize L2.upd H6 m7 (.lst [.bl (decide (i = 21))]) = G7 at t7 b7 c7
    have c7 : G7 m7 = some (.lst (gk7 i)) := c7
    refine ⟨l6, m7, _, _, rfl, rfl, b7, c7, by show 22 ≤ sizeLine; decide, fun l7 hl7 => ?_⟩
    exact k l7 _ (t7.free hl7) upd_same (Same.upd t7 hl7)
end
end Own
namespace Own
open PySem PySem.Spec PyProof.Rows L2
/-! What the head says of the constructors; a new object's heap. -/
structure FI (K : PySem.W.Frag) : Prop where
  f0 : ∃ fd, FnI K "NoKind" (sI 0) (fA K 0) fd
  f1 : ∃ fd, FnI K "NoPlace" (sI 1) (fA K 1) fd
  f2 : ∃ fd, FnI K "NoOrder" (sI 2) (fA K 2) fd
  f3 : ∃ fd, FnI K "NoLine" (sI 3) (fA K 3) fd
  f4 : ∃ fd, FnI K "NoGap" (sI 4) (fA K 4) fd
  f5 : ∃ fd, FnI K "BadFields" (sI 5) (fA K 5) fd
  f6 : ∃ fd, FnI K "BadKind" (sI 6) (fA K 6) fd
  f7 : ∃ fd, FnI K "Twice" (sI 7) (fA K 7) fd
  f8 : ∃ fd, FnI K "Unlike" (sI 8) (fA K 8) fd
  f9 : ∃ fd, FnI K "BadLine" (sI 9) (fA K 9) fd
  f10 : ∃ fd, FnI K "BadCall" (sI 10) (fA K 10) fd
  f11 : ∃ fd, FnI K "TooMany" (sI 11) (fA K 11) fd
  f12 : ∃ fd, FnI K "Passed" (sI 12) (fA K 12) fd
  f13 : ∃ fd, FnI K "NoWay" (sI 13) (fA K 13) fd
  f14 : ∃ fd, FnI K "NeverShown" (sI 14) (fA K 14) fd
  f15 : ∃ fd, FnI K "NotShown" (sI 15) (fA K 15) fd
  f16 : ∃ fd, FnI K "OtherBook" (sI 16) (fA K 16) fd
  f17 : ∃ fd, FnI K "Unsettled" (sI 17) (fA K 17) fd
  f18 : ∃ fd, FnI K "Turned" (sI 18) (fA K 18) fd
  f19 : ∃ fd, FnI K "BadPlan" (sI 19) (fA K 19) fd
  f20 : ∃ fd, FnI K "Uneven" (sI 20) (fA K 20) fd
  f21 : ∃ fd, FnI K "Untrue" (sI 21) (fA K 21) fd
theorem fresh_elim {H : Hp} {u : Addr} {o : HO} {G : Hp → Prop} (hu : H u = none) (h : ∀ H', Same H H' → H' u = some o → G H') : G (L2.upd H u o) := h _ (Same.upd (Same.refl H) hu) upd_same
theorem mkSame {H H' : Hp} {p : Addr} {o : HO} (hp : H p = none) (s : SameBut p (L2.upd H p o) H') : Same H H' := fun b u e => s b u (by rw [upd_ne (ne_of_none e hp)]; exact e) (ne_of_none e hp)
section
variable {X : Cx} {es : List Expr} {t : TA} {pos : Pos} {kk : Nat}
def tLstF (t : TA) : TE := fun σ H Q => t σ H fun xs H1 => xs.length ≤ sizeLine ∧ ∀ l H', H1 l = none → Same H1 H' → H' l = some (.lst xs) → Q (.ref l) H'
def tTupF (t : TA) : TE := fun σ H Q => t σ H fun xs H1 => xs.length ≤ sizeLine ∧ ∀ l H', H1 l = none → Same H1 H' → H' l = some (.tup xs) → Q (.ref l) H'
theorem pe_tupF (h : PA X es t) : PE X (.Tuple es kk pos) (tTupF t) := by
  refine ⟨fun pins s σ H Q I hq => ?_⟩
  refine wpAny_Tuple_spliced (thn (h.run pos pins s σ H _ I hq) fun us s1 ⟨xs, H1, I1, r, z, q⟩ => ⟨by rw [← r.length]; exact z, ?_⟩)
  have hf : H1 s1.heap.objs.size = none := I1.hok.fresh (Nat.le_refl _)
  refine ⟨.ref s1.heap.objs.size, L2.upd H1 s1.heap.objs.size (.tup xs), I1.laid (t' := s1.toks) (fun b u e => Heap.get?_push_of_some _ e) (Nat.le_refl _) ?_, rfl, q _ _ hf (Same.upd (Same.refl _) hf) upd_same⟩
  exact ⟨z, us, r, ⟨_, Heap.get?_push_size _ rfl, rfl, _, rfl⟩⟩
theorem pe_lstF (h : PA X es t) : PE X (.List es pos) (tLstF t) := by
  refine ⟨fun pins s σ H Q I hq => ?_⟩
  refine wpAny_List_spliced (thn (h.run pos pins s σ H _ I hq) fun us s1 ⟨xs, H1, I1, r, z, q⟩ => ⟨by rw [← r.length]; exact z, ?_⟩)
  have hf : H1 s1.heap.objs.size = none := I1.hok.fresh (Nat.le_refl _)
  refine ⟨.ref s1.heap.objs.size, L2.upd H1 s1.heap.objs.size (.lst xs), I1.laid (t' := s1.toks) (fun b u e => Heap.get?_push_of_some _ e) (Nat.le_refl _) ?_, rfl, q _ _ hf (Same.upd (Same.refl _) hf) upd_same⟩
  exact ⟨z, us, 0, r, Heap.get?_push_size _ rfl⟩
def rCatF : R2 := fun x y H Q => ∃ a b xs ys, x = .ref a ∧ y = .ref b ∧ H a = some (.lst xs) ∧ H b = some (.lst ys) ∧ xs.length + ys.length ≤ sizeLine ∧ ∀ l H', H l = none → Same H H' → H' l = some (.lst (xs ++ ys)) → Q (.ref l) H'
theorem op_catF : OpR X (binaryOp .Add) rCatF := by
  intro pins s σ H x y v u Q I rx ry h
  obtain ⟨a, b, xs, ys, e1, e2, h1, h2, z, q⟩ := h
  exact op_cat pins s σ H x y v u Q I rx ry ⟨a, b, xs, ys, e1, e2, h1, h2, z, fun p hp => q p _ hp (Same.upd (Same.refl _) hp) upd_same⟩
def rRepF : R2 := fun x y H Q => ∃ a k xs, x = .ref a ∧ y = .int k ∧ H a = some (.lst xs) ∧ -(2 ^ 63) ≤ k ∧ k < 2 ^ 63 ∧ xs.length * k.toNat ≤ sizeLine ∧ ∀ l H', H l = none → Same H H' → H' l = some (.lst (List.replicate k.toNat xs).flatten) → Q (.ref l) H'
theorem op_repF : OpR X (binaryOp .Mult) rRepF := by
  intro pins s σ H x y v u Q I rx ry h
  obtain ⟨a, k, xs, e1, e2, h1, k1, k2, z, q⟩ := h
  exact op_rep pins s σ H x y v u Q I rx ry ⟨a, k, xs, e1, e2, h1, k1, k2, z, fun p hp => q p _ hp (Same.upd (Same.refl _) hp) upd_same⟩
end
/-- found exceptions of these classes; what was told and what is due -/
def Pack (K : PySem.W.Frag) (H H' : Hp) (t : Addr) (idx : List Nat) : Prop := ∃ (lf lt ld : Addr) (found told due : List V), H' t = some (.tup [.ref lf, .ref lt, .ref ld]) ∧ H' lf = some (.lst found) ∧ H' lt = some (.lst told) ∧ H' ld = some (.lst due) ∧
  Paired (fun v i => ∃ p, v = V.ref p ∧ ExcAt H' p (cA K i)) found idx ∧ told.length ≤ 100 ∧ Paired (Eqv 1 H') told due ∧ Same H H'
def spPack (K : PySem.W.Frag) (idx : List Nat) : Sp := fun vs H Q _ => ∃ (z : Str) (far : Int) (row : Addr) (xs : List V), vs = [.str z, .int far, .ref row] ∧ H row = some (.tup xs) ∧ (∀ x ∈ xs, Fl x) ∧ xs.length ≤ 100 ∧ ∀ t H', Pack K H H' t idx → Q (.ref t) H'
theorem eqv_fl {H : Hp} : ∀ {xs : List V}, (∀ x ∈ xs, Fl x) → Paired (Eqv 0 H) xs xs
  | [], _ => .nil
  | x :: xs, h => by
    refine .cons ?_ (eqv_fl fun y hy => h y (List.mem_cons_of_mem _ hy))
    rcases h x (List.mem_cons_self ..) with ⟨i, rfl⟩ | ⟨z, rfl⟩
    · exact .inl ⟨i, rfl, rfl⟩
    · exact .inr ⟨z, rfl, rfl⟩
theorem eqv_str {n : Nat} {H : Hp} {z : Str} : Eqv n H (.str z) (.str z) := Eqv.fl (.inr ⟨z, rfl, rfl⟩)
theorem eqv_int {n : Nat} {H : Hp} {i : Int} : Eqv n H (.int i) (.int i) := Eqv.fl (.inl ⟨i, rfl, rfl⟩)
theorem eqv_tup {n : Nat} {H : Hp} {a b : Addr} {xs : List V} (ha : H a = some (.tup xs)) (hb : H b = some (.tup xs)) (hf : ∀ x ∈ xs, Fl x) (hl : xs.length ≤ 100) : Eqv (n + 1) H (.ref a) (.ref b) :=
  .inr ⟨a, b, xs, xs, rfl, rfl, .inr ⟨ha, hb⟩, hl, paired_mono (fun _ _ q => Eqv.fl q) (eqv_fl hf)⟩
end Own
namespace Own
open PySem PySem.Spec PyProof.Rows L2
theorem scLookups : FnScope ["_law_word_so", "_law_far", "_law_row_so", "_law_own", "_law_told_so", "_law_more"] ["_law_word_so", "_law_far", "_law_row_so"] (defScope sLookups) := ⟨rfl, rfl, rfl, by decide +kernel, rfl, by decide +kernel, by decide +kernel⟩
section
variable {P : Program} {w : World} {K : PySem.W.Frag} {mg : Str → Option Value} {base : Heap}
theorem ok_lookups {f fT : Addr} {fd fdT : FuncData} (F : FnP K "_law_lookups" sLookups f fd) (FT : FnP K "tupled" sTupled fT fdT) (M : MgT mg) (mT : mg "tupled" = some (.ref fT)) (E : EF K mg) (I : FI K) : FnOk P w K mg base CX0 5 f fd ["_law_word_so", "_law_far", "_law_row_so"] (spPack K [0, 0, 1, 1, 2, 2, 3, 3, 4, 4]) := by
  obtain ⟨fd0, F0⟩ := I.f0
  have G0 := ok_i0 (P := P) (w := w) (base := base) F0 E
  have b0 : KBn K fd0 ["self", "name"] (1 + 1) [] (fun us _ => us) (fun vs _ => vs) := FunD.kb F0 (1 + 1) [] (fun us _ => us) (fun r _ => r) (fun _ _ _ _ _ _ us ws l1 l2 => match us, ws, l1, l2 with | [_, _], [], _, _ => rfl)
  have kb0 : KBn K fd0 ["self", "name"] 1 ["name"] (fun us ws => us ++ ws) (fun vs zs => vs ++ zs) := FunD.kb F0 1 ["name"] (fun us ws => us ++ ws) (fun r z => r.append z) (fun _ _ _ _ _ _ us ws l1 l2 => match us, ws, l1, l2 with | [_], [_], _, _ => rfl)
  obtain ⟨fd1, F1⟩ := I.f1
  have G1 := ok_i1 (P := P) (w := w) (base := base) F1 E
  have b1 : KBn K fd1 ["self", "place"] (1 + 1) [] (fun us _ => us) (fun vs _ => vs) := FunD.kb F1 (1 + 1) [] (fun us _ => us) (fun r _ => r) (fun _ _ _ _ _ _ us ws l1 l2 => match us, ws, l1, l2 with | [_, _], [], _, _ => rfl)
  have kb1 : KBn K fd1 ["self", "place"] 1 ["place"] (fun us ws => us ++ ws) (fun vs zs => vs ++ zs) := FunD.kb F1 1 ["place"] (fun us ws => us ++ ws) (fun r z => r.append z) (fun _ _ _ _ _ _ us ws l1 l2 => match us, ws, l1, l2 with | [_], [_], _, _ => rfl)
  obtain ⟨fd2, F2⟩ := I.f2
  have G2 := ok_i2 (P := P) (w := w) (base := base) F2 E
  have b2 : KBn K fd2 ["self", "number"] (1 + 1) [] (fun us _ => us) (fun vs _ => vs) := FunD.kb F2 (1 + 1) [] (fun us _ => us) (fun r _ => r) (fun _ _ _ _ _ _ us ws l1 l2 => match us, ws, l1, l2 with | [_, _], [], _, _ => rfl)
  have kb2 : KBn K fd2 ["self", "number"] 1 ["number"] (fun us ws => us ++ ws) (fun vs zs => vs ++ zs) := FunD.kb F2 1 ["number"] (fun us ws => us ++ ws) (fun r z => r.append z) (fun _ _ _ _ _ _ us ws l1 l2 => match us, ws, l1, l2 with | [_], [_], _, _ => rfl)
  obtain ⟨fd3, F3⟩ := I.f3
  have G3 := ok_i3 (P := P) (w := w) (base := base) F3 FT M mT E
  have b3 : KBn K fd3 ["self", "call"] (1 + 1) [] (fun us _ => us) (fun vs _ => vs) := FunD.kb F3 (1 + 1) [] (fun us _ => us) (fun r _ => r) (fun _ _ _ _ _ _ us ws l1 l2 => match us, ws, l1, l2 with | [_, _], [], _, _ => rfl)
  have kb3 : KBn K fd3 ["self", "call"] 1 ["call"] (fun us ws => us ++ ws) (fun vs zs => vs ++ zs) := FunD.kb F3 1 ["call"] (fun us ws => us ++ ws) (fun r z => r.append z) (fun _ _ _ _ _ _ us ws l1 l2 => match us, ws, l1, l2 with | [_], [_], _, _ => rfl)
  obtain ⟨fd4, F4⟩ := I.f4
  have G4 := ok_i4 (P := P) (w := w) (base := base) F4 FT M mT E
  have b4 : KBn K fd4 ["self", "gap"] (1 + 1) [] (fun us _ => us) (fun vs _ => vs) := FunD.kb F4 (1 + 1) [] (fun us _ => us) (fun r _ => r) (fun _ _ _ _ _ _ us ws l1 l2 => match us, ws, l1, l2 with | [_, _], [], _, _ => rfl)
  have kb4 : KBn K fd4 ["self", "gap"] 1 ["gap"] (fun us ws => us ++ ws) (fun vs zs => vs ++ zs) := FunD.kb F4 1 ["gap"] (fun us ws => us ++ ws) (fun r z => r.append z) (fun _ _ _ _ _ _ us ws l1 l2 => match us, ws, l1, l2 with | [_], [_], _, _ => rfl)
  refine F.ok scLookups (fun vs H Q _ h => ?_) (fun cdv A outer s H vs Q _ hr h => ?_)
  · obtain ⟨z, far, row, xs, rfl, _⟩ := h
    rfl
  · obtain ⟨z, far, row, xs, rfl, hrow, hf, hxl, k⟩ := h
    refine ⟨_, PSs.nox (pss_cons (ps_set (i := 3) scLookups.nd rfl (.inl rfl) (pe_lstF (pa_cons (pe_xmk (E.xc 0 (by decide)) (E.ini 0 (by decide)) (E.fn 0 (by decide)) G0 (hr.mono (by decide)) b0 (by decide) (by rfl) (E.gl 0 (by decide)) (pa_cons (pv 0) pa_nil)) (pa_cons (pe_xmkK (E.xc 0 (by decide)) (E.ini 0 (by decide)) (E.fn 0 (by decide)) G0 (hr.mono (by decide)) kb0 (by rfl) (E.gl 0 (by decide)) (pk_cons (pv 0) pk_nil)) (pa_cons (pe_xmk (E.xc 1 (by decide)) (E.ini 1 (by decide)) (E.fn 1 (by decide)) G1 (hr.mono (by decide)) b1 (by decide) (by rfl) (E.gl 1 (by decide)) (pa_cons (pv 1) pa_nil)) (pa_cons (pe_xmkK (E.xc 1 (by decide)) (E.ini 1 (by decide)) (E.fn 1 (by decide)) G1 (hr.mono (by decide)) kb1 (by rfl) (E.gl 1 (by decide)) (pk_cons (pv 1) pk_nil)) (pa_cons (pe_xmk (E.xc 2 (by decide)) (E.ini 2 (by decide)) (E.fn 2 (by decide)) G2 (hr.mono (by decide)) b2 (by decide) (by rfl) (E.gl 2 (by decide)) (pa_cons (pv 1) pa_nil)) (pa_cons (pe_xmkK (E.xc 2 (by decide)) (E.ini 2 (by decide)) (E.fn 2 (by decide)) G2 (hr.mono (by decide)) kb2 (by rfl) (E.gl 2 (by decide)) (pk_cons (pv 1) pk_nil)) pa_nil))))))))
      (pss_cons (ps_set (i := 4) scLookups.nd rfl (.inl rfl) (pe_lstF (pa_cons (pe_xat (b := .L) (pe_ix ix_list (pv 3) pe_int (fun _ _ => rfl))) (pa_cons (pe_xat (b := .L) (pe_ix ix_list (pv 3) pe_int (fun _ _ => rfl))) (pa_cons (pe_xat (b := .L) (pe_ix ix_list (pv 3) pe_int (fun _ _ => rfl))) (pa_cons (pe_xat (b := .L) (pe_ix ix_list (pv 3) pe_int (fun _ _ => rfl))) (pa_cons (pe_xat (b := .L) (pe_ix ix_list (pv 3) pe_int (fun _ _ => rfl))) (pa_cons (pe_xat (b := .L) (pe_ix ix_list (pv 3) pe_int (fun _ _ => rfl))) pa_nil))))))))
      (pss_cons (ps_set (i := 5) scLookups.nd rfl (.inl rfl) (pe_lstF (pa_cons (pe_xmk (E.xc 3 (by decide)) (E.ini 3 (by decide)) (E.fn 3 (by decide)) G3 (hr.mono (by decide)) b3 (by decide) (by rfl) (E.gl 3 (by decide)) (pa_cons (pv 2) pa_nil)) (pa_cons (pe_xmkK (E.xc 3 (by decide)) (E.ini 3 (by decide)) (E.fn 3 (by decide)) G3 (hr.mono (by decide)) kb3 (by rfl) (E.gl 3 (by decide)) (pk_cons (pv 2) pk_nil)) (pa_cons (pe_xmk (E.xc 4 (by decide)) (E.ini 4 (by decide)) (E.fn 4 (by decide)) G4 (hr.mono (by decide)) b4 (by decide) (by rfl) (E.gl 4 (by decide)) (pa_cons (pv 2) pa_nil)) (pa_cons (pe_xmkK (E.xc 4 (by decide)) (E.ini 4 (by decide)) (E.fn 4 (by decide)) G4 (hr.mono (by decide)) kb4 (by rfl) (E.gl 4 (by decide)) (pk_cons (pv 2) pk_nil)) pa_nil))))))
      (pss_cons (ps_set (i := 4) scLookups.nd rfl (.inl rfl) (pe_op op_catF (pv 4) (pe_lstF (pa_cons (pe_xat (b := .L) (pe_ix ix_list (pv 5) pe_int (fun _ _ => rfl))) (pa_cons (pe_xat (b := .L) (pe_ix ix_list (pv 5) pe_int (fun _ _ => rfl))) (pa_cons (pe_xat (b := .L) (pe_ix ix_list (pv 5) pe_int (fun _ _ => rfl))) (pa_cons (pe_xat (b := .L) (pe_ix ix_list (pv 5) pe_int (fun _ _ => rfl))) pa_nil)))))))
      (pss_one (ps_ret (pe_tupF (pa_cons (pe_op op_catF (pv 3) (pv 5)) (pa_cons (pv 4) (pa_cons (pe_op op_catF (pe_op op_catF (pe_op op_repF (pe_lstF (pa_cons (pv 0) pa_nil)) pe_int) (pe_op op_repF (pe_lstF (pa_cons (pv 1) pa_nil)) pe_int)) (pe_op op_repF (pe_lstF (pa_cons (pv 2) pa_nil)) pe_int)) pa_nil)))))))))), ?_⟩
    have SS : Same H H := Same.refl H
    refine ⟨_, rfl, rfl, rfl, fun p1 hp1 => ⟨p1, _, rfl, upd_same, fun H1 e1 s1 => ⟨rfl, ?_⟩⟩⟩
    replace s1 := mkSame hp1 s1
    replace hrow := s1 _ _ hrow
    replace SS := Same.trans SS s1
    refine ⟨_, rfl, rfl, rfl, fun p2 hp2 => ⟨p2, _, rfl, upd_same, fun H2 e2 s2 => ⟨rfl, ?_⟩⟩⟩
    replace s2 := mkSame hp2 s2
    replace hrow := s2 _ _ hrow
    replace e1 := e1.same s2
    replace SS := Same.trans SS s2
    refine ⟨_, rfl, rfl, rfl, fun p3 hp3 => ⟨p3, _, rfl, upd_same, fun H3 e3 s3 => ⟨rfl, ?_⟩⟩⟩
    replace s3 := mkSame hp3 s3
    replace hrow := s3 _ _ hrow
    replace e1 := e1.same s3
    replace e2 := e2.same s3
    replace SS := Same.trans SS s3
    refine ⟨_, rfl, rfl, rfl, fun p4 hp4 => ⟨p4, _, rfl, upd_same, fun H4 e4 s4 => ⟨rfl, ?_⟩⟩⟩
    replace s4 := mkSame hp4 s4
    replace hrow := s4 _ _ hrow
    replace e1 := e1.same s4
    replace e2 := e2.same s4
    replace e3 := e3.same s4
    replace SS := Same.trans SS s4
    refine ⟨_, rfl, rfl, rfl, fun p5 hp5 => ⟨p5, _, rfl, upd_same, fun H5 e5 s5 => ⟨rfl, ?_⟩⟩⟩
    replace s5 := mkSame hp5 s5
    replace hrow := s5 _ _ hrow
    replace e1 := e1.same s5
    replace e2 := e2.same s5
    replace e3 := e3.same s5
    replace e4 := e4.same s5
    replace SS := Same.trans SS s5
    refine ⟨_, rfl, rfl, rfl, fun p6 hp6 => ⟨p6, _, rfl, upd_same, fun H6 e6 s6 => ⟨rfl, ?_⟩⟩⟩
    replace s6 := mkSame hp6 s6
    replace hrow := s6 _ _ hrow
    replace e1 := e1.same s6
    replace e2 := e2.same s6
    replace e3 := e3.same s6
    replace e4 := e4.same s6
    replace e5 := e5.same s6
    replace SS := Same.trans SS s6
    refine ⟨by show 6 ≤ sizeLine; decide, fun l7 H7 hl7 s7 h7 => ?_⟩
    replace hrow := s7 _ _ hrow
    replace e1 := e1.same s7
    replace e2 := e2.same s7
    replace e3 := e3.same s7
    replace e4 := e4.same s7
    replace e5 := e5.same s7
    replace e6 := e6.same s7
    replace SS := Same.trans SS s7
    obtain ⟨d1, ea1, eb1⟩ := id e1
    refine ⟨_, rfl, l7, _, _, _, rfl, rfl, SqL.of h7, rfl, p1, _, d1, _, _, rfl, E.xc 0 (by decide), E.no 0 (by decide) _ (by decide), ea1, eb1, rfl, ?_⟩
    obtain ⟨d2, ea2, eb2⟩ := id e2
    refine ⟨_, rfl, l7, _, _, _, rfl, rfl, SqL.of h7, rfl, p2, _, d2, _, _, rfl, E.xc 0 (by decide), E.no 0 (by decide) _ (by decide), ea2, eb2, rfl, ?_⟩
    obtain ⟨d3, ea3, eb3⟩ := id e3
    refine ⟨_, rfl, l7, _, _, _, rfl, rfl, SqL.of h7, rfl, p3, _, d3, _, _, rfl, E.xc 1 (by decide), E.no 1 (by decide) _ (by decide), ea3, eb3, rfl, ?_⟩
    obtain ⟨d4, ea4, eb4⟩ := id e4
    refine ⟨_, rfl, l7, _, _, _, rfl, rfl, SqL.of h7, rfl, p4, _, d4, _, _, rfl, E.xc 1 (by decide), E.no 1 (by decide) _ (by decide), ea4, eb4, rfl, ?_⟩
    obtain ⟨d5, ea5, eb5⟩ := id e5
    refine ⟨_, rfl, l7, _, _, _, rfl, rfl, SqL.of h7, rfl, p5, _, d5, _, _, rfl, E.xc 2 (by decide), E.no 2 (by decide) _ (by decide), ea5, eb5, rfl, ?_⟩
    obtain ⟨d6, ea6, eb6⟩ := id e6
    refine ⟨_, rfl, l7, _, _, _, rfl, rfl, SqL.of h7, rfl, p6, _, d6, _, _, rfl, E.xc 2 (by decide), E.no 2 (by decide) _ (by decide), ea6, eb6, rfl, ?_⟩
    refine ⟨by show 6 ≤ sizeLine; decide, fun l8 H8 hl8 s8 h8 => ?_⟩
    replace hrow := s8 _ _ hrow
    replace e1 := e1.same s8
    replace e2 := e2.same s8
    replace e3 := e3.same s8
    replace e4 := e4.same s8
    replace e5 := e5.same s8
    replace e6 := e6.same s8
    replace h7 := s8 _ _ h7
    replace SS := Same.trans SS s8
    refine ⟨_, rfl, rfl, rfl, fun p9 hp9 => ⟨p9, row, xs, rfl, upd_same, (by rw [upd_ne (ne_of_none hrow hp9)]; exact hrow), hf, hxl, fun b9 H9 hb9 e9 s9 => ⟨rfl, ?_⟩⟩⟩
    replace s9 := mkSame hp9 s9
    replace hrow := s9 _ _ hrow
    replace e1 := e1.same s9
    replace e2 := e2.same s9
    replace e3 := e3.same s9
    replace e4 := e4.same s9
    replace e5 := e5.same s9
    replace e6 := e6.same s9
    replace h7 := s9 _ _ h7
    replace h8 := s9 _ _ h8
    replace SS := Same.trans SS s9
    refine ⟨_, rfl, rfl, rfl, fun p10 hp10 => ⟨p10, row, xs, rfl, upd_same, (by rw [upd_ne (ne_of_none hrow hp10)]; exact hrow), hf, hxl, fun b10 H10 hb10 e10 s10 => ⟨rfl, ?_⟩⟩⟩
    replace s10 := mkSame hp10 s10
    replace hrow := s10 _ _ hrow
    replace e1 := e1.same s10
    replace e2 := e2.same s10
    replace e3 := e3.same s10
    replace e4 := e4.same s10
    replace e5 := e5.same s10
    replace e6 := e6.same s10
    replace h7 := s10 _ _ h7
    replace h8 := s10 _ _ h8
    replace e9 := e9.same s10
    replace hb9 := s10 _ _ hb9
    replace SS := Same.trans SS s10
    refine ⟨_, rfl, rfl, rfl, fun p11 hp11 => ⟨p11, row, xs, rfl, upd_same, (by rw [upd_ne (ne_of_none hrow hp11)]; exact hrow), hf, hxl, fun b11 H11 hb11 e11 s11 => ⟨rfl, ?_⟩⟩⟩
    replace s11 := mkSame hp11 s11
    replace hrow := s11 _ _ hrow
    replace e1 := e1.same s11
    replace e2 := e2.same s11
    replace e3 := e3.same s11
    replace e4 := e4.same s11
    replace e5 := e5.same s11
    replace e6 := e6.same s11
    replace h7 := s11 _ _ h7
    replace h8 := s11 _ _ h8
    replace e9 := e9.same s11
    replace hb9 := s11 _ _ hb9
    replace e10 := e10.same s11
    replace hb10 := s11 _ _ hb10
    replace SS := Same.trans SS s11
    refine ⟨_, rfl, rfl, rfl, fun p12 hp12 => ⟨p12, row, xs, rfl, upd_same, (by rw [upd_ne (ne_of_none hrow hp12)]; exact hrow), hf, hxl, fun b12 H12 hb12 e12 s12 => ⟨rfl, ?_⟩⟩⟩
    replace s12 := mkSame hp12 s12
    replace hrow := s12 _ _ hrow
    replace e1 := e1.same s12
    replace e2 := e2.same s12
    replace e3 := e3.same s12
    replace e4 := e4.same s12
    replace e5 := e5.same s12
    replace e6 := e6.same s12
    replace h7 := s12 _ _ h7
    replace h8 := s12 _ _ h8
    replace e9 := e9.same s12
    replace hb9 := s12 _ _ hb9
    replace e10 := e10.same s12
    replace hb10 := s12 _ _ hb10
    replace e11 := e11.same s12
    replace hb11 := s12 _ _ hb11
    replace SS := Same.trans SS s12
    refine ⟨by show 4 ≤ sizeLine; decide, fun l13 H13 hl13 s13 h13 => ?_⟩
    replace hrow := s13 _ _ hrow
    replace e1 := e1.same s13
    replace e2 := e2.same s13
    replace e3 := e3.same s13
    replace e4 := e4.same s13
    replace e5 := e5.same s13
    replace e6 := e6.same s13
    replace h7 := s13 _ _ h7
    replace h8 := s13 _ _ h8
    replace e9 := e9.same s13
    replace hb9 := s13 _ _ hb9
    replace e10 := e10.same s13
    replace hb10 := s13 _ _ hb10
    replace e11 := e11.same s13
    replace hb11 := s13 _ _ hb11
    replace e12 := e12.same s13
    replace hb12 := s13 _ _ hb12
    replace SS := Same.trans SS s13
    refine ⟨_, rfl, ?_⟩
    obtain ⟨d9, ea9, eb9⟩ := id e9
    refine ⟨_, rfl, l13, _, _, _, rfl, rfl, SqL.of h13, rfl, p9, _, d9, _, _, rfl, E.xc 3 (by decide), E.no 3 (by decide) _ (by decide), ea9, eb9, rfl, ?_⟩
    obtain ⟨d10, ea10, eb10⟩ := id e10
    refine ⟨_, rfl, l13, _, _, _, rfl, rfl, SqL.of h13, rfl, p10, _, d10, _, _, rfl, E.xc 3 (by decide), E.no 3 (by decide) _ (by decide), ea10, eb10, rfl, ?_⟩
    obtain ⟨d11, ea11, eb11⟩ := id e11
    refine ⟨_, rfl, l13, _, _, _, rfl, rfl, SqL.of h13, rfl, p11, _, d11, _, _, rfl, E.xc 4 (by decide), E.no 4 (by decide) _ (by decide), ea11, eb11, rfl, ?_⟩
    obtain ⟨d12, ea12, eb12⟩ := id e12
    refine ⟨_, rfl, l13, _, _, _, rfl, rfl, SqL.of h13, rfl, p12, _, d12, _, _, rfl, E.xc 4 (by decide), E.no 4 (by decide) _ (by decide), ea12, eb12, rfl, ?_⟩
    refine ⟨by show 4 ≤ sizeLine; decide, fun l14 H14 hl14 s14 h14 => ?_⟩
    replace hrow := s14 _ _ hrow
    replace e1 := e1.same s14
    replace e2 := e2.same s14
    replace e3 := e3.same s14
    replace e4 := e4.same s14
    replace e5 := e5.same s14
    replace e6 := e6.same s14
    replace h7 := s14 _ _ h7
    replace h8 := s14 _ _ h8
    replace e9 := e9.same s14
    replace hb9 := s14 _ _ hb9
    replace e10 := e10.same s14
    replace hb10 := s14 _ _ hb10
    replace e11 := e11.same s14
    replace hb11 := s14 _ _ hb11
    replace e12 := e12.same s14
    replace hb12 := s14 _ _ hb12
    replace h13 := s14 _ _ h13
    replace SS := Same.trans SS s14
    refine ⟨l8, l14, _, _, rfl, rfl, h8, h14, by show 10 ≤ sizeLine; decide, fun l15 H15 hl15 s15 h15 => ?_⟩
    replace hrow := s15 _ _ hrow
    replace e1 := e1.same s15
    replace e2 := e2.same s15
    replace e3 := e3.same s15
    replace e4 := e4.same s15
    replace e5 := e5.same s15
    replace e6 := e6.same s15
    replace h7 := s15 _ _ h7
    replace h8 := s15 _ _ h8
    replace e9 := e9.same s15
    replace hb9 := s15 _ _ hb9
    replace e10 := e10.same s15
    replace hb10 := s15 _ _ hb10
    replace e11 := e11.same s15
    replace hb11 := s15 _ _ hb11
    replace e12 := e12.same s15
    replace hb12 := s15 _ _ hb12
    replace h13 := s15 _ _ h13
    replace h14 := s15 _ _ h14
    replace SS := Same.trans SS s15
    refine ⟨_, rfl, ?_⟩
    refine ⟨_, rfl, l7, l13, _, _, rfl, rfl, h7, h13, by show 10 ≤ sizeLine; decide, fun l16 H16 hl16 s16 h16 => ?_⟩
    replace hrow := s16 _ _ hrow
    replace e1 := e1.same s16
    replace e2 := e2.same s16
    replace e3 := e3.same s16
    replace e4 := e4.same s16
    replace e5 := e5.same s16
    replace e6 := e6.same s16
    replace h7 := s16 _ _ h7
    replace h8 := s16 _ _ h8
    replace e9 := e9.same s16
    replace hb9 := s16 _ _ hb9
    replace e10 := e10.same s16
    replace hb10 := s16 _ _ hb10
    replace e11 := e11.same s16
    replace hb11 := s16 _ _ hb11
    replace e12 := e12.same s16
    replace hb12 := s16 _ _ hb12
    replace h13 := s16 _ _ h13
    replace h14 := s16 _ _ h14
    replace h15 := s16 _ _ h15
    replace SS := Same.trans SS s16
    refine ⟨_, rfl, ?_⟩
    refine ⟨_, rfl, by show 1 ≤ sizeLine; decide, fun l17 H17 hl17 s17 h17 => ?_⟩
    replace hrow := s17 _ _ hrow
    replace e1 := e1.same s17
    replace e2 := e2.same s17
    replace e3 := e3.same s17
    replace e4 := e4.same s17
    replace e5 := e5.same s17
    replace e6 := e6.same s17
    replace h7 := s17 _ _ h7
    replace h8 := s17 _ _ h8
    replace e9 := e9.same s17
    replace hb9 := s17 _ _ hb9
    replace e10 := e10.same s17
    replace hb10 := s17 _ _ hb10
    replace e11 := e11.same s17
    replace hb11 := s17 _ _ hb11
    replace e12 := e12.same s17
    replace hb12 := s17 _ _ hb12
    replace h13 := s17 _ _ h13
    replace h14 := s17 _ _ h14
    replace h15 := s17 _ _ h15
    replace h16 := s17 _ _ h16
    replace SS := Same.trans SS s17
    refine ⟨l17, 2, _, rfl, rfl, h17, by decide, by decide, by show 2 ≤ sizeLine; decide, fun l18 H18 hl18 s18 h18 => ?_⟩
    replace hrow := s18 _ _ hrow
    replace e1 := e1.same s18
    replace e2 := e2.same s18
    replace e3 := e3.same s18
    replace e4 := e4.same s18
    replace e5 := e5.same s18
    replace e6 := e6.same s18
    replace h7 := s18 _ _ h7
    replace h8 := s18 _ _ h8
    replace e9 := e9.same s18
    replace hb9 := s18 _ _ hb9
    replace e10 := e10.same s18
    replace hb10 := s18 _ _ hb10
    replace e11 := e11.same s18
    replace hb11 := s18 _ _ hb11
    replace e12 := e12.same s18
    replace hb12 := s18 _ _ hb12
    replace h13 := s18 _ _ h13
    replace h14 := s18 _ _ h14
    replace h15 := s18 _ _ h15
    replace h16 := s18 _ _ h16
    replace h17 := s18 _ _ h17
    replace SS := Same.trans SS s18
    refine ⟨_, rfl, by show 1 ≤ sizeLine; decide, fun l19 H19 hl19 s19 h19 => ?_⟩
    replace hrow := s19 _ _ hrow
    replace e1 := e1.same s19
    replace e2 := e2.same s19
    replace e3 := e3.same s19
    replace e4 := e4.same s19
    replace e5 := e5.same s19
    replace e6 := e6.same s19
    replace h7 := s19 _ _ h7
    replace h8 := s19 _ _ h8
    replace e9 := e9.same s19
    replace hb9 := s19 _ _ hb9
    replace e10 := e10.same s19
    replace hb10 := s19 _ _ hb10
    replace e11 := e11.same s19
    replace hb11 := s19 _ _ hb11
    replace e12 := e12.same s19
    replace hb12 := s19 _ _ hb12
    replace h13 := s19 _ _ h13
    replace h14 := s19 _ _ h14
    replace h15 := s19 _ _ h15
    replace h16 := s19 _ _ h16
    replace h17 := s19 _ _ h17
    replace h18 := s19 _ _ h18
    replace SS := Same.trans SS s19
    refine ⟨l19, 4, _, rfl, rfl, h19, by decide, by decide, by show 4 ≤ sizeLine; decide, fun l20 H20 hl20 s20 h20 => ?_⟩
    replace hrow := s20 _ _ hrow
    replace e1 := e1.same s20
    replace e2 := e2.same s20
    replace e3 := e3.same s20
    replace e4 := e4.same s20
    replace e5 := e5.same s20
    replace e6 := e6.same s20
    replace h7 := s20 _ _ h7
    replace h8 := s20 _ _ h8
    replace e9 := e9.same s20
    replace hb9 := s20 _ _ hb9
    replace e10 := e10.same s20
    replace hb10 := s20 _ _ hb10
    replace e11 := e11.same s20
    replace hb11 := s20 _ _ hb11
    replace e12 := e12.same s20
    replace hb12 := s20 _ _ hb12
    replace h13 := s20 _ _ h13
    replace h14 := s20 _ _ h14
    replace h15 := s20 _ _ h15
    replace h16 := s20 _ _ h16
    replace h17 := s20 _ _ h17
    replace h18 := s20 _ _ h18
    replace h19 := s20 _ _ h19
    replace SS := Same.trans SS s20
    refine ⟨l18, l20, _, _, rfl, rfl, h18, h20, by show 6 ≤ sizeLine; decide, fun l21 H21 hl21 s21 h21 => ?_⟩
    replace hrow := s21 _ _ hrow
    replace e1 := e1.same s21
    replace e2 := e2.same s21
    replace e3 := e3.same s21
    replace e4 := e4.same s21
    replace e5 := e5.same s21
    replace e6 := e6.same s21
    replace h7 := s21 _ _ h7
    replace h8 := s21 _ _ h8
    replace e9 := e9.same s21
    replace hb9 := s21 _ _ hb9
    replace e10 := e10.same s21
    replace hb10 := s21 _ _ hb10
    replace e11 := e11.same s21
    replace hb11 := s21 _ _ hb11
    replace e12 := e12.same s21
    replace hb12 := s21 _ _ hb12
    replace h13 := s21 _ _ h13
    replace h14 := s21 _ _ h14
    replace h15 := s21 _ _ h15
    replace h16 := s21 _ _ h16
    replace h17 := s21 _ _ h17
    replace h18 := s21 _ _ h18
    replace h19 := s21 _ _ h19
    replace h20 := s21 _ _ h20
    replace SS := Same.trans SS s21
    refine ⟨_, rfl, by show 1 ≤ sizeLine; decide, fun l22 H22 hl22 s22 h22 => ?_⟩
    replace hrow := s22 _ _ hrow
    replace e1 := e1.same s22
    replace e2 := e2.same s22
    replace e3 := e3.same s22
    replace e4 := e4.same s22
    replace e5 := e5.same s22
    replace e6 := e6.same s22
    replace h7 := s22 _ _ h7
    replace h8 := s22 _ _ h8
    replace e9 := e9.same s22
    replace hb9 := s22 _ _ hb9
    replace e10 := e10.same s22
    replace hb10 := s22 _ _ hb10
    replace e11 := e11.same s22
    replace hb11 := s22 _ _ hb11
    replace e12 := e12.same s22
    replace hb12 := s22 _ _ hb12
    replace h13 := s22 _ _ h13
    replace h14 := s22 _ _ h14
    replace h15 := s22 _ _ h15
    replace h16 := s22 _ _ h16
    replace h17 := s22 _ _ h17
    replace h18 := s22 _ _ h18
    replace h19 := s22 _ _ h19
    replace h20 := s22 _ _ h20
    replace h21 := s22 _ _ h21
    replace SS := Same.trans SS s22
    refine ⟨l22, 4, _, rfl, rfl, h22, by decide, by decide, by show 4 ≤ sizeLine; decide, fun l23 H23 hl23 s23 h23 => ?_⟩
    replace hrow := s23 _ _ hrow
    replace e1 := e1.same s23
    replace e2 := e2.same s23
    replace e3 := e3.same s23
    replace e4 := e4.same s23
    replace e5 := e5.same s23
    replace e6 := e6.same s23
    replace h7 := s23 _ _ h7
    replace h8 := s23 _ _ h8
    replace e9 := e9.same s23
    replace hb9 := s23 _ _ hb9
    replace e10 := e10.same s23
    replace hb10 := s23 _ _ hb10
    replace e11 := e11.same s23
    replace hb11 := s23 _ _ hb11
    replace e12 := e12.same s23
    replace hb12 := s23 _ _ hb12
    replace h13 := s23 _ _ h13
    replace h14 := s23 _ _ h14
    replace h15 := s23 _ _ h15
    replace h16 := s23 _ _ h16
    replace h17 := s23 _ _ h17
    replace h18 := s23 _ _ h18
    replace h19 := s23 _ _ h19
    replace h20 := s23 _ _ h20
    replace h21 := s23 _ _ h21
    replace h22 := s23 _ _ h22
    replace SS := Same.trans SS s23
    refine ⟨l21, l23, _, _, rfl, rfl, h21, h23, by show 10 ≤ sizeLine; decide, fun l24 H24 hl24 s24 h24 => ?_⟩
    replace hrow := s24 _ _ hrow
    replace e1 := e1.same s24
    replace e2 := e2.same s24
    replace e3 := e3.same s24
    replace e4 := e4.same s24
    replace e5 := e5.same s24
    replace e6 := e6.same s24
    replace h7 := s24 _ _ h7
    replace h8 := s24 _ _ h8
    replace e9 := e9.same s24
    replace hb9 := s24 _ _ hb9
    replace e10 := e10.same s24
    replace hb10 := s24 _ _ hb10
    replace e11 := e11.same s24
    replace hb11 := s24 _ _ hb11
    replace e12 := e12.same s24
    replace hb12 := s24 _ _ hb12
    replace h13 := s24 _ _ h13
    replace h14 := s24 _ _ h14
    replace h15 := s24 _ _ h15
    replace h16 := s24 _ _ h16
    replace h17 := s24 _ _ h17
    replace h18 := s24 _ _ h18
    replace h19 := s24 _ _ h19
    replace h20 := s24 _ _ h20
    replace h21 := s24 _ _ h21
    replace h22 := s24 _ _ h22
    replace h23 := s24 _ _ h23
    replace SS := Same.trans SS s24
    refine ⟨by show 3 ≤ sizeLine; decide, fun l25 H25 hl25 s25 h25 => ?_⟩
    replace hrow := s25 _ _ hrow
    replace e1 := e1.same s25
    replace e2 := e2.same s25
    replace e3 := e3.same s25
    replace e4 := e4.same s25
    replace e5 := e5.same s25
    replace e6 := e6.same s25
    replace h7 := s25 _ _ h7
    replace h8 := s25 _ _ h8
    replace e9 := e9.same s25
    replace hb9 := s25 _ _ hb9
    replace e10 := e10.same s25
    replace hb10 := s25 _ _ hb10
    replace e11 := e11.same s25
    replace hb11 := s25 _ _ hb11
    replace e12 := e12.same s25
    replace hb12 := s25 _ _ hb12
    replace h13 := s25 _ _ h13
    replace h14 := s25 _ _ h14
    replace h15 := s25 _ _ h15
    replace h16 := s25 _ _ h16
    replace h17 := s25 _ _ h17
    replace h18 := s25 _ _ h18
    replace h19 := s25 _ _ h19
    replace h20 := s25 _ _ h20
    replace h21 := s25 _ _ h21
    replace h22 := s25 _ _ h22
    replace h23 := s25 _ _ h23
    replace h24 := s25 _ _ h24
    replace SS := Same.trans SS s25
    exact k l25 _ ⟨l16, l15, l24, _, _, _, h25, h16, h15, h24, (.cons ⟨p1, rfl, e1.at_⟩ (.cons ⟨p2, rfl, e2.at_⟩ (.cons ⟨p3, rfl, e3.at_⟩ (.cons ⟨p4, rfl, e4.at_⟩ (.cons ⟨p5, rfl, e5.at_⟩ (.cons ⟨p6, rfl, e6.at_⟩ (.cons ⟨p9, rfl, e9.at_⟩ (.cons ⟨p10, rfl, e10.at_⟩ (.cons ⟨p11, rfl, e11.at_⟩ (.cons ⟨p12, rfl, e12.at_⟩ .nil)))))))))), by show 10 ≤ 100; decide, (.cons eqv_str (.cons eqv_str (.cons eqv_int (.cons eqv_int (.cons eqv_int (.cons eqv_int (.cons (eqv_tup hb9 hrow hf hxl) (.cons (eqv_tup hb10 hrow hf hxl) (.cons (eqv_tup hb11 hrow hf hxl) (.cons (eqv_tup hb12 hrow hf hxl) .nil)))))))))), SS⟩
end
end Own
namespace Own
open PySem PySem.Spec PyProof.Rows L2
theorem scValues : FnScope ["_law_word_so", "_law_far", "_law_row_so", "_law_own", "_law_told_so", "_law_more", "_law_last", "_law_due"] ["_law_word_so", "_law_far", "_law_row_so"] (defScope sValues) := ⟨rfl, rfl, rfl, by decide +kernel, rfl, by decide +kernel, by decide +kernel⟩
section
variable {P : Program} {w : World} {K : PySem.W.Frag} {mg : Str → Option Value} {base : Heap}
theorem ok_values {f fT : Addr} {fd fdT : FuncData} (F : FnP K "_law_values" sValues f fd) (FT : FnP K "tupled" sTupled fT fdT) (M : MgT mg) (mT : mg "tupled" = some (.ref fT)) (E : EF K mg) (I : FI K) : FnOk P w K mg base CX0 5 f fd ["_law_word_so", "_law_far", "_law_row_so"] (spPack K [6, 6, 7, 7, 9, 9, 10, 10, 11, 11, 12, 12, 15, 15, 20, 20]) := by
  obtain ⟨fd6, F6⟩ := I.f6
  have G6 := ok_i6 (P := P) (w := w) (base := base) F6 E
  have b6 : KBn K fd6 ["self", "place"] (1 + 1) [] (fun us _ => us) (fun vs _ => vs) := FunD.kb F6 (1 + 1) [] (fun us _ => us) (fun r _ => r) (fun _ _ _ _ _ _ us ws l1 l2 => match us, ws, l1, l2 with | [_, _], [], _, _ => rfl)
  have kb6 : KBn K fd6 ["self", "place"] 1 ["place"] (fun us ws => us ++ ws) (fun vs zs => vs ++ zs) := FunD.kb F6 1 ["place"] (fun us ws => us ++ ws) (fun r z => r.append z) (fun _ _ _ _ _ _ us ws l1 l2 => match us, ws, l1, l2 with | [_], [_], _, _ => rfl)
  obtain ⟨fd7, F7⟩ := I.f7
  have G7 := ok_i7 (P := P) (w := w) (base := base) F7 E
  have b7 : KBn K fd7 ["self", "name"] (1 + 1) [] (fun us _ => us) (fun vs _ => vs) := FunD.kb F7 (1 + 1) [] (fun us _ => us) (fun r _ => r) (fun _ _ _ _ _ _ us ws l1 l2 => match us, ws, l1, l2 with | [_, _], [], _, _ => rfl)
  have kb7 : KBn K fd7 ["self", "name"] 1 ["name"] (fun us ws => us ++ ws) (fun vs zs => vs ++ zs) := FunD.kb F7 1 ["name"] (fun us ws => us ++ ws) (fun r z => r.append z) (fun _ _ _ _ _ _ us ws l1 l2 => match us, ws, l1, l2 with | [_], [_], _, _ => rfl)
  obtain ⟨fd9, F9⟩ := I.f9
  have G9 := ok_i9 (P := P) (w := w) (base := base) F9 E
  have b9 : KBn K fd9 ["self", "number"] (1 + 1) [] (fun us _ => us) (fun vs _ => vs) := FunD.kb F9 (1 + 1) [] (fun us _ => us) (fun r _ => r) (fun _ _ _ _ _ _ us ws l1 l2 => match us, ws, l1, l2 with | [_, _], [], _, _ => rfl)
  have kb9 : KBn K fd9 ["self", "number"] 1 ["number"] (fun us ws => us ++ ws) (fun vs zs => vs ++ zs) := FunD.kb F9 1 ["number"] (fun us ws => us ++ ws) (fun r z => r.append z) (fun _ _ _ _ _ _ us ws l1 l2 => match us, ws, l1, l2 with | [_], [_], _, _ => rfl)
  obtain ⟨fd10, F10⟩ := I.f10
  have G10 := ok_i10 (P := P) (w := w) (base := base) F10 FT M mT E
  have b10 : KBn K fd10 ["self", "call"] (1 + 1) [] (fun us _ => us) (fun vs _ => vs) := FunD.kb F10 (1 + 1) [] (fun us _ => us) (fun r _ => r) (fun _ _ _ _ _ _ us ws l1 l2 => match us, ws, l1, l2 with | [_, _], [], _, _ => rfl)
  have kb10 : KBn K fd10 ["self", "call"] 1 ["call"] (fun us ws => us ++ ws) (fun vs zs => vs ++ zs) := FunD.kb F10 1 ["call"] (fun us ws => us ++ ws) (fun r z => r.append z) (fun _ _ _ _ _ _ us ws l1 l2 => match us, ws, l1, l2 with | [_], [_], _, _ => rfl)
  obtain ⟨fd11, F11⟩ := I.f11
  have G11 := ok_i11 (P := P) (w := w) (base := base) F11 E
  have b11 : KBn K fd11 ["self", "most"] (1 + 1) [] (fun us _ => us) (fun vs _ => vs) := FunD.kb F11 (1 + 1) [] (fun us _ => us) (fun r _ => r) (fun _ _ _ _ _ _ us ws l1 l2 => match us, ws, l1, l2 with | [_, _], [], _, _ => rfl)
  have kb11 : KBn K fd11 ["self", "most"] 1 ["most"] (fun us ws => us ++ ws) (fun vs zs => vs ++ zs) := FunD.kb F11 1 ["most"] (fun us ws => us ++ ws) (fun r z => r.append z) (fun _ _ _ _ _ _ us ws l1 l2 => match us, ws, l1, l2 with | [_], [_], _, _ => rfl)
  obtain ⟨fd12, F12⟩ := I.f12
  have G12 := ok_i12 (P := P) (w := w) (base := base) F12 E
  have b12 : KBn K fd12 ["self", "place"] (1 + 1) [] (fun us _ => us) (fun vs _ => vs) := FunD.kb F12 (1 + 1) [] (fun us _ => us) (fun r _ => r) (fun _ _ _ _ _ _ us ws l1 l2 => match us, ws, l1, l2 with | [_, _], [], _, _ => rfl)
  have kb12 : KBn K fd12 ["self", "place"] 1 ["place"] (fun us ws => us ++ ws) (fun vs zs => vs ++ zs) := FunD.kb F12 1 ["place"] (fun us ws => us ++ ws) (fun r z => r.append z) (fun _ _ _ _ _ _ us ws l1 l2 => match us, ws, l1, l2 with | [_], [_], _, _ => rfl)
  obtain ⟨fd15, F15⟩ := I.f15
  have G15 := ok_i15 (P := P) (w := w) (base := base) F15 E
  have b15 : KBn K fd15 ["self", "place"] (1 + 1) [] (fun us _ => us) (fun vs _ => vs) := FunD.kb F15 (1 + 1) [] (fun us _ => us) (fun r _ => r) (fun _ _ _ _ _ _ us ws l1 l2 => match us, ws, l1, l2 with | [_, _], [], _, _ => rfl)
  have kb15 : KBn K fd15 ["self", "place"] 1 ["place"] (fun us ws => us ++ ws) (fun vs zs => vs ++ zs) := FunD.kb F15 1 ["place"] (fun us ws => us ++ ws) (fun r z => r.append z) (fun _ _ _ _ _ _ us ws l1 l2 => match us, ws, l1, l2 with | [_], [_], _, _ => rfl)
  obtain ⟨fd20, F20⟩ := I.f20
  have G20 := ok_i20 (P := P) (w := w) (base := base) F20 E
  have b20 : KBn K fd20 ["self", "name"] (1 + 1) [] (fun us _ => us) (fun vs _ => vs) := FunD.kb F20 (1 + 1) [] (fun us _ => us) (fun r _ => r) (fun _ _ _ _ _ _ us ws l1 l2 => match us, ws, l1, l2 with | [_, _], [], _, _ => rfl)
  have kb20 : KBn K fd20 ["self", "name"] 1 ["name"] (fun us ws => us ++ ws) (fun vs zs => vs ++ zs) := FunD.kb F20 1 ["name"] (fun us ws => us ++ ws) (fun r z => r.append z) (fun _ _ _ _ _ _ us ws l1 l2 => match us, ws, l1, l2 with | [_], [_], _, _ => rfl)
  refine F.ok scValues (fun vs H Q _ h => ?_) (fun cdv A outer s H vs Q _ hr h => ?_)
  · obtain ⟨z, far, row, xs, rfl, _⟩ := h
    rfl
  · obtain ⟨z, far, row, xs, rfl, hrow, hf, hxl, k⟩ := h
    refine ⟨_, PSs.nox (pss_cons (ps_set (i := 3) scValues.nd rfl (.inl rfl) (pe_lstF (pa_cons (pe_xmk (E.xc 6 (by decide)) (E.ini 6 (by decide)) (E.fn 6 (by decide)) G6 (hr.mono (by decide)) b6 (by decide) (by rfl) (E.gl 6 (by decide)) (pa_cons (pv 1) pa_nil)) (pa_cons (pe_xmkK (E.xc 6 (by decide)) (E.ini 6 (by decide)) (E.fn 6 (by decide)) G6 (hr.mono (by decide)) kb6 (by rfl) (E.gl 6 (by decide)) (pk_cons (pv 1) pk_nil)) (pa_cons (pe_xmk (E.xc 7 (by decide)) (E.ini 7 (by decide)) (E.fn 7 (by decide)) G7 (hr.mono (by decide)) b7 (by decide) (by rfl) (E.gl 7 (by decide)) (pa_cons (pv 0) pa_nil)) (pa_cons (pe_xmkK (E.xc 7 (by decide)) (E.ini 7 (by decide)) (E.fn 7 (by decide)) G7 (hr.mono (by decide)) kb7 (by rfl) (E.gl 7 (by decide)) (pk_cons (pv 0) pk_nil)) (pa_cons (pe_xmk (E.xc 9 (by decide)) (E.ini 9 (by decide)) (E.fn 9 (by decide)) G9 (hr.mono (by decide)) b9 (by decide) (by rfl) (E.gl 9 (by decide)) (pa_cons (pv 1) pa_nil)) (pa_cons (pe_xmkK (E.xc 9 (by decide)) (E.ini 9 (by decide)) (E.fn 9 (by decide)) G9 (hr.mono (by decide)) kb9 (by rfl) (E.gl 9 (by decide)) (pk_cons (pv 1) pk_nil)) pa_nil))))))))
      (pss_cons (ps_set (i := 4) scValues.nd rfl (.inl rfl) (pe_lstF (pa_cons (pe_xat (b := .V) (pe_ix ix_list (pv 3) pe_int (fun _ _ => rfl))) (pa_cons (pe_xat (b := .V) (pe_ix ix_list (pv 3) pe_int (fun _ _ => rfl))) (pa_cons (pe_xat (b := .V) (pe_ix ix_list (pv 3) pe_int (fun _ _ => rfl))) (pa_cons (pe_xat (b := .V) (pe_ix ix_list (pv 3) pe_int (fun _ _ => rfl))) (pa_cons (pe_xat (b := .V) (pe_ix ix_list (pv 3) pe_int (fun _ _ => rfl))) (pa_cons (pe_xat (b := .V) (pe_ix ix_list (pv 3) pe_int (fun _ _ => rfl))) pa_nil))))))))
      (pss_cons (ps_set (i := 5) scValues.nd rfl (.inl rfl) (pe_lstF (pa_cons (pe_xmk (E.xc 10 (by decide)) (E.ini 10 (by decide)) (E.fn 10 (by decide)) G10 (hr.mono (by decide)) b10 (by decide) (by rfl) (E.gl 10 (by decide)) (pa_cons (pv 2) pa_nil)) (pa_cons (pe_xmkK (E.xc 10 (by decide)) (E.ini 10 (by decide)) (E.fn 10 (by decide)) G10 (hr.mono (by decide)) kb10 (by rfl) (E.gl 10 (by decide)) (pk_cons (pv 2) pk_nil)) (pa_cons (pe_xmk (E.xc 11 (by decide)) (E.ini 11 (by decide)) (E.fn 11 (by decide)) G11 (hr.mono (by decide)) b11 (by decide) (by rfl) (E.gl 11 (by decide)) (pa_cons (pv 1) pa_nil)) (pa_cons (pe_xmkK (E.xc 11 (by decide)) (E.ini 11 (by decide)) (E.fn 11 (by decide)) G11 (hr.mono (by decide)) kb11 (by rfl) (E.gl 11 (by decide)) (pk_cons (pv 1) pk_nil)) (pa_cons (pe_xmk (E.xc 12 (by decide)) (E.ini 12 (by decide)) (E.fn 12 (by decide)) G12 (hr.mono (by decide)) b12 (by decide) (by rfl) (E.gl 12 (by decide)) (pa_cons (pv 1) pa_nil)) (pa_cons (pe_xmkK (E.xc 12 (by decide)) (E.ini 12 (by decide)) (E.fn 12 (by decide)) G12 (hr.mono (by decide)) kb12 (by rfl) (E.gl 12 (by decide)) (pk_cons (pv 1) pk_nil)) pa_nil))))))))
      (pss_cons (ps_set (i := 4) scValues.nd rfl (.inl rfl) (pe_op op_catF (pv 4) (pe_lstF (pa_cons (pe_xat (b := .V) (pe_ix ix_list (pv 5) pe_int (fun _ _ => rfl))) (pa_cons (pe_xat (b := .V) (pe_ix ix_list (pv 5) pe_int (fun _ _ => rfl))) (pa_cons (pe_xat (b := .V) (pe_ix ix_list (pv 5) pe_int (fun _ _ => rfl))) (pa_cons (pe_xat (b := .V) (pe_ix ix_list (pv 5) pe_int (fun _ _ => rfl))) (pa_cons (pe_xat (b := .V) (pe_ix ix_list (pv 5) pe_int (fun _ _ => rfl))) (pa_cons (pe_xat (b := .V) (pe_ix ix_list (pv 5) pe_int (fun _ _ => rfl))) pa_nil)))))))))
      (pss_cons (ps_set (i := 6) scValues.nd rfl (.inl rfl) (pe_lstF (pa_cons (pe_xmk (E.xc 15 (by decide)) (E.ini 15 (by decide)) (E.fn 15 (by decide)) G15 (hr.mono (by decide)) b15 (by decide) (by rfl) (E.gl 15 (by decide)) (pa_cons (pv 1) pa_nil)) (pa_cons (pe_xmkK (E.xc 15 (by decide)) (E.ini 15 (by decide)) (E.fn 15 (by decide)) G15 (hr.mono (by decide)) kb15 (by rfl) (E.gl 15 (by decide)) (pk_cons (pv 1) pk_nil)) (pa_cons (pe_xmk (E.xc 20 (by decide)) (E.ini 20 (by decide)) (E.fn 20 (by decide)) G20 (hr.mono (by decide)) b20 (by decide) (by rfl) (E.gl 20 (by decide)) (pa_cons (pv 0) pa_nil)) (pa_cons (pe_xmkK (E.xc 20 (by decide)) (E.ini 20 (by decide)) (E.fn 20 (by decide)) G20 (hr.mono (by decide)) kb20 (by rfl) (E.gl 20 (by decide)) (pk_cons (pv 0) pk_nil)) pa_nil))))))
      (pss_cons (ps_set (i := 4) scValues.nd rfl (.inl rfl) (pe_op op_catF (pv 4) (pe_lstF (pa_cons (pe_xat (b := .V) (pe_ix ix_list (pv 6) pe_int (fun _ _ => rfl))) (pa_cons (pe_xat (b := .V) (pe_ix ix_list (pv 6) pe_int (fun _ _ => rfl))) (pa_cons (pe_xat (b := .V) (pe_ix ix_list (pv 6) pe_int (fun _ _ => rfl))) (pa_cons (pe_xat (b := .V) (pe_ix ix_list (pv 6) pe_int (fun _ _ => rfl))) pa_nil)))))))
      (pss_cons (ps_set (i := 7) scValues.nd rfl (.inl rfl) (pe_op op_catF (pe_op op_catF (pe_op op_catF (pe_op op_repF (pe_lstF (pa_cons (pv 1) pa_nil)) pe_int) (pe_op op_repF (pe_lstF (pa_cons (pv 0) pa_nil)) pe_int)) (pe_op op_repF (pe_lstF (pa_cons (pv 1) pa_nil)) pe_int)) (pe_op op_repF (pe_lstF (pa_cons (pv 2) pa_nil)) pe_int)))
      (pss_one (ps_ret (pe_tupF (pa_cons (pe_op op_catF (pe_op op_catF (pv 3) (pv 5)) (pv 6)) (pa_cons (pv 4) (pa_cons (pe_op op_catF (pe_op op_catF (pv 7) (pe_op op_repF (pe_lstF (pa_cons (pv 1) pa_nil)) pe_int)) (pe_op op_repF (pe_lstF (pa_cons (pv 0) pa_nil)) pe_int)) pa_nil))))))))))))), ?_⟩
    have SS : Same H H := Same.refl H
    refine ⟨_, rfl, rfl, rfl, fun p1 hp1 => ⟨p1, _, rfl, upd_same, fun H1 e1 s1 => ⟨rfl, ?_⟩⟩⟩
    replace s1 := mkSame hp1 s1
    replace hrow := s1 _ _ hrow
    replace SS := Same.trans SS s1
    refine ⟨_, rfl, rfl, rfl, fun p2 hp2 => ⟨p2, _, rfl, upd_same, fun H2 e2 s2 => ⟨rfl, ?_⟩⟩⟩
    replace s2 := mkSame hp2 s2
    replace hrow := s2 _ _ hrow
    replace e1 := e1.same s2
    replace SS := Same.trans SS s2
    refine ⟨_, rfl, rfl, rfl, fun p3 hp3 => ⟨p3, _, rfl, upd_same, fun H3 e3 s3 => ⟨rfl, ?_⟩⟩⟩
    replace s3 := mkSame hp3 s3
    replace hrow := s3 _ _ hrow
    replace e1 := e1.same s3
    replace e2 := e2.same s3
    replace SS := Same.trans SS s3
    refine ⟨_, rfl, rfl, rfl, fun p4 hp4 => ⟨p4, _, rfl, upd_same, fun H4 e4 s4 => ⟨rfl, ?_⟩⟩⟩
    replace s4 := mkSame hp4 s4
    replace hrow := s4 _ _ hrow
    replace e1 := e1.same s4
    replace e2 := e2.same s4
    replace e3 := e3.same s4
    replace SS := Same.trans SS s4
    refine ⟨_, rfl, rfl, rfl, fun p5 hp5 => ⟨p5, _, rfl, upd_same, fun H5 e5 s5 => ⟨rfl, ?_⟩⟩⟩
    replace s5 := mkSame hp5 s5
    replace hrow := s5 _ _ hrow
    replace e1 := e1.same s5
    replace e2 := e2.same s5
    replace e3 := e3.same s5
    replace e4 := e4.same s5
    replace SS := Same.trans SS s5
    refine ⟨_, rfl, rfl, rfl, fun p6 hp6 => ⟨p6, _, rfl, upd_same, fun H6 e6 s6 => ⟨rfl, ?_⟩⟩⟩
    replace s6 := mkSame hp6 s6
    replace hrow := s6 _ _ hrow
    replace e1 := e1.same s6
    replace e2 := e2.same s6
    replace e3 := e3.same s6
    replace e4 := e4.same s6
    replace e5 := e5.same s6
    replace SS := Same.trans SS s6
    refine ⟨by show 6 ≤ sizeLine; decide, fun l7 H7 hl7 s7 h7 => ?_⟩
    replace hrow := s7 _ _ hrow
    replace e1 := e1.same s7
    replace e2 := e2.same s7
    replace e3 := e3.same s7
    replace e4 := e4.same s7
    replace e5 := e5.same s7
    replace e6 := e6.same s7
    replace SS := Same.trans SS s7
    obtain ⟨d1, ea1, eb1⟩ := id e1
    refine ⟨_, rfl, l7, _, _, _, rfl, rfl, SqL.of h7, rfl, p1, _, d1, _, _, rfl, E.xc 6 (by decide), E.no 6 (by decide) _ (by decide), ea1, eb1, rfl, ?_⟩
    obtain ⟨d2, ea2, eb2⟩ := id e2
    refine ⟨_, rfl, l7, _, _, _, rfl, rfl, SqL.of h7, rfl, p2, _, d2, _, _, rfl, E.xc 6 (by decide), E.no 6 (by decide) _ (by decide), ea2, eb2, rfl, ?_⟩
    obtain ⟨d3, ea3, eb3⟩ := id e3
    refine ⟨_, rfl, l7, _, _, _, rfl, rfl, SqL.of h7, rfl, p3, _, d3, _, _, rfl, E.xc 7 (by decide), E.no 7 (by decide) _ (by decide), ea3, eb3, rfl, ?_⟩
    obtain ⟨d4, ea4, eb4⟩ := id e4
    refine ⟨_, rfl, l7, _, _, _, rfl, rfl, SqL.of h7, rfl, p4, _, d4, _, _, rfl, E.xc 7 (by decide), E.no 7 (by decide) _ (by decide), ea4, eb4, rfl, ?_⟩
    obtain ⟨d5, ea5, eb5⟩ := id e5
    refine ⟨_, rfl, l7, _, _, _, rfl, rfl, SqL.of h7, rfl, p5, _, d5, _, _, rfl, E.xc 9 (by decide), E.no 9 (by decide) _ (by decide), ea5, eb5, rfl, ?_⟩
    obtain ⟨d6, ea6, eb6⟩ := id e6
    refine ⟨_, rfl, l7, _, _, _, rfl, rfl, SqL.of h7, rfl, p6, _, d6, _, _, rfl, E.xc 9 (by decide), E.no 9 (by decide) _ (by decide), ea6, eb6, rfl, ?_⟩
    refine ⟨by show 6 ≤ sizeLine; decide, fun l8 H8 hl8 s8 h8 => ?_⟩
    replace hrow := s8 _ _ hrow
    replace e1 := e1.same s8
    replace e2 := e2.same s8
    replace e3 := e3.same s8
    replace e4 := e4.same s8
    replace e5 := e5.same s8
    replace e6 := e6.same s8
    replace h7 := s8 _ _ h7
    replace SS := Same.trans SS s8
    refine ⟨_, rfl, rfl, rfl, fun p9 hp9 => ⟨p9, row, xs, rfl, upd_same, (by rw [upd_ne (ne_of_none hrow hp9)]; exact hrow), hf, hxl, fun b9 H9 hb9 e9 s9 => ⟨rfl, ?_⟩⟩⟩
    replace s9 := mkSame hp9 s9
    replace hrow := s9 _ _ hrow
    replace e1 := e1.same s9
    replace e2 := e2.same s9
    replace e3 := e3.same s9
    replace e4 := e4.same s9
    replace e5 := e5.same s9
    replace e6 := e6.same s9
    replace h7 := s9 _ _ h7
    replace h8 := s9 _ _ h8
    replace SS := Same.trans SS s9
    refine ⟨_, rfl, rfl, rfl, fun p10 hp10 => ⟨p10, row, xs, rfl, upd_same, (by rw [upd_ne (ne_of_none hrow hp10)]; exact hrow), hf, hxl, fun b10 H10 hb10 e10 s10 => ⟨rfl, ?_⟩⟩⟩
    replace s10 := mkSame hp10 s10
    replace hrow := s10 _ _ hrow
    replace e1 := e1.same s10
    replace e2 := e2.same s10
    replace e3 := e3.same s10
    replace e4 := e4.same s10
    replace e5 := e5.same s10
    replace e6 := e6.same s10
    replace h7 := s10 _ _ h7
    replace h8 := s10 _ _ h8
    replace e9 := e9.same s10
    replace hb9 := s10 _ _ hb9
    replace SS := Same.trans SS s10
    refine ⟨_, rfl, rfl, rfl, fun p11 hp11 => ⟨p11, _, rfl, upd_same, fun H11 e11 s11 => ⟨rfl, ?_⟩⟩⟩
    replace s11 := mkSame hp11 s11
    replace hrow := s11 _ _ hrow
    replace e1 := e1.same s11
    replace e2 := e2.same s11
    replace e3 := e3.same s11
    replace e4 := e4.same s11
    replace e5 := e5.same s11
    replace e6 := e6.same s11
    replace h7 := s11 _ _ h7
    replace h8 := s11 _ _ h8
    replace e9 := e9.same s11
    replace hb9 := s11 _ _ hb9
    replace e10 := e10.same s11
    replace hb10 := s11 _ _ hb10
    replace SS := Same.trans SS s11
    refine ⟨_, rfl, rfl, rfl, fun p12 hp12 => ⟨p12, _, rfl, upd_same, fun H12 e12 s12 => ⟨rfl, ?_⟩⟩⟩
    replace s12 := mkSame hp12 s12
    replace hrow := s12 _ _ hrow
    replace e1 := e1.same s12
    replace e2 := e2.same s12
    replace e3 := e3.same s12
    replace e4 := e4.same s12
    replace e5 := e5.same s12
    replace e6 := e6.same s12
    replace h7 := s12 _ _ h7
    replace h8 := s12 _ _ h8
    replace e9 := e9.same s12
    replace hb9 := s12 _ _ hb9
    replace e10 := e10.same s12
    replace hb10 := s12 _ _ hb10
    replace e11 := e11.same s12
    replace SS := Same.trans SS s12
    refine ⟨_, rfl, rfl, rfl, fun p13 hp13 => ⟨p13, _, rfl, upd_same, fun H13 e13 s13 => ⟨rfl, ?_⟩⟩⟩
    replace s13 := mkSame hp13 s13
    replace hrow := s13 _ _ hrow
    replace e1 := e1.same s13
    replace e2 := e2.same s13
    replace e3 := e3.same s13
    replace e4 := e4.same s13
    replace e5 := e5.same s13
    replace e6 := e6.same s13
    replace h7 := s13 _ _ h7
    replace h8 := s13 _ _ h8
    replace e9 := e9.same s13
    replace hb9 := s13 _ _ hb9
    replace e10 := e10.same s13
    replace hb10 := s13 _ _ hb10
    replace e11 := e11.same s13
    replace e12 := e12.same s13
    replace SS := Same.trans SS s13
    refine ⟨_, rfl, rfl, rfl, fun p14 hp14 => ⟨p14, _, rfl, upd_same, fun H14 e14 s14 => ⟨rfl, ?_⟩⟩⟩
    replace s14 := mkSame hp14 s14
    replace hrow := s14 _ _ hrow
    replace e1 := e1.same s14
    replace e2 := e2.same s14
    replace e3 := e3.same s14
    replace e4 := e4.same s14
    replace e5 := e5.same s14
    replace e6 := e6.same s14
    replace h7 := s14 _ _ h7
    replace h8 := s14 _ _ h8
    replace e9 := e9.same s14
    replace hb9 := s14 _ _ hb9
    replace e10 := e10.same s14
    replace hb10 := s14 _ _ hb10
    replace e11 := e11.same s14
    replace e12 := e12.same s14
    replace e13 := e13.same s14
    replace SS := Same.trans SS s14
    refine ⟨by show 6 ≤ sizeLine; decide, fun l15 H15 hl15 s15 h15 => ?_⟩
    replace hrow := s15 _ _ hrow
    replace e1 := e1.same s15
    replace e2 := e2.same s15
    replace e3 := e3.same s15
    replace e4 := e4.same s15
    replace e5 := e5.same s15
    replace e6 := e6.same s15
    replace h7 := s15 _ _ h7
    replace h8 := s15 _ _ h8
    replace e9 := e9.same s15
    replace hb9 := s15 _ _ hb9
    replace e10 := e10.same s15
    replace hb10 := s15 _ _ hb10
    replace e11 := e11.same s15
    replace e12 := e12.same s15
    replace e13 := e13.same s15
    replace e14 := e14.same s15
    replace SS := Same.trans SS s15
    refine ⟨_, rfl, ?_⟩
    obtain ⟨d9, ea9, eb9⟩ := id e9
    refine ⟨_, rfl, l15, _, _, _, rfl, rfl, SqL.of h15, rfl, p9, _, d9, _, _, rfl, E.xc 10 (by decide), E.no 10 (by decide) _ (by decide), ea9, eb9, rfl, ?_⟩
    obtain ⟨d10, ea10, eb10⟩ := id e10
    refine ⟨_, rfl, l15, _, _, _, rfl, rfl, SqL.of h15, rfl, p10, _, d10, _, _, rfl, E.xc 10 (by decide), E.no 10 (by decide) _ (by decide), ea10, eb10, rfl, ?_⟩
    obtain ⟨d11, ea11, eb11⟩ := id e11
    refine ⟨_, rfl, l15, _, _, _, rfl, rfl, SqL.of h15, rfl, p11, _, d11, _, _, rfl, E.xc 11 (by decide), E.no 11 (by decide) _ (by decide), ea11, eb11, rfl, ?_⟩
    obtain ⟨d12, ea12, eb12⟩ := id e12
    refine ⟨_, rfl, l15, _, _, _, rfl, rfl, SqL.of h15, rfl, p12, _, d12, _, _, rfl, E.xc 11 (by decide), E.no 11 (by decide) _ (by decide), ea12, eb12, rfl, ?_⟩
    obtain ⟨d13, ea13, eb13⟩ := id e13
    refine ⟨_, rfl, l15, _, _, _, rfl, rfl, SqL.of h15, rfl, p13, _, d13, _, _, rfl, E.xc 12 (by decide), E.no 12 (by decide) _ (by decide), ea13, eb13, rfl, ?_⟩
    obtain ⟨d14, ea14, eb14⟩ := id e14
    refine ⟨_, rfl, l15, _, _, _, rfl, rfl, SqL.of h15, rfl, p14, _, d14, _, _, rfl, E.xc 12 (by decide), E.no 12 (by decide) _ (by decide), ea14, eb14, rfl, ?_⟩
    refine ⟨by show 6 ≤ sizeLine; decide, fun l16 H16 hl16 s16 h16 => ?_⟩
    replace hrow := s16 _ _ hrow
    replace e1 := e1.same s16
    replace e2 := e2.same s16
    replace e3 := e3.same s16
    replace e4 := e4.same s16
    replace e5 := e5.same s16
    replace e6 := e6.same s16
    replace h7 := s16 _ _ h7
    replace h8 := s16 _ _ h8
    replace e9 := e9.same s16
    replace hb9 := s16 _ _ hb9
    replace e10 := e10.same s16
    replace hb10 := s16 _ _ hb10
    replace e11 := e11.same s16
    replace e12 := e12.same s16
    replace e13 := e13.same s16
    replace e14 := e14.same s16
    replace h15 := s16 _ _ h15
    replace SS := Same.trans SS s16
    refine ⟨l8, l16, _, _, rfl, rfl, h8, h16, by show 12 ≤ sizeLine; decide, fun l17 H17 hl17 s17 h17 => ?_⟩
    replace hrow := s17 _ _ hrow
    replace e1 := e1.same s17
    replace e2 := e2.same s17
    replace e3 := e3.same s17
    replace e4 := e4.same s17
    replace e5 := e5.same s17
    replace e6 := e6.same s17
    replace h7 := s17 _ _ h7
    replace h8 := s17 _ _ h8
    replace e9 := e9.same s17
    replace hb9 := s17 _ _ hb9
    replace e10 := e10.same s17
    replace hb10 := s17 _ _ hb10
    replace e11 := e11.same s17
    replace e12 := e12.same s17
    replace e13 := e13.same s17
    replace e14 := e14.same s17
    replace h15 := s17 _ _ h15
    replace h16 := s17 _ _ h16
    replace SS := Same.trans SS s17
    refine ⟨_, rfl, rfl, rfl, fun p18 hp18 => ⟨p18, _, rfl, upd_same, fun H18 e18 s18 => ⟨rfl, ?_⟩⟩⟩
    replace s18 := mkSame hp18 s18
    replace hrow := s18 _ _ hrow
    replace e1 := e1.same s18
    replace e2 := e2.same s18
    replace e3 := e3.same s18
    replace e4 := e4.same s18
    replace e5 := e5.same s18
    replace e6 := e6.same s18
    replace h7 := s18 _ _ h7
    replace h8 := s18 _ _ h8
    replace e9 := e9.same s18
    replace hb9 := s18 _ _ hb9
    replace e10 := e10.same s18
    replace hb10 := s18 _ _ hb10
    replace e11 := e11.same s18
    replace e12 := e12.same s18
    replace e13 := e13.same s18
    replace e14 := e14.same s18
    replace h15 := s18 _ _ h15
    replace h16 := s18 _ _ h16
    replace h17 := s18 _ _ h17
    replace SS := Same.trans SS s18
    refine ⟨_, rfl, rfl, rfl, fun p19 hp19 => ⟨p19, _, rfl, upd_same, fun H19 e19 s19 => ⟨rfl, ?_⟩⟩⟩
    replace s19 := mkSame hp19 s19
    replace hrow := s19 _ _ hrow
    replace e1 := e1.same s19
    replace e2 := e2.same s19
    replace e3 := e3.same s19
    replace e4 := e4.same s19
    replace e5 := e5.same s19
    replace e6 := e6.same s19
    replace h7 := s19 _ _ h7
    replace h8 := s19 _ _ h8
    replace e9 := e9.same s19
    replace hb9 := s19 _ _ hb9
    replace e10 := e10.same s19
    replace hb10 := s19 _ _ hb10
    replace e11 := e11.same s19
    replace e12 := e12.same s19
    replace e13 := e13.same s19
    replace e14 := e14.same s19
    replace h15 := s19 _ _ h15
    replace h16 := s19 _ _ h16
    replace h17 := s19 _ _ h17
    replace e18 := e18.same s19
    replace SS := Same.trans SS s19
    refine ⟨_, rfl, rfl, rfl, fun p20 hp20 => ⟨p20, _, rfl, upd_same, fun H20 e20 s20 => ⟨rfl, ?_⟩⟩⟩
    replace s20 := mkSame hp20 s20
    replace hrow := s20 _ _ hrow
    replace e1 := e1.same s20
    replace e2 := e2.same s20
    replace e3 := e3.same s20
    replace e4 := e4.same s20
    replace e5 := e5.same s20
    replace e6 := e6.same s20
    replace h7 := s20 _ _ h7
    replace h8 := s20 _ _ h8
    replace e9 := e9.same s20
    replace hb9 := s20 _ _ hb9
    replace e10 := e10.same s20
    replace hb10 := s20 _ _ hb10
    replace e11 := e11.same s20
    replace e12 := e12.same s20
    replace e13 := e13.same s20
    replace e14 := e14.same s20
    replace h15 := s20 _ _ h15
    replace h16 := s20 _ _ h16
    replace h17 := s20 _ _ h17
    replace e18 := e18.same s20
    replace e19 := e19.same s20
    replace SS := Same.trans SS s20
    refine ⟨_, rfl, rfl, rfl, fun p21 hp21 => ⟨p21, _, rfl, upd_same, fun H21 e21 s21 => ⟨rfl, ?_⟩⟩⟩
    replace s21 := mkSame hp21 s21
    replace hrow := s21 _ _ hrow
    replace e1 := e1.same s21
    replace e2 := e2.same s21
    replace e3 := e3.same s21
    replace e4 := e4.same s21
    replace e5 := e5.same s21
    replace e6 := e6.same s21
    replace h7 := s21 _ _ h7
    replace h8 := s21 _ _ h8
    replace e9 := e9.same s21
    replace hb9 := s21 _ _ hb9
    replace e10 := e10.same s21
    replace hb10 := s21 _ _ hb10
    replace e11 := e11.same s21
    replace e12 := e12.same s21
    replace e13 := e13.same s21
    replace e14 := e14.same s21
    replace h15 := s21 _ _ h15
    replace h16 := s21 _ _ h16
    replace h17 := s21 _ _ h17
    replace e18 := e18.same s21
    replace e19 := e19.same s21
    replace e20 := e20.same s21
    replace SS := Same.trans SS s21
    refine ⟨by show 4 ≤ sizeLine; decide, fun l22 H22 hl22 s22 h22 => ?_⟩
    replace hrow := s22 _ _ hrow
    replace e1 := e1.same s22
    replace e2 := e2.same s22
    replace e3 := e3.same s22
    replace e4 := e4.same s22
    replace e5 := e5.same s22
    replace e6 := e6.same s22
    replace h7 := s22 _ _ h7
    replace h8 := s22 _ _ h8
    replace e9 := e9.same s22
    replace hb9 := s22 _ _ hb9
    replace e10 := e10.same s22
    replace hb10 := s22 _ _ hb10
    replace e11 := e11.same s22
    replace e12 := e12.same s22
    replace e13 := e13.same s22
    replace e14 := e14.same s22
    replace h15 := s22 _ _ h15
    replace h16 := s22 _ _ h16
    replace h17 := s22 _ _ h17
    replace e18 := e18.same s22
    replace e19 := e19.same s22
    replace e20 := e20.same s22
    replace e21 := e21.same s22
    replace SS := Same.trans SS s22
    refine ⟨_, rfl, ?_⟩
    obtain ⟨d18, ea18, eb18⟩ := id e18
    refine ⟨_, rfl, l22, _, _, _, rfl, rfl, SqL.of h22, rfl, p18, _, d18, _, _, rfl, E.xc 15 (by decide), E.no 15 (by decide) _ (by decide), ea18, eb18, rfl, ?_⟩
    obtain ⟨d19, ea19, eb19⟩ := id e19
    refine ⟨_, rfl, l22, _, _, _, rfl, rfl, SqL.of h22, rfl, p19, _, d19, _, _, rfl, E.xc 15 (by decide), E.no 15 (by decide) _ (by decide), ea19, eb19, rfl, ?_⟩
    obtain ⟨d20, ea20, eb20⟩ := id e20
    refine ⟨_, rfl, l22, _, _, _, rfl, rfl, SqL.of h22, rfl, p20, _, d20, _, _, rfl, E.xc 20 (by decide), E.no 20 (by decide) _ (by decide), ea20, eb20, rfl, ?_⟩
    obtain ⟨d21, ea21, eb21⟩ := id e21
    refine ⟨_, rfl, l22, _, _, _, rfl, rfl, SqL.of h22, rfl, p21, _, d21, _, _, rfl, E.xc 20 (by decide), E.no 20 (by decide) _ (by decide), ea21, eb21, rfl, ?_⟩
    refine ⟨by show 4 ≤ sizeLine; decide, fun l23 H23 hl23 s23 h23 => ?_⟩
    replace hrow := s23 _ _ hrow
    replace e1 := e1.same s23
    replace e2 := e2.same s23
    replace e3 := e3.same s23
    replace e4 := e4.same s23
    replace e5 := e5.same s23
    replace e6 := e6.same s23
    replace h7 := s23 _ _ h7
    replace h8 := s23 _ _ h8
    replace e9 := e9.same s23
    replace hb9 := s23 _ _ hb9
    replace e10 := e10.same s23
    replace hb10 := s23 _ _ hb10
    replace e11 := e11.same s23
    replace e12 := e12.same s23
    replace e13 := e13.same s23
    replace e14 := e14.same s23
    replace h15 := s23 _ _ h15
    replace h16 := s23 _ _ h16
    replace h17 := s23 _ _ h17
    replace e18 := e18.same s23
    replace e19 := e19.same s23
    replace e20 := e20.same s23
    replace e21 := e21.same s23
    replace h22 := s23 _ _ h22
    replace SS := Same.trans SS s23
    refine ⟨l17, l23, _, _, rfl, rfl, h17, h23, by show 16 ≤ sizeLine; decide, fun l24 H24 hl24 s24 h24 => ?_⟩
    replace hrow := s24 _ _ hrow
    replace e1 := e1.same s24
    replace e2 := e2.same s24
    replace e3 := e3.same s24
    replace e4 := e4.same s24
    replace e5 := e5.same s24
    replace e6 := e6.same s24
    replace h7 := s24 _ _ h7
    replace h8 := s24 _ _ h8
    replace e9 := e9.same s24
    replace hb9 := s24 _ _ hb9
    replace e10 := e10.same s24
    replace hb10 := s24 _ _ hb10
    replace e11 := e11.same s24
    replace e12 := e12.same s24
    replace e13 := e13.same s24
    replace e14 := e14.same s24
    replace h15 := s24 _ _ h15
    replace h16 := s24 _ _ h16
    replace h17 := s24 _ _ h17
    replace e18 := e18.same s24
    replace e19 := e19.same s24
    replace e20 := e20.same s24
    replace e21 := e21.same s24
    replace h22 := s24 _ _ h22
    replace h23 := s24 _ _ h23
    replace SS := Same.trans SS s24
    refine ⟨_, rfl, by show 1 ≤ sizeLine; decide, fun l25 H25 hl25 s25 h25 => ?_⟩
    replace hrow := s25 _ _ hrow
    replace e1 := e1.same s25
    replace e2 := e2.same s25
    replace e3 := e3.same s25
    replace e4 := e4.same s25
    replace e5 := e5.same s25
    replace e6 := e6.same s25
    replace h7 := s25 _ _ h7
    replace h8 := s25 _ _ h8
    replace e9 := e9.same s25
    replace hb9 := s25 _ _ hb9
    replace e10 := e10.same s25
    replace hb10 := s25 _ _ hb10
    replace e11 := e11.same s25
    replace e12 := e12.same s25
    replace e13 := e13.same s25
    replace e14 := e14.same s25
    replace h15 := s25 _ _ h15
    replace h16 := s25 _ _ h16
    replace h17 := s25 _ _ h17
    replace e18 := e18.same s25
    replace e19 := e19.same s25
    replace e20 := e20.same s25
    replace e21 := e21.same s25
    replace h22 := s25 _ _ h22
    replace h23 := s25 _ _ h23
    replace h24 := s25 _ _ h24
    replace SS := Same.trans SS s25
    refine ⟨l25, 2, _, rfl, rfl, h25, by decide, by decide, by show 2 ≤ sizeLine; decide, fun l26 H26 hl26 s26 h26 => ?_⟩
    replace hrow := s26 _ _ hrow
    replace e1 := e1.same s26
    replace e2 := e2.same s26
    replace e3 := e3.same s26
    replace e4 := e4.same s26
    replace e5 := e5.same s26
    replace e6 := e6.same s26
    replace h7 := s26 _ _ h7
    replace h8 := s26 _ _ h8
    replace e9 := e9.same s26
    replace hb9 := s26 _ _ hb9
    replace e10 := e10.same s26
    replace hb10 := s26 _ _ hb10
    replace e11 := e11.same s26
    replace e12 := e12.same s26
    replace e13 := e13.same s26
    replace e14 := e14.same s26
    replace h15 := s26 _ _ h15
    replace h16 := s26 _ _ h16
    replace h17 := s26 _ _ h17
    replace e18 := e18.same s26
    replace e19 := e19.same s26
    replace e20 := e20.same s26
    replace e21 := e21.same s26
    replace h22 := s26 _ _ h22
    replace h23 := s26 _ _ h23
    replace h24 := s26 _ _ h24
    replace h25 := s26 _ _ h25
    replace SS := Same.trans SS s26
    refine ⟨_, rfl, by show 1 ≤ sizeLine; decide, fun l27 H27 hl27 s27 h27 => ?_⟩
    replace hrow := s27 _ _ hrow
    replace e1 := e1.same s27
    replace e2 := e2.same s27
    replace e3 := e3.same s27
    replace e4 := e4.same s27
    replace e5 := e5.same s27
    replace e6 := e6.same s27
    replace h7 := s27 _ _ h7
    replace h8 := s27 _ _ h8
    replace e9 := e9.same s27
    replace hb9 := s27 _ _ hb9
    replace e10 := e10.same s27
    replace hb10 := s27 _ _ hb10
    replace e11 := e11.same s27
    replace e12 := e12.same s27
    replace e13 := e13.same s27
    replace e14 := e14.same s27
    replace h15 := s27 _ _ h15
    replace h16 := s27 _ _ h16
    replace h17 := s27 _ _ h17
    replace e18 := e18.same s27
    replace e19 := e19.same s27
    replace e20 := e20.same s27
    replace e21 := e21.same s27
    replace h22 := s27 _ _ h22
    replace h23 := s27 _ _ h23
    replace h24 := s27 _ _ h24
    replace h25 := s27 _ _ h25
    replace h26 := s27 _ _ h26
    replace SS := Same.trans SS s27
    refine ⟨l27, 2, _, rfl, rfl, h27, by decide, by decide, by show 2 ≤ sizeLine; decide, fun l28 H28 hl28 s28 h28 => ?_⟩
    replace hrow := s28 _ _ hrow
    replace e1 := e1.same s28
    replace e2 := e2.same s28
    replace e3 := e3.same s28
    replace e4 := e4.same s28
    replace e5 := e5.same s28
    replace e6 := e6.same s28
    replace h7 := s28 _ _ h7
    replace h8 := s28 _ _ h8
    replace e9 := e9.same s28
    replace hb9 := s28 _ _ hb9
    replace e10 := e10.same s28
    replace hb10 := s28 _ _ hb10
    replace e11 := e11.same s28
    replace e12 := e12.same s28
    replace e13 := e13.same s28
    replace e14 := e14.same s28
    replace h15 := s28 _ _ h15
    replace h16 := s28 _ _ h16
    replace h17 := s28 _ _ h17
    replace e18 := e18.same s28
    replace e19 := e19.same s28
    replace e20 := e20.same s28
    replace e21 := e21.same s28
    replace h22 := s28 _ _ h22
    replace h23 := s28 _ _ h23
    replace h24 := s28 _ _ h24
    replace h25 := s28 _ _ h25
    replace h26 := s28 _ _ h26
    replace h27 := s28 _ _ h27
    replace SS := Same.trans SS s28
    refine ⟨l26, l28, _, _, rfl, rfl, h26, h28, by show 4 ≤ sizeLine; decide, fun l29 H29 hl29 s29 h29 => ?_⟩
    replace hrow := s29 _ _ hrow
    replace e1 := e1.same s29
    replace e2 := e2.same s29
    replace e3 := e3.same s29
    replace e4 := e4.same s29
    replace e5 := e5.same s29
    replace e6 := e6.same s29
    replace h7 := s29 _ _ h7
    replace h8 := s29 _ _ h8
    replace e9 := e9.same s29
    replace hb9 := s29 _ _ hb9
    replace e10 := e10.same s29
    replace hb10 := s29 _ _ hb10
    replace e11 := e11.same s29
    replace e12 := e12.same s29
    replace e13 := e13.same s29
    replace e14 := e14.same s29
    replace h15 := s29 _ _ h15
    replace h16 := s29 _ _ h16
    replace h17 := s29 _ _ h17
    replace e18 := e18.same s29
    replace e19 := e19.same s29
    replace e20 := e20.same s29
    replace e21 := e21.same s29
    replace h22 := s29 _ _ h22
    replace h23 := s29 _ _ h23
    replace h24 := s29 _ _ h24
    replace h25 := s29 _ _ h25
    replace h26 := s29 _ _ h26
    replace h27 := s29 _ _ h27
    replace h28 := s29 _ _ h28
    replace SS := Same.trans SS s29
    refine ⟨_, rfl, by show 1 ≤ sizeLine; decide, fun l30 H30 hl30 s30 h30 => ?_⟩
    replace hrow := s30 _ _ hrow
    replace e1 := e1.same s30
    replace e2 := e2.same s30
    replace e3 := e3.same s30
    replace e4 := e4.same s30
    replace e5 := e5.same s30
    replace e6 := e6.same s30
    replace h7 := s30 _ _ h7
    replace h8 := s30 _ _ h8
    replace e9 := e9.same s30
    replace hb9 := s30 _ _ hb9
    replace e10 := e10.same s30
    replace hb10 := s30 _ _ hb10
    replace e11 := e11.same s30
    replace e12 := e12.same s30
    replace e13 := e13.same s30
    replace e14 := e14.same s30
    replace h15 := s30 _ _ h15
    replace h16 := s30 _ _ h16
    replace h17 := s30 _ _ h17
    replace e18 := e18.same s30
    replace e19 := e19.same s30
    replace e20 := e20.same s30
    replace e21 := e21.same s30
    replace h22 := s30 _ _ h22
    replace h23 := s30 _ _ h23
    replace h24 := s30 _ _ h24
    replace h25 := s30 _ _ h25
    replace h26 := s30 _ _ h26
    replace h27 := s30 _ _ h27
    replace h28 := s30 _ _ h28
    replace h29 := s30 _ _ h29
    replace SS := Same.trans SS s30
    refine ⟨l30, 2, _, rfl, rfl, h30, by decide, by decide, by show 2 ≤ sizeLine; decide, fun l31 H31 hl31 s31 h31 => ?_⟩
    replace hrow := s31 _ _ hrow
    replace e1 := e1.same s31
    replace e2 := e2.same s31
    replace e3 := e3.same s31
    replace e4 := e4.same s31
    replace e5 := e5.same s31
    replace e6 := e6.same s31
    replace h7 := s31 _ _ h7
    replace h8 := s31 _ _ h8
    replace e9 := e9.same s31
    replace hb9 := s31 _ _ hb9
    replace e10 := e10.same s31
    replace hb10 := s31 _ _ hb10
    replace e11 := e11.same s31
    replace e12 := e12.same s31
    replace e13 := e13.same s31
    replace e14 := e14.same s31
    replace h15 := s31 _ _ h15
    replace h16 := s31 _ _ h16
    replace h17 := s31 _ _ h17
    replace e18 := e18.same s31
    replace e19 := e19.same s31
    replace e20 := e20.same s31
    replace e21 := e21.same s31
    replace h22 := s31 _ _ h22
    replace h23 := s31 _ _ h23
    replace h24 := s31 _ _ h24
    replace h25 := s31 _ _ h25
    replace h26 := s31 _ _ h26
    replace h27 := s31 _ _ h27
    replace h28 := s31 _ _ h28
    replace h29 := s31 _ _ h29
    replace h30 := s31 _ _ h30
    replace SS := Same.trans SS s31
    refine ⟨l29, l31, _, _, rfl, rfl, h29, h31, by show 6 ≤ sizeLine; decide, fun l32 H32 hl32 s32 h32 => ?_⟩
    replace hrow := s32 _ _ hrow
    replace e1 := e1.same s32
    replace e2 := e2.same s32
    replace e3 := e3.same s32
    replace e4 := e4.same s32
    replace e5 := e5.same s32
    replace e6 := e6.same s32
    replace h7 := s32 _ _ h7
    replace h8 := s32 _ _ h8
    replace e9 := e9.same s32
    replace hb9 := s32 _ _ hb9
    replace e10 := e10.same s32
    replace hb10 := s32 _ _ hb10
    replace e11 := e11.same s32
    replace e12 := e12.same s32
    replace e13 := e13.same s32
    replace e14 := e14.same s32
    replace h15 := s32 _ _ h15
    replace h16 := s32 _ _ h16
    replace h17 := s32 _ _ h17
    replace e18 := e18.same s32
    replace e19 := e19.same s32
    replace e20 := e20.same s32
    replace e21 := e21.same s32
    replace h22 := s32 _ _ h22
    replace h23 := s32 _ _ h23
    replace h24 := s32 _ _ h24
    replace h25 := s32 _ _ h25
    replace h26 := s32 _ _ h26
    replace h27 := s32 _ _ h27
    replace h28 := s32 _ _ h28
    replace h29 := s32 _ _ h29
    replace h30 := s32 _ _ h30
    replace h31 := s32 _ _ h31
    replace SS := Same.trans SS s32
    refine ⟨_, rfl, by show 1 ≤ sizeLine; decide, fun l33 H33 hl33 s33 h33 => ?_⟩
    replace hrow := s33 _ _ hrow
    replace e1 := e1.same s33
    replace e2 := e2.same s33
    replace e3 := e3.same s33
    replace e4 := e4.same s33
    replace e5 := e5.same s33
    replace e6 := e6.same s33
    replace h7 := s33 _ _ h7
    replace h8 := s33 _ _ h8
    replace e9 := e9.same s33
    replace hb9 := s33 _ _ hb9
    replace e10 := e10.same s33
    replace hb10 := s33 _ _ hb10
    replace e11 := e11.same s33
    replace e12 := e12.same s33
    replace e13 := e13.same s33
    replace e14 := e14.same s33
    replace h15 := s33 _ _ h15
    replace h16 := s33 _ _ h16
    replace h17 := s33 _ _ h17
    replace e18 := e18.same s33
    replace e19 := e19.same s33
    replace e20 := e20.same s33
    replace e21 := e21.same s33
    replace h22 := s33 _ _ h22
    replace h23 := s33 _ _ h23
    replace h24 := s33 _ _ h24
    replace h25 := s33 _ _ h25
    replace h26 := s33 _ _ h26
    replace h27 := s33 _ _ h27
    replace h28 := s33 _ _ h28
    replace h29 := s33 _ _ h29
    replace h30 := s33 _ _ h30
    replace h31 := s33 _ _ h31
    replace h32 := s33 _ _ h32
    replace SS := Same.trans SS s33
    refine ⟨l33, 2, _, rfl, rfl, h33, by decide, by decide, by show 2 ≤ sizeLine; decide, fun l34 H34 hl34 s34 h34 => ?_⟩
    replace hrow := s34 _ _ hrow
    replace e1 := e1.same s34
    replace e2 := e2.same s34
    replace e3 := e3.same s34
    replace e4 := e4.same s34
    replace e5 := e5.same s34
    replace e6 := e6.same s34
    replace h7 := s34 _ _ h7
    replace h8 := s34 _ _ h8
    replace e9 := e9.same s34
    replace hb9 := s34 _ _ hb9
    replace e10 := e10.same s34
    replace hb10 := s34 _ _ hb10
    replace e11 := e11.same s34
    replace e12 := e12.same s34
    replace e13 := e13.same s34
    replace e14 := e14.same s34
    replace h15 := s34 _ _ h15
    replace h16 := s34 _ _ h16
    replace h17 := s34 _ _ h17
    replace e18 := e18.same s34
    replace e19 := e19.same s34
    replace e20 := e20.same s34
    replace e21 := e21.same s34
    replace h22 := s34 _ _ h22
    replace h23 := s34 _ _ h23
    replace h24 := s34 _ _ h24
    replace h25 := s34 _ _ h25
    replace h26 := s34 _ _ h26
    replace h27 := s34 _ _ h27
    replace h28 := s34 _ _ h28
    replace h29 := s34 _ _ h29
    replace h30 := s34 _ _ h30
    replace h31 := s34 _ _ h31
    replace h32 := s34 _ _ h32
    replace h33 := s34 _ _ h33
    replace SS := Same.trans SS s34
    refine ⟨l32, l34, _, _, rfl, rfl, h32, h34, by show 8 ≤ sizeLine; decide, fun l35 H35 hl35 s35 h35 => ?_⟩
    replace hrow := s35 _ _ hrow
    replace e1 := e1.same s35
    replace e2 := e2.same s35
    replace e3 := e3.same s35
    replace e4 := e4.same s35
    replace e5 := e5.same s35
    replace e6 := e6.same s35
    replace h7 := s35 _ _ h7
    replace h8 := s35 _ _ h8
    replace e9 := e9.same s35
    replace hb9 := s35 _ _ hb9
    replace e10 := e10.same s35
    replace hb10 := s35 _ _ hb10
    replace e11 := e11.same s35
    replace e12 := e12.same s35
    replace e13 := e13.same s35
    replace e14 := e14.same s35
    replace h15 := s35 _ _ h15
    replace h16 := s35 _ _ h16
    replace h17 := s35 _ _ h17
    replace e18 := e18.same s35
    replace e19 := e19.same s35
    replace e20 := e20.same s35
    replace e21 := e21.same s35
    replace h22 := s35 _ _ h22
    replace h23 := s35 _ _ h23
    replace h24 := s35 _ _ h24
    replace h25 := s35 _ _ h25
    replace h26 := s35 _ _ h26
    replace h27 := s35 _ _ h27
    replace h28 := s35 _ _ h28
    replace h29 := s35 _ _ h29
    replace h30 := s35 _ _ h30
    replace h31 := s35 _ _ h31
    replace h32 := s35 _ _ h32
    replace h33 := s35 _ _ h33
    replace h34 := s35 _ _ h34
    replace SS := Same.trans SS s35
    refine ⟨_, rfl, ?_⟩
    refine ⟨_, rfl, l7, l15, _, _, rfl, rfl, h7, h15, by show 12 ≤ sizeLine; decide, fun l36 H36 hl36 s36 h36 => ?_⟩
    replace hrow := s36 _ _ hrow
    replace e1 := e1.same s36
    replace e2 := e2.same s36
    replace e3 := e3.same s36
    replace e4 := e4.same s36
    replace e5 := e5.same s36
    replace e6 := e6.same s36
    replace h7 := s36 _ _ h7
    replace h8 := s36 _ _ h8
    replace e9 := e9.same s36
    replace hb9 := s36 _ _ hb9
    replace e10 := e10.same s36
    replace hb10 := s36 _ _ hb10
    replace e11 := e11.same s36
    replace e12 := e12.same s36
    replace e13 := e13.same s36
    replace e14 := e14.same s36
    replace h15 := s36 _ _ h15
    replace h16 := s36 _ _ h16
    replace h17 := s36 _ _ h17
    replace e18 := e18.same s36
    replace e19 := e19.same s36
    replace e20 := e20.same s36
    replace e21 := e21.same s36
    replace h22 := s36 _ _ h22
    replace h23 := s36 _ _ h23
    replace h24 := s36 _ _ h24
    replace h25 := s36 _ _ h25
    replace h26 := s36 _ _ h26
    replace h27 := s36 _ _ h27
    replace h28 := s36 _ _ h28
    replace h29 := s36 _ _ h29
    replace h30 := s36 _ _ h30
    replace h31 := s36 _ _ h31
    replace h32 := s36 _ _ h32
    replace h33 := s36 _ _ h33
    replace h34 := s36 _ _ h34
    replace h35 := s36 _ _ h35
    replace SS := Same.trans SS s36
    refine ⟨_, rfl, l36, l22, _, _, rfl, rfl, h36, h22, by show 16 ≤ sizeLine; decide, fun l37 H37 hl37 s37 h37 => ?_⟩
    replace hrow := s37 _ _ hrow
    replace e1 := e1.same s37
    replace e2 := e2.same s37
    replace e3 := e3.same s37
    replace e4 := e4.same s37
    replace e5 := e5.same s37
    replace e6 := e6.same s37
    replace h7 := s37 _ _ h7
    replace h8 := s37 _ _ h8
    replace e9 := e9.same s37
    replace hb9 := s37 _ _ hb9
    replace e10 := e10.same s37
    replace hb10 := s37 _ _ hb10
    replace e11 := e11.same s37
    replace e12 := e12.same s37
    replace e13 := e13.same s37
    replace e14 := e14.same s37
    replace h15 := s37 _ _ h15
    replace h16 := s37 _ _ h16
    replace h17 := s37 _ _ h17
    replace e18 := e18.same s37
    replace e19 := e19.same s37
    replace e20 := e20.same s37
    replace e21 := e21.same s37
    replace h22 := s37 _ _ h22
    replace h23 := s37 _ _ h23
    replace h24 := s37 _ _ h24
    replace h25 := s37 _ _ h25
    replace h26 := s37 _ _ h26
    replace h27 := s37 _ _ h27
    replace h28 := s37 _ _ h28
    replace h29 := s37 _ _ h29
    replace h30 := s37 _ _ h30
    replace h31 := s37 _ _ h31
    replace h32 := s37 _ _ h32
    replace h33 := s37 _ _ h33
    replace h34 := s37 _ _ h34
    replace h35 := s37 _ _ h35
    replace h36 := s37 _ _ h36
    replace SS := Same.trans SS s37
    refine ⟨_, rfl, ?_⟩
    refine ⟨_, rfl, ?_⟩
    refine ⟨_, rfl, by show 1 ≤ sizeLine; decide, fun l38 H38 hl38 s38 h38 => ?_⟩
    replace hrow := s38 _ _ hrow
    replace e1 := e1.same s38
    replace e2 := e2.same s38
    replace e3 := e3.same s38
    replace e4 := e4.same s38
    replace e5 := e5.same s38
    replace e6 := e6.same s38
    replace h7 := s38 _ _ h7
    replace h8 := s38 _ _ h8
    replace e9 := e9.same s38
    replace hb9 := s38 _ _ hb9
    replace e10 := e10.same s38
    replace hb10 := s38 _ _ hb10
    replace e11 := e11.same s38
    replace e12 := e12.same s38
    replace e13 := e13.same s38
    replace e14 := e14.same s38
    replace h15 := s38 _ _ h15
    replace h16 := s38 _ _ h16
    replace h17 := s38 _ _ h17
    replace e18 := e18.same s38
    replace e19 := e19.same s38
    replace e20 := e20.same s38
    replace e21 := e21.same s38
    replace h22 := s38 _ _ h22
    replace h23 := s38 _ _ h23
    replace h24 := s38 _ _ h24
    replace h25 := s38 _ _ h25
    replace h26 := s38 _ _ h26
    replace h27 := s38 _ _ h27
    replace h28 := s38 _ _ h28
    replace h29 := s38 _ _ h29
    replace h30 := s38 _ _ h30
    replace h31 := s38 _ _ h31
    replace h32 := s38 _ _ h32
    replace h33 := s38 _ _ h33
    replace h34 := s38 _ _ h34
    replace h35 := s38 _ _ h35
    replace h36 := s38 _ _ h36
    replace h37 := s38 _ _ h37
    replace SS := Same.trans SS s38
    refine ⟨l38, 6, _, rfl, rfl, h38, by decide, by decide, by show 6 ≤ sizeLine; decide, fun l39 H39 hl39 s39 h39 => ?_⟩
    replace hrow := s39 _ _ hrow
    replace e1 := e1.same s39
    replace e2 := e2.same s39
    replace e3 := e3.same s39
    replace e4 := e4.same s39
    replace e5 := e5.same s39
    replace e6 := e6.same s39
    replace h7 := s39 _ _ h7
    replace h8 := s39 _ _ h8
    replace e9 := e9.same s39
    replace hb9 := s39 _ _ hb9
    replace e10 := e10.same s39
    replace hb10 := s39 _ _ hb10
    replace e11 := e11.same s39
    replace e12 := e12.same s39
    replace e13 := e13.same s39
    replace e14 := e14.same s39
    replace h15 := s39 _ _ h15
    replace h16 := s39 _ _ h16
    replace h17 := s39 _ _ h17
    replace e18 := e18.same s39
    replace e19 := e19.same s39
    replace e20 := e20.same s39
    replace e21 := e21.same s39
    replace h22 := s39 _ _ h22
    replace h23 := s39 _ _ h23
    replace h24 := s39 _ _ h24
    replace h25 := s39 _ _ h25
    replace h26 := s39 _ _ h26
    replace h27 := s39 _ _ h27
    replace h28 := s39 _ _ h28
    replace h29 := s39 _ _ h29
    replace h30 := s39 _ _ h30
    replace h31 := s39 _ _ h31
    replace h32 := s39 _ _ h32
    replace h33 := s39 _ _ h33
    replace h34 := s39 _ _ h34
    replace h35 := s39 _ _ h35
    replace h36 := s39 _ _ h36
    replace h37 := s39 _ _ h37
    replace h38 := s39 _ _ h38
    replace SS := Same.trans SS s39
    refine ⟨l35, l39, _, _, rfl, rfl, h35, h39, by show 14 ≤ sizeLine; decide, fun l40 H40 hl40 s40 h40 => ?_⟩
    replace hrow := s40 _ _ hrow
    replace e1 := e1.same s40
    replace e2 := e2.same s40
    replace e3 := e3.same s40
    replace e4 := e4.same s40
    replace e5 := e5.same s40
    replace e6 := e6.same s40
    replace h7 := s40 _ _ h7
    replace h8 := s40 _ _ h8
    replace e9 := e9.same s40
    replace hb9 := s40 _ _ hb9
    replace e10 := e10.same s40
    replace hb10 := s40 _ _ hb10
    replace e11 := e11.same s40
    replace e12 := e12.same s40
    replace e13 := e13.same s40
    replace e14 := e14.same s40
    replace h15 := s40 _ _ h15
    replace h16 := s40 _ _ h16
    replace h17 := s40 _ _ h17
    replace e18 := e18.same s40
    replace e19 := e19.same s40
    replace e20 := e20.same s40
    replace e21 := e21.same s40
    replace h22 := s40 _ _ h22
    replace h23 := s40 _ _ h23
    replace h24 := s40 _ _ h24
    replace h25 := s40 _ _ h25
    replace h26 := s40 _ _ h26
    replace h27 := s40 _ _ h27
    replace h28 := s40 _ _ h28
    replace h29 := s40 _ _ h29
    replace h30 := s40 _ _ h30
    replace h31 := s40 _ _ h31
    replace h32 := s40 _ _ h32
    replace h33 := s40 _ _ h33
    replace h34 := s40 _ _ h34
    replace h35 := s40 _ _ h35
    replace h36 := s40 _ _ h36
    replace h37 := s40 _ _ h37
    replace h38 := s40 _ _ h38
    replace h39 := s40 _ _ h39
    replace SS := Same.trans SS s40
    refine ⟨_, rfl, by show 1 ≤ sizeLine; decide, fun l41 H41 hl41 s41 h41 => ?_⟩
    replace hrow := s41 _ _ hrow
    replace e1 := e1.same s41
    replace e2 := e2.same s41
    replace e3 := e3.same s41
    replace e4 := e4.same s41
    replace e5 := e5.same s41
    replace e6 := e6.same s41
    replace h7 := s41 _ _ h7
    replace h8 := s41 _ _ h8
    replace e9 := e9.same s41
    replace hb9 := s41 _ _ hb9
    replace e10 := e10.same s41
    replace hb10 := s41 _ _ hb10
    replace e11 := e11.same s41
    replace e12 := e12.same s41
    replace e13 := e13.same s41
    replace e14 := e14.same s41
    replace h15 := s41 _ _ h15
    replace h16 := s41 _ _ h16
    replace h17 := s41 _ _ h17
    replace e18 := e18.same s41
    replace e19 := e19.same s41
    replace e20 := e20.same s41
    replace e21 := e21.same s41
    replace h22 := s41 _ _ h22
    replace h23 := s41 _ _ h23
    replace h24 := s41 _ _ h24
    replace h25 := s41 _ _ h25
    replace h26 := s41 _ _ h26
    replace h27 := s41 _ _ h27
    replace h28 := s41 _ _ h28
    replace h29 := s41 _ _ h29
    replace h30 := s41 _ _ h30
    replace h31 := s41 _ _ h31
    replace h32 := s41 _ _ h32
    replace h33 := s41 _ _ h33
    replace h34 := s41 _ _ h34
    replace h35 := s41 _ _ h35
    replace h36 := s41 _ _ h36
    replace h37 := s41 _ _ h37
    replace h38 := s41 _ _ h38
    replace h39 := s41 _ _ h39
    replace h40 := s41 _ _ h40
    replace SS := Same.trans SS s41
    refine ⟨l41, 2, _, rfl, rfl, h41, by decide, by decide, by show 2 ≤ sizeLine; decide, fun l42 H42 hl42 s42 h42 => ?_⟩
    replace hrow := s42 _ _ hrow
    replace e1 := e1.same s42
    replace e2 := e2.same s42
    replace e3 := e3.same s42
    replace e4 := e4.same s42
    replace e5 := e5.same s42
    replace e6 := e6.same s42
    replace h7 := s42 _ _ h7
    replace h8 := s42 _ _ h8
    replace e9 := e9.same s42
    replace hb9 := s42 _ _ hb9
    replace e10 := e10.same s42
    replace hb10 := s42 _ _ hb10
    replace e11 := e11.same s42
    replace e12 := e12.same s42
    replace e13 := e13.same s42
    replace e14 := e14.same s42
    replace h15 := s42 _ _ h15
    replace h16 := s42 _ _ h16
    replace h17 := s42 _ _ h17
    replace e18 := e18.same s42
    replace e19 := e19.same s42
    replace e20 := e20.same s42
    replace e21 := e21.same s42
    replace h22 := s42 _ _ h22
    replace h23 := s42 _ _ h23
    replace h24 := s42 _ _ h24
    replace h25 := s42 _ _ h25
    replace h26 := s42 _ _ h26
    replace h27 := s42 _ _ h27
    replace h28 := s42 _ _ h28
    replace h29 := s42 _ _ h29
    replace h30 := s42 _ _ h30
    replace h31 := s42 _ _ h31
    replace h32 := s42 _ _ h32
    replace h33 := s42 _ _ h33
    replace h34 := s42 _ _ h34
    replace h35 := s42 _ _ h35
    replace h36 := s42 _ _ h36
    replace h37 := s42 _ _ h37
    replace h38 := s42 _ _ h38
    replace h39 := s42 _ _ h39
    replace h40 := s42 _ _ h40
    replace h41 := s42 _ _ h41
    replace SS := Same.trans SS s42
    refine ⟨l40, l42, _, _, rfl, rfl, h40, h42, by show 16 ≤ sizeLine; decide, fun l43 H43 hl43 s43 h43 => ?_⟩
    replace hrow := s43 _ _ hrow
    replace e1 := e1.same s43
    replace e2 := e2.same s43
    replace e3 := e3.same s43
    replace e4 := e4.same s43
    replace e5 := e5.same s43
    replace e6 := e6.same s43
    replace h7 := s43 _ _ h7
    replace h8 := s43 _ _ h8
    replace e9 := e9.same s43
    replace hb9 := s43 _ _ hb9
    replace e10 := e10.same s43
    replace hb10 := s43 _ _ hb10
    replace e11 := e11.same s43
    replace e12 := e12.same s43
    replace e13 := e13.same s43
    replace e14 := e14.same s43
    replace h15 := s43 _ _ h15
    replace h16 := s43 _ _ h16
    replace h17 := s43 _ _ h17
    replace e18 := e18.same s43
    replace e19 := e19.same s43
    replace e20 := e20.same s43
    replace e21 := e21.same s43
    replace h22 := s43 _ _ h22
    replace h23 := s43 _ _ h23
    replace h24 := s43 _ _ h24
    replace h25 := s43 _ _ h25
    replace h26 := s43 _ _ h26
    replace h27 := s43 _ _ h27
    replace h28 := s43 _ _ h28
    replace h29 := s43 _ _ h29
    replace h30 := s43 _ _ h30
    replace h31 := s43 _ _ h31
    replace h32 := s43 _ _ h32
    replace h33 := s43 _ _ h33
    replace h34 := s43 _ _ h34
    replace h35 := s43 _ _ h35
    replace h36 := s43 _ _ h36
    replace h37 := s43 _ _ h37
    replace h38 := s43 _ _ h38
    replace h39 := s43 _ _ h39
    replace h40 := s43 _ _ h40
    replace h41 := s43 _ _ h41
    replace h42 := s43 _ _ h42
    replace SS := Same.trans SS s43
    refine ⟨by show 3 ≤ sizeLine; decide, fun l44 H44 hl44 s44 h44 => ?_⟩
    replace hrow := s44 _ _ hrow
    replace e1 := e1.same s44
    replace e2 := e2.same s44
    replace e3 := e3.same s44
    replace e4 := e4.same s44
    replace e5 := e5.same s44
    replace e6 := e6.same s44
    replace h7 := s44 _ _ h7
    replace h8 := s44 _ _ h8
    replace e9 := e9.same s44
    replace hb9 := s44 _ _ hb9
    replace e10 := e10.same s44
    replace hb10 := s44 _ _ hb10
    replace e11 := e11.same s44
    replace e12 := e12.same s44
    replace e13 := e13.same s44
    replace e14 := e14.same s44
    replace h15 := s44 _ _ h15
    replace h16 := s44 _ _ h16
    replace h17 := s44 _ _ h17
    replace e18 := e18.same s44
    replace e19 := e19.same s44
    replace e20 := e20.same s44
    replace e21 := e21.same s44
    replace h22 := s44 _ _ h22
    replace h23 := s44 _ _ h23
    replace h24 := s44 _ _ h24
    replace h25 := s44 _ _ h25
    replace h26 := s44 _ _ h26
    replace h27 := s44 _ _ h27
    replace h28 := s44 _ _ h28
    replace h29 := s44 _ _ h29
    replace h30 := s44 _ _ h30
    replace h31 := s44 _ _ h31
    replace h32 := s44 _ _ h32
    replace h33 := s44 _ _ h33
    replace h34 := s44 _ _ h34
    replace h35 := s44 _ _ h35
    replace h36 := s44 _ _ h36
    replace h37 := s44 _ _ h37
    replace h38 := s44 _ _ h38
    replace h39 := s44 _ _ h39
    replace h40 := s44 _ _ h40
    replace h41 := s44 _ _ h41
    replace h42 := s44 _ _ h42
    replace h43 := s44 _ _ h43
    replace SS := Same.trans SS s44
    exact k l44 _ ⟨l37, l24, l43, _, _, _, h44, h37, h24, h43, (.cons ⟨p1, rfl, e1.at_⟩ (.cons ⟨p2, rfl, e2.at_⟩ (.cons ⟨p3, rfl, e3.at_⟩ (.cons ⟨p4, rfl, e4.at_⟩ (.cons ⟨p5, rfl, e5.at_⟩ (.cons ⟨p6, rfl, e6.at_⟩ (.cons ⟨p9, rfl, e9.at_⟩ (.cons ⟨p10, rfl, e10.at_⟩ (.cons ⟨p11, rfl, e11.at_⟩ (.cons ⟨p12, rfl, e12.at_⟩ (.cons ⟨p13, rfl, e13.at_⟩ (.cons ⟨p14, rfl, e14.at_⟩ (.cons ⟨p18, rfl, e18.at_⟩ (.cons ⟨p19, rfl, e19.at_⟩ (.cons ⟨p20, rfl, e20.at_⟩ (.cons ⟨p21, rfl, e21.at_⟩ .nil)))))))))))))))), by show 16 ≤ 100; decide, (.cons eqv_int (.cons eqv_int (.cons eqv_str (.cons eqv_str (.cons eqv_int (.cons eqv_int (.cons (eqv_tup hb9 hrow hf hxl) (.cons (eqv_tup hb10 hrow hf hxl) (.cons eqv_int (.cons eqv_int (.cons eqv_int (.cons eqv_int (.cons eqv_int (.cons eqv_int (.cons eqv_str (.cons eqv_str .nil)))))))))))))))), SS⟩
end
end Own
/-! A comprehension over a list, item by item; _law_under. -/
namespace Own
open PySem PySem.Spec PyProof.Rows L2
theorem paired_snoc {α β : Type} {R : α → β → Prop} : ∀ {xs : List α} {ys : List β} {x : α} {y : β}, Paired R xs ys → R x y → Paired R (xs ++ [x]) (ys ++ [y])
  | _, _, _, _, .nil, h => .cons h .nil
  | _, _, _, _, .cons r t, h => .cons r (paired_snoc t h)
theorem lc_each {K : PySem.W.Frag} {β : Type} {a D : Addr} {xs : List V} {qs : List β} {k : Nat} {te : TE} {vs : List Nat} {σ : L2.St} {H1 : Hp} {Qd : Hp → Prop} (R : Hp → V → β → Prop) (hR : ∀ {H H' : Hp} {y : V} {q : β}, SameBut D H H' → R H y q → R H' y q)
    (hD : H1 D = none) (ha : H1 a = some (.lst xs)) (hz : xs.length ≤ 1000) (hq : xs.length = qs.length) (hw : ∀ x : V, wipe ((wipe σ vs).set k (some x)) vs = wipe σ vs)
    (step : ∀ (i : Nat) (x : V) (q : β) (H2 : Hp) (C : V → Hp → Prop), xs[i]? = some x → qs[i]? = some q → Same H1 H2 → (∃ ys, H2 D = some (.lst ys)) → (∀ y H5, Same H2 H5 → R H5 y q → C y H5) → te ((wipe σ vs).set k (some x)) H2 C)
    (done : ∀ ys H2, H2 D = some (.lst ys) → Same H1 H2 → Paired (R H2) ys qs → Qd H2) :
    ∃ W : Nat → Nat → Hp → Prop, (∃ m, W 0 m (L2.upd H1 D (.lst []))) ∧ ∀ i m H, W i m H →
      ((Itl K a).stop i H ∧ Qd H) ∨ ((Itl K a).go i H ∧ ∃ Nx : Hp → Prop, (∀ H', Nx H' → ∃ m', m' < m ∧ W (i + 1) m' H') ∧ ∀ x H', (Itl K a).yld i H x H' → gName k x (wipe σ vs) H' fun σ2 H2 => wipe σ2 vs = wipe σ vs ∧ tYes σ2 H2 fun b H3 =>
        if b = true then te σ2 H3 fun y H4 => ∃ acc, H4 D = some (.lst acc) ∧ acc.length < sizeLine ∧ Nx (L2.upd H4 D (.lst (acc ++ [y]))) else Nx H3) := by
  refine lc_list (K := K) (a := a) (xs := xs) (fun i H => ∃ ys : List V, H D = some (.lst ys) ∧ Same H1 H ∧ i ≤ xs.length ∧ Paired (R H) ys (qs.take i)) ?_ ?_ ?_ ?_
  · exact ⟨[], upd_same, Same.upd (Same.refl _) hD, Nat.zero_le _, by rw [List.take_zero]; exact .nil⟩
  · rintro i H hi ⟨ys, _, s, _⟩
    exact SqL.of (s _ _ ha)
  · rintro i x H hx ⟨ys, hy, s, hi, hp⟩
    have hlt : i < xs.length := (List.getElem?_eq_some_iff.mp hx).1
    have hlq : i < qs.length := by omega
    have eq : qs[i]? = some qs[i] := List.getElem?_eq_getElem hlq
    have hlen : ys.length = i := by
      rw [hp.length, List.length_take]
      omega
    refine ⟨hw x, ?_⟩
    show te ((wipe σ vs).set k (some x)) H _
    refine step i x qs[i] H _ hx eq s ⟨_, hy⟩ fun y H5 s5 r => ?_
    have s6 : Same H1 (L2.upd H5 D (.lst (ys ++ [y]))) := Same.put (Same.trans s s5) hD
    have s7 : ∀ z q, R H5 z q → R (L2.upd H5 D (.lst (ys ++ [y]))) z q := fun z q h => hR (fun b o e n => by
      rw [upd_ne n]
      exact e) h
    refine ⟨ys, s5 _ _ hy, small1000 (by omega), ys ++ [y], upd_same, s6, hlt, ?_⟩
    rw [List.take_succ_eq_append_getElem hlq]
    exact paired_snoc (paired_mono (fun _ _ h => s7 _ _ (hR (SameBut.of s5) h)) hp) (s7 _ _ r)
  · rintro H ⟨ys, hy, s, _, hp⟩
    rw [hq, List.take_length] at hp
    exact done ys H hy s hp
/-! ### _law_under -/
def cod : Bs → Nat
  | .L => 0
  | .V => 1
  | .R => 2
def spUnder (K : PySem.W.Frag) : Sp := fun vs H Q _ => ∃ (p : Addr) (i : Nat), vs = [.ref p, .int ((cod (cB i) : Nat) : Int)] ∧ i < 22 ∧ ExcAt H p (cA K i) ∧ ∀ H', Same H H' → Q (.bl true) H'
theorem scUnder : FnScope ["_law_error", "_law_sort_so", "_law_told_so", "_law_k"] ["_law_error", "_law_sort_so"] (defScope sUnder) := ⟨rfl, rfl, rfl, by decide +kernel, rfl, by decide +kernel, by decide +kernel⟩
theorem dpAll_bl {K : PySem.W.Frag} {H : Hp} : ∀ bs : List Bool, DpAll K H (bs.map V.bl) (bs.map PyData.bool)
  | [] => .nil
  | b :: bs => .cons (.bl b) (dpAll_bl bs)
theorem dpAll_int {K : PySem.W.Frag} {H : Hp} : ∀ bs : List Int, DpAll K H (bs.map V.int) (bs.map PyData.int)
  | [] => .nil
  | b :: bs => .cons (.int b) (dpAll_int bs)
section
variable {P : Program} {w : World} {K : PySem.W.Frag} {mg : Str → Option Value} {base : Heap}
theorem ok_under {f : Addr} {fd : FuncData} (F : FnP K "_law_under" sUnder f fd) (M : MgT mg) (mRange : mg "range" = none) (mK : mg "KeyError" = none) (mI : mg "IndexError" = none) (mNI : mg "NotImplementedError" = none) (E : EF K mg) : FnOk P w K mg base CX0 1 f fd ["_law_error", "_law_sort_so"] (spUnder K) := by
  refine F.ok scUnder (fun vs H Q E h => ?_) (fun cdv A outer s H vs Q _ hr h => ?_)
  · obtain ⟨p, i, rfl, _⟩ := h
    rfl
  · obtain ⟨p, i, rfl, hi, hE, k⟩ := h
    have hu := hr.units
    refine ⟨_, PSs.nox (pss_cons (ps_set (i := 2) scUnder.nd rfl (.inl rfl) (pe_lstF (pa_cons (pe_callB call_xis (by rfl) M.isi (by decide +kernel) (pa_cons (pv 0) (pa_cons (pe_bltn (v := .ty "LookupError") (by rfl) E.mL (by decide +kernel) rfl) pa_nil))) (pa_cons (pe_callB call_xis (by rfl) M.isi (by decide +kernel) (pa_cons (pv 0) (pa_cons (pe_bltn (v := .ty "ValueError") (by rfl) E.mV (by decide +kernel) rfl) pa_nil))) (pa_cons (pe_callB call_xis (by rfl) M.isi (by decide +kernel) (pa_cons (pv 0) (pa_cons (pe_bltn (v := .ty "RuntimeError") (by rfl) E.mR (by decide +kernel) rfl) pa_nil))) pa_nil)))))
      (pss_cons (ps_if (pt_val (pe_callB call_xisT (by rfl) M.isi (by decide +kernel) (pa_cons (pv 0) (pa_cons (pe_tupF (pa_cons (pe_bltn (v := .ty "KeyError") (by rfl) mK (by decide +kernel) rfl) (pa_cons (pe_bltn (v := .ty "IndexError") (by rfl) mI (by decide +kernel) rfl) (pa_cons (pe_bltn (v := .ty "NotImplementedError") (by rfl) mNI (by decide +kernel) rfl) pa_nil)))) pa_nil)))) (pss_one ps_never) pss_nil)
      (pss_one (ps_ret (pe_cmpR (op_eqD hu) (pv 2) (pe_lc (own := [("_law_k", 3)]) (g := gName 3) (tt := tYes) rfl scUnder.nd (pi_range1 rfl mRange (pa_cons pe_int pa_nil)) (blkOk_by (own := [("_law_k", 3)]) (N := ["_law_error", "_law_sort_so", "_law_told_so", "_law_k"]) (sc := defScope sUnder) (by decide +kernel))
        (fun _ _ _ _ _ => pg_name (i := 3) scUnder.nd rfl (Or.inl rfl)) (fun _ _ _ _ _ => pts_nil) (fun _ _ _ _ _ => pe_cmpR op_eq (pv 3) (pv 1) (nomark _))) (nomark _)))))), ?_⟩
    refine ⟨_, rfl, p, _, _, _, _, rfl, .ty _, hE, (E.xc i hi).ex, E.kitL i hi, ?_⟩
    refine ⟨_, rfl, p, _, _, _, _, rfl, .ty _, hE, (E.xc i hi).ex, E.kitV i hi, ?_⟩
    refine ⟨_, rfl, p, _, _, _, _, rfl, .ty _, hE, (E.xc i hi).ex, E.kitR i hi, by show 3 ≤ sizeLine; decide, fun l H1 hl s1 h1 => ?_⟩
    refine ⟨_, rfl, by show 3 ≤ sizeLine; decide, fun t H2 ht s2 h2 => ?_⟩
    refine ⟨p, _, t, _, _, false, rfl, h2, .cons (.ty _) (.cons (.ty _) (.cons (.ty _) .nil)), (hE.same s1).same s2, (E.xc i hi).ex, E.kitN i hi, _, rfl, iteF ?_⟩
    refine ⟨_, rfl, 3, rfl, by decide, by decide, fun D hD => ?_⟩
    refine lc_range (lo := 0) (n := (3 : Int).toNat) (fun j H3 => H3 D = some (.lst (((List.range j).map fun (j : Nat) => decide ((j : Int) = ((cod (cB i) : Nat) : Int))).map V.bl)) ∧ j ≤ 3 ∧ Same H2 H3) ?_ ?_ ?_
    · exact ⟨upd_same, by decide, Same.upd (Same.refl _) hD⟩
    · rintro j H3 hj ⟨h3, _, s3⟩
      have hj' : j < 3 := hj
      refine ⟨rfl, ?_⟩
      refine ⟨_, rfl, _, rfl, rfl, ?_⟩
      refine ⟨_, h3, by rw [List.length_map, List.length_map, List.length_range]; exact small1000 (by omega), ?_, hj', Same.put s3 hD⟩
      rw [upd_same, List.range_succ, List.map_append, List.map_append]
      congr 4
      show V.bl (decide (V.int (0 + (j : Int)) = V.int ((cod (cB i) : Nat) : Int))) = V.bl (decide ((j : Int) = ((cod (cB i) : Nat) : Int)))
      congr 1
      rw [Bool.eq_iff_iff, decide_eq_true_iff, decide_eq_true_iff, Int.zero_add]
      exact ⟨fun e => V.int.inj e, fun e => by rw [e]⟩
    · rintro H3 ⟨h3, _, s3⟩
      have h1' : H3 l = some (.lst ([decide (cB i = .L), decide (cB i = .V), decide (cB i = .R)].map V.bl)) := s3 _ _ (s2 _ _ h1)
      refine ⟨_, _, .lst (SqL.of h1') (dpAll_bl _), .lst (SqL.of h3) (dpAll_bl _), ?_, ?_, ?_⟩
      · cases cB i <;> decide
      · cases cB i <;> decide
      · have e : PyData.eqv (.list ([decide (cB i = .L), decide (cB i = .V), decide (cB i = .R)].map PyData.bool)) (.list (((List.range (3 : Int).toNat).map fun (j : Nat) => decide ((j : Int) = ((cod (cB i) : Nat) : Int))).map PyData.bool)) = true := by
          cases cB i <;> decide
        rw [e]
        exact k _ (Same.trans (Same.trans s1 s2) s3)
end
end Own
namespace Own
open PySem PySem.Spec PyProof.Rows L2
theorem two_of {R : V → List V → Prop} {ys : List V} {q0 q1 : List V} (h : Paired R ys [q0, q1]) : ∃ y0 y1, ys = [y0, y1] ∧ R y0 q0 ∧ R y1 q1 := by
  cases h with
  | cons r t =>
    cases t with
    | cons r2 t2 =>
      cases t2
      exact ⟨_, _, rfl, r, r2⟩
theorem all_true {β : Type} : ∀ {ys : List V} {qs : List β}, Paired (fun y (_ : β) => y = V.bl true) ys qs → ys = (List.replicate qs.length true).map V.bl
  | _, _, .nil => rfl
  | _, _, .cons r t => by
    rw [r, all_true t]
    rfl
theorem all_int : ∀ {ys : List V} {qs : List Nat}, Paired (fun y (q : Nat) => y = V.int ((q : Nat) : Int)) ys qs → ys = (qs.map fun q => ((q : Nat) : Int)).map V.int
  | _, _, .nil => rfl
  | _, _, .cons r t => by
    rw [r, all_int t]
    rfl
def marksB (i : Nat) : List Bool := (List.range 22).map fun j => decide (i = j)
theorem marks_eq (i : Nat) : marks i = (marksB i).map V.bl := rfl
theorem marks_flat (i : Nat) : (marks i).all flatV = true := rfl
theorem marks_get (i m : Nat) (h : m < 22) : (marks i)[m]? = some (V.bl (decide (i = m))) := by
  rw [marks_eq]
  unfold marksB
  rw [List.getElem?_map, List.getElem?_map, List.getElem?_range h]
  rfl
theorem marks_no {i m : Nat} (hi : i < 22) (hm : m < i) {z : V} (hz : (marks i)[m]? = some z) : eqV z (V.bl true) = false := by
  rw [marks_get i m (by omega)] at hz
  cases hz
  rw [decide_eq_false (by omega)]
  rfl
theorem scPairs : FnScope ["_law_far", "_law_wide", "_law_row_so", "_law_more_so", "_law_two", "_law_told_so", "_law_swapped", "_law_untrue", "_law_due", "_law_none", "_law_spots", "_law_own"] ["_law_far", "_law_wide", "_law_row_so", "_law_more_so"] (defScope sPairs) := ⟨rfl, rfl, rfl, by decide +kernel, rfl, by decide +kernel, by decide +kernel⟩
def spPairs : Sp := fun vs H Q _ => ∃ (far wide : Int) (row more : Addr) (xs ys : List V), vs = [.int far, .int wide, .ref row, .ref more] ∧ H row = some (.tup xs) ∧ H more = some (.tup ys) ∧ (∀ x ∈ xs, Fl x) ∧ (∀ x ∈ ys, Fl x) ∧ xs.length ≤ 100 ∧ ys.length ≤ 100 ∧ ∀ H', Same H H' → Q (.bl true) H'
/-- the names that the law's defs leave to the built-ins, further -/
structure MgU (mg : Str → Option Value) : Prop where
  range : mg "range" = none
  key : mg "KeyError" = none
  ix : mg "IndexError" = none
  ni : mg "NotImplementedError" = none
section
variable {P : Program} {w : World} {K : PySem.W.Frag} {mg : Str → Option Value} {base : Heap}
theorem ok_pairs {f fT fS fN fU fM : Addr} {fd fdT fdS fdN fdU fdM : FuncData} (F : FnP K "_law_pairs_right" sPairs f fd) (FT : FnP K "tupled" sTupled fT fdT) (FS : FnP K "_law_same" sSame fS fdS) (FN : FnP K "_law_is_number" sIsNum fN fdN) (FU : FnP K "_law_under" sUnder fU fdU) (FM : FnP K "_law_marks" sMarks fM fdM)
    (M : MgT mg) (U : MgU mg) (mT : mg "tupled" = some (.ref fT)) (mS : mg "_law_same" = some (.ref fS)) (mN : mg "_law_is_number" = some (.ref fN)) (mU : mg "_law_under" = some (.ref fU)) (mM : mg "_law_marks" = some (.ref fM)) (E : EF K mg) (I : FI K) : FnOk P w K mg base CX0 6 f fd ["_law_far", "_law_wide", "_law_row_so", "_law_more_so"] spPairs := by
  obtain ⟨fd5, F5⟩ := I.f5
  have G5 := ok_i5 (P := P) (w := w) (base := base) F5 E
  have b5 : KBn K fd5 ["self"] (0 + 1) [] (fun us _ => us) (fun vs _ => vs) := FunD.kb F5 (0 + 1) [] (fun us _ => us) (fun r _ => r) (fun _ _ _ _ _ _ us ws l1 l2 => match us, ws, l1, l2 with | [_], [], _, _ => rfl)
  obtain ⟨fd8, F8⟩ := I.f8
  have G8 := ok_i8 (P := P) (w := w) (base := base) F8 FT M mT E
  have b8 : KBn K fd8 ["self", "one", "other"] (2 + 1) [] (fun us _ => us) (fun vs _ => vs) := FunD.kb F8 (2 + 1) [] (fun us _ => us) (fun r _ => r) (fun _ _ _ _ _ _ us ws l1 l2 => match us, ws, l1, l2 with | [_, _, _], [], _, _ => rfl)
  have kb8 : KBn K fd8 ["self", "one", "other"] 1 ["other", "one"] (fun us ws => us ++ ws.reverse) (fun vs zs => vs ++ zs.reverse) := FunD.kb F8 1 ["other", "one"] (fun us ws => us ++ ws.reverse) (fun r z => r.append z.reverse) (fun _ _ _ _ _ _ us ws l1 l2 => match us, ws, l1, l2 with | [_], [_, _], _, _ => rfl)
  obtain ⟨fd13, F13⟩ := I.f13
  have G13 := ok_i13 (P := P) (w := w) (base := base) F13 E
  have b13 : KBn K fd13 ["self"] (0 + 1) [] (fun us _ => us) (fun vs _ => vs) := FunD.kb F13 (0 + 1) [] (fun us _ => us) (fun r _ => r) (fun _ _ _ _ _ _ us ws l1 l2 => match us, ws, l1, l2 with | [_], [], _, _ => rfl)
  obtain ⟨fd14, F14⟩ := I.f14
  have G14 := ok_i14 (P := P) (w := w) (base := base) F14 E
  have b14 : KBn K fd14 ["self"] (0 + 1) [] (fun us _ => us) (fun vs _ => vs) := FunD.kb F14 (0 + 1) [] (fun us _ => us) (fun r _ => r) (fun _ _ _ _ _ _ us ws l1 l2 => match us, ws, l1, l2 with | [_], [], _, _ => rfl)
  obtain ⟨fd16, F16⟩ := I.f16
  have G16 := ok_i16 (P := P) (w := w) (base := base) F16 E
  have b16 : KBn K fd16 ["self"] (0 + 1) [] (fun us _ => us) (fun vs _ => vs) := FunD.kb F16 (0 + 1) [] (fun us _ => us) (fun r _ => r) (fun _ _ _ _ _ _ us ws l1 l2 => match us, ws, l1, l2 with | [_], [], _, _ => rfl)
  obtain ⟨fd17, F17⟩ := I.f17
  have G17 := ok_i17 (P := P) (w := w) (base := base) F17 E
  have b17 : KBn K fd17 ["self"] (0 + 1) [] (fun us _ => us) (fun vs _ => vs) := FunD.kb F17 (0 + 1) [] (fun us _ => us) (fun r _ => r) (fun _ _ _ _ _ _ us ws l1 l2 => match us, ws, l1, l2 with | [_], [], _, _ => rfl)
  obtain ⟨fd18, F18⟩ := I.f18
  have G18 := ok_i18 (P := P) (w := w) (base := base) F18 E
  have b18 : KBn K fd18 ["self", "first", "second"] (2 + 1) [] (fun us _ => us) (fun vs _ => vs) := FunD.kb F18 (2 + 1) [] (fun us _ => us) (fun r _ => r) (fun _ _ _ _ _ _ us ws l1 l2 => match us, ws, l1, l2 with | [_, _, _], [], _, _ => rfl)
  have kb18 : KBn K fd18 ["self", "first", "second"] 1 ["second", "first"] (fun us ws => us ++ ws.reverse) (fun vs zs => vs ++ zs.reverse) := FunD.kb F18 1 ["second", "first"] (fun us ws => us ++ ws.reverse) (fun r z => r.append z.reverse) (fun _ _ _ _ _ _ us ws l1 l2 => match us, ws, l1, l2 with | [_], [_, _], _, _ => rfl)
  obtain ⟨fd19, F19⟩ := I.f19
  have G19 := ok_i19 (P := P) (w := w) (base := base) F19 E
  have b19 : KBn K fd19 ["self"] (0 + 1) [] (fun us _ => us) (fun vs _ => vs) := FunD.kb F19 (0 + 1) [] (fun us _ => us) (fun r _ => r) (fun _ _ _ _ _ _ us ws l1 l2 => match us, ws, l1, l2 with | [_], [], _, _ => rfl)
  obtain ⟨fd21, F21⟩ := I.f21
  have G21 := ok_i21 (P := P) (w := w) (base := base) F21 E
  have b21 : KBn K fd21 ["self", "place", "word"] (2 + 1) [] (fun us _ => us) (fun vs _ => vs) := FunD.kb F21 (2 + 1) [] (fun us _ => us) (fun r _ => r) (fun _ _ _ _ _ _ us ws l1 l2 => match us, ws, l1, l2 with | [_, _, _], [], _, _ => rfl)
  have kb21 : KBn K fd21 ["self", "place", "word"] 1 ["word", "place"] (fun us ws => us ++ ws.reverse) (fun vs zs => vs ++ zs.reverse) := FunD.kb F21 1 ["word", "place"] (fun us ws => us ++ ws.reverse) (fun r z => r.append z.reverse) (fun _ _ _ _ _ _ us ws l1 l2 => match us, ws, l1, l2 with | [_], [_, _], _, _ => rfl)
  have GS := ok_same (P := P) (w := w) (base := base) FS FN M mS mN 3
  have bS : Binds K fdS ["_law_got", "_law_due"] [] := FS.bindsN fun _ _ _ _ _ _ us hl => match us, hl with | [_, _], _ => rfl
  have GU := ok_under (P := P) (w := w) (base := base) FU M U.range U.key U.ix U.ni E
  have bU : Binds K fdU ["_law_error", "_law_sort_so"] [] := FU.bindsN fun _ _ _ _ _ _ us hl => match us, hl with | [_, _], _ => rfl
  have GM := ok_marks (P := P) (w := w) (base := base) FM M E
  have bM : Binds K fdM ["_law_error"] [] := FM.bindsN fun _ _ _ _ _ _ us hl => match us, hl with | [_], _ => rfl
  refine F.ok scPairs (fun vs H Q _ h => ?_) (fun cdv A outer s H vs Q _ hr h => ?_)
  · obtain ⟨far, wide, row, more, xs, ys, rfl, _⟩ := h
    rfl
  · obtain ⟨far, wide, row, more, xs, ys, rfl, hrow, hmore, hf, hf2, hxl, hyl, k⟩ := h
    have hu := hr.units
    have hr1 : Room 1 _ := hr.mono (by decide)
    refine ⟨_, PSs.nox (pss_cons (ps_set (i := 4) scPairs.nd rfl (.inl rfl) (pe_lstF (pa_cons (pe_xmk (E.xc 8 (by decide)) (E.ini 8 (by decide)) (E.fn 8 (by decide)) G8 (hr.mono (by decide)) b8 (by decide) (by rfl) (E.gl 8 (by decide)) (pa_cons (pv 2) (pa_cons (pv 3) pa_nil))) (pa_cons (pe_xmkK (E.xc 8 (by decide)) (E.ini 8 (by decide)) (E.fn 8 (by decide)) G8 (hr.mono (by decide)) kb8 (by rfl) (E.gl 8 (by decide)) (pk_cons (pv 3) (pk_cons (pv 2) pk_nil))) pa_nil))))
      (pss_cons (ps_setLc (i := 5) (te := tLstF (tCons (tXf K .V "one" (tVar 11)) (tCons (tXf K .V "other" (tVar 11)) tNil))) (own := [("_law_own", 11)]) (g := gName 11) (tt := tYes) rfl scPairs.nd rfl rfl (sw_true rfl rfl rfl (by decide +kernel)) (pi_list (pv 4)) (blkOk_by (own := [("_law_own", 11)]) (N := ["_law_far", "_law_wide", "_law_row_so", "_law_more_so", "_law_two", "_law_told_so", "_law_swapped", "_law_untrue", "_law_due", "_law_none", "_law_spots", "_law_own"]) (sc := defScope sPairs) (by decide +kernel)) (fun _ _ _ _ _ => pg_name (i := 11) scPairs.nd rfl (Or.inl rfl)) (fun _ _ _ _ _ => pts_nil) (fun _ _ _ _ _ => (pe_lstF (pa_cons (pe_xat (b := .V) (pv 11)) (pa_cons (pe_xat (b := .V) (pv 11)) pa_nil)))))
      (pss_cons (ps_set (i := 6) scPairs.nd rfl (.inl rfl) (pe_lstF (pa_cons (pe_xmk (E.xc 18 (by decide)) (E.ini 18 (by decide)) (E.fn 18 (by decide)) G18 (hr.mono (by decide)) b18 (by decide) (by rfl) (E.gl 18 (by decide)) (pa_cons (pv 0) (pa_cons (pv 1) pa_nil))) (pa_cons (pe_xmkK (E.xc 18 (by decide)) (E.ini 18 (by decide)) (E.fn 18 (by decide)) G18 (hr.mono (by decide)) kb18 (by rfl) (E.gl 18 (by decide)) (pk_cons (pv 1) (pk_cons (pv 0) pk_nil))) pa_nil))))
      (pss_cons (ps_set (i := 5) scPairs.nd rfl (.inl rfl) (pe_op op_catF (pv 5) (pe_lc (te := tLstF (tCons (tXf K .V "first" (tVar 11)) (tCons (tXf K .V "second" (tVar 11)) tNil))) (own := [("_law_own", 11)]) (g := gName 11) (tt := tYes) rfl scPairs.nd (pi_list (pv 6)) (blkOk_by (own := [("_law_own", 11)]) (N := ["_law_far", "_law_wide", "_law_row_so", "_law_more_so", "_law_two", "_law_told_so", "_law_swapped", "_law_untrue", "_law_due", "_law_none", "_law_spots", "_law_own"]) (sc := defScope sPairs) (by decide +kernel)) (fun _ _ _ _ _ => pg_name (i := 11) scPairs.nd rfl (Or.inl rfl)) (fun _ _ _ _ _ => pts_nil) (fun _ _ _ _ _ => (pe_lstF (pa_cons (pe_xat (b := .V) (pv 11)) (pa_cons (pe_xat (b := .V) (pv 11)) pa_nil)))))))
      (pss_cons (ps_set (i := 7) scPairs.nd rfl (.inl rfl) (pe_lstF (pa_cons (pe_xmk (E.xc 21 (by decide)) (E.ini 21 (by decide)) (E.fn 21 (by decide)) G21 (hr.mono (by decide)) b21 (by decide) (by rfl) (E.gl 21 (by decide)) (pa_cons (pv 0) (pa_cons pe_str pa_nil))) (pa_cons (pe_xmkK (E.xc 21 (by decide)) (E.ini 21 (by decide)) (E.fn 21 (by decide)) G21 (hr.mono (by decide)) kb21 (by rfl) (E.gl 21 (by decide)) (pk_cons pe_str (pk_cons (pv 0) pk_nil))) pa_nil))))
      (pss_cons (ps_set (i := 5) scPairs.nd rfl (.inl rfl) (pe_op op_catF (pv 5) (pe_lc (te := tLstF (tCons (tXf K .R "place" (tVar 11)) (tCons (tXf K .R "word" (tVar 11)) tNil))) (own := [("_law_own", 11)]) (g := gName 11) (tt := tYes) rfl scPairs.nd (pi_list (pv 7)) (blkOk_by (own := [("_law_own", 11)]) (N := ["_law_far", "_law_wide", "_law_row_so", "_law_more_so", "_law_two", "_law_told_so", "_law_swapped", "_law_untrue", "_law_due", "_law_none", "_law_spots", "_law_own"]) (sc := defScope sPairs) (by decide +kernel)) (fun _ _ _ _ _ => pg_name (i := 11) scPairs.nd rfl (Or.inl rfl)) (fun _ _ _ _ _ => pts_nil) (fun _ _ _ _ _ => (pe_lstF (pa_cons (pe_xat (b := .R) (pv 11)) (pa_cons (pe_xat (b := .R) (pv 11)) pa_nil)))))))
      (pss_cons (ps_set (i := 8) scPairs.nd rfl (.inl rfl) (pe_op op_catF (pe_op op_catF (pe_op op_repF (pe_lstF (pa_cons (pe_lstF (pa_cons (pv 2) (pa_cons (pv 3) pa_nil))) pa_nil)) pe_int) (pe_op op_repF (pe_lstF (pa_cons (pe_lstF (pa_cons (pv 0) (pa_cons (pv 1) pa_nil))) pa_nil)) pe_int)) (pe_op op_repF (pe_lstF (pa_cons (pe_lstF (pa_cons (pv 0) (pa_cons pe_str pa_nil))) pa_nil)) pe_int)))
      (pss_cons (ps_if (PW.pt (pw_or (pt_not (pt_val (pe_call GS hr rfl mS FS.kp bS .nil pass0 (pa_cons (pv 5) (pa_cons (pv 8) pa_nil))))) (pw_or1 (pt_not (pt_val (pe_callB (cr_all rfl) (by rfl) M.all (by decide +kernel) (pa_cons (pe_lc  (own := [("_law_own", 11)]) (g := gName 11) (tt := tYes) rfl scPairs.nd (pi_list (pv 7)) (blkOk_by (own := [("_law_own", 11)]) (N := ["_law_far", "_law_wide", "_law_row_so", "_law_more_so", "_law_two", "_law_told_so", "_law_swapped", "_law_untrue", "_law_due", "_law_none", "_law_spots", "_law_own"]) (sc := defScope sPairs) (by decide +kernel)) (fun _ _ _ _ _ => pg_name (i := 11) scPairs.nd rfl (Or.inl rfl)) (fun _ _ _ _ _ => pts_nil) (fun _ _ _ _ _ => (pe_call GU hr1 rfl mU FU.kp bU .nil pass0 (pa_cons (pv 11) (pa_cons pe_int pa_nil))))) pa_nil))))))) (pss_one ps_never) pss_nil)
      (pss_cons (ps_set (i := 9) scPairs.nd rfl (.inl rfl) (pe_lstF (pa_cons (pe_xmk0 (E.xc 5 (by decide)) (E.ini 5 (by decide)) (E.fn 5 (by decide)) G5 (hr.mono (by decide)) b5 (by rfl) (E.gl 5 (by decide))) (pa_cons (pe_xmk0 (E.xc 13 (by decide)) (E.ini 13 (by decide)) (E.fn 13 (by decide)) G13 (hr.mono (by decide)) b13 (by rfl) (E.gl 13 (by decide))) (pa_cons (pe_xmk0 (E.xc 14 (by decide)) (E.ini 14 (by decide)) (E.fn 14 (by decide)) G14 (hr.mono (by decide)) b14 (by rfl) (E.gl 14 (by decide))) (pa_cons (pe_xmk0 (E.xc 16 (by decide)) (E.ini 16 (by decide)) (E.fn 16 (by decide)) G16 (hr.mono (by decide)) b16 (by rfl) (E.gl 16 (by decide))) (pa_cons (pe_xmk0 (E.xc 17 (by decide)) (E.ini 17 (by decide)) (E.fn 17 (by decide)) G17 (hr.mono (by decide)) b17 (by rfl) (E.gl 17 (by decide))) (pa_cons (pe_xmk0 (E.xc 19 (by decide)) (E.ini 19 (by decide)) (E.fn 19 (by decide)) G19 (hr.mono (by decide)) b19 (by rfl) (E.gl 19 (by decide))) pa_nil))))))))
      (pss_cons (ps_if (pt_not (pt_val (pe_callB (cr_all rfl) (by rfl) M.all (by decide +kernel) (pa_cons (pe_lc  (own := [("_law_own", 11)]) (g := gName 11) (tt := tYes) rfl scPairs.nd (pi_list (pe_op op_catF (pe_op op_catF (pv 4) (pv 6)) (pv 9))) (blkOk_by (own := [("_law_own", 11)]) (N := ["_law_far", "_law_wide", "_law_row_so", "_law_more_so", "_law_two", "_law_told_so", "_law_swapped", "_law_untrue", "_law_due", "_law_none", "_law_spots", "_law_own"]) (sc := defScope sPairs) (by decide +kernel)) (fun _ _ _ _ _ => pg_name (i := 11) scPairs.nd rfl (Or.inl rfl)) (fun _ _ _ _ _ => pts_nil) (fun _ _ _ _ _ => (pe_call GU hr1 rfl mU FU.kp bU .nil pass0 (pa_cons (pv 11) (pa_cons pe_int pa_nil))))) pa_nil)))) (pss_one ps_never) pss_nil)
      (pss_cons (ps_setLc (i := 10) (te := tBM K "list" (rIndex K) (tCall (spMarks K) [] E0 (tCons (tVar 11) tNil)) (tCons (tC (.bl true)) tNil)) (own := [("_law_own", 11)]) (g := gName 11) (tt := tYes) rfl scPairs.nd rfl rfl (sw_true rfl rfl rfl (by decide +kernel)) (pi_list (pe_op op_catF (pe_lstF (pa_cons (pe_ix ix_list (pv 4) pe_int (fun _ _ => rfl)) (pa_cons (pe_ix ix_list (pv 6) pe_int (fun _ _ => rfl)) (pa_cons (pe_ix ix_list (pv 7) pe_int (fun _ _ => rfl)) pa_nil)))) (pv 9))) (blkOk_by (own := [("_law_own", 11)]) (N := ["_law_far", "_law_wide", "_law_row_so", "_law_more_so", "_law_two", "_law_told_so", "_law_swapped", "_law_untrue", "_law_due", "_law_none", "_law_spots", "_law_own"]) (sc := defScope sPairs) (by decide +kernel)) (fun _ _ _ _ _ => pg_name (i := 11) scPairs.nd rfl (Or.inl rfl)) (fun _ _ _ _ _ => pts_nil) (fun _ _ _ _ _ => (pe_bm PySem.F.plainAttrs_list PySem.F.slot_list_index PySem.F.type_list_index mt_index (by exact pe_call GM hr1 rfl mM FM.kp bM .nil pass0 (pa_cons (pv 11) pa_nil)) (pa_cons pe_bl pa_nil))))
      (pss_one (ps_ret (pe_cmpR (op_eqD hu) (pv 10) (pe_lstF (pa_cons pe_int (pa_cons pe_int (pa_cons pe_int (pa_cons pe_int (pa_cons pe_int (pa_cons pe_int (pa_cons pe_int (pa_cons pe_int (pa_cons pe_int pa_nil)))))))))) (nomark _))))))))))))))), ?_⟩
    have SS : Same H H := Same.refl H
    refine ⟨_, rfl, _, rfl, rfl, rfl, fun p1 hp1 => ⟨p1, row, more, xs, ys, rfl, upd_same, (by rw [upd_ne (ne_of_none hrow hp1)]; exact hrow), (by rw [upd_ne (ne_of_none hmore hp1)]; exact hmore), hf, hf2, hxl, hyl, fun b1 c1 H1 hb1 hc1 e1 s1 => ⟨rfl, ?_⟩⟩⟩
    replace s1 := mkSame hp1 s1
    replace hrow := s1 _ _ hrow
    replace hmore := s1 _ _ hmore
    replace SS := Same.trans SS s1
    refine ⟨_, rfl, _, rfl, rfl, rfl, fun p2 hp2 => ⟨p2, row, more, xs, ys, rfl, upd_same, (by rw [upd_ne (ne_of_none hrow hp2)]; exact hrow), (by rw [upd_ne (ne_of_none hmore hp2)]; exact hmore), hf, hf2, hxl, hyl, fun b2 c2 H2 hb2 hc2 e2 s2 => ⟨rfl, ?_⟩⟩⟩
    replace s2 := mkSame hp2 s2
    replace hrow := s2 _ _ hrow
    replace hmore := s2 _ _ hmore
    replace e1 := e1.same s2
    replace hb1 := s2 _ _ hb1
    replace hc1 := s2 _ _ hc1
    replace SS := Same.trans SS s2
    refine ⟨by show 2 ≤ sizeLine; decide, fun l3 H3 hl3 s3 h3 => ?_⟩
    replace hrow := s3 _ _ hrow
    replace hmore := s3 _ _ hmore
    replace e1 := e1.same s3
    replace hb1 := s3 _ _ hb1
    replace hc1 := s3 _ _ hc1
    replace e2 := e2.same s3
    replace hb2 := s3 _ _ hb2
    replace hc2 := s3 _ _ hc2
    replace SS := Same.trans SS s3
    obtain ⟨d1, ea1, eb1⟩ := id e1
    obtain ⟨d2, ea2, eb2⟩ := id e2
    refine ⟨_, rfl, l3, rfl, ⟨_, SqL.of h3⟩, fun l4 hD4 => ?_⟩
    refine lc_each (K := K) (a := l3) (xs := [.ref p1, .ref p2]) (qs := [[.ref b1, .ref c1], [.ref b2, .ref c2]]) (k := 11) (fun H y q => ∃ a, y = V.ref a ∧ a ≠ l4 ∧ H a = some (.lst q)) ?_ hD4 h3 (by show 2 ≤ 1000; decide) rfl (fun _ => rfl) ?_ ?_
    · rintro H' H'' y q s ⟨a, rfl, ne, ha⟩
      exact ⟨a, rfl, ne, s _ _ ha ne⟩
    · rintro i x q Hx C hx hq sx ⟨zs, hzs⟩ kC
      rcases i with _ | _ | i
      · cases hx
        cases hq
        exact ⟨_, rfl, p1, _, d1, _, _, rfl, E.xc 8 (by decide), E.no 8 (by decide) _ (by decide), sx _ _ ea1, sx _ _ eb1, rfl, _, rfl, p1, _, d1, _, _, rfl, E.xc 8 (by decide), E.no 8 (by decide) _ (by decide), sx _ _ ea1, sx _ _ eb1, rfl, by show 2 ≤ sizeLine; decide, fun a H5 ha s5 h5 => kC _ H5 s5 ⟨a, rfl, (fun e => by rw [e, hzs] at ha; cases ha), h5⟩⟩
      · cases hx
        cases hq
        exact ⟨_, rfl, p2, _, d2, _, _, rfl, E.xc 8 (by decide), E.no 8 (by decide) _ (by decide), sx _ _ ea2, sx _ _ eb2, rfl, _, rfl, p2, _, d2, _, _, rfl, E.xc 8 (by decide), E.no 8 (by decide) _ (by decide), sx _ _ ea2, sx _ _ eb2, rfl, by show 2 ≤ sizeLine; decide, fun a H5 ha s5 h5 => kC _ H5 s5 ⟨a, rfl, (fun e => by rw [e, hzs] at ha; cases ha), h5⟩⟩
      · cases hx
    rintro ys4 H4 h4 s4 pp4
    obtain ⟨_, _, rfl, ⟨a4, rfl, _, ha4⟩, ⟨c4, rfl, _, hc4⟩⟩ := two_of pp4
    replace hrow := s4 _ _ hrow
    replace hmore := s4 _ _ hmore
    replace e1 := e1.same s4
    replace hb1 := s4 _ _ hb1
    replace hc1 := s4 _ _ hc1
    replace e2 := e2.same s4
    replace hb2 := s4 _ _ hb2
    replace hc2 := s4 _ _ hc2
    replace h3 := s4 _ _ h3
    replace SS := Same.trans SS s4
    refine ⟨_, rfl, _, rfl, rfl, rfl, fun p5 hp5 => ⟨p5, _, _, rfl, upd_same, fun H5 e5 s5 => ⟨rfl, ?_⟩⟩⟩
    replace s5 := mkSame hp5 s5
    replace hrow := s5 _ _ hrow
    replace hmore := s5 _ _ hmore
    replace e1 := e1.same s5
    replace hb1 := s5 _ _ hb1
    replace hc1 := s5 _ _ hc1
    replace e2 := e2.same s5
    replace hb2 := s5 _ _ hb2
    replace hc2 := s5 _ _ hc2
    replace h3 := s5 _ _ h3
    replace h4 := s5 _ _ h4
    replace ha4 := s5 _ _ ha4
    replace hc4 := s5 _ _ hc4
    replace SS := Same.trans SS s5
    refine ⟨_, rfl, _, rfl, rfl, rfl, fun p6 hp6 => ⟨p6, _, _, rfl, upd_same, fun H6 e6 s6 => ⟨rfl, ?_⟩⟩⟩
    replace s6 := mkSame hp6 s6
    replace hrow := s6 _ _ hrow
    replace hmore := s6 _ _ hmore
    replace e1 := e1.same s6
    replace hb1 := s6 _ _ hb1
    replace hc1 := s6 _ _ hc1
    replace e2 := e2.same s6
    replace hb2 := s6 _ _ hb2
    replace hc2 := s6 _ _ hc2
    replace h3 := s6 _ _ h3
    replace h4 := s6 _ _ h4
    replace ha4 := s6 _ _ ha4
    replace hc4 := s6 _ _ hc4
    replace e5 := e5.same s6
    replace SS := Same.trans SS s6
    refine ⟨by show 2 ≤ sizeLine; decide, fun l7 H7 hl7 s7 h7 => ?_⟩
    replace hrow := s7 _ _ hrow
    replace hmore := s7 _ _ hmore
    replace e1 := e1.same s7
    replace hb1 := s7 _ _ hb1
    replace hc1 := s7 _ _ hc1
    replace e2 := e2.same s7
    replace hb2 := s7 _ _ hb2
    replace hc2 := s7 _ _ hc2
    replace h3 := s7 _ _ h3
    replace h4 := s7 _ _ h4
    replace ha4 := s7 _ _ ha4
    replace hc4 := s7 _ _ hc4
    replace e5 := e5.same s7
    replace e6 := e6.same s7
    replace SS := Same.trans SS s7
    obtain ⟨d5, ea5, eb5⟩ := id e5
    obtain ⟨d6, ea6, eb6⟩ := id e6
    refine ⟨_, rfl, _, rfl, l7, rfl, ⟨_, SqL.of h7⟩, fun l8 hD8 => ?_⟩
    refine lc_each (K := K) (a := l7) (xs := [.ref p5, .ref p6]) (qs := [[.int far, .int wide], [.int far, .int wide]]) (k := 11) (fun H y q => ∃ a, y = V.ref a ∧ a ≠ l8 ∧ H a = some (.lst q)) ?_ hD8 h7 (by show 2 ≤ 1000; decide) rfl (fun _ => rfl) ?_ ?_
    · rintro H' H'' y q s ⟨a, rfl, ne, ha⟩
      exact ⟨a, rfl, ne, s _ _ ha ne⟩
    · rintro i x q Hx C hx hq sx ⟨zs, hzs⟩ kC
      rcases i with _ | _ | i
      · cases hx
        cases hq
        exact ⟨_, rfl, p5, _, d5, _, _, rfl, E.xc 18 (by decide), E.no 18 (by decide) _ (by decide), sx _ _ ea5, sx _ _ eb5, rfl, _, rfl, p5, _, d5, _, _, rfl, E.xc 18 (by decide), E.no 18 (by decide) _ (by decide), sx _ _ ea5, sx _ _ eb5, rfl, by show 2 ≤ sizeLine; decide, fun a H5 ha s5 h5 => kC _ H5 s5 ⟨a, rfl, (fun e => by rw [e, hzs] at ha; cases ha), h5⟩⟩
      · cases hx
        cases hq
        exact ⟨_, rfl, p6, _, d6, _, _, rfl, E.xc 18 (by decide), E.no 18 (by decide) _ (by decide), sx _ _ ea6, sx _ _ eb6, rfl, _, rfl, p6, _, d6, _, _, rfl, E.xc 18 (by decide), E.no 18 (by decide) _ (by decide), sx _ _ ea6, sx _ _ eb6, rfl, by show 2 ≤ sizeLine; decide, fun a H5 ha s5 h5 => kC _ H5 s5 ⟨a, rfl, (fun e => by rw [e, hzs] at ha; cases ha), h5⟩⟩
      · cases hx
    rintro ys8 H8 h8 s8 pp8
    obtain ⟨_, _, rfl, ⟨a8, rfl, _, ha8⟩, ⟨c8, rfl, _, hc8⟩⟩ := two_of pp8
    replace hrow := s8 _ _ hrow
    replace hmore := s8 _ _ hmore
    replace e1 := e1.same s8
    replace hb1 := s8 _ _ hb1
    replace hc1 := s8 _ _ hc1
    replace e2 := e2.same s8
    replace hb2 := s8 _ _ hb2
    replace hc2 := s8 _ _ hc2
    replace h3 := s8 _ _ h3
    replace h4 := s8 _ _ h4
    replace ha4 := s8 _ _ ha4
    replace hc4 := s8 _ _ hc4
    replace e5 := e5.same s8
    replace e6 := e6.same s8
    replace h7 := s8 _ _ h7
    replace SS := Same.trans SS s8
    refine ⟨l4, l8, _, _, rfl, rfl, h4, h8, by show 4 ≤ sizeLine; decide, fun l9 H9 hl9 s9 h9 => ?_⟩
    replace hrow := s9 _ _ hrow
    replace hmore := s9 _ _ hmore
    replace e1 := e1.same s9
    replace hb1 := s9 _ _ hb1
    replace hc1 := s9 _ _ hc1
    replace e2 := e2.same s9
    replace hb2 := s9 _ _ hb2
    replace hc2 := s9 _ _ hc2
    replace h3 := s9 _ _ h3
    replace h4 := s9 _ _ h4
    replace ha4 := s9 _ _ ha4
    replace hc4 := s9 _ _ hc4
    replace e5 := e5.same s9
    replace e6 := e6.same s9
    replace h7 := s9 _ _ h7
    replace h8 := s9 _ _ h8
    replace ha8 := s9 _ _ ha8
    replace hc8 := s9 _ _ hc8
    replace SS := Same.trans SS s9
    refine ⟨_, rfl, rfl, rfl, fun p10 hp10 => ⟨p10, _, _, rfl, upd_same, fun H10 e10 s10 => ⟨rfl, ?_⟩⟩⟩
    replace s10 := mkSame hp10 s10
    replace hrow := s10 _ _ hrow
    replace hmore := s10 _ _ hmore
    replace e1 := e1.same s10
    replace hb1 := s10 _ _ hb1
    replace hc1 := s10 _ _ hc1
    replace e2 := e2.same s10
    replace hb2 := s10 _ _ hb2
    replace hc2 := s10 _ _ hc2
    replace h3 := s10 _ _ h3
    replace h4 := s10 _ _ h4
    replace ha4 := s10 _ _ ha4
    replace hc4 := s10 _ _ hc4
    replace e5 := e5.same s10
    replace e6 := e6.same s10
    replace h7 := s10 _ _ h7
    replace h8 := s10 _ _ h8
    replace ha8 := s10 _ _ ha8
    replace hc8 := s10 _ _ hc8
    replace h9 := s10 _ _ h9
    replace SS := Same.trans SS s10
    refine ⟨_, rfl, rfl, rfl, fun p11 hp11 => ⟨p11, _, _, rfl, upd_same, fun H11 e11 s11 => ⟨rfl, ?_⟩⟩⟩
    replace s11 := mkSame hp11 s11
    replace hrow := s11 _ _ hrow
    replace hmore := s11 _ _ hmore
    replace e1 := e1.same s11
    replace hb1 := s11 _ _ hb1
    replace hc1 := s11 _ _ hc1
    replace e2 := e2.same s11
    replace hb2 := s11 _ _ hb2
    replace hc2 := s11 _ _ hc2
    replace h3 := s11 _ _ h3
    replace h4 := s11 _ _ h4
    replace ha4 := s11 _ _ ha4
    replace hc4 := s11 _ _ hc4
    replace e5 := e5.same s11
    replace e6 := e6.same s11
    replace h7 := s11 _ _ h7
    replace h8 := s11 _ _ h8
    replace ha8 := s11 _ _ ha8
    replace hc8 := s11 _ _ hc8
    replace h9 := s11 _ _ h9
    replace e10 := e10.same s11
    replace SS := Same.trans SS s11
    refine ⟨by show 2 ≤ sizeLine; decide, fun l12 H12 hl12 s12 h12 => ?_⟩
    replace hrow := s12 _ _ hrow
    replace hmore := s12 _ _ hmore
    replace e1 := e1.same s12
    replace hb1 := s12 _ _ hb1
    replace hc1 := s12 _ _ hc1
    replace e2 := e2.same s12
    replace hb2 := s12 _ _ hb2
    replace hc2 := s12 _ _ hc2
    replace h3 := s12 _ _ h3
    replace h4 := s12 _ _ h4
    replace ha4 := s12 _ _ ha4
    replace hc4 := s12 _ _ hc4
    replace e5 := e5.same s12
    replace e6 := e6.same s12
    replace h7 := s12 _ _ h7
    replace h8 := s12 _ _ h8
    replace ha8 := s12 _ _ ha8
    replace hc8 := s12 _ _ hc8
    replace h9 := s12 _ _ h9
    replace e10 := e10.same s12
    replace e11 := e11.same s12
    replace SS := Same.trans SS s12
    obtain ⟨d10, ea10, eb10⟩ := id e10
    obtain ⟨d11, ea11, eb11⟩ := id e11
    refine ⟨_, rfl, _, rfl, l12, rfl, ⟨_, SqL.of h12⟩, fun l13 hD13 => ?_⟩
    refine lc_each (K := K) (a := l12) (xs := [.ref p10, .ref p11]) (qs := [[.int far, .str "word"], [.int far, .str "word"]]) (k := 11) (fun H y q => ∃ a, y = V.ref a ∧ a ≠ l13 ∧ H a = some (.lst q)) ?_ hD13 h12 (by show 2 ≤ 1000; decide) rfl (fun _ => rfl) ?_ ?_
    · rintro H' H'' y q s ⟨a, rfl, ne, ha⟩
      exact ⟨a, rfl, ne, s _ _ ha ne⟩
    · rintro i x q Hx C hx hq sx ⟨zs, hzs⟩ kC
      rcases i with _ | _ | i
      · cases hx
        cases hq
        exact ⟨_, rfl, p10, _, d10, _, _, rfl, E.xc 21 (by decide), E.no 21 (by decide) _ (by decide), sx _ _ ea10, sx _ _ eb10, rfl, _, rfl, p10, _, d10, _, _, rfl, E.xc 21 (by decide), E.no 21 (by decide) _ (by decide), sx _ _ ea10, sx _ _ eb10, rfl, by show 2 ≤ sizeLine; decide, fun a H5 ha s5 h5 => kC _ H5 s5 ⟨a, rfl, (fun e => by rw [e, hzs] at ha; cases ha), h5⟩⟩
      · cases hx
        cases hq
        exact ⟨_, rfl, p11, _, d11, _, _, rfl, E.xc 21 (by decide), E.no 21 (by decide) _ (by decide), sx _ _ ea11, sx _ _ eb11, rfl, _, rfl, p11, _, d11, _, _, rfl, E.xc 21 (by decide), E.no 21 (by decide) _ (by decide), sx _ _ ea11, sx _ _ eb11, rfl, by show 2 ≤ sizeLine; decide, fun a H5 ha s5 h5 => kC _ H5 s5 ⟨a, rfl, (fun e => by rw [e, hzs] at ha; cases ha), h5⟩⟩
      · cases hx
    rintro ys13 H13 h13 s13 pp13
    obtain ⟨_, _, rfl, ⟨a13, rfl, _, ha13⟩, ⟨c13, rfl, _, hc13⟩⟩ := two_of pp13
    replace hrow := s13 _ _ hrow
    replace hmore := s13 _ _ hmore
    replace e1 := e1.same s13
    replace hb1 := s13 _ _ hb1
    replace hc1 := s13 _ _ hc1
    replace e2 := e2.same s13
    replace hb2 := s13 _ _ hb2
    replace hc2 := s13 _ _ hc2
    replace h3 := s13 _ _ h3
    replace h4 := s13 _ _ h4
    replace ha4 := s13 _ _ ha4
    replace hc4 := s13 _ _ hc4
    replace e5 := e5.same s13
    replace e6 := e6.same s13
    replace h7 := s13 _ _ h7
    replace h8 := s13 _ _ h8
    replace ha8 := s13 _ _ ha8
    replace hc8 := s13 _ _ hc8
    replace h9 := s13 _ _ h9
    replace e10 := e10.same s13
    replace e11 := e11.same s13
    replace h12 := s13 _ _ h12
    replace SS := Same.trans SS s13
    refine ⟨l9, l13, _, _, rfl, rfl, h9, h13, by show 6 ≤ sizeLine; decide, fun l14 H14 hl14 s14 h14 => ?_⟩
    replace hrow := s14 _ _ hrow
    replace hmore := s14 _ _ hmore
    replace e1 := e1.same s14
    replace hb1 := s14 _ _ hb1
    replace hc1 := s14 _ _ hc1
    replace e2 := e2.same s14
    replace hb2 := s14 _ _ hb2
    replace hc2 := s14 _ _ hc2
    replace h3 := s14 _ _ h3
    replace h4 := s14 _ _ h4
    replace ha4 := s14 _ _ ha4
    replace hc4 := s14 _ _ hc4
    replace e5 := e5.same s14
    replace e6 := e6.same s14
    replace h7 := s14 _ _ h7
    replace h8 := s14 _ _ h8
    replace ha8 := s14 _ _ ha8
    replace hc8 := s14 _ _ hc8
    replace h9 := s14 _ _ h9
    replace e10 := e10.same s14
    replace e11 := e11.same s14
    replace h12 := s14 _ _ h12
    replace h13 := s14 _ _ h13
    replace ha13 := s14 _ _ ha13
    replace hc13 := s14 _ _ hc13
    replace SS := Same.trans SS s14
    refine ⟨_, rfl, _, rfl, by show 2 ≤ sizeLine; decide, fun l15 H15 hl15 s15 h15 => ?_⟩
    replace hrow := s15 _ _ hrow
    replace hmore := s15 _ _ hmore
    replace e1 := e1.same s15
    replace hb1 := s15 _ _ hb1
    replace hc1 := s15 _ _ hc1
    replace e2 := e2.same s15
    replace hb2 := s15 _ _ hb2
    replace hc2 := s15 _ _ hc2
    replace h3 := s15 _ _ h3
    replace h4 := s15 _ _ h4
    replace ha4 := s15 _ _ ha4
    replace hc4 := s15 _ _ hc4
    replace e5 := e5.same s15
    replace e6 := e6.same s15
    replace h7 := s15 _ _ h7
    replace h8 := s15 _ _ h8
    replace ha8 := s15 _ _ ha8
    replace hc8 := s15 _ _ hc8
    replace h9 := s15 _ _ h9
    replace e10 := e10.same s15
    replace e11 := e11.same s15
    replace h12 := s15 _ _ h12
    replace h13 := s15 _ _ h13
    replace ha13 := s15 _ _ ha13
    replace hc13 := s15 _ _ hc13
    replace h14 := s15 _ _ h14
    replace SS := Same.trans SS s15
    refine ⟨by show 1 ≤ sizeLine; decide, fun l16 H16 hl16 s16 h16 => ?_⟩
    replace hrow := s16 _ _ hrow
    replace hmore := s16 _ _ hmore
    replace e1 := e1.same s16
    replace hb1 := s16 _ _ hb1
    replace hc1 := s16 _ _ hc1
    replace e2 := e2.same s16
    replace hb2 := s16 _ _ hb2
    replace hc2 := s16 _ _ hc2
    replace h3 := s16 _ _ h3
    replace h4 := s16 _ _ h4
    replace ha4 := s16 _ _ ha4
    replace hc4 := s16 _ _ hc4
    replace e5 := e5.same s16
    replace e6 := e6.same s16
    replace h7 := s16 _ _ h7
    replace h8 := s16 _ _ h8
    replace ha8 := s16 _ _ ha8
    replace hc8 := s16 _ _ hc8
    replace h9 := s16 _ _ h9
    replace e10 := e10.same s16
    replace e11 := e11.same s16
    replace h12 := s16 _ _ h12
    replace h13 := s16 _ _ h13
    replace ha13 := s16 _ _ ha13
    replace hc13 := s16 _ _ hc13
    replace h14 := s16 _ _ h14
    replace h15 := s16 _ _ h15
    replace SS := Same.trans SS s16
    refine ⟨l16, 2, _, rfl, rfl, h16, by decide, by decide, by show 2 ≤ sizeLine; decide, fun l17 H17 hl17 s17 h17 => ?_⟩
    replace hrow := s17 _ _ hrow
    replace hmore := s17 _ _ hmore
    replace e1 := e1.same s17
    replace hb1 := s17 _ _ hb1
    replace hc1 := s17 _ _ hc1
    replace e2 := e2.same s17
    replace hb2 := s17 _ _ hb2
    replace hc2 := s17 _ _ hc2
    replace h3 := s17 _ _ h3
    replace h4 := s17 _ _ h4
    replace ha4 := s17 _ _ ha4
    replace hc4 := s17 _ _ hc4
    replace e5 := e5.same s17
    replace e6 := e6.same s17
    replace h7 := s17 _ _ h7
    replace h8 := s17 _ _ h8
    replace ha8 := s17 _ _ ha8
    replace hc8 := s17 _ _ hc8
    replace h9 := s17 _ _ h9
    replace e10 := e10.same s17
    replace e11 := e11.same s17
    replace h12 := s17 _ _ h12
    replace h13 := s17 _ _ h13
    replace ha13 := s17 _ _ ha13
    replace hc13 := s17 _ _ hc13
    replace h14 := s17 _ _ h14
    replace h15 := s17 _ _ h15
    replace h16 := s17 _ _ h16
    replace SS := Same.trans SS s17
    refine ⟨_, rfl, _, rfl, by show 2 ≤ sizeLine; decide, fun l18 H18 hl18 s18 h18 => ?_⟩
    replace hrow := s18 _ _ hrow
    replace hmore := s18 _ _ hmore
    replace e1 := e1.same s18
    replace hb1 := s18 _ _ hb1
    replace hc1 := s18 _ _ hc1
    replace e2 := e2.same s18
    replace hb2 := s18 _ _ hb2
    replace hc2 := s18 _ _ hc2
    replace h3 := s18 _ _ h3
    replace h4 := s18 _ _ h4
    replace ha4 := s18 _ _ ha4
    replace hc4 := s18 _ _ hc4
    replace e5 := e5.same s18
    replace e6 := e6.same s18
    replace h7 := s18 _ _ h7
    replace h8 := s18 _ _ h8
    replace ha8 := s18 _ _ ha8
    replace hc8 := s18 _ _ hc8
    replace h9 := s18 _ _ h9
    replace e10 := e10.same s18
    replace e11 := e11.same s18
    replace h12 := s18 _ _ h12
    replace h13 := s18 _ _ h13
    replace ha13 := s18 _ _ ha13
    replace hc13 := s18 _ _ hc13
    replace h14 := s18 _ _ h14
    replace h15 := s18 _ _ h15
    replace h16 := s18 _ _ h16
    replace h17 := s18 _ _ h17
    replace SS := Same.trans SS s18
    refine ⟨by show 1 ≤ sizeLine; decide, fun l19 H19 hl19 s19 h19 => ?_⟩
    replace hrow := s19 _ _ hrow
    replace hmore := s19 _ _ hmore
    replace e1 := e1.same s19
    replace hb1 := s19 _ _ hb1
    replace hc1 := s19 _ _ hc1
    replace e2 := e2.same s19
    replace hb2 := s19 _ _ hb2
    replace hc2 := s19 _ _ hc2
    replace h3 := s19 _ _ h3
    replace h4 := s19 _ _ h4
    replace ha4 := s19 _ _ ha4
    replace hc4 := s19 _ _ hc4
    replace e5 := e5.same s19
    replace e6 := e6.same s19
    replace h7 := s19 _ _ h7
    replace h8 := s19 _ _ h8
    replace ha8 := s19 _ _ ha8
    replace hc8 := s19 _ _ hc8
    replace h9 := s19 _ _ h9
    replace e10 := e10.same s19
    replace e11 := e11.same s19
    replace h12 := s19 _ _ h12
    replace h13 := s19 _ _ h13
    replace ha13 := s19 _ _ ha13
    replace hc13 := s19 _ _ hc13
    replace h14 := s19 _ _ h14
    replace h15 := s19 _ _ h15
    replace h16 := s19 _ _ h16
    replace h17 := s19 _ _ h17
    replace h18 := s19 _ _ h18
    replace SS := Same.trans SS s19
    refine ⟨l19, 2, _, rfl, rfl, h19, by decide, by decide, by show 2 ≤ sizeLine; decide, fun l20 H20 hl20 s20 h20 => ?_⟩
    replace hrow := s20 _ _ hrow
    replace hmore := s20 _ _ hmore
    replace e1 := e1.same s20
    replace hb1 := s20 _ _ hb1
    replace hc1 := s20 _ _ hc1
    replace e2 := e2.same s20
    replace hb2 := s20 _ _ hb2
    replace hc2 := s20 _ _ hc2
    replace h3 := s20 _ _ h3
    replace h4 := s20 _ _ h4
    replace ha4 := s20 _ _ ha4
    replace hc4 := s20 _ _ hc4
    replace e5 := e5.same s20
    replace e6 := e6.same s20
    replace h7 := s20 _ _ h7
    replace h8 := s20 _ _ h8
    replace ha8 := s20 _ _ ha8
    replace hc8 := s20 _ _ hc8
    replace h9 := s20 _ _ h9
    replace e10 := e10.same s20
    replace e11 := e11.same s20
    replace h12 := s20 _ _ h12
    replace h13 := s20 _ _ h13
    replace ha13 := s20 _ _ ha13
    replace hc13 := s20 _ _ hc13
    replace h14 := s20 _ _ h14
    replace h15 := s20 _ _ h15
    replace h16 := s20 _ _ h16
    replace h17 := s20 _ _ h17
    replace h18 := s20 _ _ h18
    replace h19 := s20 _ _ h19
    replace SS := Same.trans SS s20
    refine ⟨l17, l20, _, _, rfl, rfl, h17, h20, by show 4 ≤ sizeLine; decide, fun l21 H21 hl21 s21 h21 => ?_⟩
    replace hrow := s21 _ _ hrow
    replace hmore := s21 _ _ hmore
    replace e1 := e1.same s21
    replace hb1 := s21 _ _ hb1
    replace hc1 := s21 _ _ hc1
    replace e2 := e2.same s21
    replace hb2 := s21 _ _ hb2
    replace hc2 := s21 _ _ hc2
    replace h3 := s21 _ _ h3
    replace h4 := s21 _ _ h4
    replace ha4 := s21 _ _ ha4
    replace hc4 := s21 _ _ hc4
    replace e5 := e5.same s21
    replace e6 := e6.same s21
    replace h7 := s21 _ _ h7
    replace h8 := s21 _ _ h8
    replace ha8 := s21 _ _ ha8
    replace hc8 := s21 _ _ hc8
    replace h9 := s21 _ _ h9
    replace e10 := e10.same s21
    replace e11 := e11.same s21
    replace h12 := s21 _ _ h12
    replace h13 := s21 _ _ h13
    replace ha13 := s21 _ _ ha13
    replace hc13 := s21 _ _ hc13
    replace h14 := s21 _ _ h14
    replace h15 := s21 _ _ h15
    replace h16 := s21 _ _ h16
    replace h17 := s21 _ _ h17
    replace h18 := s21 _ _ h18
    replace h19 := s21 _ _ h19
    replace h20 := s21 _ _ h20
    replace SS := Same.trans SS s21
    refine ⟨_, rfl, by show 2 ≤ sizeLine; decide, fun l22 H22 hl22 s22 h22 => ?_⟩
    replace hrow := s22 _ _ hrow
    replace hmore := s22 _ _ hmore
    replace e1 := e1.same s22
    replace hb1 := s22 _ _ hb1
    replace hc1 := s22 _ _ hc1
    replace e2 := e2.same s22
    replace hb2 := s22 _ _ hb2
    replace hc2 := s22 _ _ hc2
    replace h3 := s22 _ _ h3
    replace h4 := s22 _ _ h4
    replace ha4 := s22 _ _ ha4
    replace hc4 := s22 _ _ hc4
    replace e5 := e5.same s22
    replace e6 := e6.same s22
    replace h7 := s22 _ _ h7
    replace h8 := s22 _ _ h8
    replace ha8 := s22 _ _ ha8
    replace hc8 := s22 _ _ hc8
    replace h9 := s22 _ _ h9
    replace e10 := e10.same s22
    replace e11 := e11.same s22
    replace h12 := s22 _ _ h12
    replace h13 := s22 _ _ h13
    replace ha13 := s22 _ _ ha13
    replace hc13 := s22 _ _ hc13
    replace h14 := s22 _ _ h14
    replace h15 := s22 _ _ h15
    replace h16 := s22 _ _ h16
    replace h17 := s22 _ _ h17
    replace h18 := s22 _ _ h18
    replace h19 := s22 _ _ h19
    replace h20 := s22 _ _ h20
    replace h21 := s22 _ _ h21
    replace SS := Same.trans SS s22
    refine ⟨by show 1 ≤ sizeLine; decide, fun l23 H23 hl23 s23 h23 => ?_⟩
    replace hrow := s23 _ _ hrow
    replace hmore := s23 _ _ hmore
    replace e1 := e1.same s23
    replace hb1 := s23 _ _ hb1
    replace hc1 := s23 _ _ hc1
    replace e2 := e2.same s23
    replace hb2 := s23 _ _ hb2
    replace hc2 := s23 _ _ hc2
    replace h3 := s23 _ _ h3
    replace h4 := s23 _ _ h4
    replace ha4 := s23 _ _ ha4
    replace hc4 := s23 _ _ hc4
    replace e5 := e5.same s23
    replace e6 := e6.same s23
    replace h7 := s23 _ _ h7
    replace h8 := s23 _ _ h8
    replace ha8 := s23 _ _ ha8
    replace hc8 := s23 _ _ hc8
    replace h9 := s23 _ _ h9
    replace e10 := e10.same s23
    replace e11 := e11.same s23
    replace h12 := s23 _ _ h12
    replace h13 := s23 _ _ h13
    replace ha13 := s23 _ _ ha13
    replace hc13 := s23 _ _ hc13
    replace h14 := s23 _ _ h14
    replace h15 := s23 _ _ h15
    replace h16 := s23 _ _ h16
    replace h17 := s23 _ _ h17
    replace h18 := s23 _ _ h18
    replace h19 := s23 _ _ h19
    replace h20 := s23 _ _ h20
    replace h21 := s23 _ _ h21
    replace h22 := s23 _ _ h22
    replace SS := Same.trans SS s23
    refine ⟨l23, 2, _, rfl, rfl, h23, by decide, by decide, by show 2 ≤ sizeLine; decide, fun l24 H24 hl24 s24 h24 => ?_⟩
    replace hrow := s24 _ _ hrow
    replace hmore := s24 _ _ hmore
    replace e1 := e1.same s24
    replace hb1 := s24 _ _ hb1
    replace hc1 := s24 _ _ hc1
    replace e2 := e2.same s24
    replace hb2 := s24 _ _ hb2
    replace hc2 := s24 _ _ hc2
    replace h3 := s24 _ _ h3
    replace h4 := s24 _ _ h4
    replace ha4 := s24 _ _ ha4
    replace hc4 := s24 _ _ hc4
    replace e5 := e5.same s24
    replace e6 := e6.same s24
    replace h7 := s24 _ _ h7
    replace h8 := s24 _ _ h8
    replace ha8 := s24 _ _ ha8
    replace hc8 := s24 _ _ hc8
    replace h9 := s24 _ _ h9
    replace e10 := e10.same s24
    replace e11 := e11.same s24
    replace h12 := s24 _ _ h12
    replace h13 := s24 _ _ h13
    replace ha13 := s24 _ _ ha13
    replace hc13 := s24 _ _ hc13
    replace h14 := s24 _ _ h14
    replace h15 := s24 _ _ h15
    replace h16 := s24 _ _ h16
    replace h17 := s24 _ _ h17
    replace h18 := s24 _ _ h18
    replace h19 := s24 _ _ h19
    replace h20 := s24 _ _ h20
    replace h21 := s24 _ _ h21
    replace h22 := s24 _ _ h22
    replace h23 := s24 _ _ h23
    replace SS := Same.trans SS s24
    refine ⟨l21, l24, _, _, rfl, rfl, h21, h24, by show 6 ≤ sizeLine; decide, fun l25 H25 hl25 s25 h25 => ?_⟩
    replace hrow := s25 _ _ hrow
    replace hmore := s25 _ _ hmore
    replace e1 := e1.same s25
    replace hb1 := s25 _ _ hb1
    replace hc1 := s25 _ _ hc1
    replace e2 := e2.same s25
    replace hb2 := s25 _ _ hb2
    replace hc2 := s25 _ _ hc2
    replace h3 := s25 _ _ h3
    replace h4 := s25 _ _ h4
    replace ha4 := s25 _ _ ha4
    replace hc4 := s25 _ _ hc4
    replace e5 := e5.same s25
    replace e6 := e6.same s25
    replace h7 := s25 _ _ h7
    replace h8 := s25 _ _ h8
    replace ha8 := s25 _ _ ha8
    replace hc8 := s25 _ _ hc8
    replace h9 := s25 _ _ h9
    replace e10 := e10.same s25
    replace e11 := e11.same s25
    replace h12 := s25 _ _ h12
    replace h13 := s25 _ _ h13
    replace ha13 := s25 _ _ ha13
    replace hc13 := s25 _ _ hc13
    replace h14 := s25 _ _ h14
    replace h15 := s25 _ _ h15
    replace h16 := s25 _ _ h16
    replace h17 := s25 _ _ h17
    replace h18 := s25 _ _ h18
    replace h19 := s25 _ _ h19
    replace h20 := s25 _ _ h20
    replace h21 := s25 _ _ h21
    replace h22 := s25 _ _ h22
    replace h23 := s25 _ _ h23
    replace h24 := s25 _ _ h24
    replace SS := Same.trans SS s25
    refine ⟨_, rfl, _, rfl, .ref l14, .ref l25, rfl, .inr ⟨l14, l25, _, _, rfl, rfl, .inl ⟨h14, h25⟩, by show 6 ≤ 100; decide, (.cons (.inr ⟨a4, l15, _, _, rfl, rfl, .inl ⟨ha4, h15⟩, by show 2 ≤ 100; decide, .cons (eqv_tup hb1 hrow hf hxl) (.cons (eqv_tup hc1 hmore hf2 hyl) .nil)⟩) (.cons (.inr ⟨c4, l15, _, _, rfl, rfl, .inl ⟨hc4, h15⟩, by show 2 ≤ 100; decide, .cons (eqv_tup hb2 hrow hf hxl) (.cons (eqv_tup hc2 hmore hf2 hyl) .nil)⟩) (.cons (.inr ⟨a8, l18, _, _, rfl, rfl, .inl ⟨ha8, h18⟩, by show 2 ≤ 100; decide, .cons eqv_int (.cons eqv_int .nil)⟩) (.cons (.inr ⟨c8, l18, _, _, rfl, rfl, .inl ⟨hc8, h18⟩, by show 2 ≤ 100; decide, .cons eqv_int (.cons eqv_int .nil)⟩) (.cons (.inr ⟨a13, l22, _, _, rfl, rfl, .inl ⟨ha13, h22⟩, by show 2 ≤ 100; decide, .cons eqv_int (.cons eqv_str .nil)⟩) (.cons (.inr ⟨c13, l22, _, _, rfl, rfl, .inl ⟨hc13, h22⟩, by show 2 ≤ 100; decide, .cons eqv_int (.cons eqv_str .nil)⟩) .nil))))))⟩, fun H26 s26 => ⟨true, rfl, iteF ?_⟩⟩
    replace hrow := s26 _ _ hrow
    replace hmore := s26 _ _ hmore
    replace e1 := e1.same s26
    replace hb1 := s26 _ _ hb1
    replace hc1 := s26 _ _ hc1
    replace e2 := e2.same s26
    replace hb2 := s26 _ _ hb2
    replace hc2 := s26 _ _ hc2
    replace h3 := s26 _ _ h3
    replace h4 := s26 _ _ h4
    replace ha4 := s26 _ _ ha4
    replace hc4 := s26 _ _ hc4
    replace e5 := e5.same s26
    replace e6 := e6.same s26
    replace h7 := s26 _ _ h7
    replace h8 := s26 _ _ h8
    replace ha8 := s26 _ _ ha8
    replace hc8 := s26 _ _ hc8
    replace h9 := s26 _ _ h9
    replace e10 := e10.same s26
    replace e11 := e11.same s26
    replace h12 := s26 _ _ h12
    replace h13 := s26 _ _ h13
    replace ha13 := s26 _ _ ha13
    replace hc13 := s26 _ _ hc13
    replace h14 := s26 _ _ h14
    replace h15 := s26 _ _ h15
    replace h16 := s26 _ _ h16
    replace h17 := s26 _ _ h17
    replace h18 := s26 _ _ h18
    replace h19 := s26 _ _ h19
    replace h20 := s26 _ _ h20
    replace h21 := s26 _ _ h21
    replace h22 := s26 _ _ h22
    replace h23 := s26 _ _ h23
    replace h24 := s26 _ _ h24
    replace h25 := s26 _ _ h25
    replace SS := Same.trans SS s26
    have FP27 : Paired (fun v i => ∃ p, v = V.ref p ∧ ExcAt H26 p (cA K i)) ([.ref p10, .ref p11] : List V) ([21, 21] : List Nat) := .cons ⟨p10, rfl, e10.at_⟩ (.cons ⟨p11, rfl, e11.at_⟩ (.nil))
    refine ⟨_, rfl, l12, rfl, ⟨_, SqL.of h12⟩, fun l27 hD27 => ?_⟩
    refine lc_each (K := K) (a := l12) (xs := [.ref p10, .ref p11]) (qs := ([21, 21] : List Nat)) (k := 11) (fun H y q => y = V.bl true) (fun _ h => h) hD27 h12 (by show 2 ≤ 1000; decide) rfl (fun _ => rfl) ?_ ?_
    · rintro i x q Hx C hx hq sx ⟨zs, hzs⟩ kC
      obtain ⟨p, rfl, hp⟩ := paired_at FP27 i hx hq
      obtain ⟨hq1, hq2⟩ := (by decide : ∀ q ∈ ([21, 21] : List Nat), q < 22 ∧ cod (cB q) = 2) q (List.mem_of_getElem? hq)
      exact ⟨_, rfl, p, q, (by rw [hq2]; rfl), hq1, hp.same sx, fun H5 s5 => kC _ H5 s5 rfl⟩
    rintro ys27 H27 h27 s27 pp27
    obtain rfl := all_true pp27
    refine ⟨l27, List.replicate 2 true, rfl, SqL.of h27, true, rfl, iteF ?_⟩
    replace hrow := s27 _ _ hrow
    replace hmore := s27 _ _ hmore
    replace e1 := e1.same s27
    replace hb1 := s27 _ _ hb1
    replace hc1 := s27 _ _ hc1
    replace e2 := e2.same s27
    replace hb2 := s27 _ _ hb2
    replace hc2 := s27 _ _ hc2
    replace h3 := s27 _ _ h3
    replace h4 := s27 _ _ h4
    replace ha4 := s27 _ _ ha4
    replace hc4 := s27 _ _ hc4
    replace e5 := e5.same s27
    replace e6 := e6.same s27
    replace h7 := s27 _ _ h7
    replace h8 := s27 _ _ h8
    replace ha8 := s27 _ _ ha8
    replace hc8 := s27 _ _ hc8
    replace h9 := s27 _ _ h9
    replace e10 := e10.same s27
    replace e11 := e11.same s27
    replace h12 := s27 _ _ h12
    replace h13 := s27 _ _ h13
    replace ha13 := s27 _ _ ha13
    replace hc13 := s27 _ _ hc13
    replace h14 := s27 _ _ h14
    replace h15 := s27 _ _ h15
    replace h16 := s27 _ _ h16
    replace h17 := s27 _ _ h17
    replace h18 := s27 _ _ h18
    replace h19 := s27 _ _ h19
    replace h20 := s27 _ _ h20
    replace h21 := s27 _ _ h21
    replace h22 := s27 _ _ h22
    replace h23 := s27 _ _ h23
    replace h24 := s27 _ _ h24
    replace h25 := s27 _ _ h25
    replace SS := Same.trans SS s27
    refine ⟨rfl, rfl, fun p28 hp28 => ⟨p28, rfl, upd_same, fun H28 s28 => ⟨rfl, ?_⟩⟩⟩
    have e28 := s28 _ _ upd_same
    replace s28 := Same.trans (Same.upd (Same.refl _) hp28) s28
    replace hrow := s28 _ _ hrow
    replace hmore := s28 _ _ hmore
    replace e1 := e1.same s28
    replace hb1 := s28 _ _ hb1
    replace hc1 := s28 _ _ hc1
    replace e2 := e2.same s28
    replace hb2 := s28 _ _ hb2
    replace hc2 := s28 _ _ hc2
    replace h3 := s28 _ _ h3
    replace h4 := s28 _ _ h4
    replace ha4 := s28 _ _ ha4
    replace hc4 := s28 _ _ hc4
    replace e5 := e5.same s28
    replace e6 := e6.same s28
    replace h7 := s28 _ _ h7
    replace h8 := s28 _ _ h8
    replace ha8 := s28 _ _ ha8
    replace hc8 := s28 _ _ hc8
    replace h9 := s28 _ _ h9
    replace e10 := e10.same s28
    replace e11 := e11.same s28
    replace h12 := s28 _ _ h12
    replace h13 := s28 _ _ h13
    replace ha13 := s28 _ _ ha13
    replace hc13 := s28 _ _ hc13
    replace h14 := s28 _ _ h14
    replace h15 := s28 _ _ h15
    replace h16 := s28 _ _ h16
    replace h17 := s28 _ _ h17
    replace h18 := s28 _ _ h18
    replace h19 := s28 _ _ h19
    replace h20 := s28 _ _ h20
    replace h21 := s28 _ _ h21
    replace h22 := s28 _ _ h22
    replace h23 := s28 _ _ h23
    replace h24 := s28 _ _ h24
    replace h25 := s28 _ _ h25
    replace SS := Same.trans SS s28
    refine ⟨rfl, rfl, fun p29 hp29 => ⟨p29, rfl, upd_same, fun H29 s29 => ⟨rfl, ?_⟩⟩⟩
    have e29 := s29 _ _ upd_same
    replace s29 := Same.trans (Same.upd (Same.refl _) hp29) s29
    replace hrow := s29 _ _ hrow
    replace hmore := s29 _ _ hmore
    replace e1 := e1.same s29
    replace hb1 := s29 _ _ hb1
    replace hc1 := s29 _ _ hc1
    replace e2 := e2.same s29
    replace hb2 := s29 _ _ hb2
    replace hc2 := s29 _ _ hc2
    replace h3 := s29 _ _ h3
    replace h4 := s29 _ _ h4
    replace ha4 := s29 _ _ ha4
    replace hc4 := s29 _ _ hc4
    replace e5 := e5.same s29
    replace e6 := e6.same s29
    replace h7 := s29 _ _ h7
    replace h8 := s29 _ _ h8
    replace ha8 := s29 _ _ ha8
    replace hc8 := s29 _ _ hc8
    replace h9 := s29 _ _ h9
    replace e10 := e10.same s29
    replace e11 := e11.same s29
    replace h12 := s29 _ _ h12
    replace h13 := s29 _ _ h13
    replace ha13 := s29 _ _ ha13
    replace hc13 := s29 _ _ hc13
    replace h14 := s29 _ _ h14
    replace h15 := s29 _ _ h15
    replace h16 := s29 _ _ h16
    replace h17 := s29 _ _ h17
    replace h18 := s29 _ _ h18
    replace h19 := s29 _ _ h19
    replace h20 := s29 _ _ h20
    replace h21 := s29 _ _ h21
    replace h22 := s29 _ _ h22
    replace h23 := s29 _ _ h23
    replace h24 := s29 _ _ h24
    replace h25 := s29 _ _ h25
    replace e28 := s29 _ _ e28
    replace SS := Same.trans SS s29
    refine ⟨rfl, rfl, fun p30 hp30 => ⟨p30, rfl, upd_same, fun H30 s30 => ⟨rfl, ?_⟩⟩⟩
    have e30 := s30 _ _ upd_same
    replace s30 := Same.trans (Same.upd (Same.refl _) hp30) s30
    replace hrow := s30 _ _ hrow
    replace hmore := s30 _ _ hmore
    replace e1 := e1.same s30
    replace hb1 := s30 _ _ hb1
    replace hc1 := s30 _ _ hc1
    replace e2 := e2.same s30
    replace hb2 := s30 _ _ hb2
    replace hc2 := s30 _ _ hc2
    replace h3 := s30 _ _ h3
    replace h4 := s30 _ _ h4
    replace ha4 := s30 _ _ ha4
    replace hc4 := s30 _ _ hc4
    replace e5 := e5.same s30
    replace e6 := e6.same s30
    replace h7 := s30 _ _ h7
    replace h8 := s30 _ _ h8
    replace ha8 := s30 _ _ ha8
    replace hc8 := s30 _ _ hc8
    replace h9 := s30 _ _ h9
    replace e10 := e10.same s30
    replace e11 := e11.same s30
    replace h12 := s30 _ _ h12
    replace h13 := s30 _ _ h13
    replace ha13 := s30 _ _ ha13
    replace hc13 := s30 _ _ hc13
    replace h14 := s30 _ _ h14
    replace h15 := s30 _ _ h15
    replace h16 := s30 _ _ h16
    replace h17 := s30 _ _ h17
    replace h18 := s30 _ _ h18
    replace h19 := s30 _ _ h19
    replace h20 := s30 _ _ h20
    replace h21 := s30 _ _ h21
    replace h22 := s30 _ _ h22
    replace h23 := s30 _ _ h23
    replace h24 := s30 _ _ h24
    replace h25 := s30 _ _ h25
    replace e28 := s30 _ _ e28
    replace e29 := s30 _ _ e29
    replace SS := Same.trans SS s30
    refine ⟨rfl, rfl, fun p31 hp31 => ⟨p31, rfl, upd_same, fun H31 s31 => ⟨rfl, ?_⟩⟩⟩
    have e31 := s31 _ _ upd_same
    replace s31 := Same.trans (Same.upd (Same.refl _) hp31) s31
    replace hrow := s31 _ _ hrow
    replace hmore := s31 _ _ hmore
    replace e1 := e1.same s31
    replace hb1 := s31 _ _ hb1
    replace hc1 := s31 _ _ hc1
    replace e2 := e2.same s31
    replace hb2 := s31 _ _ hb2
    replace hc2 := s31 _ _ hc2
    replace h3 := s31 _ _ h3
    replace h4 := s31 _ _ h4
    replace ha4 := s31 _ _ ha4
    replace hc4 := s31 _ _ hc4
    replace e5 := e5.same s31
    replace e6 := e6.same s31
    replace h7 := s31 _ _ h7
    replace h8 := s31 _ _ h8
    replace ha8 := s31 _ _ ha8
    replace hc8 := s31 _ _ hc8
    replace h9 := s31 _ _ h9
    replace e10 := e10.same s31
    replace e11 := e11.same s31
    replace h12 := s31 _ _ h12
    replace h13 := s31 _ _ h13
    replace ha13 := s31 _ _ ha13
    replace hc13 := s31 _ _ hc13
    replace h14 := s31 _ _ h14
    replace h15 := s31 _ _ h15
    replace h16 := s31 _ _ h16
    replace h17 := s31 _ _ h17
    replace h18 := s31 _ _ h18
    replace h19 := s31 _ _ h19
    replace h20 := s31 _ _ h20
    replace h21 := s31 _ _ h21
    replace h22 := s31 _ _ h22
    replace h23 := s31 _ _ h23
    replace h24 := s31 _ _ h24
    replace h25 := s31 _ _ h25
    replace e28 := s31 _ _ e28
    replace e29 := s31 _ _ e29
    replace e30 := s31 _ _ e30
    replace SS := Same.trans SS s31
    refine ⟨rfl, rfl, fun p32 hp32 => ⟨p32, rfl, upd_same, fun H32 s32 => ⟨rfl, ?_⟩⟩⟩
    have e32 := s32 _ _ upd_same
    replace s32 := Same.trans (Same.upd (Same.refl _) hp32) s32
    replace hrow := s32 _ _ hrow
    replace hmore := s32 _ _ hmore
    replace e1 := e1.same s32
    replace hb1 := s32 _ _ hb1
    replace hc1 := s32 _ _ hc1
    replace e2 := e2.same s32
    replace hb2 := s32 _ _ hb2
    replace hc2 := s32 _ _ hc2
    replace h3 := s32 _ _ h3
    replace h4 := s32 _ _ h4
    replace ha4 := s32 _ _ ha4
    replace hc4 := s32 _ _ hc4
    replace e5 := e5.same s32
    replace e6 := e6.same s32
    replace h7 := s32 _ _ h7
    replace h8 := s32 _ _ h8
    replace ha8 := s32 _ _ ha8
    replace hc8 := s32 _ _ hc8
    replace h9 := s32 _ _ h9
    replace e10 := e10.same s32
    replace e11 := e11.same s32
    replace h12 := s32 _ _ h12
    replace h13 := s32 _ _ h13
    replace ha13 := s32 _ _ ha13
    replace hc13 := s32 _ _ hc13
    replace h14 := s32 _ _ h14
    replace h15 := s32 _ _ h15
    replace h16 := s32 _ _ h16
    replace h17 := s32 _ _ h17
    replace h18 := s32 _ _ h18
    replace h19 := s32 _ _ h19
    replace h20 := s32 _ _ h20
    replace h21 := s32 _ _ h21
    replace h22 := s32 _ _ h22
    replace h23 := s32 _ _ h23
    replace h24 := s32 _ _ h24
    replace h25 := s32 _ _ h25
    replace e28 := s32 _ _ e28
    replace e29 := s32 _ _ e29
    replace e30 := s32 _ _ e30
    replace e31 := s32 _ _ e31
    replace SS := Same.trans SS s32
    refine ⟨rfl, rfl, fun p33 hp33 => ⟨p33, rfl, upd_same, fun H33 s33 => ⟨rfl, ?_⟩⟩⟩
    have e33 := s33 _ _ upd_same
    replace s33 := Same.trans (Same.upd (Same.refl _) hp33) s33
    replace hrow := s33 _ _ hrow
    replace hmore := s33 _ _ hmore
    replace e1 := e1.same s33
    replace hb1 := s33 _ _ hb1
    replace hc1 := s33 _ _ hc1
    replace e2 := e2.same s33
    replace hb2 := s33 _ _ hb2
    replace hc2 := s33 _ _ hc2
    replace h3 := s33 _ _ h3
    replace h4 := s33 _ _ h4
    replace ha4 := s33 _ _ ha4
    replace hc4 := s33 _ _ hc4
    replace e5 := e5.same s33
    replace e6 := e6.same s33
    replace h7 := s33 _ _ h7
    replace h8 := s33 _ _ h8
    replace ha8 := s33 _ _ ha8
    replace hc8 := s33 _ _ hc8
    replace h9 := s33 _ _ h9
    replace e10 := e10.same s33
    replace e11 := e11.same s33
    replace h12 := s33 _ _ h12
    replace h13 := s33 _ _ h13
    replace ha13 := s33 _ _ ha13
    replace hc13 := s33 _ _ hc13
    replace h14 := s33 _ _ h14
    replace h15 := s33 _ _ h15
    replace h16 := s33 _ _ h16
    replace h17 := s33 _ _ h17
    replace h18 := s33 _ _ h18
    replace h19 := s33 _ _ h19
    replace h20 := s33 _ _ h20
    replace h21 := s33 _ _ h21
    replace h22 := s33 _ _ h22
    replace h23 := s33 _ _ h23
    replace h24 := s33 _ _ h24
    replace h25 := s33 _ _ h25
    replace e28 := s33 _ _ e28
    replace e29 := s33 _ _ e29
    replace e30 := s33 _ _ e30
    replace e31 := s33 _ _ e31
    replace e32 := s33 _ _ e32
    replace SS := Same.trans SS s33
    refine ⟨by show 6 ≤ sizeLine; decide, fun l34 H34 hl34 s34 h34 => ?_⟩
    replace hrow := s34 _ _ hrow
    replace hmore := s34 _ _ hmore
    replace e1 := e1.same s34
    replace hb1 := s34 _ _ hb1
    replace hc1 := s34 _ _ hc1
    replace e2 := e2.same s34
    replace hb2 := s34 _ _ hb2
    replace hc2 := s34 _ _ hc2
    replace h3 := s34 _ _ h3
    replace h4 := s34 _ _ h4
    replace ha4 := s34 _ _ ha4
    replace hc4 := s34 _ _ hc4
    replace e5 := e5.same s34
    replace e6 := e6.same s34
    replace h7 := s34 _ _ h7
    replace h8 := s34 _ _ h8
    replace ha8 := s34 _ _ ha8
    replace hc8 := s34 _ _ hc8
    replace h9 := s34 _ _ h9
    replace e10 := e10.same s34
    replace e11 := e11.same s34
    replace h12 := s34 _ _ h12
    replace h13 := s34 _ _ h13
    replace ha13 := s34 _ _ ha13
    replace hc13 := s34 _ _ hc13
    replace h14 := s34 _ _ h14
    replace h15 := s34 _ _ h15
    replace h16 := s34 _ _ h16
    replace h17 := s34 _ _ h17
    replace h18 := s34 _ _ h18
    replace h19 := s34 _ _ h19
    replace h20 := s34 _ _ h20
    replace h21 := s34 _ _ h21
    replace h22 := s34 _ _ h22
    replace h23 := s34 _ _ h23
    replace h24 := s34 _ _ h24
    replace h25 := s34 _ _ h25
    replace e28 := s34 _ _ e28
    replace e29 := s34 _ _ e29
    replace e30 := s34 _ _ e30
    replace e31 := s34 _ _ e31
    replace e32 := s34 _ _ e32
    replace e33 := s34 _ _ e33
    replace SS := Same.trans SS s34
    refine ⟨_, rfl, _, rfl, l3, l7, _, _, rfl, rfl, h3, h7, by show 4 ≤ sizeLine; decide, fun l35 H35 hl35 s35 h35 => ?_⟩
    replace hrow := s35 _ _ hrow
    replace hmore := s35 _ _ hmore
    replace e1 := e1.same s35
    replace hb1 := s35 _ _ hb1
    replace hc1 := s35 _ _ hc1
    replace e2 := e2.same s35
    replace hb2 := s35 _ _ hb2
    replace hc2 := s35 _ _ hc2
    replace h3 := s35 _ _ h3
    replace h4 := s35 _ _ h4
    replace ha4 := s35 _ _ ha4
    replace hc4 := s35 _ _ hc4
    replace e5 := e5.same s35
    replace e6 := e6.same s35
    replace h7 := s35 _ _ h7
    replace h8 := s35 _ _ h8
    replace ha8 := s35 _ _ ha8
    replace hc8 := s35 _ _ hc8
    replace h9 := s35 _ _ h9
    replace e10 := e10.same s35
    replace e11 := e11.same s35
    replace h12 := s35 _ _ h12
    replace h13 := s35 _ _ h13
    replace ha13 := s35 _ _ ha13
    replace hc13 := s35 _ _ hc13
    replace h14 := s35 _ _ h14
    replace h15 := s35 _ _ h15
    replace h16 := s35 _ _ h16
    replace h17 := s35 _ _ h17
    replace h18 := s35 _ _ h18
    replace h19 := s35 _ _ h19
    replace h20 := s35 _ _ h20
    replace h21 := s35 _ _ h21
    replace h22 := s35 _ _ h22
    replace h23 := s35 _ _ h23
    replace h24 := s35 _ _ h24
    replace h25 := s35 _ _ h25
    replace e28 := s35 _ _ e28
    replace e29 := s35 _ _ e29
    replace e30 := s35 _ _ e30
    replace e31 := s35 _ _ e31
    replace e32 := s35 _ _ e32
    replace e33 := s35 _ _ e33
    replace h34 := s35 _ _ h34
    replace SS := Same.trans SS s35
    refine ⟨_, rfl, l35, l34, _, _, rfl, rfl, h35, h34, by show 10 ≤ sizeLine; decide, fun l36 H36 hl36 s36 h36 => ?_⟩
    replace hrow := s36 _ _ hrow
    replace hmore := s36 _ _ hmore
    replace e1 := e1.same s36
    replace hb1 := s36 _ _ hb1
    replace hc1 := s36 _ _ hc1
    replace e2 := e2.same s36
    replace hb2 := s36 _ _ hb2
    replace hc2 := s36 _ _ hc2
    replace h3 := s36 _ _ h3
    replace h4 := s36 _ _ h4
    replace ha4 := s36 _ _ ha4
    replace hc4 := s36 _ _ hc4
    replace e5 := e5.same s36
    replace e6 := e6.same s36
    replace h7 := s36 _ _ h7
    replace h8 := s36 _ _ h8
    replace ha8 := s36 _ _ ha8
    replace hc8 := s36 _ _ hc8
    replace h9 := s36 _ _ h9
    replace e10 := e10.same s36
    replace e11 := e11.same s36
    replace h12 := s36 _ _ h12
    replace h13 := s36 _ _ h13
    replace ha13 := s36 _ _ ha13
    replace hc13 := s36 _ _ hc13
    replace h14 := s36 _ _ h14
    replace h15 := s36 _ _ h15
    replace h16 := s36 _ _ h16
    replace h17 := s36 _ _ h17
    replace h18 := s36 _ _ h18
    replace h19 := s36 _ _ h19
    replace h20 := s36 _ _ h20
    replace h21 := s36 _ _ h21
    replace h22 := s36 _ _ h22
    replace h23 := s36 _ _ h23
    replace h24 := s36 _ _ h24
    replace h25 := s36 _ _ h25
    replace e28 := s36 _ _ e28
    replace e29 := s36 _ _ e29
    replace e30 := s36 _ _ e30
    replace e31 := s36 _ _ e31
    replace e32 := s36 _ _ e32
    replace e33 := s36 _ _ e33
    replace h34 := s36 _ _ h34
    replace h35 := s36 _ _ h35
    replace SS := Same.trans SS s36
    have FP37 : Paired (fun v i => ∃ p, v = V.ref p ∧ ExcAt H36 p (cA K i)) ([.ref p1, .ref p2, .ref p5, .ref p6, .ref p28, .ref p29, .ref p30, .ref p31, .ref p32, .ref p33] : List V) ([8, 8, 18, 18, 5, 13, 14, 16, 17, 19] : List Nat) := .cons ⟨p1, rfl, e1.at_⟩ (.cons ⟨p2, rfl, e2.at_⟩ (.cons ⟨p5, rfl, e5.at_⟩ (.cons ⟨p6, rfl, e6.at_⟩ (.cons ⟨p28, rfl, .inl e28⟩ (.cons ⟨p29, rfl, .inl e29⟩ (.cons ⟨p30, rfl, .inl e30⟩ (.cons ⟨p31, rfl, .inl e31⟩ (.cons ⟨p32, rfl, .inl e32⟩ (.cons ⟨p33, rfl, .inl e33⟩ (.nil))))))))))
    refine ⟨l36, rfl, ⟨_, SqL.of h36⟩, fun l37 hD37 => ?_⟩
    refine lc_each (K := K) (a := l36) (xs := [.ref p1, .ref p2, .ref p5, .ref p6, .ref p28, .ref p29, .ref p30, .ref p31, .ref p32, .ref p33]) (qs := ([8, 8, 18, 18, 5, 13, 14, 16, 17, 19] : List Nat)) (k := 11) (fun H y q => y = V.bl true) (fun _ h => h) hD37 h36 (by show 10 ≤ 1000; decide) rfl (fun _ => rfl) ?_ ?_
    · rintro i x q Hx C hx hq sx ⟨zs, hzs⟩ kC
      obtain ⟨p, rfl, hp⟩ := paired_at FP37 i hx hq
      obtain ⟨hq1, hq2⟩ := (by decide : ∀ q ∈ ([8, 8, 18, 18, 5, 13, 14, 16, 17, 19] : List Nat), q < 22 ∧ cod (cB q) = 1) q (List.mem_of_getElem? hq)
      exact ⟨_, rfl, p, q, (by rw [hq2]; rfl), hq1, hp.same sx, fun H5 s5 => kC _ H5 s5 rfl⟩
    rintro ys37 H37 h37 s37 pp37
    obtain rfl := all_true pp37
    refine ⟨l37, List.replicate 10 true, rfl, SqL.of h37, true, rfl, iteF ?_⟩
    replace hrow := s37 _ _ hrow
    replace hmore := s37 _ _ hmore
    replace e1 := e1.same s37
    replace hb1 := s37 _ _ hb1
    replace hc1 := s37 _ _ hc1
    replace e2 := e2.same s37
    replace hb2 := s37 _ _ hb2
    replace hc2 := s37 _ _ hc2
    replace h3 := s37 _ _ h3
    replace h4 := s37 _ _ h4
    replace ha4 := s37 _ _ ha4
    replace hc4 := s37 _ _ hc4
    replace e5 := e5.same s37
    replace e6 := e6.same s37
    replace h7 := s37 _ _ h7
    replace h8 := s37 _ _ h8
    replace ha8 := s37 _ _ ha8
    replace hc8 := s37 _ _ hc8
    replace h9 := s37 _ _ h9
    replace e10 := e10.same s37
    replace e11 := e11.same s37
    replace h12 := s37 _ _ h12
    replace h13 := s37 _ _ h13
    replace ha13 := s37 _ _ ha13
    replace hc13 := s37 _ _ hc13
    replace h14 := s37 _ _ h14
    replace h15 := s37 _ _ h15
    replace h16 := s37 _ _ h16
    replace h17 := s37 _ _ h17
    replace h18 := s37 _ _ h18
    replace h19 := s37 _ _ h19
    replace h20 := s37 _ _ h20
    replace h21 := s37 _ _ h21
    replace h22 := s37 _ _ h22
    replace h23 := s37 _ _ h23
    replace h24 := s37 _ _ h24
    replace h25 := s37 _ _ h25
    replace e28 := s37 _ _ e28
    replace e29 := s37 _ _ e29
    replace e30 := s37 _ _ e30
    replace e31 := s37 _ _ e31
    replace e32 := s37 _ _ e32
    replace e33 := s37 _ _ e33
    replace h34 := s37 _ _ h34
    replace h35 := s37 _ _ h35
    replace h36 := s37 _ _ h36
    replace SS := Same.trans SS s37
    refine ⟨_, rfl, l3, _, _, _, rfl, rfl, SqL.of h3, rfl, _, rfl, l7, _, _, _, rfl, rfl, SqL.of h7, rfl, _, rfl, l12, _, _, _, rfl, rfl, SqL.of h12, rfl, by show 3 ≤ sizeLine; decide, fun l38 H38 hl38 s38 h38 => ?_⟩
    replace hrow := s38 _ _ hrow
    replace hmore := s38 _ _ hmore
    replace e1 := e1.same s38
    replace hb1 := s38 _ _ hb1
    replace hc1 := s38 _ _ hc1
    replace e2 := e2.same s38
    replace hb2 := s38 _ _ hb2
    replace hc2 := s38 _ _ hc2
    replace h3 := s38 _ _ h3
    replace h4 := s38 _ _ h4
    replace ha4 := s38 _ _ ha4
    replace hc4 := s38 _ _ hc4
    replace e5 := e5.same s38
    replace e6 := e6.same s38
    replace h7 := s38 _ _ h7
    replace h8 := s38 _ _ h8
    replace ha8 := s38 _ _ ha8
    replace hc8 := s38 _ _ hc8
    replace h9 := s38 _ _ h9
    replace e10 := e10.same s38
    replace e11 := e11.same s38
    replace h12 := s38 _ _ h12
    replace h13 := s38 _ _ h13
    replace ha13 := s38 _ _ ha13
    replace hc13 := s38 _ _ hc13
    replace h14 := s38 _ _ h14
    replace h15 := s38 _ _ h15
    replace h16 := s38 _ _ h16
    replace h17 := s38 _ _ h17
    replace h18 := s38 _ _ h18
    replace h19 := s38 _ _ h19
    replace h20 := s38 _ _ h20
    replace h21 := s38 _ _ h21
    replace h22 := s38 _ _ h22
    replace h23 := s38 _ _ h23
    replace h24 := s38 _ _ h24
    replace h25 := s38 _ _ h25
    replace e28 := s38 _ _ e28
    replace e29 := s38 _ _ e29
    replace e30 := s38 _ _ e30
    replace e31 := s38 _ _ e31
    replace e32 := s38 _ _ e32
    replace e33 := s38 _ _ e33
    replace h34 := s38 _ _ h34
    replace h35 := s38 _ _ h35
    replace h36 := s38 _ _ h36
    replace SS := Same.trans SS s38
    refine ⟨_, rfl, l38, l34, _, _, rfl, rfl, h38, h34, by show 9 ≤ sizeLine; decide, fun l39 H39 hl39 s39 h39 => ?_⟩
    replace hrow := s39 _ _ hrow
    replace hmore := s39 _ _ hmore
    replace e1 := e1.same s39
    replace hb1 := s39 _ _ hb1
    replace hc1 := s39 _ _ hc1
    replace e2 := e2.same s39
    replace hb2 := s39 _ _ hb2
    replace hc2 := s39 _ _ hc2
    replace h3 := s39 _ _ h3
    replace h4 := s39 _ _ h4
    replace ha4 := s39 _ _ ha4
    replace hc4 := s39 _ _ hc4
    replace e5 := e5.same s39
    replace e6 := e6.same s39
    replace h7 := s39 _ _ h7
    replace h8 := s39 _ _ h8
    replace ha8 := s39 _ _ ha8
    replace hc8 := s39 _ _ hc8
    replace h9 := s39 _ _ h9
    replace e10 := e10.same s39
    replace e11 := e11.same s39
    replace h12 := s39 _ _ h12
    replace h13 := s39 _ _ h13
    replace ha13 := s39 _ _ ha13
    replace hc13 := s39 _ _ hc13
    replace h14 := s39 _ _ h14
    replace h15 := s39 _ _ h15
    replace h16 := s39 _ _ h16
    replace h17 := s39 _ _ h17
    replace h18 := s39 _ _ h18
    replace h19 := s39 _ _ h19
    replace h20 := s39 _ _ h20
    replace h21 := s39 _ _ h21
    replace h22 := s39 _ _ h22
    replace h23 := s39 _ _ h23
    replace h24 := s39 _ _ h24
    replace h25 := s39 _ _ h25
    replace e28 := s39 _ _ e28
    replace e29 := s39 _ _ e29
    replace e30 := s39 _ _ e30
    replace e31 := s39 _ _ e31
    replace e32 := s39 _ _ e32
    replace e33 := s39 _ _ e33
    replace h34 := s39 _ _ h34
    replace h35 := s39 _ _ h35
    replace h36 := s39 _ _ h36
    replace h38 := s39 _ _ h38
    replace SS := Same.trans SS s39
    have FP40 : Paired (fun v i => ∃ p, v = V.ref p ∧ ExcAt H39 p (cA K i)) ([.ref p1, .ref p5, .ref p10, .ref p28, .ref p29, .ref p30, .ref p31, .ref p32, .ref p33] : List V) ([8, 18, 21, 5, 13, 14, 16, 17, 19] : List Nat) := .cons ⟨p1, rfl, e1.at_⟩ (.cons ⟨p5, rfl, e5.at_⟩ (.cons ⟨p10, rfl, e10.at_⟩ (.cons ⟨p28, rfl, .inl e28⟩ (.cons ⟨p29, rfl, .inl e29⟩ (.cons ⟨p30, rfl, .inl e30⟩ (.cons ⟨p31, rfl, .inl e31⟩ (.cons ⟨p32, rfl, .inl e32⟩ (.cons ⟨p33, rfl, .inl e33⟩ (.nil)))))))))
    refine ⟨l39, rfl, ⟨_, SqL.of h39⟩, fun l40 hD40 => ?_⟩
    refine lc_each (K := K) (a := l39) (xs := [.ref p1, .ref p5, .ref p10, .ref p28, .ref p29, .ref p30, .ref p31, .ref p32, .ref p33]) (qs := ([8, 18, 21, 5, 13, 14, 16, 17, 19] : List Nat)) (k := 11) (fun H y q => y = V.int ((q : Nat) : Int)) (fun _ h => h) hD40 h39 (by show 9 ≤ 1000; decide) rfl (fun _ => rfl) ?_ ?_
    · rintro i x q Hx C hx hq sx ⟨zs, hzs⟩ kC
      obtain ⟨p, rfl, hp⟩ := paired_at FP40 i hx hq
      have hq1 := (by decide : ∀ q ∈ ([8, 18, 21, 5, 13, 14, 16, 17, 19] : List Nat), q < 22) q (List.mem_of_getElem? hq)
      refine ⟨_, rfl, p, q, rfl, hq1, hp.same sx, fun l H5 hl h5 s5 => ?_⟩
      exact ⟨.inl ⟨rfl, _, SqL.of h5⟩, l, _, _, q, _, rfl, rfl, SqL.of h5, rfl, marks_flat q, marks_get q q hq1, (by rw [decide_eq_true rfl]; rfl), (fun m z hm hz => marks_no hq1 hm hz), kC _ H5 s5 rfl⟩
    rintro ys40 H40 h40 s40 pp40
    obtain rfl := all_int pp40
    replace hrow := s40 _ _ hrow
    replace hmore := s40 _ _ hmore
    replace e1 := e1.same s40
    replace hb1 := s40 _ _ hb1
    replace hc1 := s40 _ _ hc1
    replace e2 := e2.same s40
    replace hb2 := s40 _ _ hb2
    replace hc2 := s40 _ _ hc2
    replace h3 := s40 _ _ h3
    replace h4 := s40 _ _ h4
    replace ha4 := s40 _ _ ha4
    replace hc4 := s40 _ _ hc4
    replace e5 := e5.same s40
    replace e6 := e6.same s40
    replace h7 := s40 _ _ h7
    replace h8 := s40 _ _ h8
    replace ha8 := s40 _ _ ha8
    replace hc8 := s40 _ _ hc8
    replace h9 := s40 _ _ h9
    replace e10 := e10.same s40
    replace e11 := e11.same s40
    replace h12 := s40 _ _ h12
    replace h13 := s40 _ _ h13
    replace ha13 := s40 _ _ ha13
    replace hc13 := s40 _ _ hc13
    replace h14 := s40 _ _ h14
    replace h15 := s40 _ _ h15
    replace h16 := s40 _ _ h16
    replace h17 := s40 _ _ h17
    replace h18 := s40 _ _ h18
    replace h19 := s40 _ _ h19
    replace h20 := s40 _ _ h20
    replace h21 := s40 _ _ h21
    replace h22 := s40 _ _ h22
    replace h23 := s40 _ _ h23
    replace h24 := s40 _ _ h24
    replace h25 := s40 _ _ h25
    replace e28 := s40 _ _ e28
    replace e29 := s40 _ _ e29
    replace e30 := s40 _ _ e30
    replace e31 := s40 _ _ e31
    replace e32 := s40 _ _ e32
    replace e33 := s40 _ _ e33
    replace h34 := s40 _ _ h34
    replace h35 := s40 _ _ h35
    replace h36 := s40 _ _ h36
    replace h38 := s40 _ _ h38
    replace h39 := s40 _ _ h39
    replace SS := Same.trans SS s40
    refine ⟨_, rfl, by show 9 ≤ sizeLine; decide, fun l41 H41 hl41 s41 h41 => ?_⟩
    replace hrow := s41 _ _ hrow
    replace hmore := s41 _ _ hmore
    replace e1 := e1.same s41
    replace hb1 := s41 _ _ hb1
    replace hc1 := s41 _ _ hc1
    replace e2 := e2.same s41
    replace hb2 := s41 _ _ hb2
    replace hc2 := s41 _ _ hc2
    replace h3 := s41 _ _ h3
    replace h4 := s41 _ _ h4
    replace ha4 := s41 _ _ ha4
    replace hc4 := s41 _ _ hc4
    replace e5 := e5.same s41
    replace e6 := e6.same s41
    replace h7 := s41 _ _ h7
    replace h8 := s41 _ _ h8
    replace ha8 := s41 _ _ ha8
    replace hc8 := s41 _ _ hc8
    replace h9 := s41 _ _ h9
    replace e10 := e10.same s41
    replace e11 := e11.same s41
    replace h12 := s41 _ _ h12
    replace h13 := s41 _ _ h13
    replace ha13 := s41 _ _ ha13
    replace hc13 := s41 _ _ hc13
    replace h14 := s41 _ _ h14
    replace h15 := s41 _ _ h15
    replace h16 := s41 _ _ h16
    replace h17 := s41 _ _ h17
    replace h18 := s41 _ _ h18
    replace h19 := s41 _ _ h19
    replace h20 := s41 _ _ h20
    replace h21 := s41 _ _ h21
    replace h22 := s41 _ _ h22
    replace h23 := s41 _ _ h23
    replace h24 := s41 _ _ h24
    replace h25 := s41 _ _ h25
    replace e28 := s41 _ _ e28
    replace e29 := s41 _ _ e29
    replace e30 := s41 _ _ e30
    replace e31 := s41 _ _ e31
    replace e32 := s41 _ _ e32
    replace e33 := s41 _ _ e33
    replace h34 := s41 _ _ h34
    replace h35 := s41 _ _ h35
    replace h36 := s41 _ _ h36
    replace h38 := s41 _ _ h38
    replace h39 := s41 _ _ h39
    replace h40 := s41 _ _ h40
    replace SS := Same.trans SS s41
    have hI : H41 l41 = some (.lst (([8, 18, 21, 5, 13, 14, 16, 17, 19] : List Int).map V.int)) := h41
    have hJ : H41 l40 = some (.lst (([8, 18, 21, 5, 13, 14, 16, 17, 19] : List Int).map V.int)) := h40
    refine ⟨_, _, .lst (SqL.of hJ) (dpAll_int _), .lst (SqL.of hI) (dpAll_int _), by decide, by decide, ?_⟩
    have e : PyData.eqv (.list (([8, 18, 21, 5, 13, 14, 16, 17, 19] : List Int).map PyData.int)) (.list (([8, 18, 21, 5, 13, 14, 16, 17, 19] : List Int).map PyData.int)) = true := by decide
    rw [e]
    exact k _ SS
end
end Own
namespace Own
open PySem PySem.Spec PyProof.Rows L2
/-! Rules whose new heaps are letters; what _law_right wants. -/
section
variable {X : Cx} {pos p1 p2 p3 px : Pos} {x : Str} {k : Nat}
theorem call_tupF : CallR X (.type "tuple") (fun xs H Q => ∃ p ys, xs = [.ref p] ∧ H p = some (.lst ys) ∧ ∀ l H', H l = none → Same H H' → H' l = some (.tup ys) → Q (.ref l) H') := by
  intro pins s σ H xs us Q I r h
  obtain ⟨p, ys, e, h1, q⟩ := h
  exact call_tuple_of pins s σ H xs us Q I r ⟨p, ys, e, .inl ⟨SqL.of h1, fun l hl => q l _ hl (Same.upd (Same.refl _) hl) upd_same⟩⟩
def tRevF (i : Nat) : TE := fun σ H Q => ∃ a xs, σ[i]? = some (some (V.ref a)) ∧ H a = some (.lst xs) ∧ ∀ p H', H p = none → Same H H' → H' p = some (.lst xs.reverse) → Q (.ref p) H'
theorem pe_revV (i : Nat) (hv : PE X (.Name x px) (tVar i)) : PE X (.Subscript (.Name x px) (.Slice none none (some (.UnaryOp .USub (.Constant (.int 1) k p1) p2)) p3) pos) (tRevF i) :=
  ⟨fun pins s σ H Q I h => (pe_revL hv).run pins s σ H Q I (by
    obtain ⟨a, xs, e, ha, q⟩ := h
    exact ⟨_, e, a, xs, rfl, SqL.of ha, fun p hp => q p _ hp (Same.upd (Same.refl _) hp) upd_same⟩)⟩
def tEvenF (i : Nat) : TE := fun σ H Q => ∃ a xs, σ[i]? = some (some (V.ref a)) ∧ H a = some (.lst xs) ∧ xs.length ≤ 1000 ∧ ∀ p H', H p = none → Same H H' → H' p = some (.lst (evens xs)) → Q (.ref p) H'
theorem pe_evenV (i : Nat) (hv : PE X (.Name x px) (tVar i)) : PE X (.Subscript (.Name x px) (.Slice none none (some (.Constant (.int 2) k p1)) p3) pos) (tEvenF i) :=
  ⟨fun pins s σ H Q I h => (pe_even hv).run pins s σ H Q I (by
    obtain ⟨a, xs, e, ha, hz, q⟩ := h
    exact ⟨_, e, a, xs, rfl, SqL.of ha, hz, fun p hp => q p _ hp (Same.upd (Same.refl _) hp) upd_same⟩)⟩
end
theorem paired_pick {α β : Type} {R : α → β → Prop} {xs : List α} {ys : List β} (r : Paired R xs ys) : ∀ ks : List Nat, Paired R (ks.filterMap (xs[·]?)) (ks.filterMap (ys[·]?))
  | [] => .nil
  | k :: ks => by
    have ih := paired_pick r ks
    have hl := r.length
    by_cases h : k < xs.length
    · have h2 : k < ys.length := by omega
      have e1 : xs[k]? = some xs[k] := List.getElem?_eq_getElem h
      have e2 : ys[k]? = some ys[k] := List.getElem?_eq_getElem h2
      rw [List.filterMap_cons_some e1, List.filterMap_cons_some e2]
      exact .cons (paired_at r k e1 e2) ih
    · have e1 : xs[k]? = none := List.getElem?_eq_none (by omega)
      have e2 : ys[k]? = none := List.getElem?_eq_none (by omega)
      rw [List.filterMap_cons_none e1, List.filterMap_cons_none e2]
      exact ih
/-- exceptions of these classes -/
def Fs (K : PySem.W.Frag) (H : Hp) (found : List V) (idx : List Nat) : Prop := Paired (fun v i => ∃ p, v = V.ref p ∧ ExcAt H p (cA K i)) found idx
theorem Fs.same {K : PySem.W.Frag} {H H' : Hp} {found : List V} {idx : List Nat} (h : Fs K H found idx) (s : Same H H') : Fs K H' found idx :=
  paired_mono (fun _ _ q => by
    obtain ⟨p, e, a⟩ := q
    exact ⟨p, e, a.same s⟩) h
theorem Fs.even {K : PySem.W.Frag} {H : Hp} {found : List V} {idx : List Nat} (h : Fs K H found idx) : Fs K H (evens found) ((sliceRange 0 (idx.length : Int) 2).filterMap (idx[·]?)) := by
  have e := h.length
  unfold evens
  rw [e]
  exact paired_pick h _
theorem marks_sum : ∀ i, i < 22 → ((marksB i).map fun b => if b = true then (1 : Int) else 0).sum = 1 := by decide
theorem all_bits : ∀ {ys : List V} {qs : List Bool}, Paired (fun y (q : Bool) => y = V.int (if q = true then 1 else 0)) ys qs → ys = (qs.map fun b => if b = true then (1 : Int) else 0).map V.int
  | _, _, .nil => rfl
  | _, _, .cons r t => by
    rw [r, all_bits t]
    rfl
def rInt1 : List V → Hp → VK → Prop := fun xs H Q => (∃ i, xs = [.int i] ∧ Q (.int i) H) ∨ ∃ k, xs = [.bl k] ∧ Q (.int (if k = true then 1 else 0)) H
/-- the outer block's scope of the nested comprehension -/
def scOwn : Scope := { kind := .function, names := [(".0", .local), ("_law_own", .local), ("sum", .globalImplicit), ("_law_marks", .globalImplicit)], isGenerator := false, isCoroutine := false }
def spTakeB : Sp := fun vs H Q _ => ∃ (p : Addr) (n : Nat) (m : Int), vs = [.ref p, .int m] ∧ Box H p n ∧ n ≤ 100000 ∧ 0 < m ∧ m.natAbs < 2 ^ 200 ∧
  ∀ (r : Int) (H' : Hp), 0 ≤ r → r < m → Box H' p (n + 1) → SameBut p H H' → Q (.int r) H'
def spRight : Sp := fun vs H Q _ => ∃ p : Addr, vs = [.ref p] ∧ Box H p 0 ∧ ∀ H', SameBut p H H' → Q (.bl true) H'
theorem scRight : FnScope ["_law_box_here", "_law_far", "_law_wide", "_law_word_so", "_law_names_so", "_law_row_so", "_law_found", "_law_told_so", "_law_due", "_law_own", "_law_bit"] ["_law_box_here"] (defScope sRight) := ⟨rfl, rfl, rfl, by decide +kernel, rfl, by decide +kernel, by decide +kernel⟩
theorem scLaw : FnScope ["_law_script", "_law_cells_here", "_law_k"] ["_law_script"] (defScope sLaw) := ⟨rfl, rfl, rfl, by decide +kernel, rfl, by decide +kernel, by decide +kernel⟩
/-- every def of the law where it stands -/
structure Defs (K : PySem.W.Frag) (mg : Str → Option Value) (D : List Addr) : Prop where
  tupled : ∃ fd, FnP K "tupled" sTupled (D.getD 0 0) fd
  m_tupled : mg "tupled" = some (.ref (D.getD 0 0))
  box : ∃ fd, FnP K "_law_box" sBox (D.getD 1 0) fd
  m_box : mg "_law_box" = some (.ref (D.getD 1 0))
  take : ∃ fd, FnP K "_law_take" sTake (D.getD 2 0) fd
  m_take : mg "_law_take" = some (.ref (D.getD 2 0))
  cells : ∃ fd, FnP K "_law_cells" sCells (D.getD 3 0) fd
  m_cells : mg "_law_cells" = some (.ref (D.getD 3 0))
  of : ∃ fd, FnP K "_law_of" sOf (D.getD 4 0) fd
  m_of : mg "_law_of" = some (.ref (D.getD 4 0))
  same : ∃ fd, FnP K "_law_same" sSame (D.getD 5 0) fd
  m_same : mg "_law_same" = some (.ref (D.getD 5 0))
  isnum : ∃ fd, FnP K "_law_is_number" sIsNum (D.getD 6 0) fd
  m_isnum : mg "_law_is_number" = some (.ref (D.getD 6 0))
  names : ∃ fd, FnP K "_law_names" sNames (D.getD 7 0) fd
  m_names : mg "_law_names" = some (.ref (D.getD 7 0))
  under : ∃ fd, FnP K "_law_under" sUnder (D.getD 8 0) fd
  m_under : mg "_law_under" = some (.ref (D.getD 8 0))
  marks : ∃ fd, FnP K "_law_marks" sMarks (D.getD 9 0) fd
  m_marks : mg "_law_marks" = some (.ref (D.getD 9 0))
  lookups : ∃ fd, FnP K "_law_lookups" sLookups (D.getD 10 0) fd
  m_lookups : mg "_law_lookups" = some (.ref (D.getD 10 0))
  values : ∃ fd, FnP K "_law_values" sValues (D.getD 11 0) fd
  m_values : mg "_law_values" = some (.ref (D.getD 11 0))
  pairs : ∃ fd, FnP K "_law_pairs_right" sPairs (D.getD 12 0) fd
  m_pairs : mg "_law_pairs_right" = some (.ref (D.getD 12 0))
  right : ∃ fd, FnP K "_law_right" sRight (D.getD 13 0) fd
  m_right : mg "_law_right" = some (.ref (D.getD 13 0))
section
variable {P : Program} {w : World} {K : PySem.W.Frag} {mg : Str → Option Value} {base : Heap} {Da : List Addr}
theorem ok_takeB {f : Addr} {fd : FuncData} (F : FnP K "_law_take" sTake f fd) (mInt : mg "int" = none) : FnOk P w K mg base CX0 1 f fd ["_law_box_here", "_law_below"] spTakeB :=
  (ok_take F mInt).imp fun vs H Q E h => by
    obtain ⟨p, n, m, e, hb, h1, h2, h3, k⟩ := h
    refine ⟨p, n, m, e, hb, h1, h2, h3, fun r x y z a b c d e f g => k r _ a b ⟨x, y, z, upd_same, c, d, e, f, g⟩ fun u o hu n => ?_⟩
    rw [upd_ne n]
    exact hu
theorem ok_right {f : Addr} {fd : FuncData} (F : FnP K "_law_right" sRight f fd) (D : Defs K mg Da) (M : MgT mg) (U : MgU mg) (mSum : mg "sum" = none) (E : EF K mg) (I : FI K) : FnOk P w K mg base CX0 7 f fd ["_law_box_here"] spRight := by
  obtain ⟨fdT, FT⟩ := D.take
  obtain ⟨fdO, FO⟩ := D.of
  obtain ⟨fdN, FN⟩ := D.names
  obtain ⟨fdS, FS⟩ := D.same
  obtain ⟨fdB, FB⟩ := D.isnum
  obtain ⟨fdU, FU⟩ := D.under
  obtain ⟨fdM, FM⟩ := D.marks
  obtain ⟨fdL, FL⟩ := D.lookups
  obtain ⟨fdV, FV⟩ := D.values
  obtain ⟨fdP, FP⟩ := D.pairs
  obtain ⟨fdX, FX⟩ := D.tupled
  have GT := ok_takeB (P := P) (w := w) (base := base) FT M.int
  have bT : Binds K fdT ["_law_box_here", "_law_below"] [] := FT.bindsN fun _ _ _ _ _ _ us hl => match us, hl with | [_, _], _ => rfl
  have GN := ok_names (P := P) (w := w) (base := base) FN FT FO D.m_take D.m_of M.int M.len U.range
  have bN : Binds K fdN ["_law_box_here", "_law_many"] [] := FN.bindsN fun _ _ _ _ _ _ us hl => match us, hl with | [_, _], _ => rfl
  have GS := ok_same (P := P) (w := w) (base := base) FS FB M D.m_same D.m_isnum 2
  have bS : Binds K fdS ["_law_got", "_law_due"] [] := FS.bindsN fun _ _ _ _ _ _ us hl => match us, hl with | [_, _], _ => rfl
  have GU := ok_under (P := P) (w := w) (base := base) FU M U.range U.key U.ix U.ni E
  have bU : Binds K fdU ["_law_error", "_law_sort_so"] [] := FU.bindsN fun _ _ _ _ _ _ us hl => match us, hl with | [_, _], _ => rfl
  have GM := ok_marks (P := P) (w := w) (base := base) FM M E
  have bM : Binds K fdM ["_law_error"] [] := FM.bindsN fun _ _ _ _ _ _ us hl => match us, hl with | [_], _ => rfl
  have GL := ok_lookups (P := P) (w := w) (base := base) FL FX M D.m_tupled E I
  have bL : Binds K fdL ["_law_word_so", "_law_far", "_law_row_so"] [] := FL.bindsN fun _ _ _ _ _ _ us hl => match us, hl with | [_, _, _], _ => rfl
  have GV := ok_values (P := P) (w := w) (base := base) FV FX M D.m_tupled E I
  have bV : Binds K fdV ["_law_word_so", "_law_far", "_law_row_so"] [] := FV.bindsN fun _ _ _ _ _ _ us hl => match us, hl with | [_, _, _], _ => rfl
  have GP := ok_pairs (P := P) (w := w) (base := base) FP FX FS FB FU FM M U D.m_tupled D.m_same D.m_isnum D.m_under D.m_marks E I
  have bP : Binds K fdP ["_law_far", "_law_wide", "_law_row_so", "_law_more_so"] [] := FP.bindsN fun _ _ _ _ _ _ us hl => match us, hl with | [_, _, _, _], _ => rfl
  refine F.ok scRight (fun vs H Q _ h => ?_) (fun cdv A outer s H vs Q _ hr h => ?_)
  · obtain ⟨p, rfl, _⟩ := h
    rfl
  · obtain ⟨p, rfl, hb, k⟩ := h
    have hu := hr.units
    have hr1 : Room 1 _ := hr.mono (by decide)
    have hr3 : Room 3 _ := hr.mono (by decide)
    have hr4 : Room 4 _ := hr.mono (by decide)
    have hr5 : Room 5 _ := hr.mono (by decide)
    refine ⟨_, PSs.nox (pss_cons (ps_par (i := 1) (j := 2) rfl scRight.nd rfl rfl (by decide) rfl rfl (pa_cons (pe_op op_sub (pe_call GT hr1 rfl D.m_take FT.kp bT .nil pass0 (pa_cons (pv 0) (pa_cons (pe_op op_pow pe_int pe_int) pa_nil))) pe_int) (pa_cons (pe_call GT hr1 rfl D.m_take FT.kp bT .nil pass0 (pa_cons (pv 0) (pa_cons pe_int pa_nil))) pa_nil)) (by rfl))
      (pss_cons (ps_par (i := 3) (j := 4) rfl scRight.nd rfl rfl (by decide) rfl rfl (pa_cons (pe_ix ix_list (pe_call GN hr3 rfl D.m_names FN.kp bN .nil pass0 (pa_cons (pv 0) (pa_cons pe_int pa_nil))) pe_int (fun _ _ => rfl)) (pa_cons (pe_call GN hr3 rfl D.m_names FN.kp bN .nil pass0 (pa_cons (pv 0) (pa_cons pe_int pa_nil))) pa_nil)) (by rfl))
      (pss_cons (ps_set (i := 5) scRight.nd rfl (.inl rfl) (pe_tupF (pa_cons (pe_ix ix_list (pv 4) pe_int (fun _ _ => rfl)) (pa_cons (pv 1) (pa_cons (pv 2) pa_nil)))))
      (pss_cons (ps_asg (pe_call GL hr5 rfl D.m_lookups FL.kp bL .nil pass0 (pa_cons (pv 3) (pa_cons (pv 1) (pa_cons (pv 5) pa_nil)))) (pg_tup rfl (pgs_cons (pg_name (i := 6) scRight.nd rfl (.inl rfl)) (pgs_cons (pg_name (i := 7) scRight.nd rfl (.inl rfl)) (pgs_cons (pg_name (i := 8) scRight.nd rfl (.inl rfl)) pgs_nil)))))
      (pss_cons (ps_if (PW.pt (pw_or (pt_not (pt_val (pe_call GS hr4 rfl D.m_same FS.kp bS .nil pass0 (pa_cons (pv 7) (pa_cons (pv 8) pa_nil))))) (pw_or1 (pt_not (pt_val (pe_callB (cr_all rfl) (by rfl) M.all (by decide +kernel) (pa_cons (pe_lc  (own := [("_law_own", 9)]) (g := gName 9) (tt := tYes) rfl scRight.nd (pi_list (pv 6)) (blkOk_by (own := [("_law_own", 9)]) (N := ["_law_box_here", "_law_far", "_law_wide", "_law_word_so", "_law_names_so", "_law_row_so", "_law_found", "_law_told_so", "_law_due", "_law_own", "_law_bit"]) (sc := defScope sRight) (by decide +kernel)) (fun _ _ _ _ _ => pg_name (i := 9) scRight.nd rfl (Or.inl rfl)) (fun _ _ _ _ _ => pts_nil) (fun _ _ _ _ _ => (pe_call GU hr1 rfl D.m_under FU.kp bU .nil pass0 (pa_cons (pv 9) (pa_cons pe_int pa_nil))))) pa_nil))))))) (pss_one ps_never) pss_nil)
      (pss_cons (ps_if (pt_cmpR (op_neD hu) (pe_lc (te := tBM K "list" (rIndex K) (tCall (spMarks K) [] E0 (tCons (tVar 9) tNil)) (tCons (tC (.bl true)) tNil)) (own := [("_law_own", 9)]) (g := gName 9) (tt := tYes) rfl scRight.nd (pi_list (pe_evenV 6 (pv 6))) (blkOk_by (own := [("_law_own", 9)]) (N := ["_law_box_here", "_law_far", "_law_wide", "_law_word_so", "_law_names_so", "_law_row_so", "_law_found", "_law_told_so", "_law_due", "_law_own", "_law_bit"]) (sc := defScope sRight) (by decide +kernel)) (fun _ _ _ _ _ => pg_name (i := 9) scRight.nd rfl (Or.inl rfl)) (fun _ _ _ _ _ => pts_nil) (fun _ _ _ _ _ => (pe_bm PySem.F.plainAttrs_list PySem.F.slot_list_index PySem.F.type_list_index mt_index (by exact (pe_call GM hr1 rfl D.m_marks FM.kp bM .nil pass0 (pa_cons (pv 9) pa_nil))) (pa_cons pe_bl pa_nil)))) (pe_lstF (pa_cons pe_int (pa_cons pe_int (pa_cons pe_int (pa_cons pe_int (pa_cons pe_int pa_nil)))))) (nomark _)) (pss_one ps_never) pss_nil)
      (pss_cons (ps_if (pt_not (pt_val (pe_callB (cr_all rfl) (by rfl) M.all (by decide +kernel) (pa_cons (pe_lc (te := tOp rEq (tCB (rSum K) (tCons (tLc (iList K (tCall (spMarks K) [] E0 (tCons (tVar 9) tNil))) (gName 10) tYes (tCB rInt1 (tCons (tVar 10) tNil)) [10]) tNil)) (tC (.int 1))) (own := [("_law_own", 9)]) (g := gName 9) (tt := tYes) rfl scRight.nd (pi_list (pv 6)) (blkOk_by (own := [("_law_own", 9)]) (N := ["_law_box_here", "_law_far", "_law_wide", "_law_word_so", "_law_names_so", "_law_row_so", "_law_found", "_law_told_so", "_law_due", "_law_own", "_law_bit"]) (sc := defScope sRight) (by decide +kernel)) (fun _ _ _ _ _ => pg_name (i := 9) scRight.nd rfl (Or.inl rfl)) (fun _ _ _ _ _ => pts_nil) (fun _ _ _ _ _ => (pe_cmpR op_eq (pe_callB (cr_sum rfl) (by rfl) mSum (by decide +kernel) (pa_cons (pe_lc (te := tCB rInt1 (tCons (tVar 10) tNil)) (own := [("_law_bit", 10)]) (g := gName 10) (tt := tYes) rfl scRight.nd (pi_list (pe_call GM hr1 rfl D.m_marks FM.kp bM .nil pass0 (pa_cons (pv 9) pa_nil))) (blkOk_by (own := [("_law_bit", 10)]) (N := ["_law_box_here", "_law_far", "_law_wide", "_law_word_so", "_law_names_so", "_law_row_so", "_law_found", "_law_told_so", "_law_due", "_law_own", "_law_bit"]) (sc := scOwn) (by decide +kernel)) (fun _ _ _ _ _ => pg_name (i := 10) scRight.nd rfl (Or.inl rfl)) (fun _ _ _ _ _ => pts_nil) (fun _ _ _ _ _ => pe_callTy call_int1 (by rfl) M.int (by decide +kernel) (pa_cons (pv 10) pa_nil))) pa_nil)) pe_int (nomark _)))) pa_nil)))) (pss_one ps_never) pss_nil)
      (pss_cons (ps_asg (pe_call GV hr5 rfl D.m_values FV.kp bV .nil pass0 (pa_cons (pv 3) (pa_cons (pv 1) (pa_cons (pv 5) pa_nil)))) (pg_tup rfl (pgs_cons (pg_name (i := 6) scRight.nd rfl (.inl rfl)) (pgs_cons (pg_name (i := 7) scRight.nd rfl (.inl rfl)) (pgs_cons (pg_name (i := 8) scRight.nd rfl (.inl rfl)) pgs_nil)))))
      (pss_cons (ps_if (PW.pt (pw_or (pt_not (pt_val (pe_call GS hr4 rfl D.m_same FS.kp bS .nil pass0 (pa_cons (pv 7) (pa_cons (pv 8) pa_nil))))) (pw_or1 (pt_not (pt_val (pe_callB (cr_all rfl) (by rfl) M.all (by decide +kernel) (pa_cons (pe_lc  (own := [("_law_own", 9)]) (g := gName 9) (tt := tYes) rfl scRight.nd (pi_list (pv 6)) (blkOk_by (own := [("_law_own", 9)]) (N := ["_law_box_here", "_law_far", "_law_wide", "_law_word_so", "_law_names_so", "_law_row_so", "_law_found", "_law_told_so", "_law_due", "_law_own", "_law_bit"]) (sc := defScope sRight) (by decide +kernel)) (fun _ _ _ _ _ => pg_name (i := 9) scRight.nd rfl (Or.inl rfl)) (fun _ _ _ _ _ => pts_nil) (fun _ _ _ _ _ => (pe_call GU hr1 rfl D.m_under FU.kp bU .nil pass0 (pa_cons (pv 9) (pa_cons pe_int pa_nil))))) pa_nil))))))) (pss_one ps_never) pss_nil)
      (pss_cons (ps_if (pt_cmpR (op_neD hu) (pe_lc (te := tBM K "list" (rIndex K) (tCall (spMarks K) [] E0 (tCons (tVar 9) tNil)) (tCons (tC (.bl true)) tNil)) (own := [("_law_own", 9)]) (g := gName 9) (tt := tYes) rfl scRight.nd (pi_list (pe_evenV 6 (pv 6))) (blkOk_by (own := [("_law_own", 9)]) (N := ["_law_box_here", "_law_far", "_law_wide", "_law_word_so", "_law_names_so", "_law_row_so", "_law_found", "_law_told_so", "_law_due", "_law_own", "_law_bit"]) (sc := defScope sRight) (by decide +kernel)) (fun _ _ _ _ _ => pg_name (i := 9) scRight.nd rfl (Or.inl rfl)) (fun _ _ _ _ _ => pts_nil) (fun _ _ _ _ _ => (pe_bm PySem.F.plainAttrs_list PySem.F.slot_list_index PySem.F.type_list_index mt_index (by exact (pe_call GM hr1 rfl D.m_marks FM.kp bM .nil pass0 (pa_cons (pv 9) pa_nil))) (pa_cons pe_bl pa_nil)))) (pe_lstF (pa_cons pe_int (pa_cons pe_int (pa_cons pe_int (pa_cons pe_int (pa_cons pe_int (pa_cons pe_int (pa_cons pe_int (pa_cons pe_int pa_nil))))))))) (nomark _)) (pss_one ps_never) pss_nil)
      (pss_cons (ps_if (pt_not (pt_val (pe_callB (cr_all rfl) (by rfl) M.all (by decide +kernel) (pa_cons (pe_lc (te := tOp rEq (tCB (rSum K) (tCons (tLc (iList K (tCall (spMarks K) [] E0 (tCons (tVar 9) tNil))) (gName 10) tYes (tCB rInt1 (tCons (tVar 10) tNil)) [10]) tNil)) (tC (.int 1))) (own := [("_law_own", 9)]) (g := gName 9) (tt := tYes) rfl scRight.nd (pi_list (pv 6)) (blkOk_by (own := [("_law_own", 9)]) (N := ["_law_box_here", "_law_far", "_law_wide", "_law_word_so", "_law_names_so", "_law_row_so", "_law_found", "_law_told_so", "_law_due", "_law_own", "_law_bit"]) (sc := defScope sRight) (by decide +kernel)) (fun _ _ _ _ _ => pg_name (i := 9) scRight.nd rfl (Or.inl rfl)) (fun _ _ _ _ _ => pts_nil) (fun _ _ _ _ _ => (pe_cmpR op_eq (pe_callB (cr_sum rfl) (by rfl) mSum (by decide +kernel) (pa_cons (pe_lc (te := tCB rInt1 (tCons (tVar 10) tNil)) (own := [("_law_bit", 10)]) (g := gName 10) (tt := tYes) rfl scRight.nd (pi_list (pe_call GM hr1 rfl D.m_marks FM.kp bM .nil pass0 (pa_cons (pv 9) pa_nil))) (blkOk_by (own := [("_law_bit", 10)]) (N := ["_law_box_here", "_law_far", "_law_wide", "_law_word_so", "_law_names_so", "_law_row_so", "_law_found", "_law_told_so", "_law_due", "_law_own", "_law_bit"]) (sc := scOwn) (by decide +kernel)) (fun _ _ _ _ _ => pg_name (i := 10) scRight.nd rfl (Or.inl rfl)) (fun _ _ _ _ _ => pts_nil) (fun _ _ _ _ _ => pe_callTy call_int1 (by rfl) M.int (by decide +kernel) (pa_cons (pv 10) pa_nil))) pa_nil)) pe_int (nomark _)))) pa_nil)))) (pss_one ps_never) pss_nil)
      (pss_one (ps_ret (pe_call GP hr rfl D.m_pairs FP.kp bP .nil pass0 (pa_cons (pv 1) (pa_cons (pv 2) (pa_cons (pe_callTy call_tupF (by rfl) M.tuple (by decide +kernel) (pa_cons (pv 4) pa_nil)) (pa_cons (pe_callTy call_tupF (by rfl) M.tuple (by decide +kernel) (pa_cons (pe_revV 4 (pv 4)) pa_nil)) pa_nil)))))))))))))))))), ?_⟩
    have SS : SameBut p H H := SameBut.of (Same.refl H)
    refine ⟨_, rfl, _, _, rfl, rfl, ⟨by decide, by decide, by decide⟩, p, 0, _, rfl, hb, by decide, by decide, by decide, fun r1 H1 r10 r11 hb1 s1 => ?_⟩
    replace SS := SameBut.trans SS s1
    refine ⟨_, _, rfl, rfl, _, rfl, p, 1, _, rfl, hb1, by decide, by decide, by decide, fun r2 H2 r20 r21 hb2 s2 => ?_⟩
    replace SS := SameBut.trans SS s2
    refine ⟨_, _, rfl, ?_⟩
    refine ⟨_, rfl, p, 2, 1, rfl, hb2, by decide, by decide, fun l3 ws3 H3 lw3 lx3 hl3 h3 hb3 s3 => ?_⟩
    replace SS := SameBut.trans SS s3
    obtain ⟨z, rfl⟩ : ∃ z, ws3 = [z] := by
      cases ws3 with
      | nil => cases lw3
      | cons z r =>
        cases r with
        | nil => exact ⟨z, rfl⟩
        | cons _ _ => cases lw3
    refine ⟨l3, _, _, _, rfl, rfl, SqL.of h3, rfl, _, rfl, p, 8, 2, rfl, hb3, by decide, by decide, fun l4 ws4 H4 lw4 lx4 hl4 h4 hb4 s4 => ?_⟩
    replace SS := SameBut.trans SS s4
    obtain ⟨y0, y1, rfl⟩ : ∃ y0 y1, ws4 = [y0, y1] := by
      cases ws4 with
      | nil => cases lw4
      | cons z r =>
        cases r with
        | nil => cases lw4
        | cons y r =>
          cases r with
          | nil => exact ⟨z, y, rfl⟩
          | cons _ _ => cases lw4
    refine ⟨_, _, rfl, ?_⟩
    refine ⟨_, rfl, l4, _, _, _, rfl, rfl, SqL.of h4, rfl, _, rfl, _, rfl, by show 3 ≤ sizeLine; decide, fun row H5 hrow0 s5 hrow => ?_⟩
    replace SS := SameBut.trans SS (SameBut.of s5)
    replace h4 := s5 _ _ h4
    have hf : ∀ x ∈ ([V.str y0, V.int (r1 - 5), V.int r2] : List V), Fl x := by
      intro x hx
      rcases List.mem_cons.mp hx with rfl | hx
      · exact .inr ⟨_, rfl⟩
      rcases List.mem_cons.mp hx with rfl | hx
      · exact .inl ⟨_, rfl⟩
      rcases List.mem_cons.mp hx with rfl | hx
      · exact .inl ⟨_, rfl⟩
      · cases hx
    refine ⟨_, rfl, _, rfl, _, rfl, _, _, row, _, rfl, hrow, hf, by show 3 ≤ 100; decide, fun ta Ka pka => ?_⟩
    obtain ⟨lfa, lta, lda, foa, toa, dua, hta, hlfa, hlta, hlda, FFa, tla, EEa, ska⟩ := pka
    replace FFa : Fs K Ka foa [0, 0, 1, 1, 2, 2, 3, 3, 4, 4] := FFa
    replace SS := SameBut.trans SS (SameBut.of ska)
    replace h4 := ska _ _ h4
    replace hrow := ska _ _ hrow
    have lna : foa.length = 10 := FFa.length
    refine ⟨ta, _, rfl, SqT.of hta, rfl, _, _, rfl, _, _, rfl, _, _, rfl, rfl, ?_⟩
    refine ⟨_, rfl, _, rfl, .ref lta, .ref lda, rfl, .inr ⟨lta, lda, _, _, rfl, rfl, .inl ⟨hlta, hlda⟩, tla, EEa⟩, fun La sla => ⟨true, rfl, iteF ?_⟩⟩
    replace SS := SameBut.trans SS (SameBut.of sla)
    replace h4 := sla _ _ h4
    replace hrow := sla _ _ hrow
    replace hlfa := sla _ _ hlfa
    replace FFa := FFa.same sla
    refine ⟨_, rfl, lfa, rfl, ⟨_, SqL.of hlfa⟩, fun ua hua => ?_⟩
    refine lc_each (K := K) (a := lfa) (xs := foa) (qs := ([0, 0, 1, 1, 2, 2, 3, 3, 4, 4] : List Nat)) (k := 9) (fun H y q => y = V.bl true) (fun _ h => h) hua hlfa (by rw [lna]; decide) lna (fun _ => rfl) ?_ ?_
    · rintro i x q Hx C hx hq sx ⟨zs, hzs⟩ kC
      obtain ⟨p', rfl, hp⟩ := paired_at FFa i hx hq
      obtain ⟨hq1, hq2⟩ := (by decide : ∀ q ∈ ([0, 0, 1, 1, 2, 2, 3, 3, 4, 4] : List Nat), q < 22 ∧ cod (cB q) = 0) q (List.mem_of_getElem? hq)
      exact ⟨_, rfl, p', q, (by rw [hq2]; rfl), hq1, hp.same sx, fun H5 s5 => kC _ H5 s5 rfl⟩
    rintro ysa Ma hma sma ppa
    obtain rfl := all_true ppa
    refine ⟨ua, List.replicate 10 true, rfl, SqL.of hma, true, rfl, iteF ?_⟩
    replace SS := SameBut.trans SS (SameBut.of sma)
    replace h4 := sma _ _ h4
    replace hrow := sma _ _ hrow
    replace hlfa := sma _ _ hlfa
    replace FFa := FFa.same sma
    refine ⟨lfa, foa, rfl, hlfa, by rw [lna]; decide, fun va Na hva sna hna => ?_⟩
    replace SS := SameBut.trans SS (SameBut.of sna)
    replace h4 := sna _ _ h4
    replace hrow := sna _ _ hrow
    replace hlfa := sna _ _ hlfa
    replace FFa := FFa.same sna
    have EVa : Fs K Na (evens foa) [0, 1, 2, 3, 4] := FFa.even
    have lea : (evens foa).length = 5 := EVa.length
    refine ⟨va, rfl, ⟨_, SqL.of hna⟩, fun wa hwa => ?_⟩
    refine lc_each (K := K) (a := va) (xs := evens foa) (qs := ([0, 1, 2, 3, 4] : List Nat)) (k := 9) (fun H y q => y = V.int ((q : Nat) : Int)) (fun _ h => h) hwa hna (by rw [lea]; decide) lea (fun _ => rfl) ?_ ?_
    · rintro i x q Hx C hx hq sx ⟨zs, hzs⟩ kC
      obtain ⟨p', rfl, hp⟩ := paired_at EVa i hx hq
      have hq1 := (by decide : ∀ q ∈ ([0, 1, 2, 3, 4] : List Nat), q < 22) q (List.mem_of_getElem? hq)
      refine ⟨_, rfl, p', q, rfl, hq1, hp.same sx, fun l H5 hl h5 s5 => ?_⟩
      exact ⟨.inl ⟨rfl, _, SqL.of h5⟩, l, _, _, q, _, rfl, rfl, SqL.of h5, rfl, marks_flat q, marks_get q q hq1, (by rw [decide_eq_true rfl]; rfl), (fun m z hm hz => marks_no hq1 hm hz), kC _ H5 s5 rfl⟩
    rintro yta Oa hoa soa poa
    obtain rfl := all_int poa
    refine ⟨by show 5 ≤ sizeLine; decide, fun xa Ra hxa sra hra => ?_⟩
    have hIa : Ra xa = some (.lst (([0, 1, 2, 3, 4] : List Int).map V.int)) := hra
    have hJa : Ra wa = some (.lst (([0, 1, 2, 3, 4] : List Int).map V.int)) := sra _ _ hoa
    have ena : PyData.eqv (.list (([0, 1, 2, 3, 4] : List Int).map PyData.int)) (.list (([0, 1, 2, 3, 4] : List Int).map PyData.int)) = true := by decide
    refine ⟨_, _, .lst (SqL.of hJa) (dpAll_int _), .lst (SqL.of hIa) (dpAll_int _), by decide, by decide, ?_⟩
    rw [ena]
    refine ⟨_, rfl, iteF ?_⟩
    have sqa := Same.trans soa sra
    replace SS := SameBut.trans SS (SameBut.of sqa)
    replace h4 := sqa _ _ h4
    replace hrow := sqa _ _ hrow
    replace hlfa := sqa _ _ hlfa
    replace FFa := FFa.same sqa
    refine ⟨_, rfl, lfa, rfl, ⟨_, SqL.of hlfa⟩, fun aa haa => ?_⟩
    refine lc_each (K := K) (a := lfa) (xs := foa) (qs := ([0, 0, 1, 1, 2, 2, 3, 3, 4, 4] : List Nat)) (k := 9) (fun H y q => y = V.bl true) (fun _ h => h) haa hlfa (by rw [lna]; decide) lna (fun _ => rfl) ?_ ?_
    · rintro i x q Hx C hx hq sx ⟨zs, hzs⟩ kC
      obtain ⟨p', rfl, hp⟩ := paired_at FFa i hx hq
      have hq1 := (by decide : ∀ q ∈ ([0, 0, 1, 1, 2, 2, 3, 3, 4, 4] : List Nat), q < 22) q (List.mem_of_getElem? hq)
      refine ⟨_, rfl, p', q, rfl, hq1, hp.same sx, fun l H5 hl h5 s5 => ?_⟩
      refine ⟨l, rfl, ⟨_, SqL.of h5⟩, fun D2 hD2 => ?_⟩
      refine lc_each (K := K) (a := l) (xs := marks q) (qs := marksB q) (k := 10) (fun H y c => y = V.int (if c = true then 1 else 0)) (fun _ h => h) hD2 h5 (by show 22 ≤ 1000; decide) rfl (fun _ => rfl) ?_ ?_
      · rintro i2 x2 q2 Hx2 C2 hx2 hq2 sx2 ⟨zs2, hzs2⟩ kC2
        have e2 : x2 = V.bl q2 := by
          rw [marks_eq, List.getElem?_map, hq2] at hx2
          exact (Option.some.inj hx2).symm
        subst e2
        exact ⟨_, rfl, .inr ⟨_, rfl, kC2 _ _ (Same.refl _) rfl⟩⟩
      rintro yu HU hU sU pU
      obtain rfl := all_bits pU
      refine ⟨D2, _, rfl, SqL.of hU, rfl, ?_⟩
      rw [marks_sum q hq1]
      exact kC _ HU (Same.trans s5 sU) (by rw [decide_eq_true rfl])
    rintro yva Ta hTa sTa pTa
    obtain rfl := all_true pTa
    refine ⟨aa, List.replicate 10 true, rfl, SqL.of hTa, true, rfl, iteF ?_⟩
    replace SS := SameBut.trans SS (SameBut.of sTa)
    replace h4 := sTa _ _ h4
    replace hrow := sTa _ _ hrow
    refine ⟨_, rfl, _, rfl, _, rfl, _, _, row, _, rfl, hrow, hf, by show 3 ≤ 100; decide, fun tb Kb pkb => ?_⟩
    obtain ⟨lfb, ltb, ldb, fob, tob, dub, htb, hlfb, hltb, hldb, FFb, tlb, EEb, skb⟩ := pkb
    replace FFb : Fs K Kb fob [6, 6, 7, 7, 9, 9, 10, 10, 11, 11, 12, 12, 15, 15, 20, 20] := FFb
    replace SS := SameBut.trans SS (SameBut.of skb)
    replace h4 := skb _ _ h4
    replace hrow := skb _ _ hrow
    have lnb : fob.length = 16 := FFb.length
    refine ⟨tb, _, rfl, SqT.of htb, rfl, _, _, rfl, _, _, rfl, _, _, rfl, rfl, ?_⟩
    refine ⟨_, rfl, _, rfl, .ref ltb, .ref ldb, rfl, .inr ⟨ltb, ldb, _, _, rfl, rfl, .inl ⟨hltb, hldb⟩, tlb, EEb⟩, fun Lb slb => ⟨true, rfl, iteF ?_⟩⟩
    replace SS := SameBut.trans SS (SameBut.of slb)
    replace h4 := slb _ _ h4
    replace hrow := slb _ _ hrow
    replace hlfb := slb _ _ hlfb
    replace FFb := FFb.same slb
    refine ⟨_, rfl, lfb, rfl, ⟨_, SqL.of hlfb⟩, fun ub hub => ?_⟩
    refine lc_each (K := K) (a := lfb) (xs := fob) (qs := ([6, 6, 7, 7, 9, 9, 10, 10, 11, 11, 12, 12, 15, 15, 20, 20] : List Nat)) (k := 9) (fun H y q => y = V.bl true) (fun _ h => h) hub hlfb (by rw [lnb]; decide) lnb (fun _ => rfl) ?_ ?_
    · rintro i x q Hx C hx hq sx ⟨zs, hzs⟩ kC
      obtain ⟨p', rfl, hp⟩ := paired_at FFb i hx hq
      obtain ⟨hq1, hq2⟩ := (by decide : ∀ q ∈ ([6, 6, 7, 7, 9, 9, 10, 10, 11, 11, 12, 12, 15, 15, 20, 20] : List Nat), q < 22 ∧ cod (cB q) = 1) q (List.mem_of_getElem? hq)
      exact ⟨_, rfl, p', q, (by rw [hq2]; rfl), hq1, hp.same sx, fun H5 s5 => kC _ H5 s5 rfl⟩
    rintro ysb Mb hmb smb ppb
    obtain rfl := all_true ppb
    refine ⟨ub, List.replicate 16 true, rfl, SqL.of hmb, true, rfl, iteF ?_⟩
    replace SS := SameBut.trans SS (SameBut.of smb)
    replace h4 := smb _ _ h4
    replace hrow := smb _ _ hrow
    replace hlfb := smb _ _ hlfb
    replace FFb := FFb.same smb
    refine ⟨lfb, fob, rfl, hlfb, by rw [lnb]; decide, fun vb Nb hvb snb hnb => ?_⟩
    replace SS := SameBut.trans SS (SameBut.of snb)
    replace h4 := snb _ _ h4
    replace hrow := snb _ _ hrow
    replace hlfb := snb _ _ hlfb
    replace FFb := FFb.same snb
    have EVb : Fs K Nb (evens fob) [6, 7, 9, 10, 11, 12, 15, 20] := FFb.even
    have leb : (evens fob).length = 8 := EVb.length
    refine ⟨vb, rfl, ⟨_, SqL.of hnb⟩, fun wb hwb => ?_⟩
    refine lc_each (K := K) (a := vb) (xs := evens fob) (qs := ([6, 7, 9, 10, 11, 12, 15, 20] : List Nat)) (k := 9) (fun H y q => y = V.int ((q : Nat) : Int)) (fun _ h => h) hwb hnb (by rw [leb]; decide) leb (fun _ => rfl) ?_ ?_
    · rintro i x q Hx C hx hq sx ⟨zs, hzs⟩ kC
      obtain ⟨p', rfl, hp⟩ := paired_at EVb i hx hq
      have hq1 := (by decide : ∀ q ∈ ([6, 7, 9, 10, 11, 12, 15, 20] : List Nat), q < 22) q (List.mem_of_getElem? hq)
      refine ⟨_, rfl, p', q, rfl, hq1, hp.same sx, fun l H5 hl h5 s5 => ?_⟩
      exact ⟨.inl ⟨rfl, _, SqL.of h5⟩, l, _, _, q, _, rfl, rfl, SqL.of h5, rfl, marks_flat q, marks_get q q hq1, (by rw [decide_eq_true rfl]; rfl), (fun m z hm hz => marks_no hq1 hm hz), kC _ H5 s5 rfl⟩
    rintro ytb Ob hob sob pob
    obtain rfl := all_int pob
    refine ⟨by show 8 ≤ sizeLine; decide, fun xb Rb hxb srb hrb => ?_⟩
    have hIb : Rb xb = some (.lst (([6, 7, 9, 10, 11, 12, 15, 20] : List Int).map V.int)) := hrb
    have hJb : Rb wb = some (.lst (([6, 7, 9, 10, 11, 12, 15, 20] : List Int).map V.int)) := srb _ _ hob
    have enb : PyData.eqv (.list (([6, 7, 9, 10, 11, 12, 15, 20] : List Int).map PyData.int)) (.list (([6, 7, 9, 10, 11, 12, 15, 20] : List Int).map PyData.int)) = true := by decide
    refine ⟨_, _, .lst (SqL.of hJb) (dpAll_int _), .lst (SqL.of hIb) (dpAll_int _), by decide, by decide, ?_⟩
    rw [enb]
    refine ⟨_, rfl, iteF ?_⟩
    have sqb := Same.trans sob srb
    replace SS := SameBut.trans SS (SameBut.of sqb)
    replace h4 := sqb _ _ h4
    replace hrow := sqb _ _ hrow
    replace hlfb := sqb _ _ hlfb
    replace FFb := FFb.same sqb
    refine ⟨_, rfl, lfb, rfl, ⟨_, SqL.of hlfb⟩, fun ab hab => ?_⟩
    refine lc_each (K := K) (a := lfb) (xs := fob) (qs := ([6, 6, 7, 7, 9, 9, 10, 10, 11, 11, 12, 12, 15, 15, 20, 20] : List Nat)) (k := 9) (fun H y q => y = V.bl true) (fun _ h => h) hab hlfb (by rw [lnb]; decide) lnb (fun _ => rfl) ?_ ?_
    · rintro i x q Hx C hx hq sx ⟨zs, hzs⟩ kC
      obtain ⟨p', rfl, hp⟩ := paired_at FFb i hx hq
      have hq1 := (by decide : ∀ q ∈ ([6, 6, 7, 7, 9, 9, 10, 10, 11, 11, 12, 12, 15, 15, 20, 20] : List Nat), q < 22) q (List.mem_of_getElem? hq)
      refine ⟨_, rfl, p', q, rfl, hq1, hp.same sx, fun l H5 hl h5 s5 => ?_⟩
      refine ⟨l, rfl, ⟨_, SqL.of h5⟩, fun D2 hD2 => ?_⟩
      refine lc_each (K := K) (a := l) (xs := marks q) (qs := marksB q) (k := 10) (fun H y c => y = V.int (if c = true then 1 else 0)) (fun _ h => h) hD2 h5 (by show 22 ≤ 1000; decide) rfl (fun _ => rfl) ?_ ?_
      · rintro i2 x2 q2 Hx2 C2 hx2 hq2 sx2 ⟨zs2, hzs2⟩ kC2
        have e2 : x2 = V.bl q2 := by
          rw [marks_eq, List.getElem?_map, hq2] at hx2
          exact (Option.some.inj hx2).symm
        subst e2
        exact ⟨_, rfl, .inr ⟨_, rfl, kC2 _ _ (Same.refl _) rfl⟩⟩
      rintro yu HU hU sU pU
      obtain rfl := all_bits pU
      refine ⟨D2, _, rfl, SqL.of hU, rfl, ?_⟩
      rw [marks_sum q hq1]
      exact kC _ HU (Same.trans s5 sU) (by rw [decide_eq_true rfl])
    rintro yvb Tb hTb sTb pTb
    obtain rfl := all_true pTb
    refine ⟨ab, List.replicate 16 true, rfl, SqL.of hTb, true, rfl, iteF ?_⟩
    replace SS := SameBut.trans SS (SameBut.of sTb)
    replace h4 := sTb _ _ h4
    replace hrow := sTb _ _ hrow
    refine ⟨_, rfl, _, rfl, _, rfl, l4, _, rfl, h4, fun g1 G1 hg1 sg1 hh1 => ?_⟩
    refine ⟨l4, _, rfl, sg1 _ _ h4, fun g2 G2 hg2 sg2 hh2 => ?_⟩
    refine ⟨g2, _, rfl, hh2, fun g3 G3 hg3 sg3 hh3 => ?_⟩
    have fl2 : ∀ a b : Str, ∀ x ∈ ([V.str a, V.str b] : List V), Fl x := fun a b x hx => by
      rcases List.mem_cons.mp hx with rfl | hx
      · exact .inr ⟨_, rfl⟩
      rcases List.mem_cons.mp hx with rfl | hx
      · exact .inr ⟨_, rfl⟩
      · cases hx
    refine ⟨_, _, g1, g3, _, _, rfl, sg3 _ _ (sg2 _ _ hh1), hh3, fl2 _ _, fl2 _ _, by show 2 ≤ 100; decide, by show 2 ≤ 100; decide, fun G4 sg4 => ?_⟩
    exact k _ (SameBut.trans SS (SameBut.of (Same.trans (Same.trans (Same.trans sg1 sg2) sg3) sg4)))
end
end Own
namespace Own
open PySem PySem.Spec PyProof.Rows L2
/-! The law. -/
def spLaw (K : PySem.W.Frag) : Sp := fun vs H Q _ => ∃ (a : Addr) (ns : List Int), vs = [.ref a] ∧ SqL K H a (ns.map V.int) ∧ ns.length ≤ 63 ∧ ∀ H', Q (.bl true) H'
section
variable {P : Program} {w : World} {K : PySem.W.Frag} {mg : Str → Option Value} {base : Heap} {Da : List Addr}
theorem ok_law {f : Addr} {fd : FuncData} (F : FnP K "law" sLaw f fd) (D : Defs K mg Da) (M : MgT mg) (U : MgU mg) (mSum : mg "sum" = none) (mAbs : mg "abs" = none) (mEnum : mg "enumerate" = none) (E : EF K mg) (I : FI K) : FnOk P w K mg base CX0 8 f fd ["_law_script"] (spLaw K) := by
  obtain ⟨fdC, FC⟩ := D.cells
  obtain ⟨fdB, FB⟩ := D.box
  obtain ⟨fdR, FR⟩ := D.right
  have GC := ok_cells (P := P) (w := w) (base := base) FC M.int M.list mEnum
  have bC : Binds K fdC ["_law_script", "_law_most_so"] [] := FC.bindsN fun _ _ _ _ _ _ us hl => match us, hl with | [_, _], _ => rfl
  have GB := ok_box (P := P) (w := w) (base := base) FB M.int M.len mAbs
  have bB : Binds K fdB ["_law_script", "_law_k"] [] := FB.bindsN fun _ _ _ _ _ _ us hl => match us, hl with | [_, _], _ => rfl
  have GR := ok_right (P := P) (w := w) (base := base) FR D M U mSum E I
  have bR : Binds K fdR ["_law_box_here"] [] := FR.bindsN fun _ _ _ _ _ _ us hl => match us, hl with | [_], _ => rfl
  refine F.ok scLaw (fun vs H Q _ h => ?_) (fun cdv A outer s H vs Q _ hr h => ?_)
  · obtain ⟨a, ns, rfl, _⟩ := h
    rfl
  · obtain ⟨a, ns, rfl, hS, hl, k⟩ := h
    have hr1 : Room 1 _ := hr.mono (by decide)
    refine ⟨_, PSs.nox (pss_cons (ps_set (i := 1) scLaw.nd rfl (Or.inr rfl) (pe_call GC hr1 rfl D.m_cells FC.kp bC .nil pass0 (pa_cons (pv 0) (pa_cons pe_int pa_nil))))
      (pss_one (ps_ret (pe_callB (cr_all rfl) (by rfl) M.all (by decide +kernel) (pa_cons (pe_lc (own := [("_law_k", 2)]) (g := gName 2) (tt := tYes) rfl scLaw.nd (pi_range1 rfl U.range (pa_cons (pe_callB call_len_seq (by rfl) M.len PySem.boot_len (pa_cons (pv 1) pa_nil)) pa_nil))
        (blkOk_by (own := [("_law_k", 2)]) (N := ["_law_script", "_law_cells_here", "_law_k"]) (sc := defScope sLaw) (by decide +kernel)) (fun _ _ _ _ _ => pg_name (i := 2) scLaw.nd rfl (Or.inl rfl)) (fun _ _ _ _ _ => pts_nil)
        (fun _ _ _ _ _ => pe_call GR hr rfl D.m_right FR.kp bR .nil pass0 (pa_cons (pe_call GB hr1 rfl D.m_box FB.kp bB .nil pass0 (pa_cons (pv 1) (pa_cons (pv 2) pa_nil))) pa_nil))) pa_nil))))), ?_⟩
    refine ⟨_, rfl, a, ns, 3, rfl, hS, hl, by decide, by decide, fun l cs H1 hc hl1 h1 s1 => ?_⟩
    refine ⟨_, rfl, l, _, rfl, .inl (SqL.of h1), _, rfl, by rw [List.length_map]; omega, by rw [List.length_map]; omega, fun D2 hD => ?_⟩
    rw [List.length_map]
    refine lc_range (lo := 0) (n := (cs.length : Int).toNat) (fun i H2 => H2 D2 = some (.lst ((List.replicate i true).map V.bl)) ∧ Same H1 H2) ?_ ?_ ?_
    · exact ⟨upd_same, Same.upd (Same.refl _) hD⟩
    · rintro i H2 hi ⟨h2, s2⟩
      have hi' : i < cs.length := by omega
      refine ⟨rfl, ?_⟩
      refine ⟨_, rfl, _, rfl, l, cs, i, (by rw [Int.zero_add]; rfl), SqL.of (s2 _ _ h1), by omega, fun p x y z hp hb => ?_⟩
      refine ⟨p, rfl, hb, fun H3 s3 => ?_⟩
      have s4 := mkSame hp s3
      refine ⟨_, s4 _ _ h2, by rw [List.length_map, List.length_replicate]; exact small1000 (by omega), ?_, Same.put (Same.trans s2 s4) hD⟩
      rw [upd_same, List.replicate_succ', List.map_append]
      rfl
    · rintro H2 ⟨h2, s2⟩
      refine ⟨D2, _, rfl, SqL.of h2, ?_⟩
      have e : (List.replicate ((cs.length : Int).toNat) true).all id = true := by
        rw [List.all_eq_true]
        intro x hx
        rw [List.eq_of_mem_replicate hx]
        rfl
      rw [e]
      exact k H2
end
end Own
/-! What the top leaves, read in one run. -/
namespace Own
open PySem PySem.Spec PyProof.Rows L2
def eqB (K : PySem.W.Frag) (C : Addr) (x : Str) (r : Option Value) : Bool := He.eqO (PySem.W.findIn K (.ref C) x) (some r)
def clsB (K : PySem.W.Frag) (i : Nat) : Bool :=
  PySem.W.excInitIn K (cA K i) (cB i).mro (cB i).nw && (PySem.W.excOver K (cA K i) (cB i).mro && (PySem.W.hasDictIn K (cA K i) && (eqB K (cA K i) "__setattr__" (some (.builtin "object.__setattr__")) && (eqB K (cA K i) "__getattribute__" (some (.builtin "BaseException.__getattribute__")) &&
  (eqB K (cA K i) "__getattr__" none && (decide (PySem.W.subIn K (.ref (cA K i)) (.type "BaseException") = some true) && (eqB K (cA K i) "__class__" (some (.builtin "object.__class__")) && (decide (PySem.W.mroIn K (cA K i) (.type "object") = some true) && (PySem.W.keepIn K (.ref (cA K i)) &&
  (eqB K (cA K i) "__init__" (some (.ref (fA K i))) && (PySem.W.isFn K (.ref (fA K i)) && (((cT i).all fun f => eqB K (cA K i) f none) &&
  (decide (PySem.W.kitOne K (.ref (cA K i)) (.type "LookupError") = some (decide (cB i = .L))) && (decide (PySem.W.kitOne K (.ref (cA K i)) (.type "ValueError") = some (decide (cB i = .V))) && (decide (PySem.W.kitOne K (.ref (cA K i)) (.type "RuntimeError") = some (decide (cB i = .R))) &&
  (decide (PySem.W.kitAny K (.ref (cA K i)) [.type "KeyError", .type "IndexError", .type "NotImplementedError"] = some false) && ((List.range 22).all fun j => decide (PySem.W.kitOne K (.ref (cA K i)) (.ref (cA K j)) = some (decide (i = j))))))))))))))))))))
def oneB (K : PySem.W.Frag) : Bool := decide (PySem.W.specialIn K (.builtin "object.__class__") "__get__" = some (some (.builtin "getset_descriptor.__get__"))) && decide (PySem.W.takesIn K (.builtin "object.__class__") = some true)
def exB (K : PySem.W.Frag) : Bool := oneB K && (List.range 22).all (clsB K)
/-! ### the Hook -/
def hookE (n : Nat) (fa : List He.Fa) (fn : List He.DefD) (ex : PySem.W.Frag → Bool) : PySem.W.Hook where
  α := He.AlD × Bool
  obs := fun s => (He.obsDG n fa fn s.heap.get?, ex (He.frG s.heap.get? (He.asD s.heap.get? n)))
  val := fun _ => (He.valD fn, true)
  says := fun _ h => ∃ K : PySem.W.Frag, K.In h ∧ He.SaysD fa fn K ∧ ex K = true
  of := fun _ _ e => ⟨_, He.frG_in, congrArg (fun z : He.AlD × Bool => z.1) e, congrArg (fun z : He.AlD × Bool => z.2) e⟩
  keeps := fun _ _ _ ⟨K, hK, c⟩ k => ⟨K, PySem.W.Frag.In.keeps hK k, c⟩
def dF (x : Str) (st : Stmt) : He.DefD := ⟨(x, none), x, x, defArgs st, defBody st, defScope st, [], []⟩
def dI (i : Nat) : He.DefD := ⟨(cN i, some "__init__"), "__init__", cN i ++ ".__init__", defArgs (sI i), defBody (sI i), defScope (sI i), [], []⟩
def fnL : List He.DefD := [dF "tupled" sTupled, dF "_law_box" sBox, dF "_law_take" sTake, dF "_law_cells" sCells, dF "_law_of" sOf, dF "_law_same" sSame, dF "_law_is_number" sIsNum, dF "_law_names" sNames, dF "_law_under" sUnder, dF "_law_marks" sMarks, dF "_law_lookups" sLookups, dF "_law_values" sValues, dF "_law_pairs_right" sPairs, dF "_law_right" sRight, dF "law" sLaw]
def fnI : List He.DefD := (List.range 22).map dI
def fnA : List He.DefD := fnL ++ fnI
def faG : List He.Fa := [.glo "tupled", .glo "_law_box", .glo "_law_take", .glo "_law_cells", .glo "_law_of", .glo "_law_same", .glo "_law_is_number", .glo "_law_names", .glo "_law_under", .glo "_law_marks", .glo "_law_lookups", .glo "_law_values", .glo "_law_pairs_right", .glo "_law_right", .glo "law"]
def faC : List He.Fa := [.glo "NoKind", .glo "NoPlace", .glo "NoOrder", .glo "NoLine", .glo "NoGap", .glo "BadFields", .glo "BadKind", .glo "Twice", .glo "Unlike", .glo "BadLine", .glo "BadCall", .glo "TooMany", .glo "Passed", .glo "NoWay", .glo "NeverShown", .glo "NotShown", .glo "OtherBook", .glo "Unsettled", .glo "Turned", .glo "BadPlan", .glo "Uneven", .glo "Untrue"]
def faF : List He.Fa := [.free "isinstance", .free "list", .free "tuple", .free "dict", .free "int", .free "bool", .free "str", .free "len", .free "all", .free "zip", .free "range", .free "KeyError", .free "IndexError", .free "NotImplementedError", .free "sum", .free "abs", .free "enumerate", .free "LookupError", .free "ValueError", .free "RuntimeError"]
def faA : List He.Fa := faG ++ (faC ++ faF)
abbrev R : PySem.W.OpenRow := PySem.W.OpenLaw.row PySem.Challenge.rw_stillgood_k12_errors_and_their_values
abbrev hk : PySem.W.Hook := hookE 5 faA fnA exB
def ob (s : PySem.W.SharedT) : He.AlD × Bool := (He.obsDG 5 faA fnA (HandSHeadRun.getT s), exB (He.frG (HandSHeadRun.getT s) (He.asD (HandSHeadRun.getT s) 5)))
theorem ob_eq (s : PySem.W.SharedT) : ob s = hk.obs s.abs := by
  have e : HandSHeadRun.getT s = s.abs.heap.get? := funext (HandSHeadRun.getT_eq s)
  unfold ob
  rw [e]
  rfl
def looseA : List Str := ["tupled", "NoKind", "NoPlace", "NoOrder", "NoLine", "NoGap", "BadFields", "BadKind", "Twice", "Unlike", "BadLine", "BadCall", "TooMany", "Passed", "NoWay", "NeverShown", "NotShown", "OtherBook"]
def looseB : List Str := ["Unsettled", "Turned", "BadPlan", "Uneven", "Untrue", "_law_box", "_law_take", "_law_cells", "_law_of", "_law_same", "_law_is_number", "_law_names", "_law_under", "_law_marks", "_law_lookups", "_law_values", "_law_pairs_right", "_law_right"]
def loose : List Str := looseA ++ looseB
theorem run (w : World) : HandSHeadRun.RunEq R (PySem.W.view R.prog [39]) hk ob 6000 loose w := by
  intro os
  kernel_rfl
end Own
/-! The end. -/
namespace Own
open PySem PySem.Spec PyProof.Rows L2
theorem fa_at : ∀ i, i < 22 → faA[15 + i]? = some (.glo (cN i))
  | 0, _ => rfl
  | 1, _ => rfl
  | 2, _ => rfl
  | 3, _ => rfl
  | 4, _ => rfl
  | 5, _ => rfl
  | 6, _ => rfl
  | 7, _ => rfl
  | 8, _ => rfl
  | 9, _ => rfl
  | 10, _ => rfl
  | 11, _ => rfl
  | 12, _ => rfl
  | 13, _ => rfl
  | 14, _ => rfl
  | 15, _ => rfl
  | 16, _ => rfl
  | 17, _ => rfl
  | 18, _ => rfl
  | 19, _ => rfl
  | 20, _ => rfl
  | 21, _ => rfl
  | n + 22, h => absurd h (by omega)
theorem ef_of {K : PySem.W.Frag} {h : Heap} {mg : Str → Option Value} (X : K.In h) (G : h.Ns mainGlobals mg) (c : He.SaysD faA fnA K) (e : exB K = true) : EF K mg := by
  obtain ⟨e1, e2⟩ := He.ba e
  obtain ⟨n1, n2⟩ := He.ba e1
  have hn := of_decide_eq_true n1
  have ht := of_decide_eq_true n2
  have all : ∀ i, i < 22 → clsB K i = true := fun i hi => List.all_eq_true.mp e2 i (List.mem_range.mpr hi)
  have key : ∀ i, i < 22 → XC K (cA K i) (cB i) ∧ PySem.W.findIn K (.ref (cA K i)) "__init__" = some (some (.ref (fA K i))) ∧ PySem.W.isFn K (.ref (fA K i)) = true ∧ (∀ f ∈ cT i, PySem.W.findIn K (.ref (cA K i)) f = some none) ∧
      PySem.W.kitOne K (.ref (cA K i)) (.type "LookupError") = some (decide (cB i = .L)) ∧ PySem.W.kitOne K (.ref (cA K i)) (.type "ValueError") = some (decide (cB i = .V)) ∧ PySem.W.kitOne K (.ref (cA K i)) (.type "RuntimeError") = some (decide (cB i = .R)) ∧
      PySem.W.kitAny K (.ref (cA K i)) [.type "KeyError", .type "IndexError", .type "NotImplementedError"] = some false ∧ ∀ j, j < 22 → PySem.W.kitOne K (.ref (cA K i)) (.ref (cA K j)) = some (decide (i = j)) := fun i hi => by
    have a := all i hi
    unfold clsB at a
    obtain ⟨a1, a⟩ := He.ba a
    obtain ⟨a2, a⟩ := He.ba a
    obtain ⟨a3, a⟩ := He.ba a
    obtain ⟨a4, a⟩ := He.ba a
    obtain ⟨a5, a⟩ := He.ba a
    obtain ⟨a6, a⟩ := He.ba a
    obtain ⟨a7, a⟩ := He.ba a
    obtain ⟨a8, a⟩ := He.ba a
    obtain ⟨a9, a⟩ := He.ba a
    obtain ⟨a10, a⟩ := He.ba a
    obtain ⟨a11, a⟩ := He.ba a
    obtain ⟨a12, a⟩ := He.ba a
    obtain ⟨a13, a⟩ := He.ba a
    obtain ⟨a14, a⟩ := He.ba a
    obtain ⟨a15, a⟩ := He.ba a
    obtain ⟨a16, a⟩ := He.ba a
    obtain ⟨a17, a18⟩ := He.ba a
    refine ⟨⟨a1, a2, a3, He.eqO_ok a4, ⟨He.eqO_ok a5, He.eqO_ok a6, of_decide_eq_true a7, a3, He.eqO_ok a8, hn, ht, of_decide_eq_true a9⟩, a10⟩, He.eqO_ok a11, a12, fun f hf => He.eqO_ok (List.all_eq_true.mp a13 f hf), of_decide_eq_true a14, of_decide_eq_true a15, of_decide_eq_true a16, of_decide_eq_true a17, fun j hj => of_decide_eq_true (List.all_eq_true.mp a18 j (List.mem_range.mpr hj))⟩
  exact {
    xc := fun i hi => (key i hi).1
    ini := fun i hi => (key i hi).2.1
    fn := fun i hi => (key i hi).2.2.1
    gl := fun i hi => He.glo_ok X G (c.fact (15 + i) (f := .glo (cN i)) (fa_at i hi))
    no := fun i hi => (key i hi).2.2.2.1
    kit := fun i j hi hj => (key i hi).2.2.2.2.2.2.2.2 j hj
    kitL := fun i hi => (key i hi).2.2.2.2.1
    kitV := fun i hi => (key i hi).2.2.2.2.2.1
    kitR := fun i hi => (key i hi).2.2.2.2.2.2.1
    kitN := fun i hi => (key i hi).2.2.2.2.2.2.2.1
    mL := He.free_ok X G (c.fact 54 (f := .free "LookupError") rfl)
    mV := He.free_ok X G (c.fact 55 (f := .free "ValueError") rfl)
    mR := He.free_ok X G (c.fact 56 (f := .free "RuntimeError") rfl) }
theorem fi_of {K : PySem.W.Frag} (c : He.SaysD faA fnA K) : FI K where
  f0 := c.def_ 15 (d := dI 0) rfl
  f1 := c.def_ 16 (d := dI 1) rfl
  f2 := c.def_ 17 (d := dI 2) rfl
  f3 := c.def_ 18 (d := dI 3) rfl
  f4 := c.def_ 19 (d := dI 4) rfl
  f5 := c.def_ 20 (d := dI 5) rfl
  f6 := c.def_ 21 (d := dI 6) rfl
  f7 := c.def_ 22 (d := dI 7) rfl
  f8 := c.def_ 23 (d := dI 8) rfl
  f9 := c.def_ 24 (d := dI 9) rfl
  f10 := c.def_ 25 (d := dI 10) rfl
  f11 := c.def_ 26 (d := dI 11) rfl
  f12 := c.def_ 27 (d := dI 12) rfl
  f13 := c.def_ 28 (d := dI 13) rfl
  f14 := c.def_ 29 (d := dI 14) rfl
  f15 := c.def_ 30 (d := dI 15) rfl
  f16 := c.def_ 31 (d := dI 16) rfl
  f17 := c.def_ 32 (d := dI 17) rfl
  f18 := c.def_ 33 (d := dI 18) rfl
  f19 := c.def_ 34 (d := dI 19) rfl
  f20 := c.def_ 35 (d := dI 20) rfl
  f21 := c.def_ 36 (d := dI 21) rfl
def dAs (K : PySem.W.Frag) : List Addr := [He.ga K "tupled", He.ga K "_law_box", He.ga K "_law_take", He.ga K "_law_cells", He.ga K "_law_of", He.ga K "_law_same", He.ga K "_law_is_number", He.ga K "_law_names", He.ga K "_law_under", He.ga K "_law_marks", He.ga K "_law_lookups", He.ga K "_law_values", He.ga K "_law_pairs_right", He.ga K "_law_right"]
theorem defs_of {K : PySem.W.Frag} {h : Heap} {mg : Str → Option Value} (X : K.In h) (G : h.Ns mainGlobals mg) (c : He.SaysD faA fnA K) : Defs K mg (dAs K) where
  tupled := c.def_ 0 (d := dF "tupled" sTupled) rfl
  m_tupled := He.glo_ok X G (c.fact 0 (f := .glo "tupled") rfl)
  box := c.def_ 1 (d := dF "_law_box" sBox) rfl
  m_box := He.glo_ok X G (c.fact 1 (f := .glo "_law_box") rfl)
  take := c.def_ 2 (d := dF "_law_take" sTake) rfl
  m_take := He.glo_ok X G (c.fact 2 (f := .glo "_law_take") rfl)
  cells := c.def_ 3 (d := dF "_law_cells" sCells) rfl
  m_cells := He.glo_ok X G (c.fact 3 (f := .glo "_law_cells") rfl)
  of := c.def_ 4 (d := dF "_law_of" sOf) rfl
  m_of := He.glo_ok X G (c.fact 4 (f := .glo "_law_of") rfl)
  same := c.def_ 5 (d := dF "_law_same" sSame) rfl
  m_same := He.glo_ok X G (c.fact 5 (f := .glo "_law_same") rfl)
  isnum := c.def_ 6 (d := dF "_law_is_number" sIsNum) rfl
  m_isnum := He.glo_ok X G (c.fact 6 (f := .glo "_law_is_number") rfl)
  names := c.def_ 7 (d := dF "_law_names" sNames) rfl
  m_names := He.glo_ok X G (c.fact 7 (f := .glo "_law_names") rfl)
  under := c.def_ 8 (d := dF "_law_under" sUnder) rfl
  m_under := He.glo_ok X G (c.fact 8 (f := .glo "_law_under") rfl)
  marks := c.def_ 9 (d := dF "_law_marks" sMarks) rfl
  m_marks := He.glo_ok X G (c.fact 9 (f := .glo "_law_marks") rfl)
  lookups := c.def_ 10 (d := dF "_law_lookups" sLookups) rfl
  m_lookups := He.glo_ok X G (c.fact 10 (f := .glo "_law_lookups") rfl)
  values := c.def_ 11 (d := dF "_law_values" sValues) rfl
  m_values := He.glo_ok X G (c.fact 11 (f := .glo "_law_values") rfl)
  pairs := c.def_ 12 (d := dF "_law_pairs_right" sPairs) rfl
  m_pairs := He.glo_ok X G (c.fact 12 (f := .glo "_law_pairs_right") rfl)
  right := c.def_ 13 (d := dF "_law_right" sRight) rfl
  m_right := He.glo_ok X G (c.fact 13 (f := .glo "_law_right") rfl)
theorem mgt_of {K : PySem.W.Frag} {h : Heap} {mg : Str → Option Value} (X : K.In h) (G : h.Ns mainGlobals mg) (c : He.SaysD faA fnA K) : MgT mg where
  isi := He.free_ok X G (c.fact 37 (f := .free "isinstance") rfl)
  list := He.free_ok X G (c.fact 38 (f := .free "list") rfl)
  tuple := He.free_ok X G (c.fact 39 (f := .free "tuple") rfl)
  dict := He.free_ok X G (c.fact 40 (f := .free "dict") rfl)
  int := He.free_ok X G (c.fact 41 (f := .free "int") rfl)
  bool := He.free_ok X G (c.fact 42 (f := .free "bool") rfl)
  str := He.free_ok X G (c.fact 43 (f := .free "str") rfl)
  len := He.free_ok X G (c.fact 44 (f := .free "len") rfl)
  all := He.free_ok X G (c.fact 45 (f := .free "all") rfl)
  zip := He.free_ok X G (c.fact 46 (f := .free "zip") rfl)
theorem mgu_of {K : PySem.W.Frag} {h : Heap} {mg : Str → Option Value} (X : K.In h) (G : h.Ns mainGlobals mg) (c : He.SaysD faA fnA K) : MgU mg where
  range := He.free_ok X G (c.fact 47 (f := .free "range") rfl)
  key := He.free_ok X G (c.fact 48 (f := .free "KeyError") rfl)
  ix := He.free_ok X G (c.fact 49 (f := .free "IndexError") rfl)
  ni := He.free_ok X G (c.fact 50 (f := .free "NotImplementedError") rfl)
theorem facts {P : Program} {w : World} {K : PySem.W.Frag} {h : Heap} {mg : Str → Option Value} {f : Addr} (X : K.In h) (G : h.Ns mainGlobals mg) (hfa : mg ("law" : Str) = some (.ref f)) (c : He.SaysD faA fnA K) (e : exB K = true) :
    ∃ fd : FuncData, (∀ (s : Shared) (v : Value), BindsTo s fd ⟨[v], []⟩ [("_law_script", v)]) ∧ ∀ base : Heap, K.In base → base.Ns mainGlobals mg → FnOk P w K mg base CX0 8 f fd ["_law_script"] (spLaw K) := by
  obtain ⟨fd, F⟩ := c.def_ 14 (d := dF "law" sLaw) rfl
  have e0 := hfa.symm.trans (He.glo_ok X G (c.fact 14 (f := .glo "law") rfl))
  cases e0
  have b := FunD.bindsA (ps := ["_law_script"]) F fun _ _ _ _ _ _ us hl => match us, hl with | [_], _ => rfl
  exact ⟨fd, fun s v => b s [v] rfl, fun base _ _ => ok_law (P := P) (w := w) (base := base) F (defs_of X G c) (mgt_of X G c) (mgu_of X G c) (He.free_ok X G (c.fact 51 (f := .free "sum") rfl)) (He.free_ok X G (c.fact 52 (f := .free "abs") rfl)) (He.free_ok X G (c.fact 53 (f := .free "enumerate") rfl)) (ef_of X G c e) (fi_of c)⟩
end Own
open PySem PySem.W PySem.Calls PyProof.Rows
theorem PySem.Challenge.cw_stillgood_k12_errors_and_their_values_holds : PySem.Challenge.rw_stillgood_k12_errors_and_their_values.Holds := by
  w_on; o_law
  refine HandSHeadRun.head_any (r := OpenLaw.row PySem.Challenge.rw_stillgood_k12_errors_and_their_values) (q := view (OpenLaw.row PySem.Challenge.rw_stillgood_k12_errors_and_their_values).prog [39]) (H := Own.hk) (ob := Own.ob) (M := 6000) (loose := Own.loose) (d := HandSHeadRun.topDef (OpenLaw.row PySem.Challenge.rw_stillgood_k12_errors_and_their_values).prog 39) (kwd := []) Own.ob_eq
    (by kernel_rfl) (fun s => by kernel_rfl) Own.run (by kernel_rfl) (by kernel_rfl) (by kernel_rfl) (by rfl) (by first | assumption | decide +kernel) (by decide +kernel) ⟨rfl, rfl, rfl, rfl, rfl, by decide +kernel⟩ ?hw ?hc
  case hw => w_witness2
  case hc =>
    refine L2.walk_ofE (l := PySem.Challenge.rw_stillgood_k12_errors_and_their_values) (n := 63) (k := 8) (x := "_law_script") (CX := L2.CX0) rfl (by decide) (by kernel_rfl) ⟨rfl, by decide, by decide⟩ ?F (fun _ _ _ _ z => z)
    intro w mg fa h Y G hmg0
    obtain ⟨K, KX, c, ce⟩ := Y
    have hmg : mg ("law" : PySem.Str) = some (.ref fa) := by
      have e : (HandSHeadRun.topDef (OpenLaw.row PySem.Challenge.rw_stillgood_k12_errors_and_their_values).prog 39).name = ("law" : PySem.Str) := by kernel_rfl
      rw [← e]
      exact hmg0
    obtain ⟨fd, hb, hF⟩ := Own.facts (P := (PySem.Challenge.rw_stillgood_k12_errors_and_their_values).prog) (w := w) KX G hmg c ce
    exact ⟨K, fd, Own.spLaw K, KX, hb, fun H a ns hl _ hS => ⟨a, ns, rfl, hS, hl, fun _ => rfl⟩, hF⟩
