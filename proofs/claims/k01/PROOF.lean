import PyProof.Rows.All
import Wide.All
import OpenK.AllK
import Wide.FinOn
import HandS.ForExc
import HandS.ExcInit
import HandS.IsInst
import HandS.Defaults
import HandS.ExcValue
import KE.KExcIs
import HandS.ForMost
import HandS.Walk
import HandS.OwnEq
import HandS.DictComp
import HandS.SortInts
import HandS.SetFor
import HandS.Conv
import HandS.ListItems
import HandS.ExcField
import HandS.Flow
import HandS.Style
import KE.GoesMore
import KE.GoesEnum
import HandS.List
import OpenK.KWalk
import OpenK.KMake
import PyProof.InstNe
import HandS.More
import HandS.Star
import HandS.Zip
import PyProof.Rows.SeqGen
import HandS.Words
import PySem.Challenge.RW_apartguards_k01_trees_told
set_option Elab.async false
set_option linter.all false
set_option maxRecDepth 100000
set_option maxHeartbeats 4000000
/-! Own exceptions with an __init__ of their own as plain values: made by place or by names, their fields read, asked by isinstance. -/
namespace PySem
namespace XV
open PySem.W PySem.Calls PyProof.Rows PySem.HandSPX
section
variable {M : Model} {A : Around} {E : Value → Shared → Prop} {h : Heap} {g : Array GenState} {d : Drawn} {t : Nat} {os : OsState}
variable {nm q : Str} {C N : Addr} {bs bm bmB : List Value} {hdct : Bool} {sn : List Str} {sub : List Value} {ab : Bool} {col : Option Bool} {dd : Option Addr} {k0 k1 k2 k3 k5 : Option Value} {B newId initId : String}
theorem check_newK (F : ExcBaseFacts B newId initId bmB) (hT : ∀ X : String, bm.contains (.type X) = bmB.contains (.type X)) {rest : List Value} {kw : List (Str × Value)} {Q : Unit → Shared → Prop}
    (hC : h.get? C = some (excClassObj nm q C N bs bm hdct sn sub ab col dd k0 k1 k2 k3 k5 newId)) (hq : Q () ⟨h, g, d, t, os⟩) : wpAny M A (checkBuiltinCall newId ⟨.ref C :: rest, kw⟩) Q E ⟨h, g, d, t, os⟩ := by
  have hcont : (Value.ref C :: bm).contains (.type B) = true := by rw [List.contains_cons, hT, F.hasB, Bool.or_true]
  have hstar := F.noStar
  simp only [checkBuiltinCall, F.newKind, F.newSplit, F.newRow]
  repeat (first | refine wpAny_loadPart_at hC ?_ | (refine wpAny_isSubtype_exc hC ?_; rw [hcont]) | refine wpAny_staticBase_exc hC ?_ | refine wpAny_madeBy_exc hC ?_ | simp only [bne_self_eq_false, Bool.false_eq_true, if_false] | wp_step)
  exact hq
end
section
variable {prog : Program} {w : World} {A : Around} {E : Value → Shared → Prop} {R : Result → Shared → Prop} {h : Heap} {g : Array GenState} {d : Drawn} {t : Nat} {os : OsState}
variable {nm q : Str} {C N : Addr} {bs bm bmB : List Value} {hdct : Bool} {sn : List Str} {sub : List Value} {ab : Bool} {col : Option Bool} {dd : Option Addr} {k0 k1 k2 k3 k5 : Option Value} {B newId initId : String}
theorem new_K (F : ExcBaseFacts B newId initId bmB) (hT : ∀ X : String, bm.contains (.type X) = bmB.contains (.type X)) {rest : List Value} {kw : List (Str × Value)}
    (hC : h.get? C = some (excClassObj nm q C N bs bm hdct sn sub ab col dd k0 k1 k2 k3 k5 newId))
    (hq : R (.ok (.ret (.ref (h.objs.size + 1)))) ⟨(h.push { cls := .type "tuple", data := .seq rest.toArray }).push
      { cls := .ref C, data := .fields #[.ref h.objs.size, .none, .none, .none, .bool false, .none] }, g, d, t, os⟩) (hrest : rest.length ≤ sizeLine) :
    codeAny (model prog w) A (.builtin newId ⟨.ref C :: rest, kw⟩) R ⟨h, g, d, t, os⟩ := by
  have hends := F.ends
  have hcB : (Value.ref C :: bm).contains (.type B) = true := by rw [List.contains_cons, hT, F.hasB, Bool.or_true]
  have hcA : (Value.ref C :: bm).contains (.type "AttributeError") = false := by rw [List.contains_cons, hT, F.noAttr]; rfl
  have hcN : (Value.ref C :: bm).contains (.type "NameError") = false := by rw [List.contains_cons, hT, F.noName]; rfl
  refine codeAny_builtinAt F.entry ?_
  unfold Builtin.«BaseException.__new__»
  refine wpAt_bind ?_
  show wpAt _ _ _ (stack >>= _) _ _ _
  refine wpAt_bind (wpAt_stack fun p below => wpAt_of_wpAny ?_)
  wp_walk
  refine wpAt_of_wpAny ?_
  rw [F.owner]
  repeat (first | with_reducible refine wpAny_madeHere_exc F.canon hC ?_ | with_reducible refine wpAny_loadPart_at hC ?_ | (with_reducible refine wpAny_isSubtype_exc hC ?_; first | rw [hcB] | rw [hcA] | rw [hcN]) | wp_step)
  show R _ _
  rw [Heap.size_push]
  exact hq
theorem type_call_K (F : ExcBaseFacts B newId initId bmB) (hT : ∀ X : String, bm.contains (.type X) = bmB.contains (.type X)) {rest : List Value} {kw : List (Str × Value)} {fI : Addr} {Q : Fin → Shared → Prop}
    (hC : h.get? C = some (excClassObj nm q C N bs bm hdct sn sub ab col dd k0 k1 k2 k3 k5 newId))
    (hi : W.Looks (model prog w) h (typeLookup (.ref C) "__init__") (some (.ref fI))) (hb : ∀ self, W.Looks (model prog w) h (bindSpecial (.ref fI) self) (.ref fI, [self])) (hrest : rest.length ≤ sizeLine)
    (hq : codeAny (model prog w) A (.call (.ref fI) ⟨.ref (h.objs.size + 1) :: rest, kw⟩)
      (fun r s' => match r with | .ok (.ret v) => v = .none ∧ Q (.done (.ret (.ref (h.objs.size + 1)))) s' | .ok _ => False | .error e => E e s')
      ⟨(h.push (W.kdv_tup rest)).push (excO C h.objs.size), g, d, t, os⟩) :
    wpAny (model prog w) A (Builtin.«type.__call__» ⟨.ref C :: rest, kw⟩) Q E ⟨h, g, d, t, os⟩ := by
  repeat (first | with_reducible refine wpAny_loadPart_at hC ?_ | with_reducible refine wpAny_madeBy_exc hC ?_ | wp_step)
  refine codeAny_call_builtin_code (Code.quiet_builtin _ F.quiet) (check_newK F hT hC ?_)
  refine new_K F hT hC ?_ hrest
  show wpAny _ _ _ _ _ _
  have k : ∀ b o, h.get? b = some o → ((h.push (W.kdv_tup rest)).push (excO C h.objs.size)).get? b = some o := fun b o e => Heap.get?_push_of_some _ (Heap.get?_push_of_some _ e)
  have hC₁ := k _ _ hC
  have hget : ((h.push (W.kdv_tup rest)).push (excO C h.objs.size)).get? (h.objs.size + 1) = some (excO C h.objs.size) := by heap_get
  have hcC : (Value.ref C :: bm).contains (.ref C) = true := by simp
  have i1 := hi.keeps k
  have b1 := (hb (.ref (h.objs.size + 1))).keeps k
  unfold isInstance
  repeat (first | with_reducible refine wpAny_loadPart_at hget ?_ | (with_reducible refine wpAny_isSubtype_exc hC₁ ?_; rw [hcC]) | wp_step)
  show wpAny _ _ (typeLookup (.ref C) _) _ _ _
  refine i1.at ?_
  refine wpAny_holding (wpAny_bind (b1.at ?_))
  refine wpAny_bind (wpAny_call (codeAny_mono hq fun r s' z => ?_))
  rcases r with e | (v | _ | _ | _) <;> first | exact z | exact z.elim | skip
  obtain ⟨rfl, z⟩ := z
  first
    | exact wpAny_pure (wpAny_pure z)
    | (wp_walk; exact z)
theorem call_K (F : ExcBaseFacts B newId initId bmB) (hT : ∀ X : String, bm.contains (.type X) = bmB.contains (.type X)) {rest : List Value} {kw : List (Str × Value)} {fI : Addr}
    (hC : h.get? C = some (excClassObj nm q C N bs bm hdct sn sub ab col dd k0 k1 k2 k3 k5 newId))
    (hi : W.Looks (model prog w) h (typeLookup (.ref C) "__init__") (some (.ref fI))) (hb : ∀ self, W.Looks (model prog w) h (bindSpecial (.ref fI) self) (.ref fI, [self])) (hrest : rest.length ≤ sizeLine)
    (hq : codeAny (model prog w) (A.under (.builtin "type.__call__" ⟨.ref C :: rest, kw⟩)) (.call (.ref fI) ⟨.ref (h.objs.size + 1) :: rest, kw⟩) (W.InitBack (h.objs.size + 1) R)
      ⟨(h.push (W.kdv_tup rest)).push (excO C h.objs.size), g, d, t, os⟩) :
    codeAny (model prog w) A (.call (.ref C) ⟨rest, kw⟩) R ⟨h, g, d, t, os⟩ := by
  have f1 := tc_lookup
  have f2 := tc_bind (.ref C)
  have hTy : (⟨h, g, d, t, os⟩ : Shared).TypeIs (.ref C) "type" := ⟨_, hC, rfl⟩
  refine codeAny_of_tree ?_
  show wpAny _ _ (callAny (.ref C) _) _ _ _
  repeat (any_goals (first | assumption | with_reducible refine wpAny_loadPart_at hC ?_ | wp_step))
  refine ⟨rfl, ?_⟩
  refine codeAny_call_builtin_at (Code.quiet_builtin _ (by decide +kernel)) entry_typeCall (wpAny_check_type_call_sub hC (type_call_K F hT hC hi hb hrest ?_))
  refine codeAny_mono hq fun r s' z => ?_
  rcases r with e | (v | _ | _ | _) <;> exact z
end
end XV
end PySem

namespace L2
open PySem PySem.Spec PyProof.Rows
/-- all that an own exception class with an __init__ says in the written part -/
structure XvC (K : PySem.W.Frag) (C fI : Addr) : Prop where
  ox : OexC K C
  iC : PySem.W.findIn K (.ref C) "__init__" = some (some (.ref fI))
  tI : PySem.W.typeIn K (.ref fI) = some (.type "function")
  ga : PySem.W.findIn K (.ref C) "__getattribute__" = some (some (.builtin "BaseException.__getattribute__"))
  gg : PySem.W.findIn K (.ref C) "__getattr__" = some none
  hd : PySem.W.hasDictIn K C = true
  hcl : (PySem.W.clsIn K C).isSome = true
  kl : PySem.W.findIn K (.ref C) "__class__" = some (some (.builtin "object.__class__"))
  sp : PySem.W.specialIn K (.builtin "object.__class__") "__get__" = some (some (.builtin "getset_descriptor.__get__"))
  tk : PySem.W.takesIn K (.builtin "object.__class__") = some true
  mo : PySem.W.mroIn K C (.type "object") = some true
/-- C(e, .., k = v, ..) as a value -/
def tNewX (C : Addr) (n m : Nat) (sp : Sp) (gV : List V → List V → List V) (t tk : TA) : TE := fun σ H Q => t σ H fun vs H1 => tk σ H1 fun zs H2 => vs.length = n ∧ zs.length = m ∧ n ≤ 1000 ∧
  ∀ a, H2 a = none → sp (gV (.ref a :: vs) zs) (upd H2 a (exo a C none)) (fun v H3 => v = .non ∧ Q (.ref a) H3) E0
section
variable {X : Cx} {CX : CXT} {k n : Nat} {fI C : Addr} {fd : FuncData} {ps ks : List Str} {sp : Sp} {x f : Str} {p pos : Pos} {e : Expr} {es : List Expr} {kws : List Keyword} {te : TE} {t tk : TA} {g : List Value → List Value → List Value} {gV : List V → List V → List V}
theorem run_newX {pins : List (Addr × Obj)} {σ : St} {H : Hp} {s : Shared} {Q : VK} {us ws : List Value} {vs zs : List V} (T : XvC X.K C fI) (F1 : FnOk X.prog X.w X.K X.mg X.base CX k fI fd ps sp) (hr : Room (k + 1) X.A) (hb : KBn X.K fd ps (n + 1) ks g gV)
    (hx : Passes CX X E0) (I1 : Inv X pins σ H s) (r : Vals vs us) (rz : Vals zs ws) (l1 : vs.length = n) (l2 : zs.length = ks.length) (hn : n ≤ 1000)
    (h : ∀ a, H a = none → sp (gV (.ref a :: vs) zs) (upd H a (exo a C none)) (fun v H3 => v = .non ∧ Q (.ref a) H3) E0) :
    wpAny (model X.prog X.w) X.A (call (.ref C) us (ks.zip ws)) (EP X pins σ Q) X.xe s := by
  obtain ⟨nm, q, N, bs, bm, sn, sub, ab, col, dd, k0, k1, k2, k3, k5, hC, hbm⟩ := T.ox.cls
  obtain ⟨hp, gg, dr, tk, os⟩ := s
  have hsz : hp.objs.size ≤ hp.objs.size + 1 := Nat.le_succ _
  have hq := h (hp.objs.size + 1) (I1.hok.fresh hsz)
  have kk : ∀ b o, hp.get? b = some o → ((hp.push (PySem.W.kdv_tup us)).push (PySem.HandSPX.excO C hp.objs.size)).get? b = some o := fun b o e => Heap.get?_push_of_some _ (Heap.get?_push_of_some _ e)
  have hget : ((hp.push (PySem.W.kdv_tup us)).push (PySem.HandSPX.excO C hp.objs.size)).get? (hp.objs.size + 1) = some (PySem.HandSPX.excO C hp.objs.size) := by heap_get
  have I2 : Inv X pins σ (upd H (hp.objs.size + 1) (exo (hp.objs.size + 1) C none)) ⟨(hp.push (PySem.W.kdv_tup us)).push (PySem.HandSPX.excO C hp.objs.size), gg, dr, tk, os⟩ :=
    I1.laid (t' := tk) (a := hp.objs.size + 1) (o := exo (hp.objs.size + 1) C none) (h' := (hp.push (PySem.W.kdv_tup us)).push (PySem.HandSPX.excO C hp.objs.size)) kk hsz (exo_ok hget)
  have r1 : Vals (V.ref (hp.objs.size + 1) :: vs) (Value.ref (hp.objs.size + 1) :: us) := .cons rfl r
  have r2 := hb.rel r1 rz
  have e1 : (Value.ref (hp.objs.size + 1) :: us).length = n + 1 := r1.length.symm.trans (congrArg Nat.succ l1)
  have e2 : ws.length = ks.length := rz.length.symm.trans l2
  have hus : us.length ≤ sizeLine := by
    rw [← r.length, sizeLine_eq]
    omega
  refine wpAny_call (PySem.XV.call_K F.excBase_ValueError (fun Y => PySem.HandSPX.refsVE_contains Y bm hbm) (I1.kIn _ _ hC) (PySem.W.looks_findIn I1.kIn T.iC) (fun self => PySem.W.bind_fn I1.kIn self T.tI) hus
    (codeAny_mono (F1.run _ X.stack _ _ ⟨Value.ref (hp.objs.size + 1) :: us, ks.zip ws⟩ (g (Value.ref (hp.objs.size + 1) :: us) ws) _ _ E0 (hr.make C us (ks.zip ws))
      (I2.env0.make C us (ks.zip ws)) (hb.to _ (Value.ref (hp.objs.size + 1) :: us) ws I2.kIn e1 e2) r2 hq) fun r s' hq' => ?_))
  cases r with
  | error e => exact hx pins σ _ _ e s' I2 hq'
  | ok fl =>
    cases fl with
    | ret u =>
      obtain ⟨v, H', I3, rv, ev, q3⟩ := I2.after hq'
      subst ev
      exact ⟨rv, ⟨V.ref (hp.objs.size + 1), H', I3, rfl, q3⟩⟩
    | next => exact False.elim hq'
    | brk => exact False.elim hq'
    | cont => exact False.elim hq'
/-- C(k = v, ..) -/
theorem pe_newXK (T : XvC X.K C fI) (F : FnOk X.prog X.w X.K X.mg X.base CX k fI fd ps sp) (hr : Room (k + 1) X.A) (hg : Gl X x) (hm : X.mg x = some (.ref C)) (hb : KBn X.K fd ps 1 ks g gV) (hx : Passes CX X E0) (hkw : PK X kws tk)
    (hall : (backToKw pos (keywordEach kws X.env)).all (·.1.isSome) = true := by rfl) (hks : (backToKw pos (keywordEach kws X.env)).filterMap (·.1) = ks := by rfl) (hdb : (x == ("__debug__" : Str)) = false := by decide)
    (hpl : ((backTo pos (starEach [] X.env)).any (·.1) || (backToKw pos (keywordEach kws X.env)).any (·.1.isNone)) = false := by rfl) :
    PE X (.Call (.Name x p) [] kws pos) (tNewX C 0 ks.length sp gV tNil tk) := by
  refine ⟨fun pins s σ H Q I h => ?_⟩
  refine wpAny_Call_Name_kw (ld_glob I hg hm ?_ hdb)
  refine PySem.W.callWith_KW0 (h₀ := X.base) I.ok.mod.kin T.ox.kC hall ?_ hpl
  refine thn (hkw.run pos pins s σ H _ I h) fun ws s2 ⟨zs, H2, I2, rz, l1, l2, l3, q2⟩ => ⟨I2.kIn, ?_⟩
  rw [hks]
  exact run_newX (us := []) (vs := []) T F hr hb hx I2 .nil rz rfl l2 (Nat.zero_le _) q2
/-- C(e, ..) -/
theorem pe_newX (T : XvC X.K C fI) (F : FnOk X.prog X.w X.K X.mg X.base CX k fI fd ps sp) (hr : Room (k + 1) X.A) (hg : Gl X x) (hm : X.mg x = some (.ref C)) (hb : KBn X.K fd ps (n + 1) [] g gV) (hx : Passes CX X E0) (ha : PA X (e :: es) t)
    (hdb : (x == ("__debug__" : Str)) = false := by decide) (he : starEach (e :: es) X.env = (false, eval e X.env) :: starEach es X.env := by rfl) (hpl : (backTo pos (starEach es X.env)).any (·.1) = false := by rfl) :
    PE X (.Call (.Name x p) (e :: es) [] pos) (tNewX C n 0 sp gV t tNil) := by
  refine ⟨fun pins s σ H Q I h => ?_⟩
  refine wpAny_Call_Name_kw (ld_glob I hg hm ?_ hdb)
  refine PySem.W.callWith_K (h₀ := X.base) I.ok.mod.kin T.ox.kC (thn (ha.run pos pins s σ H _ I h) fun us s1 ⟨vs, H1, I1, r, l1, l2, l3, q⟩ => ⟨I1.kIn, ?_⟩) he hpl
  exact run_newX (ks := []) (ws := []) (zs := []) T F hr hb hx I1 r .nil l1 rfl l3 q
/-- e.f, e such an exception -/
def tXvF (K : PySem.W.Frag) (f : Str) (te : TE) : TE := fun σ H Q => te σ H fun x H1 => ∃ (a C fI d : Addr) (fs : List (Str × V)) (v : V), x = .ref a ∧ XvC K C fI ∧ PySem.W.findIn K (.ref C) f = some none ∧ H1 a = some (exo a C (some d)) ∧ H1 d = some (exd d fs) ∧ fs.lookup f = some v ∧ Q v H1
theorem pe_xvf (he : PE X e te) (hb : attributeBase e f X.env (eval e X.env) = eval e X.env := by rfl) : PE X (.Attribute e f pos) (tXvF X.K f te) := by
  refine ⟨fun pins s σ H Q I h => ?_⟩
  refine attr_of hb (thn (he.run pins s σ H _ I h) fun u s1 hh => ?_)
  obtain ⟨x, H1, I1, rx, a, C, fI, d, fs, v, ex, T, hno, ea, ed, l, q⟩ := hh
  subst ex
  obtain rfl : u = Value.ref a := rx
  obtain ⟨t1, ho⟩ := exo_at I1.hok ea
  obtain ⟨mA, hns, hr⟩ := exd_at I1.hok ed
  obtain ⟨od, hd, hl⟩ := lookIn_ns hns
  obtain ⟨u, hu, ru⟩ := RelO.some_of (v := v) (o := mA f) (by rw [← l]; exact hr f)
  have J : PySem.W.InstAt s1.heap a _ C (some od) := ⟨ho, rfl, rfl, hd⟩
  exact HandSPX.exc_get I1.kIn J T.ga T.gg T.ox.exC (PySem.W.findObj_own T.hd hno rfl (by rw [hl, hu])) (handed_of ru) ⟨v, H1, I1.tok _, ru, q⟩
/-- isinstance(e, c), e such an exception -/
def rIsXv (K : PySem.W.Frag) : List V → Hp → VK → Prop := fun xs H Q => ∃ (a C fI d : Addr) (fs : List (Str × V)) (c : V) (u : Value) (b : Bool), xs = [.ref a, c] ∧ XvC K C fI ∧ H a = some (exo a C (some d)) ∧ H d = some (exd d fs) ∧ ClsV c u ∧ PySem.W.kitOne K (.ref C) u = some b ∧ Q (.bl b) H
theorem call_isXv : CallR X (.builtin "isinstance") (rIsXv X.K) := by
  intro pins s σ H xs us Q I r h
  obtain ⟨a, C, fI, d, fs, c, u, b, rfl, T, ea, ed, k, e, q⟩ := h
  obtain ⟨u1, u2, rfl, r1, r2⟩ := vals2 r
  have e2 := k.eq r2
  subst e2
  obtain rfl : u1 = Value.ref a := r1
  obtain ⟨t1, ho⟩ := exo_at I.hok ea
  obtain ⟨mA, hns, hr⟩ := exd_at I.hok ed
  obtain ⟨od, hd, hl⟩ := lookIn_ns hns
  have J : PySem.W.InstAt s.heap a _ C (some od) := ⟨ho, rfl, rfl, hd⟩
  exact PySem.W.kia_one (PySem.W.kitx_exc T.hcl T.ga T.gg T.ox.exC T.kl T.sp T.tk T.mo) I.kIn J e (fun z => nomatch z) fun tk => ⟨.bl b, H, I.tok tk, rfl, q⟩
/-- at a: an exception of the built-in class T, not raised -/
def exb (T : String) (a : Addr) : HO := .ext fun h => ∃ o : Obj, h.get? a = some o ∧ o.cls = .type T
/-- T(e, ..) as a value -/
theorem pe_exb {T N I : String} (F : ExcCallFacts T N I) (hg : Gl X x) (hm : X.mg x = none) (hv : bootBuiltins x = some (.type T)) (ha : PA X (e :: es) t) (hn : x ≠ "__name__" := by decide) (hdb : (x == ("__debug__" : Str)) = false := by decide)
    (he : starEach (e :: es) X.env = (false, eval e X.env) :: starEach es X.env := by rfl) (hpl : (backTo pos (starEach es X.env)).any (·.1) = false := by rfl) :
    PE X (.Call (.Name x p) (e :: es) [] pos) (fun σ H Q => t σ H fun vs H1 => vs.length ≤ sizeLine ∧ ∀ a, H1 a = none → Q (.ref a) (upd H1 a (exb T a))) := by
  refine ⟨fun pins s σ H Q J h => ?_⟩
  refine wpAny_Call_Name_kw (ld_blt J hg hm hv ?_ hn hdb)
  refine PyProof.Rows.callWith_type1 (thn (ha.run pos pins s σ H _ J h) fun us s1 hh => ?_) he hpl
  obtain ⟨vs, H1, I1, r1, q0, q1⟩ := hh
  obtain ⟨hp1, g1, d1, tk1, os1⟩ := s1
  refine wpAny_call_exc F (fun h' a mk => ?_) (Nat.le_trans (Nat.le_of_eq r1.length.symm) q0)
  obtain ⟨t0, ht, _, _⟩ := mk.there
  have hna : H1 a = none := I1.hok.gone mk.new
  refine ⟨.ref a, upd H1 a (exb T a), I1.laidN mk.keeps mk.new hna ?_, rfl, q1 a hna⟩
  exact ⟨⟨_, ht, rfl⟩, ⟨_, ht⟩, fun h1 h2 ⟨o, z1, z2⟩ k => ⟨o, k _ z1, z2⟩⟩
def rIsXb (K : PySem.W.Frag) (T : String) : List V → Hp → VK → Prop := fun xs H Q => ∃ (a : Addr) (c : V) (u : Value) (b : Bool), xs = [.ref a, c] ∧ H a = some (exb T a) ∧ ClsV c u ∧ PySem.W.kitOne K (.type T) u = some b ∧ Q (.bl b) H
theorem call_isXb {T : String} (FX : ExcAttrFacts T) (lk : typeLookup (.type T) "__class__" = pure (some (.builtin "object.__class__"))) (so : isSubtype (.type T) (.type (".".intercalate ("object.__class__".cutAt '.').dropLast)) = pure true) (nb : (Value.type T == Value.type "builtin_function_or_method") = false) :
    CallR X (.builtin "isinstance") (rIsXb X.K T) := by
  intro pins s σ H xs us Q I r h
  obtain ⟨a, c, u, b, rfl, ea, k, e, q⟩ := h
  obtain ⟨u1, u2, rfl, r1, r2⟩ := vals2 r
  have e2 := k.eq r2
  subst e2
  obtain rfl : u1 = Value.ref a := r1
  obtain ⟨⟨o, h1, h2⟩, _⟩ := (show ObjOk X.prog X.w H s.heap a (.ext fun h => ∃ o : Obj, h.get? a = some o ∧ o.cls = .type T) from I.hok a _ ea)
  exact PySem.W.kia_one (PySem.W.kitx_bexc FX lk so nb) I.kIn ⟨o, h1, h2⟩ e (fun z => nomatch z) fun tk => ⟨.bl b, H, I.tok tk, rfl, q⟩
end
end L2

/-! What else the layer wants: lists joined wherever they are read from. -/
namespace L2
open PySem PySem.Spec PyProof.Rows
def rCatR (K : PySem.W.Frag) : R2 := fun x y H Q => ∃ l b xs zs, x = .ref l ∧ y = .ref b ∧ SqL K H l xs ∧ SqL K H b zs ∧ xs.length + zs.length ≤ sizeLine ∧ ∀ p, H p = none → Q (.ref p) (upd H p (.lst (xs ++ zs)))
theorem op_catR {X : Cx} : OpR X (binaryOp .Add) (rCatR X.K) := by
  intro pins s σ H x y v u Q I rx ry h
  obtain ⟨l, b, xs, zs, rfl, rfl, hH, hB, hz, q⟩ := h
  cases rx
  cases ry
  obtain ⟨its, r, ⟨o, n, e, c1, c2, c3⟩, hl⟩ := I.list hH
  obtain ⟨its2, r2, ⟨o2, n2, e2, d1, d2, d3⟩, hl2⟩ := I.list hB
  have l1 := r.length
  have l2 := r2.length
  obtain ⟨cls, dd, data, sl⟩ := o
  obtain ⟨cls2, dd2, data2, sl2⟩ := o2
  simp only at c1 c2 c3 d1 d2 d3
  subst c1 c2 c3 d1 d2 d3
  refine concat_meets ⟨_, e, rfl⟩ ⟨_, e2, rfl⟩ noFill_list_add seq_list_add PySem.F.slot_list_add PySem.F.entry_list_add (PySem.F.args_list_add_2 _ _) (list_addW l b its.toArray its2.toArray n n2 none none sl sl2 (by rw [List.size_toArray, List.size_toArray]; omega)) ⟨e, e2, ?_⟩
  have ea : its.toArray ++ its2.toArray = (its ++ its2).toArray := by simp
  rw [ea]
  exact ⟨.ref _, _, I.lnew (t' := s.toks) (r.append r2) (by rw [List.length_append]; omega), rfl, q _ I.fresh⟩
/-- data that is equal to itself -/
theorem same_ne {K : PySem.W.Frag} {H : Hp} {Q : VK} {x y : V} {d : PyData} (hx : Dp K H x d) (hy : Dp K H y d) (s : SeqAt.shaped d = true) (h : Q (.bl false) H) : rNeD K x y H Q :=
  ⟨d, d, hx, hy, s, s, by rw [SeqAt.eqv_refl d (SeqAt.canLay_of_shaped s)]; exact h⟩
end L2
namespace L2
/-- a new object: the heap behind it by a name of its own -/
theorem nw {H : Hp} {o : HO} {R : V → Hp → Prop} (h : ∀ H1 p, H p = none → Same H H1 → H1 p = some o → R (.ref p) H1) : ∀ p, H p = none → R (.ref p) (upd H p o) := fun p n =>
  h _ p n (fun b u e => by
    rw [upd_ne (ne_of_none e n)]
    exact e) upd_same
end L2

namespace L2
open PySem PySem.Spec PyProof.Rows
section
variable {X : Cx} {ta tb tc td : TE} {a b c d : Expr} {pos : Pos}
/-- a op1 b op2 c op3 d -/
def tChain3 (r r' r'' : R2) (ta tb tc td : TE) : TE := fun σ H Q => ta σ H fun x H1 => tb σ H1 fun y H2 => r x y H2 fun z H3 => ∃ k, z = .bl k ∧
  (if k = true then tc σ H3 fun w' H4 => r' y w' H4 fun z' H5 => ∃ k', z' = .bl k' ∧ (if k' = true then td σ H5 fun v' H6 => r'' w' v' H6 Q else Q (.bl false) H5) else Q (.bl false) H3)
theorem pe_chain3 {op op' op'' : CmpOp} {r r' r'' : R2} (ho : OpR X (compareOp op) r) (ho' : OpR X (compareOp op') r') (ho'' : OpR X (compareOp op'') r'') (ha : PE X a ta) (hb : PE X b tb) (hc : PE X c tc) (hd : PE X d td)
    (hm : lastMarks [op, op', op''] [b, c, d] = false := by with_unfolding_all rfl) : PE X (.Compare a [op, op', op''] [b, c, d] pos) (tChain3 r r' r'' ta tb tc td) := by
  refine ⟨fun pins s σ H Q I h => ?_⟩
  refine Compare_chain (thn (ha.run pins s σ H _ I h) fun v s1 ⟨x, H1, I1, r1, q1⟩ => chain_link (thn (hb.run pins s1 σ H1 _ I1 q1) fun u s2 ⟨y, H2, I2, r2, q2⟩ =>
    thn (ho pins s2 σ H2 x y v u _ I2 r1 r2 q2) fun e s3 ⟨z, H3, I3, r3, k, e', q3⟩ => ?_)) hm
  subst e'
  cases r3
  refine wpAny_truthy_bool ?_
  cases k with
  | false => exact ite_ff ⟨.bl false, H3, I3, rfl, q3⟩
  | true =>
    refine ite_tt (chain_link (thn (hc.run pins s3 σ H3 _ I3 q3) fun w' s4 ⟨z', H4, I4, r4, q4⟩ => thn (ho' pins s4 σ H4 y z' u w' _ I4 r2 r4 q4) fun e5 s5 ⟨z5, H5, I5, r5, k5, e5', q5⟩ => ?_))
    subst e5'
    cases r5
    refine wpAny_truthy_bool ?_
    cases k5 with
    | false => exact ite_ff ⟨.bl false, H5, I5, rfl, q5⟩
    | true => exact ite_tt (chain_last (thn (hd.run pins s5 σ H5 _ I5 q5) fun w6 s6 ⟨z6, H6, I6, r6, q6⟩ => ho'' pins s6 σ H6 z' z6 w' w6 Q I6 r4 r6 q6))
end
/-- len(o), o's class has its own __len__ -/
def rLenO (C : Addr) (sp : Sp) : List V → Hp → VK → Prop := fun xs H Q => ∃ (p dx : Addr) (fs : List (Str × V)), xs = [.ref p] ∧ H p = some (.ins C dx fs) ∧ sp [.ref p] H (fun v H' => ∃ n : Int, v = .int n ∧ 0 ≤ n ∧ n < 2 ^ 63 ∧ Q (.int n) H') E0
theorem call_lenO {X : Cx} {CX : CXT} {k : Nat} {C f : Addr} {fd : FuncData} {ps : List Str} {sp : Sp} (F : FnOk X.prog X.w X.K X.mg X.base CX k f fd ps sp) (hr : Room (k + 1) X.A)
    (hs : PySem.W.findIn X.K (.ref C) "__len__" = some (some (.ref f))) (hf : PySem.W.isFn X.K (.ref f) = true) (hb : Binds X.K fd ps []) (hx : Passes CX X E0) : CallR X (.builtin "len") (rLenO C sp) := by
  intro pins s σ H xs us Q I r h
  obtain ⟨p, dx, fs, rfl, hp, q⟩ := h
  have sb : Sub X k X.A.in1 := Sub.in1 ⟨hr, rfl⟩
  cases r with
  | cons rx rr =>
    cases rr
    cases rx
    obtain ⟨mA, J, _⟩ := ins_get I.hok hp
    obtain ⟨od, J, _⟩ := J.look
    obtain ⟨m, hF⟩ := I.fr
    refine PySem.W.len_K hF I.ok.mod.kin J hs hf ?_
    have e0 : Env0 X.prog X.w X.K X.mg X.base X.A.in1 X.stack s H := I.env0.in1
    have hl := F.len _ _ _ _ q
    have r2 : Vals [V.ref p] [Value.ref p] := .cons rfl .nil
    refine wpAny_call (codeAny_mono (F.run X.A.in1 X.stack s H ⟨[.ref p], []⟩ [.ref p] [.ref p] _ E0 sb.room e0 (by
      have := hb s [.ref p] I.kIn (by simpa using hl)
      simpa using this) r2 q) fun r s' hq => ?_)
    cases r with
    | error e => exact hx pins σ H s e s' I hq
    | ok fl =>
      cases fl with
      | ret w =>
        obtain ⟨z, H', I', rz, n, ez, h0, h1, q'⟩ := I.after hq
        subst ez
        obtain ⟨t, rfl⟩ := rz
        exact ⟨⟨h0, h1⟩, .int n, H', I'.tok _, ⟨_, rfl⟩, q'⟩
      | next => exact False.elim hq
      | brk => exact False.elim hq
      | cont => exact False.elim hq
end L2

namespace L2
open PySem PySem.Spec PyProof.Rows
theorem take_filter_map {p : V → Bool} {f : V → V} {xs : List V} {j : Nat} {x : V} (h : xs[j]? = some x) : ((xs.take (j + 1)).filter p).map f = if p x = true then ((xs.take j).filter p).map f ++ [f x] else ((xs.take j).filter p).map f := by
  have e : xs.take (j + 1) = xs.take j ++ [x] := by
    rw [List.take_add_one, h]
    rfl
  rw [e, List.filter_append, List.map_append]
  by_cases hp : p x = true
  · rw [if_pos hp, List.filter_cons_of_pos hp]
    rfl
  · rw [if_neg hp, List.filter_cons_of_neg hp]
    simp
theorem wipe_one {σ : St} {i : Nat} {x : Option V} : wipe ((wipe σ [i]).set i x) [i] = wipe σ [i] := by
  show ((σ.set i none).set i x).set i none = σ.set i none
  rw [List.set_set, List.set_set]
/-- a comprehension with one name over things that stand: the tests p, the values f; only new objects are made -/
theorem lc_gen {J : It} {n : Nat} {G : Hp → Prop} {Y : Nat → Hp → V → Hp → Prop} (w : Walk J n G Y) (xs : List V) (p : V → Bool) (f : V → V) {i : Nat} {tt : TT} {te : TE} {σ : St} {H1 : Hp} {D : Addr} {Qd : Hp → Prop} (hD : H1 D = none) (hn : xs.length = n) (hsz : n < sizeLine)
    (hY : ∀ j Hc x H', j < n → G Hc → Y j Hc x H' → H' = Hc ∧ xs[j]? = some x) (hG : ∀ Hc, Same H1 Hc → G Hc)
    (ht : ∀ x Hc (R : Bool → Hp → Prop), x ∈ xs → Same H1 Hc → (∀ H3, Same Hc H3 → R (p x) H3) → tt ((wipe σ [i]).set i (some x)) Hc R)
    (he : ∀ x Hc (R : V → Hp → Prop), x ∈ xs → p x = true → Same H1 Hc → (∀ H3, Same Hc H3 → R (f x) H3) → te ((wipe σ [i]).set i (some x)) Hc R)
    (hd : ∀ H2, Same H1 H2 → H2 D = some (.lst ((xs.filter p).map f)) → Qd H2) :
    ∃ W : Nat → Nat → Hp → Prop, (∃ m, W 0 m (upd H1 D (.lst []))) ∧ ∀ k m H, W k m H →
      (J.stop k H ∧ Qd H) ∨ (J.go k H ∧ ∃ Nx : Hp → Prop, (∀ H', Nx H' → ∃ m', m' < m ∧ W (k + 1) m' H') ∧ ∀ x H', J.yld k H x H' → gName i x (wipe σ [i]) H' fun σ2 H2 => wipe σ2 [i] = wipe σ [i] ∧ tt σ2 H2 fun b H3 =>
        if b = true then te σ2 H3 fun y H4 => ∃ acc, H4 D = some (.lst acc) ∧ acc.length < sizeLine ∧ Nx (upd H4 D (.lst (acc ++ [y]))) else Nx H3) := by
  have sU : ∀ {H4 : Hp} {o : HO}, Same H1 H4 → Same H1 (upd H4 D o) := fun s b o e => by
    rw [upd_ne (ne_of_none e hD)]
    exact s b o e
  refine lc_it w (fun j Hc => Same H1 Hc ∧ Hc D = some (.lst (((xs.take j).filter p).map f))) ⟨sU (.refl _), upd_same⟩ (fun j Hc _ h => hG Hc h.1) ?_ ?_
  · rintro j x Hc H' hj ⟨s, hl⟩ y
    obtain ⟨rfl, hx⟩ := hY j Hc x H' hj (hG Hc s) y
    have hm : x ∈ xs := List.mem_of_getElem? hx
    refine ⟨wipe_one, ht x _ _ hm s fun H3 s3 => ?_⟩
    cases hp : p x with
    | false =>
      refine iteF ⟨s.trans s3, ?_⟩
      rw [take_filter_map hx, if_neg (by rw [hp]; decide)]
      exact s3 _ _ hl
    | true =>
      refine iteT (he x _ _ hm hp (s.trans s3) fun H4 s4 => ⟨_, s4 _ _ (s3 _ _ hl), ?_, sU (s.trans (s3.trans s4)), ?_⟩)
      · rw [List.length_map]
        have h1 := List.length_filter_le p (xs.take j)
        rw [List.length_take] at h1
        omega
      · rw [upd_same, take_filter_map hx, if_pos hp]
  · rintro Hc ⟨s, hl⟩
    rw [← hn, List.take_length] at hl
    exact hd Hc s hl
theorem pi_listK {X : Cx} {K : PySem.W.Frag} {tg l : Expr} {tl : TE} (hK : X.K = K) (hl : PE X l tl) : PI X tg l (iList K tl) := by
  subst hK
  exact pi_list hl
theorem pi_tupK {X : Cx} {K : PySem.W.Frag} {tg l : Expr} {tl : TE} (hK : X.K = K) (hl : PE X l tl) : PI X tg l (iTup K tl) := by
  subst hK
  exact pi_tup hl
def cscope : Expr → Scope
  | .ListComp _ _ sc _ => sc
  | .DictComp _ _ _ sc _ => sc
  | _ => { kind := .function, names := [], isGenerator := false, isCoroutine := false }
def retE (ss : List Stmt) (i : Nat) : Expr := match ss.getD i (.Pass ⟨0, 0, 0, 0⟩) with
  | .Return (some e) _ => e
  | .Assign _ e _ => e
  | _ => .Constant .none 0 ⟨0, 0, 0, 0⟩
theorem relab_names {env : Env} {b : Bool} {f : Str → Bool} : ∀ {names : List (Str × NameKind)} {x : Str}, names.lookup x = some .cell ∨ names.lookup x = some .free →
    ((names.map fun (n, k) => if (k == NameKind.free && b && f n) then (n, NameKind.cell) else (n, k)).lookup x = some .cell ∨ (names.map fun (n, k) => if (k == NameKind.free && b && f n) then (n, NameKind.cell) else (n, k)).lookup x = some .free)
  | [], x, h => by rcases h with h | h <;> simp at h
  | (n, k) :: r, x, h => by
    rw [List.map_cons]
    dsimp only
    by_cases e : x = n
    · subst e
      have hk : k = .cell ∨ k = .free := by
        rcases h with h | h
        · rw [List.lookup_cons_self] at h; exact .inl (Option.some.inj h)
        · rw [List.lookup_cons_self] at h; exact .inr (Option.some.inj h)
      by_cases c : (k == NameKind.free && b && f x) = true
      · rw [if_pos c]
        left
        exact List.lookup_cons_self
      · rw [if_neg c]
        rcases hk with rfl | rfl
        · left
          exact List.lookup_cons_self
        · right
          exact List.lookup_cons_self
    · have e' : (x == n) = false := by simpa using e
      have h' : r.lookup x = some .cell ∨ r.lookup x = some .free := by
        rcases h with h | h
        · left; rw [List.lookup_cons, e'] at h; exact h
        · right; rw [List.lookup_cons, e'] at h; exact h
      have ih := relab_names (env := env) (b := b) (f := f) h'
      by_cases c : (k == NameKind.free && b && f n) = true
      · rw [if_pos c, List.lookup_cons, e']
        exact ih
      · rw [if_neg c, List.lookup_cons, e']
        exact ih
theorem blkOk_rel {N : List Str} {outer scope : Scope} {env : Env} {own : List (Str × Nat)} (h : blkC N outer scope own = true) : BlkOk N (relabel outer env) scope own := by
  have B := blkOk_by h
  exact ⟨B.kind, B.uniq, B.ix, fun y hy e => relab_names (env := env) (b := env.scope.kind == .function) (f := fun n => env.kindOf n == some .cell) (B.free y hy e), B.own⟩
theorem ps_setDc {X : Cx} {i : Nat} {y : Str} {py : Pos} {kx vx tg iter : Expr} {ifs : List Expr} {scope : Scope} {own : List (Str × Nat)} {pos spos : Pos} {wi : TI} {g : TG} {tt : TT} {tk tv : TE} (hc : X.calm = true) (hN : X.N.Nodup) (hy : X.N[i]? = some y) (hyl : X.env.scope.names.lookup y = some .local)
    (hsw : swapsWith (.DictComp kx vx [⟨tg, iter, ifs, 0⟩] scope pos) (some (.Name y py)) spos.line X.env = pure true) (hi : PI X tg iter wi) (ok : BlkOk X.N X.env.scope scope own)
    (hg : ∀ (s : Shared) (H : Hp) (C : Addr) (cl : List (Str × Addr)) (fp : List Addr), PG (X.blk s H scope (compEnvC scope cl C X.env) fp) tg g) (ht : ∀ (s : Shared) (H : Hp) (C : Addr) (cl : List (Str × Addr)) (fp : List Addr), PTs (X.blk s H scope (compEnvC scope cl C X.env) fp) ifs tt)
    (hk : ∀ (s : Shared) (H : Hp) (C : Addr) (cl : List (Str × Addr)) (fp : List Addr), PE (X.blk s H scope (compEnvC scope cl C X.env) fp) kx tk)
    (he : ∀ (s : Shared) (H : Hp) (C : Addr) (cl : List (Str × Addr)) (fp : List Addr), PE (X.blk s H scope (compEnvC scope cl C X.env) fp) vx tv) (hs : ∀ x, foldedSetIterable iter X.env x = pure x := by intro _; rfl) :
    PS X (.Assign [.Name y py] (.DictComp kx vx [⟨tg, iter, ifs, 0⟩] scope pos) spos) (tAsg (tDc wi g tt tk tv (own.map (·.2))) (gName i)) := by
  refine ⟨fun pins s σ H D I h => ?_⟩
  rw [exec_Assign_Name_used _ _ _ _ hsw]
  refine wpAny_bind (wpAny_standAt (wpAny_bind ?_))
  show wpAny _ X.A (do let _ ← comprehension (.DictComp kx vx [⟨tg, iter, ifs, 0⟩] scope pos) scope X.env (firstIterPos [⟨tg, iter, ifs, 0⟩] pos) newDict false (eval iter X.env) (some (assign (.Name y py) X.env))) _ _ s
  have h : tDc wi g tt tk tv (own.map (·.2)) σ H (fun x H1 => gName i x σ H1 D.nx) := h
  refine wpAny_bind (thn (dc_core (Qf := fun _ s' => SP X pins D .next s') hc hN I hi ok hg ht hk he hs h fun L C s' m H' I' q hn f => ?_) fun _ s' hq => wpAny_pure (wpAny_pure hq))
  show wpAny _ _ (assign (.Name y py) X.env (.ref L)) _ _ _
  refine wpAny_assign_Name (store_ok2 (v := V.ref L) I' hN hy (.inl hyl) rfl (fun s2 I2 ⟨a, sb, ha⟩ => ?_) (.inr hyl))
  obtain ⟨f0, f1, f2, f3, f4, f5⟩ := f
  have haC : C ≠ a := by
    rcases ha with z | z
    · rw [z]; exact f1
    · exact fun e => f4 y a z e.symm
  refine ⟨m, hn.sameBut sb haC, fun h3 sb3 => ?_⟩
  exact ⟨_, H', I2.turned (t' := s2.toks) (fun b o hb e => (sb3.2 b hb).trans e) f0 f1 f3 f4 f5, q⟩
theorem sw_trueD {kx vx : Expr} {gs : List Comprehension} {scope : Scope} {pos py : Pos} {y : Str} {l : Nat} {env : Env} (hk : env.scope.kind = .function) (hy : env.scope.names.lookup y = some .local) (hl : (py.line == pos.line) = true)
    (ha : (scope.names.any fun (n, k) => n == y && (k == .local || k == .cell)) = false) : swapsWith (.DictComp kx vx gs scope pos) (some (.Name y py)) l env = pure true := by
  have ky : env.kindOf y = some .local := hy
  have hb : env.blockKind = .function := by unfold Env.blockKind; rw [hk]; rfl
  unfold swapsWith
  simp only [hb, ky, ha, Expr.pos, hl]
  rfl
def tTru (K : PySem.W.Frag) (t : TE) : TT := fun σ H Q => t σ H fun x H' => ∃ k, TruV K x H' k ∧ Q k H'
theorem pt_truthK {X : Cx} {K : PySem.W.Frag} {e : Expr} {t : TE} (hK : X.K = K) (h : PE X e t) (he : ∀ whole, isTrue e X.env whole = (do let v ← whole; standAt e.pos; holding [v] (truthy v))) : PT X e (tTru K t) := by
  subst hK
  exact pt_truth h he
theorem PS.nox {X : Cx} {st : Stmt} {t : TS} (h : PS X.nox st t) : PS X st t := ⟨fun pins s σ H D I hw =>
  wpAny_mono (h.run pins s σ H D (I.wish _) hw) (fun _ _ q => q.unwish) fun _ _ z => False.elim z⟩
end L2

/-! enumerate of a tuple. -/
namespace PySem
open PySem.W PyProof.Rows
theorem meets_enum1 {v : Value} {o : Obj} {H : Heap → Prop} (B : Begins v o H) :
    Meets (Builtin.«enumerate.__new__» ⟨[.type "enumerate", v], []⟩) (fun _ R s => H s.heap ∧
      R (.ok (.ret (.ref (s.heap.push o).objs.size))) { s with heap := (s.heap.push o).push { cls := .type "enumerate", data := .fields #[.none, .bool false, .ref s.heap.objs.size, rawInt 0, .none, .none] } }) :=
  .of_wp fun prog w A R s h => by
    obtain ⟨hp, g, d, tk, os⟩ := s; obtain ⟨h1, h⟩ := h
    have hsub := sub_enumerate
    have q1 : ∀ {A' : Around} {E : Value → Shared → Prop} {Q : Value → Shared → Prop}, Q (.ref hp.objs.size) ⟨hp.push o, g, d, tk, os⟩ → wpAny (model prog w) A' (pyIter v) Q E ⟨hp, g, d, tk, os⟩ :=
      fun q => B.iter prog w _ _ ⟨hp, g, d, tk, os⟩ _ h1 q
    wp_walk using q1
    refine wpAny_stack_any fun st => wpAny_pure ?_
    split
    · rename_i c _ _ _ _ _
      cases (c == Value.type "enumerate")
      · wp_walk using q1
        exact ⟨_, rfl, h⟩
      · wp_walk using q1
        exact ⟨_, rfl, h⟩
    · wp_walk using q1
      exact ⟨_, rfl, h⟩
theorem enum_begin1 {prog : Program} {w : World} {A : Around} {E : Value → Shared → Prop} {s : Shared} {v : Value} {o : Obj} {H : Heap → Prop} {Q : Value → Shared → Prop} (B : Begins v o H) (h1 : H s.heap)
    (h : ∀ h', IsEnum h' (s.heap.objs.size + 1) s.heap.objs.size 0 .none → h'.get? s.heap.objs.size = some o → h'.objs.size = s.heap.objs.size + 2 →
      (∀ b o, s.heap.get? b = some o → h'.get? b = some o) → Q (.ref (s.heap.objs.size + 1)) { s with heap := h' }) :
    wpAny (model prog w) A (call (.type "enumerate") [v]) Q E s := by
  refine callType_new F.called_enumerate (by decide) (F.typeCall_enumerate_1 _) (F.newCall_enumerate_1 _) (fun obj => F.args_object_init_2 obj _) F.entry_enumerate_new
    (meets_enum1 B) ⟨h1, ?_⟩
  have hz : (s.heap.push o).objs.size = s.heap.objs.size + 1 := Heap.size_push ..
  show _ ∧ _
  rw [hz]
  have he : IsEnum ((s.heap.push o).push { cls := .type "enumerate", data := .fields #[.none, .bool false, .ref s.heap.objs.size, rawInt 0, .none, .none] }) (s.heap.objs.size + 1) s.heap.objs.size 0 .none := by
    have := Heap.get?_push_size (s.heap.push o) (o := { cls := .type "enumerate", data := .fields #[.none, .bool false, .ref s.heap.objs.size, rawInt 0, .none, .none] }) rfl
    rw [hz] at this; exact this
  refine ⟨⟨_, he, rfl⟩, h _ he (Heap.get?_push_of_some _ (Heap.get?_push_size _ B.free)) (by rw [Heap.size_push, hz]) fun b o x => Heap.get?_push_of_some _ (Heap.get?_push_of_some _ x)⟩
end PySem
namespace L2
open PySem PySem.Spec PyProof.Rows
/-- the tuple at a as it stands at each turn, each item in a new pair -/
def IteT (K : PySem.W.Frag) (a : Addr) : It :=
  ⟨fun i H => ∃ (xs : List V) (x : V), SqT K H a xs ∧ xs[i]? = some x, fun i H v H' => ∃ T x, v = .ref T ∧ H T = none ∧ H' = upd H T (.tup [.int (i : Nat), x]) ∧ ∀ xs, SqT K H a xs → xs[i]? = some x, fun i H => ∃ xs : List V, SqT K H a xs ∧ xs.length ≤ i⟩
theorem turn_enumT {P : Program} {w : World} {K : PySem.W.Frag} {elts : List Expr} {kk : Nat} {tpos : Pos} (a e it : Addr) :
    Turn P w K (.Tuple elts kk tpos) (IteT K a) [e, it] e (fun i h => (∃ old, IsEnum h e it ((i : Nat) : Int) old) ∧ h.IsTupleIter it a i ∧ e ≠ it ∧ a ≠ it ∧ e ≠ a) where
  mem := by simp
  obj := fun i h st b hb => by
    obtain ⟨⟨old, he⟩, ⟨o, ho, hc, hd⟩, _⟩ := st
    have e' : b = e ∨ b = it := by simpa using hb
    rcases e' with z | z
    · rw [z]; exact ⟨_, he, fun v q => nomatch q⟩
    · rw [z]; exact ⟨o, ho, fun v q => by rw [hd] at q; cases q⟩
  keep := fun i h h' st k => let ⟨⟨old, he⟩, hi, hne⟩ := st; ⟨⟨old, k e (by simp) _ he⟩, hi.at fun o q => k it (by simp) o q, hne⟩
  item := by
    intro X hP hw hK hc i pins s σ H E I hf st hg
    subst hP hw hK
    obtain ⟨⟨old, he⟩, hit, hne, hna, hea⟩ := st
    obtain ⟨xs, x, hq, hx⟩ := hg
    obtain ⟨its, rv, p, hz⟩ := I.tuple hq
    obtain ⟨u, hu, ru⟩ := rv.get hx
    have hel : e < s.heap.objs.size := Heap.lt_size he
    have hil : it < s.heap.objs.size := by obtain ⟨_, q, _⟩ := hit; exact Heap.lt_size q
    have hli : i < its.toArray.size := by
      rw [List.size_toArray]
      exact (List.getElem?_eq_some_iff.mp hu).1
    refine wpAny_pyNext_enum_itemD (Draws.tuple (A := X.A.in1) (show X.A.in1.handled = none from I.ok.hd hc) it a hna its.toArray) he ⟨hit, p⟩ hli hne (by simp [hne, hea]) fun y h' tk hy ho hst' hT hsz hk => ?_
    have ey : y = u := by
      have hy' : its[i]? = some y := by simpa using hy
      rw [hu] at hy'
      exact (Option.some.inj hy').symm
    subst ey
    refine ⟨_, rfl, wpAny_letOwnedTupleGo_enum (s := { s with heap := h', toks := tk + 1 }) ho fun h'' he' sb => ?_⟩
    have hT2 : h''.get? s.heap.objs.size = some { cls := .type "tuple", data := .seq #[.int i tk, y] } := (sb.2 _ (Nat.ne_of_gt hel)).trans hT
    have new : ObjOk X.prog X.w (upd H s.heap.objs.size (.tup [.int (i : Nat), x])) h'' s.heap.objs.size (.tup [.int (i : Nat), x]) :=
      ⟨by show 2 ≤ sizeLine; decide, [.int i tk, y], .cons ⟨_, rfl⟩ (.cons ru .nil), ⟨_, hT2, rfl, _, rfl⟩⟩
    have I1 : Inv X pins σ (upd H s.heap.objs.size (.tup [.int (i : Nat), x])) { s with heap := h'', toks := tk + 1 } :=
      I.turnedNew (ch := [e, it]) (fun b ob hb q => (sb.2 b (fun z => hb (by simp [z]))).trans (hk b ob (fun z => hb (by simp [z])) (fun z => hb (by simp [z])) q)) hf (Nat.le_refl _) new
    refine ⟨.ref s.heap.objs.size, _, I1, rfl, ⟨_, x, rfl, I.hok.fresh (Nat.le_refl _), rfl, fun ys hy => by rw [I.tuple_inj hy hq]; exact hx⟩, ⟨⟨y, ?_⟩, hst'.1.at fun o q => (sb.2 it (Ne.symm hne)).trans q, hne, hna, hea⟩, fun b hb => ?_⟩
    · have e1 : ((i + 1 : Nat) : Int) = (i : Int) + 1 := by omega
      rw [e1]; exact he'
    · have hb' : b < s.heap.objs.size := by
        have e' : b = e ∨ b = it := by simpa using hb
        rcases e' with z | z
        · rw [z]; exact hel
        · rw [z]; exact hil
      rw [upd_ne (Nat.ne_of_lt hb')]
      exact (hf b hb).1
  done := by
    intro X hP hw hK hc i pins s σ H E I hf st hg
    subst hP hw hK
    obtain ⟨⟨old, he⟩, hit, hne, hna, hea⟩ := st
    obtain ⟨xs, hq, hx⟩ := hg
    obtain ⟨its, rv, p, hz⟩ := I.tuple hq
    obtain ⟨f0, f1, f2, f3, f4, f5⟩ := hf it (by simp)
    have hl := rv.length
    refine enumT_end (I.ok.hd hc) he hit p (by simp; omega) fun h' eb => ⟨rfl, I.turned (t' := s.toks) (fun b o hb q => eb b o hb q) f0 f1 f3 f4 f5⟩
  self := fun A i s Q E st h => let ⟨⟨_, he⟩, _⟩ := st; wpAny_pyIter_enum he h
where
  enumT_end {prog : Program} {w : World} {A : Around} {E : Value → Shared → Prop} {s : Shared} {e it l : Addr} {i : Nat} {items : Array Value} {old : Value} {Q : Option Value → Shared → Prop} (hh : A.handled = none)
      (he : IsEnum s.heap e it i old) (hit : s.heap.IsTupleIter it l i) (hl : s.heap.IsTuple l items) (hx : items[i]? = none)
      (hQ : ∀ h', Heap.ExtBut it s.heap h' → Q none { s with heap := h' }) : wpAny (model prog w) A (pyNext (.ref e)) Q E s := by
    have hT : s.TypeIs (.ref e) "enumerate" := ⟨_, he, rfl⟩
    unfold pyNext
    refine wpAny_bind (wpAny_attempt (wpAny_callSpecial?_slot (name := Str.ofString "__next__") hT F.slot_enumerate_next
      (wpAny_call_entry F.slot_enumerate_next hT F.entry_enumerate_next ?_ (F.args_enumerate_next_1 _))))
    show wpAny _ _ (field (.ref e) 2 >>= _) _ _ _
    refine wpAny_bind (wpAny_field he rfl (x := .ref it) rfl ?_)
    refine wpAny_bind (wpAny_nextOf_tuple_end hh hit hl hx fun h' x he' hx' => ?_)
    obtain ⟨o, ho, hc⟩ := hx'
    refine wpAny_bind (wpAny_isInstance (T := "StopIteration") (b := true) ⟨o, ho, hc⟩ isSubtype_stop ?_)
    exact wpAny_pure (hQ _ he')
def iEnumT (K : PySem.W.Frag) (ta : TA) : TI := fun σ H R => ta σ H fun vs H1 => ∃ a xs, vs = [.ref a] ∧ SqT K H1 a xs ∧ R (IteT K a) H1
theorem pi_enumT {X : Cx} {e : Expr} {ta : TA} {p pos tpos : Pos} {elts : List Expr} {kk : Nat} (hg : Gl X "enumerate") (hm : X.mg "enumerate" = none) (ha : PA X [e] ta) (hs : starEach [e] X.env = [(false, eval e X.env)] := by rfl) :
    PI X (.Tuple elts kk tpos) (.Call (.Name "enumerate" p) [e] [] pos) (iEnumT X.K ta) := by
  refine ⟨fun pins s σ H R I h => ?_⟩
  refine Call_ (ld_blt I hg hm boot_enumerate (PyProof.Rows.callWith_type1 (thn (ha.run pos pins s σ H _ I h) fun us s1 ⟨vs, H1, I1, r1, q1⟩ => ?_) hs rfl))
  obtain ⟨a, xs, ex, hq, q⟩ := q1
  subst ex
  cases r1 with
  | cons r rr =>
    cases rr
    cases r
    obtain ⟨its, rv, p', hz⟩ := I1.tuple hq
    have hal : a < s1.heap.objs.size := by obtain ⟨_, z, _⟩ := p'; exact Heap.lt_size z
    refine PySem.enum_begin1 (begins_tuple a its.toArray) p' fun h' he hit hsz hk => wpAny_pyIter_enum he ?_
    have I2 : Inv X pins σ H1 { s1 with heap := h' } := I1.kept (t' := s1.toks) hk
    refine ⟨s1.heap.objs.size + 1, [s1.heap.objs.size + 1, s1.heap.objs.size], _, _, H1, rfl, I2, turn_enumT a (s1.heap.objs.size + 1) s1.heap.objs.size, ⟨⟨.none, he⟩, ⟨_, hit, rfl, rfl⟩, Nat.succ_ne_self _, Nat.ne_of_lt hal, Nat.ne_of_gt (Nat.lt_succ_of_lt hal)⟩, fun b hb => ?_, q⟩
    have e' : b = s1.heap.objs.size + 1 ∨ b = s1.heap.objs.size := by simpa using hb
    have hle : s1.heap.objs.size ≤ b := by
      rcases e' with z | z
      · rw [z]; exact Nat.le_add_right _ _
      · rw [z]; exact Nat.le_refl _
    exact I1.fpOk hle (I1.hok.fresh hle)
theorem walk_enumT {K : PySem.W.Frag} {a : Addr} {xs : List V} : Walk (IteT K a) xs.length (fun H => SqT K H a xs) (YPair (fun i => some (.int (i : Nat))) (fun i => xs[i]?)) := by
  refine ⟨fun i _ hi q => ⟨xs, xs[i], q, by simp [hi]⟩, fun _ q => ⟨xs, q, Nat.le_refl _⟩, fun i H v H' _ q y => ?_⟩
  obtain ⟨T, x, h1, h2, h3, h4⟩ := y
  exact ⟨T, .int (i : Nat), x, h1, h2, h3, rfl, h4 xs q⟩
end L2

/-! t[::-1] of a tuple -/
namespace L2
open PySem PySem.Spec PyProof.Rows
section
variable {prog : Program} {w : World} {A : Around} {E : Value → Shared → Prop} {s : Shared}
theorem adjust_rev (n : Nat) : Builtin.Slice.sliceAdjust none none (-1) (n : Int) = ((n : Int) - 1, -1) := rfl
theorem places_rev (n : Nat) : Builtin.Slice.slicePlaces ((n : Int) - 1) (-1) (-1) = n := by
  unfold Builtin.Slice.slicePlaces
  have h1 : ¬ ((-1 : Int) > 0) := by omega
  simp only [h1, if_false, show (- -1 : Int) = 1 by decide, Int.ediv_one]
  split <;> omega
theorem sliceApplied_rev {sl : Addr} {vl vu vs : Value} {n : Nat} {Q : Int × Int × Nat → Shared → Prop} (hs : s.heap.IsSliceOf sl vl vu vs) (pl : IsPart vl none) (pu : IsPart vu none) (ps : IsPart vs (some (-1)))
    (h : Q ((n : Int) - 1, -1, n) s) : wpAny (model prog w) A (Builtin.Slice.sliceApplied (.ref sl) (pure (n : Int))) Q E s := by
  obtain ⟨os, hos, hcs, hds⟩ := id hs
  unfold Builtin.Slice.sliceApplied Builtin.Slice.sliceFields
  refine wpAny_bind (wpAny_bind (wpAny_field hos hds (x := vl) rfl (wpAny_bind (wpAny_field hos hds (x := vu) rfl (wpAny_bind (wpAny_field hos hds (x := vs) rfl (wpAny_pure ?_)))))))
  refine wpAny_bind (HT.slicePart_ ps ?_)
  show wpAny _ _ (if ((-1 : Int) == 0) = true then _ else _) _ _ s
  rw [if_neg (by decide)]
  refine wpAny_bind (HT.slicePart_ pl (wpAny_bind (HT.slicePart_ pu (wpAny_bind (wpAny_pure ?_)))))
  show wpAny _ _ (match Builtin.Slice.sliceAdjust none none (-1) (n : Int) with | (lo, hi) => pure (lo, (-1 : Int), Builtin.Slice.slicePlaces lo hi (-1))) _ _ s
  rw [adjust_rev n]
  show wpAny _ _ (pure ((n : Int) - 1, (-1 : Int), Builtin.Slice.slicePlaces ((n : Int) - 1) (-1) (-1))) _ _ s
  rw [places_rev]
  exact wpAny_pure h
theorem pick_rev (xs : Array Value) : ((List.range xs.size).filterMap fun (m : Nat) => xs[(((xs.size : Nat) : Int) - 1 + (m : Int) * (-1)).toNat]?).toArray = xs.toList.reverse.toArray := by
  have h := PySem.W.krv_pick xs
  unfold slicePick at h
  rw [PySem.W.krv_bounds] at h
  dsimp only at h
  rw [PySem.W.krv_sliceRange, List.filterMap_map] at h
  rw [← h]
  have e : (fun (m : Nat) => xs[(((xs.size : Nat) : Int) - 1 + (m : Int) * (-1)).toNat]?) = ((fun x => xs[x]?) ∘ fun k => xs.size - 1 - k) := by
    funext m
    show _ = xs[xs.size - 1 - m]?
    congr 1
    omega
  rw [e]
theorem getItem_tuple_rev {t sl : Addr} {items : Array Value} {vl vu vs : Value} {Q : Value → Shared → Prop} (ht : IsTup s.heap t items) (hs : s.heap.IsSliceOf sl vl vu vs) (pl : IsPart vl none) (pu : IsPart vu none) (ps : IsPart vs (some (-1)))
    (h : Q (.ref s.heap.objs.size) { s with heap := s.heap.push { cls := .type "tuple", data := .seq items.toList.reverse.toArray } })
    (hsz : items.size ≤ sizeLine) : wpAny (model prog w) A (getItem (.ref t) (.ref sl)) Q E s := by
  have htake : sizeOk (.seq items.toList.reverse.toArray) := by
    show items.toList.reverse.toArray.size ≤ sizeLine
    rw [List.size_toArray, List.length_reverse, Array.length_toList]
    exact hsz
  obtain ⟨os, hos, hcs, hds⟩ := id hs
  have hTs : s.TypeIs (.ref sl) "slice" := ⟨os, hos, hcs⟩
  unfold getItem
  try with_reducible refine wpAny_holding ?_
  first | refine wpAny_bind (wpAny_pure ?_) | skip
  refine wpAny_bind (wpAny_sequenceKey ht.typeIs (by decide) ?_)
  refine wpAny_bind (wpAny_callSpecial?_slot (name := Str.ofString "__getitem__") ht.typeIs PyProof.Rows.slot_tuple_getitem
    (wpAny_call_entry PyProof.Rows.slot_tuple_getitem ht.typeIs entry_tuple_getitem ?_ (args_tuple_getitem _ _)))
  show wpAny _ _ (Builtin.Tuple.tupleItemsOf (.ref t) >>= _) _ _ s
  refine wpAny_bind (tupleItemsOf_ ht ?_)
  refine wpAny_bind (wpAny_typeOf hTs ?_)
  rw [if_pos (by decide)]
  refine wpAny_bind (sliceApplied_rev hs pl pu ps ?_)
  have hno : ¬ ((((items.size : Nat) : Int) - 1 == 0 && (-1 : Int) == 1 && items.size == items.size) = true) := by
    intro q
    rw [Bool.and_eq_true, Bool.and_eq_true] at q
    exact absurd (eq_of_beq q.1.2) (by decide)
  show wpAny _ _ (if (((items.size : Nat) : Int) - 1 == 0 && (-1 : Int) == 1 && items.size == items.size) = true then _ else _) _ _ s
  rw [if_neg hno, pick_rev]
  first
    | exact wpAny_bind (m := Builtin.Tuple.tupleExact _) (wpAny_newObj_type (wpAny_pure ⟨_, rfl, wpAny_pure h⟩) htake)
    | exact wpAny_bind (m := Builtin.Tuple.tupleExact _) (wpAny_newObj_type (wpAny_bind (wpAny_pure (wpAny_pure ⟨_, rfl, wpAny_pure h⟩))) htake)
    | exact wpAny_bind (wpAny_bind (m := Builtin.Tuple.tupleExact _) (wpAny_newObj_type (wpAny_pure (wpAny_pure ⟨_, rfl, wpAny_pure h⟩)) htake))
    | exact wpAny_bind (wpAny_bind (m := Builtin.Tuple.tupleExact _) (wpAny_newObj_type (wpAny_pure ⟨_, rfl, wpAny_pure h⟩) htake))
end
section
variable {X : Cx}
def tRevT (K : PySem.W.Frag) (te : TE) : TE := fun σ H Q => te σ H fun x H1 => ∃ a xs, x = .ref a ∧ SqT K H1 a xs ∧ ∀ p, H1 p = none → Q (.ref p) (upd H1 p (.tup xs.reverse))
theorem pe_revT {e : Expr} {te : TE} {k : Nat} {p1 p2 p3 pos : Pos} (he : PE X e te) : PE X (.Subscript e (.Slice none none (some (.UnaryOp .USub (.Constant (.int 1) k p1) p2)) p3) pos) (tRevT X.K te) := by
  refine ⟨fun pins s σ H Q I h => ?_⟩
  refine Subscript_ (thn (he.run pins s σ H _ I h) fun v s1 ⟨x, H1, I1, r1, q1⟩ => ?_)
  obtain ⟨a, xs, ex, hx, q⟩ := q1
  subst ex
  cases r1
  have hst : PO X (some (.UnaryOp .USub (.Constant (.int 1) k p1) p2)) (tPart (tUn (rU fun i => .int (-i)) (tC (.int 1)))) := po_some (pe_un un_neg pe_int)
  refine wpAny_Slice (thn (po_none.run pins s1 σ H1 (fun o H2 => o = none ∧ H2 = H1) I1 ⟨rfl, rfl⟩) fun vl s2 ⟨l, H2, I2, pl, el, e2⟩ => ?_)
  subst el e2
  refine thn (po_none.run pins s2 σ H2 (fun o H3 => o = none ∧ H3 = H2) I2 ⟨rfl, rfl⟩) fun vu s3 ⟨u, H3, I3, pu, eu, e3⟩ => ?_
  subst eu e3
  refine thn (hst.run pins s3 σ H3 (fun o H4 => o = some (-1) ∧ H4 = H3) I3 ⟨1, rfl, -1, rfl, rfl, rfl⟩) fun vs s4 ⟨o, H4, I4, ps, eo, e4⟩ => ?_
  subst eo e4
  have I5 : Inv X pins σ H4 { s4 with heap := s4.heap.push { cls := .type "slice", data := .fields #[vl, vu, vs] } } := I4.kept (t' := s4.toks) fun b ob q => Heap.get?_push_of_some _ q
  obtain ⟨its, r, ht, hz⟩ := I5.tuple hx
  have hlen := r.length
  show wpAny (model X.prog X.w) X.A (subscriptTail e (.Slice none none (some (.UnaryOp .USub (.Constant (.int 1) k p1) p2)) p3) (.ref a) (.ref s4.heap.objs.size)) (EP X pins σ Q) X.xe { s4 with heap := s4.heap.push { cls := .type "slice", data := .fields #[vl, vu, vs] } }
  refine tail_any (ops := [.ref a, .ref s4.heap.objs.size]) ht.typeIs (PyProof.Rows.slot_tuple_getitem.lookup) ?_ (by with_unfolding_all rfl)
  refine getItem_tuple_rev ht (Heap.IsSliceOf.new _ vl vu vs) pl pu ps ?_ (by rw [List.size_toArray]; omega)
  refine ⟨.ref _, _, I5.laid (t' := s4.toks) (o := .tup xs.reverse) (fun b ob q => Heap.get?_push_of_some _ q) (Nat.le_refl _) ?_, rfl, q _ (I5.hok.fresh (Nat.le_refl _))⟩
  exact ⟨by rw [List.length_reverse]; exact hz, _, r.reverse, IsTup.new _ _⟩
end
end L2

/-! == and != of objects of an own class with an own __eq__, whatever it tells. -/
namespace L2
open PySem PySem.Spec
section
variable {prog : Program} {w : World} {A : Around} {E : Value → Shared → Prop} {s : Shared} {K : PySem.W.Frag} {x C f : Addr} {ox : Obj} {od : Option Obj} {b tb : Value}
theorem bound_b {M : Model} {name : Str} {i T : String} {args : List Value} {Q : Option Value → Shared → Prop} (X : K.In s.heap) (I : PySem.W.InstAt s.heap x ox C od) (hs : PySem.W.findIn K (.ref C) name = some (some (.builtin i))) (S : Slot T name i)
    (h : wpAny M A (call (.builtin i) (.ref x :: args)) (fun v => Q (some v)) E s) : wpAny M A (callSpecialIfBound? (.ref x) name args) Q E s := by
  have last : wpAny M A (call (.builtin i) ([.ref x] ++ args) >>= fun v => pure (some v)) Q E s := wpAny_bind (wpAny_mono h (fun _ _ z => wpAny_pure z) fun _ _ z => z)
  simp only [callSpecialIfBound?, bindSpecialIfBound?]
  refine wpAny_holding (wpAny_bind (wpAny_bind (wpAny_bind (I.type.here ((PySem.W.looks_findIn X hs).here ?_)))))
  simp only [S.bind]
  refine wpAny_bind (wpAny_askSetting (wpAny_ite ?_))
  split
  · exact wpAny_bind (wpAny_pure (wpAny_pure last))
  · exact wpAny_tryCatch (wpAny_bind (wpAny_pure (wpAny_pure last)))
/-- the default != asks the own == -/
theorem ne_bltn {y : Value} {Q : Fin → Shared → Prop} (X : K.In s.heap) (I : PySem.W.InstAt s.heap x ox C od) (he : PySem.W.findIn K (.ref C) "__eq__" = some (some (.ref f))) (hf : PySem.W.isFn K (.ref f) = true) (hu : A.units < cLine)
    (h : wpAny (model prog w) A (call (.ref f) [.ref x, y]) (fun v s' => ∃ r, v = .bool r ∧ Q (.done (.ret (.bool (!r)))) s') E s) :
    wpAny (model prog w) A (Builtin.«object.__ne__» ⟨[.ref x, y], []⟩) Q E s := by
  unfold Builtin.«object.__ne__»
  repeat (first
    | with_reducible refine wpAny_cRoomFor hu ?_
    | (refine wpAny_bind (m := callSpecialIfBound? (.ref x) (Str.ofString "__eq__") [y]) (PySem.W.ifBound_K X I he hf (wpAny_mono h (fun r s' hr => by
          obtain ⟨b, rfl, hq⟩ := hr
          repeat (first | exact hq | exact wpAny_pure hq | exact wpAny_truthy_bool hq | (refine wpAny_bind (m := truthy (.bool _)) (wpAny_truthy_bool ?_)) | wp_step)) fun _ _ z => z)))
    | wp_step)
theorem ne_try {Q : Value → Shared → Prop} (X : K.In s.heap) (I : PySem.W.InstAt s.heap x ox C od) (hn : PySem.W.findIn K (.ref C) "__ne__" = some (some (.builtin "object.__ne__"))) (he : PySem.W.findIn K (.ref C) "__eq__" = some (some (.ref f)))
    (hf : PySem.W.isFn K (.ref f) = true) (ho : PySem.W.subIn K (.ref C) (.type "object") = some true) (hu : A.units + 1 < cLine)
    (h : wpAny (model prog w) A.in1 (call (.ref f) [.ref x, b]) (fun v s' => ∃ r, v = .bool r ∧ Q (.bool (!r)) s') E s) :
    wpAny (model prog w) A (tryCompare (.ref x) "__ne__" b) (fun r s' => ∃ v, r = some v ∧ Q v s') E s := by
  unfold tryCompare
  refine wpAny_bind (bound_b X I hn F.cmp_object.ne (wpAny_call (codeAny_call_builtin F.cmp_object.ne.plain F.cmpEntry_ne
    (PySem.W.check_slot F.cmpKind_ne F.cmpSplit_ne (I.type.andThen (PySem.W.looks_subIn X ho)) (F.cmpArgs_ne _ _) (ne_bltn (A := A.in1) X I he hf hu (wpAny_mono h (fun v s' hv => ?_) fun _ _ z => z))))))
  obtain ⟨r, rfl, hq⟩ := hv
  first | exact ⟨r, rfl, wpAny_pure ⟨_, rfl, hq⟩⟩ | exact ⟨r, rfl, wpAny_pure (wpAny_pure ⟨_, rfl, hq⟩)⟩ | exact ⟨r, rfl, ⟨_, rfl, hq⟩⟩
theorem rich_ne {h₀ : Heap} {L : Addr} {m : Str → Option Value} {Q : Value → Shared → Prop} (hu : A.units + 1 < cLine) (X : K.In s.heap) (I : PySem.W.InstAt s.heap x ox C od) (hb : PySem.W.Looks (model prog w) s.heap (typeOf b) (.ref C))
    (hn : PySem.W.findIn K (.ref C) "__ne__" = some (some (.builtin "object.__ne__"))) (he : PySem.W.findIn K (.ref C) "__eq__" = some (some (.ref f))) (hf : PySem.W.isFn K (.ref f) = true) (ho : PySem.W.subIn K (.ref C) (.type "object") = some true)
    (h : wpAny (model prog w) A.in1 (call (.ref f) [.ref x, b]) (fun v s' => ∃ r, v = .bool r ∧ Q (.bool (!r)) s') E s) : wpAny (model prog w) A (richCompare .NotEq (.ref x) b) Q E s := by
  have t := ne_try X I hn he hf ho hu h
  have k : (Value.ref C != Value.ref C) = false := by simp
  unfold richCompare
  simp only [oneThing_ref]
  refine wpAny_holding (wpAny_bind (wpAny_cRoomFor (Nat.lt_of_succ_lt hu) (wpAny_bind (I.type.here (wpAny_bind (hb.here ?_))))))
  rw [cmpInfo_NotEq]
  dsimp only
  rw [k]
  simp only [Bool.false_eq_true, if_false]
  refine wpAny_bind (wpAny_pure ?_)
  simp only [Bool.false_eq_true, if_false]
  refine wpAny_bind (wpAny_mono t (fun r s' z => ?_) fun _ _ z => z)
  obtain ⟨v, rfl, hq⟩ := z
  exact wpAny_pure hq
end
section
variable {X : Cx} {n : Nat} {C f : Addr} {fd : FuncData} {ps : List Str} {sp : Sp}
theorem run_at {A : Around} {pins : List (Addr × Obj)} {σ : St} {H : Hp} {s : Shared} {vs : List V} {us : List Value} {Q : VK} (sb : Sub X n A) (F : FnOk X.prog X.w X.K X.mg X.base CX0 n f fd ps sp) (hb : Binds X.K fd ps []) (I : Inv X pins σ H s)
    (r : Vals vs us) (h : sp vs H Q E0) : wpAny (model X.prog X.w) A (call (.ref f) us) (EP X pins σ Q) X.xe s := by
  have e0 : Env0 X.prog X.w X.K X.mg X.base A X.stack s H := by
    have e := I.env0
    exact ⟨(by rw [sb.fr]; exact e.frames), e.mod, e.bs, e.bsz, e.funs, e.frf, e.hok, e.bare⟩
  have hl := F.len _ _ _ _ h
  refine wpAny_call (codeAny_mono (F.run A X.stack s H ⟨us, []⟩ us vs Q E0 sb.room e0 (by
    have := hb s us I.kIn (by rw [List.append_nil, ← r.length]; exact hl)
    simpa using this) r h) fun r s' hq => ?_)
  cases r with
  | error e => exact (pass0 (X := X)) pins σ H s e s' I hq
  | ok fl =>
    cases fl with
    | ret v => exact I.after hq
    | next => exact False.elim hq
    | brk => exact False.elim hq
    | cont => exact False.elim hq
/-- x == y, x != y, x an object of the class at C, whose own == keeps sp -/
def rCmpO (C : Addr) (sp : Sp) (neg : Bool) : R2 := fun x y H Q => ∃ a b dx fs, x = .ref a ∧ y = .ref b ∧ H a = some (.ins C dx fs) ∧ ((∃ dy gs, H b = some (.ins C dy gs)) ∨ (neg = false ∧ ∃ xs, H b = some (.lst xs))) ∧
  sp [x, y] H (fun v H' => ∃ r, v = .bl r ∧ Q (.bl (if neg = true then !r else r)) H') E0
structure EqO (K : PySem.W.Frag) (C f : Addr) : Prop where
  eq : PySem.W.findIn K (.ref C) "__eq__" = some (some (.ref f))
  ne : PySem.W.findIn K (.ref C) "__ne__" = some (some (.builtin "object.__ne__"))
  fn : PySem.W.isFn K (.ref f) = true
  ob : PySem.W.subIn K (.ref C) (.type "object") = some true
  li : PySem.W.subIn K (.type "list") (.ref C) = some false
theorem op_eqO (F : FnOk X.prog X.w X.K X.mg X.base CX0 n f fd ps sp) (hb : Binds X.K fd ps []) (T : EqO X.K C f) (hr : Room n X.A) : OpR X (compareOp .Eq) (rCmpO C sp false) := by
  intro pins s σ H x y v u Q I rx ry hq
  obtain ⟨a, b, dx, fs, rfl, rfl, ha, hb', hs⟩ := hq
  cases rx
  cases ry
  show wpAny (model X.prog X.w) X.A (richCompare .Eq (.ref a) (.ref b)) (EP X pins σ Q) X.xe s
  obtain ⟨mA, J, _⟩ := ins_get I.hok ha
  obtain ⟨od, J, _⟩ := J.look
  obtain ⟨m, hF⟩ := I.fr
  have fin : wpAny (model X.prog X.w) X.A (call (.ref f) [.ref a, .ref b]) (PySem.W.CmpBack (EP X pins σ Q)) X.xe s := by
    refine wpAny_mono (run_at (vs := [V.ref a, V.ref b]) (us := [Value.ref a, Value.ref b]) ⟨hr, rfl⟩ F hb I (.cons rfl (.cons rfl .nil)) hs) (fun z s' q => ?_) fun _ _ z => z
    obtain ⟨zv, H', I', rz, r, rfl, q⟩ := q
    cases rz
    exact ⟨.bl r, H', I', rfl, q⟩
  rcases hb' with ⟨dy, gs, hb'⟩ | ⟨_, xs, hb'⟩
  · obtain ⟨mB, J', _⟩ := ins_get I.hok hb'
    obtain ⟨od', J', _⟩ := J'.look
    exact PySem.W.cmp_K (op := .Eq) (tb := .ref C) hr.units0 hF I.ok.mod.kin J J'.type (by simp [PySem.W.notFirst]) T.eq T.fn fin
  · obtain ⟨its, _, ⟨o, _, g1, g2, _, _⟩, _⟩ := I.list (SqL.of hb')
    have tl : PySem.W.Looks (model X.prog X.w) s.heap (typeOf (.ref b)) (.type "list") := g2 ▸ (PySem.W.Looks.ld g1).andThen .now
    exact PySem.W.cmp_K (op := .Eq) (tb := .type "list") hr.units0 hF I.ok.mod.kin J tl (by simp [PySem.W.notFirst, T.li]) T.eq T.fn fin
theorem op_neO (F : FnOk X.prog X.w X.K X.mg X.base CX0 n f fd ps sp) (hb : Binds X.K fd ps []) (T : EqO X.K C f) (hr : Room (n + 1) X.A) : OpR X (compareOp .NotEq) (rCmpO C sp true) := by
  intro pins s σ H x y v u Q I rx ry hq
  obtain ⟨a, b, dx, fs, rfl, rfl, ha, hb', hs⟩ := hq
  cases rx
  cases ry
  show wpAny (model X.prog X.w) X.A (richCompare .NotEq (.ref a) (.ref b)) (EP X pins σ Q) X.xe s
  obtain ⟨mA, J, _⟩ := ins_get I.hok ha
  obtain ⟨od, J, _⟩ := J.look
  have sb : Sub X (n + 1) X.A := ⟨hr, rfl⟩
  rcases hb' with ⟨dy, gs, hb'⟩ | ⟨e, _⟩
  · obtain ⟨mB, J', _⟩ := ins_get I.hok hb'
    obtain ⟨od', J', _⟩ := J'.look
    refine rich_ne (h₀ := s.heap) (L := a) (m := fun _ => none) (by have := hr.units; omega) I.kIn J J'.type T.ne T.eq T.fn T.ob (wpAny_mono (run_at (vs := [V.ref a, V.ref b]) (us := [Value.ref a, Value.ref b]) sb.in1 F hb I (.cons rfl (.cons rfl .nil)) hs) (fun z s' q => ?_) fun _ _ z => z)
    obtain ⟨zv, H', I', rz, r, rfl, q⟩ := q
    cases rz
    exact ⟨r, rfl, .bl (!r), H', I', rfl, q⟩
  · cases e
end
end L2

/-! Trees of rooms, peels and locks, in plain Lean. -/
namespace GM
abbrev Way := Nat × Nat
/-! ### sorted lists -/
def srt (l : List Nat) : List Nat := l.mergeSort fun a b => decide (a ≤ b)
theorem srt_perm (l : List Nat) : (srt l).Perm l := List.mergeSort_perm l _
theorem srt_pw (l : List Nat) : (srt l).Pairwise (· ≤ ·) := by
  have h := List.pairwise_mergeSort (le := fun a b : Nat => decide (a ≤ b)) (fun a b c h1 h2 => by simp only [decide_eq_true_eq] at *; omega) (fun a b => by simp only [Bool.or_eq_true, decide_eq_true_eq]; omega) l
  exact h.imp fun h => by simpa using h
theorem pw_perm_eq : ∀ {l m : List Nat}, l.Perm m → l.Pairwise (· ≤ ·) → m.Pairwise (· ≤ ·) → l = m
  | [], m, h, _, _ => (List.Perm.nil_eq h)
  | a :: l, [], h, _, _ => absurd h.length_eq (by simp)
  | a :: l, b :: m, h, h1, h2 => by
    have hab : a = b := by
      have m1 : a ∈ b :: m := h.subset List.mem_cons_self
      have m2 : b ∈ a :: l := h.symm.subset List.mem_cons_self
      rw [List.pairwise_cons] at h1 h2
      simp only [List.mem_cons] at m1 m2
      rcases m1 with e | m1
      · exact e
      · rcases m2 with e | m2
        · exact e.symm
        · have := h2.1 a m1
          have := h1.1 b m2
          omega
    subst hab
    rw [pw_perm_eq h.cons_inv (List.pairwise_cons.mp h1).2 (List.pairwise_cons.mp h2).2]
theorem srt_eq {l m : List Nat} (h : m.Perm l) (p : m.Pairwise (· ≤ ·)) : m = srt l := pw_perm_eq (h.trans (srt_perm l).symm) p (srt_pw l)
theorem mem_srt {l : List Nat} {x : Nat} : x ∈ srt l ↔ x ∈ l := (srt_perm l).mem_iff
/-! ### labels -/
def relab (lots : List Nat) (kept lost : Nat) : List Nat := lots.map fun l => if l = lost then kept else l
def okWays (many : Nat) : List Way → List Nat → Prop
  | [], _ => True
  | w :: r, lots => w.1 < w.2 ∧ w.2 < many ∧ lots.getD w.1 0 ≠ lots.getD w.2 0 ∧ okWays many r (relab lots (lots.getD w.1 0) (lots.getD w.2 0))
theorem relab_length {lots : List Nat} {a b : Nat} : (relab lots a b).length = lots.length := List.length_map _
/-- ways of a tree that grows room by room: the k-th ties told[k] to one told before -/
structure Grown (told : List Nat) (ws : List Way) : Prop where
  nd : told.Nodup
  lt : ∀ x ∈ told, x < told.length
  len : ws.length + 1 = told.length
  ties : ∀ k w, ws[k]? = some w → ∃ j x y, j ≤ k ∧ told[j]? = some x ∧ told[k + 1]? = some y ∧ ((w = (x, y) ∧ x < y) ∨ (w = (y, x) ∧ y < x))
/-- the rooms from the k-th on have labels of their own -/
structure Own (told lots : List Nat) (k : Nat) : Prop where
  len : lots.length = told.length
  own : ∀ i x, k ≤ i → told[i]? = some x → lots.getD x 0 = x ∧ ∀ v, v < lots.length → lots.getD v 0 = x → v = x
theorem own_range {told : List Nat} (lt : ∀ x ∈ told, x < told.length) : Own told (List.range told.length) 0 := by
  refine ⟨List.length_range, fun i x _ h => ?_⟩
  have g : ∀ v, v < told.length → (List.range told.length).getD v 0 = v := fun v hv => by
    rw [List.getD_eq_getElem?_getD, List.getElem?_range hv]
    rfl
  refine ⟨g x (lt x (List.mem_of_getElem? h)), fun v hv e => ?_⟩
  rw [List.length_range] at hv
  rw [g v hv] at e
  exact e
theorem relab_getD {lots : List Nat} {a b v : Nat} (hv : v < lots.length) : (relab lots a b).getD v 0 = if lots.getD v 0 = b then a else lots.getD v 0 := by
  unfold relab
  rw [List.getD_eq_getElem?_getD, List.getElem?_map, List.getD_eq_getElem?_getD, List.getElem?_eq_getElem hv]
  rfl
theorem nodup_ix {l : List Nat} (h : l.Nodup) {i j x : Nat} (a : l[i]? = some x) (b : l[j]? = some x) : i = j := by
  obtain ⟨h1, e1⟩ := List.getElem?_eq_some_iff.mp a
  obtain ⟨h2, e2⟩ := List.getElem?_eq_some_iff.mp b
  exact (List.getElem_inj h).mp (e1.trans e2.symm)
theorem own_step {told lots : List Nat} {k j x y a b : Nat} (nd : told.Nodup) (lt : ∀ x ∈ told, x < told.length) (O : Own told lots (k + 1)) (hj : j ≤ k) (hx : told[j]? = some x) (hy : told[k + 1]? = some y)
    (hab : (a = x ∧ b = y) ∨ (a = y ∧ b = x)) : lots.getD a 0 ≠ lots.getD b 0 ∧ Own told (relab lots (lots.getD a 0) (lots.getD b 0)) (k + 2) := by
  have ly : y < lots.length := by rw [O.len]; exact lt y (List.mem_of_getElem? hy)
  have lx : x < lots.length := by rw [O.len]; exact lt x (List.mem_of_getElem? hx)
  have hxy : x ≠ y := fun e => by
    subst e
    have := nodup_ix nd hx hy
    omega
  obtain ⟨oy, uy⟩ := O.own (k + 1) y (Nat.le_refl _) hy
  have ne : lots.getD x 0 ≠ y := fun e => hxy (uy x lx e)
  constructor
  · rcases hab with ⟨rfl, rfl⟩ | ⟨rfl, rfl⟩
    · rw [oy]; exact ne
    · rw [oy]; exact ne.symm
  · refine ⟨by rw [relab_length]; exact O.len, fun i z hi hz => ?_⟩
    have lz : z < lots.length := by rw [O.len]; exact lt z (List.mem_of_getElem? hz)
    obtain ⟨oz, uz⟩ := O.own i z (by omega) hz
    have zy : z ≠ y := fun e => by
      subst e
      have := nodup_ix nd hz hy
      omega
    have zx : z ≠ x := fun e => by
      subst e
      have := nodup_ix nd hz hx
      omega
    have nx : lots.getD x 0 ≠ z := fun e => zx (uz x lx e).symm
    have key : ∀ p q, ((p = lots.getD x 0 ∧ q = y) ∨ (p = y ∧ q = lots.getD x 0)) → (relab lots p q).getD z 0 = z ∧ ∀ v, v < (relab lots p q).length → (relab lots p q).getD v 0 = z → v = z := by
      intro p q hpq
      have pz : p ≠ z := by rcases hpq with ⟨rfl, rfl⟩ | ⟨rfl, rfl⟩ <;> first | exact nx | exact zy.symm
      have qz : q ≠ z := by rcases hpq with ⟨rfl, rfl⟩ | ⟨rfl, rfl⟩ <;> first | exact nx | exact zy.symm
      refine ⟨?_, fun v hv e => ?_⟩
      · rw [relab_getD lz, oz, if_neg qz.symm]
      · rw [relab_length] at hv
        rw [relab_getD hv] at e
        split at e
        · exact absurd e pz
        · exact uz v hv e
    rcases hab with ⟨rfl, rfl⟩ | ⟨rfl, rfl⟩
    · rw [oy]; exact key _ _ (.inl ⟨rfl, rfl⟩)
    · rw [oy]; exact key _ _ (.inr ⟨rfl, rfl⟩)
theorem grown_ok_from {told : List Nat} {ws : List Way} (G : Grown told ws) : ∀ (r : List Way) (k : Nat) (lots : List Nat), ws.drop k = r → Own told lots (k + 1) → okWays told.length r lots
  | [], _, _, _, _ => True.intro
  | w :: r, k, lots, e, O => by
    have hk : ws[k]? = some w := by
      have : (ws.drop k)[0]? = some w := by rw [e]; rfl
      rw [List.getElem?_drop] at this
      simpa using this
    obtain ⟨j, x, y, hj, hx, hy, hw⟩ := G.ties k w hk
    have lx := G.lt x (List.mem_of_getElem? hx)
    have ly := G.lt y (List.mem_of_getElem? hy)
    have er : ws.drop (k + 1) = r := by rw [← List.tail_drop, e]; rfl
    rcases hw with ⟨rfl, h⟩ | ⟨rfl, h⟩
    · obtain ⟨h1, h2⟩ := own_step (a := x) (b := y) G.nd G.lt O hj hx hy (.inl ⟨rfl, rfl⟩)
      exact ⟨h, ly, h1, grown_ok_from G r (k + 1) _ er h2⟩
    · obtain ⟨h1, h2⟩ := own_step (a := y) (b := x) G.nd G.lt O hj hx hy (.inr ⟨rfl, rfl⟩)
      exact ⟨h, lx, h1, grown_ok_from G r (k + 1) _ er h2⟩
theorem grown_ok {told : List Nat} {ws : List Way} (G : Grown told ws) : okWays (ws.length + 1) ws (List.range (ws.length + 1)) := by
  rw [G.len]
  have O := own_range G.lt
  exact grown_ok_from G ws 0 _ rfl ⟨O.len, fun i x _ h => O.own i x (Nat.zero_le _) h⟩
theorem okWays_lt {many : Nat} : ∀ {ws : List Way} {lots : List Nat}, okWays many ws lots → ∀ w ∈ ws, w.1 < w.2 ∧ w.2 < many
  | [], _, _, w, hw => nomatch hw
  | v :: r, lots, h, w, hw => by
    obtain ⟨h1, h2, _, h4⟩ := h
    rcases List.mem_cons.mp hw with rfl | hw
    · exact ⟨h1, h2⟩
    · exact okWays_lt h4 w hw
/-! ### the rooms beside each room -/
def put (acc : List (List Nat)) (i x : Nat) : List (List Nat) := acc.set i (acc.getD i [] ++ [x])
def addWay (acc : List (List Nat)) (w : Way) : List (List Nat) := put (put acc w.1 w.2) w.2 w.1
def rawRows (ws : List Way) : List (List Nat) := ws.foldl addWay (List.replicate (ws.length + 1) [])
def rows (ws : List Way) : List (List Nat) := (rawRows ws).map srt
/-- the rooms beside a room -/
def nb (rs : List (List Nat)) (a : Nat) : List Nat := rs.getD a []
theorem put_length {acc : List (List Nat)} {i x : Nat} : (put acc i x).length = acc.length := List.length_set
theorem addWay_length {acc : List (List Nat)} {w : Way} : (addWay acc w).length = acc.length := put_length.trans put_length
theorem foldl_addWay_length : ∀ {ws : List Way} {acc : List (List Nat)}, (ws.foldl addWay acc).length = acc.length
  | [], _ => rfl
  | w :: r, acc => (foldl_addWay_length (ws := r) (acc := addWay acc w)).trans addWay_length
theorem rawRows_length {ws : List Way} : (rawRows ws).length = ws.length + 1 := foldl_addWay_length.trans List.length_replicate
theorem rows_length {ws : List Way} : (rows ws).length = ws.length + 1 := (List.length_map _).trans rawRows_length
theorem getD_set_self {acc : List (List Nat)} {i : Nat} {v : List Nat} (h : i < acc.length) : (acc.set i v).getD i [] = v := by
  rw [List.getD_eq_getElem?_getD, List.getElem?_set_self h]
  rfl
theorem getD_set_ne {acc : List (List Nat)} {i j : Nat} {v : List Nat} (h : i ≠ j) : (acc.set i v).getD j [] = acc.getD j [] := by
  rw [List.getD_eq_getElem?_getD, List.getElem?_set_ne h, List.getD_eq_getElem?_getD]
theorem mem_put {acc : List (List Nat)} {i j x y : Nat} (h : i < acc.length) : y ∈ (put acc i x).getD j [] ↔ y ∈ acc.getD j [] ∨ (j = i ∧ y = x) := by
  unfold put
  by_cases e : i = j
  · subst e
    rw [getD_set_self h]
    simp
  · rw [getD_set_ne e]
    constructor
    · exact .inl
    · rintro (h | ⟨h, _⟩)
      · exact h
      · exact absurd h.symm e
theorem mem_rows_from : ∀ {ws : List Way} {acc : List (List Nat)} {j y : Nat}, (∀ w ∈ ws, w.1 < acc.length ∧ w.2 < acc.length) → (y ∈ (ws.foldl addWay acc).getD j [] ↔ y ∈ acc.getD j [] ∨ (j, y) ∈ ws ∨ (y, j) ∈ ws)
  | [], acc, j, y, _ => by simp
  | w :: r, acc, j, y, h => by
    have h0 := h w List.mem_cons_self
    have hr : ∀ v ∈ r, v.1 < (addWay acc w).length ∧ v.2 < (addWay acc w).length := fun v hv => by
      rw [addWay_length]
      exact h v (List.mem_cons_of_mem _ hv)
    show y ∈ (r.foldl addWay (addWay acc w)).getD j [] ↔ _
    rw [mem_rows_from hr]
    unfold addWay
    rw [mem_put (by rw [put_length]; exact h0.2), mem_put h0.1]
    obtain ⟨a, b⟩ := w
    simp only [List.mem_cons, Prod.mk.injEq]
    constructor
    · rintro (((h | ⟨rfl, rfl⟩) | ⟨rfl, rfl⟩) | h | h)
      · exact .inl h
      · exact .inr (.inl (.inl ⟨rfl, rfl⟩))
      · exact .inr (.inr (.inl ⟨rfl, rfl⟩))
      · exact .inr (.inl (.inr h))
      · exact .inr (.inr (.inr h))
    · rintro (h | (⟨rfl, rfl⟩ | h) | (⟨rfl, rfl⟩ | h))
      · exact .inl (.inl (.inl h))
      · exact .inl (.inl (.inr ⟨rfl, rfl⟩))
      · exact .inr (.inl h)
      · exact .inl (.inr ⟨rfl, rfl⟩)
      · exact .inr (.inr h)
theorem getD_map_srt {l : List (List Nat)} {j : Nat} : (l.map srt).getD j [] = srt (l.getD j []) := by
  rw [List.getD_eq_getElem?_getD, List.getElem?_map, List.getD_eq_getElem?_getD]
  cases l[j]? with
  | none => show ([] : List Nat) = srt []; decide +kernel
  | some v => rfl
theorem mem_rows {ws : List Way} (h : ∀ w ∈ ws, w.1 < w.2 ∧ w.2 < ws.length + 1) {j y : Nat} : y ∈ nb (rows ws) j ↔ (j, y) ∈ ws ∨ (y, j) ∈ ws := by
  unfold nb rows
  rw [getD_map_srt, mem_srt]
  unfold rawRows
  rw [mem_rows_from fun w hw => by rw [List.length_replicate]; have := h w hw; omega]
  have e : (List.replicate (ws.length + 1) ([] : List Nat)).getD j [] = [] := by
    rw [List.getD_eq_getElem?_getD, List.getElem?_replicate]
    split <;> rfl
  rw [e]
  simp
/-- what the rooms beside each other are like -/
structure Graph (rs : List (List Nat)) : Prop where
  sym : ∀ a b, b ∈ nb rs a → a ∈ nb rs b
  irr : ∀ a, a ∉ nb rs a
  lt : ∀ a b, b ∈ nb rs a → b < rs.length
theorem graph_rows {ws : List Way} (h : ∀ w ∈ ws, w.1 < w.2 ∧ w.2 < ws.length + 1) : Graph (rows ws) where
  sym := fun a b m => by
    rw [mem_rows h] at m ⊢
    exact m.symm
  irr := fun a m => by
    rw [mem_rows h] at m
    rcases m with m | m <;> exact absurd (h _ m).1 (Nat.lt_irrefl _)
  lt := fun a b m => by
    rw [mem_rows h] at m
    rw [rows_length]
    rcases m with m | m
    · exact (h _ m).2
    · have := h _ m
      simp only at this
      omega
/-! ### settings -/
structure Setting (rs : List (List Nat)) (st : List Nat) : Prop where
  up : st.Pairwise (· < ·)
  lt : ∀ x ∈ st, x < rs.length
  apart : ∀ x ∈ st, ∀ y ∈ st, y ∉ nb rs x
theorem Setting.nd {rs : List (List Nat)} {st : List Nat} (S : Setting rs st) : st.Nodup := S.up.imp fun h => Nat.ne_of_lt h
/-! ### peels and locks -/
/-- rooms beside g with no other one of left beside them -/
def out (f : Nat → List Nat) (left : List Nat) (g : Nat) : List Nat := (f g).filter fun r => ((f r).filter fun x => decide (x ∈ left) && decide (x ≠ g)).isEmpty
theorem mem_out {f : Nat → List Nat} {left : List Nat} {g r : Nat} : r ∈ out f left g ↔ r ∈ f g ∧ ∀ x ∈ f r, x ∈ left → x = g := by
  unfold out
  rw [List.mem_filter, List.isEmpty_iff, List.filter_eq_nil_iff]
  constructor
  · rintro ⟨h, k⟩
    refine ⟨h, fun x hx hl => ?_⟩
    have := k x hx
    simpa [hl] using this
  · rintro ⟨h, k⟩
    refine ⟨h, fun x hx => ?_⟩
    by_cases hl : x ∈ left
    · simp [hl, k x hx hl]
    · simp [hl]
theorem out_mono {f : Nat → List Nat} {l m : List Nat} {g r : Nat} (h : ∀ x ∈ m, x ∈ l) (k : r ∈ out f l g) : r ∈ out f m g := by
  rw [mem_out] at k ⊢
  exact ⟨k.1, fun x hx hm => k.2 x hx (h x hm)⟩
theorem out_congr {f : Nat → List Nat} {l m : List Nat} {g : Nat} (h : ∀ x, x ∈ l ↔ x ∈ m) : out f l g = out f m g := by
  unfold out
  congr 1
  funext r
  congr 2
  funext x
  rw [decide_eq_decide.mpr (h x)]
abbrev Step := Nat × Nat
def after (left : List Nat) (ss : List Step) : List Nat := ss.foldl (fun l s => l.erase s.1) left
def peelOk (f : Nat → List Nat) : List Nat → List Step → Prop
  | _, [] => True
  | left, s :: r => s.1 ∈ left ∧ s.2 ∈ out f left s.1 ∧ peelOk f (left.erase s.1) r
def Stuck (f : Nat → List Nat) (left : List Nat) : Prop := ∀ g ∈ left, out f left g = []
theorem after_append {left : List Nat} {a b : List Step} : after left (a ++ b) = after (after left a) b := List.foldl_append ..
theorem peelOk_append {f : Nat → List Nat} : ∀ {left : List Nat} {a b : List Step}, peelOk f left (a ++ b) ↔ peelOk f left a ∧ peelOk f (after left a) b
  | left, [], b => by simp [peelOk, after]
  | left, s :: a, b => by
    show (_ ∧ _ ∧ peelOk f (left.erase s.1) (a ++ b)) ↔ (_ ∧ _ ∧ _) ∧ peelOk f (after (left.erase s.1) a) b
    rw [peelOk_append]
    simp [and_assoc]
theorem after_sub : ∀ {ss : List Step} {left : List Nat}, (after left ss).Sublist left
  | [], _ => .refl _
  | s :: r, left => (after_sub (ss := r) (left := left.erase s.1)).trans List.erase_sublist
theorem mem_after {left : List Nat} (nd : left.Nodup) : ∀ {ss : List Step} {x : Nat}, x ∈ after left ss ↔ x ∈ left ∧ x ∉ ss.map (·.1) := by
  intro ss
  induction ss generalizing left with
  | nil => intro x; simp [after]
  | cons s r ih =>
    intro x
    show x ∈ after (left.erase s.1) r ↔ _
    rw [ih (nd.erase _), nd.mem_erase_iff]
    simp only [List.map_cons, List.mem_cons]
    constructor
    · rintro ⟨⟨h1, h2⟩, h3⟩
      exact ⟨h2, fun h => h.elim h1 h3⟩
    · rintro ⟨h1, h2⟩
      exact ⟨⟨fun e => h2 (.inl e), h1⟩, fun e => h2 (.inr e)⟩
theorem after_filter {left : List Nat} (nd : left.Nodup) {ss : List Step} : after left ss = left.filter fun x => !(ss.map (·.1)).contains x := by
  induction ss generalizing left with
  | nil => exact (List.filter_eq_self.mpr fun _ _ => rfl).symm
  | cons s r ih =>
    show after (left.erase s.1) r = _
    rw [ih (nd.erase _), nd.erase_eq_filter, List.filter_filter]
    congr 1
    funext x
    simp only [List.map_cons, List.contains_cons, Bool.not_or]
    rw [Bool.and_comm]
    congr 1
/-- who is stuck stays in whatever peel -/
theorem stuck_stays {f : Nat → List Nat} {lk : List Nat} (hs : Stuck f lk) : ∀ {ss : List Step} {left : List Nat}, left.Nodup → (∀ x ∈ lk, x ∈ left) → peelOk f left ss → ∀ x ∈ lk, x ∈ after left ss
  | [], _, _, h, _ => h
  | s :: r, left, nd, h, ⟨_, h2, h3⟩ => by
    have ne : s.1 ∉ lk := fun m => by
      have := hs s.1 m
      have k := out_mono h h2
      rw [this] at k
      cases k
    exact stuck_stays (left := left.erase s.1) hs (nd.erase _) (fun x hx => (nd.mem_erase_iff).mpr ⟨fun e => ne (by rw [← e]; exact hx), h x hx⟩) h3
theorem peel_same {f : Nat → List Nat} {st : List Nat} {a b : List Step} (nd : st.Nodup) (ha : peelOk f st a) (hb : peelOk f st b) (sa : Stuck f (after st a)) (sb : Stuck f (after st b)) : after st a = after st b := by
  have h1 := stuck_stays sa nd (fun x hx => after_sub.subset hx) hb
  have h2 := stuck_stays sb nd (fun x hx => after_sub.subset hx) ha
  rw [after_filter nd, after_filter nd]
  apply List.filter_congr
  intro x hx
  have e : x ∈ after st a ↔ x ∈ after st b := ⟨h1 x, h2 x⟩
  rw [mem_after nd, mem_after nd] at e
  simp only [hx, true_and] at e
  by_cases h : x ∈ a.map (·.1)
  · have h' : x ∈ b.map (·.1) := Decidable.byContradiction fun k => (e.mpr k) h
    rw [List.contains_iff_mem.mpr h, List.contains_iff_mem.mpr h']
  · have h' := e.mp h
    rw [Bool.eq_false_iff.mpr (fun z => h (List.contains_iff_mem.mp z)), Bool.eq_false_iff.mpr (fun z => h' (List.contains_iff_mem.mp z))]
end GM
namespace GM
theorem put_len {acc : List (List Nat)} {i x m : Nat} (h : ∀ j, (acc.getD j []).length ≤ m) : ∀ j, ((put acc i x).getD j []).length ≤ m + 1 := by
  intro j
  unfold put
  by_cases e : i = j
  · subst e
    by_cases hi : i < acc.length
    · rw [getD_set_self hi]
      have := h i
      simp only [List.length_append, List.length_cons, List.length_nil]
      omega
    · rw [List.getD_eq_getElem?_getD, List.getElem?_eq_none (by rw [List.length_set]; omega)]
      exact Nat.zero_le _
  · rw [getD_set_ne e]
    have := h j
    omega
theorem raw_len {n : Nat} : ∀ (ws : List Way) (acc : List (List Nat)), (∀ j, (acc.getD j []).length ≤ n) → ∀ j, ((ws.foldl addWay acc).getD j []).length ≤ n + 2 * ws.length
  | [], acc, h, j => h j
  | w :: r, acc, h, j => by
    have k := raw_len r (addWay acc w) (n := n + 2) (put_len (put_len h)) j
    simp only [List.length_cons]
    show ((r.foldl addWay (addWay acc w)).getD j []).length ≤ _
    omega
theorem nb_len (ws : List Way) (r : Nat) : (nb (rows ws) r).length ≤ 2 * ws.length := by
  unfold nb rows
  rw [getD_map_srt, (srt_perm _).length_eq]
  have := raw_len (n := 0) ws (List.replicate (ws.length + 1) []) (fun j => by
    rw [List.getD_eq_getElem?_getD, List.getElem?_replicate]
    split <;> exact Nat.le_refl _) r
  unfold rawRows
  omega
end GM
namespace GM
theorem after_len {f : Nat → List Nat} : ∀ {ss : List Step} {left : List Nat}, left.Nodup → peelOk f left ss → (after left ss).length + ss.length = left.length
  | [], _, _, _ => rfl
  | s :: r, left, nd, ⟨h1, _, h3⟩ => by
    have ih := after_len (ss := r) (left := left.erase s.1) (nd.erase _) h3
    rw [List.length_erase_of_mem h1] at ih
    have := List.length_pos_of_mem h1
    show (after (left.erase s.1) r).length + (r.length + 1) = left.length
    omega
end GM

/-! The rooms beside each room are told once each; how many of some stand beside a room. -/
namespace GM
theorem grown_nodup {told : List Nat} {ws : List Way} (G : Grown told ws) : ws.Nodup := by
  rw [List.nodup_iff_pairwise_ne, List.pairwise_iff_getElem]
  intro i j hi hj hij e
  have a1 : ws[i]? = some ws[i] := List.getElem?_eq_getElem hi
  have a2 : ws[j]? = some ws[j] := List.getElem?_eq_getElem hj
  rw [← e] at a2
  generalize ws[i] = v at a1 a2
  obtain ⟨k, x, y, hk, hx, hy, hw⟩ := G.ties i v a1
  obtain ⟨l, x', y', hl, hx', hy', hw'⟩ := G.ties j v a2
  have m : y' = x ∨ y' = y := by
    rcases hw with ⟨rfl, h⟩ | ⟨rfl, h⟩ <;> rcases hw' with ⟨e, h'⟩ | ⟨e, h'⟩ <;> (obtain ⟨e1, e2⟩ := Prod.mk.inj e; omega)
  rcases m with m | m
  · subst m
    have := nodup_ix G.nd hx hy'
    omega
  · subst m
    have := nodup_ix G.nd hy hy'
    omega
theorem put_nodup {acc : List (List Nat)} {i x : Nat} (h : ∀ j, (acc.getD j []).Nodup) (n : x ∉ acc.getD i []) : ∀ j, ((put acc i x).getD j []).Nodup := fun j => by
  unfold put
  by_cases e : i = j
  · subst e
    by_cases hl : i < acc.length
    · rw [getD_set_self hl, List.nodup_append]
      exact ⟨h i, by simp, fun a ha b hb e => n (by rw [List.mem_singleton.mp hb] at e; exact e ▸ ha)⟩
    · rw [List.set_eq_of_length_le (by omega)]
      exact h i
  · rw [getD_set_ne e]
    exact h j
theorem raw_nodup : ∀ (ws : List Way) (acc : List (List Nat)), ws.Nodup → (∀ w ∈ ws, w.1 < w.2 ∧ w.2 < acc.length) → (∀ j, (acc.getD j []).Nodup) → (∀ w ∈ ws, w.2 ∉ acc.getD w.1 [] ∧ w.1 ∉ acc.getD w.2 []) → ∀ j, ((ws.foldl addWay acc).getD j []).Nodup
  | [], _, _, _, h, _ => h
  | w :: r, acc, nd, hl, h, hn => by
    obtain ⟨n1, n2⟩ := List.nodup_cons.mp nd
    have l0 := hl w List.mem_cons_self
    have h0 := hn w List.mem_cons_self
    refine raw_nodup r (addWay acc w) n2 (fun v hv => by rw [addWay_length]; exact hl v (List.mem_cons_of_mem _ hv)) ?_ ?_
    · unfold addWay
      refine put_nodup (put_nodup h h0.1) ?_
      rw [mem_put (by omega)]
      rintro (m | ⟨m, _⟩)
      · exact h0.2 m
      · omega
    · intro v hv
      have hv0 := hn v (List.mem_cons_of_mem _ hv)
      have lv := hl v (List.mem_cons_of_mem _ hv)
      have ne : v ≠ w := fun e => n1 (e ▸ hv)
      unfold addWay
      obtain ⟨a, b⟩ := w
      obtain ⟨c, d⟩ := v
      simp only at *
      rw [mem_put (by rw [put_length]; omega), mem_put (by omega), mem_put (by rw [put_length]; omega), mem_put (by omega)]
      constructor
      · rintro ((m | ⟨rfl, rfl⟩) | ⟨rfl, rfl⟩)
        · exact hv0.1 m
        · exact ne rfl
        · omega
      · rintro ((m | ⟨rfl, rfl⟩) | ⟨rfl, rfl⟩)
        · exact hv0.2 m
        · omega
        · exact ne rfl
/-- ways of a graph without a way told twice -/
structure Simple (ws : List Way) : Prop where
  sym : ∀ a b, b ∈ nb (rows ws) a → a ∈ nb (rows ws) b
  nd : ∀ a, (nb (rows ws) a).Nodup
theorem grown_simple {told : List Nat} {ws : List Way} (G : Grown told ws) : Simple ws := by
  have hw := okWays_lt (grown_ok G)
  refine ⟨(graph_rows hw).sym, fun a => ?_⟩
  unfold nb rows
  rw [getD_map_srt]
  refine (srt_perm _).nodup_iff.mpr ?_
  have e : ∀ j, ((List.replicate (ws.length + 1) ([] : List Nat)).getD j []) = [] := fun j => by
    rw [List.getD_eq_getElem?_getD, List.getElem?_replicate]
    split <;> rfl
  refine raw_nodup ws _ (grown_nodup G) (fun w h => by rw [List.length_replicate]; exact hw w h) (fun j => by rw [e]; exact List.nodup_nil) (fun w h => by rw [e, e]; simp) a
/-- how many of A stand beside r -/
def cnt (f : Nat → List Nat) (A : List Nat) (r : Nat) : Nat := ((f r).filter fun x => decide (x ∈ A)).length
theorem nodup_one {l : List Nat} (nd : l.Nodup) {g : Nat} (h : g ∈ l) : l.length = 1 ↔ ∀ x ∈ l, x = g := by
  match l, nd, h with
  | [a], _, h => exact ⟨fun _ x hx => by rw [List.mem_singleton.mp h, List.mem_singleton.mp hx], fun _ => rfl⟩
  | a :: b :: r, nd, h =>
    refine ⟨fun e => by simp at e, fun k => ?_⟩
    have h1 := k a (by simp)
    have h2 := k b (by simp)
    rw [List.nodup_cons] at nd
    exact absurd (by rw [h1, h2]; simp) nd.1
theorem cnt_out {f : Nat → List Nat} {A : List Nat} {g : Nat} (hg : g ∈ A) (sym : ∀ r ∈ f g, g ∈ f r) (nd : ∀ r, (f r).Nodup) : (f g).filter (fun r => decide (cnt f A r = 1)) = out f A g := by
  unfold out
  apply List.filter_congr
  intro r hr
  have m : g ∈ (f r).filter fun x => decide (x ∈ A) := List.mem_filter.mpr ⟨sym r hr, by simpa using hg⟩
  rw [Bool.eq_iff_iff, decide_eq_true_iff, List.isEmpty_iff, List.filter_eq_nil_iff]
  unfold cnt
  rw [nodup_one ((nd r).filter _) m]
  constructor
  · intro k x hx c
    simp only [Bool.and_eq_true, decide_eq_true_eq] at c
    exact c.2 (k x (List.mem_filter.mpr ⟨hx, by simpa using c.1⟩))
  · intro k x hx
    have h1 := List.mem_filter.mp hx
    have := k x h1.1
    simp only [Bool.and_eq_true, decide_eq_true_eq, not_and, Decidable.not_not] at this
    exact this (by simpa using h1.2)
theorem cnt_erase {f : Nat → List Nat} {A : List Nat} {g r : Nat} (ndA : A.Nodup) (hg : g ∈ A) (nd : (f r).Nodup) : (cnt f (A.erase g) r : Int) = (cnt f A r : Int) - (if g ∈ f r then 1 else 0) := by
  have e : (f r).filter (fun x => decide (x ∈ A.erase g)) = ((f r).filter fun x => decide (x ∈ A)).erase g := by
    rw [List.Nodup.erase_eq_filter (nd.filter _) g, List.filter_filter]
    apply List.filter_congr
    intro x _
    rw [Bool.eq_iff_iff]
    simp only [decide_eq_true_eq, Bool.and_eq_true, bne_iff_ne, ne_eq, ndA.mem_erase_iff]
  unfold cnt
  rw [e, List.length_erase]
  have iff : g ∈ (f r).filter (fun x => decide (x ∈ A)) ↔ g ∈ f r := by
    rw [List.mem_filter]
    simp [hg]
  by_cases h : g ∈ f r
  · rw [if_pos h, if_pos (iff.mpr h)]
    have := List.length_pos_of_mem (iff.mpr h)
    omega
  · rw [if_neg h, if_neg (fun z => h (iff.mp z))]
    omega
end GM

/-! Plain mathematics, further: distances from a room in a tree that grew, slides, who can be moved, who never can. -/
namespace GM
/-- how far each room is from g, along neighbours A -/
structure RootedA (A : Nat → Nat → Prop) (g : Nat) (d : Nat → Nat) : Prop where
  zero : d g = 0
  step : ∀ a b, A a b → d b = d a + 1 ∨ d a = d b + 1
  up : ∀ a b c, A a b → A a c → d b < d a → d c < d a → b = c
def hung (A : Nat → Nat → Prop) (x y : Nat) : Nat → Nat → Prop := fun a b => A a b ∨ (a = x ∧ b = y) ∨ (a = y ∧ b = x)
theorem leaf_old {A : Nat → Nat → Prop} {g x y : Nat} {d : Nat → Nat} (R : RootedA A g d) (hy : ∀ b, ¬ A y b ∧ ¬ A b y) (hx : x ≠ y) (hg : g ≠ y) : RootedA (hung A x y) g (fun v => if v = y then d x + 1 else d v) where
  zero := by simp only [if_neg hg]; exact R.zero
  step := fun a b h => by
    rcases h with h | ⟨rfl, rfl⟩ | ⟨rfl, rfl⟩
    · have ha : a ≠ y := fun e => (hy b).1 (e ▸ h)
      have hb : b ≠ y := fun e => (hy a).2 (e ▸ h)
      simp only [if_neg ha, if_neg hb]
      exact R.step a b h
    · simp only [if_neg hx, if_true]
      exact .inl trivial
    · simp only [if_neg hx, if_true]
      exact .inr trivial
  up := fun a b c h1 h2 l1 l2 => by
    by_cases ha : a = y
    · have e : ∀ b, hung A x y a b → b = x := fun b h => by
        rcases h with h | ⟨e1, e2⟩ | ⟨e1, e2⟩
        · exact absurd (ha ▸ h) (hy b).1
        · exact absurd (e1.symm.trans ha) hx
        · exact e2
      rw [e b h1, e c h2]
    · have e : ∀ b, hung A x y a b → (if b = y then d x + 1 else d b) < (if a = y then d x + 1 else d a) → b ≠ y ∧ A a b ∧ d b < d a := fun b h l => by
        rw [if_neg ha] at l
        rcases h with h | ⟨e1, e2⟩ | ⟨e1, e2⟩
        · have hb : b ≠ y := fun e => (hy a).2 (e ▸ h)
          rw [if_neg hb] at l
          exact ⟨hb, h, l⟩
        · rw [if_pos e2, e1] at l
          omega
        · exact absurd e1 ha
      obtain ⟨_, g1, g2⟩ := e b h1 l1
      obtain ⟨_, g3, g4⟩ := e c h2 l2
      exact R.up a b c g1 g3 g2 g4
theorem leaf_new {A : Nat → Nat → Prop} {x y : Nat} {d : Nat → Nat} (R : RootedA A x d) (hy : ∀ b, ¬ A y b ∧ ¬ A b y) (hx : x ≠ y) : RootedA (hung A x y) y (fun v => if v = y then 0 else d v + 1) where
  zero := by simp
  step := fun a b h => by
    rcases h with h | ⟨rfl, rfl⟩ | ⟨rfl, rfl⟩
    · have ha : a ≠ y := fun e => (hy b).1 (e ▸ h)
      have hb : b ≠ y := fun e => (hy a).2 (e ▸ h)
      simp only [if_neg ha, if_neg hb]
      have := R.step a b h
      omega
    · simp only [if_neg hx, if_true, R.zero]
      exact .inr trivial
    · simp only [if_neg hx, if_true, R.zero]
      exact .inl trivial
  up := fun a b c h1 h2 l1 l2 => by
    by_cases ha : a = y
    · simp only [if_pos ha] at l1
      omega
    · have e : ∀ b, hung A x y a b → (if b = y then 0 else d b + 1) < (if a = y then 0 else d a + 1) → (b = y ∧ a = x) ∨ (b ≠ y ∧ A a b ∧ d b < d a) := fun b h l => by
        rw [if_neg ha] at l
        rcases h with h | ⟨e1, e2⟩ | ⟨e1, e2⟩
        · have hb : b ≠ y := fun e => (hy a).2 (e ▸ h)
          rw [if_neg hb] at l
          exact .inr ⟨hb, h, by omega⟩
        · exact .inl ⟨e2, e1⟩
        · exact absurd e1 ha
      have z : ∀ c, d c < d x → False := fun c h => by rw [R.zero] at h; omega
      rcases e b h1 l1 with ⟨b1, b2⟩ | ⟨b1, b2, b3⟩
      · rcases e c h2 l2 with ⟨c1, c2⟩ | ⟨c1, c2, c3⟩
        · rw [b1, c1]
        · exact (z c (b2 ▸ c3)).elim
      · rcases e c h2 l2 with ⟨c1, c2⟩ | ⟨c1, c2, c3⟩
        · exact (z b (c2 ▸ b3)).elim
        · exact R.up a b c b2 c2 b3 c3
/-- neighbours by the first k ways -/
def adj (ws : List Way) (k : Nat) : Nat → Nat → Prop := fun a b => ∃ i, i < k ∧ (ws[i]? = some (a, b) ∨ ws[i]? = some (b, a))
theorem adj_succ {ws : List Way} {k x y : Nat} (h : ws[k]? = some (x, y) ∨ ws[k]? = some (y, x)) : adj ws (k + 1) = hung (adj ws k) x y := by
  funext a b
  refine propext ⟨?_, ?_⟩
  · rintro ⟨i, hi, e⟩
    by_cases hk : i < k
    · exact .inl ⟨i, hk, e⟩
    · have : i = k := by omega
      subst this
      right
      rcases h with h | h <;> rcases e with e | e <;> rw [h] at e <;> cases e <;> simp
  · rintro (⟨i, hi, e⟩ | ⟨rfl, rfl⟩ | ⟨rfl, rfl⟩)
    · exact ⟨i, by omega, e⟩
    · exact ⟨k, by omega, h⟩
    · exact ⟨k, by omega, h.symm⟩
theorem adj_old {told : List Nat} {ws : List Way} (G : Grown told ws) {k a b : Nat} (h : adj ws k a b) : ∃ i, i < k + 1 ∧ told[i]? = some a := by
  obtain ⟨i, hi, e⟩ := h
  have : ∃ w, ws[i]? = some w ∧ (w = (a, b) ∨ w = (b, a)) := by
    rcases e with e | e
    · exact ⟨_, e, .inl rfl⟩
    · exact ⟨_, e, .inr rfl⟩
  obtain ⟨w, ew, cw⟩ := this
  obtain ⟨j, x, y, hj, hx, hy, c⟩ := G.ties i w ew
  rcases c with ⟨c, _⟩ | ⟨c, _⟩ <;> rcases cw with cw | cw <;> rw [c] at cw <;> cases cw
  · exact ⟨j, by omega, hx⟩
  · exact ⟨i + 1, by omega, hy⟩
  · exact ⟨i + 1, by omega, hy⟩
  · exact ⟨j, by omega, hx⟩
theorem adj_sym {ws : List Way} {k a b : Nat} (h : adj ws k a b) : adj ws k b a := by
  obtain ⟨i, hi, e⟩ := h
  exact ⟨i, hi, e.symm⟩
theorem rooted_adj {told : List Nat} {ws : List Way} (G : Grown told ws) : ∀ (k : Nat), k ≤ ws.length → ∀ i g, i ≤ k → told[i]? = some g → ∃ d, RootedA (adj ws k) g d ∧ ∀ i x, i ≤ k → told[i]? = some x → x ≠ g → ∃ y, adj ws k x y ∧ d y < d x
  | 0, _, i, g, hi, hg => ⟨fun _ => 0, ⟨rfl, fun a b h => by obtain ⟨i, hi, _⟩ := h; omega, fun a b c h => by obtain ⟨i, hi, _⟩ := h; omega⟩, fun i' x hi' hx hne => by
    have e1 : i = 0 := by omega
    have e2 : i' = 0 := by omega
    rw [e1] at hg
    rw [e2, hg] at hx
    exact absurd (Option.some.inj hx).symm hne⟩
  | k + 1, hk, i, g, hi, hg => by
    obtain ⟨w, ew⟩ : ∃ w, ws[k]? = some w := ⟨_, List.getElem?_eq_getElem (by omega)⟩
    obtain ⟨j, x, y, hj, hx, hy, c⟩ := G.ties k w ew
    have hw : ws[k]? = some (x, y) ∨ ws[k]? = some (y, x) := by
      rcases c with ⟨c, _⟩ | ⟨c, _⟩
      · exact .inl (c ▸ ew)
      · exact .inr (c ▸ ew)
    have hxy : x ≠ y := by rcases c with ⟨_, c⟩ | ⟨_, c⟩ <;> omega
    have fresh : ∀ b, ¬ adj ws k y b ∧ ¬ adj ws k b y := fun b => by
      have z : ∀ b, ¬ adj ws k y b := fun b h => by
        obtain ⟨i', h1, h2⟩ := adj_old G h
        have := nodup_ix G.nd h2 hy
        omega
      exact ⟨z b, fun h => z b (adj_sym h)⟩
    rw [adj_succ hw]
    by_cases hik : i ≤ k
    · obtain ⟨d, R, dn⟩ := rooted_adj G k (by omega) i g hik hg
      have gy : g ≠ y := fun e => by
        rw [e] at hg
        have := nodup_ix G.nd hg hy
        omega
      refine ⟨_, leaf_old R fresh hxy gy, fun i' v hi' hv hne => ?_⟩
      by_cases hvy : v = y
      · refine ⟨x, .inr (.inr ⟨hvy, rfl⟩), ?_⟩
        simp only [if_pos hvy, if_neg hxy]
        omega
      · have hik' : i' ≤ k := by
          by_cases e : i' = k + 1
          · rw [e, hy] at hv
            exact absurd (Option.some.inj hv).symm hvy
          · omega
        obtain ⟨z, h1, h2⟩ := dn i' v hik' hv hne
        have hzy : z ≠ y := fun e => (fresh v).2 (e ▸ h1)
        refine ⟨z, .inl h1, ?_⟩
        simp only [if_neg hvy, if_neg hzy]
        exact h2
    · have e : i = k + 1 := by omega
      rw [e, hy] at hg
      cases hg
      obtain ⟨d, R, dn⟩ := rooted_adj G k (by omega) j x hj hx
      refine ⟨_, leaf_new R fresh hxy, fun i' v hi' hv hne => ?_⟩
      by_cases hvx : v = x
      · refine ⟨g, .inr (.inl ⟨hvx, rfl⟩), ?_⟩
        simp only [if_true, if_neg hne]
        omega
      · have hik' : i' ≤ k := by
          by_cases e : i' = k + 1
          · rw [e, hy] at hv
            exact absurd (Option.some.inj hv).symm hne
          · omega
        obtain ⟨z, h1, h2⟩ := dn i' v hik' hv hvx
        have hzy : z ≠ g := fun e => (fresh v).2 (e ▸ h1)
        refine ⟨z, .inl h1, ?_⟩
        simp only [if_neg hne, if_neg hzy]
        omega
theorem grown_ww {told : List Nat} {ws : List Way} (G : Grown told ws) : ∀ w ∈ ws, w.1 < w.2 ∧ w.2 < ws.length + 1 := okWays_lt (grown_ok G)
theorem up_len1 : ∀ (l : List Nat) (b n : Nat), l.Pairwise (· < ·) → (∀ x ∈ l, b ≤ x ∧ x < n) → l.length ≤ n - b
  | [], _, _, _, _ => Nat.zero_le _
  | a :: l, b, n, u, h => by
    have h1 := h a List.mem_cons_self
    have u1 := List.pairwise_cons.mp u
    have k := up_len1 l (a + 1) n u1.2 (fun x hx => ⟨u1.1 x hx, (h x (List.mem_cons_of_mem _ hx)).2⟩)
    rw [List.length_cons]
    omega
theorem up_len0 {l : List Nat} (u : l.Pairwise (· < ·)) {n : Nat} (h : ∀ x ∈ l, x < n) : l.length ≤ n := up_len1 l 0 n u fun x hx => ⟨Nat.zero_le _, h x hx⟩
theorem grown_all {told : List Nat} {ws : List Way} (G : Grown told ws) {g : Nat} (h : g < ws.length + 1) : ∃ i, i ≤ ws.length ∧ told[i]? = some g := by
  have m : g ∈ told := Classical.byContradiction fun hn => by
    have n1 : (g :: told).Nodup := List.nodup_cons.mpr ⟨hn, G.nd⟩
    have n2 : (srt (g :: told)).Nodup := (srt_perm _).nodup_iff.mpr n1
    have u : (srt (g :: told)).Pairwise (· < ·) := (srt_pw _).imp₂ (fun x y h k => by omega) n2
    have l := up_len0 u (n := told.length) (fun x hx => by
      rcases List.mem_cons.mp (mem_srt.mp hx) with e | e
      · rw [e, ← G.len]
        exact h
      · exact G.lt x e)
    rw [(srt_perm (g :: told)).length_eq, List.length_cons] at l
    omega
  obtain ⟨i, hi, e⟩ := List.getElem_of_mem m
  exact ⟨i, by have := G.len; omega, by rw [List.getElem?_eq_getElem hi, e]⟩
theorem rooted {told : List Nat} {ws : List Way} (G : Grown told ws) {g : Nat} (h : g < ws.length + 1) : ∃ d, RootedA (fun a b => b ∈ nb (rows ws) a) g d ∧ ∀ x, x < ws.length + 1 → x ≠ g → ∃ y ∈ nb (rows ws) x, d y < d x := by
  obtain ⟨i, hi, e⟩ := grown_all G h
  obtain ⟨d, R, dn⟩ := rooted_adj G ws.length (Nat.le_refl _) i g hi e
  have ea : (fun a b => b ∈ nb (rows ws) a) = adj ws ws.length := by
    funext a b
    refine propext ?_
    rw [mem_rows (grown_ww G)]
    constructor
    · rintro (m | m)
      · obtain ⟨i, hi, e⟩ := List.getElem_of_mem m
        exact ⟨i, hi, .inl (by rw [List.getElem?_eq_getElem hi, e])⟩
      · obtain ⟨i, hi, e⟩ := List.getElem_of_mem m
        exact ⟨i, hi, .inr (by rw [List.getElem?_eq_getElem hi, e])⟩
    · rintro ⟨i, hi, e | e⟩
      · exact .inl (List.mem_of_getElem? e)
      · exact .inr (List.mem_of_getElem? e)
  refine ⟨d, ea ▸ R, fun x hx hne => ?_⟩
  obtain ⟨i', h1, h2⟩ := grown_all G hx
  obtain ⟨y, g1, g2⟩ := dn i' x h1 h2 hne
  refine ⟨y, ?_, g2⟩
  rw [← ea] at g1
  exact g1
end GM

/-! Ways of a tree in whatever order; rows do not ask for the order; stars, lanes. -/
namespace GM
/-- how many labels there are -/
def lab (n : Nat) (lots : List Nat) : Nat := ((List.range n).filter fun v => decide (v ∈ lots)).length
def fin : List Way → List Nat → List Nat
  | [], l => l
  | w :: r, l => fin r (relab l (l.getD w.1 0) (l.getD w.2 0))
theorem relab_self {l : List Nat} {a : Nat} : relab l a a = l := by
  unfold relab
  refine (List.map_congr_left fun x _ => ?_).trans (List.map_id l)
  split
  · rename_i h; exact h.symm
  · rfl
theorem getD_mem {l : List Nat} {i : Nat} (h : i < l.length) : l.getD i 0 ∈ l := by
  rw [List.getD_eq_getElem?_getD, List.getElem?_eq_getElem h]
  exact List.getElem_mem h
theorem lab_relab {n : Nat} {l : List Nat} {a b : Nat} (lt : ∀ x ∈ l, x < n) (ha : a ∈ l) (hb : b ∈ l) (ne : a ≠ b) : lab n l = lab n (relab l a b) + 1 := by
  have e : (List.range n).filter (fun v => decide (v ∈ relab l a b)) = ((List.range n).filter fun v => decide (v ∈ l)).erase b := by
    rw [List.Nodup.erase_eq_filter (List.nodup_range.filter _) b, List.filter_filter]
    apply List.filter_congr
    intro x _
    rw [Bool.eq_iff_iff]
    simp only [decide_eq_true_eq, Bool.and_eq_true, bne_iff_ne, ne_eq]
    unfold relab
    rw [List.mem_map]
    constructor
    · rintro ⟨y, hy, e⟩
      split at e
      · subst e; exact ⟨ne, ha⟩
      · rename_i h; subst e; exact ⟨h, hy⟩
    · rintro ⟨h1, h2⟩
      exact ⟨x, h2, by rw [if_neg h1]⟩
  have m : b ∈ (List.range n).filter fun v => decide (v ∈ l) := List.mem_filter.mpr ⟨List.mem_range.mpr (lt b hb), by simpa using hb⟩
  unfold lab
  rw [e, List.length_erase_of_mem m]
  have := List.length_pos_of_mem m
  omega
theorem relab_lt {n : Nat} {l : List Nat} {a b : Nat} (lt : ∀ x ∈ l, x < n) (ha : a < n) : ∀ x ∈ relab l a b, x < n := fun x hx => by
  obtain ⟨y, hy, e⟩ := List.mem_map.mp hx
  split at e
  · omega
  · rw [← e]; exact lt y hy
theorem lab_fin {n : Nat} : ∀ (ws : List Way) (l : List Nat), (∀ w ∈ ws, w.1 < w.2 ∧ w.2 < n) → l.length = n → (∀ x ∈ l, x < n) → lab n l ≤ lab n (fin ws l) + ws.length ∧ (lab n l = lab n (fin ws l) + ws.length → okWays n ws l)
  | [], l, _, _, _ => ⟨Nat.le_refl _, fun _ => True.intro⟩
  | w :: r, l, hw, hl, lt => by
    have h0 := hw w List.mem_cons_self
    have m1 : l.getD w.1 0 ∈ l := getD_mem (by omega)
    have m2 : l.getD w.2 0 ∈ l := getD_mem (by omega)
    obtain ⟨k1, k2⟩ := lab_fin r (relab l (l.getD w.1 0) (l.getD w.2 0)) (fun v hv => hw v (List.mem_cons_of_mem _ hv)) (by rw [relab_length, hl]) (relab_lt lt (lt _ m1))
    show lab n l ≤ lab n (fin r _) + (r.length + 1) ∧ (lab n l = lab n (fin r _) + (r.length + 1) → _)
    by_cases e : l.getD w.1 0 = l.getD w.2 0
    · have e1 : relab l (l.getD w.1 0) (l.getD w.2 0) = l := by rw [e]; exact relab_self
      rw [e1] at k1 k2 ⊢
      exact ⟨by omega, fun h => by omega⟩
    · have e1 := lab_relab lt m1 m2 e
      exact ⟨by omega, fun h => ⟨h0.1, h0.2, e, k2 (by omega)⟩⟩
theorem fin_length : ∀ {ws : List Way} {l : List Nat}, (fin ws l).length = l.length
  | [], _ => rfl
  | w :: r, l => by
    show (fin r _).length = _
    rw [fin_length, relab_length]
theorem fin_eq : ∀ {ws : List Way} {l : List Nat} {u v : Nat}, u < l.length → v < l.length → l.getD u 0 = l.getD v 0 → (fin ws l).getD u 0 = (fin ws l).getD v 0
  | [], _, _, _, _, _, h => h
  | w :: r, l, u, v, hu, hv, h => by
    show (fin r _).getD u 0 = (fin r _).getD v 0
    exact fin_eq (by rw [relab_length]; exact hu) (by rw [relab_length]; exact hv) (by rw [relab_getD hu, relab_getD hv, h])
theorem fin_way : ∀ {ws : List Way} {l : List Nat}, (∀ w ∈ ws, w.1 < l.length ∧ w.2 < l.length) → ∀ w ∈ ws, (fin ws l).getD w.1 0 = (fin ws l).getD w.2 0
  | w :: r, l, h, v, hv => by
    show (fin r _).getD v.1 0 = (fin r _).getD v.2 0
    have h0 := h w List.mem_cons_self
    rcases List.mem_cons.mp hv with e | hv
    · rw [e]
      refine fin_eq (by rw [relab_length]; exact h0.1) (by rw [relab_length]; exact h0.2) ?_
      rw [relab_getD h0.1, relab_getD h0.2, if_pos rfl]
      split <;> rename_i z
      · rfl
      · rfl
    · exact fin_way (fun v hv => by rw [relab_length]; exact h v (List.mem_cons_of_mem _ hv)) v hv
/-- whatever is alike at both ends of each way is alike everywhere -/
def Conn (n : Nat) (ws : List Way) : Prop := ∀ L : Nat → Nat, (∀ w ∈ ws, L w.1 = L w.2) → ∀ a b, a < n → b < n → L a = L b
theorem conn_ok {n : Nat} {ws : List Way} (C : Conn n ws) (hw : ∀ w ∈ ws, w.1 < w.2 ∧ w.2 < n) (hn : ws.length + 1 = n) : okWays n ws (List.range n) := by
  obtain ⟨h1, h2⟩ := lab_fin (n := n) ws (List.range n) hw List.length_range (fun x hx => List.mem_range.mp hx)
  have e0 : lab n (List.range n) = n := by
    unfold lab
    rw [List.filter_eq_self.mpr fun x hx => by simpa using List.mem_range.mp hx, List.length_range]
  have lf : (fin ws (List.range n)).length = n := by rw [fin_length, List.length_range]
  have cst : ∀ a b, a < n → b < n → (fin ws (List.range n)).getD a 0 = (fin ws (List.range n)).getD b 0 := C (fun v => (fin ws (List.range n)).getD v 0) (fun w h => fin_way (fun w h => by rw [List.length_range]; have := hw w h; omega) w h)
  have e1 : lab n (fin ws (List.range n)) ≤ 1 := by
    unfold lab
    have nd : ((List.range n).filter fun v => decide (v ∈ fin ws (List.range n))).Nodup := List.nodup_range.filter _
    have al : ∀ x ∈ (List.range n).filter (fun v => decide (v ∈ fin ws (List.range n))), x = (fin ws (List.range n)).getD 0 0 := fun x hx => by
      have := (List.mem_filter.mp hx).2
      obtain ⟨i, hi, e⟩ := List.getElem_of_mem (by simpa using this : x ∈ fin ws (List.range n))
      have e3 : (fin ws (List.range n)).getD i 0 = x := by
        rw [List.getD_eq_getElem?_getD, List.getElem?_eq_getElem hi]
        exact e
      rw [← e3]
      exact cst i 0 (by omega) (by omega)
    generalize (List.range n).filter (fun v => decide (v ∈ fin ws (List.range n))) = l at nd al
    match l, nd, al with
    | [], _, _ => simp
    | [a], _, _ => simp
    | a :: b :: r, nd, al =>
      have h1 := al a (by simp)
      have h2 := al b (by simp)
      rw [List.nodup_cons] at nd
      exact absurd (by rw [h1, h2]; simp) nd.1
  exact h2 (by omega)
theorem grown_conn {told : List Nat} {ws : List Way} (G : Grown told ws) : Conn (ws.length + 1) ws := fun L h a b ha hb => by
  have key : ∀ (k i x : Nat), i ≤ k → told[i]? = some x → ∀ z, told[0]? = some z → L x = L z := by
    intro k
    induction k with
    | zero =>
      intro i x hi hx z hz
      have : i = 0 := by omega
      subst this
      rw [hx] at hz
      rw [Option.some.inj hz]
    | succ k ih =>
      intro i x hi hx z hz
      by_cases e : i ≤ k
      · exact ih i x e hx z hz
      · have e1 : i = k + 1 := by omega
        subst e1
        have hk : k < ws.length := by
          have := (List.getElem?_eq_some_iff.mp hx).1
          have := G.len
          omega
        obtain ⟨j, x', y', hj, hx', hy', hw⟩ := G.ties k _ (List.getElem?_eq_getElem hk)
        rw [hx] at hy'
        have e2 : y' = x := (Option.some.inj hy').symm
        subst e2
        have m := h _ (List.getElem_mem hk)
        have i1 := ih j x' (by omega) hx' z hz
        rcases hw with ⟨e, _⟩ | ⟨e, _⟩ <;> rw [e] at m <;> simp only at m <;> omega
  obtain ⟨i, hi, e⟩ := grown_all G ha
  obtain ⟨j, hj, e'⟩ := grown_all G hb
  have h0 : 0 < told.length := by have := G.len; omega
  rw [key i i a (Nat.le_refl _) e _ (List.getElem?_eq_getElem h0), key j j b (Nat.le_refl _) e' _ (List.getElem?_eq_getElem h0)]
theorem perm_ok {told : List Nat} {ws us : List Way} (G : Grown told ws) (p : us.Perm ws) : okWays (us.length + 1) us (List.range (us.length + 1)) := by
  have el := p.length_eq
  refine conn_ok (fun L h a b ha hb => ?_) (fun w h => ?_) rfl
  · exact grown_conn G L (fun w hw => h w (p.mem_iff.mpr hw)) a b (by omega) (by omega)
  · have := grown_ww G w (p.mem_iff.mp h)
    omega
theorem simple_of {ws : List Way} (nd : ws.Nodup) (hw : ∀ w ∈ ws, w.1 < w.2 ∧ w.2 < ws.length + 1) : Simple ws := by
  refine ⟨(graph_rows hw).sym, fun a => ?_⟩
  unfold nb rows
  rw [getD_map_srt]
  refine (srt_perm _).nodup_iff.mpr ?_
  have e : ∀ j, ((List.replicate (ws.length + 1) ([] : List Nat)).getD j []) = [] := fun j => by
    rw [List.getD_eq_getElem?_getD, List.getElem?_replicate]
    split <;> rfl
  refine raw_nodup ws _ nd (fun w h => by rw [List.length_replicate]; exact hw w h) (fun j => by rw [e]; exact List.nodup_nil) (fun w h => by rw [e, e]; simp) a
theorem nb_pw {ws : List Way} {a : Nat} : (nb (rows ws) a).Pairwise (· ≤ ·) := by
  unfold nb rows
  rw [getD_map_srt]
  exact srt_pw _
theorem rows_perm {ws us : List Way} (nd : ws.Nodup) (hw : ∀ w ∈ ws, w.1 < w.2 ∧ w.2 < ws.length + 1) (p : us.Perm ws) : rows us = rows ws := by
  have el := p.length_eq
  have hu : ∀ w ∈ us, w.1 < w.2 ∧ w.2 < us.length + 1 := fun w h => by
    rw [el]
    exact hw w (p.mem_iff.mp h)
  have S1 := simple_of nd hw
  have S2 := simple_of (p.nodup_iff.mpr nd) hu
  have key : ∀ a, nb (rows us) a = nb (rows ws) a := fun a => by
    refine pw_perm_eq ((List.perm_ext_iff_of_nodup (S2.nd a) (S1.nd a)).mpr fun x => ?_) nb_pw nb_pw
    rw [mem_rows hu, mem_rows hw, p.mem_iff, p.mem_iff]
  apply List.ext_getElem
  · rw [rows_length, rows_length, el]
  · intro i h1 h2
    have := key i
    unfold nb at this
    rw [List.getD_eq_getElem?_getD, List.getElem?_eq_getElem h1, List.getD_eq_getElem?_getD, List.getElem?_eq_getElem h2] at this
    exact this
/-- the ways of a star, of a lane, of so many rooms -/
def starW (m : Nat) : List Way := (List.range m).map fun k => (0, k + 1)
def laneW (m : Nat) : List Way := (List.range m).map fun k => (k, k + 1)
theorem range_at {n i x : Nat} (h : (List.range n)[i]? = some x) : i < n ∧ x = i := by
  obtain ⟨h1, h2⟩ := List.getElem?_eq_some_iff.mp h
  rw [List.length_range] at h1
  rw [List.getElem_range] at h2
  exact ⟨h1, h2.symm⟩
theorem star_grown (m : Nat) : Grown (List.range (m + 1)) (starW m) where
  nd := List.nodup_range
  lt := fun x h => by rw [List.length_range]; exact List.mem_range.mp h
  len := by unfold starW; rw [List.length_map, List.length_range, List.length_range]
  ties := fun k w h => by
    unfold starW at h
    rw [List.getElem?_map] at h
    cases e : (List.range m)[k]? with
    | none => rw [e] at h; cases h
    | some z =>
      rw [e] at h
      obtain ⟨h1, rfl⟩ := range_at e
      cases h
      exact ⟨0, 0, z + 1, Nat.zero_le _, List.getElem?_range (by omega), List.getElem?_range (by omega), .inl ⟨rfl, by omega⟩⟩
theorem lane_grown (m : Nat) : Grown (List.range (m + 1)) (laneW m) where
  nd := List.nodup_range
  lt := fun x h => by rw [List.length_range]; exact List.mem_range.mp h
  len := by unfold laneW; rw [List.length_map, List.length_range, List.length_range]
  ties := fun k w h => by
    unfold laneW at h
    rw [List.getElem?_map] at h
    cases e : (List.range m)[k]? with
    | none => rw [e] at h; cases h
    | some z =>
      rw [e] at h
      obtain ⟨h1, rfl⟩ := range_at e
      cases h
      exact ⟨z, z, z + 1, Nat.le_refl _, List.getElem?_range (by omega), List.getElem?_range (by omega), .inl ⟨rfl, by omega⟩⟩
theorem star_lane (m : Nat) : decide (rows (starW m) = rows (laneW m)) = decide (m + 1 < 3) := by
  apply decide_eq_decide.mpr
  constructor
  · intro e
    refine Classical.byContradiction fun h => ?_
    have w1 := grown_ww (star_grown m)
    have w2 := grown_ww (lane_grown m)
    have m1 : 2 ∈ nb (rows (starW m)) 0 := (mem_rows w1).mpr (.inl (List.mem_map.mpr ⟨1, List.mem_range.mpr (by omega), rfl⟩))
    rw [e] at m1
    rcases (mem_rows w2).mp m1 with z | z <;> (obtain ⟨k, _, e⟩ := List.mem_map.mp z; have := Prod.mk.inj e; omega)
  · intro h
    have : m = 0 ∨ m = 1 := by omega
    rcases this with rfl | rfl <;> rfl
/-- a room more, at the end -/
theorem grown_more {told : List Nat} {ws : List Way} (G : Grown told ws) {r : Nat} (h : r < ws.length + 1) : Grown (told ++ [ws.length + 1]) (ws ++ [(r, ws.length + 1)]) where
  nd := List.nodup_append.mpr ⟨G.nd, by simp, fun x hx y hy e => by
    have := G.lt x hx
    have := G.len
    rw [List.mem_singleton.mp hy] at e
    omega⟩
  lt := fun x hx => by
    have l := G.len
    rw [List.length_append, List.length_singleton]
    rcases List.mem_append.mp hx with h | h
    · have := G.lt x h; omega
    · rw [List.mem_singleton.mp h]; omega
  len := by rw [List.length_append, List.length_append, ← G.len]; rfl
  ties := fun k w hk => by
    have l := G.len
    by_cases e : k < ws.length
    · rw [List.getElem?_append_left e] at hk
      obtain ⟨j, x, y, h1, h2, h3, h4⟩ := G.ties k w hk
      refine ⟨j, x, y, h1, ?_, ?_, h4⟩
      · rw [List.getElem?_append_left (by omega)]; exact h2
      · rw [List.getElem?_append_left (by omega)]; exact h3
    · have hl := (List.getElem?_eq_some_iff.mp hk).1
      rw [List.length_append, List.length_singleton] at hl
      have ek : k = ws.length := by omega
      subst ek
      rw [List.getElem?_append_right (Nat.le_refl _), Nat.sub_self] at hk
      cases hk
      obtain ⟨i, hi, ei⟩ := grown_all G h
      refine ⟨i, r, ws.length + 1, hi, ?_, ?_, .inl ⟨rfl, by omega⟩⟩
      · rw [List.getElem?_append_left (by omega)]; exact ei
      · rw [List.getElem?_append_right (by omega), show ws.length + 1 - told.length = 0 by omega]; rfl
end GM

/-! Lists of numbers, of lists, of pairs, as they stand in the heap; a tree. -/
namespace G
open PySem L2 GM
theorem same_new {H : Hp} {p : Addr} {o : HO} (h : H p = none) : Same H (upd H p o) := fun b u e => by
  rw [upd_ne (ne_of_none e h)]
  exact e
/-- a room's number -/
abbrev vn (n : Nat) : V := .int (n : Int)
theorem vn_inj {a b : Nat} (h : vn a = vn b) : a = b := Int.ofNat.inj (V.int.inj h)
theorem vn_dec {a b : Nat} : decide (vn a = vn b) = decide (a = b) := decide_eq_decide.mpr ⟨vn_inj, fun h => by rw [h]⟩
/-- a list, a tuple of rooms -/
def NL (H : Hp) (p : Addr) (l : List Nat) : Prop := H p = some (.lst (l.map vn))
def NT (H : Hp) (p : Addr) (l : List Nat) : Prop := H p = some (.tup (l.map vn))
/-- lists of rooms at these places -/
def Lists (H : Hp) (as : List Addr) (rs : List (List Nat)) : Prop := as.length = rs.length ∧ ∀ i a, as[i]? = some a → NL H a (rs.getD i [])
def Pairs (H : Hp) (as : List Addr) (ws : List (Nat × Nat)) : Prop := as.length = ws.length ∧ ∀ i a, as[i]? = some a → NT H a [(ws.getD i (0, 0)).1, (ws.getD i (0, 0)).2]
/-- a list of lists of rooms; of pairs -/
def LL (H : Hp) (p : Addr) (rs : List (List Nat)) : Prop := ∃ as, H p = some (.lst (as.map .ref)) ∧ Lists H as rs
def LP (H : Hp) (p : Addr) (ws : List (Nat × Nat)) : Prop := ∃ as, H p = some (.lst (as.map .ref)) ∧ Pairs H as ws
section
variable {H H' : Hp} {p : Addr} {as : List Addr} {l : List Nat} {rs : List (List Nat)} {ws : List (Nat × Nat)}
theorem NL.same (h : NL H p l) (e : Same H H') : NL H' p l := e _ _ h
theorem NT.same (h : NT H p l) (e : Same H H') : NT H' p l := e _ _ h
theorem Lists.same (h : Lists H as rs) (e : Same H H') : Lists H' as rs := ⟨h.1, fun i a k => (h.2 i a k).same e⟩
theorem Pairs.same (h : Pairs H as ws) (e : Same H H') : Pairs H' as ws := ⟨h.1, fun i a k => (h.2 i a k).same e⟩
theorem LL.same (h : LL H p rs) (e : Same H H') : LL H' p rs := by
  obtain ⟨as, h1, h2⟩ := h
  exact ⟨as, e _ _ h1, h2.same e⟩
theorem LP.same (h : LP H p ws) (e : Same H H') : LP H' p ws := by
  obtain ⟨as, h1, h2⟩ := h
  exact ⟨as, e _ _ h1, h2.same e⟩
end
/-- the heap without a -/
def rm (H : Hp) (a : Addr) : Hp := fun b => if b = a then none else H b
theorem rm_ne {H : Hp} {a b : Addr} (h : b ≠ a) : rm H a b = H b := if_neg h
theorem rm_self {H : Hp} {a : Addr} : rm H a a = none := if_pos rfl
theorem rm_some {H : Hp} {a b : Addr} {o : HO} (h : rm H a b = some o) : b ≠ a ∧ H b = some o := by
  by_cases e : b = a
  · rw [e, rm_self] at h
    cases h
  · rw [rm_ne e] at h
    exact ⟨e, h⟩
theorem rm_same (H : Hp) (a : Addr) : Same (rm H a) H := fun _ _ h => (rm_some h).2
theorem rm_mono {H H' : Hp} (a : Addr) (e : Same H H') : Same (rm H a) (rm H' a) := fun b o h => by
  obtain ⟨n, h⟩ := rm_some h
  rw [rm_ne n]
  exact e _ _ h
theorem rm_upd {H : Hp} {a : Addr} {o : HO} : rm (upd H a o) a = rm H a := by
  funext b
  by_cases e : b = a
  · rw [e, rm_self, rm_self]
  · rw [rm_ne e, rm_ne e, upd_ne e]
/-- what is new in H', and the tuples of H -/
def only (H H' : Hp) : Hp := fun b => match H b with
  | none => H' b
  | some (.tup xs) => some (.tup xs)
  | some _ => none
theorem only_same {H H' : Hp} (e : Same H H') : Same (only H H') H' := fun b o h => by
  unfold only at h
  split at h
  · exact h
  · rename_i xs hx
    rw [← h]
    exact e _ _ hx
  · cases h
theorem only_new {H H' : Hp} {b : Addr} (h : H b = none) : only H H' b = H' b := by
  unfold only
  rw [h]
theorem only_tup {H H' : Hp} {b : Addr} {xs : List V} (h : H b = some (.tup xs)) : only H H' b = some (.tup xs) := by
  unfold only
  rw [h]
theorem only_rm {H H' : Hp} {a : Addr} {w : List V} (e : Same H H') (ha : H a = some (.lst w)) : Same (only H H') (rm H' a) := fun b o h => by
  have h' := only_same e _ _ h
  have n : b ≠ a := fun z => by
    subst z
    unfold only at h
    rw [ha] at h
    cases h
  rw [rm_ne n]
  exact h'
/-- the well of draws -/
def Well (H : Hp) (a : Addr) : Prop := ∃ w0 w1 w2 : Int, H a = some (.lst [.int w0, .int w1, .int w2])
/-- one drawn number -/
def spDraw : Sp := fun vs H Q _ => ∃ (a : Addr) (cap : Int), vs = [.ref a, .int cap] ∧ Well H a ∧ 0 < cap ∧ cap < 1073741824 ∧ ∀ (z w0 w1 w2 : Int), 0 ≤ z → z < cap → Q (.int z) (upd H a (.lst [.int w0, .int w1, .int w2]))
/-- a def that may be called by its name: its level, its promise -/
structure Cal (P : Program) (w : World) (K : PySem.W.Frag) (mg : Str → Option Value) (base : Heap) (x : Str) (k : Nat) (ps : List Str) (sp : Sp) : Prop where
  ex : ∃ f fd, FnOk P w K mg base CX0 k f fd ps sp ∧ Binds K fd ps [] ∧ mg x = some (.ref f) ∧ PySem.W.keepIn K (.ref f) = true
theorem Cal.pe {X : Cx} {x : Str} {k : Nat} {ps : List Str} {sp : Sp} {e : Expr} {es : List Expr} {t : TA} {p pos : Pos} (L : Cal X.prog X.w X.K X.mg X.base x k ps sp) (hr : Room k X.A) (hg : Gl X x) (ha : PA X (e :: es) t) (hdb : (x == ("__debug__" : Str)) = false := by decide)
    (he : starEach (e :: es) X.env = (false, eval e X.env) :: starEach es X.env := by rfl) (hpl : (backTo pos (starEach es X.env)).any (·.1) = false := by rfl) : PE X (.Call (.Name x p) (e :: es) [] pos) (tCall sp [] E0 t) := by
  obtain ⟨f, fd, F, b, g, kp⟩ := L.ex
  exact pe_call F hr hg g kp b .nil pass0 ha hdb he hpl
/-- a method of the class at C -/
structure CalM (P : Program) (w : World) (K : PySem.W.Frag) (mg : Str → Option Value) (base : Heap) (C : Addr) (x : Str) (k : Nat) (ps : List Str) (sp : Sp) : Prop where
  ex : ∃ f fd, FnOk P w K mg base CX0 k f fd ps sp ∧ Binds K fd ps [] ∧ Meth K C x f
  cl : Cls K C
/-- len(o) -/
structure CalN (P : Program) (w : World) (K : PySem.W.Frag) (mg : Str → Option Value) (base : Heap) (C : Addr) (k : Nat) (ps : List Str) (sp : Sp) : Prop where
  ex : ∃ f fd, FnOk P w K mg base CX0 k f fd ps sp ∧ Binds K fd ps [] ∧ PySem.W.findIn K (.ref C) "__len__" = some (some (.ref f)) ∧ PySem.W.isFn K (.ref f) = true
theorem CalN.pe {X : Cx} {C : Addr} {k : Nat} {ps : List Str} {sp : Sp} {e : Expr} {es : List Expr} {t : TA} {p pos : Pos} (L : CalN X.prog X.w X.K X.mg X.base C k ps sp) (hr : Room (k + 1) X.A) (hg : Gl X "len") (hm : X.mg "len" = none) (ha : PA X (e :: es) t)
    (he : starEach (e :: es) X.env = (false, eval e X.env) :: starEach es X.env := by rfl) (hpl : (backTo pos (starEach es X.env)).any (·.1) = false := by rfl) : PE X (.Call (.Name "len" p) (e :: es) [] pos) (tCB (rLenO C sp) t) := by
  obtain ⟨f, fd, F, b, g, kp⟩ := L.ex
  exact pe_callB (call_lenO F hr g kp b pass0) hg hm PySem.boot_len ha (by decide) (by decide) he hpl
/-- C(e) -/
structure CalK (P : Program) (w : World) (K : PySem.W.Frag) (mg : Str → Option Value) (base : Heap) (C : Addr) (x : Str) (k : Nat) (ps : List Str) (sp : Sp) : Prop where
  ex : ∃ f fd, FnOk P w K mg base CX0 k f fd ps sp ∧ Binds K fd ps [] ∧ Mk K C f ∧ mg x = some (.ref C)
theorem CalK.pe {X : Cx} {C : Addr} {x : Str} {k : Nat} {ps : List Str} {sp : Sp} {e : Expr} {es : List Expr} {t : TA} {p pos : Pos} (L : CalK X.prog X.w X.K X.mg X.base C x k ps sp) (hr : Room (k + 1) X.A) (hg : Gl X x) (ha : PA X (e :: es) t) (hdb : (x == ("__debug__" : Str)) = false := by decide)
    (he : starEach (e :: es) X.env = (false, eval e X.env) :: starEach es X.env := by rfl) (hpl : (backTo pos (starEach es X.env)).any (·.1) = false := by rfl) : PE X (.Call (.Name x p) (e :: es) [] pos) (tMake C sp [] E0 t) := by
  obtain ⟨f, fd, F, b, M, g⟩ := L.ex
  exact pe_make M F hr hg g b .nil pass0 ha hdb he hpl
theorem CalM.pe {X : Cx} {C : Addr} {m : Str} {k : Nat} {ps : List Str} {sp : Sp} {o e : Expr} {es : List Expr} {ta : TE} {t : TA} {apos pos : Pos} {pl : Sem Bool} (L : CalM X.prog X.w X.K X.mg X.base C m k ps sp) (hr : Room k X.A) (he : PE X o ta) (ha : PA X (e :: es) t)
    (hst : starEach (e :: es) X.env = (false, eval e X.env) :: starEach es X.env := by rfl) (hpl : (backTo pos (starEach es X.env)).any (·.1) = false := by rfl)
    (ht : eval (.Call (.Attribute o m apos) (e :: es) [] pos) X.env = (do
      let ov ← eval o X.env
      standAt apos.atName
      let (f, first) ← holding [ov] (getMethod ov m pl)
      callWith pos f first (backTo pos (starEach (e :: es) X.env)) (backToKw pos (keywordEach [] X.env))) := by rfl) :
    PE X (.Call (.Attribute o m apos) (e :: es) [] pos) (tMeth C m sp [] E0 ta t) := by
  obtain ⟨f, fd, F, b, M⟩ := L.ex
  exact pe_meth he L.cl M F hr b .nil pass0 ha hst hpl ht
end G

namespace G
open PySem L2 GM
theorem vn_map (l : List Nat) : l.map vn = (l.map fun (n : Nat) => (n : Int)).map V.int := by
  rw [List.map_map]
  rfl
theorem srt_ints {ns' : List Int} {l : List Nat} (p : ns'.Perm (l.map fun (n : Nat) => (n : Int))) (r : ns'.Pairwise (· ≤ ·)) : ns'.map V.int = (srt l).map vn := by
  have nn : ∀ z ∈ ns', 0 ≤ z := fun z hz => by
    have := p.subset hz
    obtain ⟨n, _, e⟩ := List.mem_map.mp this
    omega
  have e1 : (ns'.map Int.toNat).map (fun (n : Nat) => (n : Int)) = ns' := by
    rw [List.map_map]
    refine (List.map_congr_left fun z hz => ?_).trans (List.map_id ns')
    show ((z.toNat : Nat) : Int) = z
    have := nn z hz
    omega
  have p2 : (ns'.map Int.toNat).Perm l := by
    have := p.map Int.toNat
    rw [List.map_map] at this
    refine this.trans (List.Perm.of_eq ?_)
    refine (List.map_congr_left fun z _ => ?_).trans (List.map_id l)
    show ((z : Int)).toNat = z
    omega
  have r2 : (ns'.map Int.toNat).Pairwise (· ≤ ·) := by
    rw [List.pairwise_map]
    exact r.imp fun h => by omega
  rw [← srt_eq p2 r2, vn_map, e1]
theorem Lists.upd {H : Hp} {as : List Addr} {acc : List (List Nat)} {i x : Nat} {a : Addr} (h : Lists H as acc) (nd : as.Nodup) (ha : as[i]? = some a) : Lists (upd H a (.lst ((acc.getD i [] ++ [x]).map vn))) as (put acc i x) := by
  refine ⟨by rw [put_length]; exact h.1, fun j b hb => ?_⟩
  have hi : i < acc.length := by
    rw [← h.1]
    exact (List.getElem?_eq_some_iff.mp ha).1
  by_cases e : i = j
  · subst e
    rw [ha] at hb
    cases hb
    unfold put
    rw [getD_set_self hi]
    exact upd_same
  · unfold put
    rw [getD_set_ne e]
    have ne : b ≠ a := fun z => e (nodup_ixA nd ha (z ▸ hb))
    show L2.upd H a _ b = _
    rw [upd_ne ne]
    exact h.2 j b hb
where
  nodup_ixA {l : List Addr} (h : l.Nodup) {i j : Nat} {x : Addr} (a : l[i]? = some x) (b : l[j]? = some x) : i = j := by
    obtain ⟨h1, e1⟩ := List.getElem?_eq_some_iff.mp a
    obtain ⟨h2, e2⟩ := List.getElem?_eq_some_iff.mp b
    exact (List.getElem_inj h).mp (e1.trans e2.symm)
theorem getD_replicate {n i : Nat} : (List.replicate n ([] : List Nat)).getD i [] = [] := by
  rw [List.getD_eq_getElem?_getD, List.getElem?_replicate]
  split <;> rfl
theorem lists_nil {H : Hp} {as : List Addr} {n : Nat} (hl : as.length = n) (h : ∀ a ∈ as, H a = some (.lst [])) : Lists H as (List.replicate n []) := by
  refine ⟨by rw [List.length_replicate, hl], fun i a ha => ?_⟩
  rw [getD_replicate]
  exact h a (List.mem_of_getElem? ha)
/-- a row's length is at most how many ways there are -/
theorem len_put {acc : List (List Nat)} {i x m : Nat} (h : ∀ j, (acc.getD j []).length ≤ m) : ∀ j, ((put acc i x).getD j []).length ≤ m + 1 := by
  intro j
  unfold put
  by_cases e : i = j
  · subst e
    by_cases hi : i < acc.length
    · rw [getD_set_self hi]
      have := h i
      simp only [List.length_append, List.length_cons, List.length_nil]
      omega
    · rw [List.getD_eq_getElem?_getD, List.getElem?_eq_none (by rw [List.length_set]; omega)]
      exact Nat.zero_le _
  · rw [getD_set_ne e]
    have := h j
    omega
theorem len_raw {n : Nat} : ∀ (ws : List Way) (acc : List (List Nat)), (∀ j, (acc.getD j []).length ≤ n) → ∀ j, ((ws.foldl addWay acc).getD j []).length ≤ n + 2 * ws.length
  | [], acc, h, j => h j
  | w :: r, acc, h, j => by
    have k := len_raw r (addWay acc w) (n := n + 2) (len_put (len_put h)) j
    simp only [List.length_cons]
    show ((r.foldl addWay (addWay acc w)).getD j []).length ≤ _
    omega
end G

namespace G
open PySem L2 GM
/-! ### flat data -/
def dN (l : List Nat) : List PyData := l.map fun (n : Nat) => PyData.int (n : Int)
theorem dp_all {K : PySem.W.Frag} {H : Hp} : ∀ (l : List Nat), DpAll K H (l.map vn) (dN l)
  | [] => .nil
  | n :: l => .cons (.int (n : Int)) (dp_all l)
theorem dp_nl {K : PySem.W.Frag} {H : Hp} {p : Addr} {l : List Nat} (h : NL H p l) : Dp K H (.ref p) (.list (dN l)) := .lst (SqL.of h) (dp_all l)
theorem dp_nt {K : PySem.W.Frag} {H : Hp} {p : Addr} {l : List Nat} (h : NT H p l) : Dp K H (.ref p) (.tuple (dN l)) := .tup (SqT.of h) (dp_all l)
def Flat (n : Nat) (d : PyData) : Prop := d.canLay0 = true ∧ d.depth ≤ n
theorem flat_all {n : Nat} : ∀ {ds : List PyData}, (∀ d ∈ ds, Flat n d) → PyData.canLayAll0 ds = true ∧ PyData.depthAll ds ≤ n
  | [], _ => ⟨rfl, Nat.zero_le _⟩
  | d :: ds, h => by
    obtain ⟨h1, h2⟩ := flat_all (ds := ds) fun e he => h e (List.mem_cons_of_mem _ he)
    obtain ⟨g1, g2⟩ := h d List.mem_cons_self
    refine ⟨?_, ?_⟩
    · show (PyData.canLay0 d && PyData.canLayAll0 ds) = true
      rw [g1, h1]
      rfl
    · show max (PyData.depth d) (PyData.depthAll ds) ≤ n
      omega
theorem flat_list {n : Nat} {ds : List PyData} (h : ∀ d ∈ ds, Flat n d) : Flat (n + 1) (.list ds) := ⟨(flat_all h).1, Nat.succ_le_succ (flat_all h).2⟩
theorem flat_tup {n : Nat} {ds : List PyData} (h : ∀ d ∈ ds, Flat n d) : Flat (n + 1) (.tuple ds) := ⟨(flat_all h).1, Nat.succ_le_succ (flat_all h).2⟩
theorem flat_int {i : Int} : Flat 0 (.int i) := ⟨rfl, Nat.le_refl _⟩
theorem flat_dN {l : List Nat} : ∀ d ∈ dN l, Flat 0 d := fun d h => by
  obtain ⟨n, _, rfl⟩ := List.mem_map.mp h
  exact flat_int
theorem Flat.shaped {n : Nat} {d : PyData} (h : Flat n d) (hn : n ≤ 64 := by decide) : SeqAt.shaped d = true := by
  unfold SeqAt.shaped
  rw [h.1, decide_eq_true (Nat.le_trans h.2 hn)]
  rfl
theorem eqv_dN : ∀ (l m : List Nat), PyData.eqvAll (dN l) (dN m) = decide (l = m)
  | [], [] => rfl
  | [], _ :: _ => (decide_eq_false (by simp)).symm
  | _ :: _, [] => (decide_eq_false (by simp)).symm
  | a :: l, b :: m => by
    show (((a : Int) == (b : Int)) && PyData.eqvAll (dN l) (dN m)) = _
    rw [eqv_dN l m]
    by_cases h : a = b
    · subst h
      rw [beq_self_eq_true, Bool.true_and]
      exact decide_eq_decide.mpr ⟨fun h => by rw [h], fun h => by cases h; rfl⟩
    · rw [show ((a : Int) == (b : Int)) = false from by simp; omega, Bool.false_and]
      exact (decide_eq_false fun e => h (by cases e; rfl)).symm
theorem not_dec {p : Prop} [Decidable p] : (!decide p) = decide (¬ p) := by
  by_cases h : p
  · simp [h]
  · simp [h]
section
variable {K : PySem.W.Frag} {H : Hp} {p q : Addr} {l m : List Nat} {Q : VK}
theorem ne_nl (hp : NL H p l) (hq : NL H q m) (h : Q (.bl (decide (l ≠ m))) H) : rNeD K (.ref p) (.ref q) H Q := by
  refine ⟨_, _, dp_nl hp, dp_nl hq, (flat_list flat_dN).shaped, (flat_list flat_dN).shaped, ?_⟩
  show Q (.bl (!PyData.eqvAll (dN l) (dN m))) H
  rw [eqv_dN, not_dec]
  exact h
theorem eq_nl (hp : NL H p l) (hq : NL H q m) (h : Q (.bl (decide (l = m))) H) : rEqD K (.ref p) (.ref q) H Q := by
  refine ⟨_, _, dp_nl hp, dp_nl hq, (flat_list flat_dN).shaped, (flat_list flat_dN).shaped, ?_⟩
  show Q (.bl (PyData.eqvAll (dN l) (dN m))) H
  rw [eqv_dN]
  exact h
theorem ne_nt (hp : NT H p l) (hq : NT H q m) (h : Q (.bl (decide (l ≠ m))) H) : rNeD K (.ref p) (.ref q) H Q := by
  refine ⟨_, _, dp_nt hp, dp_nt hq, (flat_tup flat_dN).shaped, (flat_tup flat_dN).shaped, ?_⟩
  show Q (.bl (!PyData.eqvAll (dN l) (dN m))) H
  rw [eqv_dN, not_dec]
  exact h
theorem eq_nt (hp : NT H p l) (hq : NT H q m) (h : Q (.bl (decide (l = m))) H) : rEqD K (.ref p) (.ref q) H Q := by
  refine ⟨_, _, dp_nt hp, dp_nt hq, (flat_tup flat_dN).shaped, (flat_tup flat_dN).shaped, ?_⟩
  show Q (.bl (PyData.eqvAll (dN l) (dN m))) H
  rw [eqv_dN]
  exact h
end
theorem perm_eraseIdx {α : Type} : ∀ {l : List α} {k : Nat} {x : α}, l[k]? = some x → (x :: l.eraseIdx k).Perm l
  | [], k, x, h => by simp at h
  | a :: l, 0, x, h => by
    cases h
    exact List.Perm.refl _
  | a :: l, k + 1, x, h => by
    have ih := perm_eraseIdx (l := l) (k := k) (x := x) h
    exact (List.Perm.swap a x (l.eraseIdx k)).trans (ih.cons a)
theorem map_eraseIdx {α β : Type} (f : α → β) : ∀ (l : List α) (k : Nat), (l.map f).eraseIdx k = (l.eraseIdx k).map f
  | [], k => by simp
  | a :: l, 0 => rfl
  | a :: l, k + 1 => by
    show f a :: (l.map f).eraseIdx k = f a :: (l.eraseIdx k).map f
    rw [map_eraseIdx f l k]
/-- a sorted pair -/
theorem srt_pair {x y : Nat} (h : x ≠ y) : ∃ w : Way, srt [x, y] = [w.1, w.2] ∧ ((w = (x, y) ∧ x < y) ∨ (w = (y, x) ∧ y < x)) := by
  by_cases c : x < y
  · refine ⟨(x, y), (srt_eq (List.Perm.refl _) ?_).symm, .inl ⟨rfl, c⟩⟩
    simp
    omega
  · refine ⟨(y, x), (srt_eq (List.Perm.swap _ _ _) ?_).symm, .inr ⟨rfl, by omega⟩⟩
    simp
    omega
end G

/-! Dicts keyed by rooms. -/
namespace G
open PySem L2 GM
def dk (kvs : List (Nat × V)) : List (Key × V) := kvs.map fun q => ((Sum.inl (q.1 : Int) : Key), q.2)
def look (kvs : List (Nat × V)) (n : Nat) : Option V := (kvs.find? fun q => decide (q.1 = n)).map (·.2)
theorem key_eq {a b : Nat} : ((Sum.inl (a : Int) : Key) = Sum.inl (b : Int)) ↔ a = b := ⟨fun h => Int.ofNat.inj (Sum.inl.inj h), fun h => by rw [h]⟩
theorem valV_dk (kvs : List (Nat × V)) (n : Nat) : valV (dk kvs) (Sum.inl (n : Int)) = look kvs n := by
  induction kvs with
  | nil => rfl
  | cons q r ih =>
    by_cases e : q.1 = n
    · rw [show valV (dk (q :: r)) (Sum.inl (n : Int)) = some q.2 from valV_pos (p := ((Sum.inl (q.1 : Int) : Key), q.2)) (r := dk r) (key_eq.mpr e)]
      unfold look
      rw [List.find?_cons_of_pos (by simpa using e)]
      rfl
    · rw [show valV (dk (q :: r)) (Sum.inl (n : Int)) = valV (dk r) (Sum.inl (n : Int)) from valV_neg (p := ((Sum.inl (q.1 : Int) : Key), q.2)) (r := dk r) (fun h => e (key_eq.mp h)), ih]
      unfold look
      rw [List.find?_cons_of_neg (by simpa using e)]
theorem look_none {kvs : List (Nat × V)} {n : Nat} (h : n ∉ kvs.map (·.1)) : look kvs n = none := by
  unfold look
  rw [List.find?_eq_none.mpr fun q hq => by
    simp only [decide_eq_true_eq]
    exact fun e => h (List.mem_map.mpr ⟨q, hq, e⟩)]
  rfl
theorem look_some {kvs : List (Nat × V)} {n : Nat} {v : V} (nd : (kvs.map (·.1)).Nodup) (h : (n, v) ∈ kvs) : look kvs n = some v := by
  induction kvs with
  | nil => cases h
  | cons q r ih =>
    rw [List.map_cons, List.nodup_cons] at nd
    unfold look
    rcases List.mem_cons.mp h with rfl | h
    · rw [List.find?_cons_of_pos (by simp)]
      rfl
    · have ne : q.1 ≠ n := fun e => nd.1 (e ▸ List.mem_map.mpr ⟨_, h, rfl⟩)
      rw [List.find?_cons_of_neg (by simpa using ne)]
      exact ih nd.2 h
theorem putK_dk_new {kvs : List (Nat × V)} {n : Nat} {v : V} (h : n ∉ kvs.map (·.1)) : putK (dk kvs) (Sum.inl (n : Int)) v = dk (kvs ++ [(n, v)]) := by
  rw [putK_new v (by rw [valV_dk, look_none h])]
  unfold dk
  rw [List.map_append]
  rfl
theorem dk_length {kvs : List (Nat × V)} : (dk kvs).length = kvs.length := List.length_map _
theorem dropK_dk {kvs : List (Nat × V)} {n : Nat} : dropK (dk kvs) (Sum.inl (n : Int)) = dk (kvs.filter fun q => decide (q.1 ≠ n)) := by
  unfold dropK dk
  rw [List.filter_map]
  congr 1
  apply List.filter_congr
  intro q _
  show decide (((Sum.inl (q.1 : Int) : Key)) ≠ Sum.inl (n : Int)) = decide (q.1 ≠ n)
  exact decide_eq_decide.mpr (not_congr key_eq)
/-- a set of rooms as a dict -/
def ts (l : List Nat) : List (Nat × V) := l.map fun n => (n, V.bl true)
theorem ts_fst (l : List Nat) : (ts l).map (·.1) = l := by
  unfold ts
  rw [List.map_map]
  exact (List.map_congr_left fun _ _ => rfl).trans (List.map_id l)
def DS (H : Hp) (d : Addr) (l : List Nat) : Prop := H d = some (.dK (dk (ts l)))
theorem DS.same {H H' : Hp} {d : Addr} {l : List Nat} (h : DS H d l) (e : Same H H') : DS H' d l := e _ _ h
theorem look_ts {l : List Nat} {n : Nat} : look (ts l) n = if n ∈ l then some (.bl true) else none := by
  by_cases h : n ∈ l
  · rw [if_pos h]
    induction l with
    | nil => cases h
    | cons a r ih =>
      unfold look ts
      by_cases e : a = n
      · rw [List.map_cons, List.find?_cons_of_pos (by simpa using e)]
        rfl
      · rw [List.map_cons, List.find?_cons_of_neg (by simpa using e)]
        rcases List.mem_cons.mp h with h | h
        · exact absurd h.symm e
        · exact ih h
  · rw [if_neg h]
    exact look_none (by rw [ts_fst]; exact h)
theorem valV_ts {l : List Nat} {n : Nat} : valV (dk (ts l)) (Sum.inl (n : Int)) = if n ∈ l then some (.bl true) else none := (valV_dk _ _).trans look_ts
theorem putK_old {n : Nat} : ∀ {l : List Nat}, n ∈ l → putK (dk (ts l)) (Sum.inl (n : Int)) (.bl true) = dk (ts l) := fun {l} h => by
  unfold putK
  rw [valV_any, valV_ts, if_pos h]
  show (dk (ts l)).map _ = dk (ts l)
  refine (List.map_congr_left fun q hq => ?_).trans (List.map_id _)
  split
  · rename_i e
    obtain ⟨z, hz, rfl⟩ := List.mem_map.mp hq
    obtain ⟨m, _, rfl⟩ := List.mem_map.mp hz
    exact Prod.ext rfl rfl
  · rfl
theorem putK_ts {l : List Nat} {n : Nat} : putK (dk (ts l)) (Sum.inl (n : Int)) (.bl true) = dk (ts (if n ∈ l then l else l ++ [n])) := by
  by_cases h : n ∈ l
  · rw [if_pos h]
    exact putK_old h
  · rw [if_neg h, putK_dk_new (by rw [ts_fst]; exact h)]
    unfold ts
    rw [List.map_append]
    rfl
theorem dropK_ts {l : List Nat} {n : Nat} : dropK (dk (ts l)) (Sum.inl (n : Int)) = dk (ts (l.filter fun x => decide (x ≠ n))) := by
  rw [dropK_dk]
  unfold ts
  rw [List.filter_map]
  rfl
/-- the lists of H stand in H' -/
def SameL (H H' : Hp) : Prop := ∀ b xs, H b = some (.lst xs) → H' b = some (.lst xs)
theorem sameL {H H' : Hp} (s : Same H H') : SameL H H' := fun b xs h => s b _ h
/-- a dict comprehension over rooms, each another one -/
theorem dc_gen {J : It} {n : Nat} {GG : Hp → Prop} {Y : Nat → Hp → V → Hp → Prop} (w : Walk J n GG Y) (xs : List Nat) (nd : xs.Nodup) (p : Nat → Bool) (Rv : Nat → V → Hp → Prop) (mono : ∀ x v H H', SameL H H' → Rv x v H → Rv x v H') {i : Nat} {tt : TT} {tk tv : TE} {σ : St} {H1 : Hp} {D : Addr} {Qd : Hp → Prop}
    (hD : H1 D = none) (hn : xs.length = n) (hsz : n < sizeLine)
    (hY : ∀ j Hc x H', j < n → GG Hc → Y j Hc x H' → H' = Hc ∧ (xs.map vn)[j]? = some x) (hG : ∀ Hc, Same H1 Hc → GG Hc)
    (ht : ∀ x Hc (R : Bool → Hp → Prop), x ∈ xs → Same H1 Hc → (∀ H3, Same Hc H3 → R (p x) H3) → tt ((wipe σ [i]).set i (some (vn x))) Hc R)
    (hk : ∀ x Hc (R : V → Hp → Prop), x ∈ xs → p x = true → Same H1 Hc → R (vn x) Hc → tk ((wipe σ [i]).set i (some (vn x))) Hc R)
    (he : ∀ x Hc (R : V → Hp → Prop), x ∈ xs → p x = true → Same H1 Hc → (∀ v H3, Same Hc H3 → Rv x v H3 → R v H3) → tv ((wipe σ [i]).set i (some (vn x))) Hc R)
    (hd : ∀ H2 (kvs : List (Nat × V)), Same H1 H2 → H2 D = some (.dK (dk kvs)) → kvs.map (·.1) = xs.filter p → (∀ q ∈ kvs, Rv q.1 q.2 H2) → Qd H2) :
    ∃ W : Nat → Nat → Hp → Prop, (∃ m, W 0 m (upd H1 D (.dK []))) ∧ ∀ k m H, W k m H →
      (J.stop k H ∧ Qd H) ∨ (J.go k H ∧ ∃ Nx : Hp → Prop, (∀ H', Nx H' → ∃ m', m' < m ∧ W (k + 1) m' H') ∧ ∀ x H', J.yld k H x H' → gName i x (wipe σ [i]) H' fun σ2 H2 => wipe σ2 [i] = wipe σ [i] ∧ tt σ2 H2 fun b H3 =>
        if b = true then tk σ2 H3 fun y H4 => tv σ2 H4 fun z H5 => ∃ kvs k, y = kV k ∧ H5 D = some (.dK kvs) ∧ kvs.length < sizeLine ∧ Nx (upd H5 D (.dK (putK kvs k z))) else Nx H3) := by
  have sU : ∀ {H4 : Hp} {o : HO}, Same H1 H4 → Same H1 (upd H4 D o) := fun s b o e => by
    rw [upd_ne (ne_of_none e hD)]
    exact s b o e
  refine ⟨fun k m H => m = n - k ∧ k ≤ n ∧ Same H1 H ∧ ∃ kvs : List (Nat × V), H D = some (.dK (dk kvs)) ∧ kvs.map (·.1) = (xs.take k).filter p ∧ ∀ q ∈ kvs, Rv q.1 q.2 H, ⟨n, by simp, Nat.zero_le _, sU (.refl _), [], upd_same, by simp, fun q h => nomatch h⟩, ?_⟩
  rintro k m Hc ⟨rfl, hk1, s, kvs, hdk, hfst, hR⟩
  have q := hG Hc s
  by_cases hlt : k < n
  · refine .inr ⟨w.goes k Hc hlt q, fun H => k + 1 ≤ n ∧ Same H1 H ∧ ∃ kvs : List (Nat × V), H D = some (.dK (dk kvs)) ∧ kvs.map (·.1) = (xs.take (k + 1)).filter p ∧ ∀ q ∈ kvs, Rv q.1 q.2 H, fun H' h => ⟨n - (k + 1), by omega, rfl, h⟩, fun y H' hy => ?_⟩
    obtain ⟨rfl, hx⟩ := hY k Hc y H' hlt q (w.yields k Hc y H' hlt q hy)
    rw [List.getElem?_map] at hx
    obtain ⟨x, hx1, rfl⟩ : ∃ x, xs[k]? = some x ∧ y = vn x := by
      cases e : xs[k]? with
      | none => rw [e] at hx; cases hx
      | some z => rw [e] at hx; exact ⟨z, rfl, (Option.some.inj hx).symm⟩
    have hm : x ∈ xs := List.mem_of_getElem? hx1
    have et : xs.take (k + 1) = xs.take k ++ [x] := by
      rw [List.take_add_one, hx1]
      rfl
    refine ⟨wipe_one, ht x _ _ hm s fun H3 s3 => ?_⟩
    have hdk3 := s3 _ _ hdk
    cases hp : p x with
    | false =>
      refine iteF ⟨hlt, s.trans s3, kvs, hdk3, ?_, fun q hq => mono _ _ _ _ (sameL s3) (hR q hq)⟩
      rw [et, List.filter_append, List.filter_cons_of_neg (by rw [hp]; decide), List.filter_nil, List.append_nil]
      exact hfst
    | true =>
      refine iteT (hk x _ _ hm hp (s.trans s3) (he x _ _ hm hp (s.trans s3) fun v H4 s4 rv => ?_))
      have nx : x ∉ kvs.map (·.1) := by
        rw [hfst]
        intro z
        have z2 := (List.mem_filter.mp z).1
        obtain ⟨j, hj, ej⟩ := List.getElem_of_mem z2
        rw [List.getElem_take] at ej
        rw [List.length_take] at hj
        have hk2 : k < xs.length := by omega
        have ex : xs[k] = x := (List.getElem?_eq_some_iff.mp hx1).2
        have := (List.getElem_inj nd).mp (ej.trans ex.symm)
        omega
      have hlen : kvs.length ≤ k := by
        have h1 := congrArg List.length hfst
        rw [List.length_map] at h1
        rw [h1]
        refine Nat.le_trans (List.length_filter_le _ _) ?_
        rw [List.length_take]
        omega
      have nl : ∀ {H : Hp} {o : HO} {kv : List (Key × V)}, H D = some (.dK kv) → SameL H (upd H D o) := fun {H o kv} h b ys e => by
        have : b ≠ D := fun z => by rw [z, h] at e; cases e
        rw [upd_ne this]
        exact e
      refine ⟨dk kvs, Sum.inl (x : Int), rfl, s4 _ _ hdk3, by rw [dk_length]; omega, hlt, sU (s.trans (s3.trans s4)), kvs ++ [(x, v)], ?_, ?_, ?_⟩
      · rw [upd_same, putK_dk_new nx]
      · rw [List.map_append, hfst, et, List.filter_append, List.filter_cons_of_pos hp]
        rfl
      · intro q hq
        have nl4 := nl (o := .dK (putK (dk kvs) (Sum.inl (x : Int)) v)) (s4 _ _ hdk3)
        rcases List.mem_append.mp hq with hq | hq
        · exact mono _ _ _ _ nl4 (mono _ _ _ _ (sameL (s3.trans s4)) (hR q hq))
        · rw [List.mem_singleton.mp hq]
          exact mono _ _ _ _ nl4 rv
  · have e : k = n := by omega
    subst e
    rw [← hn, List.take_length] at hfst
    exact .inl ⟨w.stops Hc q, hd Hc kvs s hdk hfst hR⟩
theorem at_map {l : List Nat} {i : Nat} {y : V} (h : (l.map vn)[i]? = some y) : ∃ x, l[i]? = some x ∧ y = vn x := by
  rw [List.getElem?_map] at h
  cases e : l[i]? with
  | none => rw [e] at h; cases h
  | some z => rw [e] at h; exact ⟨z, rfl, (Option.some.inj h).symm⟩
end G

namespace G
open PySem L2
def top (i : Nat) : Stmt := PySem.Challenge.pw_apartguards_k01_trees_told.main.body.getD i (.Pass ⟨0, 0, 0, 0⟩)
abbrev s_NoTree___init__ : Stmt := inClass (top 2) 0
abbrev s_NoRoom___init__ : Stmt := inClass (top 3) 0
abbrev s_is_whole : Stmt := top 6
abbrev s_is_room : Stmt := top 7
abbrev s_is_way : Stmt := top 8
abbrev s__check_ways : Stmt := top 9
abbrev s__rows_beside : Stmt := top 10
abbrev s_hung_from : Stmt := top 11
abbrev s_Tree___init__ : Stmt := inClass (top 12) 0
abbrev s_Tree_ways : Stmt := inClass (top 12) 1
abbrev s_Tree___len__ : Stmt := inClass (top 12) 2
abbrev s_Tree___eq__ : Stmt := inClass (top 12) 3
abbrev s_Tree_beside : Stmt := inClass (top 12) 4
abbrev s_Tree_branch : Stmt := inClass (top 12) 5
abbrev s_Tree_between : Stmt := inClass (top 12) 6
abbrev s_Tree_pieces : Stmt := inClass (top 12) 7
abbrev s_Tree_with_room : Stmt := inClass (top 12) 8
abbrev s_Tree__check_rooms : Stmt := inClass (top 12) 9
abbrev s_Tree__hanging : Stmt := inClass (top 12) 10
abbrev s__law_draw : Stmt := top 14
abbrev s__law_ways : Stmt := top 15
abbrev s__law_near : Stmt := top 16
abbrev s__law_hanging : Stmt := top 17
abbrev s__law_between_right : Stmt := top 18
abbrev s__law_pieces : Stmt := top 19
abbrev s__law_rooms_right : Stmt := top 20
abbrev s__law_hung_right : Stmt := top 21
abbrev s__law_right : Stmt := top 22
abbrev s_law : Stmt := top 23
end G

namespace G
open PySem L2 GM
theorem kwr : ¬ (("_ways" : Str) = "_rows") := by decide +kernel
theorem krw : ¬ (("_rows" : Str) = "_ways") := by decide +kernel
def flds (lw lr : Addr) : List (Str × V) := putF "_rows" (.ref lr) (putF "_ways" (.ref lw) [])
theorem flds_rows (lw lr : Addr) : (flds lw lr).lookup ("_rows" : Str) = some (.ref lr) := by
  unfold flds
  rw [lookup_putF, if_pos rfl]
theorem flds_ways (lw lr : Addr) : (flds lw lr).lookup ("_ways" : Str) = some (.ref lw) := by
  unfold flds
  rw [lookup_putF, if_neg kwr, lookup_putF, if_pos rfl]
theorem flds_no (lw lr : Addr) {m : Str} (h1 : ¬ m = "_rows") (h2 : ¬ m = "_ways") : (flds lw lr).lookup m = none := by
  unfold flds
  rw [lookup_putF, if_neg h1, lookup_putF, if_neg h2]
  all_goals rfl
/-- a tree of these ways stands at p -/
def TreeAt (C : Addr) (H : Hp) (p : Addr) (ws : List Way) : Prop := ∃ dx lw lr, H p = some (.ins C dx (flds lw lr)) ∧ LP H lw ws ∧ LL H lr (rows ws)
theorem TreeAt.same {C : Addr} {H H' : Hp} {p : Addr} {ws : List Way} (h : TreeAt C H p ws) (e : Same H H') : TreeAt C H' p ws := by
  obtain ⟨dx, lw, lr, h1, h2, h3⟩ := h
  exact ⟨dx, lw, lr, e _ _ h1, h2.same e, h3.same e⟩
/-- a thing that is no whole number -/
def NoInt (K : PySem.W.Frag) (H : Hp) (v : V) : Prop := ∃ nm b1 b2, TyX K H v (.type nm) ∧ kitB nm "int" = some b1 ∧ kitB nm "bool" = some b2 ∧ (b1 && !b2) = false
def spWhole (K : PySem.W.Frag) : Sp := fun vs H Q _ => ∃ v, vs = [v] ∧ ((∃ i, v = .int i ∧ Q (.bl true) H) ∨ (NoInt K H v ∧ Q (.bl false) H))
def spLen (C : Addr) : Sp := fun vs H Q _ => ∃ p ws, vs = [.ref p] ∧ TreeAt C H p ws ∧ ws.length ≤ 1000 ∧ Q (vn (ws.length + 1)) H
def spRoom (K : PySem.W.Frag) (C : Addr) : Sp := fun vs H Q _ => ∃ p ws v, vs = [.ref p, v] ∧ TreeAt C H p ws ∧ ws.length ≤ 1000 ∧
  ((∃ i : Int, v = .int i ∧ Q (.bl (decide (0 ≤ i) && decide (i < (ws.length + 1 : Nat)))) H) ∨ (NoInt K H v ∧ Q (.bl false) H))
def spCheck (K : PySem.W.Frag) (C : Addr) : Sp := fun vs H Q _ => ∃ (p : Addr) (ws : List Way) (l : Addr) (xs : List Nat), vs = [.ref p, .ref l] ∧ TreeAt C H p ws ∧ ws.length ≤ 1000 ∧ SqL K H l (xs.map vn) ∧ (∀ x ∈ xs, x < ws.length + 1) ∧ Q .non H
def spBeside (C : Addr) : Sp := fun vs H Q _ => ∃ p ws r, vs = [.ref p, vn r] ∧ TreeAt C H p ws ∧ ws.length ≤ 1000 ∧ r < ws.length + 1 ∧ ∀ H' q, Same H H' → H q = none → NL H' q (nb (rows ws) r) → Q (.ref q) H'
structure TxT (K : PySem.W.Frag) (mg : Str → Option Value) (C : Addr) : Prop where
  cl : Cls K C
  nW : NoAttr K C "_ways"
  nR : NoAttr K C "_rows"
  isi : mg "isinstance" = none
  len : mg "len" = none
  list : mg "list" = none
  int : mg "int" = none
  bool : mg "bool" = none
section
variable {P : Program} {w : World} {K : PySem.W.Frag} {mg : Str → Option Value} {base : Heap} {C : Addr}
theorem scWhole : FnScope ["thing"] ["thing"] (defScope s_is_whole) := ⟨rfl, rfl, rfl, by decide +kernel, rfl, by decide +kernel, by decide +kernel⟩
theorem ok_whole {f : Addr} {fd : FuncData} (F : Fun K "is_whole" "is_whole" s_is_whole f fd) (T : TxT K mg C) : FnOk P w K mg base CX0 1 f fd ["thing"] (spWhole K) := by
  refine F.ok scWhole (fun vs H Q E h => ?_) (fun cdv A outer s H vs Q E hr h => ?_)
  · obtain ⟨v, rfl, _⟩ := h
    rfl
  · obtain ⟨v, rfl, k⟩ := h
    refine ⟨_, pss_one (ps_ret (pe_and (pe_callB call_isi (by rfl) T.isi PyProof.Rows.boot_isinstance (pa_cons (pv 0) (pa_cons (pe_bltn (v := .ty "int") (by rfl) T.int PyProof.Rows.boot_int rfl) pa_nil)))
      (pe_one (pe_not (pe_callB call_isi (by rfl) T.isi PyProof.Rows.boot_isinstance (pa_cons (pv 0) (pa_cons (pe_bltn (v := .ty "bool") (by rfl) T.bool PyProof.Rows.boot_bool rfl) pa_nil))))))), ?_⟩
    rcases k with ⟨i, rfl, q⟩ | ⟨⟨nm, b1, b2, ty, h1, h2, h3⟩, q⟩
    · exact ⟨_, rfl, _, _, _, _, true, rfl, .ty _, .base (.int _), kit_ty (by decide +kernel), _, rfl, iteT ⟨_, rfl, _, _, _, _, false, rfl, .ty _, .base (.int _), kit_ty (by decide +kernel), _, rfl, q⟩⟩
    · refine ⟨_, rfl, _, _, _, _, b1, rfl, .ty _, ty, kit_ty h1, _, rfl, ?_⟩
      cases b1 with
      | false => exact iteF q
      | true =>
        refine iteT ⟨_, rfl, _, _, _, _, b2, rfl, .ty _, ty, kit_ty h2, _, rfl, ?_⟩
        cases b2 with
        | true => exact q
        | false => cases h3
theorem scLen : FnScope ["self"] ["self"] (defScope s_Tree___len__) := ⟨rfl, rfl, rfl, by decide +kernel, rfl, by decide +kernel, by decide +kernel⟩
theorem ok_len {f : Addr} {fd : FuncData} (F : Fun K "__len__" "Tree.__len__" s_Tree___len__ f fd) (T : TxT K mg C) : FnOk P w K mg base CX0 1 f fd ["self"] (spLen C) := by
  refine F.ok scLen (fun vs H Q E h => ?_) (fun cdv A outer s H vs Q E hr h => ?_)
  · obtain ⟨p, ws, rfl, _⟩ := h
    rfl
  · obtain ⟨p, ws, rfl, ⟨dx, lw, lr, h1, h2, as, h3, h4⟩, hl, q⟩ := h
    refine ⟨_, pss_one (ps_ret (pe_callB call_len_seq (by rfl) T.len PySem.boot_len (pa_cons (pe_fld (pv 0) rfl) pa_nil))), ?_⟩
    refine ⟨_, rfl, p, C, dx, _, _, rfl, h1, T.cl, T.nR, flds_rows _ _, lr, _, rfl, .inl (SqL.of h3), ?_⟩
    rw [List.length_map, h4.1, rows_length]
    exact q
/-- the defs of the tree module that are called -/
structure CalT (P : Program) (w : World) (K : PySem.W.Frag) (mg : Str → Option Value) (base : Heap) (C fW fL : Addr) (dW dL : FuncData) : Prop where
  oW : FnOk P w K mg base CX0 1 fW dW ["thing"] (spWhole K)
  bW : Binds K dW ["thing"] []
  gW : mg "is_whole" = some (.ref fW)
  kW : PySem.W.keepIn K (.ref fW) = true
  oL : FnOk P w K mg base CX0 1 fL dL ["self"] (spLen C)
  bL : Binds K dL ["self"] []
  iL : PySem.W.findIn K (.ref C) "__len__" = some (some (.ref fL))
  nL : PySem.W.isFn K (.ref fL) = true
variable {fW fL : Addr} {dW dL : FuncData}
theorem scRoom : FnScope ["tree", "thing"] ["tree", "thing"] (defScope s_is_room) := ⟨rfl, rfl, rfl, by decide +kernel, rfl, by decide +kernel, by decide +kernel⟩
theorem ok_room {f : Addr} {fd : FuncData} (F : Fun K "is_room" "is_room" s_is_room f fd) (T : TxT K mg C) (L : CalT P w K mg base C fW fL dW dL) : FnOk P w K mg base CX0 3 f fd ["tree", "thing"] (spRoom K C) := by
  refine F.ok scRoom (fun vs H Q E h => ?_) (fun cdv A outer s H vs Q E hr h => ?_)
  · obtain ⟨p, ws, v, rfl, _⟩ := h
    rfl
  · obtain ⟨p, ws, v, rfl, TT, hl, k⟩ := h
    have hr1 : Room 1 _ := hr.mono (by decide)
    refine ⟨_, pss_one (ps_ret (pe_and (pe_call L.oW hr1 rfl L.gW L.kW L.bW .nil pass0 (pa_cons (pv 1) pa_nil)) (pe_one (pe_chain op_le op_lt pe_int (pv 1) (pe_callB (call_lenO L.oL hr L.iL L.nL L.bL pass0) (by rfl) T.len PySem.boot_len (pa_cons (pv 0) pa_nil)))))), ?_⟩
    rcases k with ⟨i, rfl, q⟩ | ⟨hn, q⟩
    · refine ⟨_, rfl, _, rfl, .inl ⟨i, rfl, _, rfl, iteT ⟨_, rfl, _, _, rfl, rfl, _, rfl, ?_⟩⟩⟩
      by_cases h0 : 0 ≤ i
      · rw [decide_eq_true h0] at q ⊢
        obtain ⟨dx, lw, lr, h1, _⟩ := id TT
        refine iteT ⟨_, rfl, p, dx, _, rfl, h1, p, ws, rfl, TT, hl, _, rfl, by omega, by omega, _, _, rfl, rfl, ?_⟩
        rw [Bool.true_and] at q
        exact q
      · rw [decide_eq_false h0] at q ⊢
        exact iteF q
    · exact ⟨_, rfl, _, rfl, .inr ⟨hn, _, rfl, iteF q⟩⟩
structure CalR (P : Program) (w : World) (K : PySem.W.Frag) (mg : Str → Option Value) (base : Heap) (C fR : Addr) (dR : FuncData) : Prop where
  oR : FnOk P w K mg base CX0 3 fR dR ["tree", "thing"] (spRoom K C)
  bR : Binds K dR ["tree", "thing"] []
  gR : mg "is_room" = some (.ref fR)
  kR : PySem.W.keepIn K (.ref fR) = true
variable {fR : Addr} {dR : FuncData}
theorem scChk : FnScope ["self", "things", "thing"] ["self", "things"] (defScope s_Tree__check_rooms) := ⟨rfl, rfl, rfl, by decide +kernel, rfl, by decide +kernel, by decide +kernel⟩
theorem ok_chk {f : Addr} {fd : FuncData} (F : Fun K "_check_rooms" "Tree._check_rooms" s_Tree__check_rooms f fd) (L : CalR P w K mg base C fR dR) : FnOk P w K mg base CX0 4 f fd ["self", "things"] (spCheck K C) := by
  refine F.ok scChk (fun vs H Q E h => ?_) (fun cdv A outer s H vs Q E hr h => ?_)
  · obtain ⟨p, ws, l, xs, rfl, _⟩ := h
    rfl
  · obtain ⟨p, ws, l, xs, rfl, TT, hl, hS, hx, q⟩ := h
    refine ⟨_, pss_one (ps_for PassesOwn.never rfl (pi_list (pv 1)) (pg_name (i := 2) scChk.nd rfl (Or.inl rfl))
      (pss_one (ps_if (pt_not (pt_val (pe_call L.oR hr rfl L.gR L.kR L.bR .nil pass0 (pa_cons (pv 0) (pa_cons (pv 2) pa_nil))))) (pss_one ps_never) pss_nil))), ?_⟩
    refine ⟨_, rfl, l, rfl, ⟨_, hS⟩, for_list (K := K) (a := l) (xs := xs.map vn) (fun i σ Hc => ∃ v, σ = [some (.ref p), some (.ref l), v] ∧ Hc = H) ⟨none, rfl, rfl⟩ (fun i σ Hc _ ⟨_, _, e⟩ => e ▸ hS) ?_ ?_⟩
    · rintro i y σ Hc hi ⟨v, rfl, rfl⟩
      obtain ⟨x, hx1, rfl⟩ : ∃ x, x ∈ xs ∧ y = vn x := by
        rw [List.getElem?_map] at hi
        cases e : xs[i]? with
        | none => rw [e] at hi; cases hi
        | some x => rw [e] at hi; exact ⟨x, List.mem_of_getElem? e, (Option.some.inj hi).symm⟩
      have lx := hx x hx1
      refine ⟨_, rfl, _, rfl, p, ws, _, rfl, TT, hl, .inl ⟨_, rfl, _, rfl, ?_⟩⟩
      have e : (decide (0 ≤ (x : Int)) && decide ((x : Int) < ((ws.length + 1 : Nat) : Int))) = true := by
        rw [decide_eq_true (Int.natCast_nonneg x), decide_eq_true (Int.ofNat_lt.mpr lx)]
        rfl
      rw [e]
      exact iteF ⟨_, rfl, rfl⟩
    · rintro σ Hc ⟨v, rfl, rfl⟩
      exact q
structure CalC (P : Program) (w : World) (K : PySem.W.Frag) (mg : Str → Option Value) (base : Heap) (C fC : Addr) (dC : FuncData) : Prop where
  oC : FnOk P w K mg base CX0 4 fC dC ["self", "things"] (spCheck K C)
  bC : Binds K dC ["self", "things"] []
  mC : Meth K C "_check_rooms" fC
variable {fC : Addr} {dC : FuncData}
theorem scBes : FnScope ["self", "room"] ["self", "room"] (defScope s_Tree_beside) := ⟨rfl, rfl, rfl, by decide +kernel, rfl, by decide +kernel, by decide +kernel⟩
theorem k_ch : ¬ (("_check_rooms" : Str) = "_rows") := by decide +kernel
theorem k_ch2 : ¬ (("_check_rooms" : Str) = "_ways") := by decide +kernel
theorem LL.at {H : Hp} {p : Addr} {rs : List (List Nat)} {r : Nat} (h : LL H p rs) (hr : r < rs.length) : ∃ (as : List Addr) (a : Addr), H p = some (.lst (as.map V.ref)) ∧ atI (as.map V.ref) (r : Int) = some (.ref a) ∧ NL H a (nb rs r) := by
  obtain ⟨as, h1, h2, h3⟩ := h
  have hr2 : r < as.length := by rw [h2]; exact hr
  refine ⟨as, as[r], h1, atI_nat ?_, h3 r _ (List.getElem?_eq_getElem hr2)⟩
  rw [List.getElem?_map, List.getElem?_eq_getElem hr2]
  rfl
theorem ok_bes {f : Addr} {fd : FuncData} (F : Fun K "beside" "Tree.beside" s_Tree_beside f fd) (T : TxT K mg C) (L : CalC P w K mg base C fC dC) : FnOk P w K mg base CX0 5 f fd ["self", "room"] (spBeside C) := by
  refine F.ok scBes (fun vs H Q E h => ?_) (fun cdv A outer s H vs Q E hr h => ?_)
  · obtain ⟨p, ws, r, rfl, _⟩ := h
    rfl
  · obtain ⟨p, ws, r, rfl, TT, hl, hr', q⟩ := h
    refine ⟨_, pss_cons (ps_expr (pe_meth (pv 0) T.cl L.mC L.oC hr L.bC .nil pass0 (pa_cons (pe_lst (pa_cons (pv 1) pa_nil)) pa_nil)))
      (pss_one (ps_ret (pe_callTy call_list_of (by rfl) T.list PyProof.Rows.boot_list (pa_cons (pe_ix ix_list (pe_fld (pv 0) rfl) (pv 1) (fun _ _ => rfl)) pa_nil)))), ?_⟩
    obtain ⟨dx, lw, lr, h1, h2, h3⟩ := id TT
    refine ⟨_, rfl, p, dx, _, rfl, h1, flds_no _ _ k_ch k_ch2, _, rfl, (by show 1 ≤ sizeLine; decide), fun l nl => ?_⟩
    generalize hB : upd _ l _ = B
    have s1 : Same H B := hB ▸ same_new nl
    have hl2 : B l = some _ := hB ▸ upd_same
    refine ⟨p, ws, l, [r], rfl, TT.same s1, hl, SqL.of hl2, fun x hx => ?_, ?_⟩
    · rw [List.mem_singleton.mp hx]
      exact hr'
    obtain ⟨as, a, g1, g2, g3⟩ := (h3.same s1).at (r := r) (by rw [rows_length]; exact hr')
    refine ⟨_, rfl, p, C, dx, _, _, rfl, s1 _ _ h1, T.cl, T.nR, flds_rows _ _, _, rfl, lr, _, _, _, rfl, rfl, SqL.of g1, g2, a, _, rfl, .inl (SqL.of g3), fun x nx => ?_⟩
    exact q _ x (s1.trans (same_new nx)) (s1.free nx) upd_same
end
end G

namespace G
open PySem L2 GM
theorem rg_vn (n : Nat) : rgV 0 (n : Int) = (List.range n).map vn := by
  unfold rgV
  rw [show ((n : Int) - 0).toNat = n by omega]
  apply List.map_congr_left
  intro a _
  show V.int (0 + (a : Int)) = V.int (a : Int)
  rw [Int.zero_add]
theorem at_vn {l : List Nat} {i : Nat} (h : i < l.length) : atI (l.map vn) (i : Int) = some (vn (l.getD i 0)) := by
  refine atI_nat ?_
  rw [List.getElem?_map, List.getElem?_eq_getElem h, List.getD_eq_getElem?_getD, List.getElem?_eq_getElem h]
  rfl
theorem LP.at {H : Hp} {as : List Addr} {ws : List Way} (h : Pairs H as ws) {i : Nat} {y : V} (e : (as.map V.ref)[i]? = some y) : ∃ t w, y = .ref t ∧ ws[i]? = some w ∧ NT H t [w.1, w.2] := by
  rw [List.getElem?_map] at e
  cases ha : as[i]? with
  | none => rw [ha] at e; cases e
  | some t =>
    rw [ha] at e
    have hi : i < ws.length := by
      rw [← h.1]
      exact (List.getElem?_eq_some_iff.mp ha).1
    have k := h.2 i t ha
    rw [List.getD_eq_getElem?_getD, List.getElem?_eq_getElem hi] at k
    exact ⟨t, ws[i], (Option.some.inj e).symm, List.getElem?_eq_getElem hi, k⟩
def spIsWay : Sp := fun vs H Q _ => ∃ (t : Addr) (a b many : Nat), vs = [.ref t, vn many] ∧ NT H t [a, b] ∧ a < b ∧ b < many ∧ Q (.bl true) H
def spChkW : Sp := fun vs H Q _ => ∃ (l : Addr) (ws : List Way), vs = [.ref l] ∧ LP H l ws ∧ ws.length ≤ 59 ∧ okWays (ws.length + 1) ws (List.range (ws.length + 1)) ∧ ∀ H', Same H H' → Q .non H'
structure TxW (K : PySem.W.Frag) (mg : Str → Option Value) : Prop where
  isi : mg "isinstance" = none
  len : mg "len" = none
  list : mg "list" = none
  tup : mg "tuple" = none
  rg : mg "range" = none
  en : mg "enumerate" = none
  most : ∃ t, mg "MOST_WAYS" = some (.int 59 t)
  srt : mg "sorted" = none
structure CalW (P : Program) (w : World) (K : PySem.W.Frag) (mg : Str → Option Value) (base : Heap) (fW : Addr) (dW : FuncData) : Prop where
  oW : FnOk P w K mg base CX0 1 fW dW ["thing"] (spWhole K)
  bW : Binds K dW ["thing"] []
  gW : mg "is_whole" = some (.ref fW)
  kW : PySem.W.keepIn K (.ref fW) = true
section
variable {P : Program} {w : World} {K : PySem.W.Frag} {mg : Str → Option Value} {base : Heap} {fW : Addr} {dW : FuncData}
theorem scIsW : FnScope ["thing", "many", "one", "other"] ["thing", "many"] (defScope s_is_way) := ⟨rfl, rfl, rfl, by decide +kernel, rfl, by decide +kernel, by decide +kernel⟩
theorem ok_isw {f : Addr} {fd : FuncData} (F : Fun K "is_way" "is_way" s_is_way f fd) (T : TxW K mg) (L : CalW P w K mg base fW dW) : FnOk P w K mg base CX0 2 f fd ["thing", "many"] spIsWay := by
  refine F.ok scIsW (fun vs H Q E h => ?_) (fun cdv A outer s H vs Q E hr h => ?_)
  · obtain ⟨t, a, b, many, rfl, _⟩ := h
    rfl
  · obtain ⟨t, a, b, many, rfl, ht, h1, h2, q⟩ := h
    refine ⟨_, pss_cons (ps_if (PW.pt (pw_or (pt_not (pt_val (pe_callB call_isi (by rfl) T.isi PyProof.Rows.boot_isinstance (pa_cons (pv 0) (pa_cons (pe_bltn (v := .ty "tuple") (by rfl) T.tup PyProof.Rows.boot_tuple rfl) pa_nil)))))
        (pw_or1 (pt_cmpR op_ne (pe_callB call_len_seq (by rfl) T.len PySem.boot_len (pa_cons (pv 0) pa_nil)) pe_int (nomark _))))) (pss_one (ps_ret pe_bl)) pss_nil)
      (pss_cons (ps_asg (pv 0) (pg_tup (by rfl) (pgs_cons (pg_name (i := 2) scIsW.nd rfl (Or.inl rfl)) (pgs_cons (pg_name (i := 3) scIsW.nd rfl (Or.inl rfl)) pgs_nil))))
      (pss_one (ps_ret (pe_and (pe_call L.oW hr rfl L.gW L.kW L.bW .nil pass0 (pa_cons (pv 2) pa_nil)) (pe_and (pe_call L.oW hr rfl L.gW L.kW L.bW .nil pass0 (pa_cons (pv 3) pa_nil))
        (pe_one (pe_chain3 op_le op_lt op_lt pe_int (pv 2) (pv 3) (pv 1)))))))), ?_⟩
    refine ⟨_, rfl, _, _, _, _, true, rfl, .ty _, .base (.tup ht), kit_ty (by decide +kernel), _, rfl, iteF ?_⟩
    refine ⟨_, rfl, t, _, rfl, .inr (SqT.of ht), rfl, _, rfl, iteF ?_⟩
    refine ⟨_, rfl, t, _, rfl, SqT.of ht, rfl, _, _, rfl, _, _, rfl, rfl, ?_⟩
    refine ⟨_, rfl, .int _, rfl, .inl ⟨_, rfl, _, rfl, iteT ?_⟩⟩
    refine ⟨_, rfl, .int _, rfl, .inl ⟨_, rfl, _, rfl, iteT ?_⟩⟩
    refine ⟨_, rfl, _, _, rfl, rfl, _, rfl, ?_⟩
    rw [decide_eq_true (Int.natCast_nonneg a)]
    refine iteT ⟨_, rfl, _, _, rfl, rfl, _, rfl, ?_⟩
    rw [decide_eq_true (Int.ofNat_lt.mpr h1)]
    refine iteT ⟨_, rfl, _, _, rfl, rfl, ?_⟩
    show Q (.bl (decide ((b : Int) < (many : Int)))) H
    rw [decide_eq_true (Int.ofNat_lt.mpr h2)]
    exact q
structure CalV (P : Program) (w : World) (K : PySem.W.Frag) (mg : Str → Option Value) (base : Heap) (fV : Addr) (dV : FuncData) : Prop where
  oV : FnOk P w K mg base CX0 2 fV dV ["thing", "many"] spIsWay
  bV : Binds K dV ["thing", "many"] []
  gV : mg "is_way" = some (.ref fV)
  kV : PySem.W.keepIn K (.ref fV) = true
variable {fV : Addr} {dV : FuncData}
theorem scCkW : FnScope ["ways", "many", "lots", "at", "way", "kept", "lost", "lot"] ["ways"] (defScope s__check_ways) := ⟨rfl, rfl, rfl, by decide +kernel, rfl, by decide +kernel, by decide +kernel⟩
theorem ok_ckw {f : Addr} {fd : FuncData} (F : Fun K "_check_ways" "_check_ways" s__check_ways f fd) (T : TxW K mg) (L : CalV P w K mg base fV dV) : FnOk P w K mg base CX0 3 f fd ["ways"] spChkW := by
  refine F.ok scCkW (fun vs H Q E h => ?_) (fun cdv A outer s H vs Q E hr h => ?_)
  · obtain ⟨l, ws, rfl, _⟩ := h
    rfl
  · obtain ⟨l, ws, rfl, ⟨as, hl, hP⟩, hlen, hok, q⟩ := h
    obtain ⟨tm, gm⟩ := T.most
    have hu := hr.units
    refine ⟨_, pss_cons (ps_if (PW.pt (pw_or (pt_not (pt_val (pe_callB call_isi (by rfl) T.isi PyProof.Rows.boot_isinstance (pa_cons (pv 0) (pa_cons (pe_bltn (v := .ty "list") (by rfl) T.list PyProof.Rows.boot_list rfl) pa_nil)))))
        (pw_or1 (pt_cmpR op_gt (pe_callB call_len_seq (by rfl) T.len PySem.boot_len (pa_cons (pv 0) pa_nil)) (pe_glob (v := .int 59) rfl gm ⟨_, rfl⟩) (nomark _))))) (pss_one ps_never) pss_nil)
      (pss_cons (ps_set (i := 1) scCkW.nd rfl (Or.inl rfl) (pe_op op_add (pe_callB call_len_seq (by rfl) T.len PySem.boot_len (pa_cons (pv 0) pa_nil)) pe_int))
      (pss_cons (ps_set (i := 2) scCkW.nd rfl (Or.inl rfl) (pe_listRg rfl rfl T.list (prg_1 rfl T.rg (pv 1))))
      (pss_one (ps_for PassesOwn.never rfl (pi_enum (by rfl) T.en (pa_cons (pv 0) pa_nil)) (pg_tup rfl (pgs_cons (pg_name (i := 3) scCkW.nd rfl (Or.inl rfl)) (pgs_cons (pg_name (i := 4) scCkW.nd rfl (Or.inl rfl)) pgs_nil)))
        (pss_cons (ps_if (PW.pt (pw_or (pt_not (pt_val (pe_call L.oV hr rfl L.gV L.kV L.bV .nil pass0 (pa_cons (pv 4) (pa_cons (pv 1) pa_nil)))))
            (pw_or1 (pt_cmpR op_eq (pe_ix ix_list (pv 2) (pe_ix ix_tup (pv 4) pe_int (fun _ _ => rfl)) (fun _ _ => rfl)) (pe_ix ix_list (pv 2) (pe_ix ix_tup (pv 4) pe_int (fun _ _ => rfl)) (fun _ _ => rfl)) (nomark _))))) (pss_one ps_never) pss_nil)
        (pss_cons (ps_asg (pe_tup (pa_cons (pe_ix ix_list (pv 2) (pe_ix ix_tup (pv 4) pe_int (fun _ _ => rfl)) (fun _ _ => rfl)) (pa_cons (pe_ix ix_list (pv 2) (pe_ix ix_tup (pv 4) pe_int (fun _ _ => rfl)) (fun _ _ => rfl)) pa_nil)))
            (pg_tup rfl (pgs_cons (pg_name (i := 5) scCkW.nd rfl (Or.inr rfl)) (pgs_cons (pg_name (i := 6) scCkW.nd rfl (Or.inr rfl)) pgs_nil))))
        (pss_one (ps_setLc (i := 2) (own := [("lot", 7)]) (g := gName 7) (tt := tYes) rfl scCkW.nd rfl rfl (sw_true rfl rfl rfl (by decide +kernel)) (pi_list (pv 2)) (blkOk_by (N := ["ways", "many", "lots", "at", "way", "kept", "lost", "lot"]) (sc := defScope s__check_ways) (by decide +kernel))
          (fun _ _ _ _ _ => pg_name (i := 7) scCkW.nd rfl (Or.inl rfl)) (fun _ _ _ _ _ => pts_nil) (fun _ _ _ _ _ => pe_ifExp (pt_cmpR op_eq (pv 7) (pv 6) (nomark _)) (pv 5) (pv 7)))))))))), ?_⟩
    have el : (as.map V.ref).length = ws.length := by rw [List.length_map, hP.1]
    refine ⟨_, rfl, _, _, _, _, true, rfl, .ty _, .base (.lst hl), kit_ty (by decide +kernel), _, rfl, iteF ?_⟩
    refine ⟨_, rfl, l, _, rfl, .inl (SqL.of hl), _, _, rfl, rfl, _, rfl, ?_⟩
    rw [el, decide_eq_false (show ¬ ((59 : Int) < ((ws.length : Nat) : Int)) by omega)]
    refine iteF ⟨_, rfl, l, _, rfl, .inl (SqL.of hl), ((ws.length : Nat) : Int), 1, (by rw [el]), rfl, ?_⟩
    refine ⟨_, rfl, ((ws.length + 1 : Nat) : Int), rfl, RgOk.of_le (by decide) (by omega) (by decide) (by omega), fun q0 nq => ?_⟩
    rw [rg_vn]
    generalize hB : upd _ q0 _ = B
    have s1 : Same H B := hB ▸ same_new nq
    have h1 : NL B q0 (List.range (ws.length + 1)) := hB ▸ upd_same
    refine ⟨_, rfl, l, _, rfl, SqL.of (s1 _ _ hl), ?_⟩
    refine for_it (walk_enum (xs := as.map V.ref)) (fun j σ Hd => ∃ v3 v4 v5 v6 v7 lq L, σ = [some (.ref l), some (vn (ws.length + 1)), some (.ref lq), v3, v4, v5, v6, v7] ∧ Same H Hd ∧ NL Hd lq L ∧ L.length = ws.length + 1 ∧ okWays (ws.length + 1) (ws.drop j) L)
      ⟨none, none, none, none, none, q0, _, rfl, s1, h1, List.length_range, hok⟩ (fun j σ Hd _ ⟨_, _, _, _, _, _, _, _, sd, _⟩ => SqL.of (sd _ _ hl)) ?_ ?_
    · rintro j y σ Hd Hd' hj ⟨v3, v4, v5, v6, v7, lq, L, rfl, sd, hL, lL, hk⟩ ⟨T0, y1, y2, rfl, nT, rfl, ey1, ey2⟩
      obtain ⟨t, w0, rfl, hw, ht⟩ := LP.at hP ey2
      obtain ⟨a, b⟩ := w0
      have ed : ws.drop j = (a, b) :: ws.drop (j + 1) := by
        rw [List.drop_eq_getElem_cons (List.getElem?_eq_some_iff.mp hw).1]
        rw [(List.getElem?_eq_some_iff.mp hw).2]
      rw [ed] at hk
      obtain ⟨k1, k2, k3, k4⟩ := hk
      simp only at k1 k2 k3 k4
      refine ⟨T0, _, rfl, SqT.of upd_same, rfl, _, _, rfl, _, _, rfl, rfl, ?_⟩
      generalize hB2 : upd _ T0 _ = B2
      have s2 : Same Hd B2 := hB2 ▸ same_new nT
      have t2 : NT B2 t [a, b] := s2 _ _ (sd _ _ ht)
      have L2 : NL B2 lq L := s2 _ _ hL
      refine ⟨_, rfl, _, rfl, t, a, b, ws.length + 1, rfl, t2, k1, k2, _, rfl, iteF ?_⟩
      have xa : atI (L.map vn) (a : Int) = some (vn (L.getD a 0)) := at_vn (by omega)
      have xb : atI (L.map vn) (b : Int) = some (vn (L.getD b 0)) := at_vn (by omega)
      have ia : atI ([a, b].map vn) 0 = some (vn a) := rfl
      have ib : atI ([a, b].map vn) 1 = some (vn b) := rfl
      refine ⟨_, rfl, _, rfl, t, _, _, _, rfl, rfl, SqT.of t2, ia, lq, _, _, _, rfl, rfl, SqL.of L2, xa, _, rfl, _, rfl, t, _, _, _, rfl, rfl, SqT.of t2, ib, lq, _, _, _, rfl, rfl, SqL.of L2, xb, rfl, _, rfl, ?_⟩
      rw [vn_dec, decide_eq_false k3]
      refine iteF ⟨_, rfl, _, rfl, t, _, _, _, rfl, rfl, SqT.of t2, ia, lq, _, _, _, rfl, rfl, SqL.of L2, xa, _, rfl, _, rfl, t, _, _, _, rfl, rfl, SqT.of t2, ib, lq, _, _, _, rfl, rfl, SqL.of L2, xb, (by show 2 ≤ sizeLine; decide), fun T1 nT1 => ?_⟩
      generalize hB3 : upd _ T1 _ = B3
      have s3 : Same B2 B3 := hB3 ▸ same_new nT1
      have t3 : NT B3 T1 [L.getD a 0, L.getD b 0] := hB3 ▸ upd_same
      have L3 : NL B3 lq L := s3 _ _ L2
      refine ⟨T1, _, rfl, SqT.of t3, rfl, _, _, rfl, _, _, rfl, rfl, ?_⟩
      refine ⟨_, rfl, lq, rfl, ⟨_, SqL.of L3⟩, fun D nD => ?_⟩
      refine lc_gen (walk_list (K := K) (a := lq) (xs := L.map vn)) (L.map vn) (fun _ => true) (fun v => if v = vn (L.getD b 0) then vn (L.getD a 0) else v) nD rfl (by rw [List.length_map, lL]; exact small1000 (by omega))
        (fun j Hc x H' _ _ y => ⟨y.1, y.2⟩) (fun Hc s => SqL.of (s _ _ L3)) (fun x Hc R _ _ k => k Hc (.refl _)) ?_ ?_
      · intro x Hc R hx _ sc k
        obtain ⟨z, _, rfl⟩ := List.mem_map.mp hx
        refine ⟨_, rfl, _, rfl, rfl, _, rfl, ?_⟩
        have kk := k Hc (.refl _)
        by_cases e : vn z = vn (L.getD b 0)
        · rw [if_pos e] at kk
          rw [decide_eq_true e]
          exact iteT ⟨_, rfl, kk⟩
        · rw [if_neg e] at kk
          rw [decide_eq_false e]
          exact iteF ⟨_, rfl, kk⟩
      · intro H2 s4 hD
        refine ⟨_, _, _, _, _, D, relab L (L.getD a 0) (L.getD b 0), rfl, sd.trans (s2.trans (s3.trans s4)), ?_, by rw [relab_length]; exact lL, k4⟩
        unfold NL
        rw [hD, List.filter_eq_self.mpr (fun _ _ => rfl)]
        unfold relab
        rw [List.map_map, List.map_map]
        congr 2
        apply List.map_congr_left
        intro z _
        show (if vn z = vn (L.getD b 0) then vn (L.getD a 0) else vn z) = vn (if z = L.getD b 0 then L.getD a 0 else z)
        by_cases e : z = L.getD b 0
        · rw [if_pos e, if_pos (by rw [e])]
        · rw [if_neg e, if_neg (fun h => e (vn_inj h))]
    · rintro σ Hd ⟨v3, v4, v5, v6, v7, lq, L, rfl, sd, _⟩
      exact q Hd sd
end
end G

namespace G
open PySem L2 GM
def spRows : Sp := fun vs H Q _ => ∃ (l : Addr) (ws : List Way), vs = [.ref l] ∧ LP H l ws ∧ ws.length ≤ 59 ∧ (∀ w ∈ ws, w.1 < w.2 ∧ w.2 < ws.length + 1) ∧ ∀ H' q, Same H H' → H q = none → LL (only H H') q (rows ws) → Q (.ref q) H'
section
variable {P : Program} {w : World} {K : PySem.W.Frag} {mg : Str → Option Value} {base : Heap}
theorem scRows : FnScope ["ways", "rows", "one", "other", "_", "row"] ["ways"] (defScope s__rows_beside) := ⟨rfl, rfl, rfl, by decide +kernel, rfl, by decide +kernel, by decide +kernel⟩
theorem ok_Rows {f : Addr} {fd : FuncData} (F : Fun K "_rows_beside" "_rows_beside" s__rows_beside f fd) (T : TxW K mg) : FnOk P w K mg base CX0 1 f fd ["ways"] spRows := by
  refine F.ok scRows (fun vs H Q E h => ?_) (fun cdv A outer s H vs Q E hr h => ?_)
  · obtain ⟨l, ws, rfl, _⟩ := h
    rfl
  · obtain ⟨l, ws, rfl, ⟨as0, hl, hP⟩, hlen, hw, q⟩ := h
    refine ⟨_, pss_cons (ps_setLc (i := 1) (own := [("_", 4)]) (g := gName 4) (tt := tYes) rfl scRows.nd rfl rfl (sw_true rfl rfl rfl (by decide +kernel)) (pi_range1 (by rfl) T.rg (pa_cons (pe_op op_add (pe_callB call_len_seq (by rfl) T.len PySem.boot_len (pa_cons (pv 0) pa_nil)) pe_int) pa_nil)) (blkOk_by (N := ["ways", "rows", "one", "other", "_", "row"]) (sc := defScope s__rows_beside) (by decide +kernel))
          (fun _ _ _ _ _ => pg_name (i := 4) scRows.nd rfl (Or.inl rfl)) (fun _ _ _ _ _ => pts_nil) (fun _ _ _ _ _ => pe_lst pa_nil))
      (pss_cons (ps_for PassesOwn.never rfl (pi_list (pv 0)) (pg_tup rfl (pgs_cons (pg_name (i := 2) scRows.nd rfl (Or.inl rfl)) (pgs_cons (pg_name (i := 3) scRows.nd rfl (Or.inl rfl)) pgs_nil)))
        (pss_cons (ps_expr (pe_bm PySem.F.plainAttrs_list PySem.F.slot_list_append PySem.F.type_list_append mt_append (pe_ix ix_list (pv 1) (pv 2) (fun _ _ => rfl)) (pa_cons (pv 3) pa_nil)))
        (pss_one (ps_expr (pe_bm PySem.F.plainAttrs_list PySem.F.slot_list_append PySem.F.type_list_append mt_append (pe_ix ix_list (pv 1) (pv 3) (fun _ _ => rfl)) (pa_cons (pv 2) pa_nil))))))
      (pss_one (ps_ret (pe_lc (own := [("row", 5)]) (g := gName 5) (tt := tYes) rfl scRows.nd (pi_list (pv 1)) (blkOk_by (N := ["ways", "rows", "one", "other", "_", "row"]) (sc := defScope s__rows_beside) (by decide +kernel)) (fun _ _ _ _ _ => pg_name (i := 5) scRows.nd rfl (Or.inl rfl)) (fun _ _ _ _ _ => pts_nil)
        (fun _ _ _ _ _ => pe_callB (r := rSortedI K) cr_sortedI (by rfl) T.srt PyProof.Rows.boot_sorted (pa_cons (pv 5) pa_nil)))))), ?_⟩
    have el : (as0.map V.ref).length = ws.length := by rw [List.length_map, hP.1]
    -- rows = [[] for ..]
    refine ⟨_, rfl, l, _, rfl, .inl (SqL.of hl), ((ws.length : Nat) : Int), 1, (by rw [el]), rfl, ((ws.length + 1 : Nat) : Int), rfl, by omega, by omega, fun D nD => ?_⟩
    refine lc_range (lo := 0) (n := (((ws.length + 1 : Nat) : Int)).toNat) (fun j Hc => Same H Hc ∧ ∃ as : List Addr, as.length = j ∧ Hc D = some (.lst (as.map .ref)) ∧ as.Nodup ∧ (∀ a ∈ as, Hc a = some (.lst []) ∧ H a = none ∧ a ≠ D)) ⟨same_new nD, [], rfl, upd_same, List.nodup_nil, fun a h => nomatch h⟩ ?_ ?_
    · rintro j Hc hj ⟨sc, as, la, hD, nd, ha⟩
      have hj2 : j < 61 := by omega
      refine ⟨rfl, (by show 0 ≤ sizeLine; decide), fun a na => ?_⟩
      have aD : a ≠ D := (ne_of_none hD na).symm
      refine ⟨as.map V.ref, by rw [upd_ne aD.symm]; exact hD, by rw [List.length_map]; exact small1000 (by omega), fun b o e => ?_, as ++ [a], by rw [List.length_append, la]; rfl, ?_, ?_, ?_⟩
      · rw [upd_ne (ne_of_none e nD), upd_ne (ne_of_none (sc b o e) na)]
        exact sc b o e
      · rw [upd_same, List.map_append]
        rfl
      · rw [List.nodup_append]
        refine ⟨nd, by simp, fun x hx y hy => ?_⟩
        rw [List.mem_singleton.mp hy]
        exact ne_of_none (ha x hx).1 na
      · intro b hb
        rcases List.mem_append.mp hb with hb | hb
        · obtain ⟨h1, h2, h3⟩ := ha b hb
          refine ⟨?_, h2, h3⟩
          rw [upd_ne h3, upd_ne (ne_of_none h1 na)]
          exact h1
        · rw [List.mem_singleton.mp hb]
          refine ⟨?_, sc.free na, aD⟩
          rw [upd_ne aD, upd_same]
    · rintro H1 ⟨s1, as, la, hD, nd, ha⟩
      have la2 : as.length = ws.length + 1 := by rw [la]; omega
      -- for one, other in ways
      refine ⟨_, rfl, l, rfl, ⟨_, SqL.of (s1 _ _ hl)⟩, for_list (K := K) (a := l) (xs := as0.map V.ref) (fun j σ Hd => ∃ v2 v3 v4 v5, σ = [some (.ref l), some (.ref D), v2, v3, v4, v5] ∧ Same H Hd ∧ Hd D = some (.lst (as.map .ref)) ∧ Lists Hd as ((ws.take j).foldl addWay (List.replicate (ws.length + 1) [])))
        ⟨none, none, none, none, rfl, s1, hD, lists_nil la2 fun a h => (ha a h).1⟩ (fun j σ Hd _ ⟨_, _, _, _, _, sd, _⟩ => SqL.of (sd _ _ hl)) ?_ ?_⟩
      · rintro j y σ Hd hj ⟨v2, v3, v4, v5, rfl, sd, hd, hL⟩
        obtain ⟨t, w0, rfl, hwj, ht⟩ := LP.at hP hj
        obtain ⟨a, b⟩ := w0
        have hab := hw (a, b) (List.mem_of_getElem? hwj)
        simp only at hab
        have hjl := (List.getElem?_eq_some_iff.mp hwj).1
        generalize hacc : (ws.take j).foldl addWay (List.replicate (ws.length + 1) []) = acc at hL
        have lacc : acc.length = ws.length + 1 := by rw [← hacc, foldl_addWay_length, List.length_replicate]
        have lrow : ∀ i, (acc.getD i []).length ≤ 118 := by
          intro i
          have := len_raw (n := 0) (ws.take j) (List.replicate (ws.length + 1) []) (fun i => by rw [getD_replicate]; exact Nat.le_refl _) i
          rw [hacc, List.length_take] at this
          omega
        have nx : (ws.take (j + 1)).foldl addWay (List.replicate (ws.length + 1) []) = put (put acc a b) b a := by
          rw [List.take_add_one, hwj, List.foldl_append, hacc]
          rfl
        obtain ⟨ra, hra⟩ : ∃ ra, as[a]? = some ra := ⟨_, List.getElem?_eq_getElem (by omega)⟩
        obtain ⟨rb, hrb⟩ : ∃ rb, as[b]? = some rb := ⟨_, List.getElem?_eq_getElem (by omega)⟩
        have ma := ha ra (List.mem_of_getElem? hra)
        have mb := ha rb (List.mem_of_getElem? hrb)
        have ia : atI (as.map V.ref) (a : Int) = some (.ref ra) := atI_nat (by rw [List.getElem?_map, hra]; rfl)
        have ib : atI (as.map V.ref) (b : Int) = some (.ref rb) := atI_nat (by rw [List.getElem?_map, hrb]; rfl)
        refine ⟨t, _, rfl, SqT.of (sd _ _ ht), rfl, _, _, rfl, _, _, rfl, rfl, ?_⟩
        have h1 := hL.2 a ra hra
        refine ⟨_, rfl, _, rfl, D, _, _, _, rfl, rfl, SqL.of hd, ia, .inl ⟨rfl, _, SqL.of h1⟩, _, rfl, ra, _, _, rfl, rfl, h1, by rw [List.length_map]; exact small1000 (by have := lrow a; omega), ?_⟩
        have L1 := hL.upd (x := b) nd hra
        have e1 : (acc.getD a []).map vn ++ [vn b] = (acc.getD a [] ++ [b]).map vn := by rw [List.map_append]; rfl
        rw [e1]
        have s2 : Same H (upd Hd ra (.lst ((acc.getD a [] ++ [b]).map vn))) := fun c o e => by
          rw [upd_ne (ne_of_none e ma.2.1)]
          exact sd c o e
        have d2 : upd Hd ra (.lst ((acc.getD a [] ++ [b]).map vn)) D = some (.lst (as.map .ref)) := by
          rw [upd_ne ma.2.2.symm]
          exact hd
        generalize upd Hd ra (.lst ((acc.getD a [] ++ [b]).map vn)) = B2 at L1 s2 d2
        have lrow2 : ((put acc a b).getD b []).length ≤ 119 := len_put lrow b
        have h2 := L1.2 b rb hrb
        refine ⟨_, rfl, _, rfl, D, _, _, _, rfl, rfl, SqL.of d2, ib, .inl ⟨rfl, _, SqL.of h2⟩, _, rfl, rb, _, _, rfl, rfl, h2, by rw [List.length_map]; exact small1000 (by omega), ?_⟩
        have L2 := L1.upd (x := a) nd hrb
        have e2 : ((put acc a b).getD b []).map vn ++ [vn a] = ((put acc a b).getD b [] ++ [a]).map vn := by rw [List.map_append]; rfl
        rw [e2]
        refine ⟨_, _, _, _, rfl, fun c o e => ?_, ?_, ?_⟩
        · rw [upd_ne (ne_of_none e mb.2.1)]
          exact s2 c o e
        · rw [upd_ne mb.2.2.symm]
          exact d2
        · rw [nx]
          exact L2
      · rintro σ Hd ⟨v2, v3, v4, v5, rfl, sd, hd, hL⟩
        rw [el, List.take_length] at hL
        have hL' : Lists Hd as (rawRows ws) := hL
        -- [sorted(row) for row in rows]
        refine ⟨_, rfl, D, rfl, ⟨_, SqL.of hd⟩, fun D2 nD2 => ?_⟩
        refine lc_list (K := K) (a := D) (xs := as.map V.ref) (fun j Hc => Same Hd Hc ∧ ∃ bs : List Addr, bs.length = j ∧ Hc D2 = some (.lst (bs.map .ref)) ∧ (∀ b ∈ bs, H b = none ∧ b ≠ D2) ∧ ∀ i b, bs[i]? = some b → NL Hc b (srt ((rawRows ws).getD i [])))
          ⟨same_new nD2, [], rfl, upd_same, (fun b h => nomatch h), (fun i b h => nomatch h)⟩ (fun j Hc _ ⟨sc, _⟩ => SqL.of (sc _ _ hd)) ?_ ?_
        · rintro j y Hc hj ⟨sc, bs, lb, hD2, fb, hb⟩
          rw [List.getElem?_map] at hj
          obtain ⟨r0, hr0⟩ : ∃ r0, as[j]? = some r0 := by
            cases e : as[j]? with
            | none => rw [e] at hj; cases hj
            | some z => exact ⟨z, rfl⟩
          rw [hr0] at hj
          cases hj
          have hjl := (List.getElem?_eq_some_iff.mp hr0).1
          have hrow := sc _ _ (hL'.2 j r0 hr0)
          refine ⟨rfl, _, rfl, r0, ((rawRows ws).getD j []).map fun (n : Nat) => (n : Int), rfl, SqL.of (by rw [hrow, vn_map]), fun ns' p pm ri np => ?_⟩
          rw [srt_ints pm ri]
          have pD2 : p ≠ D2 := (ne_of_none hD2 np).symm
          refine ⟨bs.map V.ref, by rw [upd_ne pD2.symm]; exact hD2, by rw [List.length_map]; exact small1000 (by omega), fun c o e => ?_, bs ++ [p], by rw [List.length_append, lb]; rfl, ?_, ?_, ?_⟩
          · rw [upd_ne (ne_of_none e nD2), upd_ne (ne_of_none (sc c o e) np)]
            exact sc c o e
          · rw [upd_same, List.map_append]
            rfl
          · intro b hb'
            rcases List.mem_append.mp hb' with hb' | hb'
            · exact fb b hb'
            · rw [List.mem_singleton.mp hb']
              exact ⟨sd.free (sc.free np), pD2⟩
          · intro i b hi
            by_cases hlt : i < bs.length
            · rw [List.getElem?_append_left hlt] at hi
              have k := hb i b hi
              have bD2 := (fb b (List.mem_of_getElem? hi)).2
              unfold NL at k ⊢
              rw [upd_ne bD2, upd_ne (ne_of_none k np)]
              exact k
            · rw [List.getElem?_append_right (by omega)] at hi
              have e0 : i - bs.length = 0 := by
                have := (List.getElem?_eq_some_iff.mp hi).1
                simp only [List.length_cons, List.length_nil] at this
                omega
              rw [e0] at hi
              cases hi
              have ei : i = j := by omega
              subst ei
              unfold NL
              rw [upd_ne pD2, upd_same]
        · rintro H2 ⟨s2, bs, lb, hD2, fb, hb⟩
          have sH : Same H H2 := sd.trans s2
          refine q H2 D2 sH (sd.free nD2) ⟨bs, ?_, ?_, ?_⟩
          · rw [only_new (sd.free nD2)]
            exact hD2
          · rw [lb, List.length_map, la2, rows_length]
          · intro i b hi
            have fr := fb b (List.mem_of_getElem? hi)
            unfold NL
            rw [only_new fr.1]
            show H2 b = some (.lst (((rows ws).getD i []).map vn))
            unfold rows
            rw [getD_map_srt]
            exact hb i b hi
theorem scNear : FnScope ["ways", "found", "one", "other", "k", "rooms"] ["ways"] (defScope s__law_near) := ⟨rfl, rfl, rfl, by decide +kernel, rfl, by decide +kernel, by decide +kernel⟩
theorem ok_Near {f : Addr} {fd : FuncData} (F : Fun K "_law_near" "_law_near" s__law_near f fd) (T : TxW K mg) : FnOk P w K mg base CX0 1 f fd ["ways"] spRows := by
  refine F.ok scNear (fun vs H Q E h => ?_) (fun cdv A outer s H vs Q E hr h => ?_)
  · obtain ⟨l, ws, rfl, _⟩ := h
    rfl
  · obtain ⟨l, ws, rfl, ⟨as0, hl, hP⟩, hlen, hw, q⟩ := h
    refine ⟨_, pss_cons (ps_setLc (i := 1) (own := [("k", 4)]) (g := gName 4) (tt := tYes) rfl scNear.nd rfl rfl (sw_true rfl rfl rfl (by decide +kernel)) (pi_range1 (by rfl) T.rg (pa_cons (pe_op op_add (pe_callB call_len_seq (by rfl) T.len PySem.boot_len (pa_cons (pv 0) pa_nil)) pe_int) pa_nil)) (blkOk_by (N := ["ways", "found", "one", "other", "k", "rooms"]) (sc := defScope s__law_near) (by decide +kernel))
          (fun _ _ _ _ _ => pg_name (i := 4) scNear.nd rfl (Or.inl rfl)) (fun _ _ _ _ _ => pts_nil) (fun _ _ _ _ _ => pe_lst pa_nil))
      (pss_cons (ps_for PassesOwn.never rfl (pi_list (pv 0)) (pg_tup rfl (pgs_cons (pg_name (i := 2) scNear.nd rfl (Or.inl rfl)) (pgs_cons (pg_name (i := 3) scNear.nd rfl (Or.inl rfl)) pgs_nil)))
        (pss_cons (ps_expr (pe_bm PySem.F.plainAttrs_list PySem.F.slot_list_append PySem.F.type_list_append mt_append (pe_ix ix_list (pv 1) (pv 2) (fun _ _ => rfl)) (pa_cons (pv 3) pa_nil)))
        (pss_one (ps_expr (pe_bm PySem.F.plainAttrs_list PySem.F.slot_list_append PySem.F.type_list_append mt_append (pe_ix ix_list (pv 1) (pv 3) (fun _ _ => rfl)) (pa_cons (pv 2) pa_nil))))))
      (pss_one (ps_ret (pe_lc (own := [("rooms", 5)]) (g := gName 5) (tt := tYes) rfl scNear.nd (pi_list (pv 1)) (blkOk_by (N := ["ways", "found", "one", "other", "k", "rooms"]) (sc := defScope s__law_near) (by decide +kernel)) (fun _ _ _ _ _ => pg_name (i := 5) scNear.nd rfl (Or.inl rfl)) (fun _ _ _ _ _ => pts_nil)
        (fun _ _ _ _ _ => pe_callB (r := rSortedI K) cr_sortedI (by rfl) T.srt PyProof.Rows.boot_sorted (pa_cons (pv 5) pa_nil)))))), ?_⟩
    have el : (as0.map V.ref).length = ws.length := by rw [List.length_map, hP.1]
    -- rows = [[] for ..]
    refine ⟨_, rfl, l, _, rfl, .inl (SqL.of hl), ((ws.length : Nat) : Int), 1, (by rw [el]), rfl, ((ws.length + 1 : Nat) : Int), rfl, by omega, by omega, fun D nD => ?_⟩
    refine lc_range (lo := 0) (n := (((ws.length + 1 : Nat) : Int)).toNat) (fun j Hc => Same H Hc ∧ ∃ as : List Addr, as.length = j ∧ Hc D = some (.lst (as.map .ref)) ∧ as.Nodup ∧ (∀ a ∈ as, Hc a = some (.lst []) ∧ H a = none ∧ a ≠ D)) ⟨same_new nD, [], rfl, upd_same, List.nodup_nil, fun a h => nomatch h⟩ ?_ ?_
    · rintro j Hc hj ⟨sc, as, la, hD, nd, ha⟩
      have hj2 : j < 61 := by omega
      refine ⟨rfl, (by show 0 ≤ sizeLine; decide), fun a na => ?_⟩
      have aD : a ≠ D := (ne_of_none hD na).symm
      refine ⟨as.map V.ref, by rw [upd_ne aD.symm]; exact hD, by rw [List.length_map]; exact small1000 (by omega), fun b o e => ?_, as ++ [a], by rw [List.length_append, la]; rfl, ?_, ?_, ?_⟩
      · rw [upd_ne (ne_of_none e nD), upd_ne (ne_of_none (sc b o e) na)]
        exact sc b o e
      · rw [upd_same, List.map_append]
        rfl
      · rw [List.nodup_append]
        refine ⟨nd, by simp, fun x hx y hy => ?_⟩
        rw [List.mem_singleton.mp hy]
        exact ne_of_none (ha x hx).1 na
      · intro b hb
        rcases List.mem_append.mp hb with hb | hb
        · obtain ⟨h1, h2, h3⟩ := ha b hb
          refine ⟨?_, h2, h3⟩
          rw [upd_ne h3, upd_ne (ne_of_none h1 na)]
          exact h1
        · rw [List.mem_singleton.mp hb]
          refine ⟨?_, sc.free na, aD⟩
          rw [upd_ne aD, upd_same]
    · rintro H1 ⟨s1, as, la, hD, nd, ha⟩
      have la2 : as.length = ws.length + 1 := by rw [la]; omega
      -- for one, other in ways
      refine ⟨_, rfl, l, rfl, ⟨_, SqL.of (s1 _ _ hl)⟩, for_list (K := K) (a := l) (xs := as0.map V.ref) (fun j σ Hd => ∃ v2 v3 v4 v5, σ = [some (.ref l), some (.ref D), v2, v3, v4, v5] ∧ Same H Hd ∧ Hd D = some (.lst (as.map .ref)) ∧ Lists Hd as ((ws.take j).foldl addWay (List.replicate (ws.length + 1) [])))
        ⟨none, none, none, none, rfl, s1, hD, lists_nil la2 fun a h => (ha a h).1⟩ (fun j σ Hd _ ⟨_, _, _, _, _, sd, _⟩ => SqL.of (sd _ _ hl)) ?_ ?_⟩
      · rintro j y σ Hd hj ⟨v2, v3, v4, v5, rfl, sd, hd, hL⟩
        obtain ⟨t, w0, rfl, hwj, ht⟩ := LP.at hP hj
        obtain ⟨a, b⟩ := w0
        have hab := hw (a, b) (List.mem_of_getElem? hwj)
        simp only at hab
        have hjl := (List.getElem?_eq_some_iff.mp hwj).1
        generalize hacc : (ws.take j).foldl addWay (List.replicate (ws.length + 1) []) = acc at hL
        have lacc : acc.length = ws.length + 1 := by rw [← hacc, foldl_addWay_length, List.length_replicate]
        have lrow : ∀ i, (acc.getD i []).length ≤ 118 := by
          intro i
          have := len_raw (n := 0) (ws.take j) (List.replicate (ws.length + 1) []) (fun i => by rw [getD_replicate]; exact Nat.le_refl _) i
          rw [hacc, List.length_take] at this
          omega
        have nx : (ws.take (j + 1)).foldl addWay (List.replicate (ws.length + 1) []) = put (put acc a b) b a := by
          rw [List.take_add_one, hwj, List.foldl_append, hacc]
          rfl
        obtain ⟨ra, hra⟩ : ∃ ra, as[a]? = some ra := ⟨_, List.getElem?_eq_getElem (by omega)⟩
        obtain ⟨rb, hrb⟩ : ∃ rb, as[b]? = some rb := ⟨_, List.getElem?_eq_getElem (by omega)⟩
        have ma := ha ra (List.mem_of_getElem? hra)
        have mb := ha rb (List.mem_of_getElem? hrb)
        have ia : atI (as.map V.ref) (a : Int) = some (.ref ra) := atI_nat (by rw [List.getElem?_map, hra]; rfl)
        have ib : atI (as.map V.ref) (b : Int) = some (.ref rb) := atI_nat (by rw [List.getElem?_map, hrb]; rfl)
        refine ⟨t, _, rfl, SqT.of (sd _ _ ht), rfl, _, _, rfl, _, _, rfl, rfl, ?_⟩
        have h1 := hL.2 a ra hra
        refine ⟨_, rfl, _, rfl, D, _, _, _, rfl, rfl, SqL.of hd, ia, .inl ⟨rfl, _, SqL.of h1⟩, _, rfl, ra, _, _, rfl, rfl, h1, by rw [List.length_map]; exact small1000 (by have := lrow a; omega), ?_⟩
        have L1 := hL.upd (x := b) nd hra
        have e1 : (acc.getD a []).map vn ++ [vn b] = (acc.getD a [] ++ [b]).map vn := by rw [List.map_append]; rfl
        rw [e1]
        have s2 : Same H (upd Hd ra (.lst ((acc.getD a [] ++ [b]).map vn))) := fun c o e => by
          rw [upd_ne (ne_of_none e ma.2.1)]
          exact sd c o e
        have d2 : upd Hd ra (.lst ((acc.getD a [] ++ [b]).map vn)) D = some (.lst (as.map .ref)) := by
          rw [upd_ne ma.2.2.symm]
          exact hd
        generalize upd Hd ra (.lst ((acc.getD a [] ++ [b]).map vn)) = B2 at L1 s2 d2
        have lrow2 : ((put acc a b).getD b []).length ≤ 119 := len_put lrow b
        have h2 := L1.2 b rb hrb
        refine ⟨_, rfl, _, rfl, D, _, _, _, rfl, rfl, SqL.of d2, ib, .inl ⟨rfl, _, SqL.of h2⟩, _, rfl, rb, _, _, rfl, rfl, h2, by rw [List.length_map]; exact small1000 (by omega), ?_⟩
        have L2 := L1.upd (x := a) nd hrb
        have e2 : ((put acc a b).getD b []).map vn ++ [vn a] = ((put acc a b).getD b [] ++ [a]).map vn := by rw [List.map_append]; rfl
        rw [e2]
        refine ⟨_, _, _, _, rfl, fun c o e => ?_, ?_, ?_⟩
        · rw [upd_ne (ne_of_none e mb.2.1)]
          exact s2 c o e
        · rw [upd_ne mb.2.2.symm]
          exact d2
        · rw [nx]
          exact L2
      · rintro σ Hd ⟨v2, v3, v4, v5, rfl, sd, hd, hL⟩
        rw [el, List.take_length] at hL
        have hL' : Lists Hd as (rawRows ws) := hL
        -- [sorted(row) for row in rows]
        refine ⟨_, rfl, D, rfl, ⟨_, SqL.of hd⟩, fun D2 nD2 => ?_⟩
        refine lc_list (K := K) (a := D) (xs := as.map V.ref) (fun j Hc => Same Hd Hc ∧ ∃ bs : List Addr, bs.length = j ∧ Hc D2 = some (.lst (bs.map .ref)) ∧ (∀ b ∈ bs, H b = none ∧ b ≠ D2) ∧ ∀ i b, bs[i]? = some b → NL Hc b (srt ((rawRows ws).getD i [])))
          ⟨same_new nD2, [], rfl, upd_same, (fun b h => nomatch h), (fun i b h => nomatch h)⟩ (fun j Hc _ ⟨sc, _⟩ => SqL.of (sc _ _ hd)) ?_ ?_
        · rintro j y Hc hj ⟨sc, bs, lb, hD2, fb, hb⟩
          rw [List.getElem?_map] at hj
          obtain ⟨r0, hr0⟩ : ∃ r0, as[j]? = some r0 := by
            cases e : as[j]? with
            | none => rw [e] at hj; cases hj
            | some z => exact ⟨z, rfl⟩
          rw [hr0] at hj
          cases hj
          have hjl := (List.getElem?_eq_some_iff.mp hr0).1
          have hrow := sc _ _ (hL'.2 j r0 hr0)
          refine ⟨rfl, _, rfl, r0, ((rawRows ws).getD j []).map fun (n : Nat) => (n : Int), rfl, SqL.of (by rw [hrow, vn_map]), fun ns' p pm ri np => ?_⟩
          rw [srt_ints pm ri]
          have pD2 : p ≠ D2 := (ne_of_none hD2 np).symm
          refine ⟨bs.map V.ref, by rw [upd_ne pD2.symm]; exact hD2, by rw [List.length_map]; exact small1000 (by omega), fun c o e => ?_, bs ++ [p], by rw [List.length_append, lb]; rfl, ?_, ?_, ?_⟩
          · rw [upd_ne (ne_of_none e nD2), upd_ne (ne_of_none (sc c o e) np)]
            exact sc c o e
          · rw [upd_same, List.map_append]
            rfl
          · intro b hb'
            rcases List.mem_append.mp hb' with hb' | hb'
            · exact fb b hb'
            · rw [List.mem_singleton.mp hb']
              exact ⟨sd.free (sc.free np), pD2⟩
          · intro i b hi
            by_cases hlt : i < bs.length
            · rw [List.getElem?_append_left hlt] at hi
              have k := hb i b hi
              have bD2 := (fb b (List.mem_of_getElem? hi)).2
              unfold NL at k ⊢
              rw [upd_ne bD2, upd_ne (ne_of_none k np)]
              exact k
            · rw [List.getElem?_append_right (by omega)] at hi
              have e0 : i - bs.length = 0 := by
                have := (List.getElem?_eq_some_iff.mp hi).1
                simp only [List.length_cons, List.length_nil] at this
                omega
              rw [e0] at hi
              cases hi
              have ei : i = j := by omega
              subst ei
              unfold NL
              rw [upd_ne pD2, upd_same]
        · rintro H2 ⟨s2, bs, lb, hD2, fb, hb⟩
          have sH : Same H H2 := sd.trans s2
          refine q H2 D2 sH (sd.free nD2) ⟨bs, ?_, ?_, ?_⟩
          · rw [only_new (sd.free nD2)]
            exact hD2
          · rw [lb, List.length_map, la2, rows_length]
          · intro i b hi
            have fr := fb b (List.mem_of_getElem? hi)
            unfold NL
            rw [only_new fr.1]
            show H2 b = some (.lst (((rows ws).getD i []).map vn))
            unfold rows
            rw [getD_map_srt]
            exact hb i b hi
end
end G

namespace G
open PySem L2 GM
theorem only_sub {H H3 H4 H5 : Hp} {p C dx : Addr} {fs fs' : List (Str × V)} (k : ∀ b o, H b = some o → b ≠ p → H3 b = some o) (h0 : H p = some (.ins C dx fs)) (h3 : H3 p = some (.ins C dx fs')) (s : Same H3 H4) (e5 : ∀ b, b ≠ p → H5 b = H4 b) :
    Same (only H3 H4) (only H H5) := fun b o h => by
  unfold only at h
  split at h
  · rename_i hn
    have np : b ≠ p := (ne_of_none h3 hn).symm
    have hb : H b = none := by
      cases e : H b with
      | none => rfl
      | some o' =>
        have := k b o' e np
        rw [hn] at this
        cases this
    rw [only_new hb, e5 b np]
    exact h
  · rename_i xs hx
    have np : b ≠ p := fun z => by
      rw [z, h3] at hx
      cases hx
    rw [← h]
    cases e : H b with
    | none =>
      rw [only_new e, e5 b np]
      exact s _ _ hx
    | some o' =>
      have := k b o' e np
      rw [hx] at this
      cases this
      exact only_tup e
  · cases h
def spInit (C : Addr) : Sp := fun vs H Q _ => ∃ (p l dx : Addr) (ws : List Way), vs = [.ref p, .ref l] ∧ H p = some (.ins C dx []) ∧ LP H l ws ∧ ws.length ≤ 59 ∧ okWays (ws.length + 1) ws (List.range (ws.length + 1)) ∧
  ∀ H' lw lr, (∀ b o, H b = some o → b ≠ p → H' b = some o) → H' p = some (.ins C dx (flds lw lr)) → LP (only H H') lw ws → LL (only H H') lr (rows ws) → Q .non H'
/-- a new tree -/
theorem tree_made {C x dx : Addr} {H0 H' : Hp} {ws : List Way} {lw lr : Addr} (nx : H0 x = none) (nd : H0 dx = none) (ne : dx ≠ x) (k : ∀ b o, upd (upd H0 dx (.own x)) x (.ins C dx []) b = some o → b ≠ x → H' b = some o) (hx : H' x = some (.ins C dx (flds lw lr)))
    (h1 : LP (only (upd (upd H0 dx (.own x)) x (.ins C dx [])) H') lw ws) (h2 : LL (only (upd (upd H0 dx (.own x)) x (.ins C dx [])) H') lr (rows ws)) : Same H0 H' ∧ TreeAt C (only H0 H') x ws := by
  have s : Same H0 H' := fun b o e => k b o (by rw [upd_ne (ne_of_none e nx), upd_ne (ne_of_none e nd)]; exact e) (ne_of_none e nx)
  have so : Same (only (upd (upd H0 dx (.own x)) x (.ins C dx [])) H') (only H0 H') := fun b o h => by
    unfold only at h
    split at h
    · rename_i hn
      have bx : b ≠ x := fun z => by rw [z, upd_same] at hn; cases hn
      rw [upd_ne bx] at hn
      have bd : b ≠ dx := fun z => by rw [z, upd_same] at hn; cases hn
      rw [upd_ne bd] at hn
      rw [only_new hn]
      exact h
    · rename_i xs hn
      have bx : b ≠ x := fun z => by rw [z, upd_same] at hn; cases hn
      rw [upd_ne bx] at hn
      have bd : b ≠ dx := fun z => by rw [z, upd_same] at hn; cases hn
      rw [upd_ne bd] at hn
      rw [only_tup hn]
      exact h
    · cases h
  exact ⟨s, dx, lw, lr, by rw [only_new nx]; exact hx, h1.same so, h2.same so⟩
structure CalI (P : Program) (w : World) (K : PySem.W.Frag) (mg : Str → Option Value) (base : Heap) (fK fB : Addr) (dK dB : FuncData) : Prop where
  oK : FnOk P w K mg base CX0 3 fK dK ["ways"] spChkW
  bK : Binds K dK ["ways"] []
  gK : mg "_check_ways" = some (.ref fK)
  kK : PySem.W.keepIn K (.ref fK) = true
  oB : FnOk P w K mg base CX0 1 fB dB ["ways"] spRows
  bB : Binds K dB ["ways"] []
  gB : mg "_rows_beside" = some (.ref fB)
  kB : PySem.W.keepIn K (.ref fB) = true
section
variable {P : Program} {w : World} {K : PySem.W.Frag} {mg : Str → Option Value} {base : Heap} {C fK fB : Addr} {dK dB : FuncData}
theorem scIni : FnScope ["self", "ways"] ["self", "ways"] (defScope s_Tree___init__) := ⟨rfl, rfl, rfl, by decide +kernel, rfl, by decide +kernel, by decide +kernel⟩
theorem ok_ini {f : Addr} {fd : FuncData} (F : Fun K "__init__" "Tree.__init__" s_Tree___init__ f fd) (T : TxT K mg C) (L : CalI P w K mg base fK fB dK dB) : FnOk P w K mg base CX0 4 f fd ["self", "ways"] (spInit C) := by
  refine F.ok scIni (fun vs H Q E h => ?_) (fun cdv A outer s H vs Q E hr h => ?_)
  · obtain ⟨p, l, dx, ws, rfl, _⟩ := h
    rfl
  · obtain ⟨p, l, dx, ws, rfl, hp, hl, hlen, hok, q⟩ := h
    have hr1 : Room 1 _ := hr.mono (by decide)
    refine ⟨_, pss_cons (ps_expr (pe_call L.oK hr rfl L.gK L.kK L.bK .nil pass0 (pa_cons (pv 1) pa_nil)))
      (pss_cons (ps_fld (pv 0) (pe_callTy call_list_of (by rfl) T.list PyProof.Rows.boot_list (pa_cons (pv 1) pa_nil)) rfl)
      (pss_one (ps_fld (pv 0) (pe_call L.oB hr1 rfl L.gB L.kB L.bB .nil pass0 (pa_cons (pv 1) pa_nil)) rfl))), ?_⟩
    obtain ⟨as, hl1, hP⟩ := id hl
    refine ⟨_, rfl, l, ws, rfl, hl, hlen, hok, fun H1 s1 => ?_⟩
    have hl2 := s1 _ _ hl1
    refine ⟨_, rfl, l, _, rfl, .inl (SqL.of hl2), fun lw nw => ?_⟩
    have pw : p ≠ lw := ne_of_none (s1 _ _ hp) nw
    have e2 : upd H1 lw (HO.lst (as.map V.ref)) p = some (.ins C dx []) := by rw [upd_ne pw]; exact s1 _ _ hp
    refine ⟨_, rfl, p, C, dx, _, rfl, e2, T.cl, T.nW, (by show 0 < 1000; decide), ?_⟩
    generalize hH3 : upd (upd H1 lw (HO.lst (as.map V.ref))) p _ = H3
    have h3p : H3 p = some (.ins C dx (putF "_ways" (.ref lw) [])) := hH3 ▸ upd_same
    have k3 : ∀ b o, H b = some o → b ≠ p → H3 b = some o := fun b o e n => by
      have e1 := s1 _ _ e
      rw [← hH3, upd_ne n, upd_ne (ne_of_none e1 nw)]
      exact e1
    have n3 : l ≠ p := fun z => by rw [z, hp] at hl1; cases hl1
    have hw3 : H3 lw = some (.lst (as.map V.ref)) := by rw [← hH3, upd_ne pw.symm, upd_same]
    have hl3 : LP H3 l ws := ⟨as, k3 _ _ hl1 n3, hP.1, fun i a ha => k3 _ _ (hP.2 i a ha) fun z => by have := hP.2 i a ha; unfold NT at this; rw [z, hp] at this; cases this⟩
    refine ⟨_, rfl, l, ws, rfl, hl3, hlen, fun w hw => okWays_lt hok w hw, fun H4 lr s4 nr hrows => ?_⟩
    refine ⟨_, rfl, p, C, dx, _, rfl, s4 _ _ h3p, T.cl, T.nR, (by show 1 < 1000; decide), ?_⟩
    generalize hH5 : upd H4 p _ = H5
    have h5p : H5 p = some (.ins C dx (flds lw lr)) := hH5 ▸ upd_same
    have e5 : ∀ b, b ≠ p → H5 b = H4 b := fun b n => by rw [← hH5, upd_ne n]
    have so := only_sub k3 hp h3p s4 e5
    have hlw : H lw = none := by
      cases e : H lw with
      | none => rfl
      | some o =>
        have := s1 _ _ e
        rw [nw] at this
        cases this
    refine q H5 lw lr (fun b o e n => by rw [e5 b n]; exact s4 _ _ (k3 b o e n)) h5p ⟨as, ?_, hP.1, fun i a ha => ?_⟩ (hrows.same so)
    · rw [only_new hlw, e5 _ pw.symm]
      exact s4 _ _ hw3
    · exact only_tup (hP.2 i a ha)
end
end G

namespace G
open PySem L2 GM
section
variable {P : Program} {w : World} {K : PySem.W.Frag} {mg : Str → Option Value} {base : Heap}
theorem scD : FnScope ["well", "many", "found", "number"] ["well", "many"] (defScope s__law_draw) := ⟨rfl, rfl, rfl, by decide +kernel, rfl, by decide +kernel, by decide +kernel⟩
theorem ok_draw {f : Addr} {fd : FuncData} (F : Fun K "_law_draw" "_law_draw" s__law_draw f fd) : FnOk P w K mg base CX0 1 f fd ["well", "many"] spDraw := by
  refine F.ok scD (fun vs H Q E h => ?_) (fun cdv A outer s H vs Q E hr h => ?_)
  · obtain ⟨a, cap, rfl, _⟩ := h
    rfl
  · obtain ⟨a, cap, rfl, ⟨w0, w1, w2, hH⟩, c0, c1, k⟩ := h
    refine ⟨_, pss_cons (ps_if (pt_cmpR op_gt (pe_ix ix_list (pv 0) pe_int (fun _ _ => rfl)) pe_int (nomark _))
        (pss_cons (ps_set (i := 2) scD.nd rfl (Or.inl rfl) (pe_op op_mod (pe_ix ix_list (pv 0) pe_int (fun _ _ => rfl)) (pv 1)))
        (pss_cons (ps_asg (pe_op op_fdivN (pe_ix ix_list (pv 0) pe_int (fun _ _ => rfl)) (pv 1)) (pg_sub (pv 0) pe_int set_list))
        (pss_one (ps_ret (pv 2))))) pss_nil)
      (pss_cons (ps_asg (pe_op op_add (pe_ix ix_list (pv 0) pe_int (fun _ _ => rfl)) pe_int) (pg_sub (pv 0) pe_int set_list))
      (pss_cons (ps_set (i := 3) scD.nd rfl (Or.inl rfl) (pe_op op_mod (pe_op op_mul (pe_op op_add (pe_op op_add (pe_ix ix_list (pv 0) pe_int (fun _ _ => rfl)) (pe_op op_mul pe_int (pe_ix ix_list (pv 0) pe_int (fun _ _ => rfl)))) pe_int) pe_int) pe_int))
      (pss_cons (ps_set (i := 3) scD.nd rfl (Or.inl rfl) (pe_op op_mod (pe_op op_mul (pv 3) (pe_op op_add (pe_op op_fdivN (pv 3) pe_int) pe_int)) pe_int))
      (pss_one (ps_ret (pe_op op_mod (pe_op op_mod (pe_op op_mul (pv 3) (pe_op op_add (pe_op op_fdivN (pv 3) pe_int) pe_int)) pe_int) (pv 1))))))), ?_⟩
    refine ⟨_, rfl, a, _, _, _, rfl, rfl, SqL.of hH, rfl, _, _, rfl, rfl, _, rfl, ?_⟩
    refine ite2 (fun hp => ?_) (fun hp => ?_)
    · refine ⟨_, rfl, a, _, _, _, rfl, rfl, SqL.of hH, rfl, _, rfl, _, _, rfl, rfl, c0, ?_⟩
      refine ⟨_, rfl, a, _, _, _, rfl, rfl, SqL.of hH, rfl, _, rfl, _, _, rfl, rfl, ⟨by omega, by omega⟩, _, rfl, a, _, _, 0, rfl, rfl, hH, rfl, _, rfl, ?_⟩
      exact k _ _ _ _ (Int.emod_nonneg _ (by omega)) (Int.emod_lt_of_pos _ c0)
    · have e1 : ∀ {n : Int} {m : Int}, 0 < m → 0 ≤ n % m ∧ n % m < m := fun h => ⟨Int.emod_nonneg _ (by omega), Int.emod_lt_of_pos _ h⟩
      refine ⟨_, rfl, a, _, _, _, rfl, rfl, SqL.of hH, rfl, _, _, rfl, rfl, _, rfl, a, _, _, 2, rfl, rfl, hH, rfl, ?_⟩
      have h2 : upd H a (.lst ([V.int w0, .int w1, .int w2].set 2 (.int (w2 + 1)))) a = some (.lst [.int w0, .int w1, .int (w2 + 1)]) := upd_same
      refine ⟨_, rfl, a, _, _, _, rfl, rfl, SqL.of h2, rfl, _, rfl, a, _, _, _, rfl, rfl, SqL.of h2, rfl, _, _, rfl, rfl, .inl ⟨by decide, by decide⟩, _, _, rfl, rfl, _, _, rfl, rfl, ?_⟩
      refine ⟨_, _, rfl, rfl, .inr ⟨by decide, by decide⟩, _, _, rfl, rfl, (by show (0 : Int) < 2147483647; decide), ?_⟩
      generalize hn : ((w1 + 104729 * (w2 + 1) + 1) * 48271 % 2147483647 : Int) = n
      have hn1 : 0 ≤ n ∧ n < 2147483647 := by rw [← hn]; exact e1 (by decide)
      refine ⟨_, rfl, _, rfl, _, _, rfl, rfl, ⟨by decide, by decide⟩, _, _, rfl, rfl, _, _, rfl, rfl, .inl ⟨by omega, by omega⟩, _, _, rfl, rfl, (by show (0 : Int) < 2147483647; decide), ?_⟩
      generalize hn' : (n * (n.fdiv 1009 + 69621) % 2147483647 : Int) = n'
      have hn2 : 0 ≤ n' ∧ n' < 2147483647 := by rw [← hn']; exact e1 (by decide)
      refine ⟨_, rfl, _, rfl, _, _, rfl, rfl, ⟨by decide, by decide⟩, _, _, rfl, rfl, _, _, rfl, rfl, .inl ⟨by omega, by omega⟩, _, _, rfl, rfl, (by show (0 : Int) < 2147483399; decide), _, rfl, _, _, rfl, rfl, c0, ?_⟩
      exact k _ w0 w1 (w2 + 1) (e1 c0).1 (e1 c0).2
structure TxL (K : PySem.W.Frag) (mg : Str → Option Value) : Prop where
  isi : mg "isinstance" = none
  len : mg "len" = none
  list : mg "list" = none
  int : mg "int" = none
  tup : mg "tuple" = none
  rg : mg "range" = none
  en : mg "enumerate" = none
  srt : mg "sorted" = none
  max : mg "max" = none
def spWays : Sp := fun vs H Q _ => ∃ (a : Addr) (many : Nat), vs = [.ref a, vn many] ∧ Well H a ∧ 1 ≤ many ∧ many ≤ 60 ∧ ∀ H' q ws told, Same (rm H a) (rm H' a) → Well H' a → H q = none → Grown told ws → ws.length + 1 = many → LP (only H H') q ws → Q (.ref q) H'
theorem test_ne {K : PySem.W.Frag} {i : Nat} {σ : St} {H : Hp} {Q Q' : Bool → Hp → Prop} (h : ∀ b H1, Q b H1 → Q' b H1) (k : tTest (tOp (rNeD K) (tVar i) (tLst tNil)) σ H Q) : tTest (tOp (rNeD K) (tVar i) (tLst tNil)) σ H Q' := by
  obtain ⟨v, e, hl, k⟩ := k
  refine ⟨v, e, hl, fun p np => ?_⟩
  obtain ⟨d, e', h1, h2, h3, h4, b, hb, q⟩ := k p np
  exact ⟨d, e', h1, h2, h3, h4, b, hb, h _ _ q⟩
/-- what the drawn ways are drawn of lies below -/
theorem ix_bound {k many : Nat} {kind d1 d2 : Int} (h1 : 1 ≤ k) (h2 : k < many) (hk0 : 0 ≤ kind) (hk : kind < 7) (a0 : 0 ≤ d1) (a1 : d1 < k) (b0 : 0 ≤ d2) (b1 : d2 < 3) :
    ∃ j : Nat, j < k ∧ atI [V.int ((k : Int) - 1), .int 0, .int ((k : Int) - 2 + (k : Int) % 2), .int (if (k : Int) - (many : Int) / 2 > 0 then (k : Int) - (many : Int) / 2 else 0), .int (((k : Int) - 1) / 2), .int d1, .int (if (k : Int) - 1 - d2 > 0 then (k : Int) - 1 - d2 else 0)] kind = some (vn j) := by
  have mk : ∀ (z : Int), 0 ≤ z → z < k → ∃ j : Nat, j < k ∧ V.int z = vn j := fun z h0 h1 => ⟨z.toNat, by omega, by show V.int z = V.int ((z.toNat : Nat) : Int); rw [Int.toNat_of_nonneg h0]⟩
  have : kind = 0 ∨ kind = 1 ∨ kind = 2 ∨ kind = 3 ∨ kind = 4 ∨ kind = 5 ∨ kind = 6 := by omega
  rcases this with rfl | rfl | rfl | rfl | rfl | rfl | rfl
  · obtain ⟨j, l, e⟩ := mk ((k : Int) - 1) (by omega) (by omega)
    exact ⟨j, l, by rw [← e]; rfl⟩
  · obtain ⟨j, l, e⟩ := mk 0 (by omega) (by omega)
    exact ⟨j, l, by rw [← e]; rfl⟩
  · obtain ⟨j, l, e⟩ := mk ((k : Int) - 2 + (k : Int) % 2) (by omega) (by omega)
    exact ⟨j, l, by rw [← e]; rfl⟩
  · obtain ⟨j, l, e⟩ := mk (if (k : Int) - (many : Int) / 2 > 0 then (k : Int) - (many : Int) / 2 else 0) (by split <;> omega) (by split <;> omega)
    exact ⟨j, l, by rw [← e]; rfl⟩
  · obtain ⟨j, l, e⟩ := mk (((k : Int) - 1) / 2) (by omega) (by omega)
    exact ⟨j, l, by rw [← e]; rfl⟩
  · obtain ⟨j, l, e⟩ := mk d1 (by omega) (by omega)
    exact ⟨j, l, by rw [← e]; rfl⟩
  · obtain ⟨j, l, e⟩ := mk (if (k : Int) - 1 - d2 > 0 then (k : Int) - 1 - d2 else 0) (by split <;> omega) (by split <;> omega)
    exact ⟨j, l, by rw [← e]; rfl⟩
theorem scWay : FnScope ["well", "many", "kind", "order", "told", "found", "k", "some"] ["well", "many"] (defScope s__law_ways) := ⟨rfl, rfl, rfl, by decide +kernel, rfl, by decide +kernel, by decide +kernel⟩
theorem ok_way {f : Addr} {fd : FuncData} (F : Fun K "_law_ways" "_law_ways" s__law_ways f fd) (T : TxL K mg) (L_law_draw : Cal P w K mg base "_law_draw" 1 ["well", "many"] spDraw) : FnOk P w K mg base CX0 2 f fd ["well", "many"] spWays := by
  refine F.ok scWay (fun vs H Q E h => ?_) (fun cdv A outer s H vs Q E hr h => ?_)
  · obtain ⟨a, many, rfl, _⟩ := h
    rfl
  · obtain ⟨a, many, rfl, ⟨u0, u1, u2, hW⟩, m1, m2, q⟩ := h
    have hu := hr.units
    refine ⟨_, (pss_cons (ps_set (i := 2) scWay.nd rfl (Or.inl rfl) (L_law_draw.pe (hr.mono (by decide)) rfl (pa_cons (pv 0) (pa_cons pe_int pa_nil))))
      (pss_cons (ps_set (i := 3) scWay.nd rfl (Or.inl rfl) (pe_listRg rfl rfl T.list (prg_1 rfl T.rg (pv 1))))
      (pss_cons (ps_set (i := 4) scWay.nd rfl (Or.inl rfl) (pe_lst pa_nil))
      (pss_cons (ps_while PassesOwn.never (pt_cmpR (op_neD hu) (pv 3) (pe_lst pa_nil) (nomark _))
        (pss_one (ps_expr (pe_bm PySem.F.plainAttrs_list PySem.F.slot_list_append PySem.F.type_list_append mt_append (pv 4) (pa_cons (pe_bm PySem.F.plainAttrs_list PySem.F.slot_list_pop PySem.F.type_list_pop mt_popAt (pv 3) (pa_cons (pe_op op_mul (L_law_draw.pe (hr.mono (by decide)) rfl (pa_cons (pv 0) (pa_cons (pe_callB call_len_seq (by rfl) T.len PySem.boot_len (pa_cons (pv 3) pa_nil)) pa_nil))) (pe_callTy call_int1 (by rfl) T.int PyProof.Rows.boot_int (pa_cons (pe_cmpR op_gt (pv 2) pe_int (nomark _)) pa_nil))) pa_nil)) pa_nil)))))
      (pss_cons (ps_set (i := 5) scWay.nd rfl (Or.inl rfl) (pe_lst pa_nil))
      (pss_cons (ps_for PassesOwn.never rfl (pi_range2 (by rfl) T.rg (pa_cons pe_int (pa_cons (pv 1) pa_nil))) (pg_name (i := 6) scWay.nd rfl (Or.inl rfl))
        (pss_cons (ps_set (i := 7) scWay.nd rfl (Or.inl rfl) (pe_lst (pa_cons (pe_op op_sub (pv 6) pe_int) (pa_cons pe_int (pa_cons (pe_op op_add (pe_op op_sub (pv 6) pe_int) (pe_op op_mod (pv 6) pe_int)) (pa_cons (pe_callB (call_max2 rfl) (by rfl) T.max PyProof.Rows.boot_max (pa_cons pe_int (pa_cons (pe_op op_sub (pv 6) (pe_op op_fdiv (pv 1) pe_int)) pa_nil))) (pa_cons (pe_op op_fdiv (pe_op op_sub (pv 6) pe_int) pe_int) (pa_cons (L_law_draw.pe (hr.mono (by decide)) rfl (pa_cons (pv 0) (pa_cons (pv 6) pa_nil))) pa_nil))))))))
      (pss_cons (ps_expr (pe_bm PySem.F.plainAttrs_list PySem.F.slot_list_append PySem.F.type_list_append mt_append (pv 7) (pa_cons (pe_callB (call_max2 rfl) (by rfl) T.max PyProof.Rows.boot_max (pa_cons pe_int (pa_cons (pe_op op_sub (pe_op op_sub (pv 6) pe_int) (L_law_draw.pe (hr.mono (by decide)) rfl (pa_cons (pv 0) (pa_cons pe_int pa_nil)))) pa_nil))) pa_nil)))
      (pss_one (ps_expr (pe_bm PySem.F.plainAttrs_list PySem.F.slot_list_append PySem.F.type_list_append mt_append (pv 5) (pa_cons (pe_callTy call_tuple_of (by rfl) T.tup PyProof.Rows.boot_tuple (pa_cons (pe_callB cr_sortedI (by rfl) T.srt PyProof.Rows.boot_sorted (pa_cons (pe_lst (pa_cons (pe_ix ix_list (pv 4) (pv 6) (fun _ _ => rfl)) (pa_cons (pe_ix ix_list (pv 4) (pe_ix ix_list (pv 7) (pv 2) (fun _ _ => rfl)) (fun _ _ => rfl)) pa_nil))) pa_nil)) pa_nil)) pa_nil)))))))
      (pss_one (ps_ret (pv 5))))))))), ?_⟩
    -- kind, order, told
    refine ⟨_, rfl, a, 7, rfl, ⟨_, _, _, hW⟩, by decide, by decide, fun kind c0 c1 c2 k0 k1 => ?_⟩
    have r0 : rm (upd H a (HO.lst [V.int c0, V.int c1, V.int c2])) a = rm H a := rm_upd
    have w0 : Well (upd H a (HO.lst [V.int c0, V.int c1, V.int c2])) a := ⟨_, _, _, upd_same⟩
    have f0 : ∀ b, upd H a (HO.lst [V.int c0, V.int c1, V.int c2]) b = none → H b = none := fun b e => by
      by_cases z : b = a
      · rw [z, upd_same] at e
        cases e
      · rw [upd_ne z] at e
        exact e
    generalize upd H a (HO.lst [V.int c0, V.int c1, V.int c2]) = B0 at r0 w0 f0
    refine ⟨_, rfl, (many : Int), rfl, RgOk.of_le (by decide) (by omega) (by decide) (by omega), fun lo no => ?_⟩
    rw [rg_vn]
    generalize hB1 : upd _ lo _ = B1
    have s1 : Same B0 B1 := hB1 ▸ same_new no
    have h1 : NL B1 lo (List.range many) := hB1 ▸ upd_same
    refine ⟨(by show 0 ≤ sizeLine; decide), fun lt nt => ?_⟩
    generalize hB2 : upd _ lt _ = B2
    have s2 : Same B1 B2 := hB2 ▸ same_new nt
    have h2 : NL B2 lt [] := hB2 ▸ upd_same
    obtain ⟨y0, y1, y2, hW0⟩ := w0
    have loa : lo ≠ a := (ne_of_none hW0 no).symm
    have lta : lt ≠ a := (ne_of_none (s1 _ _ hW0) nt).symm
    have lol : lo ≠ lt := ne_of_none h1 nt
    have flo : H lo = none := f0 _ no
    have flt : H lt = none := f0 _ (s1.free nt)
    have sr2 : Same (rm H a) (rm B2 a) := by
      rw [← r0]
      exact rm_mono a (s1.trans s2)
    -- while order != []
    refine while_by (fun σ Hd => ∃ ord tld : List Nat, σ = [some (.ref a), some (vn many), some (.int kind), some (.ref lo), some (.ref lt), none, none, none] ∧ Same (rm H a) (rm Hd a) ∧ Well Hd a ∧ NL Hd lo ord ∧ NL Hd lt tld ∧ (tld ++ ord).Perm (List.range many))
      (fun _ Hd => match Hd lo with | some (.lst xs) => xs.length | _ => 0) ⟨List.range many, [], rfl, sr2, ⟨_, _, _, s2 _ _ (s1 _ _ hW0)⟩, s2 _ _ h1, h2, .refl _⟩ ?_ (fun σ H Q Q' h k => test_ne h k)
    rintro σ Hd ⟨ord, tld, rfl, sd, ⟨x0, x1, x2, wd⟩, ho, ht, hp⟩
    have lenp := hp.length_eq
    rw [List.length_append, List.length_range] at lenp
    refine ⟨_, rfl, (by show 0 ≤ sizeLine; decide), fun e0 ne0 => ?_⟩
    have se := same_new (o := HO.lst []) ne0
    refine ne_nl (se _ _ ho) (show NL _ e0 [] from upd_same) ⟨_, rfl, ?_⟩
    by_cases hne : ord = []
    · rw [decide_eq_false (fun h => h hne)]
      refine iteF ⟨(by show 0 ≤ sizeLine; decide), fun lf nf => ?_⟩
      generalize hB4 : upd _ lf _ = B4
      have s4 : Same Hd B4 := hB4 ▸ se.trans (same_new nf)
      have h4 : B4 lf = some (.lst []) := hB4 ▸ upd_same
      have flf : H lf = none := by
        have lfa : lf ≠ a := (ne_of_none (se _ _ wd) nf).symm
        have : Same (rm H a) (rm (upd Hd e0 (HO.lst [])) a) := sd.trans (rm_mono a se)
        have z := this.free (l := lf) (by rw [rm_ne lfa]; exact nf)
        rw [rm_ne lfa] at z
        exact z
      rw [hne, List.append_nil] at hp
      have nd : tld.Nodup := hp.nodup_iff.mpr List.nodup_range
      have lt60 : tld.length = many := by rw [hne] at lenp; simpa using lenp
      have hlt : ∀ x ∈ tld, x < tld.length := fun x hx => by
        rw [lt60]
        exact List.mem_range.mp (hp.subset hx)
      refine ⟨_, rfl, 1, (many : Int), rfl, ⟨by decide, by decide, by omega, by omega⟩, ?_⟩
      refine for_range (lo := 1) (n := ((many : Int) - 1).toNat) (fun i σ Hf => ∃ v6 v7, σ = [some (.ref a), some (vn many), some (.int kind), some (.ref lo), some (.ref lt), some (.ref lf), v6, v7] ∧ Same (rm H a) (rm Hf a) ∧ Well Hf a ∧ NL Hf lt tld ∧
          ∃ (ws : List Way) (as : List Addr), Hf lf = some (.lst (as.map V.ref)) ∧ ws.length = i ∧ as.length = i ∧ (∀ j t, as[j]? = some t → H t = none ∧ NT Hf t [(ws.getD j (0, 0)).1, (ws.getD j (0, 0)).2]) ∧
            ∀ k w, ws[k]? = some w → ∃ j x y, j ≤ k ∧ tld[j]? = some x ∧ tld[k + 1]? = some y ∧ ((w = (x, y) ∧ x < y) ∨ (w = (y, x) ∧ y < x)))
        ⟨_, _, rfl, sd.trans (rm_mono a s4), ⟨_, _, _, s4 _ _ wd⟩, s4 _ _ ht, [], [], h4, rfl, rfl, fun j t h => (by simp at h), fun k w h => (by simp at h)⟩ ?_ ?_
      · rintro i σ Hf hi ⟨v6, v7, rfl, sf, ⟨p0, p1, p2, wf⟩, hf, ws, as, hlf, lws, las, hts, hties⟩
        have hi2 : i + 1 < many := by omega
        have ek : (1 : Int) + (i : Int) = ((i + 1 : Nat) : Int) := by omega
        rw [ek]
        -- some = [..]
        refine ⟨_, rfl, _, _, rfl, rfl, _, rfl, _, _, rfl, rfl, _, rfl, _, _, rfl, rfl, (by show (0 : Int) < 2; decide), _, _, rfl, rfl, _, rfl, _, rfl, _, _, rfl, rfl, ⟨by decide, by decide⟩, _, _, rfl, rfl, _, _, rfl, _, rfl, _, _, rfl, rfl, _, _, rfl, rfl, ⟨by decide, by decide⟩, ?_⟩
        refine ⟨_, rfl, _, rfl, a, ((i + 1 : Nat) : Int), rfl, ⟨_, _, _, wf⟩, by omega, by omega, fun d1 q0 q1 q2 a0 a1 => ?_⟩
        have r1 : rm (upd Hf a (HO.lst [V.int q0, V.int q1, V.int q2])) a = rm Hf a := rm_upd
        have w1 : upd Hf a (HO.lst [V.int q0, V.int q1, V.int q2]) a = some (HO.lst [V.int q0, V.int q1, V.int q2]) := upd_same
        generalize upd Hf a (HO.lst [V.int q0, V.int q1, V.int q2]) = G1 at r1 w1
        have of1 : ∀ b o, Hf b = some o → b ≠ a → G1 b = some o := fun b o e n => by
          have : rm G1 a b = some o := by rw [r1, rm_ne n]; exact e
          exact (rm_some this).2
        refine ⟨(by show 6 ≤ sizeLine; decide), fun ls ns => ?_⟩
        generalize hG2 : upd _ ls _ = G2
        have g2 : Same G1 G2 := hG2 ▸ same_new ns
        have hs2 : G2 ls = some _ := hG2 ▸ upd_same
        have lsa : ls ≠ a := (ne_of_none w1 ns).symm
        -- some.append(max(0, k - 1 - draw))
        refine ⟨_, rfl, .inl ⟨rfl, _, SqL.of hs2⟩, _, rfl, _, _, rfl, rfl, _, rfl, a, 3, rfl, ⟨_, _, _, g2 _ _ w1⟩, by decide, by decide, fun d2 q0' q1' q2' b0 b1 => ?_⟩
        have r3 : rm (upd G2 a (HO.lst [V.int q0', V.int q1', V.int q2'])) a = rm G2 a := rm_upd
        have w3 : upd G2 a (HO.lst [V.int q0', V.int q1', V.int q2']) a = some (HO.lst [V.int q0', V.int q1', V.int q2']) := upd_same
        have hs3 : upd G2 a (HO.lst [V.int q0', V.int q1', V.int q2']) ls = some _ := (upd_ne lsa).trans hs2
        generalize upd G2 a (HO.lst [V.int q0', V.int q1', V.int q2']) = G3 at r3 w3 hs3
        have of3 : ∀ b o, G2 b = some o → b ≠ a → G3 b = some o := fun b o e n => by
          have : rm G3 a b = some o := by rw [r3, rm_ne n]; exact e
          exact (rm_some this).2
        refine ⟨_, _, rfl, rfl, _, _, rfl, ls, _, _, rfl, rfl, hs3, (by show 6 < sizeLine; decide), ?_⟩
        generalize hG4 : upd _ ls _ = G4
        have hs4 : G4 ls = some _ := hG4 ▸ upd_same
        have of4 : ∀ b o, Hf b = some o → b ≠ a → G4 b = some o := fun b o e n => by
          have z := of3 _ _ (g2 _ _ (of1 b o e n)) n
          have bls : b ≠ ls := ne_of_none (of1 b o e n) ns
          rw [← hG4, upd_ne bls]
          exact z
        have w4 : G4 a = some (HO.lst [V.int q0', V.int q1', V.int q2']) := by
          rw [← hG4, upd_ne lsa.symm]
          exact w3
        -- found.append(tuple(sorted([told[k], told[some[kind]]])))
        obtain ⟨jj, ljj, ejj⟩ := ix_bound (k := i + 1) (many := many) (kind := kind) (d1 := d1) (d2 := d2) (by omega) hi2 k0 k1 a0 a1 b0 b1
        have lfa : lf ≠ a := fun z => by
          have : H a = none := z ▸ flf
          rw [hW] at this
          cases this
        have hf4 : NL G4 lt tld := of4 _ _ hf lta
        have hlf4 := of4 _ _ hlf lfa
        have x1 : i + 1 < tld.length := by omega
        have x2 : jj < tld.length := by omega
        have ia := at_vn (l := tld) x1
        have ib := at_vn (l := tld) x2
        refine ⟨_, rfl, .inl ⟨rfl, _, SqL.of hlf4⟩, ?_⟩
        refine ⟨_, rfl, _, rfl, lt, _, _, _, rfl, rfl, SqL.of hf4, ia, _, rfl, _, rfl, _, rfl, ls, _, _, _, rfl, rfl, SqL.of hs4, ejj, lt, _, _, _, rfl, rfl, SqL.of hf4, ib, (by show 2 ≤ sizeLine; decide), fun lp np => ?_⟩
        generalize hG5 : upd _ lp _ = G5
        have g5 : Same G4 G5 := hG5 ▸ same_new np
        have hp5 : NL G5 lp [tld.getD (i + 1) 0, tld.getD jj 0] := hG5 ▸ upd_same
        refine ⟨lp, [((tld.getD (i + 1) 0 : Nat) : Int), ((tld.getD jj 0 : Nat) : Int)], rfl, SqL.of hp5, fun ns' ps pm ri nps => ?_⟩
        rw [srt_ints (l := [tld.getD (i + 1) 0, tld.getD jj 0]) pm ri]
        generalize hG6 : upd _ ps _ = G6
        have g6 : Same G5 G6 := hG6 ▸ same_new nps
        have hp6 : NL G6 ps (srt [tld.getD (i + 1) 0, tld.getD jj 0]) := hG6 ▸ upd_same
        refine ⟨ps, _, rfl, .inl ⟨SqL.of hp6, fun pt npt => ?_⟩⟩
        generalize hG7 : upd _ pt _ = G7
        have g7 : Same G6 G7 := hG7 ▸ same_new npt
        have hp7 : NT G7 pt (srt [tld.getD (i + 1) 0, tld.getD jj 0]) := hG7 ▸ upd_same
        have g47 : Same G4 G7 := g5.trans (g6.trans g7)
        refine ⟨lf, _, _, rfl, rfl, g47 _ _ hlf4, by rw [List.length_map, las]; exact small1000 (by omega), ?_⟩
        have gx : tld[i + 1]? = some (tld.getD (i + 1) 0) := by rw [List.getD_eq_getElem?_getD, List.getElem?_eq_getElem x1]; rfl
        have gy : tld[jj]? = some (tld.getD jj 0) := by rw [List.getD_eq_getElem?_getD, List.getElem?_eq_getElem x2]; rfl
        have nxy : tld.getD (i + 1) 0 ≠ tld.getD jj 0 := fun z => by
          rw [z] at gx
          have := nodup_ix nd gx gy
          omega
        obtain ⟨wy, ew, cw⟩ := srt_pair nxy
        rw [ew] at hp7
        have ptlf : pt ≠ lf := (ne_of_none ((g5.trans g6) _ _ hlf4) npt).symm
        have ofT : ∀ b o, Hf b = some o → b ≠ a → b ≠ lf → upd G7 lf (HO.lst (as.map V.ref ++ [V.ref pt])) b = some o := fun b o e n1 n2 => by
          rw [upd_ne n2]
          exact g47 _ _ (of4 b o e n1)
        have lflt : lt ≠ lf := fun z => by
          have q := hlf
          rw [← z] at q
          unfold NL at hf
          rw [hf] at q
          cases htl : tld with
          | nil => rw [htl] at x1; exact absurd x1 (Nat.not_lt_zero _)
          | cons t0 tr =>
            rw [htl] at q
            cases as with
            | nil => cases q
            | cons c cs => cases q
        refine ⟨_, _, rfl, ?_, ⟨q0', q1', q2', ?_⟩, ?_, ws ++ [wy], as ++ [pt], ?_, ?_, ?_, ?_, ?_⟩
        · intro b o e
          obtain ⟨n1, e⟩ := rm_some e
          rw [rm_ne n1]
          have z := sf b o (by rw [rm_ne n1]; exact e)
          obtain ⟨_, z⟩ := rm_some z
          refine ofT b o z n1 fun zz => ?_
          rw [zz, flf] at e
          cases e
        · rw [upd_ne lfa.symm]
          exact g47 _ _ w4
        · exact ofT _ _ hf lta lflt
        · rw [upd_same, List.map_append]
          rfl
        · rw [List.length_append, lws]
          rfl
        · rw [List.length_append, las]
          rfl
        · intro j t hj
          by_cases hlt2 : j < as.length
          · rw [List.getElem?_append_left hlt2] at hj
            obtain ⟨h1, h2⟩ := hts j t hj
            refine ⟨h1, ?_⟩
            have hta : t ≠ a := fun z => by rw [z, hW] at h1; cases h1
            have htlf : t ≠ lf := fun z => by
              unfold NT at h2
              rw [z, hlf] at h2
              cases h2
            have e2 : (ws ++ [wy]).getD j (0, 0) = ws.getD j (0, 0) := by
              rw [List.getD_eq_getElem?_getD, List.getD_eq_getElem?_getD, List.getElem?_append_left (by omega)]
            rw [e2]
            exact ofT _ _ h2 hta htlf
          · rw [List.getElem?_append_right (by omega)] at hj
            have e0 : j - as.length = 0 := by
              have := (List.getElem?_eq_some_iff.mp hj).1
              simp only [List.length_cons, List.length_nil] at this
              omega
            rw [e0] at hj
            cases hj
            have ej : j = ws.length := by omega
            have e2 : (ws ++ [wy]).getD j (0, 0) = wy := by
              rw [List.getD_eq_getElem?_getD, List.getElem?_append_right (by omega), show j - ws.length = 0 by omega]
              rfl
            rw [e2]
            refine ⟨?_, ?_⟩
            · have p1 : G4 pt = none := (g5.trans g6).free npt
              cases e : H pt with
              | none => rfl
              | some o =>
                have pa : pt ≠ a := fun z => by rw [z, w4] at p1; cases p1
                have z := sf pt o (by rw [rm_ne pa]; exact e)
                obtain ⟨_, z⟩ := rm_some z
                have z2 := of4 _ _ z pa
                rw [p1] at z2
                cases z2
            · unfold NT
              rw [upd_ne ptlf]
              exact hp7
        · intro k w hk
          by_cases hlt2 : k < ws.length
          · rw [List.getElem?_append_left hlt2] at hk
            exact hties k w hk
          · rw [List.getElem?_append_right (by omega)] at hk
            have e0 : k - ws.length = 0 := by
              have := (List.getElem?_eq_some_iff.mp hk).1
              simp only [List.length_cons, List.length_nil] at this
              omega
            rw [e0] at hk
            cases hk
            have ekk : k = i := by omega
            subst ekk
            refine ⟨jj, tld.getD jj 0, tld.getD (k + 1) 0, by omega, gy, gx, ?_⟩
            rcases cw with ⟨e, l⟩ | ⟨e, l⟩
            · exact .inr ⟨e, l⟩
            · exact .inl ⟨e, l⟩
      · rintro σ Hf ⟨v6, v7, rfl, sf, wf, hf, ws, as, hlf, lws, las, hts, hties⟩
        refine ⟨_, rfl, q Hf lf ws tld sf wf flf ⟨nd, hlt, by rw [lt60, lws]; omega, hties⟩ (by rw [lws]; omega) ⟨as, ?_, by rw [las, lws], fun j t hj => ?_⟩⟩
        · rw [only_new flf]
          exact hlf
        · obtain ⟨h1, h2⟩ := hts j t hj
          unfold NT
          rw [only_new h1]
          exact h2
    · rw [decide_eq_true hne]
      refine iteT ?_
      have hpos : 0 < ord.length := List.length_pos_iff.mpr hne
      generalize hE : upd Hd e0 (HO.lst []) = E0 at se
      have oE := se _ _ ho
      have tE := se _ _ ht
      have wE := se _ _ wd
      refine ⟨_, rfl, .inl ⟨rfl, _, SqL.of tE⟩, _, rfl, .inl ⟨rfl, _, SqL.of oE⟩, _, rfl, _, rfl, lo, _, rfl, .inl (SqL.of oE), a, _, rfl, ⟨_, _, _, wE⟩, ?_, ?_, fun z q0 q1 q2 z0 z1 => ?_⟩
      · rw [List.length_map]
        omega
      · rw [List.length_map]
        omega
      rw [List.length_map] at z1
      have r1 : rm (upd E0 a (HO.lst [V.int q0, V.int q1, V.int q2])) a = rm E0 a := rm_upd
      have w1 : upd E0 a (HO.lst [V.int q0, V.int q1, V.int q2]) a = some (HO.lst [V.int q0, V.int q1, V.int q2]) := upd_same
      have o1 : upd E0 a (HO.lst [V.int q0, V.int q1, V.int q2]) lo = some (HO.lst (ord.map vn)) := (upd_ne loa).trans oE
      have t1 : upd E0 a (HO.lst [V.int q0, V.int q1, V.int q2]) lt = some (HO.lst (tld.map vn)) := (upd_ne lta).trans tE
      generalize upd E0 a (HO.lst [V.int q0, V.int q1, V.int q2]) = E1 at r1 w1 o1 t1
      have hb : (if decide (1 < kind) = true then (1 : Int) else 0) = 0 ∨ (if decide (1 < kind) = true then (1 : Int) else 0) = 1 := by split <;> simp
      refine ⟨_, rfl, _, _, rfl, rfl, .inr ⟨_, rfl, _, _, rfl, rfl, .inr (by rcases hb with h | h <;> rw [h] <;> exact ⟨by decide, by decide⟩), ?_⟩⟩
      obtain ⟨ix, hix, eix⟩ : ∃ ix : Nat, ix < ord.length ∧ z * (if decide (1 < kind) = true then (1 : Int) else 0) = (ix : Int) := by
        rcases hb with h | h
        · exact ⟨0, hpos, by rw [h]; simp⟩
        · exact ⟨z.toNat, by omega, by rw [h, Int.mul_one, Int.toNat_of_nonneg z0]⟩
      have gi : ord[ix]? = some (ord.getD ix 0) := by rw [List.getD_eq_getElem?_getD, List.getElem?_eq_getElem hix]; rfl
      refine ⟨lo, _, (ix : Int), ix, vn (ord.getD ix 0), rfl, (by rw [← eix]), o1, by omega, by omega, ?_, ?_, lt, _, _, rfl, rfl, (upd_ne lol.symm).trans t1, ?_, ⟨ord.eraseIdx ix, tld ++ [ord.getD ix 0], rfl, ?_, ⟨q0, q1, q2, ?_⟩, ?_, ?_, ?_⟩, ?_⟩
      · rw [List.length_map]
        exact PySem.seqIndex_of (by omega) (by omega)
      · rw [List.getElem?_map, gi]
        rfl
      · rw [List.length_map]
        exact small1000 (by omega)
      · intro b o e
        have z1 := sd b o e
        obtain ⟨n1, z1⟩ := rm_some z1
        obtain ⟨_, eh⟩ := rm_some e
        have b1 : b ≠ lo := fun z => by rw [z, flo] at eh; cases eh
        have b2 : b ≠ lt := fun z => by rw [z, flt] at eh; cases eh
        have z2 : rm E1 a b = some o := by
          rw [r1]
          exact rm_mono a se b o (by rw [rm_ne n1]; exact z1)
        rw [rm_ne n1, upd_ne b2, upd_ne b1]
        exact (rm_some z2).2
      · rw [upd_ne lta.symm, upd_ne loa.symm]
        exact w1
      · unfold NL
        rw [upd_ne lol, upd_same, map_eraseIdx]
      · unfold NL
        rw [upd_same, List.map_append]
        rfl
      · rw [List.append_assoc]
        exact ((List.Perm.append_left tld (perm_eraseIdx gi)).trans hp)
      · show (match upd (upd E1 lo _) lt _ lo with | some (.lst xs) => xs.length | _ => 0) < (match Hd lo with | some (.lst xs) => xs.length | _ => 0)
        have e1 : Hd lo = some (.lst (ord.map vn)) := ho
        rw [upd_ne lol, upd_same, e1]
        show ((ord.map vn).eraseIdx ix).length < (ord.map vn).length
        rw [map_eraseIdx, List.length_map, List.length_map, List.length_eraseIdx_of_lt hix]
        omega
end
end G

namespace G
open PySem L2 GM
/-- who hangs together with s when W is left out -/
inductive Hg (f : Nat → List Nat) (W : List Nat) (s : Nat) : Nat → Prop
  | here : Hg f W s s
  | step {a b : Nat} : Hg f W s a → b ∈ f a → b ∉ W → Hg f W s b
open Classical in
noncomputable def hang (ws : List Way) (W : List Nat) (s : Nat) : List Nat := (List.range (ws.length + 1)).filter fun x => decide (Hg (nb (rows ws)) W s x)
theorem hang_lt {ws : List Way} (hw : ∀ w ∈ ws, w.1 < w.2 ∧ w.2 < ws.length + 1) {W : List Nat} {s x : Nat} (hs : s < ws.length + 1) (h : Hg (nb (rows ws)) W s x) : x < ws.length + 1 := by
  induction h with
  | here => exact hs
  | step _ hb _ _ =>
    have := (graph_rows hw).lt _ _ hb
    rw [rows_length] at this
    exact this
theorem hang_eq {ws : List Way} (hw : ∀ w ∈ ws, w.1 < w.2 ∧ w.2 < ws.length + 1) {W F : List Nat} {s : Nat} (hs : s < ws.length + 1) (nd : F.Nodup) (h : ∀ x, x ∈ F ↔ Hg (nb (rows ws)) W s x) : srt F = hang ws W s := by
  have p : (hang ws W s).Perm F := by
    unfold hang
    refine (List.perm_ext_iff_of_nodup (List.nodup_range.filter _) nd).mpr fun x => ?_
    rw [List.mem_filter, List.mem_range, h]
    simp only [decide_eq_true_eq]
    exact ⟨fun z => z.2, fun z => ⟨hang_lt hw hs z, z⟩⟩
  refine (srt_eq p ?_).symm
  unfold hang
  exact (List.pairwise_lt_range.imp Nat.le_of_lt).sublist List.filter_sublist
theorem nd_len {ws : List Way} {F : List Nat} (nd : F.Nodup) (h : ∀ x ∈ F, x < ws.length + 1) : F.length ≤ ws.length + 1 := by
  have n2 : (srt F).Nodup := (srt_perm _).nodup_iff.mpr nd
  have u : (srt F).Pairwise (· < ·) := (srt_pw _).imp₂ (fun x y h k => by omega) n2
  have l := up_len0 u (n := ws.length + 1) (fun x hx => h x (mem_srt.mp hx))
  rw [(srt_perm F).length_eq] at l
  exact l
theorem putK_new {n : Nat} {l : List Nat} (h : n ∉ l) : putK (dk (ts l)) (Sum.inl (n : Int)) (.bl true) = dk (ts (l ++ [n])) := by
  rw [putK_ts, if_neg h]
theorem keys_int (F : List Nat) : (dk (ts F)).map (·.1) = (F.map fun (n : Nat) => (n : Int)).map Sum.inl := by
  unfold dk ts
  rw [List.map_map, List.map_map, List.map_map]
  rfl
structure TxH (K : PySem.W.Frag) (mg : Str → Option Value) (C : Addr) : Prop where
  cl : Cls K C
  nW : NoAttr K C "_ways"
  nR : NoAttr K C "_rows"
  isi : mg "isinstance" = none
  len : mg "len" = none
  list : mg "list" = none
  tup : mg "tuple" = none
  rg : mg "range" = none
  srt : mg "sorted" = none
def spHang (C : Addr) : Sp := fun vs H Q _ => ∃ (p d : Addr) (s : Nat) (ws : List Way) (W : List Nat), vs = [.ref p, vn s, .ref d] ∧ TreeAt C H p ws ∧ ws.length ≤ 59 ∧ (∀ w ∈ ws, w.1 < w.2 ∧ w.2 < ws.length + 1) ∧ s < ws.length + 1 ∧ DS H d W ∧ ∀ H' q, Same H H' → H q = none → NL H' q (hang ws W s) → Q (.ref q) H'
section
variable {P : Program} {w : World} {K : PySem.W.Frag} {mg : Str → Option Value} {base : Heap} {C : Addr}
theorem scHang : FnScope ["self", "start", "without", "found", "todo", "room", "near"] ["self", "start", "without"] (defScope s_Tree__hanging) := ⟨rfl, rfl, rfl, by decide +kernel, rfl, by decide +kernel, by decide +kernel⟩
theorem ok_hang {f : Addr} {fd : FuncData} (F : Fun K "_hanging" "Tree._hanging" s_Tree__hanging f fd) (T : TxH K mg C) : FnOk P w K mg base CX0 1 f fd ["self", "start", "without"] (spHang C) := by
  refine F.ok scHang (fun vs H Q E h => ?_) (fun cdv A outer s H vs Q E hr h => ?_)
  · obtain ⟨p, d, s, ws, W, rfl, _⟩ := h
    rfl
  · obtain ⟨p, d, s, ws, W, rfl, TT, hl, hw, hs, hd, q⟩ := h
    have hu := hr.units
    have hu0 := hu_of hr
    refine ⟨_, (pss_cons (ps_set (i := 3) scHang.nd rfl (Or.inl rfl) (pe_disp (pps_cons (pv 1) pe_bl pps_nil) rfl rfl (fun z => nomatch z) (by show 1 ≤ 15; decide)))
      (pss_cons (ps_set (i := 4) scHang.nd rfl (Or.inl rfl) (pe_lst (pa_cons (pv 1) pa_nil)))
      (pss_cons (ps_while PassesOwn.never (pt_truthK (K := K) rfl (pv 4) (by intro _; rfl))
        (pss_cons (ps_set (i := 5) scHang.nd rfl (Or.inl rfl) (pe_bm0 PySem.F.plainAttrs_list PySem.F.slot_list_pop PySem.F.type_list_pop mt_pop (pv 4)))
      (pss_one (ps_for PassesOwn.never rfl (pi_list (pe_ix ix_list (pe_fld (pv 0) rfl) (pv 5) (fun _ _ => rfl))) (pg_name (i := 6) scHang.nd rfl (Or.inl rfl))
        (pss_one (ps_if (PW.pt (pw_and (pt_cmp (pc_dnotin hu0 (pv 6) (pv 3))) (pw_and1 (pt_cmp (pc_dnotin hu0 (pv 6) (pv 2)))))) (pss_cons (ps_dput hu0 (pv 3) (pv 6) pe_bl rfl)
      (pss_one (ps_expr (pe_bm PySem.F.plainAttrs_list PySem.F.slot_list_append PySem.F.type_list_append mt_append (pv 4) (pa_cons (pv 6) pa_nil))))) pss_nil))))))
      (pss_one (ps_ret (pe_callB (call_sortedDI rfl) (by rfl) T.srt PyProof.Rows.boot_sorted (pa_cons (pv 3) pa_nil))))))), ?_⟩
    obtain ⟨dx, lw, lr, h1, h2, h3⟩ := id TT
    refine fun D nD => ?_
    refine ⟨_, rfl, upd_same, [(Sum.inl (s : Int), V.bl true)], rfl, (by show 1 ≤ 15; decide), ?_⟩
    generalize hB : upd _ D _ = B
    have s1 : Same H B := by
      rw [← hB]
      intro b o e
      rw [upd_ne (ne_of_none e nD), upd_ne (ne_of_none e nD)]
      exact e
    have hD0 : DS B D [s] := hB ▸ upd_same
    refine ⟨_, rfl, (by show 1 ≤ sizeLine; decide), fun TD nT => ?_⟩
    generalize hB2 : upd _ TD _ = B2
    have s2 : Same B B2 := hB2 ▸ same_new nT
    have hT0 : NL B2 TD [s] := hB2 ▸ upd_same
    have nTH : H TD = none := s1.free nT
    have DT : D ≠ TD := ne_of_none hD0 nT
    have fltn : ∀ x, Hg (nb (rows ws)) W s x → x < ws.length + 1 := fun x h => hang_lt hw hs h
    refine while_by (fun σ Hc => ∃ (F L : List Nat) (v5 v6 : Option V), σ = [some (.ref p), some (vn s), some (.ref d), some (.ref D), some (.ref TD), v5, v6] ∧ Same H Hc ∧ DS Hc D F ∧ NL Hc TD L ∧ F.Nodup ∧ L.Nodup ∧ (∀ x ∈ L, x ∈ F) ∧ (∀ x ∈ F, Hg (nb (rows ws)) W s x) ∧ s ∈ F ∧ (∀ x ∈ F, x ∉ L → ∀ y ∈ nb (rows ws) x, y ∉ W → y ∈ F))
      (fun _ Hc => 2 * (60 - (match Hc D with | some (.dK kvs) => kvs.length | _ => 0)) + (match Hc TD with | some (.lst xs) => xs.length | _ => 0))
      ⟨[s], [s], none, none, rfl, s1.trans s2, hD0.same s2, hT0, by simp, by simp, fun x h => h, fun x h => by rw [List.mem_singleton.mp h]; exact .here, List.mem_singleton_self _, fun x h n => absurd h n⟩ ?_ ?_
    rotate_left
    · intro σ H Q Q' h k
      obtain ⟨v, e, c, ec, k⟩ := k
      exact ⟨v, e, c, ec, h _ _ k⟩
    rintro σ Hc ⟨F, L, v5, v6, rfl, sc, hF, hL, ndF, ndL, LF, FH, sF, cl⟩
    have Flen : F.length ≤ 60 := by
      have := nd_len (ws := ws) ndF (fun x hx => fltn x (FH x hx))
      omega
    rcases List.eq_nil_or_concat L with e | ⟨L0, t, e⟩
    · rw [e] at hL cl
      refine ⟨_, rfl, false, .inl ⟨_, SqL.of hL, rfl⟩, iteF ?_⟩
      refine ⟨_, rfl, D, dk (ts F), F.map (fun (n : Nat) => (n : Int)), rfl, .inl hF, keys_int F, by rw [List.length_map]; omega, fun ys p' pm ri np' => ?_⟩
      rw [srt_ints (l := F) pm ri]
      refine q _ p' (sc.trans (same_new np')) (sc.free np') ?_
      rw [← hang_eq hw hs ndF (fun x => ⟨FH x, fun h => ?_⟩)]
      · exact upd_same
      · induction h with
        | here => exact sF
        | step _ hb hW ih => exact cl _ ih (fun z => nomatch z) _ hb hW
    · have e' : L = L0 ++ [t] := by rw [e, List.concat_eq_append]
      have tL : t ∈ L := by rw [e']; simp
      have tF := LF t tL
      have tn := fltn t (FH t tF)
      have tL0 : t ∉ L0 := fun h => by
        rw [e', List.nodup_append] at ndL
        exact ndL.2.2 t h t (List.mem_singleton_self _) rfl
      have ndL0 : L0.Nodup := by
        rw [e', List.nodup_append] at ndL
        exact ndL.1
      have Llen : L.length = L0.length + 1 := by rw [e', List.length_append]; rfl
      have hne : (!(L.map vn).isEmpty) = true := by rw [e']; simp
      refine ⟨_, rfl, true, .inl ⟨_, SqL.of hL, by rw [← hne]⟩, iteT ?_⟩
      have hlast : (L.map vn)[(L.map vn).length - 1]? = some (vn t) := by
        rw [e']
        simp
      have hdrop : (L.map vn).dropLast = L0.map vn := by
        rw [e', List.map_append]
        simp
      refine ⟨_, rfl, .inl ⟨rfl, _, SqL.of hL⟩, TD, _, vn t, rfl, rfl, hL, hlast, ?_⟩
      rw [hdrop]
      generalize hB3 : upd _ TD _ = B3
      have hL3 : NL B3 TD L0 := hB3 ▸ upd_same
      have hF3 : DS B3 D F := by
        unfold DS
        rw [← hB3, upd_ne DT]
        exact hF
      have s3 : Same H B3 := fun b o e => by
        rw [← hB3, upd_ne (ne_of_none e nTH)]
        exact sc _ _ e
      obtain ⟨as, a, g1, g2, g3⟩ := h3.at (r := t) (by rw [rows_length]; exact tn)
      refine ⟨_, rfl, p, C, dx, _, _, rfl, s3 _ _ h1, T.cl, T.nR, flds_rows _ _, _, rfl, lr, _, _, _, rfl, rfl, SqL.of (s3 _ _ g1), g2, a, rfl, ⟨_, SqL.of (s3 _ _ g3)⟩, for_list (K := K) (a := a) (xs := (nb (rows ws) t).map vn) (fun j σ Hc => ∃ (F' L' : List Nat) (v6 : Option V), σ = [some (.ref p), some (vn s), some (.ref d), some (.ref D), some (.ref TD), some (vn t), v6] ∧ Same H Hc ∧ DS Hc D F' ∧ NL Hc TD L' ∧ F'.Nodup ∧ L'.Nodup ∧ (∀ x ∈ L', x ∈ F') ∧ (∀ x ∈ F', Hg (nb (rows ws)) W s x) ∧ (∀ x ∈ F, x ∈ F') ∧ t ∉ L' ∧ (∀ x ∈ F', x ∉ L' → x ≠ t → ∀ y ∈ nb (rows ws) x, y ∉ W → y ∈ F') ∧ (∀ y ∈ (nb (rows ws) t).take j, y ∉ W → y ∈ F') ∧ 2 * (60 - F'.length) + L'.length ≤ 2 * (60 - F.length) + L0.length)
        ⟨F, L0, v6, rfl, s3, hF3, hL3, ndF, ndL0, fun x h => LF x (by rw [e']; exact List.mem_append_left _ h), FH, fun x h => h, tL0, fun x h n nt => cl x h (by rw [e']; intro z; rcases List.mem_append.mp z with z | z; exact n z; exact nt (List.mem_singleton.mp z)), (fun y h => nomatch h), Nat.le_refl _⟩ (fun j σ Hc _ ⟨_, _, _, _, sc, _⟩ => SqL.of (sc _ _ g3)) ?_ ?_⟩
      · rintro j y σ Hd hj ⟨F', L', v6, rfl, sd, hF', hL', ndF', ndL', LF', FH', sub', tn', cl', tk', ms'⟩
        obtain ⟨r, hr0, rfl⟩ := at_map hj
        have rt : r ∈ nb (rows ws) t := List.mem_of_getElem? hr0
        have etk : (nb (rows ws) t).take (j + 1) = (nb (rows ws) t).take j ++ [r] := by
          rw [List.take_add_one, hr0]
          rfl
        have Flen' : F'.length ≤ 60 := by
          have := nd_len (ws := ws) ndF' (fun x hx => fltn x (FH' x hx))
          omega
        have Llen' : L'.length ≤ 1000 := by
          have := nd_len (ws := ws) ndL' (fun x hx => fltn x (FH' x (LF' x hx)))
          omega
        refine ⟨_, rfl, _, rfl, D, _, rfl, DGet.k (k := Sum.inl (r : Int)) hF', ?_⟩
        rw [valV_ts]
        by_cases hrF : r ∈ F'
        · rw [if_pos hrF]
          refine ⟨_, rfl, iteF ?_⟩
          refine iteF ⟨F', L', _, rfl, sd, hF', hL', ndF', ndL', LF', FH', sub', tn', cl', fun y hy nW => ?_, ms'⟩
          rw [etk] at hy
          rcases List.mem_append.mp hy with h | h
          · exact tk' y h nW
          · rw [List.mem_singleton.mp h]
            exact hrF
        · rw [if_neg hrF]
          refine ⟨_, rfl, iteT ?_⟩
          refine ⟨_, rfl, _, rfl, d, _, rfl, DGet.k (k := Sum.inl (r : Int)) (hd.same sd), ?_⟩
          rw [valV_ts]
          by_cases hrW : r ∈ W
          · rw [if_pos hrW]
            refine ⟨_, rfl, iteF ⟨F', L', _, rfl, sd, hF', hL', ndF', ndL', LF', FH', sub', tn', cl', fun y hy nW => ?_, ms'⟩⟩
            rw [etk] at hy
            rcases List.mem_append.mp hy with h | h
            · exact tk' y h nW
            · exact absurd hrW (List.mem_singleton.mp h ▸ nW)
          · rw [if_neg hrW]
            refine ⟨_, rfl, iteT ?_⟩
            refine ⟨_, rfl, _, rfl, D, _, rfl, DPut.k (k := Sum.inl (r : Int)) hF' (by rw [dk_length]; unfold ts; rw [List.length_map]; exact small1000 (by omega)), ?_⟩
            rw [putK_new hrF]
            generalize hB4 : upd _ D _ = B4
            have hF4 : DS B4 D (F' ++ [r]) := hB4 ▸ upd_same
            have hL4 : NL B4 TD L' := by
              unfold NL
              rw [← hB4, upd_ne DT.symm]
              exact hL'
            have s4 : Same H B4 := fun b o e => by
              rw [← hB4, upd_ne (ne_of_none e nD)]
              exact sd _ _ e
            refine ⟨_, rfl, .inl ⟨rfl, _, SqL.of hL4⟩, _, rfl, TD, _, _, rfl, rfl, hL4, by rw [List.length_map]; exact small1000 (by omega), ?_⟩
            have tF' := sub' t tF
            have Hr : Hg (nb (rows ws)) W s r := .step (FH' t tF') rt hrW
            have rlen : (F' ++ [r]).length ≤ 60 := by
              have := nd_len (ws := ws) (F := F' ++ [r]) (List.nodup_append.mpr ⟨ndF', by simp, fun x hx y hy e => hrF (by rw [List.mem_singleton.mp hy] at e; rw [← e]; exact hx)⟩) (fun x hx => by
                rcases List.mem_append.mp hx with h | h
                · exact fltn x (FH' x h)
                · rw [List.mem_singleton.mp h]; exact fltn r Hr)
              omega
            rw [List.length_append] at rlen
            refine ⟨F' ++ [r], L' ++ [r], _, rfl, fun b o e => ?_, ?_, ?_, ?_, ?_, ?_, ?_, fun x hx => List.mem_append_left _ (sub' x hx), ?_, ?_, ?_, ?_⟩
            · rw [upd_ne (ne_of_none e nTH)]
              exact s4 _ _ e
            · unfold DS
              rw [upd_ne DT]
              exact hF4
            · unfold NL
              rw [upd_same, List.map_append]
              rfl
            · exact List.nodup_append.mpr ⟨ndF', by simp, fun x hx y hy e => hrF (by rw [List.mem_singleton.mp hy] at e; rw [← e]; exact hx)⟩
            · exact List.nodup_append.mpr ⟨ndL', by simp, fun x hx y hy e => hrF (by rw [List.mem_singleton.mp hy] at e; rw [← e]; exact LF' x hx)⟩
            · intro x hx
              rcases List.mem_append.mp hx with h | h
              · exact List.mem_append_left _ (LF' x h)
              · exact List.mem_append_right _ h
            · intro x hx
              rcases List.mem_append.mp hx with h | h
              · exact FH' x h
              · rw [List.mem_singleton.mp h]
                exact Hr
            · intro h
              rcases List.mem_append.mp h with h | h
              · exact tn' h
              · exact hrF (List.mem_singleton.mp h ▸ tF')
            · intro x hx nL nt y hy nW
              rcases List.mem_append.mp hx with h | h
              · exact List.mem_append_left _ (cl' x h (fun z => nL (List.mem_append_left _ z)) nt y hy nW)
              · exact absurd (List.mem_append_right _ h) nL
            · intro y hy nW
              rw [etk] at hy
              rcases List.mem_append.mp hy with h | h
              · exact List.mem_append_left _ (tk' y h nW)
              · exact List.mem_append_right _ h
            · rw [List.length_append, List.length_append]
              simp only [List.length_cons, List.length_nil] at rlen ⊢
              omega
      · rintro σ Hd ⟨F', L', v6, rfl, sd, hF', hL', ndF', ndL', LF', FH', sub', tn', cl', tk', ms'⟩
        rw [List.length_map, List.take_length] at tk'
        refine ⟨⟨F', L', _, _, rfl, sd, hF', hL', ndF', ndL', LF', FH', sub' s sF, fun x hx nL y hy nW => ?_⟩, ?_⟩
        · by_cases ext : x = t
          · rw [ext] at hy
            exact tk' y hy nW
          · exact cl' x hx nL ext y hy nW
        · have m1 : Hd D = some (.dK (dk (ts F'))) := hF'
          have m2 : Hd TD = some (.lst (L'.map vn)) := hL'
          have m3 : Hc D = some (.dK (dk (ts F))) := hF
          have m4 : Hc TD = some (.lst (L.map vn)) := hL
          show 2 * (60 - (match Hd D with | some (.dK kvs) => kvs.length | _ => 0)) + (match Hd TD with | some (.lst xs) => xs.length | _ => 0) < 2 * (60 - (match Hc D with | some (.dK kvs) => kvs.length | _ => 0)) + (match Hc TD with | some (.lst xs) => xs.length | _ => 0)
          rw [m1, m2, m3, m4]
          show 2 * (60 - (dk (ts F')).length) + (L'.map vn).length < 2 * (60 - (dk (ts F)).length) + (L.map vn).length
          rw [dk_length, dk_length, List.length_map, List.length_map]
          unfold ts
          rw [List.length_map, List.length_map]
          omega
end
end G

namespace G
open PySem L2 GM
theorem inV_vn2 {x : Nat} : ∀ {l : List Nat}, inV (vn x) (l.map vn) = decide (x ∈ l)
  | [] => rfl
  | a :: l => by
    have ih := inV_vn2 (x := x) (l := l)
    unfold inV at ih ⊢
    rw [List.map_cons, List.any_cons, ih]
    show (decide ((a : Int) = (x : Int)) || _) = _
    by_cases h : a = x
    · subst h
      simp
    · have h2 : ¬ ((a : Int) = (x : Int)) := by omega
      have h3 : ¬ x = a := fun e => h e.symm
      simp [h2, h3]
theorem flat_vn2 (l : List Nat) : (l.map vn).all flatV = true := by
  rw [List.all_eq_true]
  intro y hy
  obtain ⟨n, _, rfl⟩ := List.mem_map.mp hy
  rfl
theorem k_hg : ¬ ("_hanging" : Str) = "_rows" := by decide +kernel
theorem k_hg2 : ¬ ("_hanging" : Str) = "_ways" := by decide +kernel
def spWaysM (C : Addr) : Sp := fun vs H Q _ => ∃ (p : Addr) (ws : List Way), vs = [.ref p] ∧ TreeAt C H p ws ∧ ws.length ≤ 59 ∧ ∀ H' q, Same H H' → H q = none → LP H' q ws → Q (.ref q) H'
def spBranch (C : Addr) : Sp := fun vs H Q _ => ∃ (p : Addr) (r a : Nat) (ws : List Way), vs = [.ref p, vn r, vn a] ∧ TreeAt C H p ws ∧ ws.length ≤ 59 ∧ (∀ w ∈ ws, w.1 < w.2 ∧ w.2 < ws.length + 1) ∧ r < ws.length + 1 ∧ a ∈ nb (rows ws) r ∧ ∀ H' q, Same H H' → H q = none → NL H' q (hang ws [a] r) → Q (.ref q) H'
section
variable {P : Program} {w : World} {K : PySem.W.Frag} {mg : Str → Option Value} {base : Heap} {C : Addr}
theorem scWays2 : FnScope ["self"] ["self"] (defScope s_Tree_ways) := ⟨rfl, rfl, rfl, by decide +kernel, rfl, by decide +kernel, by decide +kernel⟩
theorem ok_ways {f : Addr} {fd : FuncData} (F : Fun K "ways" "Tree.ways" s_Tree_ways f fd) (T : TxH K mg C) : FnOk P w K mg base CX0 1 f fd ["self"] (spWaysM C) := by
  refine F.ok scWays2 (fun vs H Q E h => ?_) (fun cdv A outer s H vs Q E hr h => ?_)
  · obtain ⟨p, ws, rfl, _⟩ := h
    rfl
  · obtain ⟨p, ws, rfl, TT, hl, q⟩ := h
    refine ⟨_, (pss_one (ps_ret (pe_callTy call_list_of (by rfl) T.list PyProof.Rows.boot_list (pa_cons (pe_fld (pv 0) rfl) pa_nil)))), ?_⟩
    obtain ⟨dx, lw, lr, h1, ⟨as, hlw, hP⟩, h3⟩ := id TT
    refine ⟨_, rfl, p, C, dx, _, _, rfl, h1, T.cl, T.nW, flds_ways _ _, lw, _, rfl, .inl (SqL.of hlw), fun x nx => ?_⟩
    exact q _ x (same_new nx) nx ⟨as, upd_same, hP.same (same_new nx)⟩
theorem scBranch : FnScope ["self", "room", "away"] ["self", "room", "away"] (defScope s_Tree_branch) := ⟨rfl, rfl, rfl, by decide +kernel, rfl, by decide +kernel, by decide +kernel⟩
theorem ok_branch {f : Addr} {fd : FuncData} (F : Fun K "branch" "Tree.branch" s_Tree_branch f fd) (T : TxH K mg C) (L_Tcheck_rooms : CalM P w K mg base C "_check_rooms" 4 ["self", "things"] (spCheck K C)) (L_Thanging : CalM P w K mg base C "_hanging" 1 ["self", "start", "without"] (spHang C)) : FnOk P w K mg base CX0 5 f fd ["self", "room", "away"] (spBranch C) := by
  refine F.ok scBranch (fun vs H Q E h => ?_) (fun cdv A outer s H vs Q E hr h => ?_)
  · obtain ⟨p, r, a, ws, rfl, _⟩ := h
    rfl
  · obtain ⟨p, r, a, ws, rfl, TT, hl, hw, hr', ha, q⟩ := h
    have hu := hr.units
    have hu0 := hu_of hr
    refine ⟨_, (pss_cons (ps_expr (L_Tcheck_rooms.pe (hr.mono (by decide)) (pv 0) (pa_cons (pe_lst (pa_cons (pv 1) (pa_cons (pv 2) pa_nil))) pa_nil)))
      (pss_cons (ps_if (pt_cmpR op_notIn_seq (pv 2) (pe_ix ix_list (pe_fld (pv 0) rfl) (pv 1) (fun _ _ => rfl)) rfl) (pss_one ps_never) pss_nil)
      (pss_one (ps_ret (L_Thanging.pe (hr.mono (by decide)) (pv 0) (pa_cons (pv 1) (pa_cons (pe_disp (pps_cons (pv 2) pe_bl pps_nil) rfl rfl (fun z => nomatch z) (by show 1 ≤ 15; decide)) pa_nil))))))), ?_⟩
    obtain ⟨dx, lw, lr, h1, h2, h3⟩ := id TT
    have ha' : a < ws.length + 1 := by
      have := (graph_rows hw).lt _ _ ha
      rw [rows_length] at this
      exact this
    refine ⟨_, rfl, p, dx, _, rfl, h1, flds_no _ _ k_ch k_ch2, _, rfl, _, rfl, (by show 2 ≤ sizeLine; decide), fun l nl => ?_⟩
    generalize hB : upd _ l _ = B
    have s1 : Same H B := hB ▸ same_new nl
    have hl2 : B l = some _ := hB ▸ upd_same
    refine ⟨p, ws, l, [r, a], rfl, TT.same s1, by omega, SqL.of hl2, fun x hx => ?_, ?_⟩
    · rcases List.mem_cons.mp hx with e | e
      · rw [e]; exact hr'
      · rw [List.mem_singleton.mp e]; exact ha'
    obtain ⟨as, la, g1, g2, g3⟩ := h3.at (r := r) (by rw [rows_length]; exact hr')
    refine ⟨_, rfl, _, rfl, p, C, dx, _, _, rfl, s1 _ _ h1, T.cl, T.nR, flds_rows _ _, _, rfl, lr, _, _, _, rfl, rfl, SqL.of (s1 _ _ g1), g2, la, _, rfl, .inl (SqL.of (s1 _ _ g3)), rfl, flat_vn2 _, _, rfl, ?_⟩
    rw [inV_vn2, decide_eq_true ha]
    refine iteF ?_
    refine ⟨_, rfl, p, dx, _, rfl, s1 _ _ h1, flds_no _ _ k_hg k_hg2, _, rfl, fun D nD => ?_⟩
    refine ⟨_, rfl, upd_same, [(Sum.inl (a : Int), V.bl true)], rfl, (by show 1 ≤ 15; decide), ?_⟩
    generalize hB2 : upd _ D _ = B2
    have s2 : Same B B2 := by
      rw [← hB2]
      intro b o e
      rw [upd_ne (ne_of_none e nD), upd_ne (ne_of_none e nD)]
      exact e
    have hD2 : DS B2 D [a] := hB2 ▸ upd_same
    have s12 := s1.trans s2
    exact ⟨p, D, r, ws, [a], rfl, TT.same s12, hl, hw, hr', hD2, fun H' q' s' n' h' => q H' q' (s12.trans s') (s12.free n') h'⟩
end
end G

namespace G
open PySem L2 GM
/-- distances from g, and each other room has a neighbour that is nearer -/
structure Near (ws : List Way) (g : Nat) (d : Nat → Nat) : Prop where
  R : RootedA (fun a b => b ∈ nb (rows ws) a) g d
  dn : ∀ x, x < ws.length + 1 → x ≠ g → ∃ y ∈ nb (rows ws) x, d y < d x
/-- the rooms from x to g, each nearer than the one ahead -/
inductive Pt (f : Nat → List Nat) (d : Nat → Nat) (g : Nat) : Nat → List Nat → Prop
  | here : Pt f d g g [g]
  | step {x y : Nat} {l : List Nat} : y ∈ f x → d y < d x → Pt f d g y l → Pt f d g x (x :: l)
theorem near_len {ws : List Way} (hw : ∀ w ∈ ws, w.1 < w.2 ∧ w.2 < ws.length + 1) {g : Nat} {d : Nat → Nat} (N : Near ws g d) : ∀ (k x : Nat), d x = k → x < ws.length + 1 → ∃ L : List Nat, L.length = k + 1 ∧ L.Nodup ∧ (∀ y ∈ L, y < ws.length + 1 ∧ d y ≤ k)
  | 0, x, e, hx => ⟨[x], rfl, by simp, fun y hy => by rw [List.mem_singleton.mp hy]; exact ⟨hx, by omega⟩⟩
  | k + 1, x, e, hx => by
    have hne : x ≠ g := fun z => by rw [z, N.R.zero] at e; omega
    obtain ⟨y, hy, hl⟩ := N.dn x hx hne
    have e2 : d y = k := by
      rcases N.R.step _ _ hy with z | z <;> omega
    have hyn : y < ws.length + 1 := by
      have := (graph_rows hw).lt _ _ hy
      rw [rows_length] at this
      exact this
    obtain ⟨L, h1, h2, h3⟩ := near_len hw N k y e2 hyn
    refine ⟨x :: L, by rw [List.length_cons, h1], List.nodup_cons.mpr ⟨fun m => by have := (h3 x m).2; omega, h2⟩, fun z hz => ?_⟩
    rcases List.mem_cons.mp hz with q | q
    · rw [q]
      exact ⟨hx, by omega⟩
    · exact ⟨(h3 z q).1, by have := (h3 z q).2; omega⟩
theorem near_lt {ws : List Way} (hw : ∀ w ∈ ws, w.1 < w.2 ∧ w.2 < ws.length + 1) {g x : Nat} {d : Nat → Nat} (N : Near ws g d) (hx : x < ws.length + 1) : d x < ws.length + 1 := by
  obtain ⟨L, h1, h2, h3⟩ := near_len hw N (d x) x rfl hx
  have := nd_len (ws := ws) h2 (fun y hy => (h3 y hy).1)
  omega
def OB (H : Hp) (q : Addr) (B : List (Nat × Nat)) : Prop := H q = some (.dK (dk (B.map fun s => (s.1, vn s.2))))
theorem ob_fst (B : List (Nat × Nat)) : (B.map fun s => (s.1, vn s.2)).map (·.1) = B.map (·.1) := by rw [List.map_map]; rfl
theorem ob_get {B : List (Nat × Nat)} (nd : (B.map (·.1)).Nodup) {x v : Nat} (h : (x, v) ∈ B) : valV (dk (B.map fun s => (s.1, vn s.2))) (Sum.inl (x : Int)) = some (vn v) := by
  rw [valV_dk]
  refine look_some (by rw [ob_fst]; exact nd) (List.mem_map.mpr ⟨(x, v), h, rfl⟩)
theorem ob_has {B : List (Nat × Nat)} (nd : (B.map (·.1)).Nodup) {x : Nat} : (valV (dk (B.map fun s => (s.1, vn s.2))) (Sum.inl (x : Int))).isSome = decide (x ∈ B.map (·.1)) := by
  by_cases h : x ∈ B.map (·.1)
  · obtain ⟨s, hs, rfl⟩ := List.mem_map.mp h
    rw [ob_get nd (v := s.2) hs, decide_eq_true h]
    rfl
  · rw [valV_dk, look_none (by rw [ob_fst]; exact h), decide_eq_false h]
    rfl
def spHungF : Sp := fun vs H Q _ => ∃ (lr : Addr) (b : Nat) (ws : List Way) (d : Nat → Nat), vs = [.ref lr, vn b] ∧ LL H lr (rows ws) ∧ ws.length ≤ 59 ∧ (∀ w ∈ ws, w.1 < w.2 ∧ w.2 < ws.length + 1) ∧ b < ws.length + 1 ∧ Near ws b d ∧ ∀ H' D B, Same H H' → H D = none → OB H' D B → (B.map (·.1)).Nodup → (∀ x, x < ws.length + 1 → x ∈ B.map (·.1)) → (∀ x v, (x, v) ∈ B → x ≠ b → v ∈ nb (rows ws) x ∧ d v < d x) → Q (.ref D) H'
def spBetween (C : Addr) : Sp := fun vs H Q _ => ∃ (p : Addr) (a b : Nat) (ws : List Way) (d : Nat → Nat), vs = [.ref p, vn a, vn b] ∧ TreeAt C H p ws ∧ ws.length ≤ 59 ∧ (∀ w ∈ ws, w.1 < w.2 ∧ w.2 < ws.length + 1) ∧ a < ws.length + 1 ∧ b < ws.length + 1 ∧ Near ws b d ∧ ∀ H' q l, Same H H' → H q = none → Pt (nb (rows ws)) d b a l → NL H' q l → Q (.ref q) H'
section
variable {P : Program} {w : World} {K : PySem.W.Frag} {mg : Str → Option Value} {base : Heap} {C : Addr}
theorem scHungF : FnScope ["rows", "start", "nearer", "todo", "room", "near"] ["rows", "start"] (defScope s_hung_from) := ⟨rfl, rfl, rfl, by decide +kernel, rfl, by decide +kernel, by decide +kernel⟩
theorem ok_hungf {f : Addr} {fd : FuncData} (F : Fun K "hung_from" "hung_from" s_hung_from f fd) (T : TxH K mg C) : FnOk P w K mg base CX0 1 f fd ["rows", "start"] spHungF := by
  refine F.ok scHungF (fun vs H Q E h => ?_) (fun cdv A outer s H vs Q E hr h => ?_)
  · obtain ⟨lr, b, ws, d, rfl, _⟩ := h
    rfl
  · obtain ⟨lr, b, ws, d, rfl, h3, hl, hw, hb, N, q⟩ := h
    have hu := hr.units
    have hu0 := hu_of hr
    refine ⟨_, (pss_cons (ps_set (i := 2) scHungF.nd rfl (Or.inl rfl) (pe_disp (pps_cons (pv 1) (pv 1) pps_nil) rfl rfl (fun z => nomatch z) (by show 1 ≤ 15; decide)))
      (pss_cons (ps_set (i := 3) scHungF.nd rfl (Or.inl rfl) (pe_lst (pa_cons (pv 1) pa_nil)))
      (pss_cons (ps_while PassesOwn.never (pt_truthK (K := K) rfl (pv 3) (by intro _; rfl))
        (pss_cons (ps_set (i := 4) scHungF.nd rfl (Or.inl rfl) (pe_bm0 PySem.F.plainAttrs_list PySem.F.slot_list_pop PySem.F.type_list_pop mt_pop (pv 3)))
      (pss_one (ps_for PassesOwn.never rfl (pi_list (pe_ix ix_list (pv 0) (pv 4) (fun _ _ => rfl))) (pg_name (i := 5) scHungF.nd rfl (Or.inl rfl))
        (pss_one (ps_if (pt_cmp (pc_dnotin hu0 (pv 5) (pv 2))) (pss_cons (ps_dput hu0 (pv 2) (pv 5) (pv 4) rfl)
      (pss_one (ps_expr (pe_bm PySem.F.plainAttrs_list PySem.F.slot_list_append PySem.F.type_list_append mt_append (pv 3) (pa_cons (pv 5) pa_nil))))) pss_nil))))))
      (pss_one (ps_ret (pv 2)))))), ?_⟩
    have hlt : ∀ x y, y ∈ nb (rows ws) x → y < ws.length + 1 := fun x y h => by
      have := (graph_rows hw).lt _ _ h
      rw [rows_length] at this
      exact this
    refine fun D nD => ?_
    refine ⟨_, rfl, _, rfl, upd_same, [(Sum.inl (b : Int), vn b)], rfl, (by show 1 ≤ 15; decide), ?_⟩
    generalize hB1 : upd _ D _ = B1
    have s1 : Same H B1 := by
      rw [← hB1]
      intro c o e
      rw [upd_ne (ne_of_none e nD), upd_ne (ne_of_none e nD)]
      exact e
    have hD0 : OB B1 D [(b, b)] := hB1 ▸ upd_same
    have nDH : H D = none := nD
    refine ⟨_, rfl, (by show 1 ≤ sizeLine; decide), fun TD nT => ?_⟩
    generalize hB2 : upd _ TD _ = B2
    have s2 : Same B1 B2 := hB2 ▸ same_new nT
    have hT0 : NL B2 TD [b] := hB2 ▸ upd_same
    have nTH : H TD = none := s1.free nT
    have DT : D ≠ TD := ne_of_none hD0 nT
    have s02 : Same H B2 := s1.trans s2
    refine while_by (fun σ Hc => ∃ (B : List (Nat × Nat)) (L : List Nat) (v5 v6 : Option V), σ = [some (.ref lr), some (vn b), some (.ref D), some (.ref TD), v5, v6] ∧ Same H Hc ∧ OB Hc D B ∧ NL Hc TD L ∧ (B.map (·.1)).Nodup ∧ L.Nodup ∧ (∀ x ∈ L, x ∈ B.map (·.1)) ∧ (∀ x ∈ B.map (·.1), x < ws.length + 1) ∧ b ∈ B.map (·.1) ∧ (∀ x v, (x, v) ∈ B → x ≠ b → v ∈ nb (rows ws) x ∧ d v < d x ∧ v ∈ B.map (·.1)) ∧ (∀ x ∈ B.map (·.1), x ∉ L → ∀ y ∈ nb (rows ws) x, y ∈ B.map (·.1)))
      (fun _ Hc => 2 * (60 - (match Hc D with | some (.dK kvs) => kvs.length | _ => 0)) + (match Hc TD with | some (.lst xs) => xs.length | _ => 0))
      ⟨[(b, b)], [b], none, none, rfl, s02, s2 _ _ hD0, hT0, by simp, by simp, fun x h => h, fun x h => by rw [List.mem_singleton.mp h]; exact hb, List.mem_singleton_self _, fun x v h n => by
        have := List.mem_singleton.mp h
        exact absurd (Prod.ext_iff.mp this).1 n, fun x h n => absurd h n⟩ ?_ (fun σ H Q Q' h k => by
        obtain ⟨v, e, c, ec, k⟩ := k
        exact ⟨v, e, c, ec, h _ _ k⟩)
    rintro σ Hc ⟨B, L, v5, v6, rfl, sc, hB, hL, ndB, ndL, LB, Blt, bB, Bv, cl⟩
    have Blen : B.length ≤ 60 := by
      have := nd_len (ws := ws) ndB Blt
      rw [List.length_map] at this
      omega
    rcases List.eq_nil_or_concat L with e | ⟨L0, t, e⟩
    · rw [e] at hL cl
      refine ⟨_, rfl, false, .inl ⟨_, SqL.of hL, rfl⟩, iteF ?_⟩
      -- each room has its place
      have all : ∀ (k x : Nat), d x = k → x < ws.length + 1 → x ∈ B.map (·.1) := by
        intro k
        induction k with
        | zero =>
          intro x ek hx
          by_cases e : x = b
          · rw [e]; exact bB
          · obtain ⟨y, _, hy⟩ := N.dn x hx e
            omega
        | succ k ih =>
          intro x ek hx
          by_cases e : x = b
          · rw [e]; exact bB
          · obtain ⟨y, hy, hly⟩ := N.dn x hx e
            have : d y = k := by rcases N.R.step _ _ hy with z | z <;> omega
            exact cl y (ih y this (hlt _ _ hy)) (fun z => nomatch z) x ((graph_rows hw).sym _ _ hy)
      exact ⟨_, rfl, q Hc D B sc nDH hB ndB (fun x hx => all (d x) x rfl hx) (fun x v h n => ⟨(Bv x v h n).1, (Bv x v h n).2.1⟩)⟩
    · have e' : L = L0 ++ [t] := by rw [e, List.concat_eq_append]
      have tL : t ∈ L := by rw [e']; simp
      have tB := LB t tL
      have tn := Blt t tB
      have tL0 : t ∉ L0 := fun h => by
        rw [e', List.nodup_append] at ndL
        exact ndL.2.2 t h t (List.mem_singleton_self _) rfl
      have ndL0 : L0.Nodup := by
        rw [e', List.nodup_append] at ndL
        exact ndL.1
      have Llen : L.length = L0.length + 1 := by rw [e', List.length_append]; rfl
      have hne : (!(L.map vn).isEmpty) = true := by rw [e']; simp
      refine ⟨_, rfl, true, .inl ⟨_, SqL.of hL, by rw [← hne]⟩, iteT ?_⟩
      have hlast : (L.map vn)[(L.map vn).length - 1]? = some (vn t) := by
        rw [e']
        simp
      have hdrop : (L.map vn).dropLast = L0.map vn := by
        rw [e', List.map_append]
        simp
      refine ⟨_, rfl, .inl ⟨rfl, _, SqL.of hL⟩, TD, _, vn t, rfl, rfl, hL, hlast, ?_⟩
      rw [hdrop]
      generalize hB3 : upd _ TD _ = B3
      have hL3 : NL B3 TD L0 := hB3 ▸ upd_same
      have hF3 : OB B3 D B := by
        unfold OB
        rw [← hB3, upd_ne DT]
        exact hB
      have s3 : Same H B3 := fun c o e => by
        rw [← hB3, upd_ne (ne_of_none e nTH)]
        exact sc _ _ e
      obtain ⟨as, la, g1, g2, g3⟩ := h3.at (r := t) (by rw [rows_length]; exact tn)
      refine ⟨_, rfl, _, rfl, lr, _, _, _, rfl, rfl, SqL.of (s3 _ _ g1), g2, la, rfl, ⟨_, SqL.of (s3 _ _ g3)⟩, for_list (K := K) (a := la) (xs := (nb (rows ws) t).map vn) (fun j σ Hc => ∃ (B' : List (Nat × Nat)) (L' : List Nat) (v6 : Option V), σ = [some (.ref lr), some (vn b), some (.ref D), some (.ref TD), some (vn t), v6] ∧ Same H Hc ∧ OB Hc D B' ∧ NL Hc TD L' ∧ (B'.map (·.1)).Nodup ∧ L'.Nodup ∧ (∀ x ∈ L', x ∈ B'.map (·.1)) ∧ (∀ x ∈ B'.map (·.1), x < ws.length + 1) ∧ (∀ x ∈ B.map (·.1), x ∈ B'.map (·.1)) ∧ t ∉ L' ∧ (∀ x v, (x, v) ∈ B' → x ≠ b → v ∈ nb (rows ws) x ∧ d v < d x ∧ v ∈ B'.map (·.1)) ∧ (∀ x ∈ B'.map (·.1), x ∉ L' → x ≠ t → ∀ y ∈ nb (rows ws) x, y ∈ B'.map (·.1)) ∧ (∀ y ∈ (nb (rows ws) t).take j, y ∈ B'.map (·.1)) ∧ 2 * (60 - B'.length) + L'.length ≤ 2 * (60 - B.length) + L0.length)
        ⟨B, L0, v6, rfl, s3, hF3, hL3, ndB, ndL0, fun x h => LB x (by rw [e']; exact List.mem_append_left _ h), Blt, fun x h => h, tL0, Bv, fun x h n nt => cl x h (by rw [e']; intro z; rcases List.mem_append.mp z with z | z; exact n z; exact nt (List.mem_singleton.mp z)), (fun y h => nomatch h), Nat.le_refl _⟩ (fun j σ Hc _ ⟨_, _, _, _, sc, _⟩ => SqL.of (sc _ _ g3)) ?_ ?_⟩
      · rintro j y σ Hd hj ⟨B', L', v6, rfl, sd, hB', hL', ndB', ndL', LB', Blt', sub', tn', Bv', cl', tk', ms'⟩
        obtain ⟨r, hr0, rfl⟩ := at_map hj
        have rt : r ∈ nb (rows ws) t := List.mem_of_getElem? hr0
        have etk : (nb (rows ws) t).take (j + 1) = (nb (rows ws) t).take j ++ [r] := by
          rw [List.take_add_one, hr0]
          rfl
        have Llen' : L'.length ≤ 1000 := by
          have := nd_len (ws := ws) ndL' (fun x hx => Blt' x (LB' x hx))
          omega
        refine ⟨_, rfl, _, rfl, D, _, rfl, DGet.k (k := Sum.inl (r : Int)) hB', _, rfl, ?_⟩
        rw [ob_has ndB']
        by_cases hrB : r ∈ B'.map (·.1)
        · rw [decide_eq_true hrB]
          refine iteF ⟨B', L', _, rfl, sd, hB', hL', ndB', ndL', LB', Blt', sub', tn', Bv', cl', fun y hy => ?_, ms'⟩
          rw [etk] at hy
          rcases List.mem_append.mp hy with h | h
          · exact tk' y h
          · rw [List.mem_singleton.mp h]
            exact hrB
        · rw [decide_eq_false hrB]
          have ndB2 : ((B' ++ [(r, t)]).map (·.1)).Nodup := by
            rw [List.map_append]
            exact List.nodup_append.mpr ⟨ndB', by simp, fun x hx y hy e => hrB (by
              have e2 : y = r := List.mem_singleton.mp hy
              rw [e2] at e
              rw [← e]
              exact hx)⟩
          have Blt2 : ∀ x ∈ (B' ++ [(r, t)]).map (·.1), x < ws.length + 1 := fun x hx => by
            rw [List.map_append] at hx
            rcases List.mem_append.mp hx with h | h
            · exact Blt' x h
            · have e2 : x = r := List.mem_singleton.mp h
              rw [e2]
              exact hlt _ _ rt
          have Blen2 : (B' ++ [(r, t)]).length ≤ 60 := by
            have := nd_len (ws := ws) ndB2 Blt2
            rw [List.length_map] at this
            omega
          rw [List.length_append] at Blen2
          have Blen3 : B'.length + 1 ≤ 60 := Blen2
          refine iteT ?_
          refine ⟨_, rfl, _, rfl, _, rfl, D, _, rfl, DPut.k (k := Sum.inl (r : Int)) hB' (by rw [dk_length, List.length_map]; exact small1000 (by omega)), ?_⟩
          rw [putK_dk_new (by rw [ob_fst]; exact hrB)]
          generalize hB4 : upd _ D _ = B4
          have hB4' : OB B4 D (B' ++ [(r, t)]) := by
            unfold OB
            rw [← hB4, upd_same, List.map_append]
            rfl
          have hL4 : NL B4 TD L' := by
            unfold NL
            rw [← hB4, upd_ne DT.symm]
            exact hL'
          have s4 : Same H B4 := fun c o e => by
            rw [← hB4, upd_ne (ne_of_none e nDH)]
            exact sd _ _ e
          refine ⟨_, rfl, .inl ⟨rfl, _, SqL.of hL4⟩, _, rfl, TD, _, _, rfl, rfl, hL4, by rw [List.length_map]; exact small1000 (by omega), ?_⟩
          have tB' := sub' t tB
          have inl : ∀ x, x ∈ B'.map (·.1) → x ∈ (B' ++ [(r, t)]).map (·.1) := fun x h => by
            rw [List.map_append]
            exact List.mem_append_left _ h
          have inr : r ∈ (B' ++ [(r, t)]).map (·.1) := by
            rw [List.map_append]
            exact List.mem_append_right _ (List.mem_singleton_self _)
          have dr : d t < d r := by
            rcases N.R.step _ _ rt with z | z
            · omega
            · exfalso
              have tb : t ≠ b := fun e => by rw [e, N.R.zero] at z; omega
              obtain ⟨⟨t', v⟩, htv, et⟩ := List.mem_map.mp tB'
              have et2 : t' = t := et
              rw [et2] at htv
              obtain ⟨h1', h2', h3'⟩ := Bv' t v htv tb
              have := N.R.up t r v rt h1' (by omega) h2'
              rw [this] at hrB
              exact hrB h3'
          refine ⟨B' ++ [(r, t)], L' ++ [r], _, rfl, fun c o e => ?_, ?_, ?_, ndB2, ?_, ?_, Blt2, fun x hx => inl x (sub' x hx), ?_, ?_, ?_, ?_, ?_⟩
          · rw [upd_ne (ne_of_none e nTH)]
            exact s4 _ _ e
          · unfold OB
            rw [upd_ne DT]
            exact hB4'
          · unfold NL
            rw [upd_same, List.map_append]
            rfl
          · exact List.nodup_append.mpr ⟨ndL', by simp, fun x hx y hy e => hrB (by rw [List.mem_singleton.mp hy] at e; rw [← e]; exact LB' x hx)⟩
          · intro x hx
            rcases List.mem_append.mp hx with h | h
            · exact inl x (LB' x h)
            · rw [List.mem_singleton.mp h]
              exact inr
          · intro h
            rcases List.mem_append.mp h with h | h
            · exact tn' h
            · exact hrB (List.mem_singleton.mp h ▸ tB')
          · intro x v hxv hxb
            rcases List.mem_append.mp hxv with h | h
            · obtain ⟨i1, i2, i3⟩ := Bv' x v h hxb
              exact ⟨i1, i2, inl v i3⟩
            · have ee := List.mem_singleton.mp h
              have e1 : x = r := (Prod.ext_iff.mp ee).1
              have e2 : v = t := (Prod.ext_iff.mp ee).2
              rw [e1, e2]
              exact ⟨(graph_rows hw).sym _ _ rt, dr, inl t tB'⟩
          · intro x hx nL nt y hy
            rw [List.map_append] at hx
            rcases List.mem_append.mp hx with h | h
            · exact inl y (cl' x h (fun z => nL (List.mem_append_left _ z)) nt y hy)
            · have e2 : x = r := List.mem_singleton.mp h
              exact absurd (List.mem_append_right _ (by rw [e2]; exact List.mem_singleton_self _)) nL
          · intro y hy
            rw [etk] at hy
            rcases List.mem_append.mp hy with h | h
            · exact inl y (tk' y h)
            · rw [List.mem_singleton.mp h]
              exact inr
          · rw [List.length_append, List.length_append]
            simp only [List.length_cons, List.length_nil]
            omega
      · rintro σ Hd ⟨B', L', v6, rfl, sd, hB', hL', ndB', ndL', LB', Blt', sub', tn', Bv', cl', tk', ms'⟩
        rw [List.length_map, List.take_length] at tk'
        refine ⟨⟨B', L', _, _, rfl, sd, hB', hL', ndB', ndL', LB', Blt', sub' b bB, Bv', fun x hx nL y hy => ?_⟩, ?_⟩
        · by_cases ext : x = t
          · rw [ext] at hy
            exact tk' y hy
          · exact cl' x hx nL ext y hy
        · have m1 : Hd D = some (.dK (dk (B'.map fun s => (s.1, vn s.2)))) := hB'
          have m2 : Hd TD = some (.lst (L'.map vn)) := hL'
          have m3 : Hc D = some (.dK (dk (B.map fun s => (s.1, vn s.2)))) := hB
          have m4 : Hc TD = some (.lst (L.map vn)) := hL
          show 2 * (60 - (match Hd D with | some (.dK kvs) => kvs.length | _ => 0)) + (match Hd TD with | some (.lst xs) => xs.length | _ => 0) < 2 * (60 - (match Hc D with | some (.dK kvs) => kvs.length | _ => 0)) + (match Hc TD with | some (.lst xs) => xs.length | _ => 0)
          rw [m1, m2, m3, m4]
          show 2 * (60 - (dk (B'.map fun s => (s.1, vn s.2))).length) + (L'.map vn).length < 2 * (60 - (dk (B.map fun s => (s.1, vn s.2))).length) + (L.map vn).length
          rw [dk_length, dk_length, List.length_map, List.length_map, List.length_map, List.length_map]
          omega
theorem scBetween : FnScope ["self", "one", "other", "nearer", "rooms"] ["self", "one", "other"] (defScope s_Tree_between) := ⟨rfl, rfl, rfl, by decide +kernel, rfl, by decide +kernel, by decide +kernel⟩
theorem ok_between {f : Addr} {fd : FuncData} (F : Fun K "between" "Tree.between" s_Tree_between f fd) (T : TxH K mg C) (L_hung_from : Cal P w K mg base "hung_from" 1 ["rows", "start"] spHungF) (L_Tcheck_rooms : CalM P w K mg base C "_check_rooms" 4 ["self", "things"] (spCheck K C)) : FnOk P w K mg base CX0 5 f fd ["self", "one", "other"] (spBetween C) := by
  refine F.ok scBetween (fun vs H Q E h => ?_) (fun cdv A outer s H vs Q E hr h => ?_)
  · obtain ⟨p, a, b, ws, d, rfl, _⟩ := h
    rfl
  · obtain ⟨p, a, b, ws, d, rfl, TT, hl, hw, ha, hb, N, q⟩ := h
    have hu := hr.units
    have hu0 := hu_of hr
    refine ⟨_, (pss_cons (ps_expr (L_Tcheck_rooms.pe (hr.mono (by decide)) (pv 0) (pa_cons (pe_lst (pa_cons (pv 1) (pa_cons (pv 2) pa_nil))) pa_nil)))
      (pss_cons (ps_set (i := 3) scBetween.nd rfl (Or.inl rfl) (L_hung_from.pe (hr.mono (by decide)) rfl (pa_cons (pe_fld (pv 0) rfl) (pa_cons (pv 2) pa_nil))))
      (pss_cons (ps_set (i := 4) scBetween.nd rfl (Or.inl rfl) (pe_lst (pa_cons (pv 1) pa_nil)))
      (pss_cons (ps_while PassesOwn.never (pt_cmpR op_ne (pe_ix ix_list (pv 4) (pe_un un_neg pe_int) (fun _ _ => rfl)) (pv 2) (nomark _))
        (pss_one (ps_expr (pe_bm PySem.F.plainAttrs_list PySem.F.slot_list_append PySem.F.type_list_append mt_append (pv 4) (pa_cons (pe_dget hu0 (pv 3) (pe_ix ix_list (pv 4) (pe_un un_neg pe_int) (fun _ _ => rfl)) (fun _ _ => rfl)) pa_nil)))))
      (pss_one (ps_ret (pv 4))))))), ?_⟩
    obtain ⟨dx, lw, lr, h1, h2, h3⟩ := id TT
    have hlt : ∀ x y, y ∈ nb (rows ws) x → y < ws.length + 1 := fun x y h => by
      have := (graph_rows hw).lt _ _ h
      rw [rows_length] at this
      exact this
    refine ⟨_, rfl, p, dx, _, rfl, h1, flds_no _ _ k_ch k_ch2, _, rfl, _, rfl, (by show 2 ≤ sizeLine; decide), fun l nl => ?_⟩
    generalize hB : upd _ l _ = B0
    have s0 : Same H B0 := hB ▸ same_new nl
    have hl2 : B0 l = some _ := hB ▸ upd_same
    refine ⟨p, ws, l, [a, b], rfl, TT.same s0, by omega, SqL.of hl2, fun x hx => ?_, ?_⟩
    · rcases List.mem_cons.mp hx with e | e
      · rw [e]; exact ha
      · rw [List.mem_singleton.mp e]; exact hb
    refine ⟨_, rfl, p, C, dx, _, _, rfl, s0 _ _ h1, T.cl, T.nR, flds_rows _ _, _, rfl, lr, b, ws, d, rfl, h3.same s0, hl, hw, hb, N, fun Hc D B s1 nD hB ndB all0 Bv => ?_⟩
    have sc : Same H Hc := s0.trans s1
    have nDH : H D = none := s0.free nD
    have all : ∀ (k x : Nat), d x = k → x < ws.length + 1 → x ∈ B.map (·.1) := fun _ x _ h => all0 x h
    refine ⟨_, rfl, (by show 1 ≤ sizeLine; decide), fun R nR => ?_⟩
    generalize hB5 : upd _ R _ = B5
    have s5 : Same Hc B5 := hB5 ▸ same_new nR
    have hR5 : NL B5 R [a] := hB5 ▸ upd_same
    have nRH : H R = none := sc.free nR
    have DR : D ≠ R := ne_of_none hB nR
    refine while_by (fun σ Hd => ∃ (l0 : List Nat) (x : Nat), σ = [some (.ref p), some (vn a), some (vn b), some (.ref D), some (.ref R)] ∧ Same H Hd ∧ OB Hd D B ∧ NL Hd R (l0 ++ [x]) ∧ x < ws.length + 1 ∧ l0.length + d x = d a ∧ ∀ l, Pt (nb (rows ws)) d b x l → Pt (nb (rows ws)) d b a (l0 ++ l))
      (fun _ Hd => 100 - (match Hd R with | some (.lst xs) => xs.length | _ => 0)) ⟨[], a, rfl, sc.trans s5, s5 _ _ hB, hR5, ha, by simp, fun l h => h⟩ ?_ (fun σ H Q Q' h k => ?_)
    · rintro σ Hd ⟨l0, x, rfl, sd, hD, hR, hx, hlen, hpt⟩
      have da := near_lt hw N ha
      have hlast : atI ((l0 ++ [x]).map vn) (-1) = some (vn x) := by
        rw [List.map_append]
        exact atI_last _ _
      refine ⟨_, rfl, _, rfl, R, _, _, _, rfl, rfl, SqL.of hR, hlast, _, rfl, rfl, _, rfl, ?_⟩
      have e2 : (!decide (vn x = vn b)) = decide (x ≠ b) := by rw [vn_dec, not_dec]
      rw [e2]
      by_cases exb : x = b
      · rw [decide_eq_false (fun h => h exb)]
        refine iteF ⟨_, rfl, q Hd R (l0 ++ [x]) sd nRH (hpt [x] (exb ▸ .here)) hR⟩
      · rw [decide_eq_true exb]
        have hm := all (d x) x rfl hx
        obtain ⟨⟨x', v⟩, hxv, ex'⟩ := List.mem_map.mp hm
        have ex2 : x' = x := ex'
        subst ex2
        obtain ⟨g1, g2⟩ := Bv x' v hxv exb
        refine iteT ⟨_, rfl, .inl ⟨rfl, _, SqL.of hR⟩, _, rfl, _, rfl, _, rfl, R, _, _, _, rfl, rfl, SqL.of hR, hlast, D, _, rfl, ob_get ndB hxv ▸ DGet.k (k := Sum.inl (x' : Int)) hD, ?_⟩
        have dxv : d x' = d v + 1 := by rcases N.R.step _ _ g1 with z | z <;> omega
        refine ⟨R, _, _, rfl, rfl, hR, by rw [List.length_map, List.length_append]; exact small1000 (by simp only [List.length_cons, List.length_nil]; omega), ?_⟩
        refine ⟨⟨l0 ++ [x'], v, rfl, fun c o e => ?_, ?_, ?_, hlt _ _ g1, ?_, fun l h => ?_⟩, ?_⟩
        · rw [upd_ne (ne_of_none e nRH)]
          exact sd _ _ e
        · unfold OB
          rw [upd_ne DR]
          exact hD
        · unfold NL
          rw [upd_same, List.map_append (l₁ := l0 ++ [x'])]
          rfl
        · rw [List.length_append]
          simp only [List.length_cons, List.length_nil]
          omega
        · rw [List.append_assoc]
          exact hpt (x' :: l) (.step g1 g2 h)
        · show 100 - (match (upd Hd R _) R with | some (.lst xs) => xs.length | _ => 0) < 100 - (match Hd R with | some (.lst xs) => xs.length | _ => 0)
          have m2 : Hd R = some (.lst ((l0 ++ [x']).map vn)) := hR
          rw [upd_same, m2]
          show 100 - (((l0 ++ [x']).map vn) ++ [vn v]).length < 100 - ((l0 ++ [x']).map vn).length
          rw [List.length_append, List.length_map, List.length_append]
          simp only [List.length_cons, List.length_nil]
          omega
    · obtain ⟨v, ev, i, ei, l, xs, j, y, e1, e2, e3, e4, w', ew, fl, c, ec, k⟩ := k
      exact ⟨v, ev, i, ei, l, xs, j, y, e1, e2, e3, e4, w', ew, fl, c, ec, h _ _ k⟩
end
end G

namespace G
open PySem L2 GM
def dLL (rs : List (List Nat)) : List PyData := rs.map fun r => PyData.list (dN r)
theorem dp_ll {K : PySem.W.Frag} {H : Hp} : ∀ (as : List Addr) (rs : List (List Nat)), Lists H as rs → DpAll K H (as.map V.ref) (dLL rs)
  | [], [], _ => .nil
  | [], _ :: _, h => by have := h.1; simp at this
  | _ :: _, [], h => by have := h.1; simp at this
  | a :: as, r :: rs, h => by
    have h0 : NL H a r := h.2 0 a rfl
    exact .cons (dp_nl h0) (dp_ll as rs ⟨by have := h.1; simpa using this, fun i b hb => h.2 (i + 1) b hb⟩)
theorem flat_ll {rs : List (List Nat)} : ∀ d ∈ dLL rs, Flat 1 d := fun d h => by
  obtain ⟨s, _, rfl⟩ := List.mem_map.mp h
  exact flat_list flat_dN
theorem eqv_dLL : ∀ (l m : List (List Nat)), PyData.eqvAll (dLL l) (dLL m) = decide (l = m)
  | [], [] => rfl
  | [], _ :: _ => (decide_eq_false (by simp)).symm
  | _ :: _, [] => (decide_eq_false (by simp)).symm
  | a :: l, b :: m => by
    show (PyData.eqvAll (dN a) (dN b) && PyData.eqvAll (dLL l) (dLL m)) = _
    rw [eqv_dLL l m, eqv_dN]
    by_cases h : a = b
    · subst h
      rw [decide_eq_true rfl, Bool.true_and]
      exact decide_eq_decide.mpr ⟨fun h => by rw [h], fun h => by cases h; rfl⟩
    · rw [decide_eq_false h, Bool.false_and]
      exact (decide_eq_false (fun e => h (List.cons.inj e).1)).symm
theorem eq_ll {K : PySem.W.Frag} {H : Hp} {p q : Addr} {l m : List (List Nat)} {Q : VK} (hp : LL H p l) (hq : LL H q m) (h : Q (.bl (decide (l = m))) H) : rEqD K (.ref p) (.ref q) H Q := by
  obtain ⟨as, h1, h2⟩ := hp
  obtain ⟨bs, g1, g2⟩ := hq
  refine ⟨_, _, .lst (SqL.of h1) (dp_ll as l h2), .lst (SqL.of g1) (dp_ll bs m g2), (flat_list flat_ll).shaped, (flat_list flat_ll).shaped, ?_⟩
  show Q (.bl (PyData.eqvAll (dLL l) (dLL m))) H
  rw [eqv_dLL]
  exact h
/-- what isinstance(.., Tree) asks of the class -/
structure TxE (K : PySem.W.Frag) (mg : Str → Option Value) (C : Addr) : Prop where
  isi : mg "isinstance" = none
  gT : mg "Tree" = some (.ref C)
  ic : PySem.W.findIn K (.ref C) "__class__" = some (some (.builtin "object.__class__"))
  sp : PySem.W.specialIn K (.builtin "object.__class__") "__get__" = some (some (.builtin "getset_descriptor.__get__"))
  tk : PySem.W.takesIn K (.builtin "object.__class__") = some true
  mo : PySem.W.mroIn K C (.type "object") = some true
  kO : PySem.W.kitOne K (.ref C) (.ref C) = some true
  kL : PySem.W.kitOne K (.type "list") (.ref C) = some false
def spEqT (C : Addr) : Sp := fun vs H Q _ => ∃ (p : Addr) (v : V) (ws : List Way), vs = [.ref p, v] ∧ TreeAt C H p ws ∧ ((∃ (p' : Addr) (ws' : List Way), v = .ref p' ∧ TreeAt C H p' ws' ∧ Q (.bl (decide (rows ws = rows ws'))) H) ∨ (∃ (l : Addr) (xs : List V), v = .ref l ∧ H l = some (.lst xs) ∧ Q (.bl false) H))
section
variable {P : Program} {w : World} {K : PySem.W.Frag} {mg : Str → Option Value} {base : Heap} {C : Addr}
theorem scEq : FnScope ["self", "other"] ["self", "other"] (defScope s_Tree___eq__) := ⟨rfl, rfl, rfl, by decide +kernel, rfl, by decide +kernel, by decide +kernel⟩
theorem ok_eq {f : Addr} {fd : FuncData} (F : Fun K "__eq__" "Tree.__eq__" s_Tree___eq__ f fd) (TH : TxH K mg C) (T : TxE K mg C) : FnOk P w K mg base CX0 1 f fd ["self", "other"] (spEqT C) := by
  refine F.ok scEq (fun vs H Q E h => ?_) (fun cdv A outer s H vs Q E hr h => ?_)
  · obtain ⟨p, v, ws, rfl, _⟩ := h
    rfl
  · obtain ⟨p, v, ws, rfl, TT, q⟩ := h
    have hu := hr.units
    refine ⟨_, (pss_one (ps_ret (pe_and (pe_callB call_isi (by rfl) T.isi PyProof.Rows.boot_isinstance (pa_cons (pv 1) (pa_cons (pe_glob (v := .ref C) rfl T.gT rfl) pa_nil))) (pe_one (pe_cmpR (op_eqD hu) (pe_fld (pv 0) rfl) (pe_fld (pv 1) rfl) (nomark _)))))), ?_⟩
    obtain ⟨dx, lw, lr, h1, h2, h3⟩ := id TT
    rcases q with ⟨p', ws', rfl, TT', q⟩ | ⟨l, xs, rfl, hl, q⟩
    · obtain ⟨dx', lw', lr', g1, g2, g3⟩ := id TT'
      refine ⟨_, rfl, _, _, _, _, true, rfl, .own C, .base (.ins g1 TH.cl T.ic T.sp T.tk T.mo), T.kO, _, rfl, iteT ?_⟩
      refine ⟨_, rfl, p, C, dx, _, _, rfl, h1, TH.cl, TH.nR, flds_rows _ _, _, rfl, p', C, dx', _, _, rfl, g1, TH.cl, TH.nR, flds_rows _ _, ?_⟩
      exact eq_ll h3 g3 q
    · exact ⟨_, rfl, _, _, _, _, false, rfl, .own C, .base (.lst hl), T.kL, _, rfl, iteF q⟩
end
end G

namespace G
open PySem L2 GM
theorem only_trans {H H2 H5 : Hp} (s : Same H H2) (t : Same H2 H5) : Same (only H2 H5) (only H H5) := fun b o h => by
  unfold only at h
  split at h
  · rename_i hn
    rw [only_new (s.free hn)]
    exact h
  · rename_i xs hx
    rw [← h]
    cases e : H b with
    | none =>
      rw [only_new e]
      exact t _ _ hx
    | some o' =>
      have z := s _ _ e
      rw [hx] at z
      cases z
      exact only_tup e
  · cases h
def spHung (C : Addr) : Sp := fun vs H Q _ => ∃ (p : Addr) (r : Nat) (ws : List Way), vs = [.ref p, vn r] ∧ TreeAt C H p ws ∧ ws.length ≤ 58 ∧ r < ws.length + 1 ∧ okWays (ws.length + 1 + 1) (ws ++ [(r, ws.length + 1)]) (List.range (ws.length + 1 + 1)) ∧ ∀ H' x, Same H H' → H x = none → TreeAt C (only H H') x (ws ++ [(r, ws.length + 1)]) → Q (.ref x) H'
section
variable {P : Program} {w : World} {K : PySem.W.Frag} {mg : Str → Option Value} {base : Heap} {C : Addr}
theorem scHung : FnScope ["self", "room"] ["self", "room"] (defScope s_Tree_with_room) := ⟨rfl, rfl, rfl, by decide +kernel, rfl, by decide +kernel, by decide +kernel⟩
theorem ok_hung {f : Addr} {fd : FuncData} (F : Fun K "with_room" "Tree.with_room" s_Tree_with_room f fd) (T : TxH K mg C) (L_Tcheck_rooms : CalM P w K mg base C "_check_rooms" 4 ["self", "things"] (spCheck K C)) (L_Tree : CalK P w K mg base C "Tree" 4 ["self", "ways"] (spInit C)) : FnOk P w K mg base CX0 6 f fd ["self", "room"] (spHung C) := by
  refine F.ok scHung (fun vs H Q E h => ?_) (fun cdv A outer s H vs Q E hr h => ?_)
  · obtain ⟨p, r, ws, rfl, _⟩ := h
    rfl
  · obtain ⟨p, r, ws, rfl, TT, hl, hr', hok, q⟩ := h
    refine ⟨_, (pss_cons (ps_expr (L_Tcheck_rooms.pe (hr.mono (by decide)) (pv 0) (pa_cons (pe_lst (pa_cons (pv 1) pa_nil)) pa_nil)))
      (pss_one (ps_ret (L_Tree.pe (hr.mono (by decide)) rfl (pa_cons (pe_lst (StX.pa_star (pe_fld (pv 0) rfl) (pa_cons (pe_tup (pa_cons (pv 1) (pa_cons (pe_callB call_len_seq (by rfl) T.len PySem.boot_len (pa_cons (pe_fld (pv 0) rfl) pa_nil)) pa_nil))) pa_nil))) pa_nil))))), ?_⟩
    obtain ⟨dx, lw, lr, h1, ⟨asw, hlw, hPw⟩, ⟨asr, hlr, hPr⟩⟩ := id TT
    refine ⟨_, rfl, p, dx, _, rfl, h1, flds_no _ _ k_ch k_ch2, _, rfl, (by show 1 ≤ sizeLine; decide), fun l nl => ?_⟩
    generalize hB : upd _ l _ = B
    have s1 : Same H B := hB ▸ same_new nl
    have hl2 : B l = some _ := hB ▸ upd_same
    refine ⟨p, ws, l, [r], rfl, TT.same s1, by omega, SqL.of hl2, fun x hx => ?_, ?_⟩
    · rw [List.mem_singleton.mp hx]
      exact hr'
    have elr : (asr.map V.ref).length = ws.length + 1 := by rw [List.length_map, hPr.1, rows_length]
    refine ⟨_, rfl, p, C, dx, _, _, rfl, s1 _ _ h1, T.cl, T.nW, flds_ways _ _, lw, _, rfl, .inr (SqL.of (s1 _ _ hlw)), ?_⟩
    refine ⟨_, rfl, _, rfl, p, C, dx, _, _, rfl, s1 _ _ h1, T.cl, T.nR, flds_rows _ _, lr, _, rfl, .inl (SqL.of (s1 _ _ hlr)), (by show 2 ≤ sizeLine; decide), fun t nt => ?_⟩
    rw [elr]
    generalize hB2 : upd _ t _ = B2
    have s2 : Same B B2 := hB2 ▸ same_new nt
    have ht : NT B2 t [r, ws.length + 1] := hB2 ▸ upd_same
    have s12 := s1.trans s2
    refine ⟨?_, fun l3 n3 => ?_⟩
    · rw [List.length_append, List.length_map, hPw.1]
      show ws.length + 1 ≤ sizeLine
      exact Nat.le_of_lt (small1000 (by omega))
    generalize hB3 : upd _ l3 _ = B3
    have s3 : Same B2 B3 := hB3 ▸ same_new n3
    have hl3 : B3 l3 = some (.lst (asw.map V.ref ++ [V.ref t])) := hB3 ▸ upd_same
    have s13 := s12.trans s3
    have hLP : LP B3 l3 (ws ++ [(r, ws.length + 1)]) := by
      refine ⟨asw ++ [t], ?_, by rw [List.length_append, List.length_append, hPw.1]; rfl, fun i a ha => ?_⟩
      · rw [hl3, List.map_append]
        rfl
      · by_cases hi : i < asw.length
        · rw [List.getElem?_append_left hi] at ha
          have e2 : (ws ++ [(r, ws.length + 1)]).getD i (0, 0) = ws.getD i (0, 0) := by
            rw [List.getD_eq_getElem?_getD, List.getD_eq_getElem?_getD, List.getElem?_append_left (by rw [← hPw.1]; exact hi)]
          rw [e2]
          exact (hPw.2 i a ha).same s13
        · rw [List.getElem?_append_right (by omega)] at ha
          have e0 : i - asw.length = 0 := by
            have := (List.getElem?_eq_some_iff.mp ha).1
            simp only [List.length_cons, List.length_nil] at this
            omega
          rw [e0] at ha
          cases ha
          have e2 : (ws ++ [(r, ws.length + 1)]).getD i (0, 0) = (r, ws.length + 1) := by
            have := hPw.1
            rw [List.getD_eq_getElem?_getD, List.getElem?_append_right (by omega), show i - ws.length = 0 by omega]
            rfl
          rw [e2]
          exact ht.same s3
    refine fun x dx2 nx nd nex => ?_
    have s4x : Same B3 (upd (upd B3 dx2 (.own x)) x (.ins C dx2 [])) := fun b o e => by
      rw [upd_ne (ne_of_none e nx), upd_ne (ne_of_none e nd)]
      exact e
    have elen : (ws ++ [(r, ws.length + 1)]).length = ws.length + 1 := by rw [List.length_append]; rfl
    refine ⟨x, l3, dx2, ws ++ [(r, ws.length + 1)], rfl, upd_same, hLP.same s4x, by rw [elen]; omega, by rw [elen]; exact hok, fun H5 la lr' k5 hx5 hlw5 hlr5 => ⟨rfl, ?_⟩⟩
    obtain ⟨s5, TT5⟩ := tree_made nx nd nex k5 hx5 hlw5 hlr5
    exact q H5 x (s13.trans s5) (s13.free nx) (TT5.same (only_trans s13 s5))
end
end G

namespace G
open PySem L2 GM
structure TxP (K : PySem.W.Frag) (mg : Str → Option Value) (C : Addr) : Prop extends TxH K mg C where
  int : mg "int" = none
def addK (l : List Nat) (xs : List Nat) : List Nat := xs.foldl (fun l x => if x ∈ l then l else l ++ [x]) l
noncomputable def pcStep (ws : List Way) (a : List Nat × List (List Nat)) (r : Nat) : List Nat × List (List Nat) := if r ∈ a.1 then a else (addK a.1 (hang ws a.1 r), a.2 ++ [hang ws a.1 r])
noncomputable def pcs (ws : List Way) (W : List Nat) : List (List Nat) := ((List.range (ws.length + 1)).foldl (pcStep ws) (addK [] W, [])).2
def spCheckT (K : PySem.W.Frag) (C : Addr) : Sp := fun vs H Q _ => ∃ (p : Addr) (ws : List Way) (l : Addr) (xs : List Nat), vs = [.ref p, .ref l] ∧ TreeAt C H p ws ∧ ws.length ≤ 1000 ∧ SqT K H l (xs.map vn) ∧ (∀ x ∈ xs, x < ws.length + 1) ∧ Q .non H
def spCheckL (K : PySem.W.Frag) (C : Addr) : Sp := spCheck K C
def spPcsL (C : Addr) : Sp := fun vs H Q _ => ∃ (p l : Addr) (ws : List Way) (xs : List Nat), vs = [.ref p, .ref l] ∧ TreeAt C H p ws ∧ ws.length ≤ 59 ∧ (∀ w ∈ ws, w.1 < w.2 ∧ w.2 < ws.length + 1) ∧ NL H l xs ∧ (∀ x ∈ xs, x < ws.length + 1) ∧ xs.length ≤ 100 ∧ ∀ H' q, Same H H' → H q = none → LL (only H H') q (pcs ws xs) → Q (.ref q) H'
def spPcsT (C : Addr) : Sp := fun vs H Q _ => ∃ (p l : Addr) (ws : List Way) (xs : List Nat), vs = [.ref p, .ref l] ∧ TreeAt C H p ws ∧ ws.length ≤ 59 ∧ (∀ w ∈ ws, w.1 < w.2 ∧ w.2 < ws.length + 1) ∧ NT H l xs ∧ (∀ x ∈ xs, x < ws.length + 1) ∧ xs.length ≤ 100 ∧ ∀ H' q, Same H H' → H q = none → LL (only H H') q (pcs ws xs) → Q (.ref q) H'
theorem addK_nd : ∀ {xs l : List Nat}, l.Nodup → (addK l xs).Nodup
  | [], l, h => h
  | x :: xs, l, h => by
    show (addK (if x ∈ l then l else l ++ [x]) xs).Nodup
    refine addK_nd ?_
    by_cases c : x ∈ l
    · rw [if_pos c]; exact h
    · rw [if_neg c]
      exact List.nodup_append.mpr ⟨h, by simp, fun a ha b hb e => c (by rw [List.mem_singleton.mp hb] at e; rw [← e]; exact ha)⟩
theorem addK_mem : ∀ {xs l : List Nat} {y : Nat}, y ∈ addK l xs ↔ y ∈ l ∨ y ∈ xs
  | [], l, y => ⟨fun h => .inl h, fun h => h.elim (fun h => h) (fun h => nomatch h)⟩
  | x :: xs, l, y => by
    show y ∈ addK (if x ∈ l then l else l ++ [x]) xs ↔ _
    rw [addK_mem, List.mem_cons]
    by_cases c : x ∈ l
    · rw [if_pos c]
      exact ⟨fun h => h.elim .inl (fun h => .inr (.inr h)), fun h => h.elim .inl (fun h => h.elim (fun e => .inl (e ▸ c)) .inr)⟩
    · rw [if_neg c, List.mem_append, List.mem_singleton]
      exact ⟨fun h => h.elim (fun h => h.elim .inl (fun e => .inr (.inl e))) (fun h => .inr (.inr h)), fun h => h.elim (fun h => .inl (.inl h)) (fun h => h.elim (fun e => .inl (.inr e)) .inr)⟩
theorem addK_snoc {l xs : List Nat} {x : Nat} : addK l (xs ++ [x]) = if x ∈ addK l xs then addK l xs else addK l xs ++ [x] := by
  unfold addK
  rw [List.foldl_append]
  rfl
theorem addK_len {l xs : List Nat} : (addK l xs).length ≤ l.length + xs.length := by
  induction xs generalizing l with
  | nil => exact Nat.le_refl _
  | cons x xs ih =>
    show (addK (if x ∈ l then l else l ++ [x]) xs).length ≤ _
    have := ih (l := if x ∈ l then l else l ++ [x])
    have h2 : (if x ∈ l then l else l ++ [x]).length ≤ l.length + 1 := by
      split
      · omega
      · rw [List.length_append]; exact Nat.le_refl _
    rw [List.length_cons]
    omega
/-- {x: True for x in ..}, the rooms told as often as may be -/
theorem dc_set {J : It} {GG : Hp → Prop} {L : List Nat} {σ : St} {i : Nat} {H1 : Hp} {D : Addr} {Qd : Hp → Prop} (wk : Walk J (L.map vn).length GG (YAt (L.map vn))) (hG : ∀ Hc, Same H1 Hc → GG Hc) (hD : H1 D = none) (hi : i < σ.length) (hsz : L.length ≤ 1000)
    (hd : ∀ H2, Same H1 H2 → DS H2 D (addK [] L) → Qd H2) :
    ∃ W : Nat → Nat → Hp → Prop, (∃ m, W 0 m (upd H1 D (.dK []))) ∧ ∀ k m H, W k m H →
      (J.stop k H ∧ Qd H) ∨ (J.go k H ∧ ∃ Nx : Hp → Prop, (∀ H', Nx H' → ∃ m', m' < m ∧ W (k + 1) m' H') ∧ ∀ x H', J.yld k H x H' → gName i x (wipe σ [i]) H' fun σ2 H2 => wipe σ2 [i] = wipe σ [i] ∧ tYes σ2 H2 fun b H3 =>
        if b = true then tVar i σ2 H3 fun y H4 => tC (.bl true) σ2 H4 fun z H5 => ∃ kvs k, y = kV k ∧ H5 D = some (.dK kvs) ∧ kvs.length < sizeLine ∧ Nx (upd H5 D (.dK (putK kvs k z))) else Nx H3) := by
  have sU : ∀ {H4 : Hp} {o : HO}, Same H1 H4 → Same H1 (upd H4 D o) := fun s b o e => by
    rw [upd_ne (ne_of_none e hD)]
    exact s b o e
  have en : (L.map vn).length = L.length := List.length_map _
  refine ⟨fun k m H => m = L.length - k ∧ k ≤ L.length ∧ Same H1 H ∧ DS H D (addK [] (L.take k)), ⟨L.length, by simp, Nat.zero_le _, sU (.refl _), upd_same⟩, ?_⟩
  rintro k m Hc ⟨rfl, hk1, s, hdk⟩
  have q := hG Hc s
  by_cases hlt : k < L.length
  · refine .inr ⟨wk.goes k Hc (by rw [en]; exact hlt) q, fun H => k + 1 ≤ L.length ∧ Same H1 H ∧ DS H D (addK [] (L.take (k + 1))), fun H' h => ⟨L.length - (k + 1), by omega, rfl, h⟩, fun y H' hy => ?_⟩
    obtain ⟨rfl, hx⟩ := wk.yields k Hc y H' (by rw [en]; exact hlt) q hy
    obtain ⟨x, hx1, rfl⟩ := at_map hx
    have et : L.take (k + 1) = L.take k ++ [x] := by
      rw [List.take_add_one, hx1]
      rfl
    have len := addK_len (l := []) (xs := L.take k)
    rw [List.length_take] at len
    have e2 : ((wipe σ [i]).set i (some (vn x)))[i]? = some (some (vn x)) := by
      show ((σ.set i none).set i (some (vn x)))[i]? = _
      rw [List.getElem?_set_self (by rw [List.length_set]; exact hi)]
    refine ⟨wipe_one, ?_⟩
    unfold tYes
    dsimp only
    rw [if_pos rfl]
    refine ⟨_, e2, _, Sum.inl (x : Int), rfl, hdk, by rw [dk_length]; unfold ts; rw [List.length_map]; exact small1000 (by simp only [List.length_nil] at len; omega), hlt, sU s, ?_⟩
    unfold DS
    rw [upd_same, putK_ts, et, addK_snoc]
  · have e : k = L.length := by omega
    subst e
    rw [List.take_length] at hdk
    exact .inl ⟨by have := wk.stops _ q; rw [en] at this; exact this, hd Hc s hdk⟩
end G

namespace G
open PySem L2 GM
noncomputable def pcAt (ws : List Way) (W : List Nat) (i : Nat) : List Nat × List (List Nat) := (List.range i).foldl (pcStep ws) (addK [] W, [])
theorem pcAt_succ {ws : List Way} {W : List Nat} {i : Nat} : pcAt ws W (i + 1) = pcStep ws (pcAt ws W i) i := by
  unfold pcAt
  rw [List.range_succ, List.foldl_append]
  rfl
theorem hang_mem {ws : List Way} (hw : ∀ w ∈ ws, w.1 < w.2 ∧ w.2 < ws.length + 1) {W : List Nat} {s : Nat} : ∀ x ∈ hang ws W s, x < ws.length + 1 := fun x hx => by
  unfold hang at hx
  exact List.mem_range.mp (List.mem_filter.mp hx).1
theorem hang_len {ws : List Way} {W : List Nat} {s : Nat} : (hang ws W s).length ≤ ws.length + 1 := by
  unfold hang
  refine Nat.le_trans (List.length_filter_le _ _) ?_
  rw [List.length_range]
  exact Nat.le_refl _
theorem pcAt_ok {ws : List Way} (hw : ∀ w ∈ ws, w.1 < w.2 ∧ w.2 < ws.length + 1) {W : List Nat} (hW : ∀ x ∈ W, x < ws.length + 1) : ∀ i, (pcAt ws W i).1.Nodup ∧ (∀ x ∈ (pcAt ws W i).1, x < ws.length + 1) ∧ (pcAt ws W i).2.length ≤ i
  | 0 => ⟨addK_nd List.nodup_nil, fun x hx => hW x ((addK_mem.mp hx).resolve_left fun h => nomatch h), Nat.le_refl _⟩
  | i + 1 => by
    obtain ⟨h1, h2, h3⟩ := pcAt_ok hw hW i
    rw [pcAt_succ]
    unfold pcStep
    by_cases c : i ∈ (pcAt ws W i).1
    · rw [if_pos c]
      exact ⟨h1, h2, by omega⟩
    · rw [if_neg c]
      refine ⟨addK_nd h1, fun x hx => ?_, ?_⟩
      · rcases addK_mem.mp hx with h | h
        · exact h2 x h
        · exact hang_mem hw x h
      · show ((pcAt ws W i).2 ++ [_]).length ≤ i + 1
        rw [List.length_append]
        exact Nat.succ_le_succ h3
section
variable {P : Program} {w : World} {K : PySem.W.Frag} {mg : Str → Option Value} {base : Heap} {C : Addr}
theorem scPcsL : FnScope ["self", "without", "done", "pieces", "room", "piece", "inside"] ["self", "without"] (defScope s_Tree_pieces) := ⟨rfl, rfl, rfl, by decide +kernel, rfl, by decide +kernel, by decide +kernel⟩
theorem ok_pcsL {f : Addr} {fd : FuncData} (F : Fun K "pieces" "Tree.pieces" s_Tree_pieces f fd) (T : TxP K mg C) (L_Tcheck_rooms : CalM P w K mg base C "_check_rooms" 4 ["self", "things"] (spCheckL K C)) (L_Thanging : CalM P w K mg base C "_hanging" 1 ["self", "start", "without"] (spHang C)) : FnOk P w K mg base CX0 5 f fd ["self", "without"] (spPcsL C) := by
  refine F.ok scPcsL (fun vs H Q E h => ?_) (fun cdv A outer s H vs Q E hr h => ?_)
  · obtain ⟨p, l, ws, xs, rfl, _⟩ := h
    rfl
  · obtain ⟨p, l, ws, xs, rfl, TT, hl, hw, hS, hx, nd, q⟩ := h
    have hu := hr.units
    have hu0 := hu_of hr
    refine ⟨_, (pss_cons (ps_if (pt_not (pt_val (pe_callB call_isiT (by rfl) T.isi PyProof.Rows.boot_isinstance (pa_cons (pv 1) (pa_cons (pe_tup (pa_cons (pe_bltn (v := .ty "list") (by rfl) T.list PyProof.Rows.boot_list rfl) (pa_cons (pe_bltn (v := .ty "tuple") (by rfl) T.tup PyProof.Rows.boot_tuple rfl) pa_nil))) pa_nil))))) (pss_one ps_never) pss_nil)
      (pss_cons (ps_expr (L_Tcheck_rooms.pe (hr.mono (by decide)) (pv 0) (pa_cons (pv 1) pa_nil)))
      (pss_cons (ps_setDc (i := 2) (own := [("room", 4)]) (g := gName 4) (tt := tYes) rfl scPcsL.nd rfl rfl (sw_trueD rfl rfl rfl (by decide +kernel)) (pi_list (pv 1)) (blkOk_by (N := ["self", "without", "done", "pieces", "room", "piece", "inside"]) (sc := defScope s_Tree_pieces) (by decide +kernel)) (fun _ _ _ _ _ => pg_name (i := 4) scPcsL.nd rfl (Or.inl rfl)) (fun _ _ _ _ _ => pts_nil) (fun _ _ _ _ _ => (pv 4)) (fun _ _ _ _ _ => pe_bl))
      (pss_cons (ps_set (i := 3) scPcsL.nd rfl (Or.inl rfl) (pe_lst pa_nil))
      (pss_cons (ps_for PassesOwn.never rfl (pi_range1 (by rfl) T.rg (pa_cons (pe_callB call_len_seq (by rfl) T.len PySem.boot_len (pa_cons (pe_fld (pv 0) rfl) pa_nil)) pa_nil)) (pg_name (i := 4) scPcsL.nd rfl (Or.inl rfl))
        (pss_one (ps_if (pt_cmp (pc_dnotin hu0 (pv 4) (pv 2))) (pss_cons (ps_set (i := 5) scPcsL.nd rfl (Or.inl rfl) (L_Thanging.pe (hr.mono (by decide)) (pv 0) (pa_cons (pv 4) (pa_cons (pv 2) pa_nil))))
      (pss_cons (ps_expr (pe_bm PySem.F.plainAttrs_list PySem.F.slot_list_append PySem.F.type_list_append mt_append (pv 3) (pa_cons (pv 5) pa_nil)))
      (pss_one (ps_for PassesOwn.never rfl (pi_list (pv 5)) (pg_name (i := 6) scPcsL.nd rfl (Or.inl rfl))
        (pss_one (ps_dput hu0 (pv 2) (pv 6) pe_bl rfl)))))) pss_nil)))
      (pss_one (ps_ret (pv 3)))))))), ?_⟩
    obtain ⟨dx, lw, lr, h1, h2, ⟨asr, hlr, hPr⟩⟩ := id TT
    have elr : (asr.map V.ref).length = ws.length + 1 := by rw [List.length_map, hPr.1, rows_length]
    refine ⟨_, rfl, (by show 2 ≤ sizeLine; decide), fun tp ntp => ?_⟩
    generalize hB0 : upd _ tp _ = B0
    have s0 : Same H B0 := hB0 ▸ same_new ntp
    have ht0 : B0 tp = some (.tup [V.ty "list", V.ty "tuple"]) := hB0 ▸ upd_same
    refine ⟨_, tp, _, _, _, true, rfl, ht0, .cons (.ty _) (.cons (.ty _) .nil), .base (.lst (s0 _ _ hS)), (by rfl), _, rfl, iteF ?_⟩
    refine ⟨_, rfl, p, dx, _, rfl, s0 _ _ h1, flds_no _ _ k_ch k_ch2, _, rfl, p, ws, l, xs, rfl, TT.same s0, by omega, SqL.of (s0 _ _ hS), hx, ?_⟩
    refine ⟨_, rfl, l, rfl, ⟨_, SqL.of (s0 _ _ hS)⟩, fun D nD => ?_⟩
    refine dc_set (σ := [some (.ref p), some (.ref l), none, none, none, none, none]) (i := 4) (walk_list (K := K) (a := l) (xs := xs.map vn)) (fun Hc s => SqL.of (s _ _ (s0 _ _ hS))) nD (by show 4 < 7; decide) (by omega) (fun H2 s2 hD => ?_)
    have s02 := s0.trans s2
    have nDH : H D = none := s0.free nD
    refine ⟨(by show 0 ≤ sizeLine; decide), fun PL nP => ?_⟩
    generalize hB3 : upd _ PL _ = B3
    have s3 : Same H2 B3 := hB3 ▸ same_new nP
    have hP3 : B3 PL = some (.lst []) := hB3 ▸ upd_same
    have nPH : H PL = none := s02.free nP
    have DP : D ≠ PL := ne_of_none hD nP
    have s03 := s02.trans s3
    refine ⟨_, rfl, p, C, dx, _, _, rfl, s03 _ _ h1, T.cl, T.nR, flds_rows _ _, lr, _, rfl, .inl (SqL.of (s03 _ _ hlr)), ((ws.length + 1 : Nat) : Int), (by rw [elr]), by omega, by omega, for_range (lo := 0) (n := (((ws.length + 1 : Nat) : Int)).toNat) (fun i σ Hc => ∃ v4 v5 v6 as, σ = [some (.ref p), some (.ref l), some (.ref D), some (.ref PL), v4, v5, v6] ∧ Same H Hc ∧ DS Hc D (pcAt ws xs i).1 ∧ Hc PL = some (.lst (as.map V.ref)) ∧ Lists Hc as (pcAt ws xs i).2 ∧ ∀ a ∈ as, H a = none ∧ a ≠ D ∧ a ≠ PL)
      ⟨none, none, none, [], rfl, s03, hD.same s3, hP3, ⟨rfl, fun i a h => by simp at h⟩, fun a h => nomatch h⟩ ?_ ?_⟩
    · rintro i σ Hc hi ⟨v4, v5, v6, as, rfl, sc, hDc, hPc, hLc, has⟩
      have hi2 : i < ws.length + 1 := by omega
      obtain ⟨ndW, ltW, lenA⟩ := pcAt_ok hw hx i
      have ez : (0 : Int) + (i : Int) = ((i : Nat) : Int) := by omega
      rw [ez]
      refine ⟨_, rfl, _, rfl, D, _, rfl, DGet.k (k := Sum.inl (i : Int)) hDc, ?_⟩
      rw [valV_ts]
      by_cases c : i ∈ (pcAt ws xs i).1
      · rw [if_pos c]
        have e1 : pcAt ws xs (i + 1) = pcAt ws xs i := by
          rw [pcAt_succ]
          unfold pcStep
          rw [if_pos c]
        refine ⟨_, rfl, iteF ⟨_, _, _, as, rfl, sc, ?_, hPc, ?_, has⟩⟩
        · rw [e1]; exact hDc
        · rw [e1]; exact hLc
      · rw [if_neg c]
        have e1 : pcAt ws xs (i + 1) = (addK (pcAt ws xs i).1 (hang ws (pcAt ws xs i).1 i), (pcAt ws xs i).2 ++ [hang ws (pcAt ws xs i).1 i]) := by
          rw [pcAt_succ]
          unfold pcStep
          rw [if_neg c]
        refine ⟨_, rfl, iteT ?_⟩
        refine ⟨_, rfl, p, dx, _, rfl, sc _ _ h1, flds_no _ _ k_hg k_hg2, _, rfl, _, rfl, p, D, i, ws, (pcAt ws xs i).1, rfl, TT.same sc, hl, hw, hi2, hDc, fun H6 hq s6 n6 hh => ?_⟩
        have pclt := hang_mem hw (W := (pcAt ws xs i).1) (s := i)
        have pclen := hang_len (ws := ws) (W := (pcAt ws xs i).1) (s := i)
        generalize hang ws (pcAt ws xs i).1 i = pc at e1 hh pclt pclen
        generalize pcAt ws xs i = st at e1 ndW ltW lenA c hDc hLc hh
        have s06 := sc.trans s6
        have hP6 := s6 _ _ hPc
        have hD6 := hDc.same s6
        have qD : hq ≠ D := (ne_of_none hDc n6).symm
        have qP : hq ≠ PL := (ne_of_none hPc n6).symm
        have aslen : as.length ≤ 100 := by rw [hLc.1]; omega
        refine ⟨_, rfl, .inl ⟨rfl, _, SqL.of hP6⟩, _, rfl, PL, _, _, rfl, rfl, hP6, by rw [List.length_map]; exact small1000 (by omega), ?_⟩
        generalize hB7 : upd _ PL _ = H7
        have hP7 : H7 PL = some (.lst (as.map V.ref ++ [V.ref hq])) := hB7 ▸ upd_same
        have o7 : ∀ b, b ≠ PL → H7 b = H6 b := fun b n => by rw [← hB7, upd_ne n]
        have hD7 : DS H7 D st.1 := (o7 D DP).trans hD6
        have hq7 : NL H7 hq pc := (o7 hq qP).trans hh
        have s07 : Same H H7 := fun b o e => by
          rw [o7 b (ne_of_none e nPH)]
          exact s06 _ _ e
        refine ⟨_, rfl, hq, rfl, ⟨_, SqL.of hq7⟩, for_list (K := K) (a := hq) (xs := pc.map vn) (fun j σ Hd => ∃ v6, σ = [some (.ref p), some (.ref l), some (.ref D), some (.ref PL), some (vn i), some (.ref hq), v6] ∧ Same (rm H7 D) (rm Hd D) ∧ DS Hd D (addK st.1 (pc.take j)))
          ⟨v6, rfl, .refl _, hD7⟩ (fun j σ Hd _ ⟨_, _, sd, _⟩ => SqL.of (rm_some (sd _ _ (by rw [rm_ne qD]; exact hq7))).2) ?_ ?_⟩
        · rintro j y σ Hd hj ⟨v6, rfl, sd, hDd⟩
          obtain ⟨r, hr0, rfl⟩ := at_map hj
          have etk : pc.take (j + 1) = pc.take j ++ [r] := by
            rw [List.take_add_one, hr0]
            rfl
          have lenD : (addK st.1 (pc.take j)).length ≤ 200 := by
            have a1 := addK_len (l := st.1) (xs := pc.take j)
            have a2 := nd_len (ws := ws) ndW ltW
            rw [List.length_take] at a1
            omega
          refine ⟨_, rfl, _, rfl, D, _, rfl, DPut.k (k := Sum.inl (r : Int)) hDd (by rw [dk_length]; unfold ts; rw [List.length_map]; exact small1000 (by omega)), ?_⟩
          rw [putK_ts]
          refine ⟨_, rfl, ?_, ?_⟩
          · rw [rm_upd]
            exact sd
          · unfold DS
            rw [upd_same, etk, addK_snoc]
        · rintro σ Hd ⟨v6, rfl, sd, hDd⟩
          rw [List.length_map, List.take_length] at hDd
          have of : ∀ b o, H7 b = some o → b ≠ D → Hd b = some o := fun b o e n => (rm_some (sd b o (by rw [rm_ne n]; exact e))).2
          refine ⟨_, _, _, as ++ [hq], rfl, fun b o e => of b o (s07 _ _ e) (ne_of_none e nDH), ?_, ?_, ?_, fun a ha => ?_⟩
          · rw [e1]
            exact hDd
          · rw [List.map_append]
            exact of _ _ hP7 DP.symm
          · rw [e1]
            refine ⟨by rw [List.length_append, List.length_append, hLc.1]; rfl, fun k a ha => ?_⟩
            by_cases hk : k < as.length
            · rw [List.getElem?_append_left hk] at ha
              have am := has a (List.mem_of_getElem? ha)
              have e2 : (st.2 ++ [pc]).getD k [] = st.2.getD k [] := by
                rw [List.getD_eq_getElem?_getD, List.getD_eq_getElem?_getD, List.getElem?_append_left (by rw [← hLc.1]; exact hk)]
              show NL Hd a ((st.2 ++ [pc]).getD k [])
              rw [e2]
              refine of _ _ ?_ am.2.1
              rw [o7 a am.2.2]
              exact (hLc.2 k a ha).same s6
            · rw [List.getElem?_append_right (by omega)] at ha
              have e0 : k - as.length = 0 := by
                have := (List.getElem?_eq_some_iff.mp ha).1
                simp only [List.length_cons, List.length_nil] at this
                omega
              rw [e0] at ha
              cases ha
              have e2 : (st.2 ++ [pc]).getD k [] = pc := by
                have := hLc.1
                rw [List.getD_eq_getElem?_getD, List.getElem?_append_right (by omega), show k - st.2.length = 0 by omega]
                rfl
              show NL Hd hq ((st.2 ++ [pc]).getD k [])
              rw [e2]
              exact of _ _ hq7 qD
          · rcases List.mem_append.mp ha with h | h
            · exact has a h
            · rw [List.mem_singleton.mp h]
              exact ⟨sc.free n6, qD, qP⟩
    · rintro σ Hc ⟨v4, v5, v6, as, rfl, sc, hDc, hPc, hLc, has⟩
      have hn : (((ws.length + 1 : Nat) : Int)).toNat = ws.length + 1 := by omega
      rw [hn] at hLc
      refine ⟨_, rfl, q Hc PL sc nPH ⟨as, ?_, hLc.1, fun j a ha => ?_⟩⟩
      · rw [only_new nPH]
        exact hPc
      · unfold NL
        rw [only_new (has a (List.mem_of_getElem? ha)).1]
        exact hLc.2 j a ha
end
end G

namespace G
open PySem L2 GM
section
variable {P : Program} {w : World} {K : PySem.W.Frag} {mg : Str → Option Value} {base : Heap} {C fR : Addr} {dR : FuncData}
theorem ok_chkT {f : Addr} {fd : FuncData} (F : Fun K "_check_rooms" "Tree._check_rooms" s_Tree__check_rooms f fd) (L : CalR P w K mg base C fR dR) : FnOk P w K mg base CX0 4 f fd ["self", "things"] (spCheckT K C) := by
  refine F.ok scChk (fun vs H Q E h => ?_) (fun cdv A outer s H vs Q E hr h => ?_)
  · obtain ⟨p, ws, l, xs, rfl, _⟩ := h
    rfl
  · obtain ⟨p, ws, l, xs, rfl, TT, hl, hS, hx, q⟩ := h
    refine ⟨_, pss_one (ps_for PassesOwn.never rfl (pi_tup (pv 1)) (pg_name (i := 2) scChk.nd rfl (Or.inl rfl))
      (pss_one (ps_if (pt_not (pt_val (pe_call L.oR hr rfl L.gR L.kR L.bR .nil pass0 (pa_cons (pv 0) (pa_cons (pv 2) pa_nil))))) (pss_one ps_never) pss_nil))), ?_⟩
    refine ⟨_, rfl, l, rfl, ⟨_, hS⟩, for_tup (K := K) (a := l) (xs := xs.map vn) (fun i σ Hc => ∃ v, σ = [some (.ref p), some (.ref l), v] ∧ Hc = H) ⟨none, rfl, rfl⟩ (fun i σ Hc _ ⟨_, _, e⟩ => e ▸ hS) ?_ ?_⟩
    · rintro i y σ Hc hi ⟨v, rfl, rfl⟩
      obtain ⟨x, hx1, rfl⟩ : ∃ x, x ∈ xs ∧ y = vn x := by
        rw [List.getElem?_map] at hi
        cases e : xs[i]? with
        | none => rw [e] at hi; cases hi
        | some x => rw [e] at hi; exact ⟨x, List.mem_of_getElem? e, (Option.some.inj hi).symm⟩
      have lx := hx x hx1
      refine ⟨_, rfl, _, rfl, p, ws, _, rfl, TT, hl, .inl ⟨_, rfl, _, rfl, ?_⟩⟩
      have e : (decide (0 ≤ (x : Int)) && decide ((x : Int) < ((ws.length + 1 : Nat) : Int))) = true := by
        rw [decide_eq_true (Int.natCast_nonneg x), decide_eq_true (Int.ofNat_lt.mpr lx)]
        rfl
      rw [e]
      exact iteF ⟨_, rfl, rfl⟩
    · rintro σ Hc ⟨v, rfl, rfl⟩
      exact q
theorem scPcsT : FnScope ["self", "without", "done", "pieces", "room", "piece", "inside"] ["self", "without"] (defScope s_Tree_pieces) := ⟨rfl, rfl, rfl, by decide +kernel, rfl, by decide +kernel, by decide +kernel⟩
theorem ok_pcsT {f : Addr} {fd : FuncData} (F : Fun K "pieces" "Tree.pieces" s_Tree_pieces f fd) (T : TxP K mg C) (L_Tcheck_rooms : CalM P w K mg base C "_check_rooms" 4 ["self", "things"] (spCheckT K C)) (L_Thanging : CalM P w K mg base C "_hanging" 1 ["self", "start", "without"] (spHang C)) : FnOk P w K mg base CX0 5 f fd ["self", "without"] (spPcsT C) := by
  refine F.ok scPcsT (fun vs H Q E h => ?_) (fun cdv A outer s H vs Q E hr h => ?_)
  · obtain ⟨p, l, ws, xs, rfl, _⟩ := h
    rfl
  · obtain ⟨p, l, ws, xs, rfl, TT, hl, hw, hS, hx, nd, q⟩ := h
    have hu := hr.units
    have hu0 := hu_of hr
    refine ⟨_, (pss_cons (ps_if (pt_not (pt_val (pe_callB call_isiT (by rfl) T.isi PyProof.Rows.boot_isinstance (pa_cons (pv 1) (pa_cons (pe_tup (pa_cons (pe_bltn (v := .ty "list") (by rfl) T.list PyProof.Rows.boot_list rfl) (pa_cons (pe_bltn (v := .ty "tuple") (by rfl) T.tup PyProof.Rows.boot_tuple rfl) pa_nil))) pa_nil))))) (pss_one ps_never) pss_nil)
      (pss_cons (ps_expr (L_Tcheck_rooms.pe (hr.mono (by decide)) (pv 0) (pa_cons (pv 1) pa_nil)))
      (pss_cons (ps_setDc (i := 2) (own := [("room", 4)]) (g := gName 4) (tt := tYes) rfl scPcsT.nd rfl rfl (sw_trueD rfl rfl rfl (by decide +kernel)) (pi_tup (pv 1)) (blkOk_by (N := ["self", "without", "done", "pieces", "room", "piece", "inside"]) (sc := defScope s_Tree_pieces) (by decide +kernel)) (fun _ _ _ _ _ => pg_name (i := 4) scPcsT.nd rfl (Or.inl rfl)) (fun _ _ _ _ _ => pts_nil) (fun _ _ _ _ _ => (pv 4)) (fun _ _ _ _ _ => pe_bl))
      (pss_cons (ps_set (i := 3) scPcsT.nd rfl (Or.inl rfl) (pe_lst pa_nil))
      (pss_cons (ps_for PassesOwn.never rfl (pi_range1 (by rfl) T.rg (pa_cons (pe_callB call_len_seq (by rfl) T.len PySem.boot_len (pa_cons (pe_fld (pv 0) rfl) pa_nil)) pa_nil)) (pg_name (i := 4) scPcsT.nd rfl (Or.inl rfl))
        (pss_one (ps_if (pt_cmp (pc_dnotin hu0 (pv 4) (pv 2))) (pss_cons (ps_set (i := 5) scPcsT.nd rfl (Or.inl rfl) (L_Thanging.pe (hr.mono (by decide)) (pv 0) (pa_cons (pv 4) (pa_cons (pv 2) pa_nil))))
      (pss_cons (ps_expr (pe_bm PySem.F.plainAttrs_list PySem.F.slot_list_append PySem.F.type_list_append mt_append (pv 3) (pa_cons (pv 5) pa_nil)))
      (pss_one (ps_for PassesOwn.never rfl (pi_list (pv 5)) (pg_name (i := 6) scPcsT.nd rfl (Or.inl rfl))
        (pss_one (ps_dput hu0 (pv 2) (pv 6) pe_bl rfl)))))) pss_nil)))
      (pss_one (ps_ret (pv 3)))))))), ?_⟩
    obtain ⟨dx, lw, lr, h1, h2, ⟨asr, hlr, hPr⟩⟩ := id TT
    have elr : (asr.map V.ref).length = ws.length + 1 := by rw [List.length_map, hPr.1, rows_length]
    refine ⟨_, rfl, (by show 2 ≤ sizeLine; decide), fun tp ntp => ?_⟩
    generalize hB0 : upd _ tp _ = B0
    have s0 : Same H B0 := hB0 ▸ same_new ntp
    have ht0 : B0 tp = some (.tup [V.ty "list", V.ty "tuple"]) := hB0 ▸ upd_same
    refine ⟨_, tp, _, _, _, true, rfl, ht0, .cons (.ty _) (.cons (.ty _) .nil), .base (.tup (s0 _ _ hS)), (by rfl), _, rfl, iteF ?_⟩
    refine ⟨_, rfl, p, dx, _, rfl, s0 _ _ h1, flds_no _ _ k_ch k_ch2, _, rfl, p, ws, l, xs, rfl, TT.same s0, by omega, SqT.of (s0 _ _ hS), hx, ?_⟩
    refine ⟨_, rfl, l, rfl, ⟨_, SqT.of (s0 _ _ hS)⟩, fun D nD => ?_⟩
    refine dc_set (σ := [some (.ref p), some (.ref l), none, none, none, none, none]) (i := 4) (walk_tup (K := K) (a := l) (xs := xs.map vn)) (fun Hc s => SqT.of (s _ _ (s0 _ _ hS))) nD (by show 4 < 7; decide) (by omega) (fun H2 s2 hD => ?_)
    have s02 := s0.trans s2
    have nDH : H D = none := s0.free nD
    refine ⟨(by show 0 ≤ sizeLine; decide), fun PL nP => ?_⟩
    generalize hB3 : upd _ PL _ = B3
    have s3 : Same H2 B3 := hB3 ▸ same_new nP
    have hP3 : B3 PL = some (.lst []) := hB3 ▸ upd_same
    have nPH : H PL = none := s02.free nP
    have DP : D ≠ PL := ne_of_none hD nP
    have s03 := s02.trans s3
    refine ⟨_, rfl, p, C, dx, _, _, rfl, s03 _ _ h1, T.cl, T.nR, flds_rows _ _, lr, _, rfl, .inl (SqL.of (s03 _ _ hlr)), ((ws.length + 1 : Nat) : Int), (by rw [elr]), by omega, by omega, for_range (lo := 0) (n := (((ws.length + 1 : Nat) : Int)).toNat) (fun i σ Hc => ∃ v4 v5 v6 as, σ = [some (.ref p), some (.ref l), some (.ref D), some (.ref PL), v4, v5, v6] ∧ Same H Hc ∧ DS Hc D (pcAt ws xs i).1 ∧ Hc PL = some (.lst (as.map V.ref)) ∧ Lists Hc as (pcAt ws xs i).2 ∧ ∀ a ∈ as, H a = none ∧ a ≠ D ∧ a ≠ PL)
      ⟨none, none, none, [], rfl, s03, hD.same s3, hP3, ⟨rfl, fun i a h => by simp at h⟩, fun a h => nomatch h⟩ ?_ ?_⟩
    · rintro i σ Hc hi ⟨v4, v5, v6, as, rfl, sc, hDc, hPc, hLc, has⟩
      have hi2 : i < ws.length + 1 := by omega
      obtain ⟨ndW, ltW, lenA⟩ := pcAt_ok hw hx i
      have ez : (0 : Int) + (i : Int) = ((i : Nat) : Int) := by omega
      rw [ez]
      refine ⟨_, rfl, _, rfl, D, _, rfl, DGet.k (k := Sum.inl (i : Int)) hDc, ?_⟩
      rw [valV_ts]
      by_cases c : i ∈ (pcAt ws xs i).1
      · rw [if_pos c]
        have e1 : pcAt ws xs (i + 1) = pcAt ws xs i := by
          rw [pcAt_succ]
          unfold pcStep
          rw [if_pos c]
        refine ⟨_, rfl, iteF ⟨_, _, _, as, rfl, sc, ?_, hPc, ?_, has⟩⟩
        · rw [e1]; exact hDc
        · rw [e1]; exact hLc
      · rw [if_neg c]
        have e1 : pcAt ws xs (i + 1) = (addK (pcAt ws xs i).1 (hang ws (pcAt ws xs i).1 i), (pcAt ws xs i).2 ++ [hang ws (pcAt ws xs i).1 i]) := by
          rw [pcAt_succ]
          unfold pcStep
          rw [if_neg c]
        refine ⟨_, rfl, iteT ?_⟩
        refine ⟨_, rfl, p, dx, _, rfl, sc _ _ h1, flds_no _ _ k_hg k_hg2, _, rfl, _, rfl, p, D, i, ws, (pcAt ws xs i).1, rfl, TT.same sc, hl, hw, hi2, hDc, fun H6 hq s6 n6 hh => ?_⟩
        have pclt := hang_mem hw (W := (pcAt ws xs i).1) (s := i)
        have pclen := hang_len (ws := ws) (W := (pcAt ws xs i).1) (s := i)
        generalize hang ws (pcAt ws xs i).1 i = pc at e1 hh pclt pclen
        generalize pcAt ws xs i = st at e1 ndW ltW lenA c hDc hLc hh
        have s06 := sc.trans s6
        have hP6 := s6 _ _ hPc
        have hD6 := hDc.same s6
        have qD : hq ≠ D := (ne_of_none hDc n6).symm
        have qP : hq ≠ PL := (ne_of_none hPc n6).symm
        have aslen : as.length ≤ 100 := by rw [hLc.1]; omega
        refine ⟨_, rfl, .inl ⟨rfl, _, SqL.of hP6⟩, _, rfl, PL, _, _, rfl, rfl, hP6, by rw [List.length_map]; exact small1000 (by omega), ?_⟩
        generalize hB7 : upd _ PL _ = H7
        have hP7 : H7 PL = some (.lst (as.map V.ref ++ [V.ref hq])) := hB7 ▸ upd_same
        have o7 : ∀ b, b ≠ PL → H7 b = H6 b := fun b n => by rw [← hB7, upd_ne n]
        have hD7 : DS H7 D st.1 := (o7 D DP).trans hD6
        have hq7 : NL H7 hq pc := (o7 hq qP).trans hh
        have s07 : Same H H7 := fun b o e => by
          rw [o7 b (ne_of_none e nPH)]
          exact s06 _ _ e
        refine ⟨_, rfl, hq, rfl, ⟨_, SqL.of hq7⟩, for_list (K := K) (a := hq) (xs := pc.map vn) (fun j σ Hd => ∃ v6, σ = [some (.ref p), some (.ref l), some (.ref D), some (.ref PL), some (vn i), some (.ref hq), v6] ∧ Same (rm H7 D) (rm Hd D) ∧ DS Hd D (addK st.1 (pc.take j)))
          ⟨v6, rfl, .refl _, hD7⟩ (fun j σ Hd _ ⟨_, _, sd, _⟩ => SqL.of (rm_some (sd _ _ (by rw [rm_ne qD]; exact hq7))).2) ?_ ?_⟩
        · rintro j y σ Hd hj ⟨v6, rfl, sd, hDd⟩
          obtain ⟨r, hr0, rfl⟩ := at_map hj
          have etk : pc.take (j + 1) = pc.take j ++ [r] := by
            rw [List.take_add_one, hr0]
            rfl
          have lenD : (addK st.1 (pc.take j)).length ≤ 200 := by
            have a1 := addK_len (l := st.1) (xs := pc.take j)
            have a2 := nd_len (ws := ws) ndW ltW
            rw [List.length_take] at a1
            omega
          refine ⟨_, rfl, _, rfl, D, _, rfl, DPut.k (k := Sum.inl (r : Int)) hDd (by rw [dk_length]; unfold ts; rw [List.length_map]; exact small1000 (by omega)), ?_⟩
          rw [putK_ts]
          refine ⟨_, rfl, ?_, ?_⟩
          · rw [rm_upd]
            exact sd
          · unfold DS
            rw [upd_same, etk, addK_snoc]
        · rintro σ Hd ⟨v6, rfl, sd, hDd⟩
          rw [List.length_map, List.take_length] at hDd
          have of : ∀ b o, H7 b = some o → b ≠ D → Hd b = some o := fun b o e n => (rm_some (sd b o (by rw [rm_ne n]; exact e))).2
          refine ⟨_, _, _, as ++ [hq], rfl, fun b o e => of b o (s07 _ _ e) (ne_of_none e nDH), ?_, ?_, ?_, fun a ha => ?_⟩
          · rw [e1]
            exact hDd
          · rw [List.map_append]
            exact of _ _ hP7 DP.symm
          · rw [e1]
            refine ⟨by rw [List.length_append, List.length_append, hLc.1]; rfl, fun k a ha => ?_⟩
            by_cases hk : k < as.length
            · rw [List.getElem?_append_left hk] at ha
              have am := has a (List.mem_of_getElem? ha)
              have e2 : (st.2 ++ [pc]).getD k [] = st.2.getD k [] := by
                rw [List.getD_eq_getElem?_getD, List.getD_eq_getElem?_getD, List.getElem?_append_left (by rw [← hLc.1]; exact hk)]
              show NL Hd a ((st.2 ++ [pc]).getD k [])
              rw [e2]
              refine of _ _ ?_ am.2.1
              rw [o7 a am.2.2]
              exact (hLc.2 k a ha).same s6
            · rw [List.getElem?_append_right (by omega)] at ha
              have e0 : k - as.length = 0 := by
                have := (List.getElem?_eq_some_iff.mp ha).1
                simp only [List.length_cons, List.length_nil] at this
                omega
              rw [e0] at ha
              cases ha
              have e2 : (st.2 ++ [pc]).getD k [] = pc := by
                have := hLc.1
                rw [List.getD_eq_getElem?_getD, List.getElem?_append_right (by omega), show k - st.2.length = 0 by omega]
                rfl
              show NL Hd hq ((st.2 ++ [pc]).getD k [])
              rw [e2]
              exact of _ _ hq7 qD
          · rcases List.mem_append.mp ha with h | h
            · exact has a h
            · rw [List.mem_singleton.mp h]
              exact ⟨sc.free n6, qD, qP⟩
    · rintro σ Hc ⟨v4, v5, v6, as, rfl, sc, hDc, hPc, hLc, has⟩
      have hn : (((ws.length + 1 : Nat) : Int)).toNat = ws.length + 1 := by omega
      rw [hn] at hLc
      refine ⟨_, rfl, q Hc PL sc nPH ⟨as, ?_, hLc.1, fun j a ha => ?_⟩⟩
      · rw [only_new nPH]
        exact hPc
      · unfold NL
        rw [only_new (has a (List.mem_of_getElem? ha)).1]
        exact hLc.2 j a ha
end
end G

namespace G
open PySem L2 GM
def spHangL : Sp := fun vs H Q _ => ∃ (q d : Addr) (s : Nat) (ws : List Way) (W : List Nat), vs = [.ref q, vn s, .ref d] ∧ LL H q (rows ws) ∧ ws.length ≤ 59 ∧ (∀ w ∈ ws, w.1 < w.2 ∧ w.2 < ws.length + 1) ∧ s < ws.length + 1 ∧ NL H d W ∧ ∀ H' r, Same H H' → H r = none → NL H' r (hang ws W s) → Q (.ref r) H'
def bit (W F : List Nat) (x : Nat) : V := .int (if x ∈ W ∨ x ∈ F then 1 else 0)
def bits (n : Nat) (W F : List Nat) : List V := (List.range n).map (bit W F)
theorem bits_at {n : Nat} {W F : List Nat} {x : Nat} (h : x < n) : (bits n W F)[x]? = some (bit W F x) := by
  unfold bits
  rw [List.getElem?_map, List.getElem?_range h]
  rfl
theorem bits_set {n : Nat} {W F : List Nat} {x : Nat} : (bits n W F).set x (.int 1) = bits n W (F ++ [x]) := by
  apply List.ext_getElem?
  intro i
  by_cases h : i < n
  · rw [bits_at h]
    by_cases e : x = i
    · subst e
      rw [List.getElem?_set_self (by unfold bits; rw [List.length_map, List.length_range]; exact h)]
      unfold bit
      rw [if_pos (.inr (List.mem_append_right _ (List.mem_singleton_self _)))]
    · rw [List.getElem?_set_ne e, bits_at h]
      unfold bit
      have : (i ∈ W ∨ i ∈ F ++ [x]) ↔ (i ∈ W ∨ i ∈ F) := by
        rw [List.mem_append, List.mem_singleton]
        exact ⟨fun z => z.elim .inl (fun z => z.elim .inr (fun z => absurd z.symm e)), fun z => z.elim .inl (fun z => .inr (.inl z))⟩
      by_cases c : i ∈ W ∨ i ∈ F
      · rw [if_pos c, if_pos (this.mpr c)]
      · rw [if_neg c, if_neg (fun z => c (this.mp z))]
  · rw [List.getElem?_eq_none (by rw [List.length_set]; unfold bits; rw [List.length_map, List.length_range]; omega), List.getElem?_eq_none (by unfold bits; rw [List.length_map, List.length_range]; omega)]
theorem ixN_nat {n s : Nat} (h : s < n) : ixN n (s : Int) = some s := by
  unfold ixN
  rw [if_pos (Int.natCast_nonneg s), if_pos (Int.ofNat_lt.mpr h)]
  rfl
theorem bits_len {n : Nat} {W F : List Nat} : (bits n W F).length = n := by
  unfold bits
  rw [List.length_map, List.length_range]
section
variable {P : Program} {w : World} {K : PySem.W.Frag} {mg : Str → Option Value} {base : Heap} {C : Addr}
theorem scLhang : FnScope ["near", "room", "without", "found", "seen", "waiting", "one", "other"] ["near", "room", "without"] (defScope s__law_hanging) := ⟨rfl, rfl, rfl, by decide +kernel, rfl, by decide +kernel, by decide +kernel⟩
theorem ok_lhang {f : Addr} {fd : FuncData} (F : Fun K "_law_hanging" "_law_hanging" s__law_hanging f fd) (T : TxP K mg C) : FnOk P w K mg base CX0 1 f fd ["near", "room", "without"] spHangL := by
  refine F.ok scLhang (fun vs H Q E h => ?_) (fun cdv A outer s H vs Q E hr h => ?_)
  · obtain ⟨q, d, s, ws, W, rfl, _⟩ := h
    rfl
  · obtain ⟨q, d, s, ws, W, rfl, hq, hl, hw, hs, hd, k⟩ := h
    have hu := hr.units
    refine ⟨_, (pss_cons (ps_set (i := 3) scLhang.nd rfl (Or.inl rfl) (pe_lst (pa_cons (pv 1) pa_nil)))
      (pss_cons (ps_setLc (i := 4) (own := [("one", 6)]) (g := gName 6) (tt := tYes) rfl scLhang.nd rfl rfl (sw_true rfl rfl rfl (by decide +kernel)) (pi_range1 (by rfl) T.rg (pa_cons (pe_callB call_len_seq (by rfl) T.len PySem.boot_len (pa_cons (pv 0) pa_nil)) pa_nil)) (blkOk_by (N := ["near", "room", "without", "found", "seen", "waiting", "one", "other"]) (sc := defScope s__law_hanging) (by decide +kernel)) (fun _ _ _ _ _ => pg_name (i := 6) scLhang.nd rfl (Or.inl rfl)) (fun _ _ _ _ _ => pts_nil) (fun _ _ _ _ _ => (pe_callTy call_int1 (by rfl) T.int PyProof.Rows.boot_int (pa_cons (pe_cmpR (r := rIn K false) op_in_seq (pv 6) (pv 2) rfl) pa_nil))))
      (pss_cons (ps_asg pe_int (pg_sub (pv 4) (pv 1) set_list))
      (pss_cons (ps_set (i := 5) scLhang.nd rfl (Or.inl rfl) (pe_lst (pa_cons (pv 1) pa_nil)))
      (pss_cons (ps_while PassesOwn.never (pt_cmpR (op_neD hu) (pv 5) (pe_lst pa_nil) (nomark _))
        (pss_cons (ps_set (i := 6) scLhang.nd rfl (Or.inl rfl) (pe_bm0 PySem.F.plainAttrs_list PySem.F.slot_list_pop PySem.F.type_list_pop mt_pop (pv 5)))
      (pss_one (ps_for PassesOwn.never rfl (pi_list (pe_ix ix_list (pv 0) (pv 6) (fun _ _ => rfl))) (pg_name (i := 7) scLhang.nd rfl (Or.inl rfl))
        (pss_one (ps_if (pt_cmpR op_eq (pe_ix ix_list (pv 4) (pv 7) (fun _ _ => rfl)) pe_int (nomark _)) (pss_cons (ps_asg pe_int (pg_sub (pv 4) (pv 7) set_list))
      (pss_cons (ps_expr (pe_bm PySem.F.plainAttrs_list PySem.F.slot_list_append PySem.F.type_list_append mt_append (pv 3) (pa_cons (pv 7) pa_nil)))
      (pss_one (ps_expr (pe_bm PySem.F.plainAttrs_list PySem.F.slot_list_append PySem.F.type_list_append mt_append (pv 5) (pa_cons (pv 7) pa_nil)))))) pss_nil))))))
      (pss_one (ps_ret (pe_callB cr_sortedI (by rfl) T.srt PyProof.Rows.boot_sorted (pa_cons (pv 3) pa_nil))))))))), ?_⟩
    obtain ⟨asr, hqa, hPr⟩ := id hq
    have elr : (asr.map V.ref).length = ws.length + 1 := by rw [List.length_map, hPr.1, rows_length]
    refine ⟨_, rfl, (by show 1 ≤ sizeLine; decide), fun FD nF => ?_⟩
    generalize hB : upd _ FD _ = B
    have s1 : Same H B := hB ▸ same_new nF
    have hF0 : NL B FD [s] := hB ▸ upd_same
    refine ⟨_, rfl, q, _, rfl, .inl (SqL.of (s1 _ _ hqa)), ((ws.length + 1 : Nat) : Int), (by rw [elr]), by omega, by omega, fun SN nS => ?_⟩
    refine lc_range (lo := 0) (n := (((ws.length + 1 : Nat) : Int)).toNat) (fun j Hc => Same B Hc ∧ Hc SN = some (.lst (bits j W []))) ⟨same_new nS, upd_same⟩ ?_ ?_
    · rintro j Hc hj ⟨sc, hSN⟩
      have ez : (0 : Int) + (j : Int) = ((j : Nat) : Int) := by omega
      rw [ez]
      refine ⟨rfl, _, rfl, _, rfl, d, _, rfl, .inl (SqL.of (sc _ _ (s1 _ _ hd))), rfl, flat_vn2 W, .inr ⟨_, rfl, _, hSN, by rw [bits_len]; exact small1000 (by omega), fun b o e => ?_, ?_⟩⟩
      · rw [upd_ne (ne_of_none e nS)]
        exact sc b o e
      · rw [upd_same]
        have e : bits (j + 1) W [] = bits j W [] ++ [bit W [] j] := by
          unfold bits
          rw [List.range_succ, List.map_append]
          rfl
        rw [e]
        unfold bit
        rw [show (if false = true then (!inV (vn j) (W.map vn)) else inV (vn j) (W.map vn)) = decide (j ∈ W) from inV_vn2]
        by_cases c : j ∈ W
        · rw [decide_eq_true c, if_pos (Or.inl c)]
          rfl
        · rw [decide_eq_false c, if_neg (show ¬ (j ∈ W ∨ j ∈ ([] : List Nat)) from fun z => z.elim c (fun z => nomatch z))]
          rfl
    · rintro H2 ⟨s2, hSN⟩
      have hn : (((ws.length + 1 : Nat) : Int)).toNat = ws.length + 1 := by omega
      rw [hn] at hSN
      have s12 := s1.trans s2
      have nFH : H FD = none := nF
      have nSH : H SN = none := s1.free nS
      have FS : FD ≠ SN := ne_of_none hF0 nS
      refine ⟨_, rfl, _, rfl, SN, _, _, s, rfl, rfl, hSN, by rw [bits_len]; exact ixN_nat hs, ?_⟩
      rw [bits_set, List.nil_append]
      generalize hB3 : upd _ SN _ = B3
      have hS3 : B3 SN = some (.lst (bits (ws.length + 1) W [s])) := hB3 ▸ upd_same
      have hF3 : NL B3 FD [s] := by
        unfold NL
        rw [← hB3, upd_ne FS]
        exact s2 _ _ hF0
      have s3 : Same H B3 := fun b o e => by
        rw [← hB3, upd_ne (ne_of_none e nSH)]
        exact s12 _ _ e
      refine ⟨_, rfl, (by show 1 ≤ sizeLine; decide), fun WD nW => ?_⟩
      generalize hB4 : upd _ WD _ = B4
      have s34 : Same B3 B4 := hB4 ▸ same_new nW
      have hW4 : NL B4 WD [s] := hB4 ▸ upd_same
      have nWH : H WD = none := s3.free nW
      have FW : FD ≠ WD := ne_of_none hF3 nW
      have SW : SN ≠ WD := ne_of_none hS3 nW
      have fltn : ∀ x, Hg (nb (rows ws)) W s x → x < ws.length + 1 := fun x h => hang_lt hw hs h
      refine while_by (fun σ Hc => ∃ (F L : List Nat) (v6 v7 : Option V), σ = [some (.ref q), some (vn s), some (.ref d), some (.ref FD), some (.ref SN), some (.ref WD), v6, v7] ∧ Same H Hc ∧ NL Hc FD F ∧ Hc SN = some (.lst (bits (ws.length + 1) W F)) ∧ NL Hc WD L ∧ F.Nodup ∧ L.Nodup ∧ (∀ x ∈ L, x ∈ F) ∧ (∀ x ∈ F, Hg (nb (rows ws)) W s x) ∧ s ∈ F ∧ (∀ x ∈ F, x ∉ L → ∀ y ∈ nb (rows ws) x, y ∉ W → y ∈ F))
        (fun _ Hc => 2 * (60 - (match Hc FD with | some (.lst xs) => xs.length | _ => 0)) + (match Hc WD with | some (.lst xs) => xs.length | _ => 0))
        ⟨[s], [s], none, none, rfl, s3.trans s34, hF3.same s34, s34 _ _ hS3, hW4, by simp, by simp, fun x h => h, fun x h => by rw [List.mem_singleton.mp h]; exact .here, List.mem_singleton_self _, fun x h n => absurd h n⟩ ?_ (fun σ H Q Q' h k => test_ne h k)
      rintro σ Hc ⟨F, L, v6, v7, rfl, sc, hF, hS, hL, ndF, ndL, LF, FH, sF, cl⟩
      have Flen : F.length ≤ 60 := by
        have := nd_len (ws := ws) ndF (fun x hx => fltn x (FH x hx))
        omega
      refine ⟨_, rfl, (by show 0 ≤ sizeLine; decide), fun e0 ne0 => ?_⟩
      have se := same_new (o := HO.lst []) ne0
      refine ne_nl (se _ _ hL) (show NL _ e0 [] from upd_same) ⟨_, rfl, ?_⟩
      have hF' := hF.same se
      have hS' := se _ _ hS
      have hL' := hL.same se
      have sc' := sc.trans se
      generalize upd Hc e0 (HO.lst []) = Hc' at hF' hS' hL' sc'
      rcases List.eq_nil_or_concat L with e | ⟨L0, t, e⟩
      · rw [e] at cl
        rw [decide_eq_false (fun h => h e)]
        refine iteF ?_
        refine ⟨_, rfl, FD, F.map (fun (n : Nat) => (n : Int)), rfl, (by rw [← vn_map]; exact SqL.of hF'), fun ys p' pm ri np' => ?_⟩
        rw [srt_ints (l := F) pm ri]
        refine k _ p' (sc'.trans (same_new np')) (sc'.free np') ?_
        rw [← hang_eq hw hs ndF (fun x => ⟨FH x, fun h => ?_⟩)]
        · exact upd_same
        · induction h with
          | here => exact sF
          | step _ hb hW ih => exact cl _ ih (fun z => nomatch z) _ hb hW
      · have e' : L = L0 ++ [t] := by rw [e, List.concat_eq_append]
        have tL : t ∈ L := by rw [e']; simp
        have tF := LF t tL
        have tn := fltn t (FH t tF)
        have tL0 : t ∉ L0 := fun h => by
          rw [e', List.nodup_append] at ndL
          exact ndL.2.2 t h t (List.mem_singleton_self _) rfl
        have ndL0 : L0.Nodup := by
          rw [e', List.nodup_append] at ndL
          exact ndL.1
        have Llen : L.length = L0.length + 1 := by rw [e', List.length_append]; rfl
        have Lne : L ≠ [] := fun z => by rw [z] at tL; cases tL
        rw [decide_eq_true Lne]
        refine iteT ?_
        have hlast : (L.map vn)[(L.map vn).length - 1]? = some (vn t) := by
          rw [e']
          simp
        have hdrop : (L.map vn).dropLast = L0.map vn := by
          rw [e', List.map_append]
          simp
        refine ⟨_, rfl, .inl ⟨rfl, _, SqL.of hL'⟩, WD, _, vn t, rfl, rfl, hL', hlast, ?_⟩
        rw [hdrop]
        generalize hB5 : upd _ WD _ = B5
        have hL5 : NL B5 WD L0 := hB5 ▸ upd_same
        have o5 : ∀ b, b ≠ WD → B5 b = Hc' b := fun b n => by rw [← hB5, upd_ne n]
        have hF5 : NL B5 FD F := (o5 FD FW).trans hF'
        have hS5 : B5 SN = some (.lst (bits (ws.length + 1) W F)) := (o5 SN SW).trans hS'
        have s5 : Same H B5 := fun b o e => by
          rw [o5 b (ne_of_none e nWH)]
          exact sc' _ _ e
        obtain ⟨la, hla⟩ : ∃ la, asr[t]? = some la := ⟨_, List.getElem?_eq_getElem (by rw [hPr.1, rows_length]; exact tn)⟩
        have g3 : NL H la (nb (rows ws) t) := hPr.2 t la hla
        refine ⟨_, rfl, _, rfl, q, _, _, _, rfl, rfl, SqL.of (s5 _ _ hqa), atI_nat (by rw [List.getElem?_map, hla]; rfl), la, rfl, ⟨_, SqL.of (s5 _ _ g3)⟩, for_list (K := K) (a := la) (xs := (nb (rows ws) t).map vn) (fun j σ Hc => ∃ (F' L' : List Nat) (v7 : Option V), σ = [some (.ref q), some (vn s), some (.ref d), some (.ref FD), some (.ref SN), some (.ref WD), some (vn t), v7] ∧ Same H Hc ∧ NL Hc FD F' ∧ Hc SN = some (.lst (bits (ws.length + 1) W F')) ∧ NL Hc WD L' ∧ F'.Nodup ∧ L'.Nodup ∧ (∀ x ∈ L', x ∈ F') ∧ (∀ x ∈ F', Hg (nb (rows ws)) W s x) ∧ (∀ x ∈ F, x ∈ F') ∧ t ∉ L' ∧ (∀ x ∈ F', x ∉ L' → x ≠ t → ∀ y ∈ nb (rows ws) x, y ∉ W → y ∈ F') ∧ (∀ y ∈ (nb (rows ws) t).take j, y ∉ W → y ∈ F') ∧ 2 * (60 - F'.length) + L'.length ≤ 2 * (60 - F.length) + L0.length)
          ⟨F, L0, v7, rfl, s5, hF5, hS5, hL5, ndF, ndL0, fun x h => LF x (by rw [e']; exact List.mem_append_left _ h), FH, fun x h => h, tL0, fun x h n nt => cl x h (by rw [e']; intro z; rcases List.mem_append.mp z with z | z; exact n z; exact nt (List.mem_singleton.mp z)), (fun y h => nomatch h), Nat.le_refl _⟩ (fun j σ Hc _ ⟨_, _, _, _, sc, _⟩ => SqL.of (sc _ _ g3)) ?_ ?_⟩
        · rintro j y σ Hd hj ⟨F', L', v7, rfl, sd, hFd, hSd, hLd, ndF', ndL', LF', FH', sub', tn', cl', tk', ms'⟩
          obtain ⟨r, hr0, rfl⟩ := at_map hj
          have rt : r ∈ nb (rows ws) t := List.mem_of_getElem? hr0
          have rn : r < ws.length + 1 := by
            have := (graph_rows hw).lt _ _ rt
            rw [rows_length] at this
            exact this
          have etk : (nb (rows ws) t).take (j + 1) = (nb (rows ws) t).take j ++ [r] := by
            rw [List.take_add_one, hr0]
            rfl
          have Flen' : F'.length ≤ 60 := by
            have := nd_len (ws := ws) ndF' (fun x hx => fltn x (FH' x hx))
            omega
          have Llen' : L'.length ≤ 1000 := by
            have := nd_len (ws := ws) ndL' (fun x hx => fltn x (FH' x (LF' x hx)))
            omega
          refine ⟨_, rfl, _, rfl, SN, _, _, _, rfl, rfl, SqL.of hSd, atI_nat (bits_at rn), rfl, _, rfl, ?_⟩
          by_cases c : r ∈ W ∨ r ∈ F'
          · have eb : (decide (bit W F' r = V.int 0)) = false := by
              unfold bit
              rw [if_pos c]
              rfl
            rw [eb]
            refine iteF ⟨F', L', _, rfl, sd, hFd, hSd, hLd, ndF', ndL', LF', FH', sub', tn', cl', fun y hy nW => ?_, ms'⟩
            rw [etk] at hy
            rcases List.mem_append.mp hy with h | h
            · exact tk' y h nW
            · rw [List.mem_singleton.mp h] at nW ⊢
              exact c.resolve_left nW
          · have eb : (decide (bit W F' r = V.int 0)) = true := by
              unfold bit
              rw [if_neg c]
              rfl
            have hrW : r ∉ W := fun z => c (.inl z)
            have hrF : r ∉ F' := fun z => c (.inr z)
            rw [eb]
            refine iteT ?_
            refine ⟨_, rfl, _, rfl, SN, _, _, r, rfl, rfl, hSd, by rw [bits_len]; exact ixN_nat rn, ?_⟩
            rw [bits_set]
            generalize hB6 : upd _ SN _ = B6
            have o6 : ∀ b, b ≠ SN → B6 b = Hd b := fun b n => by rw [← hB6, upd_ne n]
            have hS6 : B6 SN = some (.lst (bits (ws.length + 1) W (F' ++ [r]))) := hB6 ▸ upd_same
            have hF6 : NL B6 FD F' := (o6 FD FS).trans hFd
            have hL6 : NL B6 WD L' := (o6 WD SW.symm).trans hLd
            refine ⟨_, rfl, .inl ⟨rfl, _, SqL.of hF6⟩, _, rfl, FD, _, _, rfl, rfl, hF6, by rw [List.length_map]; exact small1000 (by omega), ?_⟩
            generalize hB7 : upd _ FD _ = B7
            have o7 : ∀ b, b ≠ FD → B7 b = B6 b := fun b n => by rw [← hB7, upd_ne n]
            have hF7 : NL B7 FD (F' ++ [r]) := by
              unfold NL
              rw [← hB7, upd_same, List.map_append]
              rfl
            have hS7 : B7 SN = some (.lst (bits (ws.length + 1) W (F' ++ [r]))) := (o7 SN FS.symm).trans hS6
            have hL7 : NL B7 WD L' := (o7 WD FW.symm).trans hL6
            have s7 : Same H B7 := fun b o e => by
              rw [o7 b (ne_of_none e nFH), o6 b (ne_of_none e nSH)]
              exact sd _ _ e
            refine ⟨_, rfl, .inl ⟨rfl, _, SqL.of hL7⟩, _, rfl, WD, _, _, rfl, rfl, hL7, by rw [List.length_map]; exact small1000 (by omega), ?_⟩
            have tF' := sub' t tF
            have Hr : Hg (nb (rows ws)) W s r := .step (FH' t tF') rt hrW
            have nd2 : (F' ++ [r]).Nodup := List.nodup_append.mpr ⟨ndF', by simp, fun x hx y hy e => hrF (by rw [List.mem_singleton.mp hy] at e; rw [← e]; exact hx)⟩
            have rlen : (F' ++ [r]).length ≤ 60 := by
              have := nd_len (ws := ws) (F := F' ++ [r]) nd2 (fun x hx => by
                rcases List.mem_append.mp hx with h | h
                · exact fltn x (FH' x h)
                · rw [List.mem_singleton.mp h]; exact fltn r Hr)
              omega
            rw [List.length_append] at rlen
            refine ⟨F' ++ [r], L' ++ [r], _, rfl, fun b o e => ?_, ?_, ?_, ?_, nd2, ?_, ?_, ?_, fun x hx => List.mem_append_left _ (sub' x hx), ?_, ?_, ?_, ?_⟩
            · rw [upd_ne (ne_of_none e nWH)]
              exact s7 _ _ e
            · unfold NL
              rw [upd_ne FW]
              exact hF7
            · rw [upd_ne SW]
              exact hS7
            · unfold NL
              rw [upd_same, List.map_append]
              rfl
            · exact List.nodup_append.mpr ⟨ndL', by simp, fun x hx y hy e => hrF (by rw [List.mem_singleton.mp hy] at e; rw [← e]; exact LF' x hx)⟩
            · intro x hx
              rcases List.mem_append.mp hx with h | h
              · exact List.mem_append_left _ (LF' x h)
              · exact List.mem_append_right _ h
            · intro x hx
              rcases List.mem_append.mp hx with h | h
              · exact FH' x h
              · rw [List.mem_singleton.mp h]
                exact Hr
            · intro h
              rcases List.mem_append.mp h with h | h
              · exact tn' h
              · exact hrF (List.mem_singleton.mp h ▸ tF')
            · intro x hx nL nt y hy nW
              rcases List.mem_append.mp hx with h | h
              · exact List.mem_append_left _ (cl' x h (fun z => nL (List.mem_append_left _ z)) nt y hy nW)
              · exact absurd (List.mem_append_right _ h) nL
            · intro y hy nW
              rw [etk] at hy
              rcases List.mem_append.mp hy with h | h
              · exact List.mem_append_left _ (tk' y h nW)
              · exact List.mem_append_right _ h
            · rw [List.length_append, List.length_append]
              simp only [List.length_cons, List.length_nil] at rlen ⊢
              omega
        · rintro σ Hd ⟨F', L', v7, rfl, sd, hFd, hSd, hLd, ndF', ndL', LF', FH', sub', tn', cl', tk', ms'⟩
          rw [List.length_map, List.take_length] at tk'
          refine ⟨⟨F', L', _, _, rfl, sd, hFd, hSd, hLd, ndF', ndL', LF', FH', sub' s sF, fun x hx nL y hy nW => ?_⟩, ?_⟩
          · by_cases ext : x = t
            · rw [ext] at hy
              exact tk' y hy nW
            · exact cl' x hx nL ext y hy nW
          · have m1 : Hd FD = some (.lst (F'.map vn)) := hFd
            have m2 : Hd WD = some (.lst (L'.map vn)) := hLd
            have m3 : Hc FD = some (.lst (F.map vn)) := hF
            have m4 : Hc WD = some (.lst (L.map vn)) := hL
            show 2 * (60 - (match Hd FD with | some (.lst xs) => xs.length | _ => 0)) + (match Hd WD with | some (.lst xs) => xs.length | _ => 0) < 2 * (60 - (match Hc FD with | some (.lst xs) => xs.length | _ => 0)) + (match Hc WD with | some (.lst xs) => xs.length | _ => 0)
            rw [m1, m2, m3, m4]
            show 2 * (60 - (F'.map vn).length) + (L'.map vn).length < 2 * (60 - (F.map vn).length) + (L.map vn).length
            rw [List.length_map, List.length_map, List.length_map, List.length_map]
            omega
end
end G

namespace G
open PySem L2 GM
theorem hang_self {ws : List Way} {W : List Nat} {s : Nat} (hs : s < ws.length + 1) : s ∈ hang ws W s := by
  unfold hang
  exact List.mem_filter.mpr ⟨List.mem_range.mpr hs, by simp only [decide_eq_true_eq]; exact .here⟩
/-- the pieces by their first rooms, of the rooms below i -/
noncomputable def lpcs (ws : List Way) (W : List Nat) (i : Nat) : List (List Nat) := ((List.range i).filter fun r => decide (r ∉ W) && decide ((hang ws W r).headD 0 = r)).map (hang ws W)
theorem lpcs_succ {ws : List Way} {W : List Nat} {i : Nat} : lpcs ws W (i + 1) = lpcs ws W i ++ (if (decide (i ∉ W) && decide ((hang ws W i).headD 0 = i)) = true then [hang ws W i] else []) := by
  unfold lpcs
  rw [List.range_succ, List.filter_append, List.map_append]
  congr 1
  by_cases c : (decide (i ∉ W) && decide ((hang ws W i).headD 0 = i)) = true
  · rw [if_pos c, List.filter_cons_of_pos (p := fun r => decide (r ∉ W) && decide ((hang ws W r).headD 0 = r)) c]
    rfl
  · rw [if_neg c, List.filter_cons_of_neg (p := fun r => decide (r ∉ W) && decide ((hang ws W r).headD 0 = r)) c]
    rfl
theorem lpcs_len {ws : List Way} {W : List Nat} {i : Nat} : (lpcs ws W i).length ≤ i := by
  unfold lpcs
  rw [List.length_map]
  refine Nat.le_trans (List.length_filter_le _ _) ?_
  rw [List.length_range]
  exact Nat.le_refl _
def spLpcs : Sp := fun vs H Q _ => ∃ (q d : Addr) (ws : List Way) (W : List Nat), vs = [.ref q, .ref d] ∧ LL H q (rows ws) ∧ ws.length ≤ 59 ∧ (∀ w ∈ ws, w.1 < w.2 ∧ w.2 < ws.length + 1) ∧ NL H d W ∧ ∀ H' r, Same H H' → H r = none → LL (only H H') r (lpcs ws W (ws.length + 1)) → Q (.ref r) H'
section
variable {P : Program} {w : World} {K : PySem.W.Frag} {mg : Str → Option Value} {base : Heap} {C : Addr}
theorem scLpcs : FnScope ["near", "without", "found", "room", "piece"] ["near", "without"] (defScope s__law_pieces) := ⟨rfl, rfl, rfl, by decide +kernel, rfl, by decide +kernel, by decide +kernel⟩
theorem ok_lpcs {f : Addr} {fd : FuncData} (F : Fun K "_law_pieces" "_law_pieces" s__law_pieces f fd) (T : TxP K mg C) (L_law_hanging : Cal P w K mg base "_law_hanging" 1 ["near", "room", "without"] spHangL) : FnOk P w K mg base CX0 2 f fd ["near", "without"] spLpcs := by
  refine F.ok scLpcs (fun vs H Q E h => ?_) (fun cdv A outer s H vs Q E hr h => ?_)
  · obtain ⟨q, d, ws, W, rfl, _⟩ := h
    rfl
  · obtain ⟨q, d, ws, W, rfl, hq, hl, hw, hd, k⟩ := h
    have hu := hr.units
    refine ⟨_, (pss_cons (ps_set (i := 2) scLpcs.nd rfl (Or.inl rfl) (pe_lst pa_nil))
      (pss_cons (ps_for PassesOwn.never rfl (pi_range1 (by rfl) T.rg (pa_cons (pe_callB call_len_seq (by rfl) T.len PySem.boot_len (pa_cons (pv 0) pa_nil)) pa_nil)) (pg_name (i := 3) scLpcs.nd rfl (Or.inl rfl))
        (pss_one (ps_if (pt_cmpR op_notIn_seq (pv 3) (pv 1) rfl) (pss_cons (ps_set (i := 4) scLpcs.nd rfl (Or.inl rfl) (L_law_hanging.pe (hr.mono (by decide)) rfl (pa_cons (pv 0) (pa_cons (pv 3) (pa_cons (pv 1) pa_nil)))))
      (pss_one (ps_if (pt_cmpR op_eq (pe_ix ix_list (pv 4) pe_int (fun _ _ => rfl)) (pv 3) (nomark _)) (pss_one (ps_expr (pe_bm PySem.F.plainAttrs_list PySem.F.slot_list_append PySem.F.type_list_append mt_append (pv 2) (pa_cons (pv 4) pa_nil)))) pss_nil))) pss_nil)))
      (pss_one (ps_ret (pv 2))))), ?_⟩
    obtain ⟨asr, hqa, hPr⟩ := id hq
    have elr : (asr.map V.ref).length = ws.length + 1 := by rw [List.length_map, hPr.1, rows_length]
    refine ⟨(by show 0 ≤ sizeLine; decide), fun PL nP => ?_⟩
    generalize hB : upd _ PL _ = B
    have s1 : Same H B := hB ▸ same_new nP
    have hP0 : B PL = some (.lst []) := hB ▸ upd_same
    refine ⟨_, rfl, q, _, rfl, .inl (SqL.of (s1 _ _ hqa)), ((ws.length + 1 : Nat) : Int), (by rw [elr]), by omega, by omega, for_range (lo := 0) (n := (((ws.length + 1 : Nat) : Int)).toNat) (fun i σ Hc => ∃ v3 v4 as, σ = [some (.ref q), some (.ref d), some (.ref PL), v3, v4] ∧ Same H Hc ∧ Hc PL = some (.lst (as.map V.ref)) ∧ Lists Hc as (lpcs ws W i) ∧ ∀ a ∈ as, H a = none ∧ a ≠ PL)
      ⟨none, none, [], rfl, s1, hP0, ⟨rfl, fun i a h => by simp at h⟩, fun a h => nomatch h⟩ ?_ ?_⟩
    · rintro i σ Hc hi ⟨v3, v4, as, rfl, sc, hPc, hLc, has⟩
      have hi2 : i < ws.length + 1 := by omega
      have ez : (0 : Int) + (i : Int) = ((i : Nat) : Int) := by omega
      rw [ez]
      refine ⟨_, rfl, _, rfl, d, _, rfl, .inl (SqL.of (sc _ _ hd)), rfl, flat_vn2 W, _, rfl, ?_⟩
      rw [show (if true = true then (!inV (vn i) (W.map vn)) else inV (vn i) (W.map vn)) = !decide (i ∈ W) from by rw [if_pos rfl, inV_vn2]]
      by_cases c : i ∈ W
      · rw [decide_eq_true c]
        have e1 : lpcs ws W (i + 1) = lpcs ws W i := by
          rw [lpcs_succ, if_neg (by rw [decide_eq_false (fun h => h c)]; exact Bool.false_ne_true), List.append_nil]
        refine iteF ⟨_, _, as, rfl, sc, hPc, ?_, has⟩
        rw [e1]
        exact hLc
      · rw [decide_eq_false c]
        refine iteT ?_
        refine ⟨_, rfl, _, rfl, _, rfl, q, d, i, ws, W, rfl, hq.same sc, hl, hw, hi2, hd.same sc, fun H6 hq6 s6 n6 hh => ?_⟩
        have self := hang_self (W := W) hi2
        have e1 := lpcs_succ (ws := ws) (W := W) (i := i)
        have lenA := lpcs_len (ws := ws) (W := W) (i := i)
        rw [decide_eq_true c, Bool.true_and] at e1
        generalize lpcs ws W (i + 1) = acc2 at e1
        generalize lpcs ws W i = acc at e1 hLc lenA
        generalize hang ws W i = pc at e1 hh self
        have hat : atI (pc.map vn) 0 = some (vn (pc.headD 0)) := by
          cases pc with
          | nil => cases self
          | cons a r => exact atI_nat (j := 0) rfl
        have s06 := sc.trans s6
        have hP6 := s6 _ _ hPc
        have qP : hq6 ≠ PL := (ne_of_none hPc n6).symm
        refine ⟨_, rfl, hq6, _, _, _, rfl, rfl, SqL.of hh, hat, _, rfl, rfl, _, rfl, ?_⟩
        rw [vn_dec]
        by_cases c2 : pc.headD 0 = i
        · rw [decide_eq_true c2]
          rw [decide_eq_true c2, if_pos rfl] at e1
          refine iteT ?_
          refine ⟨_, rfl, .inl ⟨rfl, _, SqL.of hP6⟩, _, rfl, PL, _, _, rfl, rfl, hP6, by rw [List.length_map, hLc.1]; exact small1000 (by omega), ?_⟩
          generalize hB7 : upd _ PL _ = H7
          have hP7 : H7 PL = some (.lst (as.map V.ref ++ [V.ref hq6])) := hB7 ▸ upd_same
          have o7 : ∀ b, b ≠ PL → H7 b = H6 b := fun b n => by rw [← hB7, upd_ne n]
          refine ⟨_, _, as ++ [hq6], rfl, fun b o e => ?_, ?_, ?_, fun a ha => ?_⟩
          · rw [o7 b (ne_of_none e nP)]
            exact s06 _ _ e
          · rw [List.map_append]
            exact hP7
          · rw [e1]
            refine ⟨by rw [List.length_append, List.length_append, hLc.1]; rfl, fun k a ha => ?_⟩
            by_cases hk : k < as.length
            · rw [List.getElem?_append_left hk] at ha
              have am := has a (List.mem_of_getElem? ha)
              have e2 : (acc ++ [pc]).getD k [] = acc.getD k [] := by
                rw [List.getD_eq_getElem?_getD, List.getD_eq_getElem?_getD, List.getElem?_append_left (by rw [← hLc.1]; exact hk)]
              rw [e2]
              unfold NL
              rw [o7 a am.2]
              exact (hLc.2 k a ha).same s6
            · rw [List.getElem?_append_right (by omega)] at ha
              have e0 : k - as.length = 0 := by
                have := (List.getElem?_eq_some_iff.mp ha).1
                simp only [List.length_cons, List.length_nil] at this
                omega
              rw [e0] at ha
              cases ha
              have e2 : (acc ++ [pc]).getD k [] = pc := by
                have := hLc.1
                rw [List.getD_eq_getElem?_getD, List.getElem?_append_right (by omega), show k - acc.length = 0 by omega]
                rfl
              rw [e2]
              unfold NL
              rw [o7 hq6 qP]
              exact hh
          · rcases List.mem_append.mp ha with h | h
            · exact has a h
            · rw [List.mem_singleton.mp h]
              exact ⟨sc.free n6, qP⟩
        · rw [decide_eq_false c2]
          rw [decide_eq_false c2, if_neg Bool.false_ne_true, List.append_nil] at e1
          refine iteF ⟨_, _, as, rfl, s06, hP6, ?_, has⟩
          rw [e1]
          exact hLc.same s6
    · rintro σ Hc ⟨v3, v4, as, rfl, sc, hPc, hLc, has⟩
      have hn : (((ws.length + 1 : Nat) : Int)).toNat = ws.length + 1 := by omega
      rw [hn] at hLc
      refine ⟨_, rfl, k Hc PL sc nP ⟨as, ?_, hLc.1, fun j a ha => ?_⟩⟩
      · rw [only_new nP]
        exact hPc
      · unfold NL
        rw [only_new (has a (List.mem_of_getElem? ha)).1]
        exact hLc.2 j a ha
end
end G

/-! The pieces as the program and as the law tell them are the same. -/
namespace G
open PySem L2 GM
theorem Hg.trans {f : Nat → List Nat} {W : List Nat} {a b c : Nat} (h : Hg f W a b) (k : Hg f W b c) : Hg f W a c := by
  induction k with
  | here => exact h
  | step _ m n ih => exact .step ih m n
theorem Hg.notin {f : Nat → List Nat} {W : List Nat} {s x : Nat} (h : Hg f W s x) : x = s ∨ x ∉ W := by
  cases h with
  | here => exact .inl rfl
  | step _ _ n => exact .inr n
theorem Hg.symm {f : Nat → List Nat} (sym : ∀ a b, b ∈ f a → a ∈ f b) {W : List Nat} {s x : Nat} (hs : s ∉ W) (h : Hg f W s x) : Hg f W x s := by
  induction h with
  | here => exact .here
  | step g m n ih =>
    rename_i a b
    have ha : a ∉ W := by
      rcases g.notin with e | e
      · rw [e]; exact hs
      · exact e
    exact (Hg.step .here (sym _ _ m) ha).trans ih
theorem Hg.mono {f : Nat → List Nat} {W W' : List Nat} {s x : Nat} (h : Hg f W s x) (k : ∀ y, Hg f W s y → y ≠ s → y ∉ W → y ∉ W') : Hg f W' s x := by
  induction h with
  | here => exact .here
  | step g m n ih =>
    rename_i a b
    by_cases e : b = s
    · rw [e]; exact .here
    · exact .step ih m (k b (.step g m n) e n)
theorem mem_hang {ws : List Way} (hw : ∀ w ∈ ws, w.1 < w.2 ∧ w.2 < ws.length + 1) {W : List Nat} {s x : Nat} (hs : s < ws.length + 1) : x ∈ hang ws W s ↔ Hg (nb (rows ws)) W s x := by
  unfold hang
  rw [List.mem_filter, List.mem_range]
  simp only [decide_eq_true_eq]
  exact ⟨fun z => z.2, fun z => ⟨hang_lt hw hs z, z⟩⟩
theorem hang_ext {ws : List Way} (hw : ∀ w ∈ ws, w.1 < w.2 ∧ w.2 < ws.length + 1) {W W' : List Nat} {s s' : Nat} (h : ∀ x, Hg (nb (rows ws)) W s x ↔ Hg (nb (rows ws)) W' s' x) : hang ws W s = hang ws W' s' := by
  unfold hang
  apply List.filter_congr
  intro x _
  exact decide_eq_decide.mpr (h x)
theorem hang_head {ws : List Way} (hw : ∀ w ∈ ws, w.1 < w.2 ∧ w.2 < ws.length + 1) {W : List Nat} {s : Nat} (hs : s < ws.length + 1) : (hang ws W s).headD 0 ∈ hang ws W s ∧ ∀ x ∈ hang ws W s, (hang ws W s).headD 0 ≤ x := by
  have m := hang_self (W := W) hs
  have p : (hang ws W s).Pairwise (· < ·) := by
    unfold hang
    exact List.pairwise_lt_range.sublist List.filter_sublist
  generalize hang ws W s = l at m p
  cases l with
  | nil => cases m
  | cons a r =>
    refine ⟨List.mem_cons_self, fun x hx => ?_⟩
    rcases List.mem_cons.mp hx with e | e
    · rw [e]; exact Nat.le_refl _
    · exact Nat.le_of_lt ((List.pairwise_cons.mp p).1 x e)
theorem pcs_lpcs_at {ws : List Way} (hw : ∀ w ∈ ws, w.1 < w.2 ∧ w.2 < ws.length + 1) {W : List Nat} : ∀ i, i ≤ ws.length + 1 → (∀ x, x ∈ (pcAt ws W i).1 ↔ x ∈ W ∨ ∃ r, r < i ∧ r ∉ W ∧ Hg (nb (rows ws)) W r x) ∧ (pcAt ws W i).2 = lpcs ws W i
  | 0, _ => by
    refine ⟨fun x => ?_, rfl⟩
    show x ∈ addK [] W ↔ _
    rw [addK_mem]
    exact ⟨fun h => h.elim (fun h => nomatch h) .inl, fun h => h.elim .inr (fun ⟨r, hr, _⟩ => by omega)⟩
  | i + 1, hi => by
    obtain ⟨h1, h2⟩ := pcs_lpcs_at hw i (by omega)
    have hin : i < ws.length + 1 := by omega
    have sym := (graph_rows hw).sym
    obtain ⟨hm, hmin⟩ := hang_head hw (W := W) hin
    rw [pcAt_succ, lpcs_succ]
    unfold pcStep
    by_cases c : i ∈ (pcAt ws W i).1
    · rw [if_pos c]
      rcases (h1 i).mp c with hW | ⟨r, hr, hrW, hg⟩
      · rw [if_neg (by rw [decide_eq_false (fun h => h hW)]; exact Bool.false_ne_true), List.append_nil]
        refine ⟨fun x => (h1 x).trans ⟨fun z => z.elim .inl (fun ⟨r, a, b, d⟩ => .inr ⟨r, by omega, b, d⟩), fun z => z.elim .inl (fun ⟨r, a, b, d⟩ => .inr ⟨r, ?_, b, d⟩)⟩, h2⟩
        have : r ≠ i := fun e => b (e ▸ hW)
        omega
      · have back := hg.symm sym hrW
        have rm : r ∈ hang ws W i := (mem_hang hw hin).mpr back
        have hne : (hang ws W i).headD 0 ≠ i := fun e => by
          have := hmin r rm
          omega
        rw [if_neg (by rw [decide_eq_false hne, Bool.and_false]; exact Bool.false_ne_true), List.append_nil]
        refine ⟨fun x => (h1 x).trans ⟨fun z => z.elim .inl (fun ⟨r, a, b, d⟩ => .inr ⟨r, by omega, b, d⟩), fun z => z.elim .inl (fun ⟨r', a, b, d⟩ => ?_)⟩, h2⟩
        by_cases e : r' = i
        · rw [e] at d
          exact .inr ⟨r, hr, hrW, hg.trans d⟩
        · exact .inr ⟨r', by omega, b, d⟩
    · rw [if_neg c]
      have hiW : i ∉ W := fun h => c ((h1 i).mpr (.inl h))
      have apart : ∀ y, Hg (nb (rows ws)) W i y → y ∉ (pcAt ws W i).1 := fun y hy hd => by
        have hyW : y ∉ W := by
          rcases hy.notin with e | e
          · rw [e]; exact hiW
          · exact e
        rcases (h1 y).mp hd with h | ⟨r, hr, hrW, hg⟩
        · exact hyW h
        · exact c ((h1 i).mpr (.inr ⟨r, hr, hrW, hg.trans (hy.symm sym hiW)⟩))
      have eh : hang ws (pcAt ws W i).1 i = hang ws W i := hang_ext hw fun x => ⟨fun h => h.mono fun y _ _ hn hW => hn ((h1 y).mpr (.inl hW)), fun h => h.mono fun y hy _ _ => apart y hy⟩
      have ehd : (hang ws W i).headD 0 = i := by
        have hg := (mem_hang hw hin).mp hm
        have hle := hmin i (hang_self hin)
        apply Classical.byContradiction
        intro hne
        have hyW : (hang ws W i).headD 0 ∉ W := by
          rcases hg.notin with e | e
          · exact absurd e hne
          · exact e
        exact c ((h1 i).mpr (.inr ⟨_, by omega, hyW, hg.symm sym hiW⟩))
      rw [if_pos (by rw [decide_eq_true hiW, decide_eq_true ehd]; rfl), eh]
      refine ⟨fun x => ?_, by rw [h2]⟩
      show x ∈ addK (pcAt ws W i).1 (hang ws W i) ↔ _
      rw [addK_mem, h1, mem_hang hw hin]
      constructor
      · rintro ((h | ⟨r, a, b, d⟩) | h)
        · exact .inl h
        · exact .inr ⟨r, by omega, b, d⟩
        · exact .inr ⟨i, by omega, hiW, h⟩
      · rintro (h | ⟨r, a, b, d⟩)
        · exact .inl (.inl h)
        · by_cases e : r = i
          · exact .inr (e ▸ d)
          · exact .inl (.inr ⟨r, by omega, b, d⟩)
theorem pcs_lpcs {ws : List Way} (hw : ∀ w ∈ ws, w.1 < w.2 ∧ w.2 < ws.length + 1) {W : List Nat} : pcs ws W = lpcs ws W (ws.length + 1) := (pcs_lpcs_at hw (ws.length + 1) (Nat.le_refl _)).2
end G

/-! Plain: a path is one alone; the two branches of a way; a room more. -/
namespace G
open PySem L2 GM
theorem Pt.head {f : Nat → List Nat} {d : Nat → Nat} {g x : Nat} {l : List Nat} (h : Pt f d g x l) : ∃ r, l = x :: r := by
  cases h with
  | here => exact ⟨_, rfl⟩
  | step _ _ _ => exact ⟨_, rfl⟩
theorem Pt.last {f : Nat → List Nat} {d : Nat → Nat} {g x : Nat} {l : List Nat} (h : Pt f d g x l) : ∃ r, l = r ++ [g] := by
  induction h with
  | here => exact ⟨[], rfl⟩
  | step _ _ _ ih => obtain ⟨r, e⟩ := ih; exact ⟨_ :: r, by rw [e]; rfl⟩
theorem Pt.le {f : Nat → List Nat} {d : Nat → Nat} {g x : Nat} {l : List Nat} (h : Pt f d g x l) : ∀ y ∈ l, d y ≤ d x := by
  induction h with
  | here => exact fun y hy => by rw [List.mem_singleton.mp hy]; exact Nat.le_refl _
  | step _ lt _ ih =>
    intro z hz
    rcases List.mem_cons.mp hz with e | e
    · rw [e]; exact Nat.le_refl _
    · have := ih z e; omega
theorem Pt.nodup {f : Nat → List Nat} {d : Nat → Nat} {g x : Nat} {l : List Nat} (h : Pt f d g x l) : l.Nodup := by
  induction h with
  | here => simp
  | step _ lt p ih =>
    refine List.nodup_cons.mpr ⟨fun m => ?_, ih⟩
    have := p.le _ m
    omega
theorem Pt.adj {f : Nat → List Nat} {d : Nat → Nat} {g x : Nat} {l : List Nat} (h : Pt f d g x l) : ∀ k u v, l[k]? = some u → l[k + 1]? = some v → v ∈ f u := by
  induction h with
  | here => intro k u v _ h2; simp at h2
  | step m _ p ih =>
    intro k u v h1 h2
    cases k with
    | zero =>
      obtain ⟨r, e⟩ := p.head
      rw [e] at h2
      cases h1
      cases h2
      exact m
    | succ k => exact ih k u v h1 h2
theorem Pt.uniq {f : Nat → List Nat} {d : Nat → Nat} {g x : Nat} {l l' : List Nat} (R : RootedA (fun a b => b ∈ f a) g d) (h : Pt f d g x l) (h' : Pt f d g x l') : l = l' := by
  induction h generalizing l' with
  | here =>
    cases h' with
    | here => rfl
    | step _ lt _ => rw [R.zero] at lt; omega
  | step m lt p ih =>
    cases h' with
    | here => rw [R.zero] at lt; omega
    | step m' lt' p' =>
      have := R.up _ _ _ m m' lt lt'
      subst this
      rw [ih p']
theorem Pt.all {f : Nat → List Nat} {d : Nat → Nat} {g x n : Nat} {l : List Nat} (hf : ∀ a b, b ∈ f a → b < n) (hx : x < n) (h : Pt f d g x l) : ∀ y ∈ l, y < n := by
  induction h with
  | here => exact fun y hy => by rw [List.mem_singleton.mp hy]; exact hx
  | step m _ _ ih =>
    intro z hz
    rcases List.mem_cons.mp hz with e | e
    · rw [e]; exact hx
    · exact ih (hf _ _ m) z e
theorem near_zero {ws : List Way} {g : Nat} {d : Nat → Nat} (N : Near ws g d) {x : Nat} (hx : x < ws.length + 1) (h : d x = 0) : x = g := by
  refine Classical.byContradiction fun e => ?_
  obtain ⟨y, _, l⟩ := N.dn x hx e
  omega
theorem hang_nd {ws : List Way} {W : List Nat} {s : Nat} : (hang ws W s).Nodup := List.nodup_range.filter _
/-- those who go to the root by way of t -/
inductive Anc (f : Nat → List Nat) (d : Nat → Nat) (t : Nat) : Nat → Prop
  | here : Anc f d t t
  | step {x y : Nat} : y ∈ f x → d y < d x → Anc f d t y → Anc f d t x
section
variable {ws : List Way} (hw : ∀ w ∈ ws, w.1 < w.2 ∧ w.2 < ws.length + 1) {g t : Nat} {d : Nat → Nat} (N : Near ws g d) (hg : g < ws.length + 1) (ht : g ∈ nb (rows ws) t)
include hw N hg ht
theorem nb_lt' {a b : Nat} (h : b ∈ nb (rows ws) a) : b < ws.length + 1 := by
  have := (graph_rows hw).lt _ _ h
  rw [rows_length] at this
  exact this
theorem way_d : d t = 1 := by
  rcases N.R.step _ _ ht with z | z
  · rw [N.R.zero] at z; omega
  · rw [N.R.zero] at z; exact z
theorem hg_anc {x : Nat} (h : Hg (nb (rows ws)) [g] t x) : Anc (nb (rows ws)) d t x := by
  have dt := way_d hw N hg ht
  induction h with
  | here => exact .here
  | step g0 m n ih =>
    rename_i u v
    have ng : v ≠ g := fun e => n (by rw [e]; simp)
    have hv := nb_lt' hw N hg ht m
    rcases N.R.step _ _ m with z | z
    · exact .step ((graph_rows hw).sym _ _ m) (by omega) ih
    · cases ih with
      | here =>
        exact absurd (near_zero N hv (by omega)) ng
      | step m' l' a =>
        rw [N.R.up _ _ _ m m' (by omega) l']
        exact a
theorem anc_hg {x : Nat} (h : Anc (nb (rows ws)) d t x) : Hg (nb (rows ws)) [g] t x := by
  induction h with
  | here => exact .here
  | step m l _ ih =>
    refine .step ih ((graph_rows hw).sym _ _ m) fun e => ?_
    rw [List.mem_singleton.mp e, N.R.zero] at l
    omega
theorem far_anc {x : Nat} (h : Hg (nb (rows ws)) [t] g x) : ¬ Anc (nb (rows ws)) d t x := by
  have dt := way_d hw N hg ht
  induction h with
  | here =>
    intro a
    cases a with
    | here => rw [N.R.zero] at dt; omega
    | step _ l _ => rw [N.R.zero] at l; omega
  | step g0 m n ih =>
    rename_i u v
    intro a
    cases a with
    | here => exact n (by simp)
    | step m' l' a' =>
      rcases N.R.step _ _ m with z | z
      · rw [N.R.up _ _ _ ((graph_rows hw).sym _ _ m) m' (by omega) l'] at ih
        exact ih a'
      · exact ih (.step m (by omega) (.step m' l' a'))
theorem anc_far : ∀ (k x : Nat), d x = k → x < ws.length + 1 → ¬ Anc (nb (rows ws)) d t x → Hg (nb (rows ws)) [t] g x := by
  intro k
  induction k with
  | zero =>
    intro x e hx _
    rw [near_zero N hx e]
    exact .here
  | succ k ih =>
    intro x e hx na
    have ng : x ≠ g := fun z => by rw [z, N.R.zero] at e; omega
    obtain ⟨y, m, l⟩ := N.dn x hx ng
    have e2 : d y = k := by rcases N.R.step _ _ m with z | z <;> omega
    refine .step (ih y e2 (nb_lt' hw N hg ht m) fun a => na (.step m l a)) ((graph_rows hw).sym _ _ m) fun z => ?_
    rw [List.mem_singleton.mp z] at na
    exact na .here
/-- the two branches at a way are all rooms, each once -/
theorem branches : srt (hang ws [g] t ++ hang ws [t] g) = List.range (ws.length + 1) := by
  have htn : t < ws.length + 1 := nb_lt' hw N hg ht ((graph_rows hw).sym _ _ ht)
  refine (srt_eq ?_ (List.pairwise_lt_range.imp Nat.le_of_lt)).symm
  refine (List.perm_ext_iff_of_nodup List.nodup_range (List.nodup_append.mpr ⟨hang_nd, hang_nd, fun x hx y hy e => ?_⟩)).mpr fun x => ?_
  · subst e
    exact far_anc hw N hg ht ((mem_hang hw hg).mp hy) (hg_anc hw N hg ht ((mem_hang hw htn).mp hx))
  · rw [List.mem_range, List.mem_append, mem_hang hw htn, mem_hang hw hg]
    constructor
    · intro hx
      by_cases a : Anc (nb (rows ws)) d t x
      · exact .inl (anc_hg hw N hg ht a)
      · exact .inr (anc_far hw N hg ht (d x) x rfl hx a)
    · rintro (h | h)
      · exact hang_lt hw htn h
      · exact hang_lt hw hg h
end
theorem grown_near {told : List Nat} {ws : List Way} (Gr : Grown told ws) {g : Nat} (h : g < ws.length + 1) : ∃ d, Near ws g d := by
  obtain ⟨d, R, dn⟩ := rooted Gr h
  exact ⟨d, R, dn⟩
/-! a room more -/
section
variable {told : List Nat} {ws : List Way} (Gr : Grown told ws) {r : Nat} (hr : r < ws.length + 1)
include Gr hr
theorem more_mem {a b : Nat} : b ∈ nb (rows (ws ++ [(r, ws.length + 1)])) a ↔ b ∈ nb (rows ws) a ∨ (a = r ∧ b = ws.length + 1) ∨ (a = ws.length + 1 ∧ b = r) := by
  have w1 := grown_ww Gr
  have w2 := grown_ww (grown_more Gr hr)
  rw [mem_rows w2, mem_rows w1]
  simp only [List.mem_append, List.mem_singleton, Prod.mk.injEq]
  constructor
  · rintro ((h | h) | (h | h))
    · exact .inl (.inl h)
    · exact .inr (.inl h)
    · exact .inl (.inr h)
    · exact .inr (.inr ⟨h.2, h.1⟩)
  · rintro ((h | h) | h | h)
    · exact .inl (.inl h)
    · exact .inr (.inl h)
    · exact .inl (.inr h)
    · exact .inr (.inr ⟨h.2, h.1⟩)
theorem nb_out {a : Nat} (h : ws.length + 1 ≤ a) (b : Nat) : b ∉ nb (rows ws) a ∧ a ∉ nb (rows ws) b := by
  have w1 := grown_ww Gr
  have k : a ∉ nb (rows ws) b := fun m => by
    have := (graph_rows w1).lt _ _ m
    rw [rows_length] at this
    omega
  exact ⟨fun m => k ((graph_rows w1).sym _ _ m), k⟩
theorem more_near {d : Nat → Nat} (N : Near ws r d) : Near (ws ++ [(r, ws.length + 1)]) (ws.length + 1) (fun v => if v = ws.length + 1 then 0 else d v + 1) := by
  have eA : (fun a b => b ∈ nb (rows (ws ++ [(r, ws.length + 1)])) a) = hung (fun a b => b ∈ nb (rows ws) a) r (ws.length + 1) := by
    funext a b
    exact propext (more_mem Gr hr)
  refine ⟨?_, fun x hx hne => ?_⟩
  · rw [eA]
    exact leaf_new N.R (fun b => nb_out Gr hr (Nat.le_refl _) b) (by omega)
  · rw [List.length_append, List.length_singleton] at hx
    have hx2 : x < ws.length + 1 := by omega
    by_cases e : x = r
    · refine ⟨ws.length + 1, (more_mem Gr hr).mpr (.inr (.inl ⟨e, rfl⟩)), ?_⟩
      rw [if_pos rfl, if_neg hne]
      omega
    · obtain ⟨y, m, l⟩ := N.dn x hx2 e
      have hy : y ≠ ws.length + 1 := fun z => by
        have := (nb_out Gr hr (Nat.le_refl _) x).2
        rw [z] at m
        exact this m
      refine ⟨y, (more_mem Gr hr).mpr (.inl m), ?_⟩
      rw [if_neg hy, if_neg hne]
      omega
theorem more_path {d : Nat → Nat} {x : Nat} {l : List Nat} (hx : x < ws.length + 1) (h : Pt (nb (rows ws)) d r x l) : Pt (nb (rows (ws ++ [(r, ws.length + 1)]))) (fun v => if v = ws.length + 1 then 0 else d v + 1) (ws.length + 1) x (l ++ [ws.length + 1]) := by
  induction h with
  | here =>
    refine .step (y := ws.length + 1) ((more_mem Gr hr).mpr (.inr (.inl ⟨rfl, rfl⟩))) ?_ .here
    rw [if_pos rfl, if_neg (by omega)]
    omega
  | step m lt p ih =>
    have hy := (graph_rows (grown_ww Gr)).lt _ _ m
    rw [rows_length] at hy
    refine .step ((more_mem Gr hr).mpr (.inl m)) ?_ (ih hy)
    rw [if_neg (by omega), if_neg (by omega)]
    omega
theorem more_leaf : hang (ws ++ [(r, ws.length + 1)]) [r] (ws.length + 1) = [ws.length + 1] := by
  have w2 := grown_ww (grown_more Gr hr)
  have hl : (ws ++ [(r, ws.length + 1)]).length = ws.length + 1 := by rw [List.length_append, List.length_singleton]
  refine (hang_eq w2 (F := [ws.length + 1]) (by omega) (by simp) fun x => ?_).symm.trans ?_
  · rw [List.mem_singleton]
    constructor
    · rintro rfl
      exact .here
    · intro h
      induction h with
      | here => rfl
      | step g0 m n ih =>
        rename_i u v
        rw [ih, more_mem Gr hr] at m
        rcases m with m | m | m
        · exact absurd m (nb_out Gr hr (Nat.le_refl _) _).1
        · omega
        · exact absurd (List.mem_singleton.mpr m.2) n
  · exact (srt_eq (List.Perm.refl _) (by simp)).symm
theorem more_rest : hang (ws ++ [(r, ws.length + 1)]) [ws.length + 1] r = List.range (ws.length + 1) := by
  have w2 := grown_ww (grown_more Gr hr)
  have hl : (ws ++ [(r, ws.length + 1)]).length = ws.length + 1 := by rw [List.length_append, List.length_singleton]
  obtain ⟨d, N⟩ := grown_near Gr hr
  refine (hang_eq w2 (F := List.range (ws.length + 1)) (by omega) List.nodup_range fun x => ?_).symm.trans (srt_eq (List.Perm.refl _) (List.pairwise_lt_range.imp Nat.le_of_lt)).symm
  rw [List.mem_range]
  constructor
  · have key : ∀ (k x : Nat), d x = k → x < ws.length + 1 → Hg (nb (rows (ws ++ [(r, ws.length + 1)]))) [ws.length + 1] r x := by
      intro k
      induction k with
      | zero =>
        intro x e hx
        rw [near_zero N hx e]
        exact .here
      | succ k ih =>
        intro x e hx
        have ng : x ≠ r := fun z => by rw [z, N.R.zero] at e; omega
        obtain ⟨y, m, l⟩ := N.dn x hx ng
        have e2 : d y = k := by rcases N.R.step _ _ m with z | z <;> omega
        have hy := (graph_rows (grown_ww Gr)).lt _ _ m
        rw [rows_length] at hy
        refine .step (ih y e2 hy) ((more_mem Gr hr).mpr (.inl ((graph_rows (grown_ww Gr)).sym _ _ m))) fun z => ?_
        have := List.mem_singleton.mp z
        omega
    exact fun hx => key (d x) x rfl hx
  · intro h
    rcases h.notin with e | e
    · omega
    · have := hang_lt w2 (by omega) h
      have : x ≠ ws.length + 1 := fun z => e (by rw [z]; simp)
      omega
end
end G

namespace G
open PySem L2 GM
structure TxB (K : PySem.W.Frag) (mg : Str → Option Value) (C : Addr) : Prop extends TxP K mg C where
  all : mg "all" = none
  set : mg "set" = none
  en : mg "enumerate" = none
def spBtw : Sp := fun vs H Q _ => ∃ (q t : Addr) (a b : Nat) (ws : List Way) (d : Nat → Nat) (l : List Nat), vs = [.ref q, vn a, vn b, .ref t] ∧ LL H q (rows ws) ∧ ws.length ≤ 59 ∧ (∀ w ∈ ws, w.1 < w.2 ∧ w.2 < ws.length + 1) ∧ a < ws.length + 1 ∧ NL H t l ∧ Pt (nb (rows ws)) d b a l ∧ ∀ H', Same H H' → Q (.bl true) H'
section
variable {P : Program} {w : World} {K : PySem.W.Frag} {mg : Str → Option Value} {base : Heap} {C : Addr}
theorem scBtw : FnScope ["near", "one", "other", "told", "k"] ["near", "one", "other", "told"] (defScope s__law_between_right) := ⟨rfl, rfl, rfl, by decide +kernel, rfl, by decide +kernel, by decide +kernel⟩
theorem ok_btw {f : Addr} {fd : FuncData} (F : Fun K "_law_between_right" "_law_between_right" s__law_between_right f fd) (T : TxB K mg C) : FnOk P w K mg base CX0 1 f fd ["near", "one", "other", "told"] spBtw := by
  refine F.ok scBtw (fun vs H Q E h => ?_) (fun cdv A outer s H vs Q E hr h => ?_)
  · obtain ⟨q, t, a, b, ws, d, l, rfl, _⟩ := h
    rfl
  · obtain ⟨q, t, a, b, ws, d, l, rfl, hq, hl, hw, ha, ht, hp, k⟩ := h
    have hu := hr.units
    refine ⟨_, (pss_cons (ps_if (PW.pt (pw_or (pt_cmpR op_ne (pe_ix ix_list (pv 3) pe_int (fun _ _ => rfl)) (pv 1) (nomark _)) (pw_or (pt_cmpR op_ne (pe_ix ix_list (pv 3) (pe_un un_neg pe_int) (fun _ _ => rfl)) (pv 2) (nomark _)) (pw_or1 (pt_cmpR op_ne (RZ.pe_lenSetI (by rfl) T.len (by rfl) T.set (pv 3)) (pe_callB call_len_seq (by rfl) T.len PySem.boot_len (pa_cons (pv 3) pa_nil)) (nomark _)))))) (pss_one (ps_ret pe_bl)) pss_nil)
      (pss_one (ps_ret (pe_callB (cr_all rfl) (by rfl) T.all PyProof.Rows.boot_all (pa_cons (pe_lc (own := [("k", 4)]) (g := gName 4) (tt := tYes) rfl scBtw.nd (pi_range2 (by rfl) T.rg (pa_cons pe_int (pa_cons (pe_callB call_len_seq (by rfl) T.len PySem.boot_len (pa_cons (pv 3) pa_nil)) pa_nil))) (blkOk_by (N := ["near", "one", "other", "told", "k"]) (sc := defScope s__law_between_right) (by decide +kernel)) (fun _ _ _ _ _ => pg_name (i := 4) scBtw.nd rfl (Or.inl rfl)) (fun _ _ _ _ _ => pts_nil) (fun _ _ _ _ _ => (pe_cmpR (r := rIn K false) op_in_seq (pe_ix (r := rIxL K) ix_list (pv 3) (pv 4) (fun _ _ => rfl)) (pe_ix (r := rIxL K) ix_list (pv 0) (pe_ix (r := rIxL K) ix_list (pv 3) (pe_op op_sub (pv 4) pe_int) (fun _ _ => rfl)) (fun _ _ => rfl)) rfl))) pa_nil))))), ?_⟩
    have hlt : ∀ x y, y ∈ nb (rows ws) x → y < ws.length + 1 := fun x y h => by
      have := (graph_rows hw).lt _ _ h
      rw [rows_length] at this
      exact this
    have hall := hp.all hlt ha
    have hlen : l.length ≤ 60 := by
      have := nd_len (ws := ws) hp.nodup hall
      omega
    obtain ⟨r0, e0⟩ := hp.head
    obtain ⟨r1, e1⟩ := hp.last
    have i0 : atI (l.map vn) ((0 : Nat) : Int) = some (vn a) := by rw [e0]; exact atI_nat rfl
    have i1 : atI (l.map vn) (-1) = some (vn b) := by
      rw [e1, List.map_append]
      exact atI_last _ _
    have na : (!decide (vn a = vn a)) = false := by simp
    have nb' : (!decide (vn b = vn b)) = false := by simp
    refine ⟨_, rfl, t, _, _, _, rfl, rfl, SqL.of ht, i0, _, rfl, rfl, _, rfl, ?_⟩
    rw [na]
    refine iteF ⟨_, rfl, _, rfl, t, _, _, _, rfl, rfl, SqL.of ht, i1, _, rfl, rfl, _, rfl, ?_⟩
    rw [nb']
    refine iteF ⟨_, rfl, t, l.map Int.ofNat, rfl, ?_, ?_, ?_, ?_⟩
    · rw [List.map_map]; exact SqL.of ht
    · exact List.Pairwise.map Int.ofNat (fun x y h e => h (Int.ofNat.inj e)) hp.nodup
    · rw [List.length_map]; omega
    refine ⟨_, rfl, t, _, rfl, .inl (SqL.of ht), rfl, _, rfl, ?_⟩
    rw [List.length_map, List.length_map]
    have nl : (!decide (V.int (l.length : Nat) = V.int (l.length : Nat))) = false := by simp
    rw [nl]
    refine iteF ?_
    refine ⟨_, rfl, t, _, rfl, .inl (SqL.of ht), ?_⟩
    have l1 : 1 ≤ l.length := by rw [e0]; simp
    refine ⟨1, (l.length : Nat), by rw [List.length_map], ⟨by decide, by decide, by omega, by omega⟩, fun D nD => ?_⟩
    have ej : ((l.length : Nat) - 1 : Int).toNat = l.length - 1 := by omega
    rw [ej]
    refine lc_gen (walk_range (lo := 1) (n := l.length - 1)) ((List.range (l.length - 1)).map fun i => V.int (1 + (i : Nat))) (fun _ => true) (fun _ => V.bl true) nD (by simp) (small1000 (by omega))
      (fun j Hc x H' hj _ y => ⟨y.1, by rw [y.2, List.getElem?_map, List.getElem?_range hj]; rfl⟩) (fun _ _ => True.intro) (fun x Hc R _ _ k => k Hc (.refl _)) ?_ ?_
    · intro v Hc R hv _ s1 k
      obtain ⟨i, hi, rfl⟩ := List.mem_map.mp hv
      rw [List.mem_range] at hi
      obtain ⟨u, hu1⟩ : ∃ u, l[i]? = some u := ⟨l[i], List.getElem?_eq_getElem (by omega)⟩
      obtain ⟨v, hv1⟩ : ∃ v, l[i + 1]? = some v := ⟨l[i + 1], List.getElem?_eq_getElem (by omega)⟩
      have m := hp.adj i u v hu1 hv1
      have hun := hall u (List.mem_of_getElem? hu1)
      have ht1 := ht.same s1
      obtain ⟨as, la, g1, g2, g3⟩ := (hq.same s1).at (r := u) (by rw [rows_length]; exact hun)
      have j1 : atI (l.map vn) (1 + (i : Nat)) = some (vn v) := by
        have := atI_nat (xs := l.map vn) (j := i + 1) (v := vn v) (by rw [List.getElem?_map, hv1]; rfl)
        rw [← this]
        congr 1
        omega
      have j0 : atI (l.map vn) (1 + (i : Nat) - 1) = some (vn u) := by
        have := atI_nat (xs := l.map vn) (j := i) (v := vn u) (by rw [List.getElem?_map, hu1]; rfl)
        rw [← this]
        congr 1
        omega
      refine ⟨_, rfl, _, rfl, t, _, _, _, rfl, rfl, SqL.of ht1, j1, _, rfl, _, rfl, _, rfl, _, _, rfl, rfl, t, _, _, _, rfl, rfl, SqL.of ht1, j0, q, _, _, _, rfl, rfl, SqL.of g1, g2, la, _, rfl, .inl (SqL.of g3), rfl, flat_vn2 _, ?_⟩
      rw [show (if false = true then (!inV (vn v) ((nb (rows ws) u).map vn)) else inV (vn v) ((nb (rows ws) u).map vn)) = true from inV_vn2.trans (decide_eq_true m)]
      exact k Hc (.refl _)
    · intro H5 s5 hD
      refine ⟨D, List.replicate (l.length - 1) true, rfl, ?_, ?_⟩
      · refine SqL.of ?_
        rw [hD, List.filter_eq_self.mpr (fun _ _ => rfl), List.map_map, List.map_replicate]
        congr 2
        refine List.eq_replicate_iff.mpr ⟨by simp, fun b hb => ?_⟩
        obtain ⟨_, _, e⟩ := List.mem_map.mp hb
        exact e.symm
      · rw [show (List.replicate (l.length - 1) true).all id = true by simp]
        exact k H5 s5
end
end G

/-! o.m(e, k = v); a def with two promises; lists of lists that are not alike; drawn rooms in a comprehension. -/
namespace L2
open PySem PySem.Spec
def tMethK (C : Addr) (m : Str) (n j : Nat) (sp : Sp) (gV : List V → List V → List V) (E : XK) (ta : TE) (t tk : TA) : TE := fun σ H Q => ta σ H fun x H1 => ∃ a dx fs, x = .ref a ∧ H1 a = some (.ins C dx fs) ∧ fs.lookup m = none ∧
  t σ H1 fun vs H2 => tk σ H2 fun zs H3 => vs.length = n ∧ zs.length = j ∧ sp (gV (x :: vs) zs) H3 Q E
theorem pe_methK {X : Cx} {CX : CXT} {k n : Nat} {f C : Addr} {m : Str} {fd : FuncData} {ps ks : List Str} {sp : Sp} {E : XK} {o e : Expr} {es : List Expr} {kws : List Keyword} {ta : TE} {t tk : TA} {apos pos : Pos} {g : List Value → List Value → List Value} {gV : List V → List V → List V} {pl : Sem Bool}
    (he : PE X o ta) (c : Cls X.K C) (hm : Meth X.K C m f) (F : FnOk X.prog X.w X.K X.mg X.base CX k f fd ps sp) (hr : Room k X.A) (hb : KBn X.K fd ps (n + 1) ks g gV) (hx : Passes CX X E) (ha : PA X (e :: es) t) (hkw : PK X kws tk)
    (hall : (backToKw pos (keywordEach kws X.env)).all (·.1.isSome) = true := by rfl) (hks : (backToKw pos (keywordEach kws X.env)).filterMap (·.1) = ks := by rfl)
    (hst : starEach (e :: es) X.env = (false, eval e X.env) :: starEach es X.env := by rfl) (hpl : ((backTo pos (starEach (e :: es) X.env)).any (·.1) || (backToKw pos (keywordEach kws X.env)).any (·.1.isNone)) = false := by rfl)
    (ht : eval (.Call (.Attribute o m apos) (e :: es) kws pos) X.env = (do
      let ov ← eval o X.env
      standAt apos.atName
      let (f, first) ← holding [ov] (getMethod ov m pl)
      callWith pos f first (backTo pos (starEach (e :: es) X.env)) (backToKw pos (keywordEach kws X.env))) := by rfl) :
    PE X (.Call (.Attribute o m apos) (e :: es) kws pos) (tMethK C m n ks.length sp gV E ta t tk) := by
  refine ⟨fun pins s σ H Q I h => ?_⟩
  refine PySem.W.methodCall_KW (pl := pl) (thn (he.run pins s σ H _ I h) fun u s1 q => ?_) ht
  obtain ⟨x, H1, I1, rx, a, dx, fs, ex, ea, l, q⟩ := q
  subst ex
  obtain rfl : u = Value.ref a := rx
  refine getmeth_ok I1 ea c hm l ?_
  refine PySem.W.callWith_KW (first := [.ref a]) (h₀ := X.base) I.ok.mod.kin hm.kp hall (thn (ha.run pos pins s1 σ H1 _ I1 q) fun us s2 q2 => ?_) hpl hst
  obtain ⟨vs, H2, I2, r, q2⟩ := q2
  refine thn (hkw.run pos pins s2 σ H2 _ I2 q2) fun ws s3 q3 => ?_
  obtain ⟨zs, H3, I3, rz, l1, l2, q3⟩ := q3
  refine ⟨I3.kIn, ?_⟩
  rw [hks]
  exact run_fnN (us := .ref a :: us) (vs := .ref a :: vs) F hr hb hx I3 (.cons rfl r) rz (by rw [List.length_cons, l1]) l2 q3
theorem FnOk.or {P : Program} {w : World} {K : PySem.W.Frag} {mg : Str → Option Value} {base : Heap} {CX : CXT} {k : Nat} {f : Addr} {fd : FuncData} {ps : List Str} {sp sp' : Sp} (F : FnOk P w K mg base CX k f fd ps sp) (F' : FnOk P w K mg base CX k f fd ps sp') :
    FnOk P w K mg base CX k f fd ps (fun vs H Q E => sp vs H Q E ∨ sp' vs H Q E) where
  len := fun vs H Q E h => h.elim (F.len vs H Q E) (F'.len vs H Q E)
  run := fun A outer s H args us vs Q E hr e0 hb r h => h.elim (F.run A outer s H args us vs Q E hr e0 hb r) (F'.run A outer s H args us vs Q E hr e0 hb r)
end L2
namespace G
open PySem L2 GM
/-- a method with one keyword behind n things -/
structure CalMK (P : Program) (w : World) (K : PySem.W.Frag) (mg : Str → Option Value) (base : Heap) (C : Addr) (x : Str) (k n : Nat) (ps ks : List Str) (sp : Sp) : Prop where
  ex : ∃ f fd, FnOk P w K mg base CX0 k f fd ps sp ∧ KBn K fd ps (n + 1) ks (fun us ws => us ++ ws) (fun vs zs => vs ++ zs) ∧ Meth K C x f
  cl : Cls K C
theorem CalMK.pe {X : Cx} {C : Addr} {m : Str} {k n : Nat} {ps ks : List Str} {sp : Sp} {o e : Expr} {es : List Expr} {kws : List Keyword} {ta : TE} {t tk : TA} {apos pos : Pos} {pl : Sem Bool} (L : CalMK X.prog X.w X.K X.mg X.base C m k n ps ks sp) (hr : Room k X.A) (he : PE X o ta) (ha : PA X (e :: es) t) (hkw : PK X kws tk)
    (hall : (backToKw pos (keywordEach kws X.env)).all (·.1.isSome) = true := by rfl) (hks : (backToKw pos (keywordEach kws X.env)).filterMap (·.1) = ks := by rfl)
    (hst : starEach (e :: es) X.env = (false, eval e X.env) :: starEach es X.env := by rfl) (hpl : ((backTo pos (starEach (e :: es) X.env)).any (·.1) || (backToKw pos (keywordEach kws X.env)).any (·.1.isNone)) = false := by rfl)
    (ht : eval (.Call (.Attribute o m apos) (e :: es) kws pos) X.env = (do
      let ov ← eval o X.env
      standAt apos.atName
      let (f, first) ← holding [ov] (getMethod ov m pl)
      callWith pos f first (backTo pos (starEach (e :: es) X.env)) (backToKw pos (keywordEach kws X.env))) := by rfl) :
    PE X (.Call (.Attribute o m apos) (e :: es) kws pos) (tMethK C m n ks.length sp (fun vs zs => vs ++ zs) E0 ta t tk) := by
  obtain ⟨f, fd, F, b, M⟩ := L.ex
  exact pe_methK he L.cl M F hr b pass0 ha hkw hall hks hst hpl ht
theorem ne_ll {K : PySem.W.Frag} {H : Hp} {p q : Addr} {l m : List (List Nat)} {Q : VK} (hp : LL H p l) (hq : LL H q m) (h : Q (.bl (decide (l ≠ m))) H) : rNeD K (.ref p) (.ref q) H Q := by
  obtain ⟨as, h1, h2⟩ := hp
  obtain ⟨bs, g1, g2⟩ := hq
  refine ⟨_, _, .lst (SqL.of h1) (dp_ll as l h2), .lst (SqL.of g1) (dp_ll bs m g2), (flat_list flat_ll).shaped, (flat_list flat_ll).shaped, ?_⟩
  show Q (.bl (!PyData.eqvAll (dLL l) (dLL m))) H
  rw [eqv_dLL, not_dec]
  exact h
theorem sr_at {H H' : Hp} {a b : Addr} {o : HO} (s : Same (rm H a) (rm H' a)) (n : b ≠ a) (e : H b = some o) : H' b = some o := (rm_some (s b o (by rw [rm_ne n]; exact e))).2
theorem sr_free {H H' : Hp} {a b : Addr} (s : Same (rm H a) (rm H' a)) (n : b ≠ a) (e : H' b = none) : H b = none := by
  have z := s.free (l := b) (by rw [rm_ne n]; exact e)
  rw [rm_ne n] at z
  exact z
theorem sr_draw {H : Hp} {a : Addr} {o : HO} : Same (rm H a) (rm (upd H a o) a) := by
  rw [rm_upd]
  exact .refl _
theorem only_rmD {H H' : Hp} {a : Addr} {w : List V} (s : Same (rm H a) (rm H' a)) (ha : H a = some (.lst w)) : Same (only H H') (rm H' a) := fun b o h => by
  have n : b ≠ a := fun z => by
    subst z
    unfold only at h
    rw [ha] at h
    cases h
  rw [rm_ne n]
  unfold only at h
  split at h
  · exact h
  · rename_i xs hx
    rw [← h]
    exact sr_at s n hx
  · cases h
theorem well_same {H H' : Hp} {a : Addr} (s : Same H H') (h : Well H a) : Well H' a := by
  obtain ⟨u0, u1, u2, h⟩ := h
  exact ⟨u0, u1, u2, s _ _ h⟩
theorem well_ne {H : Hp} {a b : Addr} (h : Well H a) (n : H b = none) : b ≠ a := fun e => by
  obtain ⟨_, _, _, w⟩ := h
  rw [e, w] at n
  cases n
theorem nat_of {z : Int} {n : Nat} (h0 : 0 ≤ z) (h1 : z < (n : Int)) : ∃ k : Nat, k < n ∧ z = (k : Int) := ⟨z.toNat, by omega, by omega⟩
theorem k_bt : ¬ (("between" : Str) = "_rows") := by decide +kernel
theorem k_bt2 : ¬ (("between" : Str) = "_ways") := by decide +kernel
theorem k_pc : ¬ (("pieces" : Str) = "_rows") := by decide +kernel
theorem k_pc2 : ¬ (("pieces" : Str) = "_ways") := by decide +kernel
theorem k_br : ¬ (("branch" : Str) = "_rows") := by decide +kernel
theorem k_br2 : ¬ (("branch" : Str) = "_ways") := by decide +kernel
/-- so many drawn rooms -/
theorem lc_well {n many i : Nat} {lo : Int} {te : TE} {σ : St} {H1 : Hp} {D a : Addr} {Qd : Hp → Prop} (hD : H1 D = none) (hW : Well H1 a) (hn : n ≤ 1000)
    (he : ∀ x Hc (R : V → Hp → Prop), Same (rm H1 a) (rm Hc a) → Well Hc a → (∀ (z : Nat) (w0 w1 w2 : Int), z < many → R (vn z) (upd Hc a (.lst [.int w0, .int w1, .int w2]))) → te ((wipe σ [i]).set i (some x)) Hc R)
    (hd : ∀ H2 L, Same (rm H1 a) (rm H2 a) → Well H2 a → NL H2 D L → L.length = n → (∀ x ∈ L, x < many) → Qd H2) :
    ∃ W : Nat → Nat → Hp → Prop, (∃ m, W 0 m (upd H1 D (.lst []))) ∧ ∀ k m H, W k m H →
      ((Itr lo n).stop k H ∧ Qd H) ∨ ((Itr lo n).go k H ∧ ∃ Nx : Hp → Prop, (∀ H', Nx H' → ∃ m', m' < m ∧ W (k + 1) m' H') ∧ ∀ x H', (Itr lo n).yld k H x H' → gName i x (wipe σ [i]) H' fun σ2 H2 => wipe σ2 [i] = wipe σ [i] ∧ tYes σ2 H2 fun b H3 =>
        if b = true then te σ2 H3 fun y H4 => ∃ acc, H4 D = some (.lst acc) ∧ acc.length < sizeLine ∧ Nx (upd H4 D (.lst (acc ++ [y]))) else Nx H3) := by
  have Da : D ≠ a := fun e => by
    obtain ⟨_, _, _, w⟩ := hW
    rw [e, w] at hD
    cases hD
  refine ⟨fun k m H => m = n - k ∧ k ≤ n ∧ Same (rm H1 a) (rm H a) ∧ Well H a ∧ ∃ L, NL H D L ∧ L.length = k ∧ ∀ x ∈ L, x < many, ⟨n, by simp, Nat.zero_le _, ?_, ?_, [], upd_same, rfl, fun x h => nomatch h⟩, ?_⟩
  · intro b o e
    obtain ⟨e1, e2⟩ := rm_some e
    rw [rm_ne e1, upd_ne (ne_of_none e2 hD)]
    exact e2
  · obtain ⟨w0, w1, w2, w⟩ := hW
    exact ⟨w0, w1, w2, by rw [upd_ne Da.symm]; exact w⟩
  · rintro k m Hc ⟨rfl, hk1, s, w, L, hL, el, hl⟩
    by_cases hlt : k < n
    · refine .inr ⟨(walk_range (lo := lo) (n := n)).goes k Hc hlt True.intro, fun H => k + 1 ≤ n ∧ Same (rm H1 a) (rm H a) ∧ Well H a ∧ ∃ L, NL H D L ∧ L.length = k + 1 ∧ ∀ x ∈ L, x < many, fun H' h => ⟨n - (k + 1), by omega, rfl, h⟩, fun y H' hy => ?_⟩
      obtain ⟨rfl, _⟩ := (walk_range (lo := lo) (n := n)).yields k Hc y H' hlt True.intro hy
      refine ⟨wipe_one, ?_⟩
      unfold tYes
      dsimp only
      rw [if_pos rfl]
      refine he y _ _ s w fun z w0 w1 w2 hz => ?_
      refine ⟨L.map vn, by rw [upd_ne Da]; exact hL, by rw [List.length_map]; exact small1000 (by omega), hlt, ?_, ⟨w0, w1, w2, by rw [upd_ne Da.symm, upd_same]⟩, L ++ [z], by unfold NL; rw [upd_same, List.map_append]; rfl, by rw [List.length_append, el]; rfl, fun x hx => ?_⟩
      · intro b o e
        obtain ⟨e1, e2⟩ := rm_some e
        rw [rm_ne e1, upd_ne (ne_of_none e2 hD), upd_ne e1]
        exact sr_at s e1 e2
      · rcases List.mem_append.mp hx with h | h
        · exact hl x h
        · rw [List.mem_singleton.mp h]; exact hz
    · have e : k = n := by omega
      subst e
      exact .inl ⟨(walk_range (lo := lo) (n := k)).stops Hc True.intro, hd Hc L s w hL el hl⟩
end G

namespace G
open PySem L2 GM
def spPcs (C : Addr) : Sp := fun vs H Q E => spPcsL C vs H Q E ∨ spPcsT C vs H Q E
def spRoomsR (C : Addr) : Sp := fun vs H Q _ => ∃ (a x q : Addr) (ws : List Way) (told : List Nat), vs = [.ref a, .ref x, .ref q] ∧ Well H a ∧ TreeAt C (rm H a) x ws ∧ LL (rm H a) q (rows ws) ∧ ws.length ≤ 59 ∧ Grown told ws ∧ ∀ H', Same (rm H a) (rm H' a) → Well H' a → Q (.bl true) H'
structure LO (P : Program) (w : World) (K : PySem.W.Frag) (mg : Str → Option Value) (base : Heap) (C : Addr) : Prop where
  L_law_draw : Cal P w K mg base "_law_draw" 1 ["well", "many"] spDraw
  L_law_between_right : Cal P w K mg base "_law_between_right" 1 ["near", "one", "other", "told"] spBtw
  L_law_pieces : Cal P w K mg base "_law_pieces" 2 ["near", "without"] spLpcs
  L_law_hanging : Cal P w K mg base "_law_hanging" 1 ["near", "room", "without"] spHangL
  L_Tbetween : CalM P w K mg base C "between" 5 ["self", "one", "other"] (spBetween C)
  L_Tpieces : CalM P w K mg base C "pieces" 5 ["self", "without"] (spPcs C)
  L_TbranchK : CalMK P w K mg base C "branch" 5 1 ["self", "room", "away"] ["away"] (spBranch C)
theorem lpcs_mem {ws : List Way} {W : List Nat} : ∀ (i : Nat), ∀ r ∈ lpcs ws W i, r.length ≤ ws.length + 1
  | 0, r, h => by
    have := lpcs_len (ws := ws) (W := W) (i := 0)
    have e : lpcs ws W 0 = [] := List.length_eq_zero_iff.mp (by omega)
    rw [e] at h
    cases h
  | i + 1, r, h => by
    rw [lpcs_succ] at h
    rcases List.mem_append.mp h with h | h
    · exact lpcs_mem i r h
    · split at h
      · rw [List.mem_singleton.mp h]
        exact hang_len
      · cases h
theorem getD_of {α : Type} {l : List α} {i : Nat} {d x : α} (h : l[i]? = some x) : l.getD i d = x := by
  rw [List.getD_eq_getElem?_getD, h]
  rfl
section
variable {P : Program} {w : World} {K : PySem.W.Frag} {mg : Str → Option Value} {base : Heap} {C : Addr}
theorem scRoomsR : FnScope ["well", "tree", "near", "many", "one", "other", "some", "told", "piece", "far", "k"] ["well", "tree", "near"] (defScope s__law_rooms_right) := ⟨rfl, rfl, rfl, by decide +kernel, rfl, by decide +kernel, by decide +kernel⟩
theorem ok_roomsr {f : Addr} {fd : FuncData} (F : Fun K "_law_rooms_right" "_law_rooms_right" s__law_rooms_right f fd) (T : TxB K mg C) (LL0 : LO P w K mg base C) : FnOk P w K mg base CX0 6 f fd ["well", "tree", "near"] (spRoomsR C) := by
  refine F.ok scRoomsR (fun vs H Q E h => ?_) (fun cdv A outer s H vs Q E hr h => ?_)
  · obtain ⟨a, x, q, ws, told, rfl, _⟩ := h
    rfl
  · obtain ⟨a, x, q, ws, told, rfl, hW, TT, hq, hl, hG, k⟩ := h
    obtain ⟨L_law_draw, L_law_between_right, L_law_pieces, L_law_hanging, L_Tbetween, L_Tpieces, L_TbranchK⟩ := LL0
    have hu := hr.units
    refine ⟨_, (pss_cons (ps_set (i := 3) scRoomsR.nd rfl (Or.inr rfl) (pe_callB call_len_seq (by rfl) T.len PySem.boot_len (pa_cons (pv 2) pa_nil)))
      (pss_cons (ps_par (i := 4) (j := 5) (by rfl) scRoomsR.nd rfl rfl (by decide) rfl rfl (pa_cons (L_law_draw.pe (hr.mono (by decide)) rfl (pa_cons (pv 0) (pa_cons (pv 3) pa_nil))) (pa_cons (L_law_draw.pe (hr.mono (by decide)) rfl (pa_cons (pv 0) (pa_cons (pv 3) pa_nil))) pa_nil)) (by rfl))
      (pss_cons (ps_if (pt_not (pt_val (L_law_between_right.pe (hr.mono (by decide)) rfl (pa_cons (pv 2) (pa_cons (pv 4) (pa_cons (pv 5) (pa_cons (L_Tbetween.pe (hr.mono (by decide)) (pv 1) (pa_cons (pv 4) (pa_cons (pv 5) pa_nil))) pa_nil))))))) (pss_one (ps_ret pe_bl)) pss_nil)
      (pss_cons (ps_setLc (i := 6) (own := [("k", 10)]) (g := gName 10) (tt := tYes) rfl scRoomsR.nd rfl rfl (sw_true rfl rfl rfl (by decide +kernel)) (pi_range1 (by rfl) T.rg (pa_cons (L_law_draw.pe (hr.mono (by decide)) rfl (pa_cons (pv 0) (pa_cons pe_int pa_nil))) pa_nil)) (blkOk_by (N := ["well", "tree", "near", "many", "one", "other", "some", "told", "piece", "far", "k"]) (sc := defScope s__law_rooms_right) (by decide +kernel)) (fun _ _ _ _ _ => pg_name (i := 10) scRoomsR.nd rfl (Or.inl rfl)) (fun _ _ _ _ _ => pts_nil) (fun _ _ _ _ _ => (L_law_draw.pe (hr.mono (by decide)) rfl (pa_cons (pv 0) (pa_cons (pv 3) pa_nil)))))
      (pss_cons (ps_set (i := 7) scRoomsR.nd rfl (Or.inl rfl) (L_Tpieces.pe (hr.mono (by decide)) (pv 1) (pa_cons (pv 6) pa_nil)))
      (pss_cons (ps_if (PW.pt (pw_or (pt_cmpR (op_neD hu) (pv 7) (L_law_pieces.pe (hr.mono (by decide)) rfl (pa_cons (pv 2) (pa_cons (pv 6) pa_nil))) (nomark _)) (pw_or1 (pt_cmpR (op_neD hu) (L_Tpieces.pe (hr.mono (by decide)) (pv 1) (pa_cons (pe_callTy call_tuple_of (by rfl) T.tup PyProof.Rows.boot_tuple (pa_cons (pv 6) pa_nil)) pa_nil)) (pv 7) (nomark _))))) (pss_one (ps_ret pe_bl)) pss_nil)
      (pss_cons (ps_for PassesOwn.never rfl (pi_list (pe_op op_catR (pv 7) (pe_lst (pa_cons (L_Tbetween.pe (hr.mono (by decide)) (pv 1) (pa_cons (pv 4) (pa_cons (pv 5) pa_nil))) pa_nil)))) (pg_name (i := 8) scRoomsR.nd rfl (Or.inl rfl))
        (pss_one (ps_expr (pe_bm PySem.F.plainAttrs_list PySem.F.slot_list_append PySem.F.type_list_append mt_append (pv 8) (pa_cons (pe_un un_neg pe_int) pa_nil)))))
      (pss_cons (ps_expr (pe_bm PySem.F.plainAttrs_list PySem.F.slot_list_append PySem.F.type_list_append mt_append (pv 7) (pa_cons (pe_lst pa_nil) pa_nil)))
      (pss_cons (ps_if (pt_cmpR (op_neD hu) (L_Tpieces.pe (hr.mono (by decide)) (pv 1) (pa_cons (pv 6) pa_nil)) (L_law_pieces.pe (hr.mono (by decide)) rfl (pa_cons (pv 2) (pa_cons (pv 6) pa_nil))) (nomark _)) (pss_one (ps_ret pe_bl)) pss_nil)
      (pss_cons (ps_if (pt_not (pt_val (L_law_between_right.pe (hr.mono (by decide)) rfl (pa_cons (pv 2) (pa_cons (pv 4) (pa_cons (pv 5) (pa_cons (L_Tbetween.pe (hr.mono (by decide)) (pv 1) (pa_cons (pv 4) (pa_cons (pv 5) pa_nil))) pa_nil))))))) (pss_one (ps_ret pe_bl)) pss_nil)
      (pss_cons (ps_if (pt_cmpR (op_eqD hu) (pe_ix ix_list (pv 2) (pv 4) (fun _ _ => rfl)) (pe_lst pa_nil) (nomark _)) (pss_one (ps_ret pe_bl)) pss_nil)
      (pss_cons (ps_set (i := 9) scRoomsR.nd rfl (Or.inl rfl) (pe_ix ix_list (pe_ix ix_list (pv 2) (pv 4) (fun _ _ => rfl)) (L_law_draw.pe (hr.mono (by decide)) rfl (pa_cons (pv 0) (pa_cons (pe_callB call_len_seq (by rfl) T.len PySem.boot_len (pa_cons (pe_ix ix_list (pv 2) (pv 4) (fun _ _ => rfl)) pa_nil)) pa_nil))) (fun _ _ => rfl)))
      (pss_cons (ps_set (i := 7) scRoomsR.nd rfl (Or.inl rfl) (L_TbranchK.pe (hr.mono (by decide)) (pv 1) (pa_cons (pv 4) pa_nil) (pk_cons (pv 9) pk_nil)))
      (pss_cons (ps_if (PW.pt (pw_or (pt_cmpR (op_neD hu) (pv 7) (L_law_hanging.pe (hr.mono (by decide)) rfl (pa_cons (pv 2) (pa_cons (pv 4) (pa_cons (pe_lst (pa_cons (pv 9) pa_nil)) pa_nil)))) (nomark _)) (pw_or1 (pt_cmpR (op_neD hu) (pe_callB cr_sortedI (by rfl) T.srt PyProof.Rows.boot_sorted (pa_cons (pe_op op_catR (pv 7) (L_TbranchK.pe (hr.mono (by decide)) (pv 1) (pa_cons (pv 9) pa_nil) (pk_cons (pv 4) pk_nil))) pa_nil)) (pe_listRg rfl rfl T.list (prg_1 rfl T.rg (pv 3))) (nomark _))))) (pss_one (ps_ret pe_bl)) pss_nil)
      (pss_cons (ps_expr (pe_bm0 PySem.F.plainAttrs_list PySem.F.slot_list_clear PySem.F.type_list_clear mt_clear (pv 7)))
      (pss_one (ps_ret (pe_cmpR (op_eqD hu) (L_TbranchK.pe (hr.mono (by decide)) (pv 1) (pa_cons (pv 4) pa_nil) (pk_cons (pv 9) pk_nil)) (L_law_hanging.pe (hr.mono (by decide)) rfl (pa_cons (pv 2) (pa_cons (pv 4) (pa_cons (pe_lst (pa_cons (pv 9) pa_nil)) pa_nil)))) (nomark _))))))))))))))))))), ?_⟩
    have hw := grown_ww hG
    have TT0 := TT.same (rm_same H a)
    have hq0 := hq.same (rm_same H a)
    obtain ⟨u0, u1, u2, hW0⟩ := id hW
    -- many, one, other
    obtain ⟨qas, gq1, gq2⟩ := id hq0
    have hlen : qas.length = ws.length + 1 := by rw [gq2.1, rows_length]
    refine ⟨_, rfl, q, _, rfl, .inl (SqL.of gq1), ?_⟩
    rw [List.length_map, hlen]
    refine ⟨_, rfl, _, rfl, a, (ws.length + 1 : Nat), rfl, hW, by omega, by omega, fun z p0 p1 p2 a1 b1 => ?_⟩
    obtain ⟨one, h1, rfl⟩ := nat_of a1 b1
    refine ⟨_, rfl, _, rfl, a, (ws.length + 1 : Nat), rfl, ⟨_, _, _, upd_same⟩, by omega, by omega, fun z x0 x1 x2 a2 b2 => ?_⟩
    obtain ⟨other, h2, rfl⟩ := nat_of a2 b2
    generalize hG2 : upd _ a _ = G2
    have s2 : Same (rm H a) (rm G2 a) := by rw [← hG2, rm_upd, rm_upd]; exact .refl _
    have w2 : Well G2 a := ⟨_, _, _, hG2 ▸ upd_same⟩
    clear hG2
    refine ⟨_, _, rfl, ?_⟩
    -- the rooms between
    obtain ⟨d, N⟩ := grown_near hG h2
    have TT2 := (TT.same s2).same (rm_same G2 a)
    have hq2 := (hq.same s2).same (rm_same G2 a)
    obtain ⟨dx, lw, lr, ip, _⟩ := id TT2
    refine ⟨_, rfl, _, rfl, _, rfl, _, rfl, x, dx, _, rfl, ip, flds_no _ _ k_bt k_bt2, _, rfl, _, rfl, x, one, other, ws, d, rfl, TT2, hl, hw, h1, h2, N, fun G3 t3 l3 s3 n3 hp3 ht3 => ?_⟩
    refine ⟨q, t3, one, other, ws, d, l3, rfl, hq2.same s3, hl, hw, h1, ht3, hp3, fun G4 s4 => ?_⟩
    refine ⟨true, rfl, iteF ?_⟩
    have s24 : Same G2 G4 := s3.trans s4
    have r4 : Same (rm H a) (rm G4 a) := s2.trans (rm_mono a s24)
    have w4 := well_same s24 w2
    clear s3 s4 ht3 hp3 n3
    -- some
    refine ⟨_, rfl, a, 5, rfl, w4, by decide, by decide, fun z y0 y1 y2 a3 b3 => ?_⟩
    obtain ⟨n5, hn5, rfl⟩ := nat_of (n := 5) a3 b3
    generalize hG5 : upd _ a _ = G5
    have r5 : Same (rm H a) (rm G5 a) := by rw [← hG5, rm_upd]; exact r4
    have w5 : Well G5 a := ⟨_, _, _, hG5 ▸ upd_same⟩
    clear hG5
    refine ⟨_, rfl, by omega, by omega, fun S nS => ?_⟩
    refine lc_well (n := n5) (many := ws.length + 1) nS w5 (by omega) ?_ ?_
    · intro v Hc R s w kR
      refine ⟨_, rfl, _, rfl, a, (ws.length + 1 : Nat), rfl, w, by omega, by omega, fun z w0 w1 w2 e1 e2 => ?_⟩
      obtain ⟨n, hn, rfl⟩ := nat_of e1 e2
      exact kR n w0 w1 w2 hn
    intro G6 L s6 w6 hS el hL
    have Sa : S ≠ a := well_ne w5 nS
    have r6 : Same (rm H a) (rm G6 a) := r5.trans s6
    have TT6 := (TT.same r6).same (rm_same G6 a)
    have hq6 := (hq.same r6).same (rm_same G6 a)
    obtain ⟨dx6, _, _, ip6, _⟩ := id TT6
    refine ⟨_, rfl, x, dx6, _, rfl, ip6, flds_no _ _ k_pc k_pc2, _, rfl, .inl ⟨x, S, ws, L, rfl, TT6, hl, hw, hS, hL, by omega, fun G7 t s7 n7 hLL => ?_⟩⟩
    have ht7 := hLL.same (only_same s7)
    have hS7 := hS.same s7
    refine ⟨_, rfl, _, rfl, _, rfl, q, S, ws, L, rfl, hq6.same s7, hl, hw, hS7, fun G8 r s8 n8 hR => ?_⟩
    have hR8 := hR.same (only_same s8)
    have ht8 := ht7.same s8
    refine ne_ll ht8 hR8 ⟨_, rfl, ?_⟩
    rw [decide_eq_false (fun h => h (pcs_lpcs hw))]
    have TT8 := TT6.same (s7.trans s8)
    obtain ⟨dx8, _, _, ip8, _⟩ := id TT8
    have hS8 := hS7.same s8
    refine iteF ⟨_, rfl, x, dx8, _, rfl, ip8, flds_no _ _ k_pc k_pc2, _, rfl, S, _, rfl, .inl ⟨SqL.of hS8, fun tp ntp => ?_⟩⟩
    generalize hG9 : upd _ tp _ = G9
    have s9 : Same G8 G9 := hG9 ▸ same_new ntp
    have htp : NT G9 tp L := hG9 ▸ upd_same
    clear hG9
    refine .inr ⟨x, tp, ws, L, rfl, TT8.same s9, hl, hw, htp, hL, by omega, fun G10 t2 s10 n10 hLL2 => ?_⟩
    have s7A : Same G7 G10 := s8.trans (s9.trans s10)
    refine ⟨_, rfl, ne_ll (hLL2.same (only_same s10)) (ht7.same s7A) ⟨_, rfl, ?_⟩⟩
    rw [decide_eq_false (fun h => h rfl)]
    refine iteF ?_
    -- the told pieces, and the rooms between, are changed
    have s6A : Same G6 G10 := s7.trans s7A
    have hLLA : LL (only G6 G10) t (pcs ws L) := hLL.same fun b o e => by
      unfold only at e ⊢
      split at e
      · rename_i h; exact s7A _ _ e
      · exact e
      · cases e
    have nt6 : G6 t = none := n7
    have TTA := TT6.same s6A
    have hSA := hS.same s6A
    have wA := well_same s6A w6
    have rA : Same (rm H a) (rm G10 a) := r6.trans (rm_mono a s6A)
    have fA : ∀ b, G10 b = none → G6 b = none := fun b e => s6A.free e
    have aN6 : G6 a ≠ none := fun e => by
      obtain ⟨_, _, _, w⟩ := w6
      rw [w] at e
      cases e
    have SN6 : G6 S ≠ none := fun e => by
      rw [NL, e] at hS
      cases hS
    clear hR8 hR ht7 ht8 hLL2 htp
    obtain ⟨as, htl, hLs⟩ := hLLA
    have htA : G10 t = some (.lst (as.map V.ref)) := by
      rw [only_new nt6] at htl
      exact htl
    have epl : pcs ws L = lpcs ws L (ws.length + 1) := pcs_lpcs hw
    have lenas : as.length ≤ 60 := by
      rw [hLs.1, epl]
      have := lpcs_len (ws := ws) (W := L) (i := ws.length + 1)
      omega
    have has : ∀ b ∈ as, G6 b = none ∧ b ≠ t ∧ ∃ ys, G10 b = some (.lst ys) ∧ ys.length ≤ 100 := fun b hb => by
      obtain ⟨i, hi, ei⟩ := List.getElem_of_mem hb
      have e1 : as[i]? = some b := by rw [List.getElem?_eq_getElem hi, ei]
      have hn := hLs.2 i b e1
      have lr : ((pcs ws L).getD i []).length ≤ 60 := by
        have hi2 : i < (pcs ws L).length := by rw [← hLs.1]; exact hi
        rw [List.getD_eq_getElem?_getD, List.getElem?_eq_getElem hi2]
        have := lpcs_mem (ws := ws) (W := L) (ws.length + 1) ((pcs ws L)[i]) (by rw [← epl]; exact List.getElem_mem hi2)
        show ((pcs ws L)[i]).length ≤ 60
        omega
      generalize (pcs ws L).getD i [] = r at hn lr
      have n6 : G6 b = none := by
        cases e : G6 b with
        | none => rfl
        | some o =>
          unfold NL only at hn
          rw [e] at hn
          cases o <;> cases hn
      have hn2 : G10 b = some (.lst (r.map vn)) := by
        unfold NL at hn
        rw [only_new n6] at hn
        exact hn
      refine ⟨n6, fun e => ?_, _, hn2, by rw [List.length_map]; omega⟩
      rw [e, htA] at hn2
      have h3 : as.map V.ref = r.map vn := HO.lst.inj (Option.some.inj hn2)
      cases as with
      | nil => cases hb
      | cons a0 as0 =>
        cases r with
        | nil => cases h3
        | cons r0 rs0 => cases (List.cons.inj h3).1
    obtain ⟨dxA, _, _, ipA, _⟩ := id TTA
    refine ⟨_, rfl, _, rfl, x, dxA, _, rfl, ipA, flds_no _ _ k_bt k_bt2, _, rfl, _, rfl, x, one, other, ws, d, rfl, TTA, hl, hw, h1, h2, N, fun G11 t4 l4 s11 n11 hp4 ht4 => ?_⟩
    have l4len : l4.length ≤ 60 := by
      have := nd_len (ws := ws) hp4.nodup (hp4.all (fun u v h => by
        have := (graph_rows hw).lt _ _ h
        rw [rows_length] at this
        exact this) h1)
      omega
    refine ⟨(by show 1 ≤ sizeLine; decide), fun lb nlb => ?_⟩
    generalize hG12 : upd _ lb _ = G12
    have s12 : Same G11 G12 := hG12 ▸ same_new nlb
    have hlb : G12 lb = some (.lst [V.ref t4]) := hG12 ▸ upd_same
    clear hG12
    refine ⟨t, lb, _, _, rfl, rfl, SqL.of (s12 _ _ (s11 _ _ htA)), SqL.of hlb, small1000 (by rw [List.length_map]; omega), fun c nc => ?_⟩
    rw [show as.map V.ref ++ [V.ref t4] = (as ++ [t4]).map V.ref by rw [List.map_append]; rfl]
    generalize hG13 : upd _ c _ = G13
    have s13 : Same G12 G13 := hG13 ▸ same_new nc
    have hc : G13 c = some (.lst ((as ++ [t4]).map V.ref)) := by
      rw [← hG13, upd_same]
    clear hG13
    have sA3 : Same G10 G13 := s11.trans (s12.trans s13)
    have cN : G6 c = none := fA c (s11.free (s12.free nc))
    have items : ∀ b ∈ as ++ [t4], G6 b = none ∧ b ≠ t ∧ b ≠ c ∧ ∃ ys, G13 b = some (.lst ys) ∧ ys.length ≤ 100 := fun b hb => by
      rcases List.mem_append.mp hb with h | h
      · obtain ⟨e1, e2, ys, e3, e4⟩ := has b h
        exact ⟨e1, e2, ne_of_none (s12 _ _ (s11 _ _ e3)) nc, ys, sA3 _ _ e3, e4⟩
      · have e := List.mem_singleton.mp h
        subst e
        refine ⟨fA _ n11, (ne_of_none htA n11).symm, ne_of_none (s12 _ _ ht4) nc, _, s13 _ _ (s12 _ _ ht4), by rw [List.length_map]; omega⟩
    have ilen : (as ++ [t4]).length ≤ 61 := by rw [List.length_append]; simp only [List.length_cons, List.length_nil]; omega
    have fresh : ∀ b, G6 b = none → H b = none ∧ b ≠ a ∧ b ≠ S := fun b e => by
      have n1 : b ≠ a := fun z => aN6 (z ▸ e)
      exact ⟨sr_free r6 n1 e, n1, fun z => SN6 (z ▸ e)⟩
    generalize hitems : as ++ [t4] = its at hc items ilen
    refine ⟨c, rfl, ⟨_, SqL.of hc⟩, for_list (K := K) (a := c) (xs := its.map V.ref) (fun j σ Hd => ∃ v8, σ = [some (.ref a), some (.ref x), some (.ref q), some (vn (ws.length + 1)), some (vn one), some (vn other), some (.ref S), some (.ref t), v8, none, none] ∧ Same (rm H a) (rm Hd a) ∧ Well Hd a ∧ Hd c = some (.lst (its.map V.ref)) ∧ NL Hd S L ∧ Hd t = some (.lst (as.map V.ref)) ∧ ∀ b ∈ its, ∃ ys, Hd b = some (.lst ys) ∧ ys.length ≤ 100 + j)
      ⟨none, rfl, rA.trans (rm_mono a sA3), well_same sA3 wA, hc, hSA.same sA3, sA3 _ _ htA, fun b hb => by obtain ⟨_, _, _, ys, e1, e2⟩ := items b hb; exact ⟨ys, e1, e2⟩⟩ (fun j σ Hd _ ⟨_, _, _, _, e, _⟩ => SqL.of e) ?_ ?_⟩
    · rintro j y σ Hd hj ⟨v8, rfl, sd, wd, hcd, hSd, htd, hit⟩
      rw [List.getElem?_map] at hj
      obtain ⟨b, hb, rfl⟩ : ∃ b, its[j]? = some b ∧ y = V.ref b := by
        cases e : its[j]? with
        | none => rw [e] at hj; cases hj
        | some z => rw [e] at hj; exact ⟨z, rfl, (Option.some.inj hj).symm⟩
      have hbm := List.mem_of_getElem? hb
      have hj2 := (List.getElem?_eq_some_iff.mp hb).1
      obtain ⟨b6, bt, bc, _⟩ := items b hbm
      obtain ⟨bH, ba, bS⟩ := fresh b b6
      obtain ⟨ys, hys, lys⟩ := hit b hbm
      refine ⟨_, rfl, .inl ⟨rfl, _, SqL.of hys⟩, 1, rfl, b, _, _, rfl, rfl, hys, small1000 (by omega), ?_⟩
      refine ⟨_, rfl, fun e o k => ?_, ?_, ?_, ?_, ?_, fun b' hb' => ?_⟩
      · obtain ⟨k1, k2⟩ := rm_some k
        rw [rm_ne k1, upd_ne (ne_of_none k2 bH)]
        exact sr_at sd k1 k2
      · obtain ⟨w0, w1, w2, w⟩ := wd
        exact ⟨w0, w1, w2, by rw [upd_ne ba.symm]; exact w⟩
      · rw [upd_ne bc.symm]; exact hcd
      · unfold NL; rw [upd_ne bS.symm]; exact hSd
      · rw [upd_ne bt.symm]; exact htd
      · by_cases e : b' = b
        · subst e
          exact ⟨_, upd_same, by rw [List.length_append]; simp only [List.length_cons, List.length_nil]; omega⟩
        · obtain ⟨zs, e1, e2⟩ := hit b' hb'
          exact ⟨zs, by rw [upd_ne e]; exact e1, by omega⟩
    rintro σ Hd ⟨v8, rfl, rd, wd, hcd, hSd, htd, _⟩
    -- told.append([])
    have tH : H t = none := (fresh t nt6).1
    have ta : t ≠ a := (fresh t nt6).2.1
    have tS : t ≠ S := (fresh t nt6).2.2
    refine ⟨_, rfl, .inl ⟨rfl, _, SqL.of htd⟩, (by show 0 ≤ sizeLine; decide), fun le nle => ?_⟩
    generalize hGe : upd _ le _ = Ge
    have se : Same Hd Ge := hGe ▸ same_new nle
    clear hGe
    refine ⟨t, _, _, rfl, rfl, se _ _ htd, small1000 (by rw [List.length_map]; omega), ?_⟩
    generalize hG20 : upd _ t _ = G20
    have r20 : Same (rm H a) (rm G20 a) := fun e o k => by
      obtain ⟨k1, k2⟩ := rm_some k
      rw [rm_ne k1, ← hG20, upd_ne (ne_of_none k2 tH)]
      exact se _ _ (sr_at rd k1 k2)
    have w20 : Well G20 a := by
      obtain ⟨w0, w1, w2, w⟩ := wd
      exact ⟨w0, w1, w2, by rw [← hG20, upd_ne ta.symm]; exact se _ _ w⟩
    have hS20 : NL G20 S L := by
      unfold NL
      rw [← hG20, upd_ne tS.symm]
      exact se _ _ hSd
    clear hG20
    clear hcd htd hSd wd rd se
    have TT20 := (TT.same r20).same (rm_same G20 a)
    have hq20 := (hq.same r20).same (rm_same G20 a)
    obtain ⟨dx20, _, _, ip20, _⟩ := id TT20
    refine ⟨_, rfl, x, dx20, _, rfl, ip20, flds_no _ _ k_pc k_pc2, _, rfl, .inl ⟨x, S, ws, L, rfl, TT20, hl, hw, hS20, hL, by omega, fun G21 t5 s21 n21 hL5 => ?_⟩⟩
    refine ⟨_, rfl, _, rfl, q, S, ws, L, rfl, hq20.same s21, hl, hw, hS20.same s21, fun G22 t6 s22 n22 hL6 => ?_⟩
    refine ne_ll ((hL5.same (only_same s21)).same s22) (hL6.same (only_same s22)) ⟨_, rfl, ?_⟩
    rw [decide_eq_false (fun h => h (pcs_lpcs hw))]
    have s2022 := s21.trans s22
    have TT22 := TT20.same s2022
    have hq22 := hq20.same s2022
    obtain ⟨dx22, _, _, ip22, _⟩ := id TT22
    refine iteF ⟨_, rfl, _, rfl, _, rfl, _, rfl, x, dx22, _, rfl, ip22, flds_no _ _ k_bt k_bt2, _, rfl, _, rfl, x, one, other, ws, d, rfl, TT22, hl, hw, h1, h2, N, fun G23 t7 l7 s23 n23 hp7 ht7 => ?_⟩
    refine ⟨q, t7, one, other, ws, d, l7, rfl, hq22.same s23, hl, hw, h1, ht7, hp7, fun G24 s24 => ?_⟩
    refine ⟨true, rfl, iteF ?_⟩
    have s2024 := s2022.trans (s23.trans s24)
    have r24 := r20.trans (rm_mono a s2024)
    have w24 := well_same s2024 w20
    have TT24 := TT20.same s2024
    have hq24 := hq20.same s2024
    clear hL5 hL6 ht7 hp7
    -- near[one]
    obtain ⟨as24, la, g1r, g2, g3r⟩ := (hq.same r24).at (r := one) (by rw [rows_length]; exact h1)
    have laa := (rm_some g3r).1
    have g1 := (rm_some g1r).2
    have g3 : NL G24 la (nb (rows ws) one) := (rm_some g3r).2
    refine ⟨_, rfl, _, rfl, q, _, _, _, rfl, rfl, SqL.of g1, g2, (by show 0 ≤ sizeLine; decide), fun e0 ne0 => ?_⟩
    generalize hG25 : upd _ e0 _ = G25
    have s25 : Same G24 G25 := hG25 ▸ same_new ne0
    have he0 : NL G25 e0 [] := hG25 ▸ upd_same
    clear hG25
    have r25 := r24.trans (rm_mono a s25)
    have w25 := well_same s25 w24
    refine eq_nl (g3.same s25) he0 ⟨_, rfl, ?_⟩
    by_cases hnil : nb (rows ws) one = []
    · rw [decide_eq_true hnil]
      exact iteT (k G25 r25 w25)
    rw [decide_eq_false hnil]
    have g1' := s25 _ _ g1
    have g3' := g3.same s25
    have npos : 0 < (nb (rows ws) one).length := List.length_pos_iff.mpr hnil
    have nlen := nb_len ws one
    refine iteF ⟨_, rfl, _, rfl, q, _, _, _, rfl, rfl, SqL.of g1', g2, _, rfl, _, rfl, _, rfl, q, _, _, _, rfl, rfl, SqL.of g1', g2, la, _, rfl, .inl (SqL.of g3'), a, _, rfl, w25, by rw [List.length_map]; omega, by rw [List.length_map]; omega, fun z v0 v1 v2 a6 b6 => ?_⟩
    rw [List.length_map] at b6
    obtain ⟨n6', hn6, rfl⟩ := nat_of a6 b6
    generalize hG26 : upd _ a _ = G26
    have r26' : Same (rm G25 a) (rm G26 a) := by rw [← hG26]; exact sr_draw
    have w26 : Well G26 a := ⟨_, _, _, hG26 ▸ upd_same⟩
    clear hG26
    have r26 := r25.trans r26'
    have TT26 := (TT.same r26).same (rm_same G26 a)
    have hq26 := (hq.same r26).same (rm_same G26 a)
    have g3' : NL G26 la (nb (rows ws) one) := sr_at r26' laa g3'
    obtain ⟨far, hfar⟩ : ∃ far, (nb (rows ws) one)[n6']? = some far := ⟨_, List.getElem?_eq_getElem hn6⟩
    have hfm : far ∈ nb (rows ws) one := List.mem_of_getElem? hfar
    have hfl : far < ws.length + 1 := by
      have := (graph_rows hw).lt _ _ hfm
      rw [rows_length] at this
      exact this
    have hof : one ∈ nb (rows ws) far := (graph_rows hw).sym _ _ hfm
    refine ⟨la, _, _, _, rfl, rfl, SqL.of g3', atI_nat (by rw [List.getElem?_map, hfar]; rfl), ?_⟩
    obtain ⟨dx26, _, _, ip26, _⟩ := id TT26
    refine ⟨_, rfl, x, dx26, _, rfl, ip26, flds_no _ _ k_br k_br2, _, rfl, _, rfl, rfl, rfl, x, one, far, ws, rfl, TT26, hl, hw, h1, hfm, fun G27 tb s27 n27 hb27 => ?_⟩
    refine ⟨_, rfl, _, rfl, _, rfl, _, rfl, (by show 1 ≤ sizeLine; decide), fun lf nlf => ?_⟩
    generalize hG28 : upd _ lf _ = G28
    have s28 : Same G27 G28 := hG28 ▸ same_new nlf
    have hlf : NL G28 lf [far] := hG28 ▸ upd_same
    clear hG28
    refine ⟨q, lf, one, ws, [far], rfl, (hq26.same s27).same s28, hl, hw, h1, hlf, fun G29 r9 s29 n29 hr29 => ?_⟩
    refine ne_nl ((hb27.same s28).same s29) hr29 ⟨_, rfl, ?_⟩
    rw [decide_eq_false (fun h => h rfl)]
    have s2629 := s27.trans (s28.trans s29)
    have TT29 := TT26.same s2629
    obtain ⟨dx29, _, _, ip29, _⟩ := id TT29
    refine iteF ⟨_, rfl, _, rfl, x, dx29, _, rfl, ip29, flds_no _ _ k_br k_br2, _, rfl, _, rfl, rfl, rfl, x, far, one, ws, rfl, TT29, hl, hw, hfl, hof, fun G30 tb2 s30 n30 hb30 => ?_⟩
    have hb27' : NL G30 tb (hang ws [far] one) := s30 _ _ ((s28.trans s29) _ _ hb27)
    have lh1 := hang_len (ws := ws) (W := [far]) (s := one)
    have lh2 := hang_len (ws := ws) (W := [one]) (s := far)
    refine ⟨tb, tb2, _, _, rfl, rfl, SqL.of hb27', SqL.of hb30, (by refine Nat.le_of_lt (small1000 ?_); rw [List.length_map, List.length_map]; omega), fun c' nc' => ?_⟩
    rw [← List.map_append]
    generalize hG31 : upd _ c' _ = G31
    have s31 : Same G30 G31 := hG31 ▸ same_new nc'
    have hc' : NL G31 c' (hang ws [far] one ++ hang ws [one] far) := hG31 ▸ upd_same
    clear hG31
    refine ⟨c', (hang ws [far] one ++ hang ws [one] far).map fun (n : Nat) => (n : Int), rfl, ?_, fun ns' sp perm pw nsp => ?_⟩
    · rw [List.map_map]; exact SqL.of hc'
    rw [srt_ints perm pw]
    generalize hG32 : upd _ sp _ = G32
    have s32 : Same G31 G32 := hG32 ▸ same_new nsp
    have hsp : NL G32 sp (srt (hang ws [far] one ++ hang ws [one] far)) := hG32 ▸ upd_same
    clear hG32
    refine ⟨_, rfl, ((ws.length + 1 : Nat) : Int), rfl, RgOk.of_le (by decide) (by omega) (by decide) (by omega), fun lz nlz => ?_⟩
    rw [rg_vn]
    generalize hG33 : upd _ lz _ = G33
    have s33 : Same G32 G33 := hG33 ▸ same_new nlz
    have hlz : NL G33 lz (List.range (ws.length + 1)) := hG33 ▸ upd_same
    clear hG33
    refine ne_nl (hsp.same s33) hlz ⟨_, rfl, ?_⟩
    obtain ⟨d', N'⟩ := grown_near hG hfl
    rw [decide_eq_false (fun h => h (branches hw N' hfl hfm))]
    -- told.clear()
    have s3033 := s31.trans (s32.trans s33)
    have htb33 : NL G33 tb (hang ws [far] one) := s3033 _ _ hb27'
    refine iteF ⟨_, rfl, .inl ⟨rfl, _, SqL.of htb33⟩, ?_⟩
    refine ⟨tb, _, rfl, rfl, htb33, ?_⟩
    generalize hG34 : upd _ tb _ = G34
    have s2633 : Same G26 G33 := s2629.trans (s30.trans s3033)
    have s34 : Same G26 G34 := fun b o e => by
      rw [← hG34, upd_ne (ne_of_none e n27)]
      exact s2633 _ _ e
    clear hG34
    have TT34 := TT26.same s34
    obtain ⟨dx34, _, _, ip34, _⟩ := id TT34
    refine ⟨_, rfl, x, dx34, _, rfl, ip34, flds_no _ _ k_br k_br2, _, rfl, _, rfl, rfl, rfl, x, one, far, ws, rfl, TT34, hl, hw, h1, hfm, fun G35 tb3 s35 n35 hb35 => ?_⟩
    refine ⟨_, rfl, _, rfl, _, rfl, (by show 1 ≤ sizeLine; decide), fun lf2 nlf2 => ?_⟩
    generalize hG36 : upd _ lf2 _ = G36
    have s36 : Same G35 G36 := hG36 ▸ same_new nlf2
    have hlf2 : NL G36 lf2 [far] := hG36 ▸ upd_same
    clear hG36
    refine ⟨q, lf2, one, ws, [far], rfl, ((hq26.same s34).same s35).same s36, hl, hw, h1, hlf2, fun G37 r10 s37 n37 hr37 => ?_⟩
    refine eq_nl ((hb35.same s36).same s37) hr37 ?_
    rw [decide_eq_true rfl]
    have s2637 := s34.trans (s35.trans (s36.trans s37))
    exact k G37 (r26.trans (rm_mono a s2637)) (well_same s2637 w26)
end
end G

/-! o.m(); lists of pairs compared; the rooms beside each room told in a list. -/
namespace G
open PySem L2 GM
theorem CalM.pe0 {X : Cx} {C : Addr} {m : Str} {k : Nat} {ps : List Str} {sp : Sp} {o : Expr} {ta : TE} {apos pos : Pos} {pl : Sem Bool} (L : CalM X.prog X.w X.K X.mg X.base C m k ps sp) (hr : Room k X.A) (he : PE X o ta)
    (ht : eval (.Call (.Attribute o m apos) [] [] pos) X.env = (do
      let ov ← eval o X.env
      standAt apos.atName
      let (f, first) ← holding [ov] (getMethod ov m pl)
      callWith pos f first (backTo pos (starEach [] X.env)) (backToKw pos (keywordEach [] X.env))) := by rfl) :
    PE X (.Call (.Attribute o m apos) [] [] pos) (tMeth C m sp [] E0 ta tNil) := by
  obtain ⟨f, fd, F, b, M⟩ := L.ex
  exact pe_meth0 he L.cl M F hr b .nil pass0 ht
/-- the own == -/
structure CalE (P : Program) (w : World) (K : PySem.W.Frag) (mg : Str → Option Value) (base : Heap) (C : Addr) (k : Nat) (sp : Sp) : Prop where
  ex : ∃ f fd, FnOk P w K mg base CX0 k f fd ["self", "other"] sp ∧ Binds K fd ["self", "other"] [] ∧ EqO K C f
def dLP (ws : List Way) : List PyData := ws.map fun w => PyData.tuple (dN [w.1, w.2])
theorem dp_lp {K : PySem.W.Frag} {H : Hp} : ∀ (as : List Addr) (ws : List Way), Pairs H as ws → DpAll K H (as.map V.ref) (dLP ws)
  | [], [], _ => .nil
  | [], _ :: _, h => by have := h.1; simp at this
  | _ :: _, [], h => by have := h.1; simp at this
  | a :: as, w :: ws, h => by
    have h0 : NT H a [w.1, w.2] := h.2 0 a rfl
    exact .cons (dp_nt h0) (dp_lp as ws ⟨by have := h.1; simpa using this, fun i b hb => h.2 (i + 1) b hb⟩)
theorem flat_lp {ws : List Way} : ∀ d ∈ dLP ws, Flat 1 d := fun d h => by
  obtain ⟨s, _, rfl⟩ := List.mem_map.mp h
  exact flat_tup flat_dN
theorem eqv_dLP : ∀ (l m : List Way), PyData.eqvAll (dLP l) (dLP m) = decide (l = m)
  | [], [] => rfl
  | [], _ :: _ => (decide_eq_false (by simp)).symm
  | _ :: _, [] => (decide_eq_false (by simp)).symm
  | a :: l, b :: m => by
    show (PyData.eqvAll (dN [a.1, a.2]) (dN [b.1, b.2]) && PyData.eqvAll (dLP l) (dLP m)) = _
    rw [eqv_dLP l m, eqv_dN]
    obtain ⟨a1, a2⟩ := a
    obtain ⟨b1, b2⟩ := b
    rw [← Bool.decide_and]
    apply decide_eq_decide.mpr
    simp only [List.cons.injEq, Prod.mk.injEq, and_true]
theorem eq_lp {K : PySem.W.Frag} {H : Hp} {p q : Addr} {l m : List Way} {Q : VK} (hp : LP H p l) (hq : LP H q m) (h : Q (.bl (decide (l = m))) H) : rEqD K (.ref p) (.ref q) H Q := by
  obtain ⟨as, h1, h2⟩ := hp
  obtain ⟨bs, g1, g2⟩ := hq
  refine ⟨_, _, .lst (SqL.of h1) (dp_lp as l h2), .lst (SqL.of g1) (dp_lp bs m g2), (flat_list flat_lp).shaped, (flat_list flat_lp).shaped, ?_⟩
  show Q (.bl (PyData.eqvAll (dLP l) (dLP m))) H
  rw [eqv_dLP]
  exact h
theorem ne_lpp {K : PySem.W.Frag} {H : Hp} {p q : Addr} {l m : List Way} {Q : VK} (hp : LP H p l) (hq : LP H q m) (h : Q (.bl (decide (l ≠ m))) H) : rNeD K (.ref p) (.ref q) H Q := by
  obtain ⟨as, h1, h2⟩ := hp
  obtain ⟨bs, g1, g2⟩ := hq
  refine ⟨_, _, .lst (SqL.of h1) (dp_lp as l h2), .lst (SqL.of g1) (dp_lp bs m g2), (flat_list flat_lp).shaped, (flat_list flat_lp).shaped, ?_⟩
  show Q (.bl (!PyData.eqvAll (dLP l) (dLP m))) H
  rw [eqv_dLP, not_dec]
  exact h
/-- a list of new lists, one for each number -/
theorem lc_lists {n i : Nat} {lo : Int} {te : TE} {σ : St} {H1 : Hp} {D : Addr} {Qd : Hp → Prop} (f : Nat → List Nat) (hD : H1 D = none) (hn : n ≤ 1000)
    (he : ∀ j Hc (R : V → Hp → Prop), j < n → Same H1 Hc → (∀ H3 b, Same Hc H3 → Hc b = none → NL H3 b (f j) → R (.ref b) H3) → te ((wipe σ [i]).set i (some (.int (lo + (j : Nat))))) Hc R)
    (hd : ∀ H2, Same H1 H2 → LL H2 D ((List.range n).map f) → Qd H2) :
    ∃ W : Nat → Nat → Hp → Prop, (∃ m, W 0 m (upd H1 D (.lst []))) ∧ ∀ k m H, W k m H →
      ((Itr lo n).stop k H ∧ Qd H) ∨ ((Itr lo n).go k H ∧ ∃ Nx : Hp → Prop, (∀ H', Nx H' → ∃ m', m' < m ∧ W (k + 1) m' H') ∧ ∀ x H', (Itr lo n).yld k H x H' → gName i x (wipe σ [i]) H' fun σ2 H2 => wipe σ2 [i] = wipe σ [i] ∧ tYes σ2 H2 fun b H3 =>
        if b = true then te σ2 H3 fun y H4 => ∃ acc, H4 D = some (.lst acc) ∧ acc.length < sizeLine ∧ Nx (upd H4 D (.lst (acc ++ [y]))) else Nx H3) := by
  refine ⟨fun k m H => m = n - k ∧ k ≤ n ∧ Same H1 H ∧ ∃ as : List Addr, H D = some (.lst (as.map V.ref)) ∧ (∀ b ∈ as, b ≠ D) ∧ Lists H as ((List.range k).map f), ⟨n, by simp, Nat.zero_le _, same_new hD, [], upd_same, (fun b h => nomatch h), rfl, fun i a h => by simp at h⟩, ?_⟩
  rintro k m Hc ⟨rfl, hk1, s, as, hL, nb, hLs⟩
  have el : as.length = k := by rw [hLs.1, List.length_map, List.length_range]
  by_cases hlt : k < n
  · refine .inr ⟨(walk_range (lo := lo) (n := n)).goes k Hc hlt True.intro, fun H => k + 1 ≤ n ∧ Same H1 H ∧ ∃ as : List Addr, H D = some (.lst (as.map V.ref)) ∧ (∀ b ∈ as, b ≠ D) ∧ Lists H as ((List.range (k + 1)).map f), fun H' h => ⟨n - (k + 1), by omega, rfl, h⟩, fun y H' hy => ?_⟩
    obtain ⟨rfl, rfl⟩ := (walk_range (lo := lo) (n := n)).yields k Hc y H' hlt True.intro hy
    refine ⟨wipe_one, ?_⟩
    unfold tYes
    dsimp only
    rw [if_pos rfl]
    refine he k _ _ hlt s fun H3 b s3 nb3 hb => ?_
    have hL3 := s3 _ _ hL
    have bD : b ≠ D := (ne_of_none hL nb3).symm
    refine ⟨as.map V.ref, hL3, by rw [List.length_map]; exact small1000 (by omega), hlt, fun c o e => ?_, as ++ [b], ?_, fun c hc => ?_, ?_, fun j c hc => ?_⟩
    · rw [upd_ne (ne_of_none e hD)]
      exact s3 _ _ (s _ _ e)
    · rw [upd_same, List.map_append]
      rfl
    · rcases List.mem_append.mp hc with h | h
      · exact nb c h
      · rw [List.mem_singleton.mp h]; exact bD
    · rw [List.length_append, el, List.length_map, List.length_range]; rfl
    · rw [List.range_succ, List.map_append]
      by_cases hj : j < k
      · rw [List.getElem?_append_left (by omega)] at hc
        have := hLs.2 j c hc
        unfold NL
        rw [upd_ne (nb c (List.mem_of_getElem? hc)), List.getD_eq_getElem?_getD, List.getElem?_append_left (by rw [List.length_map, List.length_range]; exact hj), ← List.getD_eq_getElem?_getD]
        exact s3 _ _ this
      · have hjl := (List.getElem?_eq_some_iff.mp hc).1
        rw [List.length_append, List.length_singleton] at hjl
        have ej : j = k := by omega
        subst ej
        rw [List.getElem?_append_right (by omega), el, Nat.sub_self] at hc
        have ec : c = b := (Option.some.inj hc).symm
        subst ec
        unfold NL
        rw [upd_ne bD, List.getD_eq_getElem?_getD, List.getElem?_append_right (by rw [List.length_map, List.length_range]; exact Nat.le_refl _), List.length_map, List.length_range, Nat.sub_self]
        exact hb
  · have e : k = n := by omega
    subst e
    exact .inl ⟨(walk_range (lo := lo) (n := k)).stops Hc True.intro, hd Hc s ⟨as, hL, hLs⟩⟩
theorem rows_range {ws : List Way} : (List.range (ws.length + 1)).map (nb (rows ws)) = rows ws := by
  apply List.ext_getElem
  · rw [List.length_map, List.length_range, rows_length]
  · intro i h1 h2
    rw [List.getElem_map, List.getElem_range]
    unfold nb
    rw [List.getD_eq_getElem?_getD, List.getElem?_eq_getElem h2]
    rfl
theorem lp_snoc {H : Hp} {l T0 L0 c : Addr} {ws : List Way} {r n : Nat} {as : List Addr} (hl : H l = some (.lst (as.map V.ref))) (hp : Pairs H as ws) (nT : H T0 = none) (nL : upd H T0 (.tup [vn r, vn n]) L0 = none)
    (nc : upd (upd H T0 (.tup [vn r, vn n])) L0 (.lst [V.ref T0]) c = none) :
    Same H (upd (upd (upd H T0 (.tup [vn r, vn n])) L0 (.lst [V.ref T0])) c (.lst (as.map V.ref ++ [V.ref T0]))) ∧ LP (upd (upd (upd H T0 (.tup [vn r, vn n])) L0 (.lst [V.ref T0])) c (.lst (as.map V.ref ++ [V.ref T0]))) c (ws ++ [(r, n)]) := by
  have s1 := same_new (o := .tup [vn r, vn n]) nT
  have s2 := same_new (o := .lst [V.ref T0]) nL
  have s3 := same_new (o := .lst (as.map V.ref ++ [V.ref T0])) nc
  have sA := s1.trans (s2.trans s3)
  refine ⟨sA, as ++ [T0], by rw [upd_same, List.map_append]; rfl, by rw [List.length_append, List.length_append, hp.1]; rfl, fun i a ha => ?_⟩
  by_cases hi : i < as.length
  · rw [List.getElem?_append_left hi] at ha
    have := hp.2 i a ha
    rw [List.getD_eq_getElem?_getD, List.getElem?_append_left (by rw [← hp.1]; exact hi), ← List.getD_eq_getElem?_getD]
    exact this.same sA
  · have hl2 := (List.getElem?_eq_some_iff.mp ha).1
    rw [List.length_append, List.length_singleton] at hl2
    have ei : i = as.length := by omega
    subst ei
    rw [List.getElem?_append_right (Nat.le_refl _), Nat.sub_self] at ha
    have ea : a = T0 := (Option.some.inj ha).symm
    subst ea
    rw [List.getD_eq_getElem?_getD, List.getElem?_append_right (by rw [hp.1]; exact Nat.le_refl _), hp.1, Nat.sub_self]
    exact s3 _ _ (s2 _ _ upd_same)
theorem cmp_tree {C : Addr} {H : Hp} {p p' : Addr} {W1 W2 : List Way} {neg : Bool} {Q : VK} (h1 : TreeAt C H p W1) (h2 : TreeAt C H p' W2) (h : Q (.bl (if neg = true then !decide (rows W1 = rows W2) else decide (rows W1 = rows W2))) H) :
    rCmpO C (spEqT C) neg (.ref p) (.ref p') H Q := by
  obtain ⟨dx, lw, lr, e1, _⟩ := id h1
  obtain ⟨dy, lw', lr', e2, _⟩ := id h2
  exact ⟨p, p', dx, _, rfl, rfl, e1, .inl ⟨dy, _, e2⟩, p, .ref p', W1, rfl, h1, .inl ⟨p', W2, rfl, h2, _, rfl, h⟩⟩
theorem rows_len_ne {W1 W2 : List Way} (h : W1.length ≠ W2.length) : rows W1 ≠ rows W2 := fun e => by
  have := congrArg List.length e
  rw [rows_length, rows_length] at this
  omega
theorem k_wr : ¬ (("with_room" : Str) = "_rows") := by decide +kernel
theorem k_wr2 : ¬ (("with_room" : Str) = "_ways") := by decide +kernel
theorem k_wy : ¬ (("ways" : Str) = "_rows") := by decide +kernel
theorem k_wy2 : ¬ (("ways" : Str) = "_ways") := by decide +kernel
theorem made_same {H : Hp} {C x dx : Addr} (nx : H x = none) (nd : H dx = none) : Same H (upd (upd H dx (.own x)) x (.ins C dx [])) := fun b o e => by
  rw [upd_ne (ne_of_none e nx), upd_ne (ne_of_none e nd)]
  exact e
/-- a tree of more than one room is none of one -/
theorem ends_and {C : Addr} {H : Hp} {x : Addr} {σ : St} {ws : List Way} {R : Bool → Hp → Prop} (h4 : σ[4]? = some (some (vn (ws.length + 1)))) (h0 : σ[0]? = some (some (.ref x))) (TX : TreeAt C H x ws) (k : ∀ Hz, Same H Hz → R false Hz) :
    tAnd (tTest (tOp (rI0 fun i j => V.bl (decide (j < i))) (tVar 4) (tC (V.int 1))))
      (tOr (tTest (tOp (rCmpO C (spEqT C) false) (tVar 0) (tMake C (spInit C) [] E0 (tCons (tLst tNil) tNil)))) (tTest (tOp (rCmpO C (spEqT C) false) (tMake C (spInit C) [] E0 (tCons (tLst tNil) tNil)) (tVar 0)))) σ H R := by
  refine ⟨_, h4, _, _, rfl, rfl, _, rfl, ?_⟩
  by_cases h : ws.length = 0
  · rw [decide_eq_false (by omega)]
    exact iteF (k H (.refl _))
  have ne : rows ws ≠ rows [] := rows_len_ne h
  rw [decide_eq_true (by omega)]
  refine iteT ⟨_, h0, (by show 0 ≤ sizeLine; decide), fun e ne1 => ?_⟩
  generalize hG1 : upd _ e _ = G1
  have s1 : Same H G1 := hG1 ▸ same_new ne1
  have le : LP G1 e [] := ⟨[], hG1 ▸ upd_same, rfl, fun i a h => by simp at h⟩
  clear hG1
  refine fun t dt nt ndt net => ?_
  have sm := made_same (C := C) nt ndt
  refine ⟨t, e, dt, [], rfl, upd_same, le.same sm, (by show 0 ≤ 59; decide), True.intro, fun G2 lw lr k2 hx hlw hlr => ⟨rfl, ?_⟩⟩
  obtain ⟨s2, T2⟩ := tree_made nt ndt net k2 hx hlw hlr
  have T2 := T2.same (only_same s2)
  have s12 := s1.trans s2
  refine cmp_tree (TX.same s12) T2 ⟨_, rfl, ?_⟩
  rw [if_neg (by decide), decide_eq_false ne]
  refine iteF ⟨(by show 0 ≤ sizeLine; decide), fun e3 ne3 => ?_⟩
  generalize hG3 : upd _ e3 _ = G3
  have s3 : Same G2 G3 := hG3 ▸ same_new ne3
  have le3 : LP G3 e3 [] := ⟨[], hG3 ▸ upd_same, rfl, fun i a h => by simp at h⟩
  clear hG3
  refine fun t3 dt3 nt3 ndt3 net3 => ?_
  have sm3 := made_same (C := C) nt3 ndt3
  refine ⟨t3, e3, dt3, [], rfl, upd_same, le3.same sm3, (by show 0 ≤ 59; decide), True.intro, fun G4 lw3 lr3 k4 hx4 hlw4 hlr4 => ⟨rfl, ?_⟩⟩
  obtain ⟨s4, T4⟩ := tree_made nt3 ndt3 net3 k4 hx4 hlw4 hlr4
  have T4 := T4.same (only_same s4)
  have s14 := s12.trans (s3.trans s4)
  refine ⟨_, h0, cmp_tree T4 (TX.same s14) ⟨_, rfl, ?_⟩⟩
  rw [if_neg (by decide), decide_eq_false ne.symm]
  exact k G4 s14
theorem k_bs : ¬ (("beside" : Str) = "_rows") := by decide +kernel
theorem k_bs2 : ¬ (("beside" : Str) = "_ways") := by decide +kernel
end G

namespace G
open PySem L2 GM
def spHungR (C : Addr) : Sp := fun vs H Q _ => ∃ (x l q : Addr) (r : Nat) (ws : List Way) (told : List Nat), vs = [.ref x, .ref l, .ref q, vn r] ∧ TreeAt C H x ws ∧ LP H l ws ∧ LL H q (rows ws) ∧ ws.length ≤ 58 ∧ Grown told ws ∧ r < ws.length + 1 ∧ ∀ H', Same H H' → Q (.bl true) H'
structure LQ (P : Program) (w : World) (K : PySem.W.Frag) (mg : Str → Option Value) (base : Heap) (C : Addr) : Prop where
  L_law_near : Cal P w K mg base "_law_near" 1 ["ways"] spRows
  L_law_pieces : Cal P w K mg base "_law_pieces" 2 ["near", "without"] spLpcs
  L_Tbetween : CalM P w K mg base C "between" 5 ["self", "one", "other"] (spBetween C)
  L_Tpieces : CalM P w K mg base C "pieces" 5 ["self", "without"] (spPcs C)
  L_TbranchK : CalMK P w K mg base C "branch" 5 1 ["self", "room", "away"] ["away"] (spBranch C)
  L_Tbeside : CalM P w K mg base C "beside" 5 ["self", "room"] (spBeside C)
  L_Tways : CalM P w K mg base C "ways" 1 ["self"] (spWaysM C)
  L_Twith_room : CalM P w K mg base C "with_room" 6 ["self", "room"] (spHung C)
  L_Tree : CalK P w K mg base C "Tree" 4 ["self", "ways"] (spInit C)
  L_len : CalN P w K mg base C 1 ["self"] (spLen C)
  L_eq : CalE P w K mg base C 1 (spEqT C)
section
variable {P : Program} {w : World} {K : PySem.W.Frag} {mg : Str → Option Value} {base : Heap} {C : Addr}
theorem scHungR : FnScope ["tree", "ways", "near", "room", "many", "later", "wider", "one"] ["tree", "ways", "near", "room"] (defScope s__law_hung_right) := ⟨rfl, rfl, rfl, by decide +kernel, rfl, by decide +kernel, by decide +kernel⟩
theorem ok_hungr {f : Addr} {fd : FuncData} (F : Fun K "_law_hung_right" "_law_hung_right" s__law_hung_right f fd) (T : TxB K mg C) (LL0 : LQ P w K mg base C) : FnOk P w K mg base CX0 7 f fd ["tree", "ways", "near", "room"] (spHungR C) := by
  refine F.ok scHungR (fun vs H Q E h => ?_) (fun cdv A outer s H vs Q E hr h => ?_)
  · obtain ⟨x, l, q, r, ws, told, rfl, _⟩ := h
    rfl
  · obtain ⟨x, l, q, r, ws, told, rfl, TT, hlp, hq, hl, hG, h1, k⟩ := h
    obtain ⟨L_law_near, L_law_pieces, L_Tbetween, L_Tpieces, L_TbranchK, L_Tbeside, L_Tways, L_Twith_room, L_Tree, L_len, L_eq⟩ := LL0
    obtain ⟨fE, dE, FE, bE, TE⟩ := L_eq.ex
    have hu := hr.units
    refine ⟨_, (pss_cons (ps_set (i := 4) scHungR.nd rfl (Or.inl rfl) (pe_callB call_len_seq (by rfl) T.len PySem.boot_len (pa_cons (pv 2) pa_nil)))
      (pss_cons (ps_set (i := 5) scHungR.nd rfl (Or.inr rfl) (L_Twith_room.pe (hr.mono (by decide)) (pv 0) (pa_cons (pv 3) pa_nil)))
      (pss_cons (ps_set (i := 6) scHungR.nd rfl (Or.inl rfl) (L_law_near.pe (hr.mono (by decide)) rfl (pa_cons (pe_op op_catR (pv 1) (pe_lst (pa_cons (pe_tup (pa_cons (pv 3) (pa_cons (pv 4) pa_nil))) pa_nil))) pa_nil)))
      (pss_cons (ps_if (PW.pt (pw_or (pt_cmpR (op_neO FE bE TE (hr.mono (by decide))) (pv 5) (L_Tree.pe (hr.mono (by decide)) rfl (pa_cons (pe_op op_catR (pv 1) (pe_lst (pa_cons (pe_tup (pa_cons (pv 3) (pa_cons (pv 4) pa_nil))) pa_nil))) pa_nil)) (nomark _)) (pw_or (pt_cmpR (op_neD hu) (L_Tways.pe0 (hr.mono (by decide)) (pv 5)) (pe_op op_catR (pv 1) (pe_lst (pa_cons (pe_tup (pa_cons (pv 3) (pa_cons (pv 4) pa_nil))) pa_nil))) (nomark _)) (pw_or1 (pt_cmpR op_ne (L_len.pe (hr.mono (by decide)) rfl T.len (pa_cons (pv 5) pa_nil)) (pe_op op_add (pv 4) pe_int) (nomark _)))))) (pss_one (ps_ret pe_bl)) pss_nil)
      (pss_cons (ps_if (PW.pt (pw_or (pt_cmpR (op_eqO FE bE TE (hr.mono (by decide))) (pv 5) (pv 0) (nomark _)) (pw_or (pt_cmpR (op_eqO FE bE TE (hr.mono (by decide))) (pv 0) (pv 5) (nomark _)) (pw_or1 (PW.pt (pw_and (pt_cmpR op_gt (pv 4) pe_int (nomark _)) (pw_and1 (PW.pt (pw_or (pt_cmpR (op_eqO FE bE TE (hr.mono (by decide))) (pv 0) (L_Tree.pe (hr.mono (by decide)) rfl (pa_cons (pe_lst pa_nil) pa_nil)) (nomark _)) (pw_or1 (pt_cmpR (op_eqO FE bE TE (hr.mono (by decide))) (L_Tree.pe (hr.mono (by decide)) rfl (pa_cons (pe_lst pa_nil) pa_nil)) (pv 0) (nomark _)))))))))))) (pss_one (ps_ret pe_bl)) pss_nil)
      (pss_cons (ps_if (PW.pt (pw_or (pt_cmpR (op_neD hu) (pe_lc (own := [("one", 7)]) (g := gName 7) (tt := tYes) rfl scHungR.nd (pi_range1 (by rfl) T.rg (pa_cons (pe_op op_add (pv 4) pe_int) pa_nil)) (blkOk_by (N := ["tree", "ways", "near", "room", "many", "later", "wider", "one"]) (sc := defScope s__law_hung_right) (by decide +kernel)) (fun _ _ _ _ _ => pg_name (i := 7) scHungR.nd rfl (Or.inl rfl)) (fun _ _ _ _ _ => pts_nil) (fun _ _ _ _ _ => (L_Tbeside.pe (hr.mono (by decide)) (pv 5) (pa_cons (pv 7) pa_nil)))) (pv 6) (nomark _)) (pw_or1 (pt_cmpR (op_neD hu) (L_TbranchK.pe (hr.mono (by decide)) (pv 5) (pa_cons (pv 4) pa_nil) (pk_cons (pv 3) pk_nil)) (pe_lst (pa_cons (pv 4) pa_nil)) (nomark _))))) (pss_one (ps_ret pe_bl)) pss_nil)
      (pss_cons (ps_if (PW.pt (pw_or (pt_cmpR (op_neD hu) (L_TbranchK.pe (hr.mono (by decide)) (pv 5) (pa_cons (pv 3) pa_nil) (pk_cons (pv 4) pk_nil)) (pe_listRg rfl rfl T.list (prg_1 rfl T.rg (pv 4))) (nomark _)) (pw_or1 (pt_cmpR (op_neD hu) (L_Tpieces.pe (hr.mono (by decide)) (pv 5) (pa_cons (pe_lst (pa_cons (pv 3) pa_nil)) pa_nil)) (L_law_pieces.pe (hr.mono (by decide)) rfl (pa_cons (pv 6) (pa_cons (pe_lst (pa_cons (pv 3) pa_nil)) pa_nil))) (nomark _))))) (pss_one (ps_ret pe_bl)) pss_nil)
      (pss_cons (ps_if (pt_cmpR (op_neD hu) (L_Tbetween.pe (hr.mono (by decide)) (pv 5) (pa_cons pe_int (pa_cons (pv 4) pa_nil))) (pe_op op_catR (L_Tbetween.pe (hr.mono (by decide)) (pv 0) (pa_cons pe_int (pa_cons (pv 3) pa_nil))) (pe_lst (pa_cons (pv 4) pa_nil))) (nomark _)) (pss_one (ps_ret pe_bl)) pss_nil)
      (pss_one (ps_ret (pe_and (pe_cmpR op_eq (L_len.pe (hr.mono (by decide)) rfl T.len (pa_cons (pv 0) pa_nil)) (pv 4) (nomark _)) (pe_and (pe_cmpR (op_eqD hu) (L_Tways.pe0 (hr.mono (by decide)) (pv 0)) (pv 1) (nomark _)) (pe_one (pe_cmpR (op_eqD hu) (pe_lc (own := [("one", 7)]) (g := gName 7) (tt := tYes) rfl scHungR.nd (pi_range1 (by rfl) T.rg (pa_cons (pv 4) pa_nil)) (blkOk_by (N := ["tree", "ways", "near", "room", "many", "later", "wider", "one"]) (sc := defScope s__law_hung_right) (by decide +kernel)) (fun _ _ _ _ _ => pg_name (i := 7) scHungR.nd rfl (Or.inl rfl)) (fun _ _ _ _ _ => pts_nil) (fun _ _ _ _ _ => (L_Tbeside.pe (hr.mono (by decide)) (pv 0) (pa_cons (pv 7) pa_nil)))) (pv 2) (nomark _))))))))))))))), ?_⟩
    have hw := grown_ww hG
    have hG' := grown_more hG h1
    have hw' := grown_ww hG'
    have lW : (ws ++ [(r, ws.length + 1)]).length = ws.length + 1 := by rw [List.length_append, List.length_singleton]
    have hok' := grown_ok hG'
    rw [lW] at hok'
    obtain ⟨qas, gq1, gq2⟩ := id hq
    have hlen : qas.length = ws.length + 1 := by rw [gq2.1, rows_length]
    refine ⟨_, rfl, q, _, rfl, .inl (SqL.of gq1), ?_⟩
    rw [List.length_map, hlen]
    -- later
    obtain ⟨dx, lw, lr, ip, _⟩ := id TT
    refine ⟨_, rfl, x, dx, _, rfl, ip, flds_no _ _ k_wr k_wr2, _, rfl, x, r, ws, rfl, TT, hl, h1, hok', fun H2 y s2 n2 TYo => ?_⟩
    have TY2 := TYo.same (only_same s2)
    clear TYo
    -- wider
    refine ⟨_, rfl, _, rfl, _, rfl, (by show 2 ≤ sizeLine; decide), fun T3 nT3 => ?_⟩
    obtain ⟨as3, hl3, hp3⟩ := hlp.same s2
    refine ⟨(by show 1 ≤ sizeLine; decide), fun L3 nL3 => ?_⟩
    refine ⟨l, L3, _, _, rfl, rfl, SqL.of (same_new nL3 _ _ (same_new nT3 _ _ hl3)), SqL.of upd_same, (by
      have := hp3.1
      show (as3.map V.ref).length + 1 ≤ sizeLine
      exact small1000 (by rw [List.length_map]; omega)), fun c3 nc3 => ?_⟩
    obtain ⟨sP3, hW3⟩ := lp_snoc hl3 hp3 nT3 nL3 nc3
    have nf3 : H2 c3 = none := (same_new nT3).free ((same_new nL3).free nc3)
    generalize upd (upd (upd H2 T3 _) L3 _) c3 _ = P3 at sP3 hW3
    refine ⟨c3, _, rfl, hW3, by rw [lW]; omega, hw', fun H4 wq s4 n4 hWR0 => ?_⟩
    have hWR := hWR0.same (only_same s4)
    clear hWR0
    have s04 := s2.trans (sP3.trans s4)
    have TY4 := TY2.same (sP3.trans s4)
    -- later != Tree(..)
    refine ⟨_, rfl, _, rfl, _, rfl, _, rfl, (by show 2 ≤ sizeLine; decide), fun T5 nT5 => ?_⟩
    obtain ⟨as5, hl5, hp5⟩ := hlp.same s04
    refine ⟨(by show 1 ≤ sizeLine; decide), fun L5 nL5 => ?_⟩
    refine ⟨l, L5, _, _, rfl, rfl, SqL.of (same_new nL5 _ _ (same_new nT5 _ _ hl5)), SqL.of upd_same, (by
      have := hp5.1
      show (as5.map V.ref).length + 1 ≤ sizeLine
      exact small1000 (by rw [List.length_map]; omega)), fun c5 nc5 => ?_⟩
    obtain ⟨sP5, hW5⟩ := lp_snoc hl5 hp5 nT5 nL5 nc5
    have nf5 : H4 c5 = none := (same_new nT5).free ((same_new nL5).free nc5)
    generalize upd (upd (upd H4 T5 _) L5 _) c5 _ = P5 at sP5 hW5
    refine fun xt dxt nxt ndxt next => ?_
    have sm5 := made_same (C := C) nxt ndxt
    refine ⟨xt, c5, dxt, _, rfl, upd_same, hW5.same sm5, by rw [lW]; omega, by rw [lW]; exact hok', fun H6 lw6 lr6 k6 hx6 hlw6 hlr6 => ⟨rfl, ?_⟩⟩
    obtain ⟨s56, TT6⟩ := tree_made nxt ndxt next k6 hx6 hlw6 hlr6
    have TT6 := TT6.same (only_same s56)
    have s46 := sP5.trans s56
    refine cmp_tree (TY4.same s46) TT6 ⟨_, rfl, ?_⟩
    rw [decide_eq_true rfl]
    refine iteF ?_
    have s06 := s04.trans s46
    have TY6 := TY4.same s46
    obtain ⟨dy6, ly6, ry6, ipy6, _⟩ := id TY6
    refine ⟨_, rfl, y, dy6, _, rfl, ipy6, flds_no _ _ k_wy k_wy2, y, _, rfl, TY6, by rw [lW]; omega, fun H7 lq7 s7 n7 hLP7 => ?_⟩
    refine ⟨_, rfl, _, rfl, _, rfl, (by show 2 ≤ sizeLine; decide), fun T8 nT8 => ?_⟩
    obtain ⟨as8, hl8, hp8⟩ := hlp.same (s06.trans s7)
    refine ⟨(by show 1 ≤ sizeLine; decide), fun L8 nL8 => ?_⟩
    refine ⟨l, L8, _, _, rfl, rfl, SqL.of (same_new nL8 _ _ (same_new nT8 _ _ hl8)), SqL.of upd_same, (by
      have := hp8.1
      show (as8.map V.ref).length + 1 ≤ sizeLine
      exact small1000 (by rw [List.length_map]; omega)), fun c8 nc8 => ?_⟩
    obtain ⟨sP8, hW8⟩ := lp_snoc hl8 hp8 nT8 nL8 nc8
    have nf8 : H7 c8 = none := (same_new nT8).free ((same_new nL8).free nc8)
    generalize upd (upd (upd H7 T8 _) L8 _) c8 _ = P8 at sP8 hW8
    refine ne_lpp (hLP7.same sP8) hW8 ⟨_, rfl, ?_⟩
    rw [decide_eq_false (fun h => h rfl)]
    have s08 := s06.trans (s7.trans sP8)
    have TY8 := TY6.same (s7.trans sP8)
    obtain ⟨dy8, ly8, ry8, ipy8, _⟩ := id TY8
    refine iteF ⟨_, rfl, y, dy8, _, rfl, ipy8, y, _, rfl, TY8, by rw [lW]; omega, ?_⟩
    rw [lW]
    refine ⟨_, rfl, by omega, by omega, _, rfl, _, _, rfl, rfl, rfl, _, rfl, ?_⟩
    have e1 : (!decide (V.int ((ws.length + 1 + 1 : Nat) : Int) = V.int ((ws.length + 1 : Nat) + 1 : Int))) = false := by simp
    rw [e1]
    refine iteF ?_
    -- later and tree
    have TX8 := TT.same s08
    have neW : rows (ws ++ [(r, ws.length + 1)]) ≠ rows ws := rows_len_ne (by rw [lW]; omega)
    refine ⟨_, rfl, _, rfl, cmp_tree TY8 TX8 ⟨_, rfl, ?_⟩⟩
    rw [if_neg (by decide), decide_eq_false neW]
    refine iteF ⟨_, rfl, _, rfl, cmp_tree TX8 TY8 ⟨_, rfl, ?_⟩⟩
    rw [if_neg (by decide), decide_eq_false neW.symm]
    refine iteF ?_
    refine ends_and (x := x) (ws := ws) rfl rfl TX8 fun H9 s9 => iteF ?_
    have s09 := s08.trans s9
    have TY9 := TY8.same s9
    -- the rooms beside each
    refine ⟨_, rfl, _, _, rfl, rfl, _, rfl, by omega, by omega, fun D nD => ?_⟩
    rw [show (((ws.length + 1 : Nat) : Int) + 1).toNat = ws.length + 1 + 1 by omega]
    refine lc_lists (nb (rows (ws ++ [(r, ws.length + 1)]))) nD (by omega) ?_ ?_
    · intro j Hc R hj sc kR
      have TYc := TY9.same sc
      obtain ⟨dyc, _, _, ipc, _⟩ := id TYc
      rw [Int.zero_add]
      exact ⟨_, rfl, y, dyc, _, rfl, ipc, flds_no _ _ k_bs k_bs2, _, rfl, y, _, j, rfl, TYc, by rw [lW]; omega, by rw [lW]; exact hj, fun H' b s' n' hb => kR H' b s' n' hb⟩
    intro H10 s10 hL10
    have eL : (List.range (ws.length + 1 + 1)).map (nb (rows (ws ++ [(r, ws.length + 1)]))) = rows (ws ++ [(r, ws.length + 1)]) := by
      have := rows_range (ws := ws ++ [(r, ws.length + 1)])
      rw [lW] at this
      exact this
    rw [eL] at hL10
    have s4A : Same H4 H10 := s46.trans (s7.trans (sP8.trans (s9.trans s10)))
    refine ⟨_, rfl, ne_ll hL10 (hWR.same s4A) ⟨_, rfl, ?_⟩⟩
    rw [decide_eq_false (fun h => h rfl)]
    have TYA := TY9.same s10
    have s0A := s09.trans s10
    obtain ⟨dyA, _, _, ipA, _⟩ := id TYA
    have mr : r ∈ nb (rows (ws ++ [(r, ws.length + 1)])) (ws.length + 1) := (more_mem hG h1).mpr (.inr (.inr ⟨rfl, rfl⟩))
    have mm : ws.length + 1 ∈ nb (rows (ws ++ [(r, ws.length + 1)])) r := (more_mem hG h1).mpr (.inr (.inl ⟨rfl, rfl⟩))
    -- the branch of the new room alone
    refine iteF ⟨_, rfl, y, dyA, _, rfl, ipA, flds_no _ _ k_br k_br2, _, rfl, _, rfl, rfl, rfl, y, ws.length + 1, r, _, rfl, TYA, by rw [lW]; omega, hw', by rw [lW]; omega, mr, fun H11 b1 s11 n11 hb1 => ?_⟩
    rw [more_leaf hG h1] at hb1
    refine ⟨_, rfl, (by show 1 ≤ sizeLine; decide), fun b2 nb2 => ?_⟩
    generalize hG12 : upd _ b2 _ = H12
    have s12 : Same H11 H12 := hG12 ▸ same_new nb2
    have hb2 : NL H12 b2 [ws.length + 1] := hG12 ▸ upd_same
    clear hG12
    refine ne_nl (hb1.same s12) hb2 ⟨_, rfl, ?_⟩
    rw [decide_eq_false (fun h => h rfl)]
    refine iteF ?_
    -- the other branch
    have sAC := s11.trans s12
    have TYC := TYA.same sAC
    obtain ⟨dyC, _, _, ipC, _⟩ := id TYC
    refine ⟨_, rfl, y, dyC, _, rfl, ipC, flds_no _ _ k_br k_br2, _, rfl, _, rfl, rfl, rfl, y, r, ws.length + 1, _, rfl, TYC, by rw [lW]; omega, hw', by rw [lW]; omega, mm, fun H13 b3 s13 n13 hb3 => ?_⟩
    rw [more_rest hG h1] at hb3
    refine ⟨_, rfl, ((ws.length + 1 : Nat) : Int), rfl, RgOk.of_le (by decide) (by omega) (by decide) (by omega), fun b4 nb4 => ?_⟩
    rw [rg_vn]
    generalize hG14 : upd _ b4 _ = H14
    have s14 : Same H13 H14 := hG14 ▸ same_new nb4
    have hb4 : NL H14 b4 (List.range (ws.length + 1)) := hG14 ▸ upd_same
    clear hG14
    refine ne_nl (hb3.same s14) hb4 ⟨_, rfl, ?_⟩
    rw [decide_eq_false (fun h => h rfl)]
    -- pieces
    have sAE := sAC.trans (s13.trans s14)
    have TYE := TYA.same sAE
    obtain ⟨dyE, _, _, ipE, _⟩ := id TYE
    refine iteF ⟨_, rfl, y, dyE, _, rfl, ipE, flds_no _ _ k_pc k_pc2, _, rfl, (by show 1 ≤ sizeLine; decide), fun b5 nb5 => ?_⟩
    generalize hG15 : upd _ b5 _ = H15
    have s15 : Same H14 H15 := hG15 ▸ same_new nb5
    have hb5 : NL H15 b5 [r] := hG15 ▸ upd_same
    clear hG15
    refine .inl ⟨y, b5, _, [r], rfl, TYE.same s15, by rw [lW]; omega, hw', hb5, (fun z hz => by rw [List.mem_singleton.mp hz, lW]; omega), (by show 1 ≤ 100; decide), fun H16 b6 s16 n16 hb6 => ?_⟩
    refine ⟨_, rfl, _, rfl, (by show 1 ≤ sizeLine; decide), fun b7 nb7 => ?_⟩
    generalize hG17 : upd _ b7 _ = H17
    have s17 : Same H16 H17 := hG17 ▸ same_new nb7
    have hb7 : NL H17 b7 [r] := hG17 ▸ upd_same
    clear hG17
    have sAH := sAE.trans (s15.trans (s16.trans s17))
    refine ⟨wq, b7, _, [r], rfl, hWR.same (s4A.trans sAH), by rw [lW]; omega, hw', hb7, fun H18 b8 s18 n18 hb8 => ?_⟩
    refine ne_ll ((hb6.same (only_same s16)).same (s17.trans s18)) (hb8.same (only_same s18)) ⟨_, rfl, ?_⟩
    rw [decide_eq_false (fun h => h (pcs_lpcs hw'))]
    refine iteF ?_
    have sAI := sAH.trans s18
    have TYI := TYA.same sAI
    have s0I := s0A.trans sAI
    -- the rooms between
    obtain ⟨d, N⟩ := grown_near hG h1
    have TXI := TT.same s0I
    obtain ⟨dyI, _, _, ipI, _⟩ := id TYI
    refine ⟨_, rfl, y, dyI, _, rfl, ipI, flds_no _ _ k_bt k_bt2, _, rfl, y, 0, ws.length + 1, _, _, rfl, TYI, by rw [lW]; omega, hw', by omega, by rw [lW]; omega, more_near hG h1 N, fun H19 t1 l1 s19 n19 hp1 ht1 => ?_⟩
    have TXJ := TXI.same s19
    obtain ⟨dxJ, _, _, ipJ, _⟩ := id TXJ
    refine ⟨_, rfl, x, dxJ, _, rfl, ipJ, flds_no _ _ k_bt k_bt2, _, rfl, x, 0, r, ws, d, rfl, TXJ, by omega, hw, by omega, h1, N, fun H20 t2 l2 s20 n20 hp2 ht2 => ?_⟩
    have l2len : l2.length ≤ 60 := by
      have := nd_len (ws := ws) hp2.nodup (hp2.all (fun u v h => by
        have := (graph_rows hw).lt _ _ h
        rw [rows_length] at this
        exact this) (by omega))
      omega
    refine ⟨_, rfl, (by show 1 ≤ sizeLine; decide), fun b9 nb9 => ?_⟩
    generalize hG21 : upd _ b9 _ = H21
    have s21 : Same H20 H21 := hG21 ▸ same_new nb9
    have hb9 : NL H21 b9 [ws.length + 1] := hG21 ▸ upd_same
    clear hG21
    refine ⟨t2, b9, _, _, rfl, rfl, SqL.of (s21 _ _ ht2), SqL.of hb9, (by
      show (l2.map vn).length + 1 ≤ sizeLine
      exact small1000 (by rw [List.length_map]; omega)), fun c9 nc9 => ?_⟩
    rw [← List.map_append]
    generalize hG22 : upd _ c9 _ = H22
    have s22 : Same H21 H22 := hG22 ▸ same_new nc9
    have hc9 : NL H22 c9 (l2 ++ [ws.length + 1]) := hG22 ▸ upd_same
    clear hG22
    have el : l1 = l2 ++ [ws.length + 1] := hp1.uniq (more_near hG h1 N).R (more_path hG h1 (by omega) hp2)
    refine ne_nl (s22 _ _ (s21 _ _ (s20 _ _ ht1))) hc9 ⟨_, rfl, ?_⟩
    rw [decide_eq_false (fun h => h el)]
    refine iteF ?_
    have s0M := s0I.trans (s19.trans (s20.trans (s21.trans s22)))
    have TXM := TT.same s0M
    obtain ⟨dxM, _, _, ipM, _⟩ := id TXM
    refine ⟨_, rfl, x, dxM, _, rfl, ipM, x, ws, rfl, TXM, by omega, _, rfl, by omega, by omega, _, rfl, rfl, ?_⟩
    refine ⟨_, rfl, ?_⟩
    rw [decide_eq_true rfl]
    refine iteT ⟨_, rfl, x, dxM, _, rfl, ipM, flds_no _ _ k_wy k_wy2, x, _, rfl, TXM, by omega, fun H23 lq s23 n23 hlq => ?_⟩
    refine ⟨_, rfl, eq_lp hlq (hlp.same (s0M.trans s23)) ⟨_, rfl, ?_⟩⟩
    rw [decide_eq_true rfl]
    have s0N := s0M.trans s23
    refine iteT ⟨_, rfl, ((ws.length + 1 : Nat) : Int), rfl, by omega, by omega, fun D2 nD2 => ?_⟩
    rw [show (((ws.length + 1 : Nat) : Int)).toNat = ws.length + 1 by omega]
    refine lc_lists (nb (rows ws)) nD2 (by omega) ?_ ?_
    · intro j Hc R hj sc kR
      have TXc := (TT.same s0N).same sc
      obtain ⟨dxc, _, _, ipc, _⟩ := id TXc
      rw [Int.zero_add]
      exact ⟨_, rfl, x, dxc, _, rfl, ipc, flds_no _ _ k_bs k_bs2, _, rfl, x, _, j, rfl, TXc, by omega, hj, fun H' b s' n' hb => kR H' b s' n' hb⟩
    intro H24 s24 hL24
    rw [rows_range] at hL24
    refine ⟨_, rfl, eq_ll hL24 ((hq.same s0N).same s24) ?_⟩
    rw [decide_eq_true rfl]
    exact k H24 (s0N.trans s24)
end
end G

namespace G
open PySem L2 GM
/-- a list of new pairs, one for each number -/
theorem lc_pairs {n i : Nat} {lo : Int} {te : TE} {σ : St} {H1 : Hp} {D : Addr} {Qd : Hp → Prop} (f : Nat → Way) (hD : H1 D = none) (hn : n ≤ 1000)
    (he : ∀ j Hc (R : V → Hp → Prop), j < n → Same H1 Hc → (∀ H3 b, Same Hc H3 → Hc b = none → NT H3 b [(f j).1, (f j).2] → R (.ref b) H3) → te ((wipe σ [i]).set i (some (.int (lo + (j : Nat))))) Hc R)
    (hd : ∀ H2, Same H1 H2 → LP H2 D ((List.range n).map f) → Qd H2) :
    ∃ W : Nat → Nat → Hp → Prop, (∃ m, W 0 m (upd H1 D (.lst []))) ∧ ∀ k m H, W k m H →
      ((Itr lo n).stop k H ∧ Qd H) ∨ ((Itr lo n).go k H ∧ ∃ Nx : Hp → Prop, (∀ H', Nx H' → ∃ m', m' < m ∧ W (k + 1) m' H') ∧ ∀ x H', (Itr lo n).yld k H x H' → gName i x (wipe σ [i]) H' fun σ2 H2 => wipe σ2 [i] = wipe σ [i] ∧ tYes σ2 H2 fun b H3 =>
        if b = true then te σ2 H3 fun y H4 => ∃ acc, H4 D = some (.lst acc) ∧ acc.length < sizeLine ∧ Nx (upd H4 D (.lst (acc ++ [y]))) else Nx H3) := by
  refine ⟨fun k m H => m = n - k ∧ k ≤ n ∧ Same H1 H ∧ ∃ as : List Addr, H D = some (.lst (as.map V.ref)) ∧ (∀ b ∈ as, b ≠ D) ∧ Pairs H as ((List.range k).map f), ⟨n, by simp, Nat.zero_le _, same_new hD, [], upd_same, (fun b h => nomatch h), rfl, fun i a h => by simp at h⟩, ?_⟩
  rintro k m Hc ⟨rfl, hk1, s, as, hL, nb, hLs⟩
  have el : as.length = k := by rw [hLs.1, List.length_map, List.length_range]
  by_cases hlt : k < n
  · refine .inr ⟨(walk_range (lo := lo) (n := n)).goes k Hc hlt True.intro, fun H => k + 1 ≤ n ∧ Same H1 H ∧ ∃ as : List Addr, H D = some (.lst (as.map V.ref)) ∧ (∀ b ∈ as, b ≠ D) ∧ Pairs H as ((List.range (k + 1)).map f), fun H' h => ⟨n - (k + 1), by omega, rfl, h⟩, fun y H' hy => ?_⟩
    obtain ⟨rfl, rfl⟩ := (walk_range (lo := lo) (n := n)).yields k Hc y H' hlt True.intro hy
    refine ⟨wipe_one, ?_⟩
    unfold tYes
    dsimp only
    rw [if_pos rfl]
    refine he k _ _ hlt s fun H3 b s3 nb3 hb => ?_
    have hL3 := s3 _ _ hL
    have bD : b ≠ D := (ne_of_none hL nb3).symm
    refine ⟨as.map V.ref, hL3, by rw [List.length_map]; exact small1000 (by omega), hlt, fun c o e => ?_, as ++ [b], ?_, fun c hc => ?_, ?_, fun j c hc => ?_⟩
    · rw [upd_ne (ne_of_none e hD)]
      exact s3 _ _ (s _ _ e)
    · rw [upd_same, List.map_append]
      rfl
    · rcases List.mem_append.mp hc with h | h
      · exact nb c h
      · rw [List.mem_singleton.mp h]; exact bD
    · rw [List.length_append, el, List.length_map, List.length_range]; rfl
    · rw [List.range_succ, List.map_append]
      by_cases hj : j < k
      · rw [List.getElem?_append_left (by omega)] at hc
        have := hLs.2 j c hc
        unfold NT
        rw [upd_ne (nb c (List.mem_of_getElem? hc)), List.getD_eq_getElem?_getD, List.getElem?_append_left (by rw [List.length_map, List.length_range]; exact hj), ← List.getD_eq_getElem?_getD]
        exact s3 _ _ this
      · have hjl := (List.getElem?_eq_some_iff.mp hc).1
        rw [List.length_append, List.length_singleton] at hjl
        have ej : j = k := by omega
        subst ej
        rw [List.getElem?_append_right (by omega), el, Nat.sub_self] at hc
        have ec : c = b := (Option.some.inj hc).symm
        subst ec
        unfold NT
        rw [upd_ne bD, List.getD_eq_getElem?_getD, List.getElem?_append_right (by rw [List.length_map, List.length_range]; exact Nat.le_refl _), List.length_map, List.length_range, Nat.sub_self]
        exact hb
  · have e : k = n := by omega
    subst e
    exact .inl ⟨(walk_range (lo := lo) (n := k)).stops Hc True.intro, hd Hc s ⟨as, hL, hLs⟩⟩
theorem only_rm2 {H H' H'' : Hp} {a hd : Addr} {w w' : List V} (ha : H a = some (.lst w)) (hh : H hd = some (.lst w')) (s : Same H H') (k : ∀ b o, b ≠ hd → H' b = some o → H'' b = some o) : Same (only H H') (rm H'' a) := fun b o h => by
  have n1 : b ≠ a := fun z => by
    subst z
    unfold only at h
    rw [ha] at h
    cases h
  have n2 : b ≠ hd := fun z => by
    subst z
    unfold only at h
    rw [hh] at h
    cases h
  rw [rm_ne n1]
  exact k b o n2 (only_same s _ _ h)
theorem lp_rev {H : Hp} {as : List Addr} {ws : List Way} (h : Pairs H as ws) : Pairs H as.reverse ws.reverse := by
  refine ⟨by rw [List.length_reverse, List.length_reverse, h.1], fun i a ha => ?_⟩
  have hi := (List.getElem?_eq_some_iff.mp ha).1
  rw [List.length_reverse] at hi
  rw [List.getElem?_reverse hi] at ha
  have := h.2 _ a ha
  rw [List.getD_eq_getElem?_getD, List.getElem?_reverse (by rw [← h.1]; exact hi), ← List.getD_eq_getElem?_getD, ← h.1]
  exact this
theorem many_at {z1 : Int} (b : Bool) (h0 : 0 ≤ z1) (h1 : z1 < 12) : ∃ m : Nat, 1 ≤ m ∧ m ≤ 60 ∧ atI [V.int (1 + z1), V.int 60] (if b = true then 1 else 0) = some (vn m) := by
  cases b with
  | true => exact ⟨60, by omega, by omega, rfl⟩
  | false =>
    refine ⟨(1 + z1).toNat, by omega, by omega, ?_⟩
    show some (V.int (1 + z1)) = some (V.int (((1 + z1).toNat : Nat) : Int))
    rw [Int.toNat_of_nonneg (by omega)]
def spRight : Sp := fun vs H Q _ => ∃ (a : Addr), vs = [.ref a] ∧ Well H a ∧ ∀ H', Same (rm H a) (rm H' a) → Q (.bl true) H'
structure LR (P : Program) (w : World) (K : PySem.W.Frag) (mg : Str → Option Value) (base : Heap) (C : Addr) : Prop where
  L_law_draw : Cal P w K mg base "_law_draw" 1 ["well", "many"] spDraw
  L_law_ways : Cal P w K mg base "_law_ways" 2 ["well", "many"] spWays
  L_Tree : CalK P w K mg base C "Tree" 4 ["self", "ways"] (spInit C)
  L_law_near : Cal P w K mg base "_law_near" 1 ["ways"] spRows
  L_Tways : CalM P w K mg base C "ways" 1 ["self"] (spWaysM C)
  L_Tbeside : CalM P w K mg base C "beside" 5 ["self", "room"] (spBeside C)
  L_len : CalN P w K mg base C 1 ["self"] (spLen C)
  L_eq : CalE P w K mg base C 1 (spEqT C)
  L_law_hung_right : Cal P w K mg base "_law_hung_right" 7 ["tree", "ways", "near", "room"] (spHungR C)
  L_law_rooms_right : Cal P w K mg base "_law_rooms_right" 6 ["well", "tree", "near"] (spRoomsR C)
section
variable {P : Program} {w : World} {K : PySem.W.Frag} {mg : Str → Option Value} {base : Heap} {C : Addr}
theorem scRight : FnScope ["well", "many", "ways", "handed", "tree", "near", "room", "star", "lane", "k"] ["well"] (defScope s__law_right) := ⟨rfl, rfl, rfl, by decide +kernel, rfl, by decide +kernel, by decide +kernel⟩
theorem ok_right {f : Addr} {fd : FuncData} (F : Fun K "_law_right" "_law_right" s__law_right f fd) (T : TxB K mg C) (LL0 : LR P w K mg base C) : FnOk P w K mg base CX0 8 f fd ["well"] spRight := by
  refine F.ok scRight (fun vs H Q E h => ?_) (fun cdv A outer s H vs Q E hr h => ?_)
  · obtain ⟨a, rfl, _⟩ := h
    rfl
  · obtain ⟨a, rfl, hW, k⟩ := h
    obtain ⟨L_law_draw, L_law_ways, L_Tree, L_law_near, L_Tways, L_Tbeside, L_len, L_eq, L_law_hung_right, L_law_rooms_right⟩ := LL0
    obtain ⟨fE, dE, FE, bE, TE⟩ := L_eq.ex
    have hu := hr.units
    refine ⟨_, (pss_cons (ps_set (i := 1) scRight.nd rfl (Or.inl rfl) (pe_ix ix_list (pe_lst (pa_cons (pe_op op_add pe_int (L_law_draw.pe (hr.mono (by decide)) rfl (pa_cons (pv 0) (pa_cons pe_int pa_nil)))) (pa_cons pe_int pa_nil))) (pe_callTy call_int1 (by rfl) T.int PyProof.Rows.boot_int (pa_cons (pe_cmpR op_eq (L_law_draw.pe (hr.mono (by decide)) rfl (pa_cons (pv 0) (pa_cons pe_int pa_nil))) pe_int (nomark _)) pa_nil)) (fun _ _ => rfl)))
      (pss_cons (ps_set (i := 2) scRight.nd rfl (Or.inl rfl) (L_law_ways.pe (hr.mono (by decide)) rfl (pa_cons (pv 0) (pa_cons (pv 1) pa_nil))))
      (pss_cons (ps_set (i := 3) scRight.nd rfl (Or.inl rfl) (pe_callTy call_list_of (by rfl) T.list PyProof.Rows.boot_list (pa_cons (pv 2) pa_nil)))
      (pss_cons (ps_set (i := 4) scRight.nd rfl (Or.inr rfl) (L_Tree.pe (hr.mono (by decide)) rfl (pa_cons (pv 3) pa_nil)))
      (pss_cons (ps_set (i := 5) scRight.nd rfl (Or.inl rfl) (L_law_near.pe (hr.mono (by decide)) rfl (pa_cons (pv 2) pa_nil)))
      (pss_cons (ps_if (PW.pt (pw_or (pt_cmpR (op_neD hu) (pv 3) (pv 2) (nomark _)) (pw_or (pt_cmpR (op_neD hu) (L_Tways.pe0 (hr.mono (by decide)) (pv 4)) (pv 2) (nomark _)) (pw_or1 (pt_cmpR op_ne (L_len.pe (hr.mono (by decide)) rfl T.len (pa_cons (pv 4) pa_nil)) (pv 1) (nomark _)))))) (pss_one (ps_ret pe_bl)) pss_nil)
      (pss_cons (ps_expr (pe_bm PySem.F.plainAttrs_list PySem.F.slot_list_append PySem.F.type_list_append mt_append (pv 3) (pa_cons (pe_tup (pa_cons pe_int (pa_cons pe_int pa_nil))) pa_nil)))
      (pss_cons (ps_expr (pe_bm0 PySem.F.plainAttrs_list PySem.F.slot_list_clear PySem.F.type_list_clear mt_clear (L_Tways.pe0 (hr.mono (by decide)) (pv 4))))
      (pss_cons (ps_for PassesOwn.never rfl (pi_range1 (by rfl) T.rg (pa_cons (pv 1) pa_nil)) (pg_name (i := 6) scRight.nd rfl (Or.inl rfl))
        (pss_one (ps_expr (pe_bm PySem.F.plainAttrs_list PySem.F.slot_list_append PySem.F.type_list_append mt_append (L_Tbeside.pe (hr.mono (by decide)) (pv 4) (pa_cons (pv 6) pa_nil)) (pa_cons (pv 6) pa_nil)))))
      (pss_cons (ps_if (PW.pt (pw_or (pt_cmpR (op_neD hu) (L_Tways.pe0 (hr.mono (by decide)) (pv 4)) (pv 2) (nomark _)) (pw_or1 (pt_cmpR (op_neD hu) (pe_lc (own := [("room", 6)]) (g := gName 6) (tt := tYes) rfl scRight.nd (pi_range1 (by rfl) T.rg (pa_cons (pv 1) pa_nil)) (blkOk_by (N := ["well", "many", "ways", "handed", "tree", "near", "room", "star", "lane", "k"]) (sc := defScope s__law_right) (by decide +kernel)) (fun _ _ _ _ _ => pg_name (i := 6) scRight.nd rfl (Or.inl rfl)) (fun _ _ _ _ _ => pts_nil) (fun _ _ _ _ _ => (L_Tbeside.pe (hr.mono (by decide)) (pv 4) (pa_cons (pv 6) pa_nil)))) (pv 5) (nomark _))))) (pss_one (ps_ret pe_bl)) pss_nil)
      (pss_cons (ps_if (PW.pt (pw_or (pt_cmpR (op_neO FE bE TE (hr.mono (by decide))) (L_Tree.pe (hr.mono (by decide)) rfl (pa_cons (pe_revL (pv 2)) pa_nil)) (pv 4) (nomark _)) (pw_or1 (pt_cmpR (op_eqO FE bE TE (hr.mono (by decide))) (pv 4) (pv 2) (nomark _))))) (pss_one (ps_ret pe_bl)) pss_nil)
      (pss_cons (ps_par (i := 7) (j := 8) (by rfl) scRight.nd rfl rfl (by decide) rfl rfl (pa_cons (L_Tree.pe (hr.mono (by decide)) rfl (pa_cons (pe_lc (own := [("k", 9)]) (g := gName 9) (tt := tYes) rfl scRight.nd (pi_range2 (by rfl) T.rg (pa_cons pe_int (pa_cons (pv 1) pa_nil))) (blkOk_by (N := ["well", "many", "ways", "handed", "tree", "near", "room", "star", "lane", "k"]) (sc := defScope s__law_right) (by decide +kernel)) (fun _ _ _ _ _ => pg_name (i := 9) scRight.nd rfl (Or.inl rfl)) (fun _ _ _ _ _ => pts_nil) (fun _ _ _ _ _ => (pe_tup (pa_cons pe_int (pa_cons (pv 9) pa_nil))))) pa_nil)) (pa_cons (L_Tree.pe (hr.mono (by decide)) rfl (pa_cons (pe_lc (own := [("k", 9)]) (g := gName 9) (tt := tYes) rfl scRight.nd (pi_range2 (by rfl) T.rg (pa_cons pe_int (pa_cons (pv 1) pa_nil))) (blkOk_by (N := ["well", "many", "ways", "handed", "tree", "near", "room", "star", "lane", "k"]) (sc := defScope s__law_right) (by decide +kernel)) (fun _ _ _ _ _ => pg_name (i := 9) scRight.nd rfl (Or.inl rfl)) (fun _ _ _ _ _ => pts_nil) (fun _ _ _ _ _ => (pe_tup (pa_cons (pe_op op_sub (pv 9) pe_int) (pa_cons (pv 9) pa_nil))))) pa_nil)) pa_nil)) (by rfl))
      (pss_cons (ps_if (pt_cmpR op_ne (pe_cmpR (op_eqO FE bE TE (hr.mono (by decide))) (pv 7) (pv 8) (nomark _)) (pe_cmpR op_lt (pv 1) pe_int (nomark _)) (nomark _)) (pss_one (ps_ret pe_bl)) pss_nil)
      (pss_cons (ps_if (PW.pt (pw_and (pt_cmpR op_lt (pv 1) pe_int (nomark _)) (pw_and1 (pt_not (pt_val (L_law_hung_right.pe (hr.mono (by decide)) rfl (pa_cons (pv 4) (pa_cons (pv 2) (pa_cons (pv 5) (pa_cons (L_law_draw.pe (hr.mono (by decide)) rfl (pa_cons (pv 0) (pa_cons (pv 1) pa_nil))) pa_nil)))))))))) (pss_one (ps_ret pe_bl)) pss_nil)
      (pss_one (ps_ret (pe_and (L_law_rooms_right.pe (hr.mono (by decide)) rfl (pa_cons (pv 0) (pa_cons (pv 4) (pa_cons (pv 5) pa_nil)))) (pe_one (L_law_rooms_right.pe (hr.mono (by decide)) rfl (pa_cons (pv 0) (pa_cons (pv 4) (pa_cons (pv 5) pa_nil)))))))))))))))))))))), ?_⟩
    obtain ⟨u0, u1, u2, hW⟩ := hW
    -- many
    refine ⟨_, rfl, a, 9, rfl, ⟨u0, u1, u2, hW⟩, by decide, by decide, fun z1 p0 p1 p2 a1 b1 => ?_⟩
    have r1 : Same (rm H a) (rm (upd H a (HO.lst [V.int p0, V.int p1, V.int p2])) a) := sr_draw
    have w1 : upd H a (HO.lst [V.int p0, V.int p1, V.int p2]) a = some (HO.lst [V.int p0, V.int p1, V.int p2]) := upd_same
    generalize upd H a (HO.lst [V.int p0, V.int p1, V.int p2]) = G1 at r1 w1
    refine ⟨_, _, rfl, rfl, (by show 2 ≤ sizeLine; decide), fun l1 nl1 => ?_⟩
    generalize hG2 : upd _ l1 _ = G2
    have s2 : Same G1 G2 := hG2 ▸ same_new nl1
    have hl1 : G2 l1 = some (.lst [V.int (1 + z1), V.int 60]) := hG2 ▸ upd_same
    have l1a : l1 ≠ a := (ne_of_none w1 nl1).symm
    refine ⟨_, rfl, a, 6, rfl, ⟨_, _, _, s2 _ _ w1⟩, by decide, by decide, fun z2 x0 x1 x2 _ _ => ?_⟩
    have r3 : Same (rm G2 a) (rm (upd G2 a (HO.lst [V.int x0, V.int x1, V.int x2])) a) := sr_draw
    have w3 : upd G2 a (HO.lst [V.int x0, V.int x1, V.int x2]) a = some (HO.lst [V.int x0, V.int x1, V.int x2]) := upd_same
    generalize upd G2 a (HO.lst [V.int x0, V.int x1, V.int x2]) = G3 at r3 w3
    have hl13 : G3 l1 = _ := sr_at r3 l1a hl1
    have sr3 : Same (rm H a) (rm G3 a) := r1.trans ((rm_mono a s2).trans r3)
    obtain ⟨m, m1, m2, eat⟩ := many_at (decide (V.int z2 = V.int 0)) a1 (by omega)
    refine ⟨rfl, .inr ⟨_, rfl, l1, _, _, _, rfl, rfl, SqL.of hl13, eat, ?_⟩⟩
    -- ways
    refine ⟨_, rfl, _, rfl, a, m, rfl, ⟨_, _, _, w3⟩, m1, m2, fun H4 lw ws told s4 w4 n4 hG hlws hLP => ?_⟩
    have hl : ws.length ≤ 59 := by omega
    have hok := grown_ok hG
    have hw := okWays_lt hok
    have sr4 : Same (rm H a) (rm H4 a) := sr3.trans s4
    have hLPr : LP (rm H4 a) lw ws := hLP.same (only_rmD s4 w3)
    have hLP4 : LP H4 lw ws := hLPr.same (rm_same H4 a)
    clear hLP r1 w1 hl1 r3 w3 hl13 sr3 s4
    obtain ⟨was, hwl, hwp⟩ := id hLP4
    have lwas : was.length = ws.length := hwp.1
    -- handed
    refine ⟨_, rfl, lw, _, rfl, .inl (SqL.of hwl), fun hd nhd => ?_⟩
    generalize hG5 : upd _ hd _ = G5
    have s5 : Same H4 G5 := hG5 ▸ same_new nhd
    have hhd : G5 hd = some (.lst (was.map V.ref)) := hG5 ▸ upd_same
    clear hG5
    have hLP5 : LP G5 hd ws := ⟨was, hhd, hwp.same s5⟩
    -- tree
    refine ⟨_, rfl, fun x dx nx ndx nex => ?_⟩
    have s6x := made_same (C := C) nx ndx
    refine ⟨x, hd, dx, ws, rfl, upd_same, hLP5.same s6x, hl, hok, fun H6 la lr k6 hx6 hlw6 hlr6 => ⟨rfl, ?_⟩⟩
    obtain ⟨s56, TTo⟩ := tree_made nx ndx nex k6 hx6 hlw6 hlr6
    have TT6 := TTo.same (only_same s56)
    -- near
    have s46 := s5.trans s56
    refine ⟨_, rfl, lw, ws, rfl, hLP4.same s46, hl, hw, fun H7 q s67 n7 hqo => ?_⟩
    have hq7 := hqo.same (only_same s67)
    have TT7 := TT6.same s67
    have s57 := s56.trans s67
    have s47 := s46.trans s67
    refine ⟨_, rfl, _, rfl, ne_lpp (hLP5.same s57) (hLP4.same s47) ⟨_, rfl, ?_⟩⟩
    rw [decide_eq_false (fun h => h rfl)]
    obtain ⟨dx7, lw7, lr7, ip7, _⟩ := id TT7
    refine iteF ⟨_, rfl, x, dx7, _, rfl, ip7, flds_no _ _ k_wy k_wy2, x, _, rfl, TT7, hl, fun H8 c8 s78 n8 hc8 => ?_⟩
    refine ⟨_, rfl, ne_lpp hc8 (hLP4.same (s47.trans s78)) ⟨_, rfl, ?_⟩⟩
    rw [decide_eq_false (fun h => h rfl)]
    have TT8 := TT7.same s78
    have s58 := s57.trans s78
    have s48 := s47.trans s78
    refine iteF ⟨_, rfl, x, dx7, _, rfl, s78 _ _ ip7, x, _, rfl, TT8, by omega, _, rfl, by omega, by omega, _, rfl, rfl, _, rfl, ?_⟩
    rw [show (!decide (V.int ((ws.length + 1 : Nat) : Int) = V.int (m : Int))) = false by rw [hlws]; simp]
    refine iteF ?_
    -- handed.append((0, 0))
    have hh8 := s58 _ _ hhd
    refine ⟨_, rfl, .inl ⟨rfl, _, SqL.of hh8⟩, (by show 2 ≤ sizeLine; decide), fun T0 nT0 => ?_⟩
    generalize hG9 : upd _ T0 _ = G9
    have s89 : Same H8 G9 := hG9 ▸ same_new nT0
    clear hG9
    refine ⟨hd, _, _, rfl, rfl, s89 _ _ hh8, small1000 (by rw [List.length_map]; omega), ?_⟩
    generalize hG10 : upd _ hd _ = G10
    have k10 : ∀ b o, b ≠ hd → G9 b = some o → G10 b = some o := fun b o n e => by rw [← hG10, upd_ne n]; exact e
    clear hG10
    obtain ⟨y0, y1, y2, w4⟩ := id w4
    have w5 := s5 _ _ w4
    have hda : hd ≠ a := (ne_of_none w4 nhd).symm
    have w10 : G10 a = some _ := k10 a _ hda.symm (s89 _ _ (s48 _ _ w4))
    have TT10 : TreeAt C (rm G10 a) x ws := TTo.same (only_rm2 w5 hhd s56 fun b o n e => k10 b o n (s89 _ _ (s78 _ _ (s67 _ _ e))))
    have hq10 : LL (rm G10 a) q (rows ws) := hqo.same (only_rm2 (s56 _ _ w5) (s56 _ _ hhd) s67 fun b o n e => k10 b o n (s89 _ _ (s78 _ _ e)))
    have sr10 : Same (rm H4 a) (rm G10 a) := fun b o e => by
      obtain ⟨e1, e2⟩ := rm_some e
      rw [rm_ne e1]
      exact k10 b o (ne_of_none e2 nhd) (s89 _ _ (s48 _ _ e2))
    have hLP10 : LP (rm G10 a) lw ws := hLPr.same sr10
    have srA : Same (rm H a) (rm G10 a) := sr4.trans sr10
    clear hh8 TT8 TT7 hc8 ip7 hq7 hqo TTo TT6 hLP5
    -- tree.ways().clear()
    have TTb := TT10.same (rm_same G10 a)
    obtain ⟨dxb, lwb, lrb, ipb, _⟩ := id TTb
    refine ⟨_, rfl, x, dxb, _, rfl, ipb, flds_no _ _ k_wy k_wy2, x, _, rfl, TTb, hl, fun H11 c11 s11 n11 hc11 => ?_⟩
    obtain ⟨cas, hcl, _⟩ := hc11
    refine ⟨.inl ⟨rfl, _, SqL.of hcl⟩, c11, _, rfl, rfl, hcl, ?_⟩
    generalize hG12 : upd _ c11 _ = G12
    have s12 : Same G10 G12 := fun b o e => by
      rw [← hG12, upd_ne (ne_of_none e n11)]
      exact s11 _ _ e
    clear hG12
    -- for room in range(many)
    refine ⟨_, rfl, (m : Int), rfl, by omega, by omega, for_range (lo := 0) (n := ((m : Int)).toNat) (fun j σ Hc => ∃ v6, σ = [some (.ref a), some (vn m), some (.ref lw), some (.ref hd), some (.ref x), some (.ref q), v6, none, none, none] ∧ Same G10 Hc) ⟨none, rfl, s12⟩ ?_ ?_⟩
    · rintro j σ Hc hj ⟨v6, rfl, sc⟩
      have TTc := TTb.same sc
      obtain ⟨dxc, _, _, ipc, _⟩ := id TTc
      rw [Int.zero_add]
      refine ⟨_, rfl, x, dxc, _, rfl, ipc, flds_no _ _ k_bs k_bs2, _, rfl, x, _, j, rfl, TTc, by omega, by omega, fun H13 b s13 n13 hb => ?_⟩
      have hb' : H13 b = some (.lst ((nb (rows ws) j).map vn)) := hb
      have lb := nb_len ws j
      refine ⟨.inl ⟨rfl, _, SqL.of hb'⟩, _, rfl, b, _, _, rfl, rfl, hb', small1000 (by rw [List.length_map]; omega), ?_⟩
      refine ⟨_, rfl, fun c o e => ?_⟩
      rw [upd_ne (ne_of_none (sc _ _ e) n13)]
      exact s13 _ _ (sc _ _ e)
    rintro σ H14 ⟨v6, rfl, s14⟩
    have TT14 := TTb.same s14
    obtain ⟨dxe, lwe, lre, ipe, _⟩ := id TT14
    have hLPb := hLP10.same (rm_same G10 a)
    have hqb := hq10.same (rm_same G10 a)
    refine ⟨_, rfl, x, dxe, _, rfl, ipe, flds_no _ _ k_wy k_wy2, x, _, rfl, TT14, hl, fun H15 c15 s15 n15 hc15 => ?_⟩
    refine ⟨_, rfl, ne_lpp hc15 (hLPb.same (s14.trans s15)) ⟨_, rfl, ?_⟩⟩
    rw [decide_eq_false (fun h => h rfl)]
    have sB := s14.trans s15
    refine iteF ⟨_, rfl, (m : Int), rfl, by omega, by omega, fun D nD => ?_⟩
    rw [show ((m : Int)).toNat = ws.length + 1 by omega]
    refine lc_lists (nb (rows ws)) nD (by omega) ?_ ?_
    · intro j Hc R hj sc kR
      have TXc := (TTb.same sB).same sc
      obtain ⟨dxc, _, _, ipc, _⟩ := id TXc
      rw [Int.zero_add]
      exact ⟨_, rfl, x, dxc, _, rfl, ipc, flds_no _ _ k_bs k_bs2, _, rfl, x, _, j, rfl, TXc, by omega, hj, fun H' b s' n' hb => kR H' b s' n' hb⟩
    intro H16 s16 hL16
    rw [rows_range] at hL16
    have sC := sB.trans s16
    refine ⟨_, rfl, ne_ll hL16 (hqb.same sC) ⟨_, rfl, ?_⟩⟩
    rw [decide_eq_false (fun h => h rfl)]
    -- Tree(ways[::-1]) != tree
    obtain ⟨was2, hwl2, hwp2⟩ := hLPb.same sC
    refine iteF ⟨_, rfl, lw, _, rfl, SqL.of hwl2, fun rv nrv => ?_⟩
    rw [← List.map_reverse]
    generalize hG17 : upd _ rv _ = G17
    have s17 : Same H16 G17 := hG17 ▸ same_new nrv
    have hrv : LP G17 rv ws.reverse := ⟨was2.reverse, hG17 ▸ upd_same, (lp_rev hwp2).same s17⟩
    clear hG17
    refine fun xt dxt nxt ndxt next => ?_
    have sm17 := made_same (C := C) nxt ndxt
    refine ⟨xt, rv, dxt, ws.reverse, rfl, upd_same, hrv.same sm17, by rw [List.length_reverse]; exact hl, perm_ok hG (List.reverse_perm ws), fun H18 lw8 lr8 k8 hx8 hlw8 hlr8 => ⟨rfl, ?_⟩⟩
    obtain ⟨s18, TR⟩ := tree_made nxt ndxt next k8 hx8 hlw8 hlr8
    have TR := TR.same (only_same s18)
    have sD := sC.trans (s17.trans s18)
    have TTd := TTb.same sD
    refine ⟨_, rfl, cmp_tree TR TTd ⟨_, rfl, ?_⟩⟩
    rw [if_pos rfl, decide_eq_true (rows_perm (grown_nodup hG) hw (List.reverse_perm ws))]
    obtain ⟨dxf, lwf, lrf, ipf, _⟩ := id TTd
    obtain ⟨was3, hwl3, hwp3⟩ := hLPb.same sD
    refine iteF ⟨_, rfl, _, rfl, ⟨x, lw, dxf, _, rfl, rfl, ipf, .inr ⟨rfl, _, hwl3⟩, x, .ref lw, ws, rfl, TTd, .inr ⟨lw, _, rfl, hwl3, _, rfl, _, rfl, ?_⟩⟩⟩
    rw [if_neg (by decide)]
    refine iteF ?_
    have lst : (starW ws.length).length = ws.length := by unfold starW; rw [List.length_map, List.length_range]
    have lln : (laneW ws.length).length = ws.length := by unfold laneW; rw [List.length_map, List.length_range]
    -- star
    refine ⟨_, rfl, 1, (m : Int), rfl, ⟨by decide, by decide, by omega, by omega⟩, fun D1 nD1 => ?_⟩
    rw [show ((m : Int) - 1).toNat = ws.length by omega]
    refine lc_pairs (fun j => (0, j + 1)) nD1 (by omega) ?_ ?_
    · intro j Hc R hj sc kR
      refine ⟨_, rfl, (by show 2 ≤ sizeLine; decide), fun p np => ?_⟩
      rw [show (1 + (j : Int)) = ((j + 1 : Nat) : Int) by omega]
      exact kR _ p (same_new np) np upd_same
    intro H19 s19 hD1
    refine fun xs dxs nxs ndxs nexs => ?_
    have sm19 := made_same (C := C) nxs ndxs
    refine ⟨xs, D1, dxs, starW ws.length, rfl, upd_same, hD1.same sm19, by rw [lst]; exact hl, grown_ok (star_grown _), fun H20 lw9 lr9 k9 hx9 hlw9 hlr9 => ⟨rfl, ?_⟩⟩
    obtain ⟨s20, TSo⟩ := tree_made nxs ndxs nexs k9 hx9 hlw9 hlr9
    have TSt := TSo.same (only_same s20)
    clear TSo
    -- lane
    refine ⟨_, rfl, 1, (m : Int), rfl, ⟨by decide, by decide, by omega, by omega⟩, fun D2 nD2 => ?_⟩
    rw [show ((m : Int) - 1).toNat = ws.length by omega]
    refine lc_pairs (fun j => (j, j + 1)) nD2 (by omega) ?_ ?_
    · intro j Hc R hj sc kR
      refine ⟨_, rfl, _, _, rfl, rfl, _, rfl, (by show 2 ≤ sizeLine; decide), fun p np => ?_⟩
      show R (V.ref p) (upd Hc p (.tup [V.int (1 + (j : Int) - 1), V.int (1 + (j : Int))]))
      rw [show (1 + (j : Int) - 1) = (j : Int) by omega, show (1 + (j : Int)) = ((j + 1 : Nat) : Int) by omega]
      exact kR _ p (same_new np) np upd_same
    intro H21 s21 hD2
    refine fun xl dxl nxl ndxl nexl => ?_
    have sm21 := made_same (C := C) nxl ndxl
    refine ⟨xl, D2, dxl, laneW ws.length, rfl, upd_same, hD2.same sm21, by rw [lln]; exact hl, grown_ok (lane_grown _), fun H22 lwA lrA kA hxA hlwA hlrA => ⟨rfl, ?_⟩⟩
    obtain ⟨s22, TLo⟩ := tree_made nxl ndxl nexl kA hxA hlwA hlrA
    have TLn := TLo.same (only_same s22)
    have sE := sD.trans (s19.trans (s20.trans (s21.trans s22)))
    refine ⟨_, _, rfl, ?_⟩
    refine ⟨_, rfl, _, rfl, cmp_tree (TSt.same (s21.trans s22)) TLn ?_⟩
    rw [if_neg (by decide), star_lane]
    refine ⟨_, rfl, _, _, rfl, rfl, rfl, _, rfl, ?_⟩
    rw [show (!decide (V.bl (decide (ws.length + 1 < 3)) = V.bl (decide ((m : Int) < 3)))) = false by
      rw [show decide ((m : Int) < 3) = decide (ws.length + 1 < 3) from decide_eq_decide.mpr (by omega)]
      simp]
    have fin : ∀ Hz, Same (rm G10 a) (rm Hz a) → Well Hz a → tAndV (tCall (spRoomsR C) [] E0 (tCons (tVar 0) (tCons (tVar 4) (tCons (tVar 5) tNil)))) (tCall (spRoomsR C) [] E0 (tCons (tVar 0) (tCons (tVar 4) (tCons (tVar 5) tNil))))
        [some (.ref a), some (vn m), some (.ref lw), some (.ref hd), some (.ref x), some (.ref q), v6, some (.ref xs), some (.ref xl), none] Hz Q := fun Hz sz wz => by
      refine ⟨_, rfl, _, rfl, _, rfl, a, x, q, ws, told, rfl, wz, TT10.same sz, hq10.same sz, hl, hG, fun H' s' w' => ⟨true, rfl, iteT ?_⟩⟩
      exact ⟨_, rfl, _, rfl, _, rfl, a, x, q, ws, told, rfl, w', (TT10.same sz).same s', (hq10.same sz).same s', hl, hG, fun H'' s'' w'' => k H'' (srA.trans (sz.trans (s'.trans s'')))⟩
    have wE := well_same sE ⟨_, _, _, w10⟩
    have srE := rm_mono a sE
    refine iteF ⟨_, rfl, _, _, rfl, rfl, _, rfl, ?_⟩
    by_cases h60 : m < 60
    · rw [decide_eq_true (by omega)]
      refine iteT ⟨_, rfl, _, rfl, _, rfl, _, rfl, _, rfl, a, (m : Int), rfl, wE, by omega, by omega, fun z v0 v1 v2 a7 b7 => ?_⟩
      obtain ⟨r, hr1, rfl⟩ := nat_of a7 b7
      generalize hG23 : upd _ a _ = G23
      have s23 : Same (rm H22 a) (rm G23 a) := by rw [← hG23]; exact sr_draw
      have w23 : Well G23 a := ⟨_, _, _, hG23 ▸ upd_same⟩
      clear hG23
      have sz := srE.trans s23
      refine ⟨x, lw, q, r, ws, told, rfl, (TT10.same sz).same (rm_same G23 a), (hLP10.same sz).same (rm_same G23 a), (hq10.same sz).same (rm_same G23 a), by omega, hG, by omega, fun H' s' => ?_⟩
      exact ⟨true, rfl, iteF (fin _ (sz.trans (rm_mono a s')) (well_same s' w23))⟩
    · rw [decide_eq_false (by omega)]
      exact iteF (iteF (fin _ srE wE))
end
end G

namespace G
open PySem L2 GM
def spLaw (K : PySem.W.Frag) : Sp := fun vs H Q _ => ∃ (a : Addr) (ns : List Int), vs = [.ref a] ∧ SqL K H a (ns.map V.int) ∧ ns.length ≤ 63 ∧ ∀ H', Q (.bl true) H'
theorem cut_int {ns : List Int} {lo hi : Option Int} {i : Nat} {y : V} (h : (cutV (ns.map V.int ++ [V.int 0]) lo hi)[i]? = some y) : ∃ z, y = V.int z := by
  have m : y ∈ cutV (ns.map V.int ++ [V.int 0]) lo hi := List.mem_of_getElem? h
  have m2 : y ∈ ns.map V.int ++ [V.int 0] := List.mem_of_mem_drop (List.mem_of_mem_take m)
  rcases List.mem_append.mp m2 with h | h
  · obtain ⟨z, _, rfl⟩ := List.mem_map.mp h
    exact ⟨z, rfl⟩
  · exact ⟨0, List.mem_singleton.mp h⟩
theorem ww_nil : ∀ w ∈ ([] : List Way), w.1 < w.2 ∧ w.2 < ([] : List Way).length + 1 := fun w h => nomatch h
theorem grown_nil : Grown [0] [] := ⟨by decide, by decide, rfl, fun k w h => by simp at h⟩
theorem nb_nil {a b : Nat} : b ∉ nb (rows []) a := fun m => by
  rw [mem_rows ww_nil] at m
  rcases m with m | m <;> cases m
theorem hang_nil : hang [] [] 0 = [0] := by
  refine (hang_eq ww_nil (F := [0]) (by decide) (by simp) fun x => ?_).symm.trans (srt_eq (List.Perm.refl _) (by simp)).symm
  rw [List.mem_singleton]
  constructor
  · rintro rfl
    exact .here
  · intro h
    cases h with
    | here => rfl
    | step _ m _ => exact absurd m nb_nil
theorem pcs_nil : pcs [] [] = [[0]] := by
  rw [pcs_lpcs ww_nil]
  have e0 : lpcs [] [] 0 = [] := List.length_eq_zero_iff.mp (by have := lpcs_len (ws := []) (W := []) (i := 0); omega)
  rw [show ([] : List Way).length + 1 = 0 + 1 from rfl, lpcs_succ, e0, hang_nil]
  rfl
theorem make_nil {C : Addr} {σ : St} {H : Hp} {Q : VK} (k : ∀ H' x, TreeAt C H' x [] → Q (.ref x) H') : tMake C (spInit C) [] E0 (tCons (tLst tNil) tNil) σ H Q := by
  refine ⟨(by show 0 ≤ sizeLine; decide), fun e ne1 => ?_⟩
  generalize hG1 : upd _ e _ = G1
  have le : LP G1 e [] := ⟨[], hG1 ▸ upd_same, rfl, fun i a h => by simp at h⟩
  clear hG1
  refine fun t dt nt ndt net => ?_
  have sm := made_same (C := C) nt ndt
  refine ⟨t, e, dt, [], rfl, upd_same, le.same sm, (by show 0 ≤ 59; decide), True.intro, fun G2 lw lr k2 hx hlw hlr => ⟨rfl, ?_⟩⟩
  obtain ⟨s2, T2⟩ := tree_made nt ndt net k2 hx hlw hlr
  exact k G2 t (T2.same (only_same s2))
section
variable {P : Program} {w : World} {K : PySem.W.Frag} {mg : Str → Option Value} {base : Heap} {C : Addr}
theorem scLaw : FnScope ["script", "k", "cell"] ["script"] (defScope s_law) := ⟨rfl, rfl, rfl, by decide +kernel, rfl, by decide +kernel, by decide +kernel⟩
theorem ok_law {f : Addr} {fd : FuncData} (F : Fun K "law" "law" s_law f fd) (T : TxB K mg C) (L_law_right : Cal P w K mg base "_law_right" 8 ["well"] spRight) (L_Tree : CalK P w K mg base C "Tree" 4 ["self", "ways"] (spInit C)) (L_Tbeside : CalM P w K mg base C "beside" 5 ["self", "room"] (spBeside C)) (L_Tpieces : CalM P w K mg base C "pieces" 5 ["self", "without"] (spPcs C)) (L_Tbetween : CalM P w K mg base C "between" 5 ["self", "one", "other"] (spBetween C)) : FnOk P w K mg base CX0 9 f fd ["script"] (spLaw K) := by
  refine F.ok scLaw (fun vs H Q E h => ?_) (fun cdv A outer s H vs Q E hr h => ?_)
  · obtain ⟨a, ns, rfl, _⟩ := h
    rfl
  · obtain ⟨a, ns, rfl, hS, hl, k⟩ := h
    have hu := hr.units
    refine ⟨_, (pss_cons (ps_for PassesOwn.never rfl (pi_enum (by rfl) T.en (pa_cons (pe_slice sl_list (pe_op op_catR (pv 0) (pe_lst (pa_cons pe_int pa_nil))) po_none (po_some pe_int)) pa_nil)) (pg_tup rfl (pgs_cons (pg_name (i := 1) scLaw.nd rfl (Or.inl rfl)) (pgs_cons (pg_name (i := 2) scLaw.nd rfl (Or.inl rfl)) pgs_nil)))
        (pss_one (ps_if (pt_not (pt_val (L_law_right.pe (hr.mono (by decide)) rfl (pa_cons (pe_lst (pa_cons (pe_op op_mul (pv 2) (pe_callTy call_int1 (by rfl) T.int PyProof.Rows.boot_int (pa_cons (pe_cmpR op_ge (pv 2) (pe_op op_pow pe_int pe_int) (nomark _)) pa_nil))) (pa_cons (pe_op op_add (pe_op op_mod (pv 2) pe_int) (pe_op op_mul pe_int (pv 1))) (pa_cons pe_int pa_nil)))) pa_nil)))) (pss_one (ps_ret pe_bl)) pss_nil)))
      (pss_one (ps_ret (pe_and (pe_cmpR (op_eqD hu) (L_Tbeside.pe (hr.mono (by decide)) (L_Tree.pe (hr.mono (by decide)) rfl (pa_cons (pe_lst pa_nil) pa_nil)) (pa_cons pe_int pa_nil)) (pe_lst pa_nil) (nomark _)) (pe_and (pe_cmpR (op_eqD hu) (L_Tpieces.pe (hr.mono (by decide)) (L_Tree.pe (hr.mono (by decide)) rfl (pa_cons (pe_lst pa_nil) pa_nil)) (pa_cons (pe_lst pa_nil) pa_nil)) (pe_lst (pa_cons (pe_lst (pa_cons pe_int pa_nil)) pa_nil)) (nomark _)) (pe_one (pe_cmpR (op_eqD hu) (L_Tbetween.pe (hr.mono (by decide)) (L_Tree.pe (hr.mono (by decide)) rfl (pa_cons (pe_lst pa_nil) pa_nil)) (pa_cons pe_int (pa_cons pe_int pa_nil))) (pe_lst (pa_cons pe_int pa_nil)) (nomark _)))))))), ?_⟩
    refine ⟨_, rfl, (by show 1 ≤ sizeLine; decide), fun p1 n1 => ?_⟩
    generalize hB1 : upd _ p1 _ = B1
    have s1 : Same H B1 := hB1 ▸ same_new n1
    have h1 : B1 p1 = some _ := hB1 ▸ upd_same
    refine ⟨a, p1, _, _, rfl, rfl, s1.seq hS, SqL.of h1, (by rw [List.length_map]; exact Nat.le_trans (Nat.add_le_add_right hl 1) (by decide)), fun p2 n2 => ?_⟩
    generalize hB2 : upd _ p2 _ = B2
    have h2 : B2 p2 = some _ := hB2 ▸ upd_same
    refine ⟨4, rfl, p2, _, rfl, SqL.of h2, fun p3 n3 => ?_⟩
    have hlen := cutV_length (ns.map V.int ++ [V.int 0]) none (some 4)
    have hint : ∀ {i : Nat} {y : V}, (cutV (ns.map V.int ++ [V.int 0]) none (some 4))[i]? = some y → ∃ z, y = V.int z := fun h => cut_int h
    generalize cutV (ns.map V.int ++ [V.int 0]) none (some 4) = cs at hlen hint
    refine ⟨p3, cs, rfl, SqL.of upd_same, ?_⟩
    refine for_it (walk_enum (xs := cs)) (fun j σ Hd => ∃ v1 v2, σ = [some (.ref a), v1, v2] ∧ Hd p3 = some (.lst cs)) ⟨_, _, rfl, upd_same⟩ (fun j σ Hd _ ⟨_, _, _, h⟩ => SqL.of h) ?_ ?_
    · rintro j y σ Hd Hd' hj ⟨v1, v2, rfl, hd⟩ ⟨T0, y1, y2, rfl, nT, rfl, ey1, ey2⟩
      obtain rfl : y1 = V.int (j : Nat) := (Option.some.inj ey1).symm
      obtain ⟨z, rfl⟩ := hint ey2
      refine ⟨T0, _, rfl, SqT.of upd_same, rfl, _, _, rfl, _, _, rfl, rfl, ?_⟩
      generalize hB3 : upd _ T0 _ = B3
      have s3 : Same Hd B3 := hB3 ▸ same_new nT
      refine ⟨_, rfl, _, rfl, _, _, rfl, rfl, ⟨by decide, by decide, by decide⟩, _, _, rfl, rfl, .inr ⟨_, rfl, _, _, rfl, rfl, .inr (by split <;> exact ⟨by decide, by decide⟩), ?_⟩⟩
      refine ⟨_, rfl, _, _, rfl, rfl, (by show (0 : Int) < 2147483647; decide), _, rfl, _, _, rfl, rfl, .inl ⟨by decide, by decide⟩, _, _, rfl, rfl, ?_⟩
      refine ⟨(by show 3 ≤ sizeLine; decide), fun p4 n4 => ?_⟩
      have q := s3 _ _ hd
      refine ⟨p4, rfl, ⟨_, _, _, upd_same⟩, fun H' s' => ⟨_, rfl, iteF ⟨_, _, rfl, ?_⟩⟩⟩
      have n34 : p3 ≠ p4 := ne_of_none q n4
      refine sr_at s' n34 ?_
      rw [upd_ne n34]
      exact q
    · rintro σ Hd ⟨v1, v2, rfl, hd⟩
      unfold tRet tAndV tOp tMeth
      dsimp only
      refine make_nil fun H1 x1 T1 => ?_
      obtain ⟨dx1, _, _, ip1, _⟩ := id T1
      refine ⟨x1, dx1, _, rfl, ip1, flds_no _ _ k_bs k_bs2, x1, [], 0, rfl, T1, by decide, by decide, fun H2 b s2 n2 hb => ?_⟩
      have hb0 : NL H2 b [] := by
        have e : nb (rows []) 0 = [] := List.eq_nil_iff_forall_not_mem.mpr fun x m => nb_nil m
        rw [e] at hb
        exact hb
      refine ⟨(by show 0 ≤ sizeLine; decide), fun e0 ne0 => ?_⟩
      generalize hG3 : upd _ e0 _ = H3
      have s3 : Same H2 H3 := hG3 ▸ same_new ne0
      have he0 : NL H3 e0 [] := hG3 ▸ upd_same
      clear hG3
      refine eq_nl (hb0.same s3) he0 ⟨true, rfl, iteT ?_⟩
      refine make_nil fun H4 x2 T2 => ?_
      obtain ⟨dx2, _, _, ip2, _⟩ := id T2
      refine ⟨x2, dx2, _, rfl, ip2, flds_no _ _ k_pc k_pc2, (by show 0 ≤ sizeLine; decide), fun e1 ne1 => ?_⟩
      generalize hG5 : upd _ e1 _ = H5
      have s5 : Same H4 H5 := hG5 ▸ same_new ne1
      have he1 : NL H5 e1 [] := hG5 ▸ upd_same
      clear hG5
      refine .inl ⟨x2, e1, [], [], rfl, T2.same s5, (by show 0 ≤ 59; decide), ww_nil, he1, (fun x h => nomatch h), (by show 0 ≤ 100; decide), fun H6 t s6 n6 hLL => ?_⟩
      rw [pcs_nil] at hLL
      refine ⟨(by show 1 ≤ sizeLine; decide), fun e2 ne2 => ?_⟩
      generalize hG7 : upd _ e2 _ = H7
      have s7 : Same H6 H7 := hG7 ▸ same_new ne2
      have he2 : NL H7 e2 [0] := hG7 ▸ upd_same
      clear hG7
      refine ⟨(by show 1 ≤ sizeLine; decide), fun e3 ne3 => ?_⟩
      generalize hG8 : upd _ e3 _ = H8
      have s8 : Same H7 H8 := hG8 ▸ same_new ne3
      have he3 : LL H8 e3 [[0]] := ⟨[e2], hG8 ▸ upd_same, rfl, fun i a h => by
        match i, h with
        | 0, h =>
          obtain rfl := (Option.some.inj h)
          exact he2.same s8
        | n + 1, h => simp at h⟩
      clear hG8
      refine eq_ll (((hLL.same (only_same s6)).same s7).same s8) he3 ⟨true, rfl, iteT ?_⟩
      refine make_nil fun H9 x3 T3 => ?_
      obtain ⟨dx3, _, _, ip3, _⟩ := id T3
      obtain ⟨d, N⟩ := grown_near grown_nil (g := 0) (by decide)
      refine ⟨x3, dx3, _, rfl, ip3, flds_no _ _ k_bt k_bt2, x3, 0, 0, [], d, rfl, T3, (by show 0 ≤ 59; decide), ww_nil, by decide, by decide, N, fun H10 t2 l2 s10 n10 hp ht => ?_⟩
      have el : l2 = [0] := hp.uniq N.R .here
      rw [el] at ht
      refine ⟨(by show 1 ≤ sizeLine; decide), fun e4 ne4 => ?_⟩
      generalize hG11 : upd _ e4 _ = H11
      have s11 : Same H10 H11 := hG11 ▸ same_new ne4
      have he4 : NL H11 e4 [0] := hG11 ▸ upd_same
      clear hG11
      exact eq_nl (ht.same s11) he4 (k H11)
end
end G

namespace G
open PySem L2 GM
section
variable {K : PySem.W.Frag} {mg : Str → Option Value}
theorem kit_self {C : Addr} : PySem.W.kitOne K (.ref C) (.ref C) = some true := by
  show (if ((Value.ref C : Value) == Value.ref C) = true then some true else _) = some true
  rw [if_pos (by simp)]
theorem kit_type {T : String} {D : Addr} {b : Bool} (hC : PySem.W.isClsIn K D = true) (ty : PySem.W.typeIn K (.ref D) = some (.type "type")) (h : PySem.W.subIn K (.type T) (.ref D) = some b) : PySem.W.kitOne K (.type T) (.ref D) = some b := by
  have hC' : (PySem.W.clsIn K D).isSome = true := hC
  have e : ((PySem.W.clsIn K D).isSome && PySem.W.typeIn K (.ref D) == some (.type "type")) = true := by rw [hC', ty]; rfl
  have n : ¬ (((Value.type T : Value) == Value.ref D) = true) := fun z => by
    have y := beq_iff_eq.mp z
    cases y
  show (if ((Value.type T : Value) == Value.ref D) = true then _ else (if ((PySem.W.clsIn K D).isSome && PySem.W.typeIn K (.ref D) == some (.type "type")) = true then PySem.W.subIn K (.type T) (.ref D) else _)) = some b
  rw [if_neg n, if_pos e, h]
theorem cal_mk {P : Program} {w : World} {base : Heap} {x : Str} {k : Nat} {ps : List Str} {sp : Sp} {f : Addr} {fd : FuncData} {q : Str} {st : Stmt} (o : FnOk P w K mg base CX0 k f fd ps sp) (b : Binds K fd ps []) (g : mg x = some (.ref f)) (F : Fun K x q st f fd) : Cal P w K mg base x k ps sp := ⟨f, fd, o, b, g, F.kp⟩
theorem all_mk {l : PySem.W.OpenLaw} {w : World} {h : Heap} {fa C f_is_whole f_is_room f_is_way f_check_ways f_rows_beside f_hung_from f_law_draw f_law_ways f_law_near f_law_hanging f_law_between_right f_law_pieces f_law_rooms_right f_law_hung_right f_law_right f_law m_init m_ways m_len m_eq m_beside m_branch m_between m_pieces m_with_room m_check_rooms m_hanging : Addr} {d_is_whole d_is_room d_is_way d_check_ways d_rows_beside d_hung_from d_law_draw d_law_ways d_law_near d_law_hanging d_law_between_right d_law_pieces d_law_rooms_right d_law_hung_right d_law_right d_law e_init e_ways e_len e_eq e_beside e_branch e_between e_pieces e_with_room e_check_rooms e_hanging : FuncData} {tM : Tok} (X : K.In h) (G : h.Ns mainGlobals mg) (hfa : mg "law" = some (.ref fa))
    (a_is_whole : PySem.W.nsIn K mainGlobals "is_whole" = some (some (.ref f_is_whole))) (F_is_whole : Fun K "is_whole" "is_whole" s_is_whole f_is_whole d_is_whole)
    (a_is_room : PySem.W.nsIn K mainGlobals "is_room" = some (some (.ref f_is_room))) (F_is_room : Fun K "is_room" "is_room" s_is_room f_is_room d_is_room)
    (a_is_way : PySem.W.nsIn K mainGlobals "is_way" = some (some (.ref f_is_way))) (F_is_way : Fun K "is_way" "is_way" s_is_way f_is_way d_is_way)
    (a_check_ways : PySem.W.nsIn K mainGlobals "_check_ways" = some (some (.ref f_check_ways))) (F_check_ways : Fun K "_check_ways" "_check_ways" s__check_ways f_check_ways d_check_ways)
    (a_rows_beside : PySem.W.nsIn K mainGlobals "_rows_beside" = some (some (.ref f_rows_beside))) (F_rows_beside : Fun K "_rows_beside" "_rows_beside" s__rows_beside f_rows_beside d_rows_beside)
    (a_hung_from : PySem.W.nsIn K mainGlobals "hung_from" = some (some (.ref f_hung_from))) (F_hung_from : Fun K "hung_from" "hung_from" s_hung_from f_hung_from d_hung_from)
    (a_law_draw : PySem.W.nsIn K mainGlobals "_law_draw" = some (some (.ref f_law_draw))) (F_law_draw : Fun K "_law_draw" "_law_draw" s__law_draw f_law_draw d_law_draw)
    (a_law_ways : PySem.W.nsIn K mainGlobals "_law_ways" = some (some (.ref f_law_ways))) (F_law_ways : Fun K "_law_ways" "_law_ways" s__law_ways f_law_ways d_law_ways)
    (a_law_near : PySem.W.nsIn K mainGlobals "_law_near" = some (some (.ref f_law_near))) (F_law_near : Fun K "_law_near" "_law_near" s__law_near f_law_near d_law_near)
    (a_law_hanging : PySem.W.nsIn K mainGlobals "_law_hanging" = some (some (.ref f_law_hanging))) (F_law_hanging : Fun K "_law_hanging" "_law_hanging" s__law_hanging f_law_hanging d_law_hanging)
    (a_law_between_right : PySem.W.nsIn K mainGlobals "_law_between_right" = some (some (.ref f_law_between_right))) (F_law_between_right : Fun K "_law_between_right" "_law_between_right" s__law_between_right f_law_between_right d_law_between_right)
    (a_law_pieces : PySem.W.nsIn K mainGlobals "_law_pieces" = some (some (.ref f_law_pieces))) (F_law_pieces : Fun K "_law_pieces" "_law_pieces" s__law_pieces f_law_pieces d_law_pieces)
    (a_law_rooms_right : PySem.W.nsIn K mainGlobals "_law_rooms_right" = some (some (.ref f_law_rooms_right))) (F_law_rooms_right : Fun K "_law_rooms_right" "_law_rooms_right" s__law_rooms_right f_law_rooms_right d_law_rooms_right)
    (a_law_hung_right : PySem.W.nsIn K mainGlobals "_law_hung_right" = some (some (.ref f_law_hung_right))) (F_law_hung_right : Fun K "_law_hung_right" "_law_hung_right" s__law_hung_right f_law_hung_right d_law_hung_right)
    (a_law_right : PySem.W.nsIn K mainGlobals "_law_right" = some (some (.ref f_law_right))) (F_law_right : Fun K "_law_right" "_law_right" s__law_right f_law_right d_law_right)
    (a_law : PySem.W.nsIn K mainGlobals "law" = some (some (.ref f_law))) (F_law : Fun K "law" "law" s_law f_law d_law)
    (aC : PySem.W.nsIn K mainGlobals "Tree" = some (some (.ref C)))
    (i_init : PySem.W.findIn K (.ref C) "__init__" = some (some (.ref m_init))) (n_init : PySem.W.isFn K (.ref m_init) = true) (M_init : Fun K "__init__" "Tree.__init__" s_Tree___init__ m_init e_init)
    (i_ways : PySem.W.findIn K (.ref C) "ways" = some (some (.ref m_ways))) (n_ways : PySem.W.isFn K (.ref m_ways) = true) (M_ways : Fun K "ways" "Tree.ways" s_Tree_ways m_ways e_ways)
    (i_len : PySem.W.findIn K (.ref C) "__len__" = some (some (.ref m_len))) (n_len : PySem.W.isFn K (.ref m_len) = true) (M_len : Fun K "__len__" "Tree.__len__" s_Tree___len__ m_len e_len)
    (i_eq : PySem.W.findIn K (.ref C) "__eq__" = some (some (.ref m_eq))) (n_eq : PySem.W.isFn K (.ref m_eq) = true) (M_eq : Fun K "__eq__" "Tree.__eq__" s_Tree___eq__ m_eq e_eq)
    (i_beside : PySem.W.findIn K (.ref C) "beside" = some (some (.ref m_beside))) (n_beside : PySem.W.isFn K (.ref m_beside) = true) (M_beside : Fun K "beside" "Tree.beside" s_Tree_beside m_beside e_beside)
    (i_branch : PySem.W.findIn K (.ref C) "branch" = some (some (.ref m_branch))) (n_branch : PySem.W.isFn K (.ref m_branch) = true) (M_branch : Fun K "branch" "Tree.branch" s_Tree_branch m_branch e_branch)
    (i_between : PySem.W.findIn K (.ref C) "between" = some (some (.ref m_between))) (n_between : PySem.W.isFn K (.ref m_between) = true) (M_between : Fun K "between" "Tree.between" s_Tree_between m_between e_between)
    (i_pieces : PySem.W.findIn K (.ref C) "pieces" = some (some (.ref m_pieces))) (n_pieces : PySem.W.isFn K (.ref m_pieces) = true) (M_pieces : Fun K "pieces" "Tree.pieces" s_Tree_pieces m_pieces e_pieces)
    (i_with_room : PySem.W.findIn K (.ref C) "with_room" = some (some (.ref m_with_room))) (n_with_room : PySem.W.isFn K (.ref m_with_room) = true) (M_with_room : Fun K "with_room" "Tree.with_room" s_Tree_with_room m_with_room e_with_room)
    (i_check_rooms : PySem.W.findIn K (.ref C) "_check_rooms" = some (some (.ref m_check_rooms))) (n_check_rooms : PySem.W.isFn K (.ref m_check_rooms) = true) (M_check_rooms : Fun K "_check_rooms" "Tree._check_rooms" s_Tree__check_rooms m_check_rooms e_check_rooms)
    (i_hanging : PySem.W.findIn K (.ref C) "_hanging" = some (some (.ref m_hanging))) (n_hanging : PySem.W.isFn K (.ref m_hanging) = true) (M_hanging : Fun K "_hanging" "Tree._hanging" s_Tree__hanging m_hanging e_hanging)
    (pg : PySem.W.plainGet K C Str.empty = true) (hd : PySem.W.hasDictIn K C = true) (po : PySem.W.plainOver K C = true) (sa : PySem.W.findIn K (.ref C) "__setattr__" = some (some (.builtin "object.__setattr__"))) (mk : PySem.W.makesIn K C = true) (kc : PySem.W.keepIn K (.ref C) = true)
    (nW : PySem.W.findIn K (.ref C) "_ways" = some none) (nR : PySem.W.findIn K (.ref C) "_rows" = some none) (most : PySem.W.nsIn K mainGlobals "MOST_WAYS" = some (some (.int 59 tM)))
    (sN : PySem.W.findIn K (.ref C) "__ne__" = some (some (.builtin "object.__ne__"))) (sO : PySem.W.subIn K (.ref C) (.type "object") = some true) (sL : PySem.W.subIn K (.type "list") (.ref C) = some false) (tC : PySem.W.typeIn K (.ref C) = some (.type "type")) (cC : PySem.W.isClsIn K C = true)
    (kl : PySem.W.findIn K (.ref C) "__class__" = some (some (.builtin "object.__class__"))) (sp : PySem.W.specialIn K (.builtin "object.__class__") "__get__" = some (some (.builtin "getset_descriptor.__get__"))) (tk : PySem.W.takesIn K (.builtin "object.__class__") = some true) (mo : PySem.W.mroIn K C (.type "object") = some true)
    (b_isinstance : PySem.W.nsIn K mainGlobals "isinstance" = some none)
    (b_len : PySem.W.nsIn K mainGlobals "len" = some none)
    (b_list : PySem.W.nsIn K mainGlobals "list" = some none)
    (b_int : PySem.W.nsIn K mainGlobals "int" = some none)
    (b_bool : PySem.W.nsIn K mainGlobals "bool" = some none)
    (b_tuple : PySem.W.nsIn K mainGlobals "tuple" = some none)
    (b_range : PySem.W.nsIn K mainGlobals "range" = some none)
    (b_enumerate : PySem.W.nsIn K mainGlobals "enumerate" = some none)
    (b_sorted : PySem.W.nsIn K mainGlobals "sorted" = some none)
    (b_max : PySem.W.nsIn K mainGlobals "max" = some none)
    (b_all : PySem.W.nsIn K mainGlobals "all" = some none)
    (b_set : PySem.W.nsIn K mainGlobals "set" = some none) :
    ∃ fd : FuncData, (∀ (s : Shared) (v : Value), BindsTo s fd ⟨[v], []⟩ [("script", v)]) ∧ ∀ base : Heap, K.In base → base.Ns mainGlobals mg → FnOk l.prog w K mg base CX0 9 fa fd ["script"] (spLaw K) := by
  have e := hfa.symm.trans (PySem.W.mg_of X G a_law)
  cases e
  have bL : ∀ (s : Shared) (v : Value), BindsTo s d_law ⟨[v], []⟩ [("script", v)] := by
    obtain ⟨oc, od, kV, doc, pm, an, cdv, ct, osl, rfl, lk, hcd⟩ := F_law.ex
    exact fun s v => .of_eq rfl
  refine ⟨d_law, bL, fun base _ _ => ?_⟩
  have b_is_whole_ := F_is_whole.binds (ps := ["thing"]) fun _ _ _ _ _ _ us hl => match us, hl with | [_], _ => rfl
  have b_is_room_ := F_is_room.binds (ps := ["tree", "thing"]) fun _ _ _ _ _ _ us hl => match us, hl with | [_, _], _ => rfl
  have b_is_way_ := F_is_way.binds (ps := ["thing", "many"]) fun _ _ _ _ _ _ us hl => match us, hl with | [_, _], _ => rfl
  have b_check_ways_ := F_check_ways.binds (ps := ["ways"]) fun _ _ _ _ _ _ us hl => match us, hl with | [_], _ => rfl
  have b_rows_beside_ := F_rows_beside.binds (ps := ["ways"]) fun _ _ _ _ _ _ us hl => match us, hl with | [_], _ => rfl
  have b_hung_from_ := F_hung_from.binds (ps := ["rows", "start"]) fun _ _ _ _ _ _ us hl => match us, hl with | [_, _], _ => rfl
  have b_law_draw_ := F_law_draw.binds (ps := ["well", "many"]) fun _ _ _ _ _ _ us hl => match us, hl with | [_, _], _ => rfl
  have b_law_ways_ := F_law_ways.binds (ps := ["well", "many"]) fun _ _ _ _ _ _ us hl => match us, hl with | [_, _], _ => rfl
  have b_law_near_ := F_law_near.binds (ps := ["ways"]) fun _ _ _ _ _ _ us hl => match us, hl with | [_], _ => rfl
  have b_law_hanging_ := F_law_hanging.binds (ps := ["near", "room", "without"]) fun _ _ _ _ _ _ us hl => match us, hl with | [_, _, _], _ => rfl
  have b_law_between_right_ := F_law_between_right.binds (ps := ["near", "one", "other", "told"]) fun _ _ _ _ _ _ us hl => match us, hl with | [_, _, _, _], _ => rfl
  have b_law_pieces_ := F_law_pieces.binds (ps := ["near", "without"]) fun _ _ _ _ _ _ us hl => match us, hl with | [_, _], _ => rfl
  have b_law_rooms_right_ := F_law_rooms_right.binds (ps := ["well", "tree", "near"]) fun _ _ _ _ _ _ us hl => match us, hl with | [_, _, _], _ => rfl
  have b_law_hung_right_ := F_law_hung_right.binds (ps := ["tree", "ways", "near", "room"]) fun _ _ _ _ _ _ us hl => match us, hl with | [_, _, _, _], _ => rfl
  have b_law_right_ := F_law_right.binds (ps := ["well"]) fun _ _ _ _ _ _ us hl => match us, hl with | [_], _ => rfl
  have b_law_ := F_law.binds (ps := ["script"]) fun _ _ _ _ _ _ us hl => match us, hl with | [_], _ => rfl
  have g_is_whole := PySem.W.mg_of X G a_is_whole
  have g_is_room := PySem.W.mg_of X G a_is_room
  have g_is_way := PySem.W.mg_of X G a_is_way
  have g_check_ways := PySem.W.mg_of X G a_check_ways
  have g_rows_beside := PySem.W.mg_of X G a_rows_beside
  have g_hung_from := PySem.W.mg_of X G a_hung_from
  have g_law_draw := PySem.W.mg_of X G a_law_draw
  have g_law_ways := PySem.W.mg_of X G a_law_ways
  have g_law_near := PySem.W.mg_of X G a_law_near
  have g_law_hanging := PySem.W.mg_of X G a_law_hanging
  have g_law_between_right := PySem.W.mg_of X G a_law_between_right
  have g_law_pieces := PySem.W.mg_of X G a_law_pieces
  have g_law_rooms_right := PySem.W.mg_of X G a_law_rooms_right
  have g_law_hung_right := PySem.W.mg_of X G a_law_hung_right
  have g_law_right := PySem.W.mg_of X G a_law_right
  have g_law := PySem.W.mg_of X G a_law
  have c_init := M_init.binds (ps := ["self", "ways"]) fun _ _ _ _ _ _ us hl => match us, hl with | [_, _], _ => rfl
  have c_ways := M_ways.binds (ps := ["self"]) fun _ _ _ _ _ _ us hl => match us, hl with | [_], _ => rfl
  have c_len := M_len.binds (ps := ["self"]) fun _ _ _ _ _ _ us hl => match us, hl with | [_], _ => rfl
  have c_eq := M_eq.binds (ps := ["self", "other"]) fun _ _ _ _ _ _ us hl => match us, hl with | [_, _], _ => rfl
  have c_beside := M_beside.binds (ps := ["self", "room"]) fun _ _ _ _ _ _ us hl => match us, hl with | [_, _], _ => rfl
  have c_between := M_between.binds (ps := ["self", "one", "other"]) fun _ _ _ _ _ _ us hl => match us, hl with | [_, _, _], _ => rfl
  have c_pieces := M_pieces.binds (ps := ["self", "without"]) fun _ _ _ _ _ _ us hl => match us, hl with | [_, _], _ => rfl
  have c_with_room := M_with_room.binds (ps := ["self", "room"]) fun _ _ _ _ _ _ us hl => match us, hl with | [_, _], _ => rfl
  have c_check_rooms := M_check_rooms.binds (ps := ["self", "things"]) fun _ _ _ _ _ _ us hl => match us, hl with | [_, _], _ => rfl
  have c_hanging := M_hanging.binds (ps := ["self", "start", "without"]) fun _ _ _ _ _ _ us hl => match us, hl with | [_, _, _], _ => rfl
  have z_isinstance := PySem.W.mg_none_of X G b_isinstance
  have z_len := PySem.W.mg_none_of X G b_len
  have z_list := PySem.W.mg_none_of X G b_list
  have z_int := PySem.W.mg_none_of X G b_int
  have z_bool := PySem.W.mg_none_of X G b_bool
  have z_tuple := PySem.W.mg_none_of X G b_tuple
  have z_range := PySem.W.mg_none_of X G b_range
  have z_enumerate := PySem.W.mg_none_of X G b_enumerate
  have z_sorted := PySem.W.mg_none_of X G b_sorted
  have z_max := PySem.W.mg_none_of X G b_max
  have z_all := PySem.W.mg_none_of X G b_all
  have z_set := PySem.W.mg_none_of X G b_set
  have gC := PySem.W.mg_of X G aC
  have T1 : TxT K mg C := ⟨⟨pg, hd, po, sa⟩, nW, nR, z_isinstance, z_len, z_list, z_int, z_bool⟩
  have TW : TxW K mg := ⟨z_isinstance, z_len, z_list, z_tuple, z_range, z_enumerate, ⟨_, PySem.W.mg_of X G most⟩, z_sorted⟩
  have TL : TxL K mg := ⟨z_isinstance, z_len, z_list, z_int, z_tuple, z_range, z_enumerate, z_sorted, z_max⟩
  have TH : TxH K mg C := ⟨T1.cl, nW, nR, z_isinstance, z_len, z_list, z_tuple, z_range, z_sorted⟩
  have TP : TxP K mg C := { toTxH := TH, int := z_int }
  have TB : TxB K mg C := { toTxP := TP, all := z_all, set := z_set, en := z_enumerate }
  have TE : TxE K mg C := ⟨z_isinstance, gC, kl, sp, tk, mo, kit_self, kit_type cC tC sL⟩
  have o_len : FnOk l.prog w K mg base CX0 1 m_len e_len ["self"] (spLen C) := ok_len M_len T1
  have LCT : CalT l.prog w K mg base C f_is_whole m_len d_is_whole e_len := ⟨ok_whole F_is_whole T1, b_is_whole_, g_is_whole, F_is_whole.kp, o_len, c_len, i_len, n_len⟩
  have o_room := ok_room F_is_room T1 LCT
  have LCR : CalR l.prog w K mg base C f_is_room d_is_room := ⟨o_room, b_is_room_, g_is_room, F_is_room.kp⟩
  have o_chk := ok_chk M_check_rooms LCR
  have LCC : CalC l.prog w K mg base C m_check_rooms e_check_rooms := ⟨o_chk, c_check_rooms, ⟨i_check_rooms, n_check_rooms, M_check_rooms.kp⟩⟩
  have o_bes := ok_bes M_beside T1 LCC
  have LCW : CalW l.prog w K mg base f_is_whole d_is_whole := ⟨ok_whole F_is_whole T1, b_is_whole_, g_is_whole, F_is_whole.kp⟩
  have LCV : CalV l.prog w K mg base f_is_way d_is_way := ⟨ok_isw F_is_way TW LCW, b_is_way_, g_is_way, F_is_way.kp⟩
  have LCI : CalI l.prog w K mg base f_check_ways f_rows_beside d_check_ways d_rows_beside := ⟨ok_ckw F_check_ways TW LCV, b_check_ways_, g_check_ways, F_check_ways.kp, ok_Rows F_rows_beside TW, b_rows_beside_, g_rows_beside, F_rows_beside.kp⟩
  have LTree : CalK l.prog w K mg base C "Tree" 4 ["self", "ways"] (spInit C) := ⟨m_init, e_init, ok_ini M_init T1 LCI, c_init, ⟨mk, i_init, n_init, kc⟩, gC⟩
  have LTchk : CalM l.prog w K mg base C "_check_rooms" 4 ["self", "things"] (spCheck K C) := ⟨⟨m_check_rooms, e_check_rooms, o_chk, c_check_rooms, ⟨i_check_rooms, n_check_rooms, M_check_rooms.kp⟩⟩, T1.cl⟩
  have LTchkT : CalM l.prog w K mg base C "_check_rooms" 4 ["self", "things"] (spCheckT K C) := ⟨⟨m_check_rooms, e_check_rooms, ok_chkT M_check_rooms LCR, c_check_rooms, ⟨i_check_rooms, n_check_rooms, M_check_rooms.kp⟩⟩, T1.cl⟩
  have LThang : CalM l.prog w K mg base C "_hanging" 1 ["self", "start", "without"] (spHang C) := ⟨⟨m_hanging, e_hanging, ok_hang M_hanging TH, c_hanging, ⟨i_hanging, n_hanging, M_hanging.kp⟩⟩, T1.cl⟩
  have LTbes : CalM l.prog w K mg base C "beside" 5 ["self", "room"] (spBeside C) := ⟨⟨m_beside, e_beside, o_bes, c_beside, ⟨i_beside, n_beside, M_beside.kp⟩⟩, T1.cl⟩
  have LTways : CalM l.prog w K mg base C "ways" 1 ["self"] (spWaysM C) := ⟨⟨m_ways, e_ways, ok_ways M_ways TH, c_ways, ⟨i_ways, n_ways, M_ways.kp⟩⟩, T1.cl⟩
  have kb : KBn K e_branch ["self", "room", "away"] (1 + 1) ["away"] (fun us ws => us ++ ws) (fun vs zs => vs ++ zs) := by
    obtain ⟨oc, od, kV, doc, pm, an, cdv, ct, osl, rfl, lk, hcd⟩ := M_branch.ex
    exact ⟨fun s us ws _ h1 h2 => match us, ws, h1, h2 with | [_, _], [_], _, _ => .of_eq rfl, fun r r2 => r.append r2⟩
  have LTbr : CalMK l.prog w K mg base C "branch" 5 1 ["self", "room", "away"] ["away"] (spBranch C) := ⟨⟨m_branch, e_branch, ok_branch M_branch TH LTchk LThang, kb, ⟨i_branch, n_branch, M_branch.kp⟩⟩, T1.cl⟩
  have LTpcs : CalM l.prog w K mg base C "pieces" 5 ["self", "without"] (spPcs C) := ⟨⟨m_pieces, e_pieces, (ok_pcsL M_pieces TP LTchk LThang).or (ok_pcsT M_pieces TP LTchkT LThang), c_pieces, ⟨i_pieces, n_pieces, M_pieces.kp⟩⟩, T1.cl⟩
  have LTwr : CalM l.prog w K mg base C "with_room" 6 ["self", "room"] (spHung C) := ⟨⟨m_with_room, e_with_room, ok_hung M_with_room TH LTchk LTree, c_with_room, ⟨i_with_room, n_with_room, M_with_room.kp⟩⟩, T1.cl⟩
  have LLen : CalN l.prog w K mg base C 1 ["self"] (spLen C) := ⟨m_len, e_len, o_len, c_len, i_len, n_len⟩
  have LEq : CalE l.prog w K mg base C 1 (spEqT C) := ⟨m_eq, e_eq, ok_eq M_eq TH TE, c_eq, ⟨i_eq, sN, n_eq, sO, sL⟩⟩
  have L_hung_from := cal_mk (P := l.prog) (w := w) (base := base) (ok_hungf F_hung_from TH) b_hung_from_ g_hung_from F_hung_from
  have LTbt : CalM l.prog w K mg base C "between" 5 ["self", "one", "other"] (spBetween C) := ⟨⟨m_between, e_between, ok_between M_between TH L_hung_from LTchk, c_between, ⟨i_between, n_between, M_between.kp⟩⟩, T1.cl⟩
  have L_law_draw := cal_mk (P := l.prog) (w := w) (base := base) (ok_draw F_law_draw) b_law_draw_ g_law_draw F_law_draw
  have L_law_ways := cal_mk (P := l.prog) (w := w) (base := base) (ok_way F_law_ways TL L_law_draw) b_law_ways_ g_law_ways F_law_ways
  have L_law_near := cal_mk (P := l.prog) (w := w) (base := base) (ok_Near F_law_near TW) b_law_near_ g_law_near F_law_near
  have L_law_hanging := cal_mk (P := l.prog) (w := w) (base := base) (ok_lhang F_law_hanging TP) b_law_hanging_ g_law_hanging F_law_hanging
  have L_law_between_right := cal_mk (P := l.prog) (w := w) (base := base) (ok_btw F_law_between_right TB) b_law_between_right_ g_law_between_right F_law_between_right
  have L_law_pieces := cal_mk (P := l.prog) (w := w) (base := base) (ok_lpcs F_law_pieces TP L_law_hanging) b_law_pieces_ g_law_pieces F_law_pieces
  have L_law_rooms_right := cal_mk (P := l.prog) (w := w) (base := base) (ok_roomsr F_law_rooms_right TB ⟨L_law_draw, L_law_between_right, L_law_pieces, L_law_hanging, LTbt, LTpcs, LTbr⟩) b_law_rooms_right_ g_law_rooms_right F_law_rooms_right
  have L_law_hung_right := cal_mk (P := l.prog) (w := w) (base := base) (ok_hungr F_law_hung_right TB ⟨L_law_near, L_law_pieces, LTbt, LTpcs, LTbr, LTbes, LTways, LTwr, LTree, LLen, LEq⟩) b_law_hung_right_ g_law_hung_right F_law_hung_right
  have L_law_right := cal_mk (P := l.prog) (w := w) (base := base) (ok_right F_law_right TB ⟨L_law_draw, L_law_ways, LTree, L_law_near, LTways, LTbes, LLen, LEq, L_law_hung_right, L_law_rooms_right⟩) b_law_right_ g_law_right F_law_right
  exact ok_law F_law TB L_law_right LTree LTbes LTpcs LTbt
end
theorem walk {l : PySem.W.OpenLaw} {q : Program} {loose : List Str} {XP : (Str → Option Value) → Heap → Prop} {YP : World → Heap → Prop} {d : DefRec} {K : Params → PySem.W.Frag} (hn : l.most = some 63) (hdf : d.params.defaults = [])
    (hY : ∀ (w : World) (h : Heap), YP w h → (K w.params).In h)
    (F : ∀ (w : World) (mg : Str → Option Value) (fa : Addr) (h : Heap), (K w.params).In h → h.Ns mainGlobals mg → mg d.name = some (.ref fa) →
      ∃ fd : FuncData, (∀ (s : Shared) (u : Value), BindsTo s fd ⟨[u], []⟩ [("script", u)]) ∧ ∀ base : Heap, (K w.params).In base → base.Ns mainGlobals mg → FnOk l.prog w (K w.params) mg base CX0 9 fa fd ["script"] (spLaw (K w.params))) :
    PySem.W.WalkO q loose XP YP l.row.toRowW d [] (fun f vs => PySem.call f vs) :=
  L2.walk_of (n := 63) (k := 9) (x := "script") (CX := fun _ => CX0) (sp := fun w => spLaw (K w.params)) hn (by decide) hdf ⟨rfl, by decide, by decide⟩ hY F (fun _ _ a ns hl _ hS => ⟨a, ns, rfl, hS, hl, fun _ => rfl⟩) fun _ _ _ _ _ z => z
end G
open PySem PySem.W PyProof.Rows
set_option maxRecDepth 100000 in
set_option maxHeartbeats 0 in
theorem PySem.Challenge.cw_apartguards_k01_trees_told_holds : PySem.Challenge.rw_apartguards_k01_trees_told.Holds := by
  w_on; o_law; k_head; (case hw => w_witness2)
  k_fill
  refine G.walk (l := PySem.Challenge.rw_apartguards_k01_trees_told) rfl rfl (fun w h Y => PySem.W.kIn_of Y) ?F
  case F =>
    intro w mg fa h KX GN hmg
    refine' G.all_mk KX GN hmg ?zqa_is_whole ?zqF_is_whole ?zqa_is_room ?zqF_is_room ?zqa_is_way ?zqF_is_way ?zqa_check_ways ?zqF_check_ways ?zqa_rows_beside ?zqF_rows_beside ?zqa_hung_from ?zqF_hung_from ?zqa_law_draw ?zqF_law_draw ?zqa_law_ways ?zqF_law_ways ?zqa_law_near ?zqF_law_near ?zqa_law_hanging ?zqF_law_hanging ?zqa_law_between_right ?zqF_law_between_right ?zqa_law_pieces ?zqF_law_pieces ?zqa_law_rooms_right ?zqF_law_rooms_right ?zqa_law_hung_right ?zqF_law_hung_right ?zqa_law_right ?zqF_law_right ?zqa_law ?zqF_law ?zqaC ?zqi_init ?zqn_init ?zqM_init ?zqi_ways ?zqn_ways ?zqM_ways ?zqi_len ?zqn_len ?zqM_len ?zqi_eq ?zqn_eq ?zqM_eq ?zqi_beside ?zqn_beside ?zqM_beside ?zqi_branch ?zqn_branch ?zqM_branch ?zqi_between ?zqn_between ?zqM_between ?zqi_pieces ?zqn_pieces ?zqM_pieces ?zqi_with_room ?zqn_with_room ?zqM_with_room ?zqi_check_rooms ?zqn_check_rooms ?zqM_check_rooms ?zqi_hanging ?zqn_hanging ?zqM_hanging ?zqpg ?zqhd ?zqpo ?zqsa ?zqmk ?zqkc ?zqnW ?zqnR ?zqmost ?zqsN ?zqsO ?zqsL ?zqtC ?zqcC ?zqkl ?zqsp ?zqtk ?zqmo ?zqb_isinstance ?zqb_len ?zqb_list ?zqb_int ?zqb_bool ?zqb_tuple ?zqb_range ?zqb_enumerate ?zqb_sorted ?zqb_max ?zqb_all ?zqb_set
    (case zqa_is_whole => k_is)
    (case zqF_is_whole => (refine' L2.fun_mk (st := G.s_is_whole) ?zql ?zqc ?zqk; (case zql => k_is); (case zqc => k_is); (case zqk => k_is)))
    (case zqa_is_room => k_is)
    (case zqF_is_room => (refine' L2.fun_mk (st := G.s_is_room) ?zql ?zqc ?zqk; (case zql => k_is); (case zqc => k_is); (case zqk => k_is)))
    (case zqa_is_way => k_is)
    (case zqF_is_way => (refine' L2.fun_mk (st := G.s_is_way) ?zql ?zqc ?zqk; (case zql => k_is); (case zqc => k_is); (case zqk => k_is)))
    (case zqa_check_ways => k_is)
    (case zqF_check_ways => (refine' L2.fun_mk (st := G.s__check_ways) ?zql ?zqc ?zqk; (case zql => k_is); (case zqc => k_is); (case zqk => k_is)))
    (case zqa_rows_beside => k_is)
    (case zqF_rows_beside => (refine' L2.fun_mk (st := G.s__rows_beside) ?zql ?zqc ?zqk; (case zql => k_is); (case zqc => k_is); (case zqk => k_is)))
    (case zqa_hung_from => k_is)
    (case zqF_hung_from => (refine' L2.fun_mk (st := G.s_hung_from) ?zql ?zqc ?zqk; (case zql => k_is); (case zqc => k_is); (case zqk => k_is)))
    (case zqa_law_draw => k_is)
    (case zqF_law_draw => (refine' L2.fun_mk (st := G.s__law_draw) ?zql ?zqc ?zqk; (case zql => k_is); (case zqc => k_is); (case zqk => k_is)))
    (case zqa_law_ways => k_is)
    (case zqF_law_ways => (refine' L2.fun_mk (st := G.s__law_ways) ?zql ?zqc ?zqk; (case zql => k_is); (case zqc => k_is); (case zqk => k_is)))
    (case zqa_law_near => k_is)
    (case zqF_law_near => (refine' L2.fun_mk (st := G.s__law_near) ?zql ?zqc ?zqk; (case zql => k_is); (case zqc => k_is); (case zqk => k_is)))
    (case zqa_law_hanging => k_is)
    (case zqF_law_hanging => (refine' L2.fun_mk (st := G.s__law_hanging) ?zql ?zqc ?zqk; (case zql => k_is); (case zqc => k_is); (case zqk => k_is)))
    (case zqa_law_between_right => k_is)
    (case zqF_law_between_right => (refine' L2.fun_mk (st := G.s__law_between_right) ?zql ?zqc ?zqk; (case zql => k_is); (case zqc => k_is); (case zqk => k_is)))
    (case zqa_law_pieces => k_is)
    (case zqF_law_pieces => (refine' L2.fun_mk (st := G.s__law_pieces) ?zql ?zqc ?zqk; (case zql => k_is); (case zqc => k_is); (case zqk => k_is)))
    (case zqa_law_rooms_right => k_is)
    (case zqF_law_rooms_right => (refine' L2.fun_mk (st := G.s__law_rooms_right) ?zql ?zqc ?zqk; (case zql => k_is); (case zqc => k_is); (case zqk => k_is)))
    (case zqa_law_hung_right => k_is)
    (case zqF_law_hung_right => (refine' L2.fun_mk (st := G.s__law_hung_right) ?zql ?zqc ?zqk; (case zql => k_is); (case zqc => k_is); (case zqk => k_is)))
    (case zqa_law_right => k_is)
    (case zqF_law_right => (refine' L2.fun_mk (st := G.s__law_right) ?zql ?zqc ?zqk; (case zql => k_is); (case zqc => k_is); (case zqk => k_is)))
    (case zqa_law => k_is)
    (case zqF_law => (refine' L2.fun_mk (st := G.s_law) ?zql ?zqc ?zqk; (case zql => k_is); (case zqc => k_is); (case zqk => k_is)))
    (case zqaC => k_is)
    (case zqi_init => k_is)
    (case zqn_init => k_is)
    (case zqM_init => (refine' L2.fun_mk (st := G.s_Tree___init__) ?zql ?zqc ?zqk; (case zql => k_is); (case zqc => k_is); (case zqk => k_is)))
    (case zqi_ways => k_is)
    (case zqn_ways => k_is)
    (case zqM_ways => (refine' L2.fun_mk (st := G.s_Tree_ways) ?zql ?zqc ?zqk; (case zql => k_is); (case zqc => k_is); (case zqk => k_is)))
    (case zqi_len => k_is)
    (case zqn_len => k_is)
    (case zqM_len => (refine' L2.fun_mk (st := G.s_Tree___len__) ?zql ?zqc ?zqk; (case zql => k_is); (case zqc => k_is); (case zqk => k_is)))
    (case zqi_eq => k_is)
    (case zqn_eq => k_is)
    (case zqM_eq => (refine' L2.fun_mk (st := G.s_Tree___eq__) ?zql ?zqc ?zqk; (case zql => k_is); (case zqc => k_is); (case zqk => k_is)))
    (case zqi_beside => k_is)
    (case zqn_beside => k_is)
    (case zqM_beside => (refine' L2.fun_mk (st := G.s_Tree_beside) ?zql ?zqc ?zqk; (case zql => k_is); (case zqc => k_is); (case zqk => k_is)))
    (case zqi_branch => k_is)
    (case zqn_branch => k_is)
    (case zqM_branch => (refine' L2.fun_mk (st := G.s_Tree_branch) ?zql ?zqc ?zqk; (case zql => k_is); (case zqc => k_is); (case zqk => k_is)))
    (case zqi_between => k_is)
    (case zqn_between => k_is)
    (case zqM_between => (refine' L2.fun_mk (st := G.s_Tree_between) ?zql ?zqc ?zqk; (case zql => k_is); (case zqc => k_is); (case zqk => k_is)))
    (case zqi_pieces => k_is)
    (case zqn_pieces => k_is)
    (case zqM_pieces => (refine' L2.fun_mk (st := G.s_Tree_pieces) ?zql ?zqc ?zqk; (case zql => k_is); (case zqc => k_is); (case zqk => k_is)))
    (case zqi_with_room => k_is)
    (case zqn_with_room => k_is)
    (case zqM_with_room => (refine' L2.fun_mk (st := G.s_Tree_with_room) ?zql ?zqc ?zqk; (case zql => k_is); (case zqc => k_is); (case zqk => k_is)))
    (case zqi_check_rooms => k_is)
    (case zqn_check_rooms => k_is)
    (case zqM_check_rooms => (refine' L2.fun_mk (st := G.s_Tree__check_rooms) ?zql ?zqc ?zqk; (case zql => k_is); (case zqc => k_is); (case zqk => k_is)))
    (case zqi_hanging => k_is)
    (case zqn_hanging => k_is)
    (case zqM_hanging => (refine' L2.fun_mk (st := G.s_Tree__hanging) ?zql ?zqc ?zqk; (case zql => k_is); (case zqc => k_is); (case zqk => k_is)))
    (case zqpg => k_is)
    (case zqhd => k_is)
    (case zqpo => k_is)
    (case zqsa => k_is)
    (case zqmk => k_is)
    (case zqkc => k_is)
    (case zqnW => k_is)
    (case zqnR => k_is)
    (case zqmost => k_is)
    (case zqsN => k_is)
    (case zqsO => k_is)
    (case zqsL => k_is)
    (case zqtC => k_is)
    (case zqcC => k_is)
    (case zqkl => k_is)
    (case zqsp => k_is)
    (case zqtk => k_is)
    (case zqmo => k_is)
    (case zqb_isinstance => k_is)
    (case zqb_len => k_is)
    (case zqb_list => k_is)
    (case zqb_int => k_is)
    (case zqb_bool => k_is)
    (case zqb_tuple => k_is)
    (case zqb_range => k_is)
    (case zqb_enumerate => k_is)
    (case zqb_sorted => k_is)
    (case zqb_max => k_is)
    (case zqb_all => k_is)
    (case zqb_set => k_is)
