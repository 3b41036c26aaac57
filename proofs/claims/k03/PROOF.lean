import PyProof.Rows.All
import Wide.All
import OpenK.AllK
import Wide.FinOn
import HandS.ForExc
import HandS.ExcInit
import HandS.IsInst
import HandS.Defaults
import HandS.ExcValue
import KE.KExcIs
import HandS.ForMost
import HandS.Walk
import HandS.OwnEq
import HandS.DictComp
import HandS.SortInts
import HandS.SetFor
import HandS.Conv
import HandS.ListItems
import HandS.ExcField
import HandS.Flow
import HandS.Style
import KE.GoesMore
import KE.GoesEnum
import KE.KSortTupAny
import HandS.Deep
import HandS.More
import HandS.Star
import HandS.Words
import PyProof.ReprReads
import KE.DatumIndex
import PyProof.ReprRoads
import HandS.Sort
import HandS.Comp
import HandS.WordsExc
import HandS.CallLocal
import PyProof.CallFns
import HandS.TupAny
import PyProof.ReprLen
import HandS.SuiteRaise
import HandS.RaiseFrom
import HandS.ExcInitHot
import HandS.Finally
import KE.KNestM
import KE.KLam
import HandS.EndTab
import HandS.Lambda
import HandS.TryMany
import HandS.List
import HandS.MakeKwOnly
import PySem.Challenge.RW_apartguards_k03_settings_and_moves
set_option Elab.async false
set_option linter.all false
set_option maxRecDepth 100000
set_option maxHeartbeats 4000000
/-! Own exceptions with an __init__ of their own as plain values: made by place or by names, their fields read, asked by isinstance. -/
namespace PySem
namespace XV
open PySem.W PySem.Calls PyProof.Rows PySem.HandSPX
section
variable {M : Model} {A : Around} {E : Value → Shared → Prop} {h : Heap} {g : Array GenState} {d : Drawn} {t : Nat} {os : OsState}
variable {nm q : Str} {C N : Addr} {bs bm bmB : List Value} {hdct : Bool} {sn : List Str} {sub : List Value} {ab : Bool} {col : Option Bool} {dd : Option Addr} {k0 k1 k2 k3 k5 : Option Value} {B newId initId : String}
theorem check_newK (F : ExcBaseFacts B newId initId bmB) (hT : ∀ X : String, bm.contains (.type X) = bmB.contains (.type X)) {rest : List Value} {kw : List (Str × Value)} {Q : Unit → Shared → Prop}
    (hC : h.get? C = some (excClassObj nm q C N bs bm hdct sn sub ab col dd k0 k1 k2 k3 k5 newId)) (hq : Q () ⟨h, g, d, t, os⟩) : wpAny M A (checkBuiltinCall newId ⟨.ref C :: rest, kw⟩) Q E ⟨h, g, d, t, os⟩ := by
  have hcont : (Value.ref C :: bm).contains (.type B) = true := by rw [List.contains_cons, hT, F.hasB, Bool.or_true]
  have hstar := F.noStar
  simp only [checkBuiltinCall, F.newKind, F.newSplit, F.newRow]
  repeat (first | refine wpAny_loadPart_at hC ?_ | (refine wpAny_isSubtype_exc hC ?_; rw [hcont]) | refine wpAny_staticBase_exc hC ?_ | refine wpAny_madeBy_exc hC ?_ | simp only [bne_self_eq_false, Bool.false_eq_true, if_false] | wp_step)
  exact hq
end
section
variable {prog : Program} {w : World} {A : Around} {E : Value → Shared → Prop} {R : Result → Shared → Prop} {h : Heap} {g : Array GenState} {d : Drawn} {t : Nat} {os : OsState}
variable {nm q : Str} {C N : Addr} {bs bm bmB : List Value} {hdct : Bool} {sn : List Str} {sub : List Value} {ab : Bool} {col : Option Bool} {dd : Option Addr} {k0 k1 k2 k3 k5 : Option Value} {B newId initId : String}
theorem new_K (F : ExcBaseFacts B newId initId bmB) (hT : ∀ X : String, bm.contains (.type X) = bmB.contains (.type X)) {rest : List Value} {kw : List (Str × Value)}
    (hC : h.get? C = some (excClassObj nm q C N bs bm hdct sn sub ab col dd k0 k1 k2 k3 k5 newId))
    (hq : R (.ok (.ret (.ref (h.objs.size + 1)))) ⟨(h.push { cls := .type "tuple", data := .seq rest.toArray }).push
      { cls := .ref C, data := .fields #[.ref h.objs.size, .none, .none, .none, .bool false, .none] }, g, d, t, os⟩) (hrest : rest.length ≤ sizeLine) :
    codeAny (model prog w) A (.builtin newId ⟨.ref C :: rest, kw⟩) R ⟨h, g, d, t, os⟩ := by
  have hends := F.ends
  have hcB : (Value.ref C :: bm).contains (.type B) = true := by rw [List.contains_cons, hT, F.hasB, Bool.or_true]
  have hcA : (Value.ref C :: bm).contains (.type "AttributeError") = false := by rw [List.contains_cons, hT, F.noAttr]; rfl
  have hcN : (Value.ref C :: bm).contains (.type "NameError") = false := by rw [List.contains_cons, hT, F.noName]; rfl
  refine codeAny_builtinAt F.entry ?_
  unfold Builtin.«BaseException.__new__»
  refine wpAt_bind ?_
  show wpAt _ _ _ (stack >>= _) _ _ _
  refine wpAt_bind (wpAt_stack fun p below => wpAt_of_wpAny ?_)
  wp_walk
  refine wpAt_of_wpAny ?_
  rw [F.owner]
  repeat (first | with_reducible refine wpAny_madeHere_exc F.canon hC ?_ | with_reducible refine wpAny_loadPart_at hC ?_ | (with_reducible refine wpAny_isSubtype_exc hC ?_; first | rw [hcB] | rw [hcA] | rw [hcN]) | wp_step)
  show R _ _
  rw [Heap.size_push]
  exact hq
theorem type_call_K (F : ExcBaseFacts B newId initId bmB) (hT : ∀ X : String, bm.contains (.type X) = bmB.contains (.type X)) {rest : List Value} {kw : List (Str × Value)} {fI : Addr} {Q : Fin → Shared → Prop}
    (hC : h.get? C = some (excClassObj nm q C N bs bm hdct sn sub ab col dd k0 k1 k2 k3 k5 newId))
    (hi : W.Looks (model prog w) h (typeLookup (.ref C) "__init__") (some (.ref fI))) (hb : ∀ self, W.Looks (model prog w) h (bindSpecial (.ref fI) self) (.ref fI, [self])) (hrest : rest.length ≤ sizeLine)
    (hq : codeAny (model prog w) A (.call (.ref fI) ⟨.ref (h.objs.size + 1) :: rest, kw⟩)
      (fun r s' => match r with | .ok (.ret v) => v = .none ∧ Q (.done (.ret (.ref (h.objs.size + 1)))) s' | .ok _ => False | .error e => E e s')
      ⟨(h.push (W.kdv_tup rest)).push (excO C h.objs.size), g, d, t, os⟩) :
    wpAny (model prog w) A (Builtin.«type.__call__» ⟨.ref C :: rest, kw⟩) Q E ⟨h, g, d, t, os⟩ := by
  repeat (first | with_reducible refine wpAny_loadPart_at hC ?_ | with_reducible refine wpAny_madeBy_exc hC ?_ | wp_step)
  refine codeAny_call_builtin_code (Code.quiet_builtin _ F.quiet) (check_newK F hT hC ?_)
  refine new_K F hT hC ?_ hrest
  show wpAny _ _ _ _ _ _
  have k : ∀ b o, h.get? b = some o → ((h.push (W.kdv_tup rest)).push (excO C h.objs.size)).get? b = some o := fun b o e => Heap.get?_push_of_some _ (Heap.get?_push_of_some _ e)
  have hC₁ := k _ _ hC
  have hget : ((h.push (W.kdv_tup rest)).push (excO C h.objs.size)).get? (h.objs.size + 1) = some (excO C h.objs.size) := by heap_get
  have hcC : (Value.ref C :: bm).contains (.ref C) = true := by simp
  have i1 := hi.keeps k
  have b1 := (hb (.ref (h.objs.size + 1))).keeps k
  unfold isInstance
  repeat (first | with_reducible refine wpAny_loadPart_at hget ?_ | (with_reducible refine wpAny_isSubtype_exc hC₁ ?_; rw [hcC]) | wp_step)
  show wpAny _ _ (typeLookup (.ref C) _) _ _ _
  refine i1.at ?_
  refine wpAny_holding (wpAny_bind (b1.at ?_))
  refine wpAny_bind (wpAny_call (codeAny_mono hq fun r s' z => ?_))
  rcases r with e | (v | _ | _ | _) <;> first | exact z | exact z.elim | skip
  obtain ⟨rfl, z⟩ := z
  first
    | exact wpAny_pure (wpAny_pure z)
    | (wp_walk; exact z)
theorem call_K (F : ExcBaseFacts B newId initId bmB) (hT : ∀ X : String, bm.contains (.type X) = bmB.contains (.type X)) {rest : List Value} {kw : List (Str × Value)} {fI : Addr}
    (hC : h.get? C = some (excClassObj nm q C N bs bm hdct sn sub ab col dd k0 k1 k2 k3 k5 newId))
    (hi : W.Looks (model prog w) h (typeLookup (.ref C) "__init__") (some (.ref fI))) (hb : ∀ self, W.Looks (model prog w) h (bindSpecial (.ref fI) self) (.ref fI, [self])) (hrest : rest.length ≤ sizeLine)
    (hq : codeAny (model prog w) (A.under (.builtin "type.__call__" ⟨.ref C :: rest, kw⟩)) (.call (.ref fI) ⟨.ref (h.objs.size + 1) :: rest, kw⟩) (W.InitBack (h.objs.size + 1) R)
      ⟨(h.push (W.kdv_tup rest)).push (excO C h.objs.size), g, d, t, os⟩) :
    codeAny (model prog w) A (.call (.ref C) ⟨rest, kw⟩) R ⟨h, g, d, t, os⟩ := by
  have f1 := tc_lookup
  have f2 := tc_bind (.ref C)
  have hTy : (⟨h, g, d, t, os⟩ : Shared).TypeIs (.ref C) "type" := ⟨_, hC, rfl⟩
  refine codeAny_of_tree ?_
  show wpAny _ _ (callAny (.ref C) _) _ _ _
  repeat (any_goals (first | assumption | with_reducible refine wpAny_loadPart_at hC ?_ | wp_step))
  refine ⟨rfl, ?_⟩
  refine codeAny_call_builtin_at (Code.quiet_builtin _ (by decide +kernel)) entry_typeCall (wpAny_check_type_call_sub hC (type_call_K F hT hC hi hb hrest ?_))
  refine codeAny_mono hq fun r s' z => ?_
  rcases r with e | (v | _ | _ | _) <;> exact z
end
end XV
end PySem

namespace L2
open PySem PySem.Spec PyProof.Rows
/-- all that an own exception class with an __init__ says in the written part -/
structure XvC (K : PySem.W.Frag) (C fI : Addr) : Prop where
  ox : OexC K C
  iC : PySem.W.findIn K (.ref C) "__init__" = some (some (.ref fI))
  tI : PySem.W.typeIn K (.ref fI) = some (.type "function")
  ga : PySem.W.findIn K (.ref C) "__getattribute__" = some (some (.builtin "BaseException.__getattribute__"))
  gg : PySem.W.findIn K (.ref C) "__getattr__" = some none
  hd : PySem.W.hasDictIn K C = true
  hcl : (PySem.W.clsIn K C).isSome = true
  kl : PySem.W.findIn K (.ref C) "__class__" = some (some (.builtin "object.__class__"))
  sp : PySem.W.specialIn K (.builtin "object.__class__") "__get__" = some (some (.builtin "getset_descriptor.__get__"))
  tk : PySem.W.takesIn K (.builtin "object.__class__") = some true
  mo : PySem.W.mroIn K C (.type "object") = some true
/-- C(e, .., k = v, ..) as a value -/
def tNewX (C : Addr) (n m : Nat) (sp : Sp) (gV : List V → List V → List V) (t tk : TA) : TE := fun σ H Q => t σ H fun vs H1 => tk σ H1 fun zs H2 => vs.length = n ∧ zs.length = m ∧ n ≤ 1000 ∧
  ∀ a, H2 a = none → sp (gV (.ref a :: vs) zs) (upd H2 a (exo a C none)) (fun v H3 => v = .non ∧ Q (.ref a) H3) E0
section
variable {X : Cx} {CX : CXT} {k n : Nat} {fI C : Addr} {fd : FuncData} {ps ks : List Str} {sp : Sp} {x f : Str} {p pos : Pos} {e : Expr} {es : List Expr} {kws : List Keyword} {te : TE} {t tk : TA} {g : List Value → List Value → List Value} {gV : List V → List V → List V}
theorem run_newX {pins : List (Addr × Obj)} {σ : St} {H : Hp} {s : Shared} {Q : VK} {us ws : List Value} {vs zs : List V} (T : XvC X.K C fI) (F1 : FnOk X.prog X.w X.K X.mg X.base CX k fI fd ps sp) (hr : Room (k + 1) X.A) (hb : KBn X.K fd ps (n + 1) ks g gV)
    (hx : Passes CX X E0) (I1 : Inv X pins σ H s) (r : Vals vs us) (rz : Vals zs ws) (l1 : vs.length = n) (l2 : zs.length = ks.length) (hn : n ≤ 1000)
    (h : ∀ a, H a = none → sp (gV (.ref a :: vs) zs) (upd H a (exo a C none)) (fun v H3 => v = .non ∧ Q (.ref a) H3) E0) :
    wpAny (model X.prog X.w) X.A (call (.ref C) us (ks.zip ws)) (EP X pins σ Q) X.xe s := by
  obtain ⟨nm, q, N, bs, bm, sn, sub, ab, col, dd, k0, k1, k2, k3, k5, hC, hbm⟩ := T.ox.cls
  obtain ⟨hp, gg, dr, tk, os⟩ := s
  have hsz : hp.objs.size ≤ hp.objs.size + 1 := Nat.le_succ _
  have hq := h (hp.objs.size + 1) (I1.hok.fresh hsz)
  have kk : ∀ b o, hp.get? b = some o → ((hp.push (PySem.W.kdv_tup us)).push (PySem.HandSPX.excO C hp.objs.size)).get? b = some o := fun b o e => Heap.get?_push_of_some _ (Heap.get?_push_of_some _ e)
  have hget : ((hp.push (PySem.W.kdv_tup us)).push (PySem.HandSPX.excO C hp.objs.size)).get? (hp.objs.size + 1) = some (PySem.HandSPX.excO C hp.objs.size) := by heap_get
  have I2 : Inv X pins σ (upd H (hp.objs.size + 1) (exo (hp.objs.size + 1) C none)) ⟨(hp.push (PySem.W.kdv_tup us)).push (PySem.HandSPX.excO C hp.objs.size), gg, dr, tk, os⟩ :=
    I1.laid (t' := tk) (a := hp.objs.size + 1) (o := exo (hp.objs.size + 1) C none) (h' := (hp.push (PySem.W.kdv_tup us)).push (PySem.HandSPX.excO C hp.objs.size)) kk hsz (exo_ok hget)
  have r1 : Vals (V.ref (hp.objs.size + 1) :: vs) (Value.ref (hp.objs.size + 1) :: us) := .cons rfl r
  have r2 := hb.rel r1 rz
  have e1 : (Value.ref (hp.objs.size + 1) :: us).length = n + 1 := r1.length.symm.trans (congrArg Nat.succ l1)
  have e2 : ws.length = ks.length := rz.length.symm.trans l2
  have hus : us.length ≤ sizeLine := by
    rw [← r.length, sizeLine_eq]
    omega
  refine wpAny_call (PySem.XV.call_K F.excBase_ValueError (fun Y => PySem.HandSPX.refsVE_contains Y bm hbm) (I1.kIn _ _ hC) (PySem.W.looks_findIn I1.kIn T.iC) (fun self => PySem.W.bind_fn I1.kIn self T.tI) hus
    (codeAny_mono (F1.run _ X.stack _ _ ⟨Value.ref (hp.objs.size + 1) :: us, ks.zip ws⟩ (g (Value.ref (hp.objs.size + 1) :: us) ws) _ _ E0 (hr.make C us (ks.zip ws))
      (I2.env0.make C us (ks.zip ws)) (hb.to _ (Value.ref (hp.objs.size + 1) :: us) ws I2.kIn e1 e2) r2 hq) fun r s' hq' => ?_))
  cases r with
  | error e => exact hx pins σ _ _ e s' I2 hq'
  | ok fl =>
    cases fl with
    | ret u =>
      obtain ⟨v, H', I3, rv, ev, q3⟩ := I2.after hq'
      subst ev
      exact ⟨rv, ⟨V.ref (hp.objs.size + 1), H', I3, rfl, q3⟩⟩
    | next => exact False.elim hq'
    | brk => exact False.elim hq'
    | cont => exact False.elim hq'
/-- C(k = v, ..) -/
theorem pe_newXK (T : XvC X.K C fI) (F : FnOk X.prog X.w X.K X.mg X.base CX k fI fd ps sp) (hr : Room (k + 1) X.A) (hg : Gl X x) (hm : X.mg x = some (.ref C)) (hb : KBn X.K fd ps 1 ks g gV) (hx : Passes CX X E0) (hkw : PK X kws tk)
    (hall : (backToKw pos (keywordEach kws X.env)).all (·.1.isSome) = true := by rfl) (hks : (backToKw pos (keywordEach kws X.env)).filterMap (·.1) = ks := by rfl) (hdb : (x == ("__debug__" : Str)) = false := by decide)
    (hpl : ((backTo pos (starEach [] X.env)).any (·.1) || (backToKw pos (keywordEach kws X.env)).any (·.1.isNone)) = false := by rfl) :
    PE X (.Call (.Name x p) [] kws pos) (tNewX C 0 ks.length sp gV tNil tk) := by
  refine ⟨fun pins s σ H Q I h => ?_⟩
  refine wpAny_Call_Name_kw (ld_glob I hg hm ?_ hdb)
  refine PySem.W.callWith_KW0 (h₀ := X.base) I.ok.mod.kin T.ox.kC hall ?_ hpl
  refine thn (hkw.run pos pins s σ H _ I h) fun ws s2 ⟨zs, H2, I2, rz, l1, l2, l3, q2⟩ => ⟨I2.kIn, ?_⟩
  rw [hks]
  exact run_newX (us := []) (vs := []) T F hr hb hx I2 .nil rz rfl l2 (Nat.zero_le _) q2
/-- C(e, ..) -/
theorem pe_newX (T : XvC X.K C fI) (F : FnOk X.prog X.w X.K X.mg X.base CX k fI fd ps sp) (hr : Room (k + 1) X.A) (hg : Gl X x) (hm : X.mg x = some (.ref C)) (hb : KBn X.K fd ps (n + 1) [] g gV) (hx : Passes CX X E0) (ha : PA X (e :: es) t)
    (hdb : (x == ("__debug__" : Str)) = false := by decide) (he : starEach (e :: es) X.env = (false, eval e X.env) :: starEach es X.env := by rfl) (hpl : (backTo pos (starEach es X.env)).any (·.1) = false := by rfl) :
    PE X (.Call (.Name x p) (e :: es) [] pos) (tNewX C n 0 sp gV t tNil) := by
  refine ⟨fun pins s σ H Q I h => ?_⟩
  refine wpAny_Call_Name_kw (ld_glob I hg hm ?_ hdb)
  refine PySem.W.callWith_K (h₀ := X.base) I.ok.mod.kin T.ox.kC (thn (ha.run pos pins s σ H _ I h) fun us s1 ⟨vs, H1, I1, r, l1, l2, l3, q⟩ => ⟨I1.kIn, ?_⟩) he hpl
  exact run_newX (ks := []) (ws := []) (zs := []) T F hr hb hx I1 r .nil l1 rfl l3 q
/-- e.f, e such an exception -/
def tXvF (K : PySem.W.Frag) (f : Str) (te : TE) : TE := fun σ H Q => te σ H fun x H1 => ∃ (a C fI d : Addr) (fs : List (Str × V)) (v : V), x = .ref a ∧ XvC K C fI ∧ PySem.W.findIn K (.ref C) f = some none ∧ H1 a = some (exo a C (some d)) ∧ H1 d = some (exd d fs) ∧ fs.lookup f = some v ∧ Q v H1
theorem pe_xvf (he : PE X e te) (hb : attributeBase e f X.env (eval e X.env) = eval e X.env := by rfl) : PE X (.Attribute e f pos) (tXvF X.K f te) := by
  refine ⟨fun pins s σ H Q I h => ?_⟩
  refine attr_of hb (thn (he.run pins s σ H _ I h) fun u s1 hh => ?_)
  obtain ⟨x, H1, I1, rx, a, C, fI, d, fs, v, ex, T, hno, ea, ed, l, q⟩ := hh
  subst ex
  obtain rfl : u = Value.ref a := rx
  obtain ⟨t1, ho⟩ := exo_at I1.hok ea
  obtain ⟨mA, hns, hr⟩ := exd_at I1.hok ed
  obtain ⟨od, hd, hl⟩ := lookIn_ns hns
  obtain ⟨u, hu, ru⟩ := RelO.some_of (v := v) (o := mA f) (by rw [← l]; exact hr f)
  have J : PySem.W.InstAt s1.heap a _ C (some od) := ⟨ho, rfl, rfl, hd⟩
  exact HandSPX.exc_get I1.kIn J T.ga T.gg T.ox.exC (PySem.W.findObj_own T.hd hno rfl (by rw [hl, hu])) (handed_of ru) ⟨v, H1, I1.tok _, ru, q⟩
/-- isinstance(e, c), e such an exception -/
def rIsXv (K : PySem.W.Frag) : List V → Hp → VK → Prop := fun xs H Q => ∃ (a C fI d : Addr) (fs : List (Str × V)) (c : V) (u : Value) (b : Bool), xs = [.ref a, c] ∧ XvC K C fI ∧ H a = some (exo a C (some d)) ∧ H d = some (exd d fs) ∧ ClsV c u ∧ PySem.W.kitOne K (.ref C) u = some b ∧ Q (.bl b) H
theorem call_isXv : CallR X (.builtin "isinstance") (rIsXv X.K) := by
  intro pins s σ H xs us Q I r h
  obtain ⟨a, C, fI, d, fs, c, u, b, rfl, T, ea, ed, k, e, q⟩ := h
  obtain ⟨u1, u2, rfl, r1, r2⟩ := vals2 r
  have e2 := k.eq r2
  subst e2
  obtain rfl : u1 = Value.ref a := r1
  obtain ⟨t1, ho⟩ := exo_at I.hok ea
  obtain ⟨mA, hns, hr⟩ := exd_at I.hok ed
  obtain ⟨od, hd, hl⟩ := lookIn_ns hns
  have J : PySem.W.InstAt s.heap a _ C (some od) := ⟨ho, rfl, rfl, hd⟩
  exact PySem.W.kia_one (PySem.W.kitx_exc T.hcl T.ga T.gg T.ox.exC T.kl T.sp T.tk T.mo) I.kIn J e (fun z => nomatch z) fun tk => ⟨.bl b, H, I.tok tk, rfl, q⟩
/-- at a: an exception of the built-in class T, not raised -/
def exb (T : String) (a : Addr) : HO := .ext fun h => ∃ o : Obj, h.get? a = some o ∧ o.cls = .type T
/-- T(e, ..) as a value -/
theorem pe_exb {T N I : String} (F : ExcCallFacts T N I) (hg : Gl X x) (hm : X.mg x = none) (hv : bootBuiltins x = some (.type T)) (ha : PA X (e :: es) t) (hn : x ≠ "__name__" := by decide) (hdb : (x == ("__debug__" : Str)) = false := by decide)
    (he : starEach (e :: es) X.env = (false, eval e X.env) :: starEach es X.env := by rfl) (hpl : (backTo pos (starEach es X.env)).any (·.1) = false := by rfl) :
    PE X (.Call (.Name x p) (e :: es) [] pos) (fun σ H Q => t σ H fun vs H1 => vs.length ≤ sizeLine ∧ ∀ a, H1 a = none → Q (.ref a) (upd H1 a (exb T a))) := by
  refine ⟨fun pins s σ H Q J h => ?_⟩
  refine wpAny_Call_Name_kw (ld_blt J hg hm hv ?_ hn hdb)
  refine PyProof.Rows.callWith_type1 (thn (ha.run pos pins s σ H _ J h) fun us s1 hh => ?_) he hpl
  obtain ⟨vs, H1, I1, r1, q0, q1⟩ := hh
  obtain ⟨hp1, g1, d1, tk1, os1⟩ := s1
  refine wpAny_call_exc F (fun h' a mk => ?_) (Nat.le_trans (Nat.le_of_eq r1.length.symm) q0)
  obtain ⟨t0, ht, _, _⟩ := mk.there
  have hna : H1 a = none := I1.hok.gone mk.new
  refine ⟨.ref a, upd H1 a (exb T a), I1.laidN mk.keeps mk.new hna ?_, rfl, q1 a hna⟩
  exact ⟨⟨_, ht, rfl⟩, ⟨_, ht⟩, fun h1 h2 ⟨o, z1, z2⟩ k => ⟨o, k _ z1, z2⟩⟩
def rIsXb (K : PySem.W.Frag) (T : String) : List V → Hp → VK → Prop := fun xs H Q => ∃ (a : Addr) (c : V) (u : Value) (b : Bool), xs = [.ref a, c] ∧ H a = some (exb T a) ∧ ClsV c u ∧ PySem.W.kitOne K (.type T) u = some b ∧ Q (.bl b) H
theorem call_isXb {T : String} (FX : ExcAttrFacts T) (lk : typeLookup (.type T) "__class__" = pure (some (.builtin "object.__class__"))) (so : isSubtype (.type T) (.type (".".intercalate ("object.__class__".cutAt '.').dropLast)) = pure true) (nb : (Value.type T == Value.type "builtin_function_or_method") = false) :
    CallR X (.builtin "isinstance") (rIsXb X.K T) := by
  intro pins s σ H xs us Q I r h
  obtain ⟨a, c, u, b, rfl, ea, k, e, q⟩ := h
  obtain ⟨u1, u2, rfl, r1, r2⟩ := vals2 r
  have e2 := k.eq r2
  subst e2
  obtain rfl : u1 = Value.ref a := r1
  obtain ⟨⟨o, h1, h2⟩, _⟩ := (show ObjOk X.prog X.w H s.heap a (.ext fun h => ∃ o : Obj, h.get? a = some o ∧ o.cls = .type T) from I.hok a _ ea)
  exact PySem.W.kia_one (PySem.W.kitx_bexc FX lk so nb) I.kIn ⟨o, h1, h2⟩ e (fun z => nomatch z) fun tk => ⟨.bl b, H, I.tok tk, rfl, q⟩
end
end L2

/-! What else the layer wants: lists joined wherever they are read from. -/
namespace L2
open PySem PySem.Spec PyProof.Rows
def rCatR (K : PySem.W.Frag) : R2 := fun x y H Q => ∃ l b xs zs, x = .ref l ∧ y = .ref b ∧ SqL K H l xs ∧ SqL K H b zs ∧ xs.length + zs.length ≤ sizeLine ∧ ∀ p, H p = none → Q (.ref p) (upd H p (.lst (xs ++ zs)))
theorem op_catR {X : Cx} : OpR X (binaryOp .Add) (rCatR X.K) := by
  intro pins s σ H x y v u Q I rx ry h
  obtain ⟨l, b, xs, zs, rfl, rfl, hH, hB, hz, q⟩ := h
  cases rx
  cases ry
  obtain ⟨its, r, ⟨o, n, e, c1, c2, c3⟩, hl⟩ := I.list hH
  obtain ⟨its2, r2, ⟨o2, n2, e2, d1, d2, d3⟩, hl2⟩ := I.list hB
  have l1 := r.length
  have l2 := r2.length
  obtain ⟨cls, dd, data, sl⟩ := o
  obtain ⟨cls2, dd2, data2, sl2⟩ := o2
  simp only at c1 c2 c3 d1 d2 d3
  subst c1 c2 c3 d1 d2 d3
  refine concat_meets ⟨_, e, rfl⟩ ⟨_, e2, rfl⟩ noFill_list_add seq_list_add PySem.F.slot_list_add PySem.F.entry_list_add (PySem.F.args_list_add_2 _ _) (list_addW l b its.toArray its2.toArray n n2 none none sl sl2 (by rw [List.size_toArray, List.size_toArray]; omega)) ⟨e, e2, ?_⟩
  have ea : its.toArray ++ its2.toArray = (its ++ its2).toArray := by simp
  rw [ea]
  exact ⟨.ref _, _, I.lnew (t' := s.toks) (r.append r2) (by rw [List.length_append]; omega), rfl, q _ I.fresh⟩
/-- data that is equal to itself -/
theorem same_ne {K : PySem.W.Frag} {H : Hp} {Q : VK} {x y : V} {d : PyData} (hx : Dp K H x d) (hy : Dp K H y d) (s : SeqAt.shaped d = true) (h : Q (.bl false) H) : rNeD K x y H Q :=
  ⟨d, d, hx, hy, s, s, by rw [SeqAt.eqv_refl d (SeqAt.canLay_of_shaped s)]; exact h⟩
end L2
namespace L2
/-- a new object: the heap behind it by a name of its own -/
theorem nw {H : Hp} {o : HO} {R : V → Hp → Prop} (h : ∀ H1 p, H p = none → Same H H1 → H1 p = some o → R (.ref p) H1) : ∀ p, H p = none → R (.ref p) (upd H p o) := fun p n =>
  h _ p n (fun b u e => by
    rw [upd_ne (ne_of_none e n)]
    exact e) upd_same
end L2

namespace L2
open PySem PySem.Spec PyProof.Rows
section
variable {X : Cx} {ta tb tc td : TE} {a b c d : Expr} {pos : Pos}
/-- a op1 b op2 c op3 d -/
def tChain3 (r r' r'' : R2) (ta tb tc td : TE) : TE := fun σ H Q => ta σ H fun x H1 => tb σ H1 fun y H2 => r x y H2 fun z H3 => ∃ k, z = .bl k ∧
  (if k = true then tc σ H3 fun w' H4 => r' y w' H4 fun z' H5 => ∃ k', z' = .bl k' ∧ (if k' = true then td σ H5 fun v' H6 => r'' w' v' H6 Q else Q (.bl false) H5) else Q (.bl false) H3)
theorem pe_chain3 {op op' op'' : CmpOp} {r r' r'' : R2} (ho : OpR X (compareOp op) r) (ho' : OpR X (compareOp op') r') (ho'' : OpR X (compareOp op'') r'') (ha : PE X a ta) (hb : PE X b tb) (hc : PE X c tc) (hd : PE X d td)
    (hm : lastMarks [op, op', op''] [b, c, d] = false := by with_unfolding_all rfl) : PE X (.Compare a [op, op', op''] [b, c, d] pos) (tChain3 r r' r'' ta tb tc td) := by
  refine ⟨fun pins s σ H Q I h => ?_⟩
  refine Compare_chain (thn (ha.run pins s σ H _ I h) fun v s1 ⟨x, H1, I1, r1, q1⟩ => chain_link (thn (hb.run pins s1 σ H1 _ I1 q1) fun u s2 ⟨y, H2, I2, r2, q2⟩ =>
    thn (ho pins s2 σ H2 x y v u _ I2 r1 r2 q2) fun e s3 ⟨z, H3, I3, r3, k, e', q3⟩ => ?_)) hm
  subst e'
  cases r3
  refine wpAny_truthy_bool ?_
  cases k with
  | false => exact ite_ff ⟨.bl false, H3, I3, rfl, q3⟩
  | true =>
    refine ite_tt (chain_link (thn (hc.run pins s3 σ H3 _ I3 q3) fun w' s4 ⟨z', H4, I4, r4, q4⟩ => thn (ho' pins s4 σ H4 y z' u w' _ I4 r2 r4 q4) fun e5 s5 ⟨z5, H5, I5, r5, k5, e5', q5⟩ => ?_))
    subst e5'
    cases r5
    refine wpAny_truthy_bool ?_
    cases k5 with
    | false => exact ite_ff ⟨.bl false, H5, I5, rfl, q5⟩
    | true => exact ite_tt (chain_last (thn (hd.run pins s5 σ H5 _ I5 q5) fun w6 s6 ⟨z6, H6, I6, r6, q6⟩ => ho'' pins s6 σ H6 z' z6 w' w6 Q I6 r4 r6 q6))
end
/-- len(o), o's class has its own __len__ -/
def rLenO (C : Addr) (sp : Sp) : List V → Hp → VK → Prop := fun xs H Q => ∃ (p dx : Addr) (fs : List (Str × V)), xs = [.ref p] ∧ H p = some (.ins C dx fs) ∧ sp [.ref p] H (fun v H' => ∃ n : Int, v = .int n ∧ 0 ≤ n ∧ n < 2 ^ 63 ∧ Q (.int n) H') E0
theorem call_lenO {X : Cx} {CX : CXT} {k : Nat} {C f : Addr} {fd : FuncData} {ps : List Str} {sp : Sp} (F : FnOk X.prog X.w X.K X.mg X.base CX k f fd ps sp) (hr : Room (k + 1) X.A)
    (hs : PySem.W.findIn X.K (.ref C) "__len__" = some (some (.ref f))) (hf : PySem.W.isFn X.K (.ref f) = true) (hb : Binds X.K fd ps []) (hx : Passes CX X E0) : CallR X (.builtin "len") (rLenO C sp) := by
  intro pins s σ H xs us Q I r h
  obtain ⟨p, dx, fs, rfl, hp, q⟩ := h
  have sb : Sub X k X.A.in1 := Sub.in1 ⟨hr, rfl⟩
  cases r with
  | cons rx rr =>
    cases rr
    cases rx
    obtain ⟨mA, J, _⟩ := ins_get I.hok hp
    obtain ⟨od, J, _⟩ := J.look
    obtain ⟨m, hF⟩ := I.fr
    refine PySem.W.len_K hF I.ok.mod.kin J hs hf ?_
    have e0 : Env0 X.prog X.w X.K X.mg X.base X.A.in1 X.stack s H := I.env0.in1
    have hl := F.len _ _ _ _ q
    have r2 : Vals [V.ref p] [Value.ref p] := .cons rfl .nil
    refine wpAny_call (codeAny_mono (F.run X.A.in1 X.stack s H ⟨[.ref p], []⟩ [.ref p] [.ref p] _ E0 sb.room e0 (by
      have := hb s [.ref p] I.kIn (by simpa using hl)
      simpa using this) r2 q) fun r s' hq => ?_)
    cases r with
    | error e => exact hx pins σ H s e s' I hq
    | ok fl =>
      cases fl with
      | ret w =>
        obtain ⟨z, H', I', rz, n, ez, h0, h1, q'⟩ := I.after hq
        subst ez
        obtain ⟨t, rfl⟩ := rz
        exact ⟨⟨h0, h1⟩, .int n, H', I'.tok _, ⟨_, rfl⟩, q'⟩
      | next => exact False.elim hq
      | brk => exact False.elim hq
      | cont => exact False.elim hq
end L2

/-! Trees of rooms, peels and locks, in plain Lean. -/
namespace GM
abbrev Way := Nat × Nat
/-! ### sorted lists -/
def srt (l : List Nat) : List Nat := l.mergeSort fun a b => decide (a ≤ b)
theorem srt_perm (l : List Nat) : (srt l).Perm l := List.mergeSort_perm l _
theorem srt_pw (l : List Nat) : (srt l).Pairwise (· ≤ ·) := by
  have h := List.pairwise_mergeSort (le := fun a b : Nat => decide (a ≤ b)) (fun a b c h1 h2 => by simp only [decide_eq_true_eq] at *; omega) (fun a b => by simp only [Bool.or_eq_true, decide_eq_true_eq]; omega) l
  exact h.imp fun h => by simpa using h
theorem pw_perm_eq : ∀ {l m : List Nat}, l.Perm m → l.Pairwise (· ≤ ·) → m.Pairwise (· ≤ ·) → l = m
  | [], m, h, _, _ => (List.Perm.nil_eq h)
  | a :: l, [], h, _, _ => absurd h.length_eq (by simp)
  | a :: l, b :: m, h, h1, h2 => by
    have hab : a = b := by
      have m1 : a ∈ b :: m := h.subset List.mem_cons_self
      have m2 : b ∈ a :: l := h.symm.subset List.mem_cons_self
      rw [List.pairwise_cons] at h1 h2
      simp only [List.mem_cons] at m1 m2
      rcases m1 with e | m1
      · exact e
      · rcases m2 with e | m2
        · exact e.symm
        · have := h2.1 a m1
          have := h1.1 b m2
          omega
    subst hab
    rw [pw_perm_eq h.cons_inv (List.pairwise_cons.mp h1).2 (List.pairwise_cons.mp h2).2]
theorem srt_eq {l m : List Nat} (h : m.Perm l) (p : m.Pairwise (· ≤ ·)) : m = srt l := pw_perm_eq (h.trans (srt_perm l).symm) p (srt_pw l)
theorem mem_srt {l : List Nat} {x : Nat} : x ∈ srt l ↔ x ∈ l := (srt_perm l).mem_iff
/-! ### labels -/
def relab (lots : List Nat) (kept lost : Nat) : List Nat := lots.map fun l => if l = lost then kept else l
def okWays (many : Nat) : List Way → List Nat → Prop
  | [], _ => True
  | w :: r, lots => w.1 < w.2 ∧ w.2 < many ∧ lots.getD w.1 0 ≠ lots.getD w.2 0 ∧ okWays many r (relab lots (lots.getD w.1 0) (lots.getD w.2 0))
theorem relab_length {lots : List Nat} {a b : Nat} : (relab lots a b).length = lots.length := List.length_map _
/-- ways of a tree that grows room by room: the k-th ties told[k] to one told before -/
structure Grown (told : List Nat) (ws : List Way) : Prop where
  nd : told.Nodup
  lt : ∀ x ∈ told, x < told.length
  len : ws.length + 1 = told.length
  ties : ∀ k w, ws[k]? = some w → ∃ j x y, j ≤ k ∧ told[j]? = some x ∧ told[k + 1]? = some y ∧ ((w = (x, y) ∧ x < y) ∨ (w = (y, x) ∧ y < x))
/-- the rooms from the k-th on have labels of their own -/
structure Own (told lots : List Nat) (k : Nat) : Prop where
  len : lots.length = told.length
  own : ∀ i x, k ≤ i → told[i]? = some x → lots.getD x 0 = x ∧ ∀ v, v < lots.length → lots.getD v 0 = x → v = x
theorem own_range {told : List Nat} (lt : ∀ x ∈ told, x < told.length) : Own told (List.range told.length) 0 := by
  refine ⟨List.length_range, fun i x _ h => ?_⟩
  have g : ∀ v, v < told.length → (List.range told.length).getD v 0 = v := fun v hv => by
    rw [List.getD_eq_getElem?_getD, List.getElem?_range hv]
    rfl
  refine ⟨g x (lt x (List.mem_of_getElem? h)), fun v hv e => ?_⟩
  rw [List.length_range] at hv
  rw [g v hv] at e
  exact e
theorem relab_getD {lots : List Nat} {a b v : Nat} (hv : v < lots.length) : (relab lots a b).getD v 0 = if lots.getD v 0 = b then a else lots.getD v 0 := by
  unfold relab
  rw [List.getD_eq_getElem?_getD, List.getElem?_map, List.getD_eq_getElem?_getD, List.getElem?_eq_getElem hv]
  rfl
theorem nodup_ix {l : List Nat} (h : l.Nodup) {i j x : Nat} (a : l[i]? = some x) (b : l[j]? = some x) : i = j := by
  obtain ⟨h1, e1⟩ := List.getElem?_eq_some_iff.mp a
  obtain ⟨h2, e2⟩ := List.getElem?_eq_some_iff.mp b
  exact (List.getElem_inj h).mp (e1.trans e2.symm)
theorem own_step {told lots : List Nat} {k j x y a b : Nat} (nd : told.Nodup) (lt : ∀ x ∈ told, x < told.length) (O : Own told lots (k + 1)) (hj : j ≤ k) (hx : told[j]? = some x) (hy : told[k + 1]? = some y)
    (hab : (a = x ∧ b = y) ∨ (a = y ∧ b = x)) : lots.getD a 0 ≠ lots.getD b 0 ∧ Own told (relab lots (lots.getD a 0) (lots.getD b 0)) (k + 2) := by
  have ly : y < lots.length := by rw [O.len]; exact lt y (List.mem_of_getElem? hy)
  have lx : x < lots.length := by rw [O.len]; exact lt x (List.mem_of_getElem? hx)
  have hxy : x ≠ y := fun e => by
    subst e
    have := nodup_ix nd hx hy
    omega
  obtain ⟨oy, uy⟩ := O.own (k + 1) y (Nat.le_refl _) hy
  have ne : lots.getD x 0 ≠ y := fun e => hxy (uy x lx e)
  constructor
  · rcases hab with ⟨rfl, rfl⟩ | ⟨rfl, rfl⟩
    · rw [oy]; exact ne
    · rw [oy]; exact ne.symm
  · refine ⟨by rw [relab_length]; exact O.len, fun i z hi hz => ?_⟩
    have lz : z < lots.length := by rw [O.len]; exact lt z (List.mem_of_getElem? hz)
    obtain ⟨oz, uz⟩ := O.own i z (by omega) hz
    have zy : z ≠ y := fun e => by
      subst e
      have := nodup_ix nd hz hy
      omega
    have zx : z ≠ x := fun e => by
      subst e
      have := nodup_ix nd hz hx
      omega
    have nx : lots.getD x 0 ≠ z := fun e => zx (uz x lx e).symm
    have key : ∀ p q, ((p = lots.getD x 0 ∧ q = y) ∨ (p = y ∧ q = lots.getD x 0)) → (relab lots p q).getD z 0 = z ∧ ∀ v, v < (relab lots p q).length → (relab lots p q).getD v 0 = z → v = z := by
      intro p q hpq
      have pz : p ≠ z := by rcases hpq with ⟨rfl, rfl⟩ | ⟨rfl, rfl⟩ <;> first | exact nx | exact zy.symm
      have qz : q ≠ z := by rcases hpq with ⟨rfl, rfl⟩ | ⟨rfl, rfl⟩ <;> first | exact nx | exact zy.symm
      refine ⟨?_, fun v hv e => ?_⟩
      · rw [relab_getD lz, oz, if_neg qz.symm]
      · rw [relab_length] at hv
        rw [relab_getD hv] at e
        split at e
        · exact absurd e pz
        · exact uz v hv e
    rcases hab with ⟨rfl, rfl⟩ | ⟨rfl, rfl⟩
    · rw [oy]; exact key _ _ (.inl ⟨rfl, rfl⟩)
    · rw [oy]; exact key _ _ (.inr ⟨rfl, rfl⟩)
theorem grown_ok_from {told : List Nat} {ws : List Way} (G : Grown told ws) : ∀ (r : List Way) (k : Nat) (lots : List Nat), ws.drop k = r → Own told lots (k + 1) → okWays told.length r lots
  | [], _, _, _, _ => True.intro
  | w :: r, k, lots, e, O => by
    have hk : ws[k]? = some w := by
      have : (ws.drop k)[0]? = some w := by rw [e]; rfl
      rw [List.getElem?_drop] at this
      simpa using this
    obtain ⟨j, x, y, hj, hx, hy, hw⟩ := G.ties k w hk
    have lx := G.lt x (List.mem_of_getElem? hx)
    have ly := G.lt y (List.mem_of_getElem? hy)
    have er : ws.drop (k + 1) = r := by rw [← List.tail_drop, e]; rfl
    rcases hw with ⟨rfl, h⟩ | ⟨rfl, h⟩
    · obtain ⟨h1, h2⟩ := own_step (a := x) (b := y) G.nd G.lt O hj hx hy (.inl ⟨rfl, rfl⟩)
      exact ⟨h, ly, h1, grown_ok_from G r (k + 1) _ er h2⟩
    · obtain ⟨h1, h2⟩ := own_step (a := y) (b := x) G.nd G.lt O hj hx hy (.inr ⟨rfl, rfl⟩)
      exact ⟨h, lx, h1, grown_ok_from G r (k + 1) _ er h2⟩
theorem grown_ok {told : List Nat} {ws : List Way} (G : Grown told ws) : okWays (ws.length + 1) ws (List.range (ws.length + 1)) := by
  rw [G.len]
  have O := own_range G.lt
  exact grown_ok_from G ws 0 _ rfl ⟨O.len, fun i x _ h => O.own i x (Nat.zero_le _) h⟩
theorem okWays_lt {many : Nat} : ∀ {ws : List Way} {lots : List Nat}, okWays many ws lots → ∀ w ∈ ws, w.1 < w.2 ∧ w.2 < many
  | [], _, _, w, hw => nomatch hw
  | v :: r, lots, h, w, hw => by
    obtain ⟨h1, h2, _, h4⟩ := h
    rcases List.mem_cons.mp hw with rfl | hw
    · exact ⟨h1, h2⟩
    · exact okWays_lt h4 w hw
/-! ### the rooms beside each room -/
def put (acc : List (List Nat)) (i x : Nat) : List (List Nat) := acc.set i (acc.getD i [] ++ [x])
def addWay (acc : List (List Nat)) (w : Way) : List (List Nat) := put (put acc w.1 w.2) w.2 w.1
def rawRows (ws : List Way) : List (List Nat) := ws.foldl addWay (List.replicate (ws.length + 1) [])
def rows (ws : List Way) : List (List Nat) := (rawRows ws).map srt
/-- the rooms beside a room -/
def nb (rs : List (List Nat)) (a : Nat) : List Nat := rs.getD a []
theorem put_length {acc : List (List Nat)} {i x : Nat} : (put acc i x).length = acc.length := List.length_set
theorem addWay_length {acc : List (List Nat)} {w : Way} : (addWay acc w).length = acc.length := put_length.trans put_length
theorem foldl_addWay_length : ∀ {ws : List Way} {acc : List (List Nat)}, (ws.foldl addWay acc).length = acc.length
  | [], _ => rfl
  | w :: r, acc => (foldl_addWay_length (ws := r) (acc := addWay acc w)).trans addWay_length
theorem rawRows_length {ws : List Way} : (rawRows ws).length = ws.length + 1 := foldl_addWay_length.trans List.length_replicate
theorem rows_length {ws : List Way} : (rows ws).length = ws.length + 1 := (List.length_map _).trans rawRows_length
theorem getD_set_self {acc : List (List Nat)} {i : Nat} {v : List Nat} (h : i < acc.length) : (acc.set i v).getD i [] = v := by
  rw [List.getD_eq_getElem?_getD, List.getElem?_set_self h]
  rfl
theorem getD_set_ne {acc : List (List Nat)} {i j : Nat} {v : List Nat} (h : i ≠ j) : (acc.set i v).getD j [] = acc.getD j [] := by
  rw [List.getD_eq_getElem?_getD, List.getElem?_set_ne h, List.getD_eq_getElem?_getD]
theorem mem_put {acc : List (List Nat)} {i j x y : Nat} (h : i < acc.length) : y ∈ (put acc i x).getD j [] ↔ y ∈ acc.getD j [] ∨ (j = i ∧ y = x) := by
  unfold put
  by_cases e : i = j
  · subst e
    rw [getD_set_self h]
    simp
  · rw [getD_set_ne e]
    constructor
    · exact .inl
    · rintro (h | ⟨h, _⟩)
      · exact h
      · exact absurd h.symm e
theorem mem_rows_from : ∀ {ws : List Way} {acc : List (List Nat)} {j y : Nat}, (∀ w ∈ ws, w.1 < acc.length ∧ w.2 < acc.length) → (y ∈ (ws.foldl addWay acc).getD j [] ↔ y ∈ acc.getD j [] ∨ (j, y) ∈ ws ∨ (y, j) ∈ ws)
  | [], acc, j, y, _ => by simp
  | w :: r, acc, j, y, h => by
    have h0 := h w List.mem_cons_self
    have hr : ∀ v ∈ r, v.1 < (addWay acc w).length ∧ v.2 < (addWay acc w).length := fun v hv => by
      rw [addWay_length]
      exact h v (List.mem_cons_of_mem _ hv)
    show y ∈ (r.foldl addWay (addWay acc w)).getD j [] ↔ _
    rw [mem_rows_from hr]
    unfold addWay
    rw [mem_put (by rw [put_length]; exact h0.2), mem_put h0.1]
    obtain ⟨a, b⟩ := w
    simp only [List.mem_cons, Prod.mk.injEq]
    constructor
    · rintro (((h | ⟨rfl, rfl⟩) | ⟨rfl, rfl⟩) | h | h)
      · exact .inl h
      · exact .inr (.inl (.inl ⟨rfl, rfl⟩))
      · exact .inr (.inr (.inl ⟨rfl, rfl⟩))
      · exact .inr (.inl (.inr h))
      · exact .inr (.inr (.inr h))
    · rintro (h | (⟨rfl, rfl⟩ | h) | (⟨rfl, rfl⟩ | h))
      · exact .inl (.inl (.inl h))
      · exact .inl (.inl (.inr ⟨rfl, rfl⟩))
      · exact .inr (.inl h)
      · exact .inl (.inr ⟨rfl, rfl⟩)
      · exact .inr (.inr h)
theorem getD_map_srt {l : List (List Nat)} {j : Nat} : (l.map srt).getD j [] = srt (l.getD j []) := by
  rw [List.getD_eq_getElem?_getD, List.getElem?_map, List.getD_eq_getElem?_getD]
  cases l[j]? with
  | none => show ([] : List Nat) = srt []; decide +kernel
  | some v => rfl
theorem mem_rows {ws : List Way} (h : ∀ w ∈ ws, w.1 < w.2 ∧ w.2 < ws.length + 1) {j y : Nat} : y ∈ nb (rows ws) j ↔ (j, y) ∈ ws ∨ (y, j) ∈ ws := by
  unfold nb rows
  rw [getD_map_srt, mem_srt]
  unfold rawRows
  rw [mem_rows_from fun w hw => by rw [List.length_replicate]; have := h w hw; omega]
  have e : (List.replicate (ws.length + 1) ([] : List Nat)).getD j [] = [] := by
    rw [List.getD_eq_getElem?_getD, List.getElem?_replicate]
    split <;> rfl
  rw [e]
  simp
/-- what the rooms beside each other are like -/
structure Graph (rs : List (List Nat)) : Prop where
  sym : ∀ a b, b ∈ nb rs a → a ∈ nb rs b
  irr : ∀ a, a ∉ nb rs a
  lt : ∀ a b, b ∈ nb rs a → b < rs.length
theorem graph_rows {ws : List Way} (h : ∀ w ∈ ws, w.1 < w.2 ∧ w.2 < ws.length + 1) : Graph (rows ws) where
  sym := fun a b m => by
    rw [mem_rows h] at m ⊢
    exact m.symm
  irr := fun a m => by
    rw [mem_rows h] at m
    rcases m with m | m <;> exact absurd (h _ m).1 (Nat.lt_irrefl _)
  lt := fun a b m => by
    rw [mem_rows h] at m
    rw [rows_length]
    rcases m with m | m
    · exact (h _ m).2
    · have := h _ m
      simp only at this
      omega
/-! ### settings -/
structure Setting (rs : List (List Nat)) (st : List Nat) : Prop where
  up : st.Pairwise (· < ·)
  lt : ∀ x ∈ st, x < rs.length
  apart : ∀ x ∈ st, ∀ y ∈ st, y ∉ nb rs x
theorem Setting.nd {rs : List (List Nat)} {st : List Nat} (S : Setting rs st) : st.Nodup := S.up.imp fun h => Nat.ne_of_lt h
/-! ### peels and locks -/
/-- rooms beside g with no other one of left beside them -/
def out (f : Nat → List Nat) (left : List Nat) (g : Nat) : List Nat := (f g).filter fun r => ((f r).filter fun x => decide (x ∈ left) && decide (x ≠ g)).isEmpty
theorem mem_out {f : Nat → List Nat} {left : List Nat} {g r : Nat} : r ∈ out f left g ↔ r ∈ f g ∧ ∀ x ∈ f r, x ∈ left → x = g := by
  unfold out
  rw [List.mem_filter, List.isEmpty_iff, List.filter_eq_nil_iff]
  constructor
  · rintro ⟨h, k⟩
    refine ⟨h, fun x hx hl => ?_⟩
    have := k x hx
    simpa [hl] using this
  · rintro ⟨h, k⟩
    refine ⟨h, fun x hx => ?_⟩
    by_cases hl : x ∈ left
    · simp [hl, k x hx hl]
    · simp [hl]
theorem out_mono {f : Nat → List Nat} {l m : List Nat} {g r : Nat} (h : ∀ x ∈ m, x ∈ l) (k : r ∈ out f l g) : r ∈ out f m g := by
  rw [mem_out] at k ⊢
  exact ⟨k.1, fun x hx hm => k.2 x hx (h x hm)⟩
theorem out_congr {f : Nat → List Nat} {l m : List Nat} {g : Nat} (h : ∀ x, x ∈ l ↔ x ∈ m) : out f l g = out f m g := by
  unfold out
  congr 1
  funext r
  congr 2
  funext x
  rw [decide_eq_decide.mpr (h x)]
abbrev Step := Nat × Nat
def after (left : List Nat) (ss : List Step) : List Nat := ss.foldl (fun l s => l.erase s.1) left
def peelOk (f : Nat → List Nat) : List Nat → List Step → Prop
  | _, [] => True
  | left, s :: r => s.1 ∈ left ∧ s.2 ∈ out f left s.1 ∧ peelOk f (left.erase s.1) r
def Stuck (f : Nat → List Nat) (left : List Nat) : Prop := ∀ g ∈ left, out f left g = []
theorem after_append {left : List Nat} {a b : List Step} : after left (a ++ b) = after (after left a) b := List.foldl_append ..
theorem peelOk_append {f : Nat → List Nat} : ∀ {left : List Nat} {a b : List Step}, peelOk f left (a ++ b) ↔ peelOk f left a ∧ peelOk f (after left a) b
  | left, [], b => by simp [peelOk, after]
  | left, s :: a, b => by
    show (_ ∧ _ ∧ peelOk f (left.erase s.1) (a ++ b)) ↔ (_ ∧ _ ∧ _) ∧ peelOk f (after (left.erase s.1) a) b
    rw [peelOk_append]
    simp [and_assoc]
theorem after_sub : ∀ {ss : List Step} {left : List Nat}, (after left ss).Sublist left
  | [], _ => .refl _
  | s :: r, left => (after_sub (ss := r) (left := left.erase s.1)).trans List.erase_sublist
theorem mem_after {left : List Nat} (nd : left.Nodup) : ∀ {ss : List Step} {x : Nat}, x ∈ after left ss ↔ x ∈ left ∧ x ∉ ss.map (·.1) := by
  intro ss
  induction ss generalizing left with
  | nil => intro x; simp [after]
  | cons s r ih =>
    intro x
    show x ∈ after (left.erase s.1) r ↔ _
    rw [ih (nd.erase _), nd.mem_erase_iff]
    simp only [List.map_cons, List.mem_cons]
    constructor
    · rintro ⟨⟨h1, h2⟩, h3⟩
      exact ⟨h2, fun h => h.elim h1 h3⟩
    · rintro ⟨h1, h2⟩
      exact ⟨⟨fun e => h2 (.inl e), h1⟩, fun e => h2 (.inr e)⟩
theorem after_filter {left : List Nat} (nd : left.Nodup) {ss : List Step} : after left ss = left.filter fun x => !(ss.map (·.1)).contains x := by
  induction ss generalizing left with
  | nil => exact (List.filter_eq_self.mpr fun _ _ => rfl).symm
  | cons s r ih =>
    show after (left.erase s.1) r = _
    rw [ih (nd.erase _), nd.erase_eq_filter, List.filter_filter]
    congr 1
    funext x
    simp only [List.map_cons, List.contains_cons, Bool.not_or]
    rw [Bool.and_comm]
    congr 1
/-- who is stuck stays in whatever peel -/
theorem stuck_stays {f : Nat → List Nat} {lk : List Nat} (hs : Stuck f lk) : ∀ {ss : List Step} {left : List Nat}, left.Nodup → (∀ x ∈ lk, x ∈ left) → peelOk f left ss → ∀ x ∈ lk, x ∈ after left ss
  | [], _, _, h, _ => h
  | s :: r, left, nd, h, ⟨_, h2, h3⟩ => by
    have ne : s.1 ∉ lk := fun m => by
      have := hs s.1 m
      have k := out_mono h h2
      rw [this] at k
      cases k
    exact stuck_stays (left := left.erase s.1) hs (nd.erase _) (fun x hx => (nd.mem_erase_iff).mpr ⟨fun e => ne (by rw [← e]; exact hx), h x hx⟩) h3
theorem peel_same {f : Nat → List Nat} {st : List Nat} {a b : List Step} (nd : st.Nodup) (ha : peelOk f st a) (hb : peelOk f st b) (sa : Stuck f (after st a)) (sb : Stuck f (after st b)) : after st a = after st b := by
  have h1 := stuck_stays sa nd (fun x hx => after_sub.subset hx) hb
  have h2 := stuck_stays sb nd (fun x hx => after_sub.subset hx) ha
  rw [after_filter nd, after_filter nd]
  apply List.filter_congr
  intro x hx
  have e : x ∈ after st a ↔ x ∈ after st b := ⟨h1 x, h2 x⟩
  rw [mem_after nd, mem_after nd] at e
  simp only [hx, true_and] at e
  by_cases h : x ∈ a.map (·.1)
  · have h' : x ∈ b.map (·.1) := Decidable.byContradiction fun k => (e.mpr k) h
    rw [List.contains_iff_mem.mpr h, List.contains_iff_mem.mpr h']
  · have h' := e.mp h
    rw [Bool.eq_false_iff.mpr (fun z => h (List.contains_iff_mem.mp z)), Bool.eq_false_iff.mpr (fun z => h' (List.contains_iff_mem.mp z))]
end GM
namespace GM
theorem put_len {acc : List (List Nat)} {i x m : Nat} (h : ∀ j, (acc.getD j []).length ≤ m) : ∀ j, ((put acc i x).getD j []).length ≤ m + 1 := by
  intro j
  unfold put
  by_cases e : i = j
  · subst e
    by_cases hi : i < acc.length
    · rw [getD_set_self hi]
      have := h i
      simp only [List.length_append, List.length_cons, List.length_nil]
      omega
    · rw [List.getD_eq_getElem?_getD, List.getElem?_eq_none (by rw [List.length_set]; omega)]
      exact Nat.zero_le _
  · rw [getD_set_ne e]
    have := h j
    omega
theorem raw_len {n : Nat} : ∀ (ws : List Way) (acc : List (List Nat)), (∀ j, (acc.getD j []).length ≤ n) → ∀ j, ((ws.foldl addWay acc).getD j []).length ≤ n + 2 * ws.length
  | [], acc, h, j => h j
  | w :: r, acc, h, j => by
    have k := raw_len r (addWay acc w) (n := n + 2) (put_len (put_len h)) j
    simp only [List.length_cons]
    show ((r.foldl addWay (addWay acc w)).getD j []).length ≤ _
    omega
theorem nb_len (ws : List Way) (r : Nat) : (nb (rows ws) r).length ≤ 2 * ws.length := by
  unfold nb rows
  rw [getD_map_srt, (srt_perm _).length_eq]
  have := raw_len (n := 0) ws (List.replicate (ws.length + 1) []) (fun j => by
    rw [List.getD_eq_getElem?_getD, List.getElem?_replicate]
    split <;> exact Nat.le_refl _) r
  unfold rawRows
  omega
end GM
namespace GM
theorem after_len {f : Nat → List Nat} : ∀ {ss : List Step} {left : List Nat}, left.Nodup → peelOk f left ss → (after left ss).length + ss.length = left.length
  | [], _, _, _ => rfl
  | s :: r, left, nd, ⟨h1, _, h3⟩ => by
    have ih := after_len (ss := r) (left := left.erase s.1) (nd.erase _) h3
    rw [List.length_erase_of_mem h1] at ih
    have := List.length_pos_of_mem h1
    show (after (left.erase s.1) r).length + (r.length + 1) = left.length
    omega
end GM

namespace G
open PySem L2
def top (i : Nat) : Stmt := PySem.Challenge.pw_apartguards_k03_settings_and_moves.main.body.getD i (.Pass ⟨0, 0, 0, 0⟩)
abbrev s__wall : Stmt := top 0
abbrev s_NoTree___init__ : Stmt := inClass (top 3) 0
abbrev s_NoRoom___init__ : Stmt := inClass (top 4) 0
abbrev s_NoSetting___init__ : Stmt := inClass (top 5) 0
abbrev s_NoSlide___init__ : Stmt := inClass (top 6) 0
abbrev s_is_whole : Stmt := top 9
abbrev s_is_room : Stmt := top 10
abbrev s_is_way : Stmt := top 11
abbrev s__check_ways : Stmt := top 12
abbrev s__rows_beside : Stmt := top 13
abbrev s_Tree___init__ : Stmt := inClass (top 14) 0
abbrev s_Tree_ways : Stmt := inClass (top 14) 1
abbrev s_Tree___len__ : Stmt := inClass (top 14) 2
abbrev s_Tree___eq__ : Stmt := inClass (top 14) 3
abbrev s_Tree_beside : Stmt := inClass (top 14) 4
abbrev s_Tree_branch : Stmt := inClass (top 14) 5
abbrev s_Tree_between : Stmt := inClass (top 14) 6
abbrev s_Tree_pieces : Stmt := inClass (top 14) 7
abbrev s_Tree_with_room : Stmt := inClass (top 14) 8
abbrev s_Tree__check_rooms : Stmt := inClass (top 14) 9
abbrev s_Tree__hanging : Stmt := inClass (top 14) 10
abbrev s_check_setting : Stmt := top 16
abbrev s_slides : Stmt := top 17
abbrev s_leaps_from : Stmt := top 18
abbrev s_slid : Stmt := top 19
abbrev s_leapt : Stmt := top 20
abbrev s__slides_of : Stmt := top 21
abbrev s__has_space : Stmt := top 22
abbrev s__can_leap : Stmt := top 23
abbrev s__can_slide : Stmt := top 24
abbrev s__moved : Stmt := top 25
abbrev s__law_draw : Stmt := top 27
abbrev s__law_ways : Stmt := top 28
abbrev s__law_near : Stmt := top 29
abbrev s__law_setting : Stmt := top 30
abbrev s__law_apart : Stmt := top 31
abbrev s__law_moves : Stmt := top 32
abbrev s__law_behind : Stmt := top 33
abbrev s__law_asked : Stmt := top 34
abbrev s__law_row : Stmt := top 35
abbrev s__law_bent : Stmt := top 36
abbrev s__law_right : Stmt := top 37
abbrev s_law : Stmt := top 38
end G

namespace L2
open PySem PySem.Spec PyProof.Rows
theorem take_filter_map {p : V → Bool} {f : V → V} {xs : List V} {j : Nat} {x : V} (h : xs[j]? = some x) : ((xs.take (j + 1)).filter p).map f = if p x = true then ((xs.take j).filter p).map f ++ [f x] else ((xs.take j).filter p).map f := by
  have e : xs.take (j + 1) = xs.take j ++ [x] := by
    rw [List.take_add_one, h]
    rfl
  rw [e, List.filter_append, List.map_append]
  by_cases hp : p x = true
  · rw [if_pos hp, List.filter_cons_of_pos hp]
    rfl
  · rw [if_neg hp, List.filter_cons_of_neg hp]
    simp
theorem wipe_one {σ : St} {i : Nat} {x : Option V} : wipe ((wipe σ [i]).set i x) [i] = wipe σ [i] := by
  show ((σ.set i none).set i x).set i none = σ.set i none
  rw [List.set_set, List.set_set]
/-- a comprehension with one name over things that stand: the tests p, the values f; only new objects are made -/
theorem lc_gen {J : It} {n : Nat} {G : Hp → Prop} {Y : Nat → Hp → V → Hp → Prop} (w : Walk J n G Y) (xs : List V) (p : V → Bool) (f : V → V) {i : Nat} {tt : TT} {te : TE} {σ : St} {H1 : Hp} {D : Addr} {Qd : Hp → Prop} (hD : H1 D = none) (hn : xs.length = n) (hsz : n < sizeLine)
    (hY : ∀ j Hc x H', j < n → G Hc → Y j Hc x H' → H' = Hc ∧ xs[j]? = some x) (hG : ∀ Hc, Same H1 Hc → G Hc)
    (ht : ∀ x Hc (R : Bool → Hp → Prop), x ∈ xs → Same H1 Hc → (∀ H3, Same Hc H3 → R (p x) H3) → tt ((wipe σ [i]).set i (some x)) Hc R)
    (he : ∀ x Hc (R : V → Hp → Prop), x ∈ xs → p x = true → Same H1 Hc → (∀ H3, Same Hc H3 → R (f x) H3) → te ((wipe σ [i]).set i (some x)) Hc R)
    (hd : ∀ H2, Same H1 H2 → H2 D = some (.lst ((xs.filter p).map f)) → Qd H2) :
    ∃ W : Nat → Nat → Hp → Prop, (∃ m, W 0 m (upd H1 D (.lst []))) ∧ ∀ k m H, W k m H →
      (J.stop k H ∧ Qd H) ∨ (J.go k H ∧ ∃ Nx : Hp → Prop, (∀ H', Nx H' → ∃ m', m' < m ∧ W (k + 1) m' H') ∧ ∀ x H', J.yld k H x H' → gName i x (wipe σ [i]) H' fun σ2 H2 => wipe σ2 [i] = wipe σ [i] ∧ tt σ2 H2 fun b H3 =>
        if b = true then te σ2 H3 fun y H4 => ∃ acc, H4 D = some (.lst acc) ∧ acc.length < sizeLine ∧ Nx (upd H4 D (.lst (acc ++ [y]))) else Nx H3) := by
  have sU : ∀ {H4 : Hp} {o : HO}, Same H1 H4 → Same H1 (upd H4 D o) := fun s b o e => by
    rw [upd_ne (ne_of_none e hD)]
    exact s b o e
  refine lc_it w (fun j Hc => Same H1 Hc ∧ Hc D = some (.lst (((xs.take j).filter p).map f))) ⟨sU (.refl _), upd_same⟩ (fun j Hc _ h => hG Hc h.1) ?_ ?_
  · rintro j x Hc H' hj ⟨s, hl⟩ y
    obtain ⟨rfl, hx⟩ := hY j Hc x H' hj (hG Hc s) y
    have hm : x ∈ xs := List.mem_of_getElem? hx
    refine ⟨wipe_one, ht x _ _ hm s fun H3 s3 => ?_⟩
    cases hp : p x with
    | false =>
      refine iteF ⟨s.trans s3, ?_⟩
      rw [take_filter_map hx, if_neg (by rw [hp]; decide)]
      exact s3 _ _ hl
    | true =>
      refine iteT (he x _ _ hm hp (s.trans s3) fun H4 s4 => ⟨_, s4 _ _ (s3 _ _ hl), ?_, sU (s.trans (s3.trans s4)), ?_⟩)
      · rw [List.length_map]
        have h1 := List.length_filter_le p (xs.take j)
        rw [List.length_take] at h1
        omega
      · rw [upd_same, take_filter_map hx, if_pos hp]
  · rintro Hc ⟨s, hl⟩
    rw [← hn, List.take_length] at hl
    exact hd Hc s hl
theorem pi_listK {X : Cx} {K : PySem.W.Frag} {tg l : Expr} {tl : TE} (hK : X.K = K) (hl : PE X l tl) : PI X tg l (iList K tl) := by
  subst hK
  exact pi_list hl
theorem pi_tupK {X : Cx} {K : PySem.W.Frag} {tg l : Expr} {tl : TE} (hK : X.K = K) (hl : PE X l tl) : PI X tg l (iTup K tl) := by
  subst hK
  exact pi_tup hl
def cscope : Expr → Scope
  | .ListComp _ _ sc _ => sc
  | .DictComp _ _ _ sc _ => sc
  | _ => { kind := .function, names := [], isGenerator := false, isCoroutine := false }
def retE (ss : List Stmt) (i : Nat) : Expr := match ss.getD i (.Pass ⟨0, 0, 0, 0⟩) with
  | .Return (some e) _ => e
  | .Assign _ e _ => e
  | _ => .Constant .none 0 ⟨0, 0, 0, 0⟩
theorem relab_names {env : Env} {b : Bool} {f : Str → Bool} : ∀ {names : List (Str × NameKind)} {x : Str}, names.lookup x = some .cell ∨ names.lookup x = some .free →
    ((names.map fun (n, k) => if (k == NameKind.free && b && f n) then (n, NameKind.cell) else (n, k)).lookup x = some .cell ∨ (names.map fun (n, k) => if (k == NameKind.free && b && f n) then (n, NameKind.cell) else (n, k)).lookup x = some .free)
  | [], x, h => by rcases h with h | h <;> simp at h
  | (n, k) :: r, x, h => by
    rw [List.map_cons]
    dsimp only
    by_cases e : x = n
    · subst e
      have hk : k = .cell ∨ k = .free := by
        rcases h with h | h
        · rw [List.lookup_cons_self] at h; exact .inl (Option.some.inj h)
        · rw [List.lookup_cons_self] at h; exact .inr (Option.some.inj h)
      by_cases c : (k == NameKind.free && b && f x) = true
      · rw [if_pos c]
        left
        exact List.lookup_cons_self
      · rw [if_neg c]
        rcases hk with rfl | rfl
        · left
          exact List.lookup_cons_self
        · right
          exact List.lookup_cons_self
    · have e' : (x == n) = false := by simpa using e
      have h' : r.lookup x = some .cell ∨ r.lookup x = some .free := by
        rcases h with h | h
        · left; rw [List.lookup_cons, e'] at h; exact h
        · right; rw [List.lookup_cons, e'] at h; exact h
      have ih := relab_names (env := env) (b := b) (f := f) h'
      by_cases c : (k == NameKind.free && b && f n) = true
      · rw [if_pos c, List.lookup_cons, e']
        exact ih
      · rw [if_neg c, List.lookup_cons, e']
        exact ih
theorem blkOk_rel {N : List Str} {outer scope : Scope} {env : Env} {own : List (Str × Nat)} (h : blkC N outer scope own = true) : BlkOk N (relabel outer env) scope own := by
  have B := blkOk_by h
  exact ⟨B.kind, B.uniq, B.ix, fun y hy e => relab_names (env := env) (b := env.scope.kind == .function) (f := fun n => env.kindOf n == some .cell) (B.free y hy e), B.own⟩
theorem ps_setDc {X : Cx} {i : Nat} {y : Str} {py : Pos} {kx vx tg iter : Expr} {ifs : List Expr} {scope : Scope} {own : List (Str × Nat)} {pos spos : Pos} {wi : TI} {g : TG} {tt : TT} {tk tv : TE} (hc : X.calm = true) (hN : X.N.Nodup) (hy : X.N[i]? = some y) (hyl : X.env.scope.names.lookup y = some .local)
    (hsw : swapsWith (.DictComp kx vx [⟨tg, iter, ifs, 0⟩] scope pos) (some (.Name y py)) spos.line X.env = pure true) (hi : PI X tg iter wi) (ok : BlkOk X.N X.env.scope scope own)
    (hg : ∀ (s : Shared) (H : Hp) (C : Addr) (cl : List (Str × Addr)) (fp : List Addr), PG (X.blk s H scope (compEnvC scope cl C X.env) fp) tg g) (ht : ∀ (s : Shared) (H : Hp) (C : Addr) (cl : List (Str × Addr)) (fp : List Addr), PTs (X.blk s H scope (compEnvC scope cl C X.env) fp) ifs tt)
    (hk : ∀ (s : Shared) (H : Hp) (C : Addr) (cl : List (Str × Addr)) (fp : List Addr), PE (X.blk s H scope (compEnvC scope cl C X.env) fp) kx tk)
    (he : ∀ (s : Shared) (H : Hp) (C : Addr) (cl : List (Str × Addr)) (fp : List Addr), PE (X.blk s H scope (compEnvC scope cl C X.env) fp) vx tv) (hs : ∀ x, foldedSetIterable iter X.env x = pure x := by intro _; rfl) :
    PS X (.Assign [.Name y py] (.DictComp kx vx [⟨tg, iter, ifs, 0⟩] scope pos) spos) (tAsg (tDc wi g tt tk tv (own.map (·.2))) (gName i)) := by
  refine ⟨fun pins s σ H D I h => ?_⟩
  rw [exec_Assign_Name_used _ _ _ _ hsw]
  refine wpAny_bind (wpAny_standAt (wpAny_bind ?_))
  show wpAny _ X.A (do let _ ← comprehension (.DictComp kx vx [⟨tg, iter, ifs, 0⟩] scope pos) scope X.env (firstIterPos [⟨tg, iter, ifs, 0⟩] pos) newDict false (eval iter X.env) (some (assign (.Name y py) X.env))) _ _ s
  have h : tDc wi g tt tk tv (own.map (·.2)) σ H (fun x H1 => gName i x σ H1 D.nx) := h
  refine wpAny_bind (thn (dc_core (Qf := fun _ s' => SP X pins D .next s') hc hN I hi ok hg ht hk he hs h fun L C s' m H' I' q hn f => ?_) fun _ s' hq => wpAny_pure (wpAny_pure hq))
  show wpAny _ _ (assign (.Name y py) X.env (.ref L)) _ _ _
  refine wpAny_assign_Name (store_ok2 (v := V.ref L) I' hN hy (.inl hyl) rfl (fun s2 I2 ⟨a, sb, ha⟩ => ?_) (.inr hyl))
  obtain ⟨f0, f1, f2, f3, f4, f5⟩ := f
  have haC : C ≠ a := by
    rcases ha with z | z
    · rw [z]; exact f1
    · exact fun e => f4 y a z e.symm
  refine ⟨m, hn.sameBut sb haC, fun h3 sb3 => ?_⟩
  exact ⟨_, H', I2.turned (t' := s2.toks) (fun b o hb e => (sb3.2 b hb).trans e) f0 f1 f3 f4 f5, q⟩
theorem sw_trueD {kx vx : Expr} {gs : List Comprehension} {scope : Scope} {pos py : Pos} {y : Str} {l : Nat} {env : Env} (hk : env.scope.kind = .function) (hy : env.scope.names.lookup y = some .local) (hl : (py.line == pos.line) = true)
    (ha : (scope.names.any fun (n, k) => n == y && (k == .local || k == .cell)) = false) : swapsWith (.DictComp kx vx gs scope pos) (some (.Name y py)) l env = pure true := by
  have ky : env.kindOf y = some .local := hy
  have hb : env.blockKind = .function := by unfold Env.blockKind; rw [hk]; rfl
  unfold swapsWith
  simp only [hb, ky, ha, Expr.pos, hl]
  rfl
def tTru (K : PySem.W.Frag) (t : TE) : TT := fun σ H Q => t σ H fun x H' => ∃ k, TruV K x H' k ∧ Q k H'
theorem pt_truthK {X : Cx} {K : PySem.W.Frag} {e : Expr} {t : TE} (hK : X.K = K) (h : PE X e t) (he : ∀ whole, isTrue e X.env whole = (do let v ← whole; standAt e.pos; holding [v] (truthy v))) : PT X e (tTru K t) := by
  subst hK
  exact pt_truth h he
theorem PS.nox {X : Cx} {st : Stmt} {t : TS} (h : PS X.nox st t) : PS X st t := ⟨fun pins s σ H D I hw =>
  wpAny_mono (h.run pins s σ H D (I.wish _) hw) (fun _ _ q => q.unwish) fun _ _ z => False.elim z⟩
end L2

/-! Lists of numbers, of lists, of pairs, as they stand in the heap; a tree. -/
namespace G
open PySem L2 GM
theorem same_new {H : Hp} {p : Addr} {o : HO} (h : H p = none) : Same H (upd H p o) := fun b u e => by
  rw [upd_ne (ne_of_none e h)]
  exact e
/-- a room's number -/
abbrev vn (n : Nat) : V := .int (n : Int)
theorem vn_inj {a b : Nat} (h : vn a = vn b) : a = b := Int.ofNat.inj (V.int.inj h)
theorem vn_dec {a b : Nat} : decide (vn a = vn b) = decide (a = b) := decide_eq_decide.mpr ⟨vn_inj, fun h => by rw [h]⟩
/-- a list, a tuple of rooms -/
def NL (H : Hp) (p : Addr) (l : List Nat) : Prop := H p = some (.lst (l.map vn))
def NT (H : Hp) (p : Addr) (l : List Nat) : Prop := H p = some (.tup (l.map vn))
/-- lists of rooms at these places -/
def Lists (H : Hp) (as : List Addr) (rs : List (List Nat)) : Prop := as.length = rs.length ∧ ∀ i a, as[i]? = some a → NL H a (rs.getD i [])
def Pairs (H : Hp) (as : List Addr) (ws : List (Nat × Nat)) : Prop := as.length = ws.length ∧ ∀ i a, as[i]? = some a → NT H a [(ws.getD i (0, 0)).1, (ws.getD i (0, 0)).2]
/-- a list of lists of rooms; of pairs -/
def LL (H : Hp) (p : Addr) (rs : List (List Nat)) : Prop := ∃ as, H p = some (.lst (as.map .ref)) ∧ Lists H as rs
def LP (H : Hp) (p : Addr) (ws : List (Nat × Nat)) : Prop := ∃ as, H p = some (.lst (as.map .ref)) ∧ Pairs H as ws
section
variable {H H' : Hp} {p : Addr} {as : List Addr} {l : List Nat} {rs : List (List Nat)} {ws : List (Nat × Nat)}
theorem NL.same (h : NL H p l) (e : Same H H') : NL H' p l := e _ _ h
theorem NT.same (h : NT H p l) (e : Same H H') : NT H' p l := e _ _ h
theorem Lists.same (h : Lists H as rs) (e : Same H H') : Lists H' as rs := ⟨h.1, fun i a k => (h.2 i a k).same e⟩
theorem Pairs.same (h : Pairs H as ws) (e : Same H H') : Pairs H' as ws := ⟨h.1, fun i a k => (h.2 i a k).same e⟩
theorem LL.same (h : LL H p rs) (e : Same H H') : LL H' p rs := by
  obtain ⟨as, h1, h2⟩ := h
  exact ⟨as, e _ _ h1, h2.same e⟩
theorem LP.same (h : LP H p ws) (e : Same H H') : LP H' p ws := by
  obtain ⟨as, h1, h2⟩ := h
  exact ⟨as, e _ _ h1, h2.same e⟩
end
/-- the heap without a -/
def rm (H : Hp) (a : Addr) : Hp := fun b => if b = a then none else H b
theorem rm_ne {H : Hp} {a b : Addr} (h : b ≠ a) : rm H a b = H b := if_neg h
theorem rm_self {H : Hp} {a : Addr} : rm H a a = none := if_pos rfl
theorem rm_some {H : Hp} {a b : Addr} {o : HO} (h : rm H a b = some o) : b ≠ a ∧ H b = some o := by
  by_cases e : b = a
  · rw [e, rm_self] at h
    cases h
  · rw [rm_ne e] at h
    exact ⟨e, h⟩
theorem rm_same (H : Hp) (a : Addr) : Same (rm H a) H := fun _ _ h => (rm_some h).2
theorem rm_mono {H H' : Hp} (a : Addr) (e : Same H H') : Same (rm H a) (rm H' a) := fun b o h => by
  obtain ⟨n, h⟩ := rm_some h
  rw [rm_ne n]
  exact e _ _ h
theorem rm_upd {H : Hp} {a : Addr} {o : HO} : rm (upd H a o) a = rm H a := by
  funext b
  by_cases e : b = a
  · rw [e, rm_self, rm_self]
  · rw [rm_ne e, rm_ne e, upd_ne e]
/-- what is new in H', and the tuples of H -/
def only (H H' : Hp) : Hp := fun b => match H b with
  | none => H' b
  | some (.tup xs) => some (.tup xs)
  | some _ => none
theorem only_same {H H' : Hp} (e : Same H H') : Same (only H H') H' := fun b o h => by
  unfold only at h
  split at h
  · exact h
  · rename_i xs hx
    rw [← h]
    exact e _ _ hx
  · cases h
theorem only_new {H H' : Hp} {b : Addr} (h : H b = none) : only H H' b = H' b := by
  unfold only
  rw [h]
theorem only_tup {H H' : Hp} {b : Addr} {xs : List V} (h : H b = some (.tup xs)) : only H H' b = some (.tup xs) := by
  unfold only
  rw [h]
theorem only_rm {H H' : Hp} {a : Addr} {w : List V} (e : Same H H') (ha : H a = some (.lst w)) : Same (only H H') (rm H' a) := fun b o h => by
  have h' := only_same e _ _ h
  have n : b ≠ a := fun z => by
    subst z
    unfold only at h
    rw [ha] at h
    cases h
  rw [rm_ne n]
  exact h'
/-- the well of draws -/
def Well (H : Hp) (a : Addr) : Prop := ∃ w0 w1 w2 : Int, H a = some (.lst [.int w0, .int w1, .int w2])
/-- one drawn number -/
def spDraw : Sp := fun vs H Q _ => ∃ (a : Addr) (cap : Int), vs = [.ref a, .int cap] ∧ Well H a ∧ 0 < cap ∧ cap < 1073741824 ∧ ∀ (z w0 w1 w2 : Int), 0 ≤ z → z < cap → Q (.int z) (upd H a (.lst [.int w0, .int w1, .int w2]))
/-- a def that may be called by its name: its level, its promise -/
structure Cal (P : Program) (w : World) (K : PySem.W.Frag) (mg : Str → Option Value) (base : Heap) (x : Str) (k : Nat) (ps : List Str) (sp : Sp) : Prop where
  ex : ∃ f fd, FnOk P w K mg base CX0 k f fd ps sp ∧ Binds K fd ps [] ∧ mg x = some (.ref f) ∧ PySem.W.keepIn K (.ref f) = true
theorem Cal.pe {X : Cx} {x : Str} {k : Nat} {ps : List Str} {sp : Sp} {e : Expr} {es : List Expr} {t : TA} {p pos : Pos} (L : Cal X.prog X.w X.K X.mg X.base x k ps sp) (hr : Room k X.A) (hg : Gl X x) (ha : PA X (e :: es) t) (hdb : (x == ("__debug__" : Str)) = false := by decide)
    (he : starEach (e :: es) X.env = (false, eval e X.env) :: starEach es X.env := by rfl) (hpl : (backTo pos (starEach es X.env)).any (·.1) = false := by rfl) : PE X (.Call (.Name x p) (e :: es) [] pos) (tCall sp [] E0 t) := by
  obtain ⟨f, fd, F, b, g, kp⟩ := L.ex
  exact pe_call F hr hg g kp b .nil pass0 ha hdb he hpl
/-- a method of the class at C -/
structure CalM (P : Program) (w : World) (K : PySem.W.Frag) (mg : Str → Option Value) (base : Heap) (C : Addr) (x : Str) (k : Nat) (ps : List Str) (sp : Sp) : Prop where
  ex : ∃ f fd, FnOk P w K mg base CX0 k f fd ps sp ∧ Binds K fd ps [] ∧ Meth K C x f
  cl : Cls K C
/-- len(o) -/
structure CalN (P : Program) (w : World) (K : PySem.W.Frag) (mg : Str → Option Value) (base : Heap) (C : Addr) (k : Nat) (ps : List Str) (sp : Sp) : Prop where
  ex : ∃ f fd, FnOk P w K mg base CX0 k f fd ps sp ∧ Binds K fd ps [] ∧ PySem.W.findIn K (.ref C) "__len__" = some (some (.ref f)) ∧ PySem.W.isFn K (.ref f) = true
theorem CalN.pe {X : Cx} {C : Addr} {k : Nat} {ps : List Str} {sp : Sp} {e : Expr} {es : List Expr} {t : TA} {p pos : Pos} (L : CalN X.prog X.w X.K X.mg X.base C k ps sp) (hr : Room (k + 1) X.A) (hg : Gl X "len") (hm : X.mg "len" = none) (ha : PA X (e :: es) t)
    (he : starEach (e :: es) X.env = (false, eval e X.env) :: starEach es X.env := by rfl) (hpl : (backTo pos (starEach es X.env)).any (·.1) = false := by rfl) : PE X (.Call (.Name "len" p) (e :: es) [] pos) (tCB (rLenO C sp) t) := by
  obtain ⟨f, fd, F, b, g, kp⟩ := L.ex
  exact pe_callB (call_lenO F hr g kp b pass0) hg hm PySem.boot_len ha (by decide) (by decide) he hpl
/-- C(e) -/
structure CalK (P : Program) (w : World) (K : PySem.W.Frag) (mg : Str → Option Value) (base : Heap) (C : Addr) (x : Str) (k : Nat) (ps : List Str) (sp : Sp) : Prop where
  ex : ∃ f fd, FnOk P w K mg base CX0 k f fd ps sp ∧ Binds K fd ps [] ∧ Mk K C f ∧ mg x = some (.ref C)
theorem CalK.pe {X : Cx} {C : Addr} {x : Str} {k : Nat} {ps : List Str} {sp : Sp} {e : Expr} {es : List Expr} {t : TA} {p pos : Pos} (L : CalK X.prog X.w X.K X.mg X.base C x k ps sp) (hr : Room (k + 1) X.A) (hg : Gl X x) (ha : PA X (e :: es) t) (hdb : (x == ("__debug__" : Str)) = false := by decide)
    (he : starEach (e :: es) X.env = (false, eval e X.env) :: starEach es X.env := by rfl) (hpl : (backTo pos (starEach es X.env)).any (·.1) = false := by rfl) : PE X (.Call (.Name x p) (e :: es) [] pos) (tMake C sp [] E0 t) := by
  obtain ⟨f, fd, F, b, M, g⟩ := L.ex
  exact pe_make M F hr hg g b .nil pass0 ha hdb he hpl
theorem CalM.pe {X : Cx} {C : Addr} {m : Str} {k : Nat} {ps : List Str} {sp : Sp} {o e : Expr} {es : List Expr} {ta : TE} {t : TA} {apos pos : Pos} {pl : Sem Bool} (L : CalM X.prog X.w X.K X.mg X.base C m k ps sp) (hr : Room k X.A) (he : PE X o ta) (ha : PA X (e :: es) t)
    (hst : starEach (e :: es) X.env = (false, eval e X.env) :: starEach es X.env := by rfl) (hpl : (backTo pos (starEach es X.env)).any (·.1) = false := by rfl)
    (ht : eval (.Call (.Attribute o m apos) (e :: es) [] pos) X.env = (do
      let ov ← eval o X.env
      standAt apos.atName
      let (f, first) ← holding [ov] (getMethod ov m pl)
      callWith pos f first (backTo pos (starEach (e :: es) X.env)) (backToKw pos (keywordEach [] X.env))) := by rfl) :
    PE X (.Call (.Attribute o m apos) (e :: es) [] pos) (tMeth C m sp [] E0 ta t) := by
  obtain ⟨f, fd, F, b, M⟩ := L.ex
  exact pe_meth he L.cl M F hr b .nil pass0 ha hst hpl ht
end G

namespace G
open PySem L2 GM
theorem kwr : ¬ (("_ways" : Str) = "_rows") := by decide +kernel
theorem krw : ¬ (("_rows" : Str) = "_ways") := by decide +kernel
def flds (lw lr : Addr) : List (Str × V) := putF "_rows" (.ref lr) (putF "_ways" (.ref lw) [])
theorem flds_rows (lw lr : Addr) : (flds lw lr).lookup ("_rows" : Str) = some (.ref lr) := by
  unfold flds
  rw [lookup_putF, if_pos rfl]
theorem flds_ways (lw lr : Addr) : (flds lw lr).lookup ("_ways" : Str) = some (.ref lw) := by
  unfold flds
  rw [lookup_putF, if_neg kwr, lookup_putF, if_pos rfl]
theorem flds_no (lw lr : Addr) {m : Str} (h1 : ¬ m = "_rows") (h2 : ¬ m = "_ways") : (flds lw lr).lookup m = none := by
  unfold flds
  rw [lookup_putF, if_neg h1, lookup_putF, if_neg h2]
  all_goals rfl
/-- a tree of these ways stands at p -/
def TreeAt (C : Addr) (H : Hp) (p : Addr) (ws : List Way) : Prop := ∃ dx lw lr, H p = some (.ins C dx (flds lw lr)) ∧ LP H lw ws ∧ LL H lr (rows ws)
theorem TreeAt.same {C : Addr} {H H' : Hp} {p : Addr} {ws : List Way} (h : TreeAt C H p ws) (e : Same H H') : TreeAt C H' p ws := by
  obtain ⟨dx, lw, lr, h1, h2, h3⟩ := h
  exact ⟨dx, lw, lr, e _ _ h1, h2.same e, h3.same e⟩
/-- a thing that is no whole number -/
def NoInt (K : PySem.W.Frag) (H : Hp) (v : V) : Prop := ∃ nm b1 b2, TyX K H v (.type nm) ∧ kitB nm "int" = some b1 ∧ kitB nm "bool" = some b2 ∧ (b1 && !b2) = false
def spWhole (K : PySem.W.Frag) : Sp := fun vs H Q _ => ∃ v, vs = [v] ∧ ((∃ i, v = .int i ∧ Q (.bl true) H) ∨ (NoInt K H v ∧ Q (.bl false) H))
def spLen (C : Addr) : Sp := fun vs H Q _ => ∃ p ws, vs = [.ref p] ∧ TreeAt C H p ws ∧ ws.length ≤ 1000 ∧ Q (vn (ws.length + 1)) H
def spRoom (K : PySem.W.Frag) (C : Addr) : Sp := fun vs H Q _ => ∃ p ws v, vs = [.ref p, v] ∧ TreeAt C H p ws ∧ ws.length ≤ 1000 ∧
  ((∃ i : Int, v = .int i ∧ Q (.bl (decide (0 ≤ i) && decide (i < (ws.length + 1 : Nat)))) H) ∨ (NoInt K H v ∧ Q (.bl false) H))
def spCheck (K : PySem.W.Frag) (C : Addr) : Sp := fun vs H Q _ => ∃ (p : Addr) (ws : List Way) (l : Addr) (xs : List Nat), vs = [.ref p, .ref l] ∧ TreeAt C H p ws ∧ ws.length ≤ 1000 ∧ SqL K H l (xs.map vn) ∧ (∀ x ∈ xs, x < ws.length + 1) ∧ Q .non H
def spBeside (C : Addr) : Sp := fun vs H Q _ => ∃ p ws r, vs = [.ref p, vn r] ∧ TreeAt C H p ws ∧ ws.length ≤ 1000 ∧ r < ws.length + 1 ∧ ∀ H' q, Same H H' → H q = none → NL H' q (nb (rows ws) r) → Q (.ref q) H'
structure TxT (K : PySem.W.Frag) (mg : Str → Option Value) (C : Addr) : Prop where
  cl : Cls K C
  nW : NoAttr K C "_ways"
  nR : NoAttr K C "_rows"
  isi : mg "isinstance" = none
  len : mg "len" = none
  list : mg "list" = none
  int : mg "int" = none
  bool : mg "bool" = none
section
variable {P : Program} {w : World} {K : PySem.W.Frag} {mg : Str → Option Value} {base : Heap} {C : Addr}
theorem scWhole : FnScope ["thing"] ["thing"] (defScope s_is_whole) := ⟨rfl, rfl, rfl, by decide +kernel, rfl, by decide +kernel, by decide +kernel⟩
theorem ok_whole {f : Addr} {fd : FuncData} (F : Fun K "is_whole" "is_whole" s_is_whole f fd) (T : TxT K mg C) : FnOk P w K mg base CX0 1 f fd ["thing"] (spWhole K) := by
  refine F.ok scWhole (fun vs H Q E h => ?_) (fun cdv A outer s H vs Q E hr h => ?_)
  · obtain ⟨v, rfl, _⟩ := h
    rfl
  · obtain ⟨v, rfl, k⟩ := h
    refine ⟨_, pss_one (ps_ret (pe_and (pe_callB call_isi (by rfl) T.isi PyProof.Rows.boot_isinstance (pa_cons (pv 0) (pa_cons (pe_bltn (v := .ty "int") (by rfl) T.int PyProof.Rows.boot_int rfl) pa_nil)))
      (pe_one (pe_not (pe_callB call_isi (by rfl) T.isi PyProof.Rows.boot_isinstance (pa_cons (pv 0) (pa_cons (pe_bltn (v := .ty "bool") (by rfl) T.bool PyProof.Rows.boot_bool rfl) pa_nil))))))), ?_⟩
    rcases k with ⟨i, rfl, q⟩ | ⟨⟨nm, b1, b2, ty, h1, h2, h3⟩, q⟩
    · exact ⟨_, rfl, _, _, _, _, true, rfl, .ty _, .base (.int _), kit_ty (by decide +kernel), _, rfl, iteT ⟨_, rfl, _, _, _, _, false, rfl, .ty _, .base (.int _), kit_ty (by decide +kernel), _, rfl, q⟩⟩
    · refine ⟨_, rfl, _, _, _, _, b1, rfl, .ty _, ty, kit_ty h1, _, rfl, ?_⟩
      cases b1 with
      | false => exact iteF q
      | true =>
        refine iteT ⟨_, rfl, _, _, _, _, b2, rfl, .ty _, ty, kit_ty h2, _, rfl, ?_⟩
        cases b2 with
        | true => exact q
        | false => cases h3
theorem scLen : FnScope ["self"] ["self"] (defScope s_Tree___len__) := ⟨rfl, rfl, rfl, by decide +kernel, rfl, by decide +kernel, by decide +kernel⟩
theorem ok_len {f : Addr} {fd : FuncData} (F : Fun K "__len__" "Tree.__len__" s_Tree___len__ f fd) (T : TxT K mg C) : FnOk P w K mg base CX0 1 f fd ["self"] (spLen C) := by
  refine F.ok scLen (fun vs H Q E h => ?_) (fun cdv A outer s H vs Q E hr h => ?_)
  · obtain ⟨p, ws, rfl, _⟩ := h
    rfl
  · obtain ⟨p, ws, rfl, ⟨dx, lw, lr, h1, h2, as, h3, h4⟩, hl, q⟩ := h
    refine ⟨_, pss_one (ps_ret (pe_callB call_len_seq (by rfl) T.len PySem.boot_len (pa_cons (pe_fld (pv 0) rfl) pa_nil))), ?_⟩
    refine ⟨_, rfl, p, C, dx, _, _, rfl, h1, T.cl, T.nR, flds_rows _ _, lr, _, rfl, .inl (SqL.of h3), ?_⟩
    rw [List.length_map, h4.1, rows_length]
    exact q
/-- the defs of the tree module that are called -/
structure CalT (P : Program) (w : World) (K : PySem.W.Frag) (mg : Str → Option Value) (base : Heap) (C fW fL : Addr) (dW dL : FuncData) : Prop where
  oW : FnOk P w K mg base CX0 1 fW dW ["thing"] (spWhole K)
  bW : Binds K dW ["thing"] []
  gW : mg "is_whole" = some (.ref fW)
  kW : PySem.W.keepIn K (.ref fW) = true
  oL : FnOk P w K mg base CX0 1 fL dL ["self"] (spLen C)
  bL : Binds K dL ["self"] []
  iL : PySem.W.findIn K (.ref C) "__len__" = some (some (.ref fL))
  nL : PySem.W.isFn K (.ref fL) = true
variable {fW fL : Addr} {dW dL : FuncData}
theorem scRoom : FnScope ["tree", "thing"] ["tree", "thing"] (defScope s_is_room) := ⟨rfl, rfl, rfl, by decide +kernel, rfl, by decide +kernel, by decide +kernel⟩
theorem ok_room {f : Addr} {fd : FuncData} (F : Fun K "is_room" "is_room" s_is_room f fd) (T : TxT K mg C) (L : CalT P w K mg base C fW fL dW dL) : FnOk P w K mg base CX0 3 f fd ["tree", "thing"] (spRoom K C) := by
  refine F.ok scRoom (fun vs H Q E h => ?_) (fun cdv A outer s H vs Q E hr h => ?_)
  · obtain ⟨p, ws, v, rfl, _⟩ := h
    rfl
  · obtain ⟨p, ws, v, rfl, TT, hl, k⟩ := h
    have hr1 : Room 1 _ := hr.mono (by decide)
    refine ⟨_, pss_one (ps_ret (pe_and (pe_call L.oW hr1 rfl L.gW L.kW L.bW .nil pass0 (pa_cons (pv 1) pa_nil)) (pe_one (pe_chain op_le op_lt pe_int (pv 1) (pe_callB (call_lenO L.oL hr L.iL L.nL L.bL pass0) (by rfl) T.len PySem.boot_len (pa_cons (pv 0) pa_nil)))))), ?_⟩
    rcases k with ⟨i, rfl, q⟩ | ⟨hn, q⟩
    · refine ⟨_, rfl, _, rfl, .inl ⟨i, rfl, _, rfl, iteT ⟨_, rfl, _, _, rfl, rfl, _, rfl, ?_⟩⟩⟩
      by_cases h0 : 0 ≤ i
      · rw [decide_eq_true h0] at q ⊢
        obtain ⟨dx, lw, lr, h1, _⟩ := id TT
        refine iteT ⟨_, rfl, p, dx, _, rfl, h1, p, ws, rfl, TT, hl, _, rfl, by omega, by omega, _, _, rfl, rfl, ?_⟩
        rw [Bool.true_and] at q
        exact q
      · rw [decide_eq_false h0] at q ⊢
        exact iteF q
    · exact ⟨_, rfl, _, rfl, .inr ⟨hn, _, rfl, iteF q⟩⟩
structure CalR (P : Program) (w : World) (K : PySem.W.Frag) (mg : Str → Option Value) (base : Heap) (C fR : Addr) (dR : FuncData) : Prop where
  oR : FnOk P w K mg base CX0 3 fR dR ["tree", "thing"] (spRoom K C)
  bR : Binds K dR ["tree", "thing"] []
  gR : mg "is_room" = some (.ref fR)
  kR : PySem.W.keepIn K (.ref fR) = true
variable {fR : Addr} {dR : FuncData}
theorem scChk : FnScope ["self", "things", "thing"] ["self", "things"] (defScope s_Tree__check_rooms) := ⟨rfl, rfl, rfl, by decide +kernel, rfl, by decide +kernel, by decide +kernel⟩
theorem ok_chk {f : Addr} {fd : FuncData} (F : Fun K "_check_rooms" "Tree._check_rooms" s_Tree__check_rooms f fd) (L : CalR P w K mg base C fR dR) : FnOk P w K mg base CX0 4 f fd ["self", "things"] (spCheck K C) := by
  refine F.ok scChk (fun vs H Q E h => ?_) (fun cdv A outer s H vs Q E hr h => ?_)
  · obtain ⟨p, ws, l, xs, rfl, _⟩ := h
    rfl
  · obtain ⟨p, ws, l, xs, rfl, TT, hl, hS, hx, q⟩ := h
    refine ⟨_, pss_one (ps_for PassesOwn.never rfl (pi_list (pv 1)) (pg_name (i := 2) scChk.nd rfl (Or.inl rfl))
      (pss_one (ps_if (pt_not (pt_val (pe_call L.oR hr rfl L.gR L.kR L.bR .nil pass0 (pa_cons (pv 0) (pa_cons (pv 2) pa_nil))))) (pss_one ps_never) pss_nil))), ?_⟩
    refine ⟨_, rfl, l, rfl, ⟨_, hS⟩, for_list (K := K) (a := l) (xs := xs.map vn) (fun i σ Hc => ∃ v, σ = [some (.ref p), some (.ref l), v] ∧ Hc = H) ⟨none, rfl, rfl⟩ (fun i σ Hc _ ⟨_, _, e⟩ => e ▸ hS) ?_ ?_⟩
    · rintro i y σ Hc hi ⟨v, rfl, rfl⟩
      obtain ⟨x, hx1, rfl⟩ : ∃ x, x ∈ xs ∧ y = vn x := by
        rw [List.getElem?_map] at hi
        cases e : xs[i]? with
        | none => rw [e] at hi; cases hi
        | some x => rw [e] at hi; exact ⟨x, List.mem_of_getElem? e, (Option.some.inj hi).symm⟩
      have lx := hx x hx1
      refine ⟨_, rfl, _, rfl, p, ws, _, rfl, TT, hl, .inl ⟨_, rfl, _, rfl, ?_⟩⟩
      have e : (decide (0 ≤ (x : Int)) && decide ((x : Int) < ((ws.length + 1 : Nat) : Int))) = true := by
        rw [decide_eq_true (Int.natCast_nonneg x), decide_eq_true (Int.ofNat_lt.mpr lx)]
        rfl
      rw [e]
      exact iteF ⟨_, rfl, rfl⟩
    · rintro σ Hc ⟨v, rfl, rfl⟩
      exact q
structure CalC (P : Program) (w : World) (K : PySem.W.Frag) (mg : Str → Option Value) (base : Heap) (C fC : Addr) (dC : FuncData) : Prop where
  oC : FnOk P w K mg base CX0 4 fC dC ["self", "things"] (spCheck K C)
  bC : Binds K dC ["self", "things"] []
  mC : Meth K C "_check_rooms" fC
variable {fC : Addr} {dC : FuncData}
theorem scBes : FnScope ["self", "room"] ["self", "room"] (defScope s_Tree_beside) := ⟨rfl, rfl, rfl, by decide +kernel, rfl, by decide +kernel, by decide +kernel⟩
theorem k_ch : ¬ (("_check_rooms" : Str) = "_rows") := by decide +kernel
theorem k_ch2 : ¬ (("_check_rooms" : Str) = "_ways") := by decide +kernel
theorem LL.at {H : Hp} {p : Addr} {rs : List (List Nat)} {r : Nat} (h : LL H p rs) (hr : r < rs.length) : ∃ (as : List Addr) (a : Addr), H p = some (.lst (as.map V.ref)) ∧ atI (as.map V.ref) (r : Int) = some (.ref a) ∧ NL H a (nb rs r) := by
  obtain ⟨as, h1, h2, h3⟩ := h
  have hr2 : r < as.length := by rw [h2]; exact hr
  refine ⟨as, as[r], h1, atI_nat ?_, h3 r _ (List.getElem?_eq_getElem hr2)⟩
  rw [List.getElem?_map, List.getElem?_eq_getElem hr2]
  rfl
theorem ok_bes {f : Addr} {fd : FuncData} (F : Fun K "beside" "Tree.beside" s_Tree_beside f fd) (T : TxT K mg C) (L : CalC P w K mg base C fC dC) : FnOk P w K mg base CX0 5 f fd ["self", "room"] (spBeside C) := by
  refine F.ok scBes (fun vs H Q E h => ?_) (fun cdv A outer s H vs Q E hr h => ?_)
  · obtain ⟨p, ws, r, rfl, _⟩ := h
    rfl
  · obtain ⟨p, ws, r, rfl, TT, hl, hr', q⟩ := h
    refine ⟨_, pss_cons (ps_expr (pe_meth (pv 0) T.cl L.mC L.oC hr L.bC .nil pass0 (pa_cons (pe_lst (pa_cons (pv 1) pa_nil)) pa_nil)))
      (pss_one (ps_ret (pe_callTy call_list_of (by rfl) T.list PyProof.Rows.boot_list (pa_cons (pe_ix ix_list (pe_fld (pv 0) rfl) (pv 1) (fun _ _ => rfl)) pa_nil)))), ?_⟩
    obtain ⟨dx, lw, lr, h1, h2, h3⟩ := id TT
    refine ⟨_, rfl, p, dx, _, rfl, h1, flds_no _ _ k_ch k_ch2, _, rfl, (by show 1 ≤ sizeLine; decide), fun l nl => ?_⟩
    generalize hB : upd _ l _ = B
    have s1 : Same H B := hB ▸ same_new nl
    have hl2 : B l = some _ := hB ▸ upd_same
    refine ⟨p, ws, l, [r], rfl, TT.same s1, hl, SqL.of hl2, fun x hx => ?_, ?_⟩
    · rw [List.mem_singleton.mp hx]
      exact hr'
    obtain ⟨as, a, g1, g2, g3⟩ := (h3.same s1).at (r := r) (by rw [rows_length]; exact hr')
    refine ⟨_, rfl, p, C, dx, _, _, rfl, s1 _ _ h1, T.cl, T.nR, flds_rows _ _, _, rfl, lr, _, _, _, rfl, rfl, SqL.of g1, g2, a, _, rfl, .inl (SqL.of g3), fun x nx => ?_⟩
    exact q _ x (s1.trans (same_new nx)) (s1.free nx) upd_same
end
end G

namespace G
open PySem L2 GM
theorem rg_vn (n : Nat) : rgV 0 (n : Int) = (List.range n).map vn := by
  unfold rgV
  rw [show ((n : Int) - 0).toNat = n by omega]
  apply List.map_congr_left
  intro a _
  show V.int (0 + (a : Int)) = V.int (a : Int)
  rw [Int.zero_add]
theorem at_vn {l : List Nat} {i : Nat} (h : i < l.length) : atI (l.map vn) (i : Int) = some (vn (l.getD i 0)) := by
  refine atI_nat ?_
  rw [List.getElem?_map, List.getElem?_eq_getElem h, List.getD_eq_getElem?_getD, List.getElem?_eq_getElem h]
  rfl
theorem LP.at {H : Hp} {as : List Addr} {ws : List Way} (h : Pairs H as ws) {i : Nat} {y : V} (e : (as.map V.ref)[i]? = some y) : ∃ t w, y = .ref t ∧ ws[i]? = some w ∧ NT H t [w.1, w.2] := by
  rw [List.getElem?_map] at e
  cases ha : as[i]? with
  | none => rw [ha] at e; cases e
  | some t =>
    rw [ha] at e
    have hi : i < ws.length := by
      rw [← h.1]
      exact (List.getElem?_eq_some_iff.mp ha).1
    have k := h.2 i t ha
    rw [List.getD_eq_getElem?_getD, List.getElem?_eq_getElem hi] at k
    exact ⟨t, ws[i], (Option.some.inj e).symm, List.getElem?_eq_getElem hi, k⟩
def spIsWay : Sp := fun vs H Q _ => ∃ (t : Addr) (a b many : Nat), vs = [.ref t, vn many] ∧ NT H t [a, b] ∧ a < b ∧ b < many ∧ Q (.bl true) H
def spChkW : Sp := fun vs H Q _ => ∃ (l : Addr) (ws : List Way), vs = [.ref l] ∧ LP H l ws ∧ ws.length ≤ 59 ∧ okWays (ws.length + 1) ws (List.range (ws.length + 1)) ∧ ∀ H', Same H H' → Q .non H'
structure TxW (K : PySem.W.Frag) (mg : Str → Option Value) : Prop where
  isi : mg "isinstance" = none
  len : mg "len" = none
  list : mg "list" = none
  tup : mg "tuple" = none
  rg : mg "range" = none
  en : mg "enumerate" = none
  most : ∃ t, mg "MOST_WAYS" = some (.int 59 t)
  srt : mg "sorted" = none
structure CalW (P : Program) (w : World) (K : PySem.W.Frag) (mg : Str → Option Value) (base : Heap) (fW : Addr) (dW : FuncData) : Prop where
  oW : FnOk P w K mg base CX0 1 fW dW ["thing"] (spWhole K)
  bW : Binds K dW ["thing"] []
  gW : mg "is_whole" = some (.ref fW)
  kW : PySem.W.keepIn K (.ref fW) = true
section
variable {P : Program} {w : World} {K : PySem.W.Frag} {mg : Str → Option Value} {base : Heap} {fW : Addr} {dW : FuncData}
theorem scIsW : FnScope ["thing", "many", "one", "other"] ["thing", "many"] (defScope s_is_way) := ⟨rfl, rfl, rfl, by decide +kernel, rfl, by decide +kernel, by decide +kernel⟩
theorem ok_isw {f : Addr} {fd : FuncData} (F : Fun K "is_way" "is_way" s_is_way f fd) (T : TxW K mg) (L : CalW P w K mg base fW dW) : FnOk P w K mg base CX0 2 f fd ["thing", "many"] spIsWay := by
  refine F.ok scIsW (fun vs H Q E h => ?_) (fun cdv A outer s H vs Q E hr h => ?_)
  · obtain ⟨t, a, b, many, rfl, _⟩ := h
    rfl
  · obtain ⟨t, a, b, many, rfl, ht, h1, h2, q⟩ := h
    refine ⟨_, pss_cons (ps_if (PW.pt (pw_or (pt_not (pt_val (pe_callB call_isi (by rfl) T.isi PyProof.Rows.boot_isinstance (pa_cons (pv 0) (pa_cons (pe_bltn (v := .ty "tuple") (by rfl) T.tup PyProof.Rows.boot_tuple rfl) pa_nil)))))
        (pw_or1 (pt_cmpR op_ne (pe_callB call_len_seq (by rfl) T.len PySem.boot_len (pa_cons (pv 0) pa_nil)) pe_int (nomark _))))) (pss_one (ps_ret pe_bl)) pss_nil)
      (pss_cons (ps_asg (pv 0) (pg_tup (by rfl) (pgs_cons (pg_name (i := 2) scIsW.nd rfl (Or.inl rfl)) (pgs_cons (pg_name (i := 3) scIsW.nd rfl (Or.inl rfl)) pgs_nil))))
      (pss_one (ps_ret (pe_and (pe_call L.oW hr rfl L.gW L.kW L.bW .nil pass0 (pa_cons (pv 2) pa_nil)) (pe_and (pe_call L.oW hr rfl L.gW L.kW L.bW .nil pass0 (pa_cons (pv 3) pa_nil))
        (pe_one (pe_chain3 op_le op_lt op_lt pe_int (pv 2) (pv 3) (pv 1)))))))), ?_⟩
    refine ⟨_, rfl, _, _, _, _, true, rfl, .ty _, .base (.tup ht), kit_ty (by decide +kernel), _, rfl, iteF ?_⟩
    refine ⟨_, rfl, t, _, rfl, .inr (SqT.of ht), rfl, _, rfl, iteF ?_⟩
    refine ⟨_, rfl, t, _, rfl, SqT.of ht, rfl, _, _, rfl, _, _, rfl, rfl, ?_⟩
    refine ⟨_, rfl, .int _, rfl, .inl ⟨_, rfl, _, rfl, iteT ?_⟩⟩
    refine ⟨_, rfl, .int _, rfl, .inl ⟨_, rfl, _, rfl, iteT ?_⟩⟩
    refine ⟨_, rfl, _, _, rfl, rfl, _, rfl, ?_⟩
    rw [decide_eq_true (Int.natCast_nonneg a)]
    refine iteT ⟨_, rfl, _, _, rfl, rfl, _, rfl, ?_⟩
    rw [decide_eq_true (Int.ofNat_lt.mpr h1)]
    refine iteT ⟨_, rfl, _, _, rfl, rfl, ?_⟩
    show Q (.bl (decide ((b : Int) < (many : Int)))) H
    rw [decide_eq_true (Int.ofNat_lt.mpr h2)]
    exact q
structure CalV (P : Program) (w : World) (K : PySem.W.Frag) (mg : Str → Option Value) (base : Heap) (fV : Addr) (dV : FuncData) : Prop where
  oV : FnOk P w K mg base CX0 2 fV dV ["thing", "many"] spIsWay
  bV : Binds K dV ["thing", "many"] []
  gV : mg "is_way" = some (.ref fV)
  kV : PySem.W.keepIn K (.ref fV) = true
variable {fV : Addr} {dV : FuncData}
theorem scCkW : FnScope ["ways", "many", "lots", "at", "way", "kept", "lost", "lot"] ["ways"] (defScope s__check_ways) := ⟨rfl, rfl, rfl, by decide +kernel, rfl, by decide +kernel, by decide +kernel⟩
theorem ok_ckw {f : Addr} {fd : FuncData} (F : Fun K "_check_ways" "_check_ways" s__check_ways f fd) (T : TxW K mg) (L : CalV P w K mg base fV dV) : FnOk P w K mg base CX0 3 f fd ["ways"] spChkW := by
  refine F.ok scCkW (fun vs H Q E h => ?_) (fun cdv A outer s H vs Q E hr h => ?_)
  · obtain ⟨l, ws, rfl, _⟩ := h
    rfl
  · obtain ⟨l, ws, rfl, ⟨as, hl, hP⟩, hlen, hok, q⟩ := h
    obtain ⟨tm, gm⟩ := T.most
    have hu := hr.units
    refine ⟨_, pss_cons (ps_if (PW.pt (pw_or (pt_not (pt_val (pe_callB call_isi (by rfl) T.isi PyProof.Rows.boot_isinstance (pa_cons (pv 0) (pa_cons (pe_bltn (v := .ty "list") (by rfl) T.list PyProof.Rows.boot_list rfl) pa_nil)))))
        (pw_or1 (pt_cmpR op_gt (pe_callB call_len_seq (by rfl) T.len PySem.boot_len (pa_cons (pv 0) pa_nil)) (pe_glob (v := .int 59) rfl gm ⟨_, rfl⟩) (nomark _))))) (pss_one ps_never) pss_nil)
      (pss_cons (ps_set (i := 1) scCkW.nd rfl (Or.inl rfl) (pe_op op_add (pe_callB call_len_seq (by rfl) T.len PySem.boot_len (pa_cons (pv 0) pa_nil)) pe_int))
      (pss_cons (ps_set (i := 2) scCkW.nd rfl (Or.inl rfl) (pe_listRg rfl rfl T.list (prg_1 rfl T.rg (pv 1))))
      (pss_one (ps_for PassesOwn.never rfl (pi_enum (by rfl) T.en (pa_cons (pv 0) pa_nil)) (pg_tup rfl (pgs_cons (pg_name (i := 3) scCkW.nd rfl (Or.inl rfl)) (pgs_cons (pg_name (i := 4) scCkW.nd rfl (Or.inl rfl)) pgs_nil)))
        (pss_cons (ps_if (PW.pt (pw_or (pt_not (pt_val (pe_call L.oV hr rfl L.gV L.kV L.bV .nil pass0 (pa_cons (pv 4) (pa_cons (pv 1) pa_nil)))))
            (pw_or1 (pt_cmpR op_eq (pe_ix ix_list (pv 2) (pe_ix ix_tup (pv 4) pe_int (fun _ _ => rfl)) (fun _ _ => rfl)) (pe_ix ix_list (pv 2) (pe_ix ix_tup (pv 4) pe_int (fun _ _ => rfl)) (fun _ _ => rfl)) (nomark _))))) (pss_one ps_never) pss_nil)
        (pss_cons (ps_asg (pe_tup (pa_cons (pe_ix ix_list (pv 2) (pe_ix ix_tup (pv 4) pe_int (fun _ _ => rfl)) (fun _ _ => rfl)) (pa_cons (pe_ix ix_list (pv 2) (pe_ix ix_tup (pv 4) pe_int (fun _ _ => rfl)) (fun _ _ => rfl)) pa_nil)))
            (pg_tup rfl (pgs_cons (pg_name (i := 5) scCkW.nd rfl (Or.inr rfl)) (pgs_cons (pg_name (i := 6) scCkW.nd rfl (Or.inr rfl)) pgs_nil))))
        (pss_one (ps_setLc (i := 2) (own := [("lot", 7)]) (g := gName 7) (tt := tYes) rfl scCkW.nd rfl rfl (sw_true rfl rfl rfl (by decide +kernel)) (pi_list (pv 2)) (blkOk_by (N := ["ways", "many", "lots", "at", "way", "kept", "lost", "lot"]) (sc := defScope s__check_ways) (by decide +kernel))
          (fun _ _ _ _ _ => pg_name (i := 7) scCkW.nd rfl (Or.inl rfl)) (fun _ _ _ _ _ => pts_nil) (fun _ _ _ _ _ => pe_ifExp (pt_cmpR op_eq (pv 7) (pv 6) (nomark _)) (pv 5) (pv 7)))))))))), ?_⟩
    have el : (as.map V.ref).length = ws.length := by rw [List.length_map, hP.1]
    refine ⟨_, rfl, _, _, _, _, true, rfl, .ty _, .base (.lst hl), kit_ty (by decide +kernel), _, rfl, iteF ?_⟩
    refine ⟨_, rfl, l, _, rfl, .inl (SqL.of hl), _, _, rfl, rfl, _, rfl, ?_⟩
    rw [el, decide_eq_false (show ¬ ((59 : Int) < ((ws.length : Nat) : Int)) by omega)]
    refine iteF ⟨_, rfl, l, _, rfl, .inl (SqL.of hl), ((ws.length : Nat) : Int), 1, (by rw [el]), rfl, ?_⟩
    refine ⟨_, rfl, ((ws.length + 1 : Nat) : Int), rfl, RgOk.of_le (by decide) (by omega) (by decide) (by omega), fun q0 nq => ?_⟩
    rw [rg_vn]
    generalize hB : upd _ q0 _ = B
    have s1 : Same H B := hB ▸ same_new nq
    have h1 : NL B q0 (List.range (ws.length + 1)) := hB ▸ upd_same
    refine ⟨_, rfl, l, _, rfl, SqL.of (s1 _ _ hl), ?_⟩
    refine for_it (walk_enum (xs := as.map V.ref)) (fun j σ Hd => ∃ v3 v4 v5 v6 v7 lq L, σ = [some (.ref l), some (vn (ws.length + 1)), some (.ref lq), v3, v4, v5, v6, v7] ∧ Same H Hd ∧ NL Hd lq L ∧ L.length = ws.length + 1 ∧ okWays (ws.length + 1) (ws.drop j) L)
      ⟨none, none, none, none, none, q0, _, rfl, s1, h1, List.length_range, hok⟩ (fun j σ Hd _ ⟨_, _, _, _, _, _, _, _, sd, _⟩ => SqL.of (sd _ _ hl)) ?_ ?_
    · rintro j y σ Hd Hd' hj ⟨v3, v4, v5, v6, v7, lq, L, rfl, sd, hL, lL, hk⟩ ⟨T0, y1, y2, rfl, nT, rfl, ey1, ey2⟩
      obtain ⟨t, w0, rfl, hw, ht⟩ := LP.at hP ey2
      obtain ⟨a, b⟩ := w0
      have ed : ws.drop j = (a, b) :: ws.drop (j + 1) := by
        rw [List.drop_eq_getElem_cons (List.getElem?_eq_some_iff.mp hw).1]
        rw [(List.getElem?_eq_some_iff.mp hw).2]
      rw [ed] at hk
      obtain ⟨k1, k2, k3, k4⟩ := hk
      simp only at k1 k2 k3 k4
      refine ⟨T0, _, rfl, SqT.of upd_same, rfl, _, _, rfl, _, _, rfl, rfl, ?_⟩
      generalize hB2 : upd _ T0 _ = B2
      have s2 : Same Hd B2 := hB2 ▸ same_new nT
      have t2 : NT B2 t [a, b] := s2 _ _ (sd _ _ ht)
      have L2 : NL B2 lq L := s2 _ _ hL
      refine ⟨_, rfl, _, rfl, t, a, b, ws.length + 1, rfl, t2, k1, k2, _, rfl, iteF ?_⟩
      have xa : atI (L.map vn) (a : Int) = some (vn (L.getD a 0)) := at_vn (by omega)
      have xb : atI (L.map vn) (b : Int) = some (vn (L.getD b 0)) := at_vn (by omega)
      have ia : atI ([a, b].map vn) 0 = some (vn a) := rfl
      have ib : atI ([a, b].map vn) 1 = some (vn b) := rfl
      refine ⟨_, rfl, _, rfl, t, _, _, _, rfl, rfl, SqT.of t2, ia, lq, _, _, _, rfl, rfl, SqL.of L2, xa, _, rfl, _, rfl, t, _, _, _, rfl, rfl, SqT.of t2, ib, lq, _, _, _, rfl, rfl, SqL.of L2, xb, rfl, _, rfl, ?_⟩
      rw [vn_dec, decide_eq_false k3]
      refine iteF ⟨_, rfl, _, rfl, t, _, _, _, rfl, rfl, SqT.of t2, ia, lq, _, _, _, rfl, rfl, SqL.of L2, xa, _, rfl, _, rfl, t, _, _, _, rfl, rfl, SqT.of t2, ib, lq, _, _, _, rfl, rfl, SqL.of L2, xb, (by show 2 ≤ sizeLine; decide), fun T1 nT1 => ?_⟩
      generalize hB3 : upd _ T1 _ = B3
      have s3 : Same B2 B3 := hB3 ▸ same_new nT1
      have t3 : NT B3 T1 [L.getD a 0, L.getD b 0] := hB3 ▸ upd_same
      have L3 : NL B3 lq L := s3 _ _ L2
      refine ⟨T1, _, rfl, SqT.of t3, rfl, _, _, rfl, _, _, rfl, rfl, ?_⟩
      refine ⟨_, rfl, lq, rfl, ⟨_, SqL.of L3⟩, fun D nD => ?_⟩
      refine lc_gen (walk_list (K := K) (a := lq) (xs := L.map vn)) (L.map vn) (fun _ => true) (fun v => if v = vn (L.getD b 0) then vn (L.getD a 0) else v) nD rfl (by rw [List.length_map, lL]; exact small1000 (by omega))
        (fun j Hc x H' _ _ y => ⟨y.1, y.2⟩) (fun Hc s => SqL.of (s _ _ L3)) (fun x Hc R _ _ k => k Hc (.refl _)) ?_ ?_
      · intro x Hc R hx _ sc k
        obtain ⟨z, _, rfl⟩ := List.mem_map.mp hx
        refine ⟨_, rfl, _, rfl, rfl, _, rfl, ?_⟩
        have kk := k Hc (.refl _)
        by_cases e : vn z = vn (L.getD b 0)
        · rw [if_pos e] at kk
          rw [decide_eq_true e]
          exact iteT ⟨_, rfl, kk⟩
        · rw [if_neg e] at kk
          rw [decide_eq_false e]
          exact iteF ⟨_, rfl, kk⟩
      · intro H2 s4 hD
        refine ⟨_, _, _, _, _, D, relab L (L.getD a 0) (L.getD b 0), rfl, sd.trans (s2.trans (s3.trans s4)), ?_, by rw [relab_length]; exact lL, k4⟩
        unfold NL
        rw [hD, List.filter_eq_self.mpr (fun _ _ => rfl)]
        unfold relab
        rw [List.map_map, List.map_map]
        congr 2
        apply List.map_congr_left
        intro z _
        show (if vn z = vn (L.getD b 0) then vn (L.getD a 0) else vn z) = vn (if z = L.getD b 0 then L.getD a 0 else z)
        by_cases e : z = L.getD b 0
        · rw [if_pos e, if_pos (by rw [e])]
        · rw [if_neg e, if_neg (fun h => e (vn_inj h))]
    · rintro σ Hd ⟨v3, v4, v5, v6, v7, lq, L, rfl, sd, _⟩
      exact q Hd sd
end
end G

namespace G
open PySem L2 GM
theorem vn_map (l : List Nat) : l.map vn = (l.map fun (n : Nat) => (n : Int)).map V.int := by
  rw [List.map_map]
  rfl
theorem srt_ints {ns' : List Int} {l : List Nat} (p : ns'.Perm (l.map fun (n : Nat) => (n : Int))) (r : ns'.Pairwise (· ≤ ·)) : ns'.map V.int = (srt l).map vn := by
  have nn : ∀ z ∈ ns', 0 ≤ z := fun z hz => by
    have := p.subset hz
    obtain ⟨n, _, e⟩ := List.mem_map.mp this
    omega
  have e1 : (ns'.map Int.toNat).map (fun (n : Nat) => (n : Int)) = ns' := by
    rw [List.map_map]
    refine (List.map_congr_left fun z hz => ?_).trans (List.map_id ns')
    show ((z.toNat : Nat) : Int) = z
    have := nn z hz
    omega
  have p2 : (ns'.map Int.toNat).Perm l := by
    have := p.map Int.toNat
    rw [List.map_map] at this
    refine this.trans (List.Perm.of_eq ?_)
    refine (List.map_congr_left fun z _ => ?_).trans (List.map_id l)
    show ((z : Int)).toNat = z
    omega
  have r2 : (ns'.map Int.toNat).Pairwise (· ≤ ·) := by
    rw [List.pairwise_map]
    exact r.imp fun h => by omega
  rw [← srt_eq p2 r2, vn_map, e1]
theorem Lists.upd {H : Hp} {as : List Addr} {acc : List (List Nat)} {i x : Nat} {a : Addr} (h : Lists H as acc) (nd : as.Nodup) (ha : as[i]? = some a) : Lists (upd H a (.lst ((acc.getD i [] ++ [x]).map vn))) as (put acc i x) := by
  refine ⟨by rw [put_length]; exact h.1, fun j b hb => ?_⟩
  have hi : i < acc.length := by
    rw [← h.1]
    exact (List.getElem?_eq_some_iff.mp ha).1
  by_cases e : i = j
  · subst e
    rw [ha] at hb
    cases hb
    unfold put
    rw [getD_set_self hi]
    exact upd_same
  · unfold put
    rw [getD_set_ne e]
    have ne : b ≠ a := fun z => e (nodup_ixA nd ha (z ▸ hb))
    show L2.upd H a _ b = _
    rw [upd_ne ne]
    exact h.2 j b hb
where
  nodup_ixA {l : List Addr} (h : l.Nodup) {i j : Nat} {x : Addr} (a : l[i]? = some x) (b : l[j]? = some x) : i = j := by
    obtain ⟨h1, e1⟩ := List.getElem?_eq_some_iff.mp a
    obtain ⟨h2, e2⟩ := List.getElem?_eq_some_iff.mp b
    exact (List.getElem_inj h).mp (e1.trans e2.symm)
theorem getD_replicate {n i : Nat} : (List.replicate n ([] : List Nat)).getD i [] = [] := by
  rw [List.getD_eq_getElem?_getD, List.getElem?_replicate]
  split <;> rfl
theorem lists_nil {H : Hp} {as : List Addr} {n : Nat} (hl : as.length = n) (h : ∀ a ∈ as, H a = some (.lst [])) : Lists H as (List.replicate n []) := by
  refine ⟨by rw [List.length_replicate, hl], fun i a ha => ?_⟩
  rw [getD_replicate]
  exact h a (List.mem_of_getElem? ha)
/-- a row's length is at most how many ways there are -/
theorem len_put {acc : List (List Nat)} {i x m : Nat} (h : ∀ j, (acc.getD j []).length ≤ m) : ∀ j, ((put acc i x).getD j []).length ≤ m + 1 := by
  intro j
  unfold put
  by_cases e : i = j
  · subst e
    by_cases hi : i < acc.length
    · rw [getD_set_self hi]
      have := h i
      simp only [List.length_append, List.length_cons, List.length_nil]
      omega
    · rw [List.getD_eq_getElem?_getD, List.getElem?_eq_none (by rw [List.length_set]; omega)]
      exact Nat.zero_le _
  · rw [getD_set_ne e]
    have := h j
    omega
theorem len_raw {n : Nat} : ∀ (ws : List Way) (acc : List (List Nat)), (∀ j, (acc.getD j []).length ≤ n) → ∀ j, ((ws.foldl addWay acc).getD j []).length ≤ n + 2 * ws.length
  | [], acc, h, j => h j
  | w :: r, acc, h, j => by
    have k := len_raw r (addWay acc w) (n := n + 2) (len_put (len_put h)) j
    simp only [List.length_cons]
    show ((r.foldl addWay (addWay acc w)).getD j []).length ≤ _
    omega
end G

namespace G
open PySem L2 GM
def spRows : Sp := fun vs H Q _ => ∃ (l : Addr) (ws : List Way), vs = [.ref l] ∧ LP H l ws ∧ ws.length ≤ 59 ∧ (∀ w ∈ ws, w.1 < w.2 ∧ w.2 < ws.length + 1) ∧ ∀ H' q, Same H H' → H q = none → LL (only H H') q (rows ws) → Q (.ref q) H'
section
variable {P : Program} {w : World} {K : PySem.W.Frag} {mg : Str → Option Value} {base : Heap}
theorem scRows : FnScope ["ways", "rows", "one", "other", "_", "row"] ["ways"] (defScope s__rows_beside) := ⟨rfl, rfl, rfl, by decide +kernel, rfl, by decide +kernel, by decide +kernel⟩
theorem ok_Rows {f : Addr} {fd : FuncData} (F : Fun K "_rows_beside" "_rows_beside" s__rows_beside f fd) (T : TxW K mg) : FnOk P w K mg base CX0 1 f fd ["ways"] spRows := by
  refine F.ok scRows (fun vs H Q E h => ?_) (fun cdv A outer s H vs Q E hr h => ?_)
  · obtain ⟨l, ws, rfl, _⟩ := h
    rfl
  · obtain ⟨l, ws, rfl, ⟨as0, hl, hP⟩, hlen, hw, q⟩ := h
    refine ⟨_, pss_cons (ps_setLc (i := 1) (own := [("_", 4)]) (g := gName 4) (tt := tYes) rfl scRows.nd rfl rfl (sw_true rfl rfl rfl (by decide +kernel)) (pi_range1 (by rfl) T.rg (pa_cons (pe_op op_add (pe_callB call_len_seq (by rfl) T.len PySem.boot_len (pa_cons (pv 0) pa_nil)) pe_int) pa_nil)) (blkOk_by (N := ["ways", "rows", "one", "other", "_", "row"]) (sc := defScope s__rows_beside) (by decide +kernel))
          (fun _ _ _ _ _ => pg_name (i := 4) scRows.nd rfl (Or.inl rfl)) (fun _ _ _ _ _ => pts_nil) (fun _ _ _ _ _ => pe_lst pa_nil))
      (pss_cons (ps_for PassesOwn.never rfl (pi_list (pv 0)) (pg_tup rfl (pgs_cons (pg_name (i := 2) scRows.nd rfl (Or.inl rfl)) (pgs_cons (pg_name (i := 3) scRows.nd rfl (Or.inl rfl)) pgs_nil)))
        (pss_cons (ps_expr (pe_bm PySem.F.plainAttrs_list PySem.F.slot_list_append PySem.F.type_list_append mt_append (pe_ix ix_list (pv 1) (pv 2) (fun _ _ => rfl)) (pa_cons (pv 3) pa_nil)))
        (pss_one (ps_expr (pe_bm PySem.F.plainAttrs_list PySem.F.slot_list_append PySem.F.type_list_append mt_append (pe_ix ix_list (pv 1) (pv 3) (fun _ _ => rfl)) (pa_cons (pv 2) pa_nil))))))
      (pss_one (ps_ret (pe_lc (own := [("row", 5)]) (g := gName 5) (tt := tYes) rfl scRows.nd (pi_list (pv 1)) (blkOk_by (N := ["ways", "rows", "one", "other", "_", "row"]) (sc := defScope s__rows_beside) (by decide +kernel)) (fun _ _ _ _ _ => pg_name (i := 5) scRows.nd rfl (Or.inl rfl)) (fun _ _ _ _ _ => pts_nil)
        (fun _ _ _ _ _ => pe_callB (r := rSortedI K) cr_sortedI (by rfl) T.srt PyProof.Rows.boot_sorted (pa_cons (pv 5) pa_nil)))))), ?_⟩
    have el : (as0.map V.ref).length = ws.length := by rw [List.length_map, hP.1]
    -- rows = [[] for ..]
    refine ⟨_, rfl, l, _, rfl, .inl (SqL.of hl), ((ws.length : Nat) : Int), 1, (by rw [el]), rfl, ((ws.length + 1 : Nat) : Int), rfl, by omega, by omega, fun D nD => ?_⟩
    refine lc_range (lo := 0) (n := (((ws.length + 1 : Nat) : Int)).toNat) (fun j Hc => Same H Hc ∧ ∃ as : List Addr, as.length = j ∧ Hc D = some (.lst (as.map .ref)) ∧ as.Nodup ∧ (∀ a ∈ as, Hc a = some (.lst []) ∧ H a = none ∧ a ≠ D)) ⟨same_new nD, [], rfl, upd_same, List.nodup_nil, fun a h => nomatch h⟩ ?_ ?_
    · rintro j Hc hj ⟨sc, as, la, hD, nd, ha⟩
      have hj2 : j < 61 := by omega
      refine ⟨rfl, (by show 0 ≤ sizeLine; decide), fun a na => ?_⟩
      have aD : a ≠ D := (ne_of_none hD na).symm
      refine ⟨as.map V.ref, by rw [upd_ne aD.symm]; exact hD, by rw [List.length_map]; exact small1000 (by omega), fun b o e => ?_, as ++ [a], by rw [List.length_append, la]; rfl, ?_, ?_, ?_⟩
      · rw [upd_ne (ne_of_none e nD), upd_ne (ne_of_none (sc b o e) na)]
        exact sc b o e
      · rw [upd_same, List.map_append]
        rfl
      · rw [List.nodup_append]
        refine ⟨nd, by simp, fun x hx y hy => ?_⟩
        rw [List.mem_singleton.mp hy]
        exact ne_of_none (ha x hx).1 na
      · intro b hb
        rcases List.mem_append.mp hb with hb | hb
        · obtain ⟨h1, h2, h3⟩ := ha b hb
          refine ⟨?_, h2, h3⟩
          rw [upd_ne h3, upd_ne (ne_of_none h1 na)]
          exact h1
        · rw [List.mem_singleton.mp hb]
          refine ⟨?_, sc.free na, aD⟩
          rw [upd_ne aD, upd_same]
    · rintro H1 ⟨s1, as, la, hD, nd, ha⟩
      have la2 : as.length = ws.length + 1 := by rw [la]; omega
      -- for one, other in ways
      refine ⟨_, rfl, l, rfl, ⟨_, SqL.of (s1 _ _ hl)⟩, for_list (K := K) (a := l) (xs := as0.map V.ref) (fun j σ Hd => ∃ v2 v3 v4 v5, σ = [some (.ref l), some (.ref D), v2, v3, v4, v5] ∧ Same H Hd ∧ Hd D = some (.lst (as.map .ref)) ∧ Lists Hd as ((ws.take j).foldl addWay (List.replicate (ws.length + 1) [])))
        ⟨none, none, none, none, rfl, s1, hD, lists_nil la2 fun a h => (ha a h).1⟩ (fun j σ Hd _ ⟨_, _, _, _, _, sd, _⟩ => SqL.of (sd _ _ hl)) ?_ ?_⟩
      · rintro j y σ Hd hj ⟨v2, v3, v4, v5, rfl, sd, hd, hL⟩
        obtain ⟨t, w0, rfl, hwj, ht⟩ := LP.at hP hj
        obtain ⟨a, b⟩ := w0
        have hab := hw (a, b) (List.mem_of_getElem? hwj)
        simp only at hab
        have hjl := (List.getElem?_eq_some_iff.mp hwj).1
        generalize hacc : (ws.take j).foldl addWay (List.replicate (ws.length + 1) []) = acc at hL
        have lacc : acc.length = ws.length + 1 := by rw [← hacc, foldl_addWay_length, List.length_replicate]
        have lrow : ∀ i, (acc.getD i []).length ≤ 118 := by
          intro i
          have := len_raw (n := 0) (ws.take j) (List.replicate (ws.length + 1) []) (fun i => by rw [getD_replicate]; exact Nat.le_refl _) i
          rw [hacc, List.length_take] at this
          omega
        have nx : (ws.take (j + 1)).foldl addWay (List.replicate (ws.length + 1) []) = put (put acc a b) b a := by
          rw [List.take_add_one, hwj, List.foldl_append, hacc]
          rfl
        obtain ⟨ra, hra⟩ : ∃ ra, as[a]? = some ra := ⟨_, List.getElem?_eq_getElem (by omega)⟩
        obtain ⟨rb, hrb⟩ : ∃ rb, as[b]? = some rb := ⟨_, List.getElem?_eq_getElem (by omega)⟩
        have ma := ha ra (List.mem_of_getElem? hra)
        have mb := ha rb (List.mem_of_getElem? hrb)
        have ia : atI (as.map V.ref) (a : Int) = some (.ref ra) := atI_nat (by rw [List.getElem?_map, hra]; rfl)
        have ib : atI (as.map V.ref) (b : Int) = some (.ref rb) := atI_nat (by rw [List.getElem?_map, hrb]; rfl)
        refine ⟨t, _, rfl, SqT.of (sd _ _ ht), rfl, _, _, rfl, _, _, rfl, rfl, ?_⟩
        have h1 := hL.2 a ra hra
        refine ⟨_, rfl, _, rfl, D, _, _, _, rfl, rfl, SqL.of hd, ia, .inl ⟨rfl, _, SqL.of h1⟩, _, rfl, ra, _, _, rfl, rfl, h1, by rw [List.length_map]; exact small1000 (by have := lrow a; omega), ?_⟩
        have L1 := hL.upd (x := b) nd hra
        have e1 : (acc.getD a []).map vn ++ [vn b] = (acc.getD a [] ++ [b]).map vn := by rw [List.map_append]; rfl
        rw [e1]
        have s2 : Same H (upd Hd ra (.lst ((acc.getD a [] ++ [b]).map vn))) := fun c o e => by
          rw [upd_ne (ne_of_none e ma.2.1)]
          exact sd c o e
        have d2 : upd Hd ra (.lst ((acc.getD a [] ++ [b]).map vn)) D = some (.lst (as.map .ref)) := by
          rw [upd_ne ma.2.2.symm]
          exact hd
        generalize upd Hd ra (.lst ((acc.getD a [] ++ [b]).map vn)) = B2 at L1 s2 d2
        have lrow2 : ((put acc a b).getD b []).length ≤ 119 := len_put lrow b
        have h2 := L1.2 b rb hrb
        refine ⟨_, rfl, _, rfl, D, _, _, _, rfl, rfl, SqL.of d2, ib, .inl ⟨rfl, _, SqL.of h2⟩, _, rfl, rb, _, _, rfl, rfl, h2, by rw [List.length_map]; exact small1000 (by omega), ?_⟩
        have L2 := L1.upd (x := a) nd hrb
        have e2 : ((put acc a b).getD b []).map vn ++ [vn a] = ((put acc a b).getD b [] ++ [a]).map vn := by rw [List.map_append]; rfl
        rw [e2]
        refine ⟨_, _, _, _, rfl, fun c o e => ?_, ?_, ?_⟩
        · rw [upd_ne (ne_of_none e mb.2.1)]
          exact s2 c o e
        · rw [upd_ne mb.2.2.symm]
          exact d2
        · rw [nx]
          exact L2
      · rintro σ Hd ⟨v2, v3, v4, v5, rfl, sd, hd, hL⟩
        rw [el, List.take_length] at hL
        have hL' : Lists Hd as (rawRows ws) := hL
        -- [sorted(row) for row in rows]
        refine ⟨_, rfl, D, rfl, ⟨_, SqL.of hd⟩, fun D2 nD2 => ?_⟩
        refine lc_list (K := K) (a := D) (xs := as.map V.ref) (fun j Hc => Same Hd Hc ∧ ∃ bs : List Addr, bs.length = j ∧ Hc D2 = some (.lst (bs.map .ref)) ∧ (∀ b ∈ bs, H b = none ∧ b ≠ D2) ∧ ∀ i b, bs[i]? = some b → NL Hc b (srt ((rawRows ws).getD i [])))
          ⟨same_new nD2, [], rfl, upd_same, (fun b h => nomatch h), (fun i b h => nomatch h)⟩ (fun j Hc _ ⟨sc, _⟩ => SqL.of (sc _ _ hd)) ?_ ?_
        · rintro j y Hc hj ⟨sc, bs, lb, hD2, fb, hb⟩
          rw [List.getElem?_map] at hj
          obtain ⟨r0, hr0⟩ : ∃ r0, as[j]? = some r0 := by
            cases e : as[j]? with
            | none => rw [e] at hj; cases hj
            | some z => exact ⟨z, rfl⟩
          rw [hr0] at hj
          cases hj
          have hjl := (List.getElem?_eq_some_iff.mp hr0).1
          have hrow := sc _ _ (hL'.2 j r0 hr0)
          refine ⟨rfl, _, rfl, r0, ((rawRows ws).getD j []).map fun (n : Nat) => (n : Int), rfl, SqL.of (by rw [hrow, vn_map]), fun ns' p pm ri np => ?_⟩
          rw [srt_ints pm ri]
          have pD2 : p ≠ D2 := (ne_of_none hD2 np).symm
          refine ⟨bs.map V.ref, by rw [upd_ne pD2.symm]; exact hD2, by rw [List.length_map]; exact small1000 (by omega), fun c o e => ?_, bs ++ [p], by rw [List.length_append, lb]; rfl, ?_, ?_, ?_⟩
          · rw [upd_ne (ne_of_none e nD2), upd_ne (ne_of_none (sc c o e) np)]
            exact sc c o e
          · rw [upd_same, List.map_append]
            rfl
          · intro b hb'
            rcases List.mem_append.mp hb' with hb' | hb'
            · exact fb b hb'
            · rw [List.mem_singleton.mp hb']
              exact ⟨sd.free (sc.free np), pD2⟩
          · intro i b hi
            by_cases hlt : i < bs.length
            · rw [List.getElem?_append_left hlt] at hi
              have k := hb i b hi
              have bD2 := (fb b (List.mem_of_getElem? hi)).2
              unfold NL at k ⊢
              rw [upd_ne bD2, upd_ne (ne_of_none k np)]
              exact k
            · rw [List.getElem?_append_right (by omega)] at hi
              have e0 : i - bs.length = 0 := by
                have := (List.getElem?_eq_some_iff.mp hi).1
                simp only [List.length_cons, List.length_nil] at this
                omega
              rw [e0] at hi
              cases hi
              have ei : i = j := by omega
              subst ei
              unfold NL
              rw [upd_ne pD2, upd_same]
        · rintro H2 ⟨s2, bs, lb, hD2, fb, hb⟩
          have sH : Same H H2 := sd.trans s2
          refine q H2 D2 sH (sd.free nD2) ⟨bs, ?_, ?_, ?_⟩
          · rw [only_new (sd.free nD2)]
            exact hD2
          · rw [lb, List.length_map, la2, rows_length]
          · intro i b hi
            have fr := fb b (List.mem_of_getElem? hi)
            unfold NL
            rw [only_new fr.1]
            show H2 b = some (.lst (((rows ws).getD i []).map vn))
            unfold rows
            rw [getD_map_srt]
            exact hb i b hi
theorem scNear : FnScope ["ways", "found", "one", "other", "k", "rooms"] ["ways"] (defScope s__law_near) := ⟨rfl, rfl, rfl, by decide +kernel, rfl, by decide +kernel, by decide +kernel⟩
theorem ok_Near {f : Addr} {fd : FuncData} (F : Fun K "_law_near" "_law_near" s__law_near f fd) (T : TxW K mg) : FnOk P w K mg base CX0 1 f fd ["ways"] spRows := by
  refine F.ok scNear (fun vs H Q E h => ?_) (fun cdv A outer s H vs Q E hr h => ?_)
  · obtain ⟨l, ws, rfl, _⟩ := h
    rfl
  · obtain ⟨l, ws, rfl, ⟨as0, hl, hP⟩, hlen, hw, q⟩ := h
    refine ⟨_, pss_cons (ps_setLc (i := 1) (own := [("k", 4)]) (g := gName 4) (tt := tYes) rfl scNear.nd rfl rfl (sw_true rfl rfl rfl (by decide +kernel)) (pi_range1 (by rfl) T.rg (pa_cons (pe_op op_add (pe_callB call_len_seq (by rfl) T.len PySem.boot_len (pa_cons (pv 0) pa_nil)) pe_int) pa_nil)) (blkOk_by (N := ["ways", "found", "one", "other", "k", "rooms"]) (sc := defScope s__law_near) (by decide +kernel))
          (fun _ _ _ _ _ => pg_name (i := 4) scNear.nd rfl (Or.inl rfl)) (fun _ _ _ _ _ => pts_nil) (fun _ _ _ _ _ => pe_lst pa_nil))
      (pss_cons (ps_for PassesOwn.never rfl (pi_list (pv 0)) (pg_tup rfl (pgs_cons (pg_name (i := 2) scNear.nd rfl (Or.inl rfl)) (pgs_cons (pg_name (i := 3) scNear.nd rfl (Or.inl rfl)) pgs_nil)))
        (pss_cons (ps_expr (pe_bm PySem.F.plainAttrs_list PySem.F.slot_list_append PySem.F.type_list_append mt_append (pe_ix ix_list (pv 1) (pv 2) (fun _ _ => rfl)) (pa_cons (pv 3) pa_nil)))
        (pss_one (ps_expr (pe_bm PySem.F.plainAttrs_list PySem.F.slot_list_append PySem.F.type_list_append mt_append (pe_ix ix_list (pv 1) (pv 3) (fun _ _ => rfl)) (pa_cons (pv 2) pa_nil))))))
      (pss_one (ps_ret (pe_lc (own := [("rooms", 5)]) (g := gName 5) (tt := tYes) rfl scNear.nd (pi_list (pv 1)) (blkOk_by (N := ["ways", "found", "one", "other", "k", "rooms"]) (sc := defScope s__law_near) (by decide +kernel)) (fun _ _ _ _ _ => pg_name (i := 5) scNear.nd rfl (Or.inl rfl)) (fun _ _ _ _ _ => pts_nil)
        (fun _ _ _ _ _ => pe_callB (r := rSortedI K) cr_sortedI (by rfl) T.srt PyProof.Rows.boot_sorted (pa_cons (pv 5) pa_nil)))))), ?_⟩
    have el : (as0.map V.ref).length = ws.length := by rw [List.length_map, hP.1]
    -- rows = [[] for ..]
    refine ⟨_, rfl, l, _, rfl, .inl (SqL.of hl), ((ws.length : Nat) : Int), 1, (by rw [el]), rfl, ((ws.length + 1 : Nat) : Int), rfl, by omega, by omega, fun D nD => ?_⟩
    refine lc_range (lo := 0) (n := (((ws.length + 1 : Nat) : Int)).toNat) (fun j Hc => Same H Hc ∧ ∃ as : List Addr, as.length = j ∧ Hc D = some (.lst (as.map .ref)) ∧ as.Nodup ∧ (∀ a ∈ as, Hc a = some (.lst []) ∧ H a = none ∧ a ≠ D)) ⟨same_new nD, [], rfl, upd_same, List.nodup_nil, fun a h => nomatch h⟩ ?_ ?_
    · rintro j Hc hj ⟨sc, as, la, hD, nd, ha⟩
      have hj2 : j < 61 := by omega
      refine ⟨rfl, (by show 0 ≤ sizeLine; decide), fun a na => ?_⟩
      have aD : a ≠ D := (ne_of_none hD na).symm
      refine ⟨as.map V.ref, by rw [upd_ne aD.symm]; exact hD, by rw [List.length_map]; exact small1000 (by omega), fun b o e => ?_, as ++ [a], by rw [List.length_append, la]; rfl, ?_, ?_, ?_⟩
      · rw [upd_ne (ne_of_none e nD), upd_ne (ne_of_none (sc b o e) na)]
        exact sc b o e
      · rw [upd_same, List.map_append]
        rfl
      · rw [List.nodup_append]
        refine ⟨nd, by simp, fun x hx y hy => ?_⟩
        rw [List.mem_singleton.mp hy]
        exact ne_of_none (ha x hx).1 na
      · intro b hb
        rcases List.mem_append.mp hb with hb | hb
        · obtain ⟨h1, h2, h3⟩ := ha b hb
          refine ⟨?_, h2, h3⟩
          rw [upd_ne h3, upd_ne (ne_of_none h1 na)]
          exact h1
        · rw [List.mem_singleton.mp hb]
          refine ⟨?_, sc.free na, aD⟩
          rw [upd_ne aD, upd_same]
    · rintro H1 ⟨s1, as, la, hD, nd, ha⟩
      have la2 : as.length = ws.length + 1 := by rw [la]; omega
      -- for one, other in ways
      refine ⟨_, rfl, l, rfl, ⟨_, SqL.of (s1 _ _ hl)⟩, for_list (K := K) (a := l) (xs := as0.map V.ref) (fun j σ Hd => ∃ v2 v3 v4 v5, σ = [some (.ref l), some (.ref D), v2, v3, v4, v5] ∧ Same H Hd ∧ Hd D = some (.lst (as.map .ref)) ∧ Lists Hd as ((ws.take j).foldl addWay (List.replicate (ws.length + 1) [])))
        ⟨none, none, none, none, rfl, s1, hD, lists_nil la2 fun a h => (ha a h).1⟩ (fun j σ Hd _ ⟨_, _, _, _, _, sd, _⟩ => SqL.of (sd _ _ hl)) ?_ ?_⟩
      · rintro j y σ Hd hj ⟨v2, v3, v4, v5, rfl, sd, hd, hL⟩
        obtain ⟨t, w0, rfl, hwj, ht⟩ := LP.at hP hj
        obtain ⟨a, b⟩ := w0
        have hab := hw (a, b) (List.mem_of_getElem? hwj)
        simp only at hab
        have hjl := (List.getElem?_eq_some_iff.mp hwj).1
        generalize hacc : (ws.take j).foldl addWay (List.replicate (ws.length + 1) []) = acc at hL
        have lacc : acc.length = ws.length + 1 := by rw [← hacc, foldl_addWay_length, List.length_replicate]
        have lrow : ∀ i, (acc.getD i []).length ≤ 118 := by
          intro i
          have := len_raw (n := 0) (ws.take j) (List.replicate (ws.length + 1) []) (fun i => by rw [getD_replicate]; exact Nat.le_refl _) i
          rw [hacc, List.length_take] at this
          omega
        have nx : (ws.take (j + 1)).foldl addWay (List.replicate (ws.length + 1) []) = put (put acc a b) b a := by
          rw [List.take_add_one, hwj, List.foldl_append, hacc]
          rfl
        obtain ⟨ra, hra⟩ : ∃ ra, as[a]? = some ra := ⟨_, List.getElem?_eq_getElem (by omega)⟩
        obtain ⟨rb, hrb⟩ : ∃ rb, as[b]? = some rb := ⟨_, List.getElem?_eq_getElem (by omega)⟩
        have ma := ha ra (List.mem_of_getElem? hra)
        have mb := ha rb (List.mem_of_getElem? hrb)
        have ia : atI (as.map V.ref) (a : Int) = some (.ref ra) := atI_nat (by rw [List.getElem?_map, hra]; rfl)
        have ib : atI (as.map V.ref) (b : Int) = some (.ref rb) := atI_nat (by rw [List.getElem?_map, hrb]; rfl)
        refine ⟨t, _, rfl, SqT.of (sd _ _ ht), rfl, _, _, rfl, _, _, rfl, rfl, ?_⟩
        have h1 := hL.2 a ra hra
        refine ⟨_, rfl, _, rfl, D, _, _, _, rfl, rfl, SqL.of hd, ia, .inl ⟨rfl, _, SqL.of h1⟩, _, rfl, ra, _, _, rfl, rfl, h1, by rw [List.length_map]; exact small1000 (by have := lrow a; omega), ?_⟩
        have L1 := hL.upd (x := b) nd hra
        have e1 : (acc.getD a []).map vn ++ [vn b] = (acc.getD a [] ++ [b]).map vn := by rw [List.map_append]; rfl
        rw [e1]
        have s2 : Same H (upd Hd ra (.lst ((acc.getD a [] ++ [b]).map vn))) := fun c o e => by
          rw [upd_ne (ne_of_none e ma.2.1)]
          exact sd c o e
        have d2 : upd Hd ra (.lst ((acc.getD a [] ++ [b]).map vn)) D = some (.lst (as.map .ref)) := by
          rw [upd_ne ma.2.2.symm]
          exact hd
        generalize upd Hd ra (.lst ((acc.getD a [] ++ [b]).map vn)) = B2 at L1 s2 d2
        have lrow2 : ((put acc a b).getD b []).length ≤ 119 := len_put lrow b
        have h2 := L1.2 b rb hrb
        refine ⟨_, rfl, _, rfl, D, _, _, _, rfl, rfl, SqL.of d2, ib, .inl ⟨rfl, _, SqL.of h2⟩, _, rfl, rb, _, _, rfl, rfl, h2, by rw [List.length_map]; exact small1000 (by omega), ?_⟩
        have L2 := L1.upd (x := a) nd hrb
        have e2 : ((put acc a b).getD b []).map vn ++ [vn a] = ((put acc a b).getD b [] ++ [a]).map vn := by rw [List.map_append]; rfl
        rw [e2]
        refine ⟨_, _, _, _, rfl, fun c o e => ?_, ?_, ?_⟩
        · rw [upd_ne (ne_of_none e mb.2.1)]
          exact s2 c o e
        · rw [upd_ne mb.2.2.symm]
          exact d2
        · rw [nx]
          exact L2
      · rintro σ Hd ⟨v2, v3, v4, v5, rfl, sd, hd, hL⟩
        rw [el, List.take_length] at hL
        have hL' : Lists Hd as (rawRows ws) := hL
        -- [sorted(row) for row in rows]
        refine ⟨_, rfl, D, rfl, ⟨_, SqL.of hd⟩, fun D2 nD2 => ?_⟩
        refine lc_list (K := K) (a := D) (xs := as.map V.ref) (fun j Hc => Same Hd Hc ∧ ∃ bs : List Addr, bs.length = j ∧ Hc D2 = some (.lst (bs.map .ref)) ∧ (∀ b ∈ bs, H b = none ∧ b ≠ D2) ∧ ∀ i b, bs[i]? = some b → NL Hc b (srt ((rawRows ws).getD i [])))
          ⟨same_new nD2, [], rfl, upd_same, (fun b h => nomatch h), (fun i b h => nomatch h)⟩ (fun j Hc _ ⟨sc, _⟩ => SqL.of (sc _ _ hd)) ?_ ?_
        · rintro j y Hc hj ⟨sc, bs, lb, hD2, fb, hb⟩
          rw [List.getElem?_map] at hj
          obtain ⟨r0, hr0⟩ : ∃ r0, as[j]? = some r0 := by
            cases e : as[j]? with
            | none => rw [e] at hj; cases hj
            | some z => exact ⟨z, rfl⟩
          rw [hr0] at hj
          cases hj
          have hjl := (List.getElem?_eq_some_iff.mp hr0).1
          have hrow := sc _ _ (hL'.2 j r0 hr0)
          refine ⟨rfl, _, rfl, r0, ((rawRows ws).getD j []).map fun (n : Nat) => (n : Int), rfl, SqL.of (by rw [hrow, vn_map]), fun ns' p pm ri np => ?_⟩
          rw [srt_ints pm ri]
          have pD2 : p ≠ D2 := (ne_of_none hD2 np).symm
          refine ⟨bs.map V.ref, by rw [upd_ne pD2.symm]; exact hD2, by rw [List.length_map]; exact small1000 (by omega), fun c o e => ?_, bs ++ [p], by rw [List.length_append, lb]; rfl, ?_, ?_, ?_⟩
          · rw [upd_ne (ne_of_none e nD2), upd_ne (ne_of_none (sc c o e) np)]
            exact sc c o e
          · rw [upd_same, List.map_append]
            rfl
          · intro b hb'
            rcases List.mem_append.mp hb' with hb' | hb'
            · exact fb b hb'
            · rw [List.mem_singleton.mp hb']
              exact ⟨sd.free (sc.free np), pD2⟩
          · intro i b hi
            by_cases hlt : i < bs.length
            · rw [List.getElem?_append_left hlt] at hi
              have k := hb i b hi
              have bD2 := (fb b (List.mem_of_getElem? hi)).2
              unfold NL at k ⊢
              rw [upd_ne bD2, upd_ne (ne_of_none k np)]
              exact k
            · rw [List.getElem?_append_right (by omega)] at hi
              have e0 : i - bs.length = 0 := by
                have := (List.getElem?_eq_some_iff.mp hi).1
                simp only [List.length_cons, List.length_nil] at this
                omega
              rw [e0] at hi
              cases hi
              have ei : i = j := by omega
              subst ei
              unfold NL
              rw [upd_ne pD2, upd_same]
        · rintro H2 ⟨s2, bs, lb, hD2, fb, hb⟩
          have sH : Same H H2 := sd.trans s2
          refine q H2 D2 sH (sd.free nD2) ⟨bs, ?_, ?_, ?_⟩
          · rw [only_new (sd.free nD2)]
            exact hD2
          · rw [lb, List.length_map, la2, rows_length]
          · intro i b hi
            have fr := fb b (List.mem_of_getElem? hi)
            unfold NL
            rw [only_new fr.1]
            show H2 b = some (.lst (((rows ws).getD i []).map vn))
            unfold rows
            rw [getD_map_srt]
            exact hb i b hi
end
end G

namespace G
open PySem L2 GM
theorem only_sub {H H3 H4 H5 : Hp} {p C dx : Addr} {fs fs' : List (Str × V)} (k : ∀ b o, H b = some o → b ≠ p → H3 b = some o) (h0 : H p = some (.ins C dx fs)) (h3 : H3 p = some (.ins C dx fs')) (s : Same H3 H4) (e5 : ∀ b, b ≠ p → H5 b = H4 b) :
    Same (only H3 H4) (only H H5) := fun b o h => by
  unfold only at h
  split at h
  · rename_i hn
    have np : b ≠ p := (ne_of_none h3 hn).symm
    have hb : H b = none := by
      cases e : H b with
      | none => rfl
      | some o' =>
        have := k b o' e np
        rw [hn] at this
        cases this
    rw [only_new hb, e5 b np]
    exact h
  · rename_i xs hx
    have np : b ≠ p := fun z => by
      rw [z, h3] at hx
      cases hx
    rw [← h]
    cases e : H b with
    | none =>
      rw [only_new e, e5 b np]
      exact s _ _ hx
    | some o' =>
      have := k b o' e np
      rw [hx] at this
      cases this
      exact only_tup e
  · cases h
def spInit (C : Addr) : Sp := fun vs H Q _ => ∃ (p l dx : Addr) (ws : List Way), vs = [.ref p, .ref l] ∧ H p = some (.ins C dx []) ∧ LP H l ws ∧ ws.length ≤ 59 ∧ okWays (ws.length + 1) ws (List.range (ws.length + 1)) ∧
  ∀ H' lw lr, (∀ b o, H b = some o → b ≠ p → H' b = some o) → H' p = some (.ins C dx (flds lw lr)) → LP (only H H') lw ws → LL (only H H') lr (rows ws) → Q .non H'
/-- a new tree -/
theorem tree_made {C x dx : Addr} {H0 H' : Hp} {ws : List Way} {lw lr : Addr} (nx : H0 x = none) (nd : H0 dx = none) (ne : dx ≠ x) (k : ∀ b o, upd (upd H0 dx (.own x)) x (.ins C dx []) b = some o → b ≠ x → H' b = some o) (hx : H' x = some (.ins C dx (flds lw lr)))
    (h1 : LP (only (upd (upd H0 dx (.own x)) x (.ins C dx [])) H') lw ws) (h2 : LL (only (upd (upd H0 dx (.own x)) x (.ins C dx [])) H') lr (rows ws)) : Same H0 H' ∧ TreeAt C (only H0 H') x ws := by
  have s : Same H0 H' := fun b o e => k b o (by rw [upd_ne (ne_of_none e nx), upd_ne (ne_of_none e nd)]; exact e) (ne_of_none e nx)
  have so : Same (only (upd (upd H0 dx (.own x)) x (.ins C dx [])) H') (only H0 H') := fun b o h => by
    unfold only at h
    split at h
    · rename_i hn
      have bx : b ≠ x := fun z => by rw [z, upd_same] at hn; cases hn
      rw [upd_ne bx] at hn
      have bd : b ≠ dx := fun z => by rw [z, upd_same] at hn; cases hn
      rw [upd_ne bd] at hn
      rw [only_new hn]
      exact h
    · rename_i xs hn
      have bx : b ≠ x := fun z => by rw [z, upd_same] at hn; cases hn
      rw [upd_ne bx] at hn
      have bd : b ≠ dx := fun z => by rw [z, upd_same] at hn; cases hn
      rw [upd_ne bd] at hn
      rw [only_tup hn]
      exact h
    · cases h
  exact ⟨s, dx, lw, lr, by rw [only_new nx]; exact hx, h1.same so, h2.same so⟩
structure CalI (P : Program) (w : World) (K : PySem.W.Frag) (mg : Str → Option Value) (base : Heap) (fK fB : Addr) (dK dB : FuncData) : Prop where
  oK : FnOk P w K mg base CX0 3 fK dK ["ways"] spChkW
  bK : Binds K dK ["ways"] []
  gK : mg "_check_ways" = some (.ref fK)
  kK : PySem.W.keepIn K (.ref fK) = true
  oB : FnOk P w K mg base CX0 1 fB dB ["ways"] spRows
  bB : Binds K dB ["ways"] []
  gB : mg "_rows_beside" = some (.ref fB)
  kB : PySem.W.keepIn K (.ref fB) = true
section
variable {P : Program} {w : World} {K : PySem.W.Frag} {mg : Str → Option Value} {base : Heap} {C fK fB : Addr} {dK dB : FuncData}
theorem scIni : FnScope ["self", "ways"] ["self", "ways"] (defScope s_Tree___init__) := ⟨rfl, rfl, rfl, by decide +kernel, rfl, by decide +kernel, by decide +kernel⟩
theorem ok_ini {f : Addr} {fd : FuncData} (F : Fun K "__init__" "Tree.__init__" s_Tree___init__ f fd) (T : TxT K mg C) (L : CalI P w K mg base fK fB dK dB) : FnOk P w K mg base CX0 4 f fd ["self", "ways"] (spInit C) := by
  refine F.ok scIni (fun vs H Q E h => ?_) (fun cdv A outer s H vs Q E hr h => ?_)
  · obtain ⟨p, l, dx, ws, rfl, _⟩ := h
    rfl
  · obtain ⟨p, l, dx, ws, rfl, hp, hl, hlen, hok, q⟩ := h
    have hr1 : Room 1 _ := hr.mono (by decide)
    refine ⟨_, pss_cons (ps_expr (pe_call L.oK hr rfl L.gK L.kK L.bK .nil pass0 (pa_cons (pv 1) pa_nil)))
      (pss_cons (ps_fld (pv 0) (pe_callTy call_list_of (by rfl) T.list PyProof.Rows.boot_list (pa_cons (pv 1) pa_nil)) rfl)
      (pss_one (ps_fld (pv 0) (pe_call L.oB hr1 rfl L.gB L.kB L.bB .nil pass0 (pa_cons (pv 1) pa_nil)) rfl))), ?_⟩
    obtain ⟨as, hl1, hP⟩ := id hl
    refine ⟨_, rfl, l, ws, rfl, hl, hlen, hok, fun H1 s1 => ?_⟩
    have hl2 := s1 _ _ hl1
    refine ⟨_, rfl, l, _, rfl, .inl (SqL.of hl2), fun lw nw => ?_⟩
    have pw : p ≠ lw := ne_of_none (s1 _ _ hp) nw
    have e2 : upd H1 lw (HO.lst (as.map V.ref)) p = some (.ins C dx []) := by rw [upd_ne pw]; exact s1 _ _ hp
    refine ⟨_, rfl, p, C, dx, _, rfl, e2, T.cl, T.nW, (by show 0 < 1000; decide), ?_⟩
    generalize hH3 : upd (upd H1 lw (HO.lst (as.map V.ref))) p _ = H3
    have h3p : H3 p = some (.ins C dx (putF "_ways" (.ref lw) [])) := hH3 ▸ upd_same
    have k3 : ∀ b o, H b = some o → b ≠ p → H3 b = some o := fun b o e n => by
      have e1 := s1 _ _ e
      rw [← hH3, upd_ne n, upd_ne (ne_of_none e1 nw)]
      exact e1
    have n3 : l ≠ p := fun z => by rw [z, hp] at hl1; cases hl1
    have hw3 : H3 lw = some (.lst (as.map V.ref)) := by rw [← hH3, upd_ne pw.symm, upd_same]
    have hl3 : LP H3 l ws := ⟨as, k3 _ _ hl1 n3, hP.1, fun i a ha => k3 _ _ (hP.2 i a ha) fun z => by have := hP.2 i a ha; unfold NT at this; rw [z, hp] at this; cases this⟩
    refine ⟨_, rfl, l, ws, rfl, hl3, hlen, fun w hw => okWays_lt hok w hw, fun H4 lr s4 nr hrows => ?_⟩
    refine ⟨_, rfl, p, C, dx, _, rfl, s4 _ _ h3p, T.cl, T.nR, (by show 1 < 1000; decide), ?_⟩
    generalize hH5 : upd H4 p _ = H5
    have h5p : H5 p = some (.ins C dx (flds lw lr)) := hH5 ▸ upd_same
    have e5 : ∀ b, b ≠ p → H5 b = H4 b := fun b n => by rw [← hH5, upd_ne n]
    have so := only_sub k3 hp h3p s4 e5
    have hlw : H lw = none := by
      cases e : H lw with
      | none => rfl
      | some o =>
        have := s1 _ _ e
        rw [nw] at this
        cases this
    refine q H5 lw lr (fun b o e n => by rw [e5 b n]; exact s4 _ _ (k3 b o e n)) h5p ⟨as, ?_, hP.1, fun i a ha => ?_⟩ (hrows.same so)
    · rw [only_new hlw, e5 _ pw.symm]
      exact s4 _ _ hw3
    · exact only_tup (hP.2 i a ha)
end
end G

namespace G
open PySem L2 GM
/-! ### flat data -/
def dN (l : List Nat) : List PyData := l.map fun (n : Nat) => PyData.int (n : Int)
theorem dp_all {K : PySem.W.Frag} {H : Hp} : ∀ (l : List Nat), DpAll K H (l.map vn) (dN l)
  | [] => .nil
  | n :: l => .cons (.int (n : Int)) (dp_all l)
theorem dp_nl {K : PySem.W.Frag} {H : Hp} {p : Addr} {l : List Nat} (h : NL H p l) : Dp K H (.ref p) (.list (dN l)) := .lst (SqL.of h) (dp_all l)
theorem dp_nt {K : PySem.W.Frag} {H : Hp} {p : Addr} {l : List Nat} (h : NT H p l) : Dp K H (.ref p) (.tuple (dN l)) := .tup (SqT.of h) (dp_all l)
def Flat (n : Nat) (d : PyData) : Prop := d.canLay0 = true ∧ d.depth ≤ n
theorem flat_all {n : Nat} : ∀ {ds : List PyData}, (∀ d ∈ ds, Flat n d) → PyData.canLayAll0 ds = true ∧ PyData.depthAll ds ≤ n
  | [], _ => ⟨rfl, Nat.zero_le _⟩
  | d :: ds, h => by
    obtain ⟨h1, h2⟩ := flat_all (ds := ds) fun e he => h e (List.mem_cons_of_mem _ he)
    obtain ⟨g1, g2⟩ := h d List.mem_cons_self
    refine ⟨?_, ?_⟩
    · show (PyData.canLay0 d && PyData.canLayAll0 ds) = true
      rw [g1, h1]
      rfl
    · show max (PyData.depth d) (PyData.depthAll ds) ≤ n
      omega
theorem flat_list {n : Nat} {ds : List PyData} (h : ∀ d ∈ ds, Flat n d) : Flat (n + 1) (.list ds) := ⟨(flat_all h).1, Nat.succ_le_succ (flat_all h).2⟩
theorem flat_tup {n : Nat} {ds : List PyData} (h : ∀ d ∈ ds, Flat n d) : Flat (n + 1) (.tuple ds) := ⟨(flat_all h).1, Nat.succ_le_succ (flat_all h).2⟩
theorem flat_int {i : Int} : Flat 0 (.int i) := ⟨rfl, Nat.le_refl _⟩
theorem flat_dN {l : List Nat} : ∀ d ∈ dN l, Flat 0 d := fun d h => by
  obtain ⟨n, _, rfl⟩ := List.mem_map.mp h
  exact flat_int
theorem Flat.shaped {n : Nat} {d : PyData} (h : Flat n d) (hn : n ≤ 64 := by decide) : SeqAt.shaped d = true := by
  unfold SeqAt.shaped
  rw [h.1, decide_eq_true (Nat.le_trans h.2 hn)]
  rfl
theorem eqv_dN : ∀ (l m : List Nat), PyData.eqvAll (dN l) (dN m) = decide (l = m)
  | [], [] => rfl
  | [], _ :: _ => (decide_eq_false (by simp)).symm
  | _ :: _, [] => (decide_eq_false (by simp)).symm
  | a :: l, b :: m => by
    show (((a : Int) == (b : Int)) && PyData.eqvAll (dN l) (dN m)) = _
    rw [eqv_dN l m]
    by_cases h : a = b
    · subst h
      rw [beq_self_eq_true, Bool.true_and]
      exact decide_eq_decide.mpr ⟨fun h => by rw [h], fun h => by cases h; rfl⟩
    · rw [show ((a : Int) == (b : Int)) = false from by simp; omega, Bool.false_and]
      exact (decide_eq_false fun e => h (by cases e; rfl)).symm
theorem not_dec {p : Prop} [Decidable p] : (!decide p) = decide (¬ p) := by
  by_cases h : p
  · simp [h]
  · simp [h]
section
variable {K : PySem.W.Frag} {H : Hp} {p q : Addr} {l m : List Nat} {Q : VK}
theorem ne_nl (hp : NL H p l) (hq : NL H q m) (h : Q (.bl (decide (l ≠ m))) H) : rNeD K (.ref p) (.ref q) H Q := by
  refine ⟨_, _, dp_nl hp, dp_nl hq, (flat_list flat_dN).shaped, (flat_list flat_dN).shaped, ?_⟩
  show Q (.bl (!PyData.eqvAll (dN l) (dN m))) H
  rw [eqv_dN, not_dec]
  exact h
theorem eq_nl (hp : NL H p l) (hq : NL H q m) (h : Q (.bl (decide (l = m))) H) : rEqD K (.ref p) (.ref q) H Q := by
  refine ⟨_, _, dp_nl hp, dp_nl hq, (flat_list flat_dN).shaped, (flat_list flat_dN).shaped, ?_⟩
  show Q (.bl (PyData.eqvAll (dN l) (dN m))) H
  rw [eqv_dN]
  exact h
theorem ne_nt (hp : NT H p l) (hq : NT H q m) (h : Q (.bl (decide (l ≠ m))) H) : rNeD K (.ref p) (.ref q) H Q := by
  refine ⟨_, _, dp_nt hp, dp_nt hq, (flat_tup flat_dN).shaped, (flat_tup flat_dN).shaped, ?_⟩
  show Q (.bl (!PyData.eqvAll (dN l) (dN m))) H
  rw [eqv_dN, not_dec]
  exact h
theorem eq_nt (hp : NT H p l) (hq : NT H q m) (h : Q (.bl (decide (l = m))) H) : rEqD K (.ref p) (.ref q) H Q := by
  refine ⟨_, _, dp_nt hp, dp_nt hq, (flat_tup flat_dN).shaped, (flat_tup flat_dN).shaped, ?_⟩
  show Q (.bl (PyData.eqvAll (dN l) (dN m))) H
  rw [eqv_dN]
  exact h
end
theorem perm_eraseIdx {α : Type} : ∀ {l : List α} {k : Nat} {x : α}, l[k]? = some x → (x :: l.eraseIdx k).Perm l
  | [], k, x, h => by simp at h
  | a :: l, 0, x, h => by
    cases h
    exact List.Perm.refl _
  | a :: l, k + 1, x, h => by
    have ih := perm_eraseIdx (l := l) (k := k) (x := x) h
    exact (List.Perm.swap a x (l.eraseIdx k)).trans (ih.cons a)
theorem map_eraseIdx {α β : Type} (f : α → β) : ∀ (l : List α) (k : Nat), (l.map f).eraseIdx k = (l.eraseIdx k).map f
  | [], k => by simp
  | a :: l, 0 => rfl
  | a :: l, k + 1 => by
    show f a :: (l.map f).eraseIdx k = f a :: (l.eraseIdx k).map f
    rw [map_eraseIdx f l k]
/-- a sorted pair -/
theorem srt_pair {x y : Nat} (h : x ≠ y) : ∃ w : Way, srt [x, y] = [w.1, w.2] ∧ ((w = (x, y) ∧ x < y) ∨ (w = (y, x) ∧ y < x)) := by
  by_cases c : x < y
  · refine ⟨(x, y), (srt_eq (List.Perm.refl _) ?_).symm, .inl ⟨rfl, c⟩⟩
    simp
    omega
  · refine ⟨(y, x), (srt_eq (List.Perm.swap _ _ _) ?_).symm, .inr ⟨rfl, by omega⟩⟩
    simp
    omega
end G

/-! enumerate of a tuple. -/
namespace PySem
open PySem.W PyProof.Rows
theorem meets_enum1 {v : Value} {o : Obj} {H : Heap → Prop} (B : Begins v o H) :
    Meets (Builtin.«enumerate.__new__» ⟨[.type "enumerate", v], []⟩) (fun _ R s => H s.heap ∧
      R (.ok (.ret (.ref (s.heap.push o).objs.size))) { s with heap := (s.heap.push o).push { cls := .type "enumerate", data := .fields #[.none, .bool false, .ref s.heap.objs.size, rawInt 0, .none, .none] } }) :=
  .of_wp fun prog w A R s h => by
    obtain ⟨hp, g, d, tk, os⟩ := s; obtain ⟨h1, h⟩ := h
    have hsub := sub_enumerate
    have q1 : ∀ {A' : Around} {E : Value → Shared → Prop} {Q : Value → Shared → Prop}, Q (.ref hp.objs.size) ⟨hp.push o, g, d, tk, os⟩ → wpAny (model prog w) A' (pyIter v) Q E ⟨hp, g, d, tk, os⟩ :=
      fun q => B.iter prog w _ _ ⟨hp, g, d, tk, os⟩ _ h1 q
    wp_walk using q1
    refine wpAny_stack_any fun st => wpAny_pure ?_
    split
    · rename_i c _ _ _ _ _
      cases (c == Value.type "enumerate")
      · wp_walk using q1
        exact ⟨_, rfl, h⟩
      · wp_walk using q1
        exact ⟨_, rfl, h⟩
    · wp_walk using q1
      exact ⟨_, rfl, h⟩
theorem enum_begin1 {prog : Program} {w : World} {A : Around} {E : Value → Shared → Prop} {s : Shared} {v : Value} {o : Obj} {H : Heap → Prop} {Q : Value → Shared → Prop} (B : Begins v o H) (h1 : H s.heap)
    (h : ∀ h', IsEnum h' (s.heap.objs.size + 1) s.heap.objs.size 0 .none → h'.get? s.heap.objs.size = some o → h'.objs.size = s.heap.objs.size + 2 →
      (∀ b o, s.heap.get? b = some o → h'.get? b = some o) → Q (.ref (s.heap.objs.size + 1)) { s with heap := h' }) :
    wpAny (model prog w) A (call (.type "enumerate") [v]) Q E s := by
  refine callType_new F.called_enumerate (by decide) (F.typeCall_enumerate_1 _) (F.newCall_enumerate_1 _) (fun obj => F.args_object_init_2 obj _) F.entry_enumerate_new
    (meets_enum1 B) ⟨h1, ?_⟩
  have hz : (s.heap.push o).objs.size = s.heap.objs.size + 1 := Heap.size_push ..
  show _ ∧ _
  rw [hz]
  have he : IsEnum ((s.heap.push o).push { cls := .type "enumerate", data := .fields #[.none, .bool false, .ref s.heap.objs.size, rawInt 0, .none, .none] }) (s.heap.objs.size + 1) s.heap.objs.size 0 .none := by
    have := Heap.get?_push_size (s.heap.push o) (o := { cls := .type "enumerate", data := .fields #[.none, .bool false, .ref s.heap.objs.size, rawInt 0, .none, .none] }) rfl
    rw [hz] at this; exact this
  refine ⟨⟨_, he, rfl⟩, h _ he (Heap.get?_push_of_some _ (Heap.get?_push_size _ B.free)) (by rw [Heap.size_push, hz]) fun b o x => Heap.get?_push_of_some _ (Heap.get?_push_of_some _ x)⟩
end PySem
namespace L2
open PySem PySem.Spec PyProof.Rows
/-- the tuple at a as it stands at each turn, each item in a new pair -/
def IteT (K : PySem.W.Frag) (a : Addr) : It :=
  ⟨fun i H => ∃ (xs : List V) (x : V), SqT K H a xs ∧ xs[i]? = some x, fun i H v H' => ∃ T x, v = .ref T ∧ H T = none ∧ H' = upd H T (.tup [.int (i : Nat), x]) ∧ ∀ xs, SqT K H a xs → xs[i]? = some x, fun i H => ∃ xs : List V, SqT K H a xs ∧ xs.length ≤ i⟩
theorem turn_enumT {P : Program} {w : World} {K : PySem.W.Frag} {elts : List Expr} {kk : Nat} {tpos : Pos} (a e it : Addr) :
    Turn P w K (.Tuple elts kk tpos) (IteT K a) [e, it] e (fun i h => (∃ old, IsEnum h e it ((i : Nat) : Int) old) ∧ h.IsTupleIter it a i ∧ e ≠ it ∧ a ≠ it ∧ e ≠ a) where
  mem := by simp
  obj := fun i h st b hb => by
    obtain ⟨⟨old, he⟩, ⟨o, ho, hc, hd⟩, _⟩ := st
    have e' : b = e ∨ b = it := by simpa using hb
    rcases e' with z | z
    · rw [z]; exact ⟨_, he, fun v q => nomatch q⟩
    · rw [z]; exact ⟨o, ho, fun v q => by rw [hd] at q; cases q⟩
  keep := fun i h h' st k => let ⟨⟨old, he⟩, hi, hne⟩ := st; ⟨⟨old, k e (by simp) _ he⟩, hi.at fun o q => k it (by simp) o q, hne⟩
  item := by
    intro X hP hw hK hc i pins s σ H E I hf st hg
    subst hP hw hK
    obtain ⟨⟨old, he⟩, hit, hne, hna, hea⟩ := st
    obtain ⟨xs, x, hq, hx⟩ := hg
    obtain ⟨its, rv, p, hz⟩ := I.tuple hq
    obtain ⟨u, hu, ru⟩ := rv.get hx
    have hel : e < s.heap.objs.size := Heap.lt_size he
    have hil : it < s.heap.objs.size := by obtain ⟨_, q, _⟩ := hit; exact Heap.lt_size q
    have hli : i < its.toArray.size := by
      rw [List.size_toArray]
      exact (List.getElem?_eq_some_iff.mp hu).1
    refine wpAny_pyNext_enum_itemD (Draws.tuple (A := X.A.in1) (show X.A.in1.handled = none from I.ok.hd hc) it a hna its.toArray) he ⟨hit, p⟩ hli hne (by simp [hne, hea]) fun y h' tk hy ho hst' hT hsz hk => ?_
    have ey : y = u := by
      have hy' : its[i]? = some y := by simpa using hy
      rw [hu] at hy'
      exact (Option.some.inj hy').symm
    subst ey
    refine ⟨_, rfl, wpAny_letOwnedTupleGo_enum (s := { s with heap := h', toks := tk + 1 }) ho fun h'' he' sb => ?_⟩
    have hT2 : h''.get? s.heap.objs.size = some { cls := .type "tuple", data := .seq #[.int i tk, y] } := (sb.2 _ (Nat.ne_of_gt hel)).trans hT
    have new : ObjOk X.prog X.w (upd H s.heap.objs.size (.tup [.int (i : Nat), x])) h'' s.heap.objs.size (.tup [.int (i : Nat), x]) :=
      ⟨by show 2 ≤ sizeLine; decide, [.int i tk, y], .cons ⟨_, rfl⟩ (.cons ru .nil), ⟨_, hT2, rfl, _, rfl⟩⟩
    have I1 : Inv X pins σ (upd H s.heap.objs.size (.tup [.int (i : Nat), x])) { s with heap := h'', toks := tk + 1 } :=
      I.turnedNew (ch := [e, it]) (fun b ob hb q => (sb.2 b (fun z => hb (by simp [z]))).trans (hk b ob (fun z => hb (by simp [z])) (fun z => hb (by simp [z])) q)) hf (Nat.le_refl _) new
    refine ⟨.ref s.heap.objs.size, _, I1, rfl, ⟨_, x, rfl, I.hok.fresh (Nat.le_refl _), rfl, fun ys hy => by rw [I.tuple_inj hy hq]; exact hx⟩, ⟨⟨y, ?_⟩, hst'.1.at fun o q => (sb.2 it (Ne.symm hne)).trans q, hne, hna, hea⟩, fun b hb => ?_⟩
    · have e1 : ((i + 1 : Nat) : Int) = (i : Int) + 1 := by omega
      rw [e1]; exact he'
    · have hb' : b < s.heap.objs.size := by
        have e' : b = e ∨ b = it := by simpa using hb
        rcases e' with z | z
        · rw [z]; exact hel
        · rw [z]; exact hil
      rw [upd_ne (Nat.ne_of_lt hb')]
      exact (hf b hb).1
  done := by
    intro X hP hw hK hc i pins s σ H E I hf st hg
    subst hP hw hK
    obtain ⟨⟨old, he⟩, hit, hne, hna, hea⟩ := st
    obtain ⟨xs, hq, hx⟩ := hg
    obtain ⟨its, rv, p, hz⟩ := I.tuple hq
    obtain ⟨f0, f1, f2, f3, f4, f5⟩ := hf it (by simp)
    have hl := rv.length
    refine enumT_end (I.ok.hd hc) he hit p (by simp; omega) fun h' eb => ⟨rfl, I.turned (t' := s.toks) (fun b o hb q => eb b o hb q) f0 f1 f3 f4 f5⟩
  self := fun A i s Q E st h => let ⟨⟨_, he⟩, _⟩ := st; wpAny_pyIter_enum he h
where
  enumT_end {prog : Program} {w : World} {A : Around} {E : Value → Shared → Prop} {s : Shared} {e it l : Addr} {i : Nat} {items : Array Value} {old : Value} {Q : Option Value → Shared → Prop} (hh : A.handled = none)
      (he : IsEnum s.heap e it i old) (hit : s.heap.IsTupleIter it l i) (hl : s.heap.IsTuple l items) (hx : items[i]? = none)
      (hQ : ∀ h', Heap.ExtBut it s.heap h' → Q none { s with heap := h' }) : wpAny (model prog w) A (pyNext (.ref e)) Q E s := by
    have hT : s.TypeIs (.ref e) "enumerate" := ⟨_, he, rfl⟩
    unfold pyNext
    refine wpAny_bind (wpAny_attempt (wpAny_callSpecial?_slot (name := Str.ofString "__next__") hT F.slot_enumerate_next
      (wpAny_call_entry F.slot_enumerate_next hT F.entry_enumerate_next ?_ (F.args_enumerate_next_1 _))))
    show wpAny _ _ (field (.ref e) 2 >>= _) _ _ _
    refine wpAny_bind (wpAny_field he rfl (x := .ref it) rfl ?_)
    refine wpAny_bind (wpAny_nextOf_tuple_end hh hit hl hx fun h' x he' hx' => ?_)
    obtain ⟨o, ho, hc⟩ := hx'
    refine wpAny_bind (wpAny_isInstance (T := "StopIteration") (b := true) ⟨o, ho, hc⟩ isSubtype_stop ?_)
    exact wpAny_pure (hQ _ he')
def iEnumT (K : PySem.W.Frag) (ta : TA) : TI := fun σ H R => ta σ H fun vs H1 => ∃ a xs, vs = [.ref a] ∧ SqT K H1 a xs ∧ R (IteT K a) H1
theorem pi_enumT {X : Cx} {e : Expr} {ta : TA} {p pos tpos : Pos} {elts : List Expr} {kk : Nat} (hg : Gl X "enumerate") (hm : X.mg "enumerate" = none) (ha : PA X [e] ta) (hs : starEach [e] X.env = [(false, eval e X.env)] := by rfl) :
    PI X (.Tuple elts kk tpos) (.Call (.Name "enumerate" p) [e] [] pos) (iEnumT X.K ta) := by
  refine ⟨fun pins s σ H R I h => ?_⟩
  refine Call_ (ld_blt I hg hm boot_enumerate (PyProof.Rows.callWith_type1 (thn (ha.run pos pins s σ H _ I h) fun us s1 ⟨vs, H1, I1, r1, q1⟩ => ?_) hs rfl))
  obtain ⟨a, xs, ex, hq, q⟩ := q1
  subst ex
  cases r1 with
  | cons r rr =>
    cases rr
    cases r
    obtain ⟨its, rv, p', hz⟩ := I1.tuple hq
    have hal : a < s1.heap.objs.size := by obtain ⟨_, z, _⟩ := p'; exact Heap.lt_size z
    refine PySem.enum_begin1 (begins_tuple a its.toArray) p' fun h' he hit hsz hk => wpAny_pyIter_enum he ?_
    have I2 : Inv X pins σ H1 { s1 with heap := h' } := I1.kept (t' := s1.toks) hk
    refine ⟨s1.heap.objs.size + 1, [s1.heap.objs.size + 1, s1.heap.objs.size], _, _, H1, rfl, I2, turn_enumT a (s1.heap.objs.size + 1) s1.heap.objs.size, ⟨⟨.none, he⟩, ⟨_, hit, rfl, rfl⟩, Nat.succ_ne_self _, Nat.ne_of_lt hal, Nat.ne_of_gt (Nat.lt_succ_of_lt hal)⟩, fun b hb => ?_, q⟩
    have e' : b = s1.heap.objs.size + 1 ∨ b = s1.heap.objs.size := by simpa using hb
    have hle : s1.heap.objs.size ≤ b := by
      rcases e' with z | z
      · rw [z]; exact Nat.le_add_right _ _
      · rw [z]; exact Nat.le_refl _
    exact I1.fpOk hle (I1.hok.fresh hle)
theorem walk_enumT {K : PySem.W.Frag} {a : Addr} {xs : List V} : Walk (IteT K a) xs.length (fun H => SqT K H a xs) (YPair (fun i => some (.int (i : Nat))) (fun i => xs[i]?)) := by
  refine ⟨fun i _ hi q => ⟨xs, xs[i], q, by simp [hi]⟩, fun _ q => ⟨xs, q, Nat.le_refl _⟩, fun i H v H' _ q y => ?_⟩
  obtain ⟨T, x, h1, h2, h3, h4⟩ := y
  exact ⟨T, .int (i : Nat), x, h1, h2, h3, rfl, h4 xs q⟩
end L2

/-! Dicts keyed by rooms. -/
namespace G
open PySem L2 GM
def dk (kvs : List (Nat × V)) : List (Key × V) := kvs.map fun q => ((Sum.inl (q.1 : Int) : Key), q.2)
def look (kvs : List (Nat × V)) (n : Nat) : Option V := (kvs.find? fun q => decide (q.1 = n)).map (·.2)
theorem key_eq {a b : Nat} : ((Sum.inl (a : Int) : Key) = Sum.inl (b : Int)) ↔ a = b := ⟨fun h => Int.ofNat.inj (Sum.inl.inj h), fun h => by rw [h]⟩
theorem valV_dk (kvs : List (Nat × V)) (n : Nat) : valV (dk kvs) (Sum.inl (n : Int)) = look kvs n := by
  induction kvs with
  | nil => rfl
  | cons q r ih =>
    by_cases e : q.1 = n
    · rw [show valV (dk (q :: r)) (Sum.inl (n : Int)) = some q.2 from valV_pos (p := ((Sum.inl (q.1 : Int) : Key), q.2)) (r := dk r) (key_eq.mpr e)]
      unfold look
      rw [List.find?_cons_of_pos (by simpa using e)]
      rfl
    · rw [show valV (dk (q :: r)) (Sum.inl (n : Int)) = valV (dk r) (Sum.inl (n : Int)) from valV_neg (p := ((Sum.inl (q.1 : Int) : Key), q.2)) (r := dk r) (fun h => e (key_eq.mp h)), ih]
      unfold look
      rw [List.find?_cons_of_neg (by simpa using e)]
theorem look_none {kvs : List (Nat × V)} {n : Nat} (h : n ∉ kvs.map (·.1)) : look kvs n = none := by
  unfold look
  rw [List.find?_eq_none.mpr fun q hq => by
    simp only [decide_eq_true_eq]
    exact fun e => h (List.mem_map.mpr ⟨q, hq, e⟩)]
  rfl
theorem look_some {kvs : List (Nat × V)} {n : Nat} {v : V} (nd : (kvs.map (·.1)).Nodup) (h : (n, v) ∈ kvs) : look kvs n = some v := by
  induction kvs with
  | nil => cases h
  | cons q r ih =>
    rw [List.map_cons, List.nodup_cons] at nd
    unfold look
    rcases List.mem_cons.mp h with rfl | h
    · rw [List.find?_cons_of_pos (by simp)]
      rfl
    · have ne : q.1 ≠ n := fun e => nd.1 (e ▸ List.mem_map.mpr ⟨_, h, rfl⟩)
      rw [List.find?_cons_of_neg (by simpa using ne)]
      exact ih nd.2 h
theorem putK_dk_new {kvs : List (Nat × V)} {n : Nat} {v : V} (h : n ∉ kvs.map (·.1)) : putK (dk kvs) (Sum.inl (n : Int)) v = dk (kvs ++ [(n, v)]) := by
  rw [putK_new v (by rw [valV_dk, look_none h])]
  unfold dk
  rw [List.map_append]
  rfl
theorem dk_length {kvs : List (Nat × V)} : (dk kvs).length = kvs.length := List.length_map _
theorem dropK_dk {kvs : List (Nat × V)} {n : Nat} : dropK (dk kvs) (Sum.inl (n : Int)) = dk (kvs.filter fun q => decide (q.1 ≠ n)) := by
  unfold dropK dk
  rw [List.filter_map]
  congr 1
  apply List.filter_congr
  intro q _
  show decide (((Sum.inl (q.1 : Int) : Key)) ≠ Sum.inl (n : Int)) = decide (q.1 ≠ n)
  exact decide_eq_decide.mpr (not_congr key_eq)
/-- a set of rooms as a dict -/
def ts (l : List Nat) : List (Nat × V) := l.map fun n => (n, V.bl true)
theorem ts_fst (l : List Nat) : (ts l).map (·.1) = l := by
  unfold ts
  rw [List.map_map]
  exact (List.map_congr_left fun _ _ => rfl).trans (List.map_id l)
def DS (H : Hp) (d : Addr) (l : List Nat) : Prop := H d = some (.dK (dk (ts l)))
theorem DS.same {H H' : Hp} {d : Addr} {l : List Nat} (h : DS H d l) (e : Same H H') : DS H' d l := e _ _ h
theorem look_ts {l : List Nat} {n : Nat} : look (ts l) n = if n ∈ l then some (.bl true) else none := by
  by_cases h : n ∈ l
  · rw [if_pos h]
    induction l with
    | nil => cases h
    | cons a r ih =>
      unfold look ts
      by_cases e : a = n
      · rw [List.map_cons, List.find?_cons_of_pos (by simpa using e)]
        rfl
      · rw [List.map_cons, List.find?_cons_of_neg (by simpa using e)]
        rcases List.mem_cons.mp h with h | h
        · exact absurd h.symm e
        · exact ih h
  · rw [if_neg h]
    exact look_none (by rw [ts_fst]; exact h)
theorem valV_ts {l : List Nat} {n : Nat} : valV (dk (ts l)) (Sum.inl (n : Int)) = if n ∈ l then some (.bl true) else none := (valV_dk _ _).trans look_ts
theorem putK_old {n : Nat} : ∀ {l : List Nat}, n ∈ l → putK (dk (ts l)) (Sum.inl (n : Int)) (.bl true) = dk (ts l) := fun {l} h => by
  unfold putK
  rw [valV_any, valV_ts, if_pos h]
  show (dk (ts l)).map _ = dk (ts l)
  refine (List.map_congr_left fun q hq => ?_).trans (List.map_id _)
  split
  · rename_i e
    obtain ⟨z, hz, rfl⟩ := List.mem_map.mp hq
    obtain ⟨m, _, rfl⟩ := List.mem_map.mp hz
    exact Prod.ext rfl rfl
  · rfl
theorem putK_ts {l : List Nat} {n : Nat} : putK (dk (ts l)) (Sum.inl (n : Int)) (.bl true) = dk (ts (if n ∈ l then l else l ++ [n])) := by
  by_cases h : n ∈ l
  · rw [if_pos h]
    exact putK_old h
  · rw [if_neg h, putK_dk_new (by rw [ts_fst]; exact h)]
    unfold ts
    rw [List.map_append]
    rfl
theorem dropK_ts {l : List Nat} {n : Nat} : dropK (dk (ts l)) (Sum.inl (n : Int)) = dk (ts (l.filter fun x => decide (x ≠ n))) := by
  rw [dropK_dk]
  unfold ts
  rw [List.filter_map]
  rfl
/-- the lists of H stand in H' -/
def SameL (H H' : Hp) : Prop := ∀ b xs, H b = some (.lst xs) → H' b = some (.lst xs)
theorem sameL {H H' : Hp} (s : Same H H') : SameL H H' := fun b xs h => s b _ h
/-- a dict comprehension over rooms, each another one -/
theorem dc_gen {J : It} {n : Nat} {GG : Hp → Prop} {Y : Nat → Hp → V → Hp → Prop} (w : Walk J n GG Y) (xs : List Nat) (nd : xs.Nodup) (p : Nat → Bool) (Rv : Nat → V → Hp → Prop) (mono : ∀ x v H H', SameL H H' → Rv x v H → Rv x v H') {i : Nat} {tt : TT} {tk tv : TE} {σ : St} {H1 : Hp} {D : Addr} {Qd : Hp → Prop}
    (hD : H1 D = none) (hn : xs.length = n) (hsz : n < sizeLine)
    (hY : ∀ j Hc x H', j < n → GG Hc → Y j Hc x H' → H' = Hc ∧ (xs.map vn)[j]? = some x) (hG : ∀ Hc, Same H1 Hc → GG Hc)
    (ht : ∀ x Hc (R : Bool → Hp → Prop), x ∈ xs → Same H1 Hc → (∀ H3, Same Hc H3 → R (p x) H3) → tt ((wipe σ [i]).set i (some (vn x))) Hc R)
    (hk : ∀ x Hc (R : V → Hp → Prop), x ∈ xs → p x = true → Same H1 Hc → R (vn x) Hc → tk ((wipe σ [i]).set i (some (vn x))) Hc R)
    (he : ∀ x Hc (R : V → Hp → Prop), x ∈ xs → p x = true → Same H1 Hc → (∀ v H3, Same Hc H3 → Rv x v H3 → R v H3) → tv ((wipe σ [i]).set i (some (vn x))) Hc R)
    (hd : ∀ H2 (kvs : List (Nat × V)), Same H1 H2 → H2 D = some (.dK (dk kvs)) → kvs.map (·.1) = xs.filter p → (∀ q ∈ kvs, Rv q.1 q.2 H2) → Qd H2) :
    ∃ W : Nat → Nat → Hp → Prop, (∃ m, W 0 m (upd H1 D (.dK []))) ∧ ∀ k m H, W k m H →
      (J.stop k H ∧ Qd H) ∨ (J.go k H ∧ ∃ Nx : Hp → Prop, (∀ H', Nx H' → ∃ m', m' < m ∧ W (k + 1) m' H') ∧ ∀ x H', J.yld k H x H' → gName i x (wipe σ [i]) H' fun σ2 H2 => wipe σ2 [i] = wipe σ [i] ∧ tt σ2 H2 fun b H3 =>
        if b = true then tk σ2 H3 fun y H4 => tv σ2 H4 fun z H5 => ∃ kvs k, y = kV k ∧ H5 D = some (.dK kvs) ∧ kvs.length < sizeLine ∧ Nx (upd H5 D (.dK (putK kvs k z))) else Nx H3) := by
  have sU : ∀ {H4 : Hp} {o : HO}, Same H1 H4 → Same H1 (upd H4 D o) := fun s b o e => by
    rw [upd_ne (ne_of_none e hD)]
    exact s b o e
  refine ⟨fun k m H => m = n - k ∧ k ≤ n ∧ Same H1 H ∧ ∃ kvs : List (Nat × V), H D = some (.dK (dk kvs)) ∧ kvs.map (·.1) = (xs.take k).filter p ∧ ∀ q ∈ kvs, Rv q.1 q.2 H, ⟨n, by simp, Nat.zero_le _, sU (.refl _), [], upd_same, by simp, fun q h => nomatch h⟩, ?_⟩
  rintro k m Hc ⟨rfl, hk1, s, kvs, hdk, hfst, hR⟩
  have q := hG Hc s
  by_cases hlt : k < n
  · refine .inr ⟨w.goes k Hc hlt q, fun H => k + 1 ≤ n ∧ Same H1 H ∧ ∃ kvs : List (Nat × V), H D = some (.dK (dk kvs)) ∧ kvs.map (·.1) = (xs.take (k + 1)).filter p ∧ ∀ q ∈ kvs, Rv q.1 q.2 H, fun H' h => ⟨n - (k + 1), by omega, rfl, h⟩, fun y H' hy => ?_⟩
    obtain ⟨rfl, hx⟩ := hY k Hc y H' hlt q (w.yields k Hc y H' hlt q hy)
    rw [List.getElem?_map] at hx
    obtain ⟨x, hx1, rfl⟩ : ∃ x, xs[k]? = some x ∧ y = vn x := by
      cases e : xs[k]? with
      | none => rw [e] at hx; cases hx
      | some z => rw [e] at hx; exact ⟨z, rfl, (Option.some.inj hx).symm⟩
    have hm : x ∈ xs := List.mem_of_getElem? hx1
    have et : xs.take (k + 1) = xs.take k ++ [x] := by
      rw [List.take_add_one, hx1]
      rfl
    refine ⟨wipe_one, ht x _ _ hm s fun H3 s3 => ?_⟩
    have hdk3 := s3 _ _ hdk
    cases hp : p x with
    | false =>
      refine iteF ⟨hlt, s.trans s3, kvs, hdk3, ?_, fun q hq => mono _ _ _ _ (sameL s3) (hR q hq)⟩
      rw [et, List.filter_append, List.filter_cons_of_neg (by rw [hp]; decide), List.filter_nil, List.append_nil]
      exact hfst
    | true =>
      refine iteT (hk x _ _ hm hp (s.trans s3) (he x _ _ hm hp (s.trans s3) fun v H4 s4 rv => ?_))
      have nx : x ∉ kvs.map (·.1) := by
        rw [hfst]
        intro z
        have z2 := (List.mem_filter.mp z).1
        obtain ⟨j, hj, ej⟩ := List.getElem_of_mem z2
        rw [List.getElem_take] at ej
        rw [List.length_take] at hj
        have hk2 : k < xs.length := by omega
        have ex : xs[k] = x := (List.getElem?_eq_some_iff.mp hx1).2
        have := (List.getElem_inj nd).mp (ej.trans ex.symm)
        omega
      have hlen : kvs.length ≤ k := by
        have h1 := congrArg List.length hfst
        rw [List.length_map] at h1
        rw [h1]
        refine Nat.le_trans (List.length_filter_le _ _) ?_
        rw [List.length_take]
        omega
      have nl : ∀ {H : Hp} {o : HO} {kv : List (Key × V)}, H D = some (.dK kv) → SameL H (upd H D o) := fun {H o kv} h b ys e => by
        have : b ≠ D := fun z => by rw [z, h] at e; cases e
        rw [upd_ne this]
        exact e
      refine ⟨dk kvs, Sum.inl (x : Int), rfl, s4 _ _ hdk3, by rw [dk_length]; omega, hlt, sU (s.trans (s3.trans s4)), kvs ++ [(x, v)], ?_, ?_, ?_⟩
      · rw [upd_same, putK_dk_new nx]
      · rw [List.map_append, hfst, et, List.filter_append, List.filter_cons_of_pos hp]
        rfl
      · intro q hq
        have nl4 := nl (o := .dK (putK (dk kvs) (Sum.inl (x : Int)) v)) (s4 _ _ hdk3)
        rcases List.mem_append.mp hq with hq | hq
        · exact mono _ _ _ _ nl4 (mono _ _ _ _ (sameL (s3.trans s4)) (hR q hq))
        · rw [List.mem_singleton.mp hq]
          exact mono _ _ _ _ nl4 rv
  · have e : k = n := by omega
    subst e
    rw [← hn, List.take_length] at hfst
    exact .inl ⟨w.stops Hc q, hd Hc kvs s hdk hfst hR⟩
theorem at_map {l : List Nat} {i : Nat} {y : V} (h : (l.map vn)[i]? = some y) : ∃ x, l[i]? = some x ∧ y = vn x := by
  rw [List.getElem?_map] at h
  cases e : l[i]? with
  | none => rw [e] at h; cases h
  | some z => rw [e] at h; exact ⟨z, rfl, (Option.some.inj h).symm⟩
end G

namespace G
open PySem L2 GM
structure TxS (K : PySem.W.Frag) (mg : Str → Option Value) : Prop where
  isi : mg "isinstance" = none
  len : mg "len" = none
  list : mg "list" = none
  int : mg "int" = none
  tup : mg "tuple" = none
  rg : mg "range" = none
  en : mg "enumerate" = none
  srt : mg "sorted" = none
/-- the defs of trees as they are called elsewhere -/
structure LT (P : Program) (w : World) (K : PySem.W.Frag) (mg : Str → Option Value) (base : Heap) (C : Addr) : Prop where
  L_is_room : Cal P w K mg base "is_room" 3 ["tree", "thing"] (spRoom K C)
  L_Tbeside : CalM P w K mg base C "beside" 5 ["self", "room"] (spBeside C)
  L_len : CalN P w K mg base C 1 ["self"] (spLen C)
def spChkSet (C : Addr) : Sp := fun vs H Q _ => ∃ (p s : Addr) (ws : List Way) (st : List Nat), vs = [.ref p, .ref s] ∧ TreeAt C H p ws ∧ ws.length ≤ 59 ∧ NT H s st ∧ Setting (rows ws) st ∧ ∀ H', Same H H' → Q .non H'
def spAll (C : Addr) : Sp := fun vs H Q _ => ∃ (p : Addr) (ws : List Way), vs = [.ref p] ∧ TreeAt C H p ws ∧ ws.length ≤ 59 ∧ ∀ H' q, Same H H' → H q = none → NL H' q (List.range (ws.length + 1)) → Q (.ref q) H'
theorem room_dec {x n : Nat} (h : x < n) : (decide (0 ≤ (x : Int)) && decide ((x : Int) < ((n : Nat) : Int))) = true := by
  rw [decide_eq_true (Int.natCast_nonneg x), decide_eq_true (Int.ofNat_lt.mpr h)]
  rfl
theorem k_be : ¬ (("beside" : Str) = "_rows") := by decide +kernel
theorem k_be2 : ¬ (("beside" : Str) = "_ways") := by decide +kernel
theorem up_len : ∀ {l : List Nat} {n : Nat}, l.Pairwise (· < ·) → (∀ x ∈ l, x < n) → l.length ≤ n
  | [], n, _, _ => Nat.zero_le _
  | a :: l, n, p, h => by
    have hl := List.pairwise_cons.mp p
    cases n with
    | zero => exact absurd (h a List.mem_cons_self) (Nat.not_lt_zero _)
    | succ n =>
      have ih := up_len (l := l.map (· - 1)) (n := n) (by
        rw [List.pairwise_map]
        refine hl.2.imp_of_mem fun {x y} hx hy hxy => ?_
        have := hl.1 x hx
        omega) (fun y hy => by
        obtain ⟨x, hx, rfl⟩ := List.mem_map.mp hy
        have h1 := hl.1 x hx
        have h2 := h x (List.mem_cons_of_mem _ hx)
        omega)
      rw [List.length_map] at ih
      simp only [List.length_cons]
      omega
section
variable {P : Program} {w : World} {K : PySem.W.Frag} {mg : Str → Option Value} {base : Heap} {C : Addr}
theorem scCks : FnScope ["tree", "setting", "last", "barred", "at", "room", "near"] ["tree", "setting"] (defScope s_check_setting) := ⟨rfl, rfl, rfl, by decide +kernel, rfl, by decide +kernel, by decide +kernel⟩
theorem ok_cks {f : Addr} {fd : FuncData} (F : Fun K "check_setting" "check_setting" s_check_setting f fd) (T : TxS K mg) (LL : LT P w K mg base C) : FnOk P w K mg base CX0 6 f fd ["tree", "setting"] (spChkSet C) := by
  refine F.ok scCks (fun vs H Q E h => ?_) (fun cdv A outer s H vs Q E hr h => ?_)
  · obtain ⟨p, s, ws, st, rfl, _⟩ := h
    rfl
  · obtain ⟨p, s, ws, st, rfl, TT, hl, hs, S, q⟩ := h
    obtain ⟨L_is_room, L_Tbeside, L_len⟩ := LL
    have hu0 := hu_of hr
    refine ⟨_, (pss_cons (ps_if (pt_not (pt_val (pe_callB call_isi (by rfl) T.isi PyProof.Rows.boot_isinstance (pa_cons (pv 1) (pa_cons (pe_bltn (v := .ty "tuple") (by rfl) T.tup PyProof.Rows.boot_tuple rfl) pa_nil))))) (pss_one ps_never) pss_nil)
      (pss_cons (ps_set (i := 2) scCks.nd rfl (Or.inl rfl) (pe_un un_neg pe_int))
      (pss_cons (ps_set (i := 3) scCks.nd rfl (Or.inl rfl) pe_dnewK)
      (pss_one (ps_for PassesOwn.never rfl (pi_enumT (by rfl) T.en (pa_cons (pv 1) pa_nil)) (pg_tup rfl (pgs_cons (pg_name (i := 4) scCks.nd rfl (Or.inl rfl)) (pgs_cons (pg_name (i := 5) scCks.nd rfl (Or.inl rfl)) pgs_nil)))
        (pss_cons (ps_if (PW.pt (pw_or (pt_not (pt_val (L_is_room.pe (hr.mono (by decide)) rfl (pa_cons (pv 0) (pa_cons (pv 5) pa_nil))))) (pw_or (pt_cmpR op_le (pv 5) (pv 2) (nomark _)) (pw_or1 (pt_cmp (pc_din hu0 (pv 5) (pv 3))))))) (pss_one ps_never) pss_nil)
      (pss_cons (ps_set (i := 2) scCks.nd rfl (Or.inl rfl) (pv 5))
      (pss_one (ps_for PassesOwn.never rfl (pi_list (L_Tbeside.pe (hr.mono (by decide)) (pv 0) (pa_cons (pv 5) pa_nil))) (pg_name (i := 6) scCks.nd rfl (Or.inl rfl))
        (pss_one (ps_dput hu0 (pv 3) (pv 6) pe_bl rfl))))))))))), ?_⟩
    refine ⟨_, rfl, _, _, _, _, true, rfl, .ty _, .base (.tup hs), kit_ty (by decide +kernel), _, rfl, iteF ?_⟩
    refine ⟨_, rfl, fun d nd => ?_⟩
    generalize hB : upd _ d _ = B
    have s1 : Same H B := hB ▸ same_new nd
    have h1 : DS B d [] := hB ▸ upd_same
    refine ⟨_, rfl, s, _, rfl, SqT.of (s1 _ _ hs), ?_⟩
    refine for_it (walk_enumT (xs := st.map vn)) (fun i σ Hc => ∃ (z : Int) (v4 v5 v6 : Option V) (D : List Nat), σ = [some (.ref p), some (.ref s), some (.int z), some (.ref d), v4, v5, v6] ∧ Same H Hc ∧ DS Hc d D ∧ (∀ x ∈ st.drop i, z < (x : Int)) ∧ (∀ b ∈ D, ∃ x ∈ st.take i, b ∈ nb (rows ws) x) ∧ D.length ≤ 120 * i)
      ⟨-1, none, none, none, [], rfl, s1, h1, fun x _ => by omega, (fun b hb => nomatch hb), Nat.zero_le _⟩ (fun i σ Hc _ ⟨_, _, _, _, _, _, sc, _⟩ => SqT.of (sc _ _ hs)) ?_ ?_
    · rintro i y σ Hc Hc' hi ⟨z, v4, v5, v6, D, rfl, sc, hd, hz, hD, hDl⟩ ⟨T0, y1, y2, rfl, nT, rfl, ey1, ey2⟩
      obtain rfl : y1 = V.int (i : Nat) := (Option.some.inj ey1).symm
      obtain ⟨x, hx, rfl⟩ := at_map ey2
      have hm : x ∈ st := List.mem_of_getElem? hx
      have hxl : x < ws.length + 1 := by
        have := S.lt x hm
        rw [rows_length] at this
        exact this
      have hil : i < st.length := (List.getElem?_eq_some_iff.mp hx).1
      have hi60 : st.length ≤ 60 := by
        have h1 := up_len S.up (n := ws.length + 1) fun y hy => by
          have := S.lt y hy
          rw [rows_length] at this
          exact this
        omega
      have ed : st.drop i = x :: st.drop (i + 1) := by
        rw [List.drop_eq_getElem_cons hil, (List.getElem?_eq_some_iff.mp hx).2]
      refine ⟨T0, _, rfl, SqT.of upd_same, rfl, _, _, rfl, _, _, rfl, rfl, ?_⟩
      generalize hB2 : upd _ T0 _ = B2
      have s2 : Same Hc B2 := hB2 ▸ same_new nT
      have hd2 : DS B2 d D := hd.same s2
      have T2 := TT.same (sc.trans s2)
      refine ⟨_, rfl, _, rfl, p, ws, _, rfl, T2, by omega, .inl ⟨_, rfl, ?_⟩⟩
      rw [room_dec hxl]
      refine ⟨_, rfl, iteF ?_⟩
      refine ⟨_, rfl, _, rfl, _, _, rfl, rfl, _, rfl, ?_⟩
      have hzx := hz x (by rw [ed]; exact List.mem_cons_self)
      rw [decide_eq_false (by omega)]
      refine iteF ⟨_, rfl, _, rfl, d, _, rfl, DGet.k (k := Sum.inl (x : Int)) hd2, _, rfl, ?_⟩
      have nD : x ∉ D := fun hmem => by
        obtain ⟨y, hy, hyn⟩ := hD x hmem
        exact S.apart y (List.mem_of_mem_take hy) x hm hyn
      rw [valV_ts, if_neg nD]
      refine iteF ⟨_, rfl, ?_⟩
      obtain ⟨dx, lw, lr, ip, _⟩ := id T2
      refine ⟨_, rfl, p, dx, _, rfl, ip, flds_no _ _ k_be k_be2, _, rfl, p, ws, x, rfl, T2, by omega, hxl, fun B3 q3 s3 n3 hq3 => ?_⟩
      have hrow := nb_len ws x
      refine ⟨q3, rfl, ⟨_, SqL.of hq3⟩, for_list (K := K) (a := q3) (xs := (nb (rows ws) x).map vn) (fun j σ Hd => ∃ (v6 : Option V) (D2 : List Nat), σ = [some (.ref p), some (.ref s), some (vn x), some (.ref d), some (.int (i : Nat)), some (vn x), v6] ∧ (∀ b o, B3 b = some o → b ≠ d → Hd b = some o) ∧ DS Hd d D2 ∧ (∀ b ∈ D2, b ∈ D ∨ b ∈ nb (rows ws) x) ∧ D2.length ≤ D.length + j)
        ⟨_, D, rfl, fun _ _ e _ => e, hd2.same s3, fun b hb => .inl hb, Nat.le_refl _⟩ (fun j σ Hd _ ⟨_, _, _, so, hd3, _⟩ => SqL.of (so _ _ hq3 fun z => by have := hd2.same s3; unfold DS at this; unfold NL at hq3; rw [← z, hq3] at this; cases this)) ?_ ?_⟩
      · rintro j y σ Hd hj ⟨v6, D2, rfl, so, hd3, hD2, hl2⟩
        obtain ⟨b, hb, rfl⟩ := at_map hj
        have hjl := (List.getElem?_eq_some_iff.mp hb).1
        refine ⟨_, rfl, _, rfl, d, _, rfl, DPut.k (k := Sum.inl (b : Int)) hd3 ?_, ?_⟩
        · rw [dk_length]
          unfold ts
          rw [List.length_map]
          refine Nat.lt_of_le_of_lt (show D2.length ≤ 10000 by omega) (by decide)
        rw [putK_ts]
        refine ⟨_, if b ∈ D2 then D2 else D2 ++ [b], rfl, fun c o e n => by rw [upd_ne n]; exact so c o e n, upd_same, fun c hc => ?_, ?_⟩
        · split at hc
          · exact hD2 c hc
          · rcases List.mem_append.mp hc with hc | hc
            · exact hD2 c hc
            · rw [List.mem_singleton.mp hc]
              exact .inr (List.mem_of_getElem? hb)
        · split
          · omega
          · rw [List.length_append]
            simp only [List.length_cons, List.length_nil]
            omega
      · rintro σ Hd ⟨v6, D2, rfl, so, hd3, hD2, hl2⟩
        rw [List.length_map] at hl2
        have fd : H d = none := nd
        refine ⟨(x : Int), _, _, _, D2, rfl, fun b o e => so b o (s3 _ _ (s2 _ _ (sc b o e))) (ne_of_none e fd), hd3, ?_, ?_, ?_⟩
        · intro y hy
          have pw := S.up
          rw [← List.take_append_drop i st, ed, List.pairwise_append] at pw
          have := (List.pairwise_cons.mp pw.2.1).1 y hy
          omega
        · intro b hb
          rcases hD2 b hb with hb | hb
          · obtain ⟨y, hy, hyn⟩ := hD b hb
            refine ⟨y, ?_, hyn⟩
            rw [List.take_add_one]
            exact List.mem_append_left _ hy
          · refine ⟨x, ?_, hb⟩
            rw [List.take_add_one, hx]
            exact List.mem_append_right _ (List.mem_singleton.mpr rfl)
        · omega
    · rintro σ Hc ⟨z, v4, v5, v6, D, rfl, sc, _⟩
      exact q Hc sc
end
end G

namespace G
open PySem L2 GM
/-- a dict of lists, one for each of these rooms -/
def RD (H : Hp) (q : Addr) (rooms : List Nat) (f : Nat → List Nat) : Prop := ∃ kvs : List (Nat × V), H q = some (.dK (dk kvs)) ∧ kvs.map (·.1) = rooms ∧ ∀ p ∈ kvs, ∃ a, p.2 = .ref a ∧ NL H a (f p.1)
theorem RD.same {H H' : Hp} {q : Addr} {rooms : List Nat} {f : Nat → List Nat} (h : RD H q rooms f) (e : Same H H') : RD H' q rooms f := by
  obtain ⟨kvs, h1, h2, h3⟩ := h
  refine ⟨kvs, e _ _ h1, h2, fun p hp => ?_⟩
  obtain ⟨a, e1, e2⟩ := h3 p hp
  exact ⟨a, e1, e2.same e⟩
theorem RD.get {H : Hp} {q : Addr} {rooms : List Nat} {f : Nat → List Nat} (h : RD H q rooms f) (nd : rooms.Nodup) {r : Nat} (hr : r ∈ rooms) : ∃ kvs a, H q = some (.dK (dk kvs)) ∧ valV (dk kvs) (Sum.inl (r : Int)) = some (.ref a) ∧ NL H a (f r) := by
  obtain ⟨kvs, h1, h2, h3⟩ := h
  rw [← h2] at hr
  obtain ⟨p, hp, rfl⟩ := List.mem_map.mp hr
  obtain ⟨a, e1, e2⟩ := h3 p hp
  refine ⟨kvs, a, h1, ?_, e2⟩
  rw [valV_dk]
  refine look_some (by rw [h2]; exact nd) ?_
  rw [← e1]
  exact hp
theorem RD.has {H : Hp} {q : Addr} {rooms : List Nat} {f : Nat → List Nat} (h : RD H q rooms f) (nd : rooms.Nodup) {n : Nat} : ∃ kvs, H q = some (.dK (dk kvs)) ∧ (valV (dk kvs) (Sum.inl (n : Int))).isSome = decide (n ∈ rooms) := by
  by_cases hr : n ∈ rooms
  · obtain ⟨kvs, a, h1, h2, _⟩ := h.get nd hr
    exact ⟨kvs, h1, by rw [h2, decide_eq_true hr]; rfl⟩
  · obtain ⟨kvs, h1, h2, _⟩ := h
    exact ⟨kvs, h1, by rw [valV_dk, look_none (by rw [h2]; exact hr), decide_eq_false hr]; rfl⟩
def within (ws : List Way) (rooms : List Nat) (r : Nat) : List Nat := (nb (rows ws) r).filter fun x => decide (x ∈ rooms)
def spRowsW (C : Addr) : Sp := fun vs H Q _ => ∃ (p l : Addr) (ws : List Way) (rooms : List Nat), vs = [.ref p, .ref l] ∧ TreeAt C H p ws ∧ ws.length ≤ 59 ∧ NL H l rooms ∧ rooms.Nodup ∧ (∀ r ∈ rooms, r < ws.length + 1) ∧ rooms.length ≤ 60 ∧ ∀ H' q, Same H H' → H q = none → RD H' q rooms (within ws rooms) → Q (.ref q) H'
def spOutR : Sp := fun vs H Q _ => ∃ (q d : Addr) (g : Nat) (rooms : List Nat) (f : Nat → List Nat) (kvs : List (Nat × V)), vs = [.ref q, .ref d, vn g] ∧ RD H q rooms f ∧ rooms.Nodup ∧ g ∈ rooms ∧ (∀ r ∈ f g, r ∈ rooms) ∧ (∀ r, (f r).length ≤ 1000) ∧ Rd H d (.dK (dk kvs)) ∧ ∀ H' l, Same H H' → H l = none → NL H' l (out f (kvs.map (·.1)) g) → Q (.ref l) H'
theorem within_len (ws : List Way) (rooms : List Nat) (hl : ws.length ≤ 59) (r : Nat) : (within ws rooms r).length ≤ 1000 := by
  have h1 := nb_len ws r
  have h2 := List.length_filter_le (fun x => decide (x ∈ rooms)) (nb (rows ws) r)
  unfold within
  omega
theorem look_has {kvs : List (Nat × V)} {n : Nat} (h : n ∈ kvs.map (·.1)) : (look kvs n).isSome = true := by
  unfold look
  rw [Option.isSome_map, List.find?_isSome]
  obtain ⟨z, hz, rfl⟩ := List.mem_map.mp h
  exact ⟨z, hz, by simp⟩
theorem rd_same {H H' : Hp} {a : Addr} {u : HO} (e : Same H H') (h : Rd H a u) : Rd H' a u := by
  rcases h with h | ⟨o, h⟩
  · exact .inl (e _ _ h)
  · exact .inr ⟨o, e _ _ h⟩
theorem dget_rd {H : Hp} {a : Addr} {kvs : List (Key × V)} {k : Key} (h : Rd H a (.dK kvs)) : DGet H a (kV k) (valV kvs k) := .inl ⟨kvs, k, h, rfl, rfl⟩
def outs (f : Nat → List Nat) (left : List Nat) (g : Nat) (rs : List Nat) : List Nat := rs.filter fun r => ((f r).filter fun x => decide (x ∈ left) && decide (x ≠ g)).isEmpty
section
variable {P : Program} {w : World} {K : PySem.W.Frag} {mg : Str → Option Value} {base : Heap} {C : Addr}
end
end G

/-! The rooms beside each room are told once each; how many of some stand beside a room. -/
namespace GM
theorem grown_nodup {told : List Nat} {ws : List Way} (G : Grown told ws) : ws.Nodup := by
  rw [List.nodup_iff_pairwise_ne, List.pairwise_iff_getElem]
  intro i j hi hj hij e
  have a1 : ws[i]? = some ws[i] := List.getElem?_eq_getElem hi
  have a2 : ws[j]? = some ws[j] := List.getElem?_eq_getElem hj
  rw [← e] at a2
  generalize ws[i] = v at a1 a2
  obtain ⟨k, x, y, hk, hx, hy, hw⟩ := G.ties i v a1
  obtain ⟨l, x', y', hl, hx', hy', hw'⟩ := G.ties j v a2
  have m : y' = x ∨ y' = y := by
    rcases hw with ⟨rfl, h⟩ | ⟨rfl, h⟩ <;> rcases hw' with ⟨e, h'⟩ | ⟨e, h'⟩ <;> (obtain ⟨e1, e2⟩ := Prod.mk.inj e; omega)
  rcases m with m | m
  · subst m
    have := nodup_ix G.nd hx hy'
    omega
  · subst m
    have := nodup_ix G.nd hy hy'
    omega
theorem put_nodup {acc : List (List Nat)} {i x : Nat} (h : ∀ j, (acc.getD j []).Nodup) (n : x ∉ acc.getD i []) : ∀ j, ((put acc i x).getD j []).Nodup := fun j => by
  unfold put
  by_cases e : i = j
  · subst e
    by_cases hl : i < acc.length
    · rw [getD_set_self hl, List.nodup_append]
      exact ⟨h i, by simp, fun a ha b hb e => n (by rw [List.mem_singleton.mp hb] at e; exact e ▸ ha)⟩
    · rw [List.set_eq_of_length_le (by omega)]
      exact h i
  · rw [getD_set_ne e]
    exact h j
theorem raw_nodup : ∀ (ws : List Way) (acc : List (List Nat)), ws.Nodup → (∀ w ∈ ws, w.1 < w.2 ∧ w.2 < acc.length) → (∀ j, (acc.getD j []).Nodup) → (∀ w ∈ ws, w.2 ∉ acc.getD w.1 [] ∧ w.1 ∉ acc.getD w.2 []) → ∀ j, ((ws.foldl addWay acc).getD j []).Nodup
  | [], _, _, _, h, _ => h
  | w :: r, acc, nd, hl, h, hn => by
    obtain ⟨n1, n2⟩ := List.nodup_cons.mp nd
    have l0 := hl w List.mem_cons_self
    have h0 := hn w List.mem_cons_self
    refine raw_nodup r (addWay acc w) n2 (fun v hv => by rw [addWay_length]; exact hl v (List.mem_cons_of_mem _ hv)) ?_ ?_
    · unfold addWay
      refine put_nodup (put_nodup h h0.1) ?_
      rw [mem_put (by omega)]
      rintro (m | ⟨m, _⟩)
      · exact h0.2 m
      · omega
    · intro v hv
      have hv0 := hn v (List.mem_cons_of_mem _ hv)
      have lv := hl v (List.mem_cons_of_mem _ hv)
      have ne : v ≠ w := fun e => n1 (e ▸ hv)
      unfold addWay
      obtain ⟨a, b⟩ := w
      obtain ⟨c, d⟩ := v
      simp only at *
      rw [mem_put (by rw [put_length]; omega), mem_put (by omega), mem_put (by rw [put_length]; omega), mem_put (by omega)]
      constructor
      · rintro ((m | ⟨rfl, rfl⟩) | ⟨rfl, rfl⟩)
        · exact hv0.1 m
        · exact ne rfl
        · omega
      · rintro ((m | ⟨rfl, rfl⟩) | ⟨rfl, rfl⟩)
        · exact hv0.2 m
        · omega
        · exact ne rfl
/-- ways of a graph without a way told twice -/
structure Simple (ws : List Way) : Prop where
  sym : ∀ a b, b ∈ nb (rows ws) a → a ∈ nb (rows ws) b
  nd : ∀ a, (nb (rows ws) a).Nodup
theorem grown_simple {told : List Nat} {ws : List Way} (G : Grown told ws) : Simple ws := by
  have hw := okWays_lt (grown_ok G)
  refine ⟨(graph_rows hw).sym, fun a => ?_⟩
  unfold nb rows
  rw [getD_map_srt]
  refine (srt_perm _).nodup_iff.mpr ?_
  have e : ∀ j, ((List.replicate (ws.length + 1) ([] : List Nat)).getD j []) = [] := fun j => by
    rw [List.getD_eq_getElem?_getD, List.getElem?_replicate]
    split <;> rfl
  refine raw_nodup ws _ (grown_nodup G) (fun w h => by rw [List.length_replicate]; exact hw w h) (fun j => by rw [e]; exact List.nodup_nil) (fun w h => by rw [e, e]; simp) a
/-- how many of A stand beside r -/
def cnt (f : Nat → List Nat) (A : List Nat) (r : Nat) : Nat := ((f r).filter fun x => decide (x ∈ A)).length
theorem nodup_one {l : List Nat} (nd : l.Nodup) {g : Nat} (h : g ∈ l) : l.length = 1 ↔ ∀ x ∈ l, x = g := by
  match l, nd, h with
  | [a], _, h => exact ⟨fun _ x hx => by rw [List.mem_singleton.mp h, List.mem_singleton.mp hx], fun _ => rfl⟩
  | a :: b :: r, nd, h =>
    refine ⟨fun e => by simp at e, fun k => ?_⟩
    have h1 := k a (by simp)
    have h2 := k b (by simp)
    rw [List.nodup_cons] at nd
    exact absurd (by rw [h1, h2]; simp) nd.1
theorem cnt_out {f : Nat → List Nat} {A : List Nat} {g : Nat} (hg : g ∈ A) (sym : ∀ r ∈ f g, g ∈ f r) (nd : ∀ r, (f r).Nodup) : (f g).filter (fun r => decide (cnt f A r = 1)) = out f A g := by
  unfold out
  apply List.filter_congr
  intro r hr
  have m : g ∈ (f r).filter fun x => decide (x ∈ A) := List.mem_filter.mpr ⟨sym r hr, by simpa using hg⟩
  rw [Bool.eq_iff_iff, decide_eq_true_iff, List.isEmpty_iff, List.filter_eq_nil_iff]
  unfold cnt
  rw [nodup_one ((nd r).filter _) m]
  constructor
  · intro k x hx c
    simp only [Bool.and_eq_true, decide_eq_true_eq] at c
    exact c.2 (k x (List.mem_filter.mpr ⟨hx, by simpa using c.1⟩))
  · intro k x hx
    have h1 := List.mem_filter.mp hx
    have := k x h1.1
    simp only [Bool.and_eq_true, decide_eq_true_eq, not_and, Decidable.not_not] at this
    exact this (by simpa using h1.2)
theorem cnt_erase {f : Nat → List Nat} {A : List Nat} {g r : Nat} (ndA : A.Nodup) (hg : g ∈ A) (nd : (f r).Nodup) : (cnt f (A.erase g) r : Int) = (cnt f A r : Int) - (if g ∈ f r then 1 else 0) := by
  have e : (f r).filter (fun x => decide (x ∈ A.erase g)) = ((f r).filter fun x => decide (x ∈ A)).erase g := by
    rw [List.Nodup.erase_eq_filter (nd.filter _) g, List.filter_filter]
    apply List.filter_congr
    intro x _
    rw [Bool.eq_iff_iff]
    simp only [decide_eq_true_eq, Bool.and_eq_true, bne_iff_ne, ne_eq, ndA.mem_erase_iff]
  unfold cnt
  rw [e, List.length_erase]
  have iff : g ∈ (f r).filter (fun x => decide (x ∈ A)) ↔ g ∈ f r := by
    rw [List.mem_filter]
    simp [hg]
  by_cases h : g ∈ f r
  · rw [if_pos h, if_pos (iff.mpr h)]
    have := List.length_pos_of_mem (iff.mpr h)
    omega
  · rw [if_neg h, if_neg (fun z => h (iff.mp z))]
    omega
end GM

/-! Plain mathematics, further: distances from a room in a tree that grew, slides, who can be moved, who never can. -/
namespace GM
/-- how far each room is from g, along neighbours A -/
structure RootedA (A : Nat → Nat → Prop) (g : Nat) (d : Nat → Nat) : Prop where
  zero : d g = 0
  step : ∀ a b, A a b → d b = d a + 1 ∨ d a = d b + 1
  up : ∀ a b c, A a b → A a c → d b < d a → d c < d a → b = c
def hung (A : Nat → Nat → Prop) (x y : Nat) : Nat → Nat → Prop := fun a b => A a b ∨ (a = x ∧ b = y) ∨ (a = y ∧ b = x)
theorem leaf_old {A : Nat → Nat → Prop} {g x y : Nat} {d : Nat → Nat} (R : RootedA A g d) (hy : ∀ b, ¬ A y b ∧ ¬ A b y) (hx : x ≠ y) (hg : g ≠ y) : RootedA (hung A x y) g (fun v => if v = y then d x + 1 else d v) where
  zero := by simp only [if_neg hg]; exact R.zero
  step := fun a b h => by
    rcases h with h | ⟨rfl, rfl⟩ | ⟨rfl, rfl⟩
    · have ha : a ≠ y := fun e => (hy b).1 (e ▸ h)
      have hb : b ≠ y := fun e => (hy a).2 (e ▸ h)
      simp only [if_neg ha, if_neg hb]
      exact R.step a b h
    · simp only [if_neg hx, if_true]
      exact .inl trivial
    · simp only [if_neg hx, if_true]
      exact .inr trivial
  up := fun a b c h1 h2 l1 l2 => by
    by_cases ha : a = y
    · have e : ∀ b, hung A x y a b → b = x := fun b h => by
        rcases h with h | ⟨e1, e2⟩ | ⟨e1, e2⟩
        · exact absurd (ha ▸ h) (hy b).1
        · exact absurd (e1.symm.trans ha) hx
        · exact e2
      rw [e b h1, e c h2]
    · have e : ∀ b, hung A x y a b → (if b = y then d x + 1 else d b) < (if a = y then d x + 1 else d a) → b ≠ y ∧ A a b ∧ d b < d a := fun b h l => by
        rw [if_neg ha] at l
        rcases h with h | ⟨e1, e2⟩ | ⟨e1, e2⟩
        · have hb : b ≠ y := fun e => (hy a).2 (e ▸ h)
          rw [if_neg hb] at l
          exact ⟨hb, h, l⟩
        · rw [if_pos e2, e1] at l
          omega
        · exact absurd e1 ha
      obtain ⟨_, g1, g2⟩ := e b h1 l1
      obtain ⟨_, g3, g4⟩ := e c h2 l2
      exact R.up a b c g1 g3 g2 g4
theorem leaf_new {A : Nat → Nat → Prop} {x y : Nat} {d : Nat → Nat} (R : RootedA A x d) (hy : ∀ b, ¬ A y b ∧ ¬ A b y) (hx : x ≠ y) : RootedA (hung A x y) y (fun v => if v = y then 0 else d v + 1) where
  zero := by simp
  step := fun a b h => by
    rcases h with h | ⟨rfl, rfl⟩ | ⟨rfl, rfl⟩
    · have ha : a ≠ y := fun e => (hy b).1 (e ▸ h)
      have hb : b ≠ y := fun e => (hy a).2 (e ▸ h)
      simp only [if_neg ha, if_neg hb]
      have := R.step a b h
      omega
    · simp only [if_neg hx, if_true, R.zero]
      exact .inr trivial
    · simp only [if_neg hx, if_true, R.zero]
      exact .inl trivial
  up := fun a b c h1 h2 l1 l2 => by
    by_cases ha : a = y
    · simp only [if_pos ha] at l1
      omega
    · have e : ∀ b, hung A x y a b → (if b = y then 0 else d b + 1) < (if a = y then 0 else d a + 1) → (b = y ∧ a = x) ∨ (b ≠ y ∧ A a b ∧ d b < d a) := fun b h l => by
        rw [if_neg ha] at l
        rcases h with h | ⟨e1, e2⟩ | ⟨e1, e2⟩
        · have hb : b ≠ y := fun e => (hy a).2 (e ▸ h)
          rw [if_neg hb] at l
          exact .inr ⟨hb, h, by omega⟩
        · exact .inl ⟨e2, e1⟩
        · exact absurd e1 ha
      have z : ∀ c, d c < d x → False := fun c h => by rw [R.zero] at h; omega
      rcases e b h1 l1 with ⟨b1, b2⟩ | ⟨b1, b2, b3⟩
      · rcases e c h2 l2 with ⟨c1, c2⟩ | ⟨c1, c2, c3⟩
        · rw [b1, c1]
        · exact (z c (b2 ▸ c3)).elim
      · rcases e c h2 l2 with ⟨c1, c2⟩ | ⟨c1, c2, c3⟩
        · exact (z b (c2 ▸ b3)).elim
        · exact R.up a b c b2 c2 b3 c3
/-- neighbours by the first k ways -/
def adj (ws : List Way) (k : Nat) : Nat → Nat → Prop := fun a b => ∃ i, i < k ∧ (ws[i]? = some (a, b) ∨ ws[i]? = some (b, a))
theorem adj_succ {ws : List Way} {k x y : Nat} (h : ws[k]? = some (x, y) ∨ ws[k]? = some (y, x)) : adj ws (k + 1) = hung (adj ws k) x y := by
  funext a b
  refine propext ⟨?_, ?_⟩
  · rintro ⟨i, hi, e⟩
    by_cases hk : i < k
    · exact .inl ⟨i, hk, e⟩
    · have : i = k := by omega
      subst this
      right
      rcases h with h | h <;> rcases e with e | e <;> rw [h] at e <;> cases e <;> simp
  · rintro (⟨i, hi, e⟩ | ⟨rfl, rfl⟩ | ⟨rfl, rfl⟩)
    · exact ⟨i, by omega, e⟩
    · exact ⟨k, by omega, h⟩
    · exact ⟨k, by omega, h.symm⟩
theorem adj_old {told : List Nat} {ws : List Way} (G : Grown told ws) {k a b : Nat} (h : adj ws k a b) : ∃ i, i < k + 1 ∧ told[i]? = some a := by
  obtain ⟨i, hi, e⟩ := h
  have : ∃ w, ws[i]? = some w ∧ (w = (a, b) ∨ w = (b, a)) := by
    rcases e with e | e
    · exact ⟨_, e, .inl rfl⟩
    · exact ⟨_, e, .inr rfl⟩
  obtain ⟨w, ew, cw⟩ := this
  obtain ⟨j, x, y, hj, hx, hy, c⟩ := G.ties i w ew
  rcases c with ⟨c, _⟩ | ⟨c, _⟩ <;> rcases cw with cw | cw <;> rw [c] at cw <;> cases cw
  · exact ⟨j, by omega, hx⟩
  · exact ⟨i + 1, by omega, hy⟩
  · exact ⟨i + 1, by omega, hy⟩
  · exact ⟨j, by omega, hx⟩
theorem adj_sym {ws : List Way} {k a b : Nat} (h : adj ws k a b) : adj ws k b a := by
  obtain ⟨i, hi, e⟩ := h
  exact ⟨i, hi, e.symm⟩
theorem rooted_adj {told : List Nat} {ws : List Way} (G : Grown told ws) : ∀ (k : Nat), k ≤ ws.length → ∀ i g, i ≤ k → told[i]? = some g → ∃ d, RootedA (adj ws k) g d ∧ ∀ i x, i ≤ k → told[i]? = some x → x ≠ g → ∃ y, adj ws k x y ∧ d y < d x
  | 0, _, i, g, hi, hg => ⟨fun _ => 0, ⟨rfl, fun a b h => by obtain ⟨i, hi, _⟩ := h; omega, fun a b c h => by obtain ⟨i, hi, _⟩ := h; omega⟩, fun i' x hi' hx hne => by
    have e1 : i = 0 := by omega
    have e2 : i' = 0 := by omega
    rw [e1] at hg
    rw [e2, hg] at hx
    exact absurd (Option.some.inj hx).symm hne⟩
  | k + 1, hk, i, g, hi, hg => by
    obtain ⟨w, ew⟩ : ∃ w, ws[k]? = some w := ⟨_, List.getElem?_eq_getElem (by omega)⟩
    obtain ⟨j, x, y, hj, hx, hy, c⟩ := G.ties k w ew
    have hw : ws[k]? = some (x, y) ∨ ws[k]? = some (y, x) := by
      rcases c with ⟨c, _⟩ | ⟨c, _⟩
      · exact .inl (c ▸ ew)
      · exact .inr (c ▸ ew)
    have hxy : x ≠ y := by rcases c with ⟨_, c⟩ | ⟨_, c⟩ <;> omega
    have fresh : ∀ b, ¬ adj ws k y b ∧ ¬ adj ws k b y := fun b => by
      have z : ∀ b, ¬ adj ws k y b := fun b h => by
        obtain ⟨i', h1, h2⟩ := adj_old G h
        have := nodup_ix G.nd h2 hy
        omega
      exact ⟨z b, fun h => z b (adj_sym h)⟩
    rw [adj_succ hw]
    by_cases hik : i ≤ k
    · obtain ⟨d, R, dn⟩ := rooted_adj G k (by omega) i g hik hg
      have gy : g ≠ y := fun e => by
        rw [e] at hg
        have := nodup_ix G.nd hg hy
        omega
      refine ⟨_, leaf_old R fresh hxy gy, fun i' v hi' hv hne => ?_⟩
      by_cases hvy : v = y
      · refine ⟨x, .inr (.inr ⟨hvy, rfl⟩), ?_⟩
        simp only [if_pos hvy, if_neg hxy]
        omega
      · have hik' : i' ≤ k := by
          by_cases e : i' = k + 1
          · rw [e, hy] at hv
            exact absurd (Option.some.inj hv).symm hvy
          · omega
        obtain ⟨z, h1, h2⟩ := dn i' v hik' hv hne
        have hzy : z ≠ y := fun e => (fresh v).2 (e ▸ h1)
        refine ⟨z, .inl h1, ?_⟩
        simp only [if_neg hvy, if_neg hzy]
        exact h2
    · have e : i = k + 1 := by omega
      rw [e, hy] at hg
      cases hg
      obtain ⟨d, R, dn⟩ := rooted_adj G k (by omega) j x hj hx
      refine ⟨_, leaf_new R fresh hxy, fun i' v hi' hv hne => ?_⟩
      by_cases hvx : v = x
      · refine ⟨g, .inr (.inl ⟨hvx, rfl⟩), ?_⟩
        simp only [if_true, if_neg hne]
        omega
      · have hik' : i' ≤ k := by
          by_cases e : i' = k + 1
          · rw [e, hy] at hv
            exact absurd (Option.some.inj hv).symm hne
          · omega
        obtain ⟨z, h1, h2⟩ := dn i' v hik' hv hvx
        have hzy : z ≠ g := fun e => (fresh v).2 (e ▸ h1)
        refine ⟨z, .inl h1, ?_⟩
        simp only [if_neg hne, if_neg hzy]
        omega
theorem grown_ww {told : List Nat} {ws : List Way} (G : Grown told ws) : ∀ w ∈ ws, w.1 < w.2 ∧ w.2 < ws.length + 1 := okWays_lt (grown_ok G)
theorem up_len1 : ∀ (l : List Nat) (b n : Nat), l.Pairwise (· < ·) → (∀ x ∈ l, b ≤ x ∧ x < n) → l.length ≤ n - b
  | [], _, _, _, _ => Nat.zero_le _
  | a :: l, b, n, u, h => by
    have h1 := h a List.mem_cons_self
    have u1 := List.pairwise_cons.mp u
    have k := up_len1 l (a + 1) n u1.2 (fun x hx => ⟨u1.1 x hx, (h x (List.mem_cons_of_mem _ hx)).2⟩)
    rw [List.length_cons]
    omega
theorem up_len0 {l : List Nat} (u : l.Pairwise (· < ·)) {n : Nat} (h : ∀ x ∈ l, x < n) : l.length ≤ n := up_len1 l 0 n u fun x hx => ⟨Nat.zero_le _, h x hx⟩
theorem grown_all {told : List Nat} {ws : List Way} (G : Grown told ws) {g : Nat} (h : g < ws.length + 1) : ∃ i, i ≤ ws.length ∧ told[i]? = some g := by
  have m : g ∈ told := Classical.byContradiction fun hn => by
    have n1 : (g :: told).Nodup := List.nodup_cons.mpr ⟨hn, G.nd⟩
    have n2 : (srt (g :: told)).Nodup := (srt_perm _).nodup_iff.mpr n1
    have u : (srt (g :: told)).Pairwise (· < ·) := (srt_pw _).imp₂ (fun x y h k => by omega) n2
    have l := up_len0 u (n := told.length) (fun x hx => by
      rcases List.mem_cons.mp (mem_srt.mp hx) with e | e
      · rw [e, ← G.len]
        exact h
      · exact G.lt x e)
    rw [(srt_perm (g :: told)).length_eq, List.length_cons] at l
    omega
  obtain ⟨i, hi, e⟩ := List.getElem_of_mem m
  exact ⟨i, by have := G.len; omega, by rw [List.getElem?_eq_getElem hi, e]⟩
theorem rooted {told : List Nat} {ws : List Way} (G : Grown told ws) {g : Nat} (h : g < ws.length + 1) : ∃ d, RootedA (fun a b => b ∈ nb (rows ws) a) g d ∧ ∀ x, x < ws.length + 1 → x ≠ g → ∃ y ∈ nb (rows ws) x, d y < d x := by
  obtain ⟨i, hi, e⟩ := grown_all G h
  obtain ⟨d, R, dn⟩ := rooted_adj G ws.length (Nat.le_refl _) i g hi e
  have ea : (fun a b => b ∈ nb (rows ws) a) = adj ws ws.length := by
    funext a b
    refine propext ?_
    rw [mem_rows (grown_ww G)]
    constructor
    · rintro (m | m)
      · obtain ⟨i, hi, e⟩ := List.getElem_of_mem m
        exact ⟨i, hi, .inl (by rw [List.getElem?_eq_getElem hi, e])⟩
      · obtain ⟨i, hi, e⟩ := List.getElem_of_mem m
        exact ⟨i, hi, .inr (by rw [List.getElem?_eq_getElem hi, e])⟩
    · rintro ⟨i, hi, e | e⟩
      · exact .inl (List.mem_of_getElem? e)
      · exact .inr (List.mem_of_getElem? e)
  refine ⟨d, ea ▸ R, fun x hx hne => ?_⟩
  obtain ⟨i', h1, h2⟩ := grown_all G hx
  obtain ⟨y, g1, g2⟩ := dn i' x h1 h2 hne
  refine ⟨y, ?_, g2⟩
  rw [← ea] at g1
  exact g1
end GM

/-! Who can be moved, who never can: slides between lots of guards, told by who stands where. -/
namespace GM
/-- a slide -/
def Slid (f : Nat → List Nat) (P P' : Nat → Prop) : Prop := ∃ a b, P a ∧ b ∈ f a ∧ ¬ P b ∧ (∀ x ∈ f b, P x → x = a) ∧ ∀ x, P' x ↔ (x = b ∨ (P x ∧ x ≠ a))
inductive Comes (f : Nat → List Nat) (P : Nat → Prop) : (Nat → Prop) → Prop
  | here : Comes f P P
  | more {P' P'' : Nat → Prop} : Comes f P P' → Slid f P' P'' → Comes f P P''
/-- a lock stays for ever -/
theorem lock_stays {f : Nat → List Nat} {L P P' : Nat → Prop} (h : ∀ g, L g → ∀ r ∈ f g, ∃ x ∈ f r, L x ∧ x ≠ g) (c : Comes f P P') (hP : ∀ x, L x → P x) : ∀ x, L x → P' x := by
  induction c with
  | here => exact hP
  | more c s ih =>
    obtain ⟨a, b, ha, hb, _, hx, e⟩ := s
    intro x hL
    refine (e x).mpr (.inr ⟨ih x hL, fun z => ?_⟩)
    subst z
    obtain ⟨y, hy, hLy, hne⟩ := h x hL b hb
    exact hne (hx y hy (ih y hLy))
theorem stuck_lock {f : Nat → List Nat} {L : List Nat} (h : Stuck f L) : ∀ g, g ∈ L → ∀ r ∈ f g, ∃ x ∈ f r, x ∈ L ∧ x ≠ g := fun g hg r hr => by
  apply Classical.byContradiction
  intro z
  have m : r ∈ out f L g := mem_out.mpr ⟨hr, fun x hx hl => Classical.byContradiction fun e => z ⟨x, hx, hl, e⟩⟩
  rw [h g hg] at m
  cases m
/-- a peel, guard by guard: kk the guards, rr their rooms out -/
structure Peeled (f : Nat → List Nat) (S : Nat → Prop) (n : Nat) (kk rr : Nat → Nat) : Prop where
  mem : ∀ i, i < n → S (kk i)
  out : ∀ i, i < n → rr i ∈ f (kk i)
  ahead : ∀ i, i < n → ∀ x ∈ f (rr i), S x → x = kk i ∨ ∃ j, j < i ∧ x = kk j
  inj : ∀ i j, i < n → j < n → kk i = kk j → i = j
/-- who must go ahead of the i0-th -/
inductive Go (f : Nat → List Nat) (n : Nat) (kk rr : Nat → Nat) (i0 : Nat) : Nat → Prop
  | base : Go f n kk rr i0 i0
  | step {i j : Nat} : Go f n kk rr i0 i → j < n → kk j ∈ f (rr i) → j ≠ i → Go f n kk rr i0 j
section
variable {f : Nat → List Nat} {S : Nat → Prop} {n i0 : Nat} {kk rr d : Nat → Nat}
theorem go_d (sym : ∀ a b, b ∈ f a → a ∈ f b) (P : Peeled f S n kk rr) (R : RootedA (fun a b => b ∈ f a) (kk i0) d) (h0 : i0 < n) {i : Nat} (g : Go f n kk rr i0 i) : i < n ∧ i ≤ i0 ∧ d (kk i) % 2 = 0 ∧ d (rr i) = d (kk i) + 1 := by
  induction g with
  | base =>
    refine ⟨h0, Nat.le_refl _, by rw [R.zero], ?_⟩
    have := R.step _ _ (P.out i0 h0)
    rw [R.zero] at this ⊢
    omega
  | step g hj hf hne ih =>
    rename_i i j
    obtain ⟨hi, hle, ev, hd⟩ := ih
    -- j is ahead of i
    have hji : j < i := by
      rcases P.ahead i hi (kk j) hf (P.mem j hj) with e | ⟨j', h1, e⟩
      · exact absurd (P.inj j i hj hi e) hne
      · have := P.inj j j' hj (by omega) e
        omega
    -- beside rr i: kk i is nearer, so kk j is farther
    have b1 : kk i ∈ f (rr i) := sym _ _ (P.out i hi)
    have dj : d (kk j) = d (rr i) + 1 := by
      rcases R.step _ _ hf with e | e
      · exact e
      · have := R.up _ _ _ b1 hf (by omega) (by omega)
        exact absurd (P.inj i j hi hj this) (fun e => hne e.symm)
    refine ⟨hj, by omega, by omega, ?_⟩
    rcases R.step _ _ (P.out j hj) with e | e
    · exact e
    · -- rr j would be rr i, beside which kk i stood when j went
      have b2 : rr i ∈ f (kk j) := sym _ _ hf
      have er := R.up _ _ _ (P.out j hj) b2 (by omega) (by omega)
      have b3 : kk i ∈ f (rr j) := er ▸ b1
      rcases P.ahead j hj (kk i) b3 (P.mem i hi) with e | ⟨j', h1, e⟩
      · exact absurd (P.inj i j hi hj e) (fun e => hne e.symm)
      · have := P.inj i j' hi (by omega) e
        omega
/-- who stands where when those ahead of p have gone -/
def Occ (f : Nat → List Nat) (S : Nat → Prop) (n : Nat) (kk rr : Nat → Nat) (i0 p : Nat) : Nat → Prop := fun x => (S x ∧ ¬ ∃ j, j < p ∧ Go f n kk rr i0 j ∧ x = kk j) ∨ ∃ j, j < p ∧ Go f n kk rr i0 j ∧ x = rr j
theorem free_comes (sym : ∀ a b, b ∈ f a → a ∈ f b) (apart : ∀ x y, S x → y ∈ f x → ¬ S y) (P : Peeled f S n kk rr) (R : RootedA (fun a b => b ∈ f a) (kk i0) d) (h0 : i0 < n) : ∀ p, p ≤ i0 + 1 → Comes f S (Occ f S n kk rr i0 p)
  | 0, _ => by
    have e : Occ f S n kk rr i0 0 = S := by
      funext x
      refine propext ⟨?_, fun h => .inl ⟨h, fun ⟨j, hj, _⟩ => by omega⟩⟩
      rintro (h | ⟨j, hj, _⟩)
      · exact h.1
      · omega
    rw [e]
    exact .here
  | p + 1, hp => by
    have ih := free_comes sym apart P R h0 p (by omega)
    by_cases g : Go f n kk rr i0 p
    · obtain ⟨hpn, _, ev, hd⟩ := go_d sym P R h0 g
      have keep : S (kk p) ∧ ¬ ∃ j, j < p ∧ Go f n kk rr i0 j ∧ kk p = kk j := ⟨P.mem p hpn, fun ⟨j, hj, _, e⟩ => by
        have := P.inj p j hpn (by omega) e
        omega⟩
      refine .more ih ⟨kk p, rr p, .inl keep, P.out p hpn, ?_, ?_, ?_⟩
      · rintro (⟨h1, _⟩ | ⟨j, hj, gj, e⟩)
        · exact apart _ _ (P.mem p hpn) (P.out p hpn) h1
        · obtain ⟨hjn, _, evj, hdj⟩ := go_d sym P R h0 gj
          have b1 := sym _ _ (P.out p hpn)
          have b2 := sym _ _ (P.out j hjn)
          rw [← e] at b2 hdj
          have := R.up _ _ _ b1 b2 (by omega) (by omega)
          have := P.inj p j hpn hjn this
          omega
      · rintro x hx (⟨h1, h2⟩ | ⟨j, hj, gj, e⟩)
        · rcases P.ahead p hpn x hx h1 with e | ⟨j, hj, e⟩
          · exact e
          · refine absurd ⟨j, hj, ?_, e⟩ h2
            exact .step g (by omega) (e ▸ hx) (by omega)
        · obtain ⟨hjn, _, evj, hdj⟩ := go_d sym P R h0 gj
          have := R.step _ _ hx
          rw [e] at this
          omega
      · intro x
        constructor
        · rintro (⟨h1, h2⟩ | ⟨j, hj, gj, e⟩)
          · refine .inr ⟨.inl ⟨h1, fun ⟨j, hj, gj, e⟩ => h2 ⟨j, by omega, gj, e⟩⟩, fun e => h2 ⟨p, by omega, g, e⟩⟩
          · by_cases hjp : j = p
            · subst hjp
              exact .inl e
            · refine .inr ⟨.inr ⟨j, by omega, gj, e⟩, fun z => ?_⟩
              obtain ⟨hjn, _, evj, hdj⟩ := go_d sym P R h0 gj
              rw [← e, z] at hdj
              omega
        · rintro (e | ⟨h | ⟨j, hj, gj, e⟩, hne⟩)
          · exact .inr ⟨p, by omega, g, e⟩
          · refine .inl ⟨h.1, fun ⟨j, hj, gj, e⟩ => ?_⟩
            by_cases hjp : j = p
            · subst hjp
              exact hne e
            · exact h.2 ⟨j, by omega, gj, e⟩
          · exact .inr ⟨j, by omega, gj, e⟩
    · have e : Occ f S n kk rr i0 (p + 1) = Occ f S n kk rr i0 p := by
        funext x
        have z : ∀ (Q : Nat → Prop), (∃ j, j < p + 1 ∧ Go f n kk rr i0 j ∧ Q j) ↔ ∃ j, j < p ∧ Go f n kk rr i0 j ∧ Q j := fun Q => ⟨fun ⟨j, hj, gj, q⟩ => ⟨j, by
          have : j ≠ p := fun e => g (e ▸ gj)
          omega, gj, q⟩, fun ⟨j, hj, gj, q⟩ => ⟨j, by omega, gj, q⟩⟩
        unfold Occ
        rw [z, z]
      rw [e]
      exact ih
/-- who is peeled can be moved -/
theorem peeled_moves (sym : ∀ a b, b ∈ f a → a ∈ f b) (apart : ∀ x y, S x → y ∈ f x → ¬ S y) (P : Peeled f S n kk rr) (R : RootedA (fun a b => b ∈ f a) (kk i0) d) (h0 : i0 < n) : ∃ P', Comes f S P' ∧ ¬ P' (kk i0) := by
  refine ⟨_, free_comes sym apart P R h0 (i0 + 1) (Nat.le_refl _), ?_⟩
  rintro (⟨_, h⟩ | ⟨j, hj, gj, e⟩)
  · exact h ⟨i0, by omega, .base, rfl⟩
  · obtain ⟨_, _, ev, hd⟩ := go_d sym P R h0 gj
    rw [← e, R.zero] at hd
    omega
end
/-- a peel as a list, guard by guard -/
theorem peeled_of {f : Nat → List Nat} {st : List Nat} (nd : st.Nodup) : ∀ {ss : List Step}, peelOk f st ss → Peeled f (fun x => x ∈ st) ss.length (fun i => (ss.getD i (0, 0)).1) (fun i => (ss.getD i (0, 0)).2) := fun {ss} hp => by
  have at_ : ∀ i, i < ss.length → ∃ s, ss[i]? = some s ∧ ss.getD i (0, 0) = s ∧ s.1 ∈ after st (ss.take i) ∧ s.2 ∈ out f (after st (ss.take i)) s.1 := fun i hi => by
    refine ⟨ss[i], List.getElem?_eq_getElem hi, by rw [List.getD_eq_getElem?_getD, List.getElem?_eq_getElem hi]; rfl, ?_⟩
    have e := List.take_append_drop i ss
    rw [List.drop_eq_getElem_cons hi] at e
    rw [← e, peelOk_append] at hp
    have h1 := hp.2.1
    have h2 := hp.2.2.1
    have e2 : (ss.take i ++ ss[i] :: ss.drop (i + 1)).take i = ss.take i := by rw [e]
    exact ⟨h1, h2⟩
  refine ⟨fun i hi => ?_, fun i hi => ?_, fun i hi x hx hS => ?_, fun i j hi hj e => ?_⟩
  · obtain ⟨s, _, e, h1, _⟩ := at_ i hi
    rw [e]
    exact after_sub.subset h1
  · obtain ⟨s, _, e, _, h2⟩ := at_ i hi
    rw [e]
    exact (mem_out.mp h2).1
  · obtain ⟨s, _, e, _, h2⟩ := at_ i hi
    rw [e] at hx
    rw [e]
    by_cases hm : x ∈ after st (ss.take i)
    · exact .inl ((mem_out.mp h2).2 x hx hm)
    · right
      rw [mem_after nd] at hm
      have hk : x ∈ (ss.take i).map (·.1) := Classical.byContradiction fun z => hm ⟨hS, z⟩
      obtain ⟨t, ht, rfl⟩ := List.mem_map.mp hk
      obtain ⟨j, hj, ej⟩ := List.getElem_of_mem ht
      rw [List.length_take] at hj
      rw [List.getElem_take] at ej
      refine ⟨j, by omega, ?_⟩
      show t.1 = (ss.getD j (0, 0)).1
      rw [List.getD_eq_getElem?_getD, List.getElem?_eq_getElem (by omega), ← ej]
      rfl
  · have key : ∀ i j, i < j → j < ss.length → (ss.getD i (0, 0)).1 ≠ (ss.getD j (0, 0)).1 := fun i j hij hj e => by
      obtain ⟨s, es, e1, h1, _⟩ := at_ j hj
      rw [e1] at e
      rw [mem_after nd] at h1
      refine h1.2 (List.mem_map.mpr ⟨ss[i], ?_, ?_⟩)
      · refine List.mem_of_getElem? (i := i) ?_
        rw [List.getElem?_take_of_lt hij, List.getElem?_eq_getElem (by omega)]
      · rw [← e, List.getD_eq_getElem?_getD, List.getElem?_eq_getElem (by omega)]
        rfl
    rcases Nat.lt_trichotomy i j with h | h | h
    · exact absurd e (key i j h hj)
    · exact h
    · exact absurd e.symm (key j i h hi)
end GM

/-! What comes of a setting by slides, as lists; how many such there can be in ten rooms. -/
namespace GM
/-- all rising lists of numbers below n -/
def subs : Nat → List (List Nat)
  | 0 => [[]]
  | n + 1 => subs n ++ (subs n).map fun l => l ++ [n]
theorem mem_subs : ∀ (n : Nat) (l : List Nat), l.Pairwise (· < ·) → (∀ x ∈ l, x < n) → l ∈ subs n
  | 0, l, _, h => by
    cases l with
    | nil => simp [subs]
    | cons a r => exact absurd (h a List.mem_cons_self) (Nat.not_lt_zero _)
  | n + 1, l, up, h => by
    unfold subs
    rcases List.eq_nil_or_concat l with e | ⟨r, a, e⟩
    · rw [e]
      exact List.mem_append_left _ (mem_subs n [] List.Pairwise.nil fun x h => nomatch h)
    · rw [List.concat_eq_append] at e
      subst e
      rw [List.pairwise_append] at up
      obtain ⟨u1, _, u3⟩ := up
      have ha := h a (by simp)
      have hr : ∀ x ∈ r, x < a := fun x hx => u3 x hx a (by simp)
      by_cases ea : a = n
      · subst ea
        exact List.mem_append_right _ (List.mem_map.mpr ⟨r, mem_subs a r u1 hr, rfl⟩)
      · refine List.mem_append_left _ (mem_subs n _ ?_ fun x hx => ?_)
        · rw [List.pairwise_append]
          exact ⟨u1, List.pairwise_singleton _ _, u3⟩
        · rcases List.mem_append.mp hx with m | m
          · have := hr x m; omega
          · rw [List.mem_singleton.mp m]; omega
theorem sub_len {α : Type} [DecidableEq α] : ∀ {l m : List α}, l.Nodup → (∀ x ∈ l, x ∈ m) → l.length ≤ m.length
  | [], _, _, _ => Nat.zero_le _
  | a :: l, m, nd, h => by
    rw [List.nodup_cons] at nd
    have ha := h a List.mem_cons_self
    have ih := sub_len (l := l) (m := m.erase a) nd.2 fun x hx => by
      have ne : x ≠ a := fun e => nd.1 (e ▸ hx)
      exact (List.mem_erase_of_ne ne).mpr (h x (List.mem_cons_of_mem _ hx))
    rw [List.length_erase_of_mem ha] at ih
    have := List.length_pos_of_mem ha
    rw [List.length_cons]
    omega
theorem subs_many : ∀ m, m < 11 → ((subs 10).filter fun l => decide (l.length = m)).length ≤ 252 := by decide +kernel
/-- lots of as many guards in ten rooms -/
theorem lots_len {F : List (List Nat)} {m : Nat} (nd : F.Nodup) (h : ∀ l ∈ F, l.Pairwise (· < ·) ∧ (∀ x ∈ l, x < 10) ∧ l.length = m) : F.length ≤ 252 := by
  by_cases hm : m < 11
  · refine Nat.le_trans (sub_len nd fun l hl => ?_) (subs_many m hm)
    obtain ⟨h1, h2, h3⟩ := h l hl
    exact List.mem_filter.mpr ⟨mem_subs 10 l h1 h2, by simpa using h3⟩
  · cases F with
    | nil => exact Nat.zero_le _
    | cons l r =>
      obtain ⟨h1, h2, h3⟩ := h l List.mem_cons_self
      have := sub_len (m := List.range 10) (h1.imp fun h => Nat.ne_of_lt h) fun x hx => List.mem_range.mpr (h2 x hx)
      rw [List.length_range] at this
      omega
/-- a slide told by lists -/
def mv (S : List Nat) (a b : Nat) : List Nat := srt ((S.filter fun x => decide (x ≠ a)) ++ [b])
def Can (f : Nat → List Nat) (S : List Nat) (a b : Nat) : Prop := a ∈ S ∧ b ∈ f a ∧ ∀ x ∈ f b, x ∈ S → x = a
inductive Rch (f : Nat → List Nat) (S0 : List Nat) : List Nat → Prop
  | here : Rch f S0 S0
  | step {S : List Nat} {a b : Nat} : Rch f S0 S → Can f S a b → Rch f S0 (mv S a b)
theorem mem_mv {S : List Nat} {a b x : Nat} : x ∈ mv S a b ↔ x = b ∨ (x ∈ S ∧ x ≠ a) := by
  unfold mv
  rw [mem_srt, List.mem_append, List.mem_filter]
  simp only [decide_eq_true_eq, List.mem_singleton]
  exact Or.comm
section
variable {rs : List (List Nat)} (Gr : Graph rs)
include Gr
theorem can_new {S : List Nat} (St : Setting rs S) {a b : Nat} (c : Can (nb rs) S a b) : b ∉ S := fun m => St.apart a c.1 b m c.2.1
theorem mv_set {S : List Nat} (St : Setting rs S) {a b : Nat} (c : Can (nb rs) S a b) : Setting rs (mv S a b) where
  up := by
    unfold mv
    have nd : (srt ((S.filter fun x => decide (x ≠ a)) ++ [b])).Nodup := (srt_perm _).nodup_iff.mpr (List.nodup_append.mpr ⟨St.nd.filter _, by simp, fun x hx y hy e => by
      rw [List.mem_singleton.mp hy] at e
      rw [e] at hx
      exact can_new Gr St c (List.mem_filter.mp hx).1⟩)
    exact (srt_pw _).imp₂ (fun x y h k => by omega) nd
  lt := fun x hx => by
    rcases mem_mv.mp hx with e | ⟨h, _⟩
    · rw [e]; exact Gr.lt _ _ c.2.1
    · exact St.lt x h
  apart := fun x hx y hy m => by
    rcases mem_mv.mp hx with ex | ⟨h1, n1⟩
    · rcases mem_mv.mp hy with ey | ⟨h2, n2⟩
      · rw [ex, ey] at m
        exact Gr.irr _ m
      · rw [ex] at m
        exact n2 (c.2.2 y m h2)
    · rcases mem_mv.mp hy with ey | ⟨h2, n2⟩
      · rw [ey] at m
        exact n1 (c.2.2 x (Gr.sym _ _ m) h1)
      · exact St.apart x h1 y h2 m
theorem mv_len {S : List Nat} (St : Setting rs S) {a b : Nat} (c : Can (nb rs) S a b) : (mv S a b).length = S.length := by
  unfold mv
  rw [(srt_perm _).length_eq, List.length_append, List.length_singleton]
  have e : S.filter (fun x => decide (x ≠ a)) = S.erase a := by
    rw [St.nd.erase_eq_filter]
    apply List.filter_congr
    intro x _
    by_cases e : x = a <;> simp [e]
  rw [e, List.length_erase_of_mem c.1]
  have := List.length_pos_of_mem c.1
  omega
theorem rch_set {S0 S : List Nat} (S0t : Setting rs S0) (r : Rch (nb rs) S0 S) : Setting rs S ∧ S.length = S0.length := by
  induction r with
  | here => exact ⟨S0t, rfl⟩
  | step _ c ih => exact ⟨mv_set Gr ih.1 c, by rw [mv_len Gr ih.1 c, ih.2]⟩
/-- the told slide, as the program tells what is behind it -/
theorem mv_map {S : List Nat} (St : Setting rs S) {a b : Nat} (c : Can (nb rs) S a b) : srt (S.map fun x => if x = a then b else x) = mv S a b := by
  have nb' := can_new Gr St c
  have nd1 : (S.map fun x => if x = a then b else x).Nodup := by
    rw [List.nodup_iff_pairwise_ne]
    refine List.pairwise_map.mpr ((List.nodup_iff_pairwise_ne.mp St.nd).imp_of_mem fun {x y} hx hy ne e => ?_)
    by_cases h1 : x = a
    · by_cases h2 : y = a
      · exact ne (h1.trans h2.symm)
      · rw [if_pos h1, if_neg h2] at e
        exact nb' (e ▸ hy)
    · by_cases h2 : y = a
      · rw [if_neg h1, if_pos h2] at e
        exact nb' (e ▸ hx)
      · rw [if_neg h1, if_neg h2] at e
        exact ne e
  have nd2 : ((S.filter fun x => decide (x ≠ a)) ++ [b]).Nodup := List.nodup_append.mpr ⟨St.nd.filter _, by simp, fun x hx y hy e => by
    rw [List.mem_singleton.mp hy] at e
    rw [e] at hx
    exact nb' (List.mem_filter.mp hx).1⟩
  refine (srt_eq ?_ (srt_pw _))
  refine (srt_perm _).trans ((List.perm_ext_iff_of_nodup nd1 nd2).mpr fun x => ?_)
  rw [List.mem_map, List.mem_append, List.mem_filter, List.mem_singleton]
  simp only [decide_eq_true_eq]
  constructor
  · rintro ⟨y, hy, e⟩
    by_cases h : y = a
    · rw [if_pos h] at e
      exact .inr e.symm
    · rw [if_neg h] at e
      subst e
      exact .inl ⟨hy, h⟩
  · rintro (⟨h1, h2⟩ | e)
    · exact ⟨x, h1, if_neg h2⟩
    · exact ⟨a, c.1, by rw [if_pos rfl, e]⟩
theorem rch_comes {S0 S : List Nat} (S0t : Setting rs S0) (r : Rch (nb rs) S0 S) : Comes (nb rs) (fun x => x ∈ S0) (fun x => x ∈ S) := by
  induction r with
  | here => exact .here
  | step r c ih =>
    rename_i S a b
    exact .more ih ⟨a, b, c.1, c.2.1, can_new Gr (rch_set Gr S0t r).1 c, c.2.2, fun x => mem_mv⟩
theorem comes_rch {S0 : List Nat} (S0t : Setting rs S0) {P : Nat → Prop} (h : Comes (nb rs) (fun x => x ∈ S0) P) : ∃ S, Rch (nb rs) S0 S ∧ ∀ x, x ∈ S ↔ P x := by
  induction h with
  | here => exact ⟨S0, .here, fun x => Iff.rfl⟩
  | more c s ih =>
    obtain ⟨S, r, e⟩ := ih
    obtain ⟨a, b, h1, h2, h3, h4, h5⟩ := s
    have c' : Can (nb rs) S a b := ⟨(e a).mpr h1, h2, fun x hx hS => h4 x hx ((e x).mp hS)⟩
    refine ⟨mv S a b, .step r c', fun x => ?_⟩
    rw [mem_mv, h5 x, e x]
theorem mv_back {S : List Nat} (St : Setting rs S) {a b : Nat} (c : Can (nb rs) S a b) : Can (nb rs) (mv S a b) b a ∧ mv (mv S a b) b a = S := by
  have nb' := can_new Gr St c
  have c' : Can (nb rs) (mv S a b) b a := ⟨mem_mv.mpr (.inl rfl), Gr.sym _ _ c.2.1, fun x hx hS => by
    rcases mem_mv.mp hS with e | ⟨h, _⟩
    · exact e
    · exact absurd hx (St.apart a c.1 x h)⟩
  refine ⟨c', ?_⟩
  have S2 := mv_set Gr (mv_set Gr St c) c'
  refine pw_perm_eq ((List.perm_ext_iff_of_nodup S2.nd St.nd).mpr fun x => ?_) (S2.up.imp fun h => Nat.le_of_lt h) (St.up.imp fun h => Nat.le_of_lt h)
  rw [mem_mv, mem_mv]
  constructor
  · rintro (e | ⟨e | ⟨h, _⟩, n⟩)
    · rw [e]; exact c.1
    · exact absurd e n
    · exact h
  · intro h
    by_cases e : x = a
    · exact .inl e
    · exact .inr ⟨.inr ⟨h, e⟩, fun z => nb' (z ▸ h)⟩
theorem rch_trans {S0 S1 S2 : List Nat} (h : Rch (nb rs) S0 S1) (k : Rch (nb rs) S1 S2) : Rch (nb rs) S0 S2 := by
  induction k with
  | here => exact h
  | step _ c ih => exact .step ih c
theorem rch_back {S0 S : List Nat} (S0t : Setting rs S0) (r : Rch (nb rs) S0 S) : Rch (nb rs) S S0 := by
  induction r with
  | here => exact .here
  | step r c ih =>
    obtain ⟨c', e⟩ := mv_back Gr (rch_set Gr S0t r).1 c
    have := Rch.step (f := nb rs) .here c'
    rw [e] at this
    exact rch_trans Gr this ih
end
/-- a list that holds what all in it lead to holds all that comes -/
theorem rch_all {f : Nat → List Nat} {S0 : List Nat} {F : List (List Nat)} (h0 : S0 ∈ F) (cl : ∀ S ∈ F, ∀ a b, Can f S a b → mv S a b ∈ F) {S : List Nat} (r : Rch f S0 S) : S ∈ F := by
  induction r with
  | here => exact h0
  | step _ c ih => exact cl _ ih _ _ c
end GM

/-! The lock is just who stands in all that comes. -/
namespace GM
def LockD (f : Nat → List Nat) (S : List Nat) : Prop := ∀ g ∈ S, ∀ r ∈ f g, ∃ x ∈ f r, x ∈ S ∧ x ≠ g
theorem set_sub {rs : List (List Nat)} {S T : List Nat} (St : Setting rs S) (h : T.Sublist S) : Setting rs T where
  up := St.up.sublist h
  lt := fun x hx => St.lt x (h.subset hx)
  apart := fun x hx y hy => St.apart x (h.subset hx) y (h.subset hy)
theorem rising_eq {l m : List Nat} (hl : l.Pairwise (· < ·)) (hm : m.Pairwise (· < ·)) (h : ∀ x, x ∈ l ↔ x ∈ m) : l = m :=
  pw_perm_eq ((List.perm_ext_iff_of_nodup (hl.imp fun h => Nat.ne_of_lt h) (hm.imp fun h => Nat.ne_of_lt h)).mpr h) (hl.imp fun h => Nat.le_of_lt h) (hm.imp fun h => Nat.le_of_lt h)
def Rooted (rs : List (List Nat)) : Prop := ∀ g, g < rs.length → ∃ d, RootedA (fun a b => b ∈ nb rs a) g d
section
variable {rs : List (List Nat)} (Gr : Graph rs) (Ro : Rooted rs)
include Gr
theorem lock_rch {S L T : List Nat} (St : Setting rs S) (h : LockD (nb rs) L) (hs : ∀ x ∈ L, x ∈ S) (r : Rch (nb rs) S T) : ∀ x ∈ L, x ∈ T :=
  lock_stays (f := nb rs) (L := fun x => x ∈ L) h (rch_comes Gr St r) hs
include Ro
theorem told_iff {S : List Nat} {ss : List Step} (St : Setting rs S) (hp : peelOk (nb rs) S ss) (hs : Stuck (nb rs) (after S ss)) (g : Nat) : g ∈ after S ss ↔ ∀ T, Rch (nb rs) S T → g ∈ T := by
  constructor
  · exact fun h T r => lock_rch Gr St (stuck_lock hs) (fun x hx => after_sub.subset hx) r g h
  · intro h
    apply Classical.byContradiction
    intro n
    have gS := h S .here
    have gk : g ∈ ss.map (·.1) := Classical.byContradiction fun z => n ((mem_after St.nd).mpr ⟨gS, z⟩)
    obtain ⟨s, hs1, e⟩ := List.mem_map.mp gk
    obtain ⟨i, hi, ei⟩ := List.getElem_of_mem hs1
    have P := peeled_of St.nd hp
    have ek : (ss.getD i (0, 0)).1 = g := by
      rw [List.getD_eq_getElem?_getD, List.getElem?_eq_getElem hi]
      show (ss[i]).1 = g
      rw [ei, e]
    obtain ⟨d, R⟩ := Ro g (St.lt g gS)
    obtain ⟨P', c, nP⟩ := peeled_moves (S := fun x => x ∈ S) (d := d) Gr.sym (fun x y hx hy hS => St.apart x hx y hS hy) P (by rw [ek]; exact R) hi
    obtain ⟨T, r, eT⟩ := comes_rch Gr St c
    rw [ek] at nP
    exact nP ((eT g).mp (h T r))
theorem lot_told {S L : List Nat} {ss : List Step} (St : Setting rs S) (hp : peelOk (nb rs) S ss) (hs : Stuck (nb rs) (after S ss)) (h : LockD (nb rs) L) (hL : ∀ x ∈ L, x ∈ S) : ∀ x ∈ L, x ∈ after S ss := fun x hx =>
  (told_iff Gr Ro St hp hs x).mpr fun T r => lock_rch Gr St h hL r x hx
/-- told the same of all that comes -/
theorem told_same {S T : List Nat} {ss tt : List Step} (St : Setting rs S) (hp : peelOk (nb rs) S ss) (hs : Stuck (nb rs) (after S ss)) (r : Rch (nb rs) S T) (hp2 : peelOk (nb rs) T tt) (hs2 : Stuck (nb rs) (after T tt)) : after T tt = after S ss := by
  have Tt := (rch_set Gr St r).1
  refine rising_eq (Tt.up.sublist after_sub) (St.up.sublist after_sub) fun x => ?_
  rw [told_iff Gr Ro St hp hs, told_iff Gr Ro Tt hp2 hs2]
  exact ⟨fun h U u => h U (rch_trans Gr (rch_back Gr St r) u), fun h U u => h U (rch_trans Gr r u)⟩
/-- told as the law tells it -/
theorem told_due {S : List Nat} {ss : List Step} {FS : List (List Nat)} (St : Setting rs S) (hp : peelOk (nb rs) S ss) (hs : Stuck (nb rs) (after S ss)) (m : ∀ T, T ∈ FS ↔ Rch (nb rs) S T) : after S ss = S.filter fun g => (FS.filter fun T => decide (g ∉ T)).isEmpty := by
  refine rising_eq (St.up.sublist after_sub) (St.up.sublist List.filter_sublist) fun x => ?_
  rw [told_iff Gr Ro St hp hs, List.mem_filter, List.isEmpty_iff, List.filter_eq_nil_iff]
  constructor
  · exact fun h => ⟨h S .here, fun T hT z => of_decide_eq_true z (h T ((m T).mp hT))⟩
  · exact fun ⟨_, h⟩ T r => Classical.byContradiction fun z => h T ((m T).mpr r) (decide_eq_true z)
end
/-- a lock has no peel -/
theorem stuck_self {f : Nat → List Nat} {L : List Nat} {ss : List Step} (h : Stuck f L) (hp : peelOk f L ss) : after L ss = L := by
  cases ss with
  | nil => rfl
  | cons s r =>
    have := hp.2.1
    rw [h s.1 hp.1] at this
    cases this
theorem rooted_rows {told : List Nat} {ws : List Way} (G : Grown told ws) : Rooted (rows ws) := fun g hg => by
  rw [rows_length] at hg
  obtain ⟨d, R, _⟩ := rooted G hg
  exact ⟨d, R⟩
end GM

/-! A peel, guard by guard, as a function; and who goes ahead of a guard, so that he can go. -/
namespace GM
def stp (f : Nat → List Nat) (st : List Nat) (ss : List Step) (g : Nat) : List Step :=
  match out f (after st ss) g with
  | [] => ss
  | x :: _ => ss ++ [(g, x)]
def pass (f : Nat → List Nat) (st l : List Nat) (ss : List Step) : List Step := l.foldl (stp f st) ss
def laps (f : Nat → List Nat) (st : List Nat) : Nat → List Step
  | 0 => []
  | n + 1 => pass f st (after st (laps f st n)) (laps f st n)
/-- what the laps end with -/
def Res (f : Nat → List Nat) (st : List Nat) (ss : List Step) : Prop := ∃ n, ss = laps f st n ∧ pass f st (after st ss) ss = ss
theorem stp_nil {f : Nat → List Nat} {st : List Nat} {ss : List Step} {g : Nat} (h : out f (after st ss) g = []) : stp f st ss g = ss := by
  unfold stp
  rw [h]
theorem stp_cons {f : Nat → List Nat} {st : List Nat} {ss : List Step} {g r : Nat} {l : List Nat} (h : out f (after st ss) g = r :: l) : stp f st ss g = ss ++ [(g, r)] := by
  unfold stp
  rw [h]
theorem pass_snoc {f : Nat → List Nat} {st l : List Nat} {ss : List Step} {g : Nat} : pass f st (l ++ [g]) ss = stp f st (pass f st l ss) g := by
  unfold pass
  rw [List.foldl_append]
  rfl
theorem pass_stuck {f : Nat → List Nat} {st : List Nat} {ss : List Step} (h : Stuck f (after st ss)) : ∀ {l : List Nat}, (∀ g ∈ l, g ∈ after st ss) → pass f st l ss = ss
  | [], _ => rfl
  | g :: r, hl => by
    show pass f st r (stp f st ss g) = ss
    rw [stp_nil (h g (hl g List.mem_cons_self))]
    exact pass_stuck h fun x hx => hl x (List.mem_cons_of_mem _ hx)
theorem res_det {f : Nat → List Nat} {st : List Nat} {a b : List Step} (ha : Res f st a) (hb : Res f st b) : a = b := by
  have key : ∀ {n m : Nat}, n ≤ m → pass f st (after st (laps f st n)) (laps f st n) = laps f st n → laps f st m = laps f st n := by
    intro n m h e
    induction h with
    | refl => rfl
    | step _ ih =>
      show pass f st (after st (laps f st _)) (laps f st _) = _
      rw [ih]
      exact e
  obtain ⟨n, rfl, hn⟩ := ha
  obtain ⟨m, rfl, hm⟩ := hb
  rcases Nat.le_total n m with h | h
  · exact (key h hn).symm
  · exact key h hm
/-- the room out of a guard -/
def rmOf (ss : List Step) (g : Nat) : Nat := ((ss.find? fun s => decide (s.1 = g)).getD (0, 0)).2
/-- who must go ahead of g, with g -/
inductive Goes (f : Nat → List Nat) (ss : List Step) (g : Nat) : Nat → Prop
  | base : Goes f ss g g
  | step {a b : Nat} : Goes f ss g a → b ∈ f (rmOf ss a) → b ∈ ss.map (·.1) → b ≠ a → Goes f ss g b
noncomputable def goesB (f : Nat → List Nat) (ss : List Step) (g x : Nat) : Bool := @decide (Goes f ss g x) (Classical.propDecidable _)
theorem goesB_iff {f : Nat → List Nat} {ss : List Step} {g x : Nat} : goesB f ss g x = true ↔ Goes f ss g x := by
  unfold goesB
  exact @decide_eq_true_iff _ (Classical.propDecidable _)
noncomputable def slidesOf (f : Nat → List Nat) (ss : List Step) (g : Nat) : List Step := ss.filter fun s => goesB f ss g s.1
def kkOf (ss : List Step) (i : Nat) : Nat := (ss.getD i (0, 0)).1
def rrOf (ss : List Step) (i : Nat) : Nat := (ss.getD i (0, 0)).2
def toGo (f : Nat → List Nat) (ss : List Step) (a : Nat) : List Nat := (f (rmOf ss a)).filter fun x => decide (x ∈ ss.map (·.1)) && decide (x ≠ a)
theorem mem_toGo {f : Nat → List Nat} {ss : List Step} {a x : Nat} : x ∈ toGo f ss a ↔ x ∈ f (rmOf ss a) ∧ x ∈ ss.map (·.1) ∧ x ≠ a := by
  unfold toGo
  rw [List.mem_filter, Bool.and_eq_true, decide_eq_true_iff, decide_eq_true_iff]
section
variable {f : Nat → List Nat} {ss : List Step} {S : Nat → Prop} {d : Nat → Nat} {i0 : Nat}
theorem at_of {x : Nat} (h : x ∈ ss.map (·.1)) : ∃ i, i < ss.length ∧ kkOf ss i = x := by
  obtain ⟨s, hs, rfl⟩ := List.mem_map.mp h
  obtain ⟨i, hi, e⟩ := List.getElem_of_mem hs
  refine ⟨i, hi, ?_⟩
  unfold kkOf
  rw [List.getD_eq_getElem?_getD, List.getElem?_eq_getElem hi, e]
  rfl
theorem kk_mem {i : Nat} (h : i < ss.length) : kkOf ss i ∈ ss.map (·.1) := by
  unfold kkOf
  rw [List.getD_eq_getElem?_getD, List.getElem?_eq_getElem h]
  exact List.mem_map_of_mem (List.getElem_mem h)
theorem rm_at (P : Peeled f S ss.length (kkOf ss) (rrOf ss)) {i : Nat} (h : i < ss.length) : rmOf ss (kkOf ss i) = rrOf ss i := by
  unfold rmOf
  cases e : ss.find? fun s => decide (s.1 = kkOf ss i) with
  | none =>
    exfalso
    have := List.find?_eq_none.mp e (ss[i]) (List.getElem_mem h)
    apply this
    unfold kkOf
    rw [List.getD_eq_getElem?_getD, List.getElem?_eq_getElem h]
    exact decide_eq_true rfl
  | some s =>
    have h1 := List.find?_some e
    have h2 := List.mem_of_find?_eq_some e
    obtain ⟨j, hj, ej⟩ := List.getElem_of_mem h2
    have ek : kkOf ss j = s.1 := by
      unfold kkOf
      rw [List.getD_eq_getElem?_getD, List.getElem?_eq_getElem hj, ej]
      rfl
    have := P.inj j i hj h (ek.trans (of_decide_eq_true h1))
    subst this
    unfold rrOf
    rw [List.getD_eq_getElem?_getD, List.getElem?_eq_getElem hj, ej]
theorem goes_iff (P : Peeled f S ss.length (kkOf ss) (rrOf ss)) (h0 : i0 < ss.length) {x : Nat} : Goes f ss (kkOf ss i0) x ↔ ∃ i, i < ss.length ∧ Go f ss.length (kkOf ss) (rrOf ss) i0 i ∧ kkOf ss i = x := by
  constructor
  · intro h
    induction h with
    | base => exact ⟨i0, h0, .base, rfl⟩
    | step _ hb hm hne ih =>
      obtain ⟨i, hi, g, rfl⟩ := ih
      obtain ⟨j, hj, rfl⟩ := at_of hm
      rw [rm_at P hi] at hb
      exact ⟨j, hj, .step g hj hb (fun e => hne (by rw [e])), rfl⟩
  · rintro ⟨i, hi, g, rfl⟩
    clear hi
    induction g with
    | base => exact .base
    | step g hj hf hne ih =>
      rename_i i j
      have hi : i < ss.length := by
        cases g with
        | base => exact h0
        | step _ h _ _ => exact h
      refine .step ih (by rw [rm_at P hi]; exact hf) (kk_mem hj) fun e => hne (P.inj _ _ hj hi e)
variable (sym : ∀ a b, b ∈ f a → a ∈ f b) (P : Peeled f S ss.length (kkOf ss) (rrOf ss)) (R : RootedA (fun a b => b ∈ f a) (kkOf ss i0) d) (h0 : i0 < ss.length)
include sym P R h0
theorem go_far {a b : Nat} (ha : Goes f ss (kkOf ss i0) a) (hb : b ∈ toGo f ss a) : d b = d (rmOf ss a) + 1 ∧ a ∈ f (rmOf ss a) ∧ d (rmOf ss a) = d a + 1 := by
  obtain ⟨i, hi, gi, rfl⟩ := (goes_iff P h0).mp ha
  obtain ⟨hf, hm, hne⟩ := mem_toGo.mp hb
  obtain ⟨_, _, _, hd⟩ := go_d sym P R h0 gi
  rw [rm_at P hi] at hf ⊢
  have b1 := sym _ _ (P.out i hi)
  refine ⟨?_, b1, hd⟩
  rcases R.step _ _ hf with e | e
  · exact e
  · exact absurd (R.up _ _ _ b1 hf (by omega) (by omega)) (fun e => hne e.symm)
/-- nobody is met twice -/
theorem go_once {a c b : Nat} (ha : Goes f ss (kkOf ss i0) a) (hc : Goes f ss (kkOf ss i0) c) (hb : b ∈ toGo f ss a) (hb2 : b ∈ toGo f ss c) : a = c := by
  obtain ⟨e1, m1, d1⟩ := go_far sym P R h0 ha hb
  obtain ⟨e2, m2, d2⟩ := go_far sym P R h0 hc hb2
  have r : rmOf ss a = rmOf ss c := R.up _ _ _ (sym _ _ (mem_toGo.mp hb).1) (sym _ _ (mem_toGo.mp hb2).1) (by omega) (by omega)
  rw [r] at m1 d1
  exact R.up _ _ _ m1 m2 (by omega) (by omega)
theorem go_not0 {a : Nat} (ha : Goes f ss (kkOf ss i0) a) : kkOf ss i0 ∉ toGo f ss a := fun hb => by
  have := (go_far sym P R h0 ha hb).1
  rw [R.zero] at this
  omega
end
/-- what is met, what is still to do -/
structure Walk (f : Nat → List Nat) (ss : List Step) (g : Nat) (gl td : List Nat) : Prop where
  nd : gl.Nodup
  ndT : td.Nodup
  sub : ∀ x ∈ td, x ∈ gl
  goes : ∀ x ∈ gl, Goes f ss g x
  first : g ∈ gl
  done : ∀ x ∈ gl, x ∉ td → ∀ y ∈ toGo f ss x, y ∈ gl
  from_ : ∀ x ∈ gl, x ≠ g → ∃ p ∈ gl, p ∉ td ∧ x ∈ toGo f ss p
theorem walk_start {f : Nat → List Nat} {ss : List Step} {g : Nat} : Walk f ss g [g] [g] where
  nd := List.nodup_cons.mpr ⟨by simp, List.nodup_nil⟩
  ndT := List.nodup_cons.mpr ⟨by simp, List.nodup_nil⟩
  sub := fun x h => h
  goes := fun x h => by rw [List.mem_singleton.mp h]; exact .base
  first := List.mem_cons_self
  done := fun x h n => absurd h n
  from_ := fun x h n => absurd (List.mem_singleton.mp h) n
section
variable {f : Nat → List Nat} {ss : List Step} {S : Nat → Prop} {d : Nat → Nat} {i0 : Nat}
variable (sym : ∀ a b, b ∈ f a → a ∈ f b) (ndf : ∀ r, (f r).Nodup) (P : Peeled f S ss.length (kkOf ss) (rrOf ss)) (R : RootedA (fun a b => b ∈ f a) (kkOf ss i0) d) (h0 : i0 < ss.length)
include sym P R h0
theorem walk_fresh {gl td : List Nat} {one : Nat} (W : Walk f ss (kkOf ss i0) gl (td ++ [one])) : ∀ y ∈ toGo f ss one, y ∉ gl := fun y hy hg => by
  have g1 := W.goes one (W.sub one (by simp))
  have ny : y ≠ kkOf ss i0 := fun e => go_not0 sym P R h0 g1 (e ▸ hy)
  obtain ⟨p, hp, np, hyp⟩ := W.from_ y hg ny
  have := go_once sym P R h0 g1 (W.goes p hp) hy hyp
  subst this
  exact np (by simp)
include ndf
theorem walk_step {gl td : List Nat} {one : Nat} (W : Walk f ss (kkOf ss i0) gl (td ++ [one])) : Walk f ss (kkOf ss i0) (gl ++ toGo f ss one) (td ++ toGo f ss one) := by
  have fr := walk_fresh sym P R h0 W
  have g1 := W.goes one (W.sub one (by simp))
  have o1 : one ∈ gl := W.sub one (by simp)
  have ot : one ∉ td := fun h => by
    have := W.ndT
    rw [List.nodup_append] at this
    exact this.2.2 one h one (by simp) rfl
  have oc : one ∉ toGo f ss one := fun h => (mem_toGo.mp h).2.2 rfl
  have nc : (toGo f ss one).Nodup := (ndf _).filter _
  refine ⟨?_, ?_, ?_, ?_, ?_, ?_, ?_⟩
  · rw [List.nodup_append]
    exact ⟨W.nd, nc, fun a ha b hb e => fr b hb (e ▸ ha)⟩
  · rw [List.nodup_append]
    exact ⟨(List.nodup_append.mp W.ndT).1, nc, fun a ha b hb e => fr b hb (e ▸ W.sub a (by simp [ha]))⟩
  · intro x hx
    rcases List.mem_append.mp hx with h | h
    · exact List.mem_append.mpr (.inl (W.sub x (by simp [h])))
    · exact List.mem_append.mpr (.inr h)
  · intro x hx
    rcases List.mem_append.mp hx with h | h
    · exact W.goes x h
    · obtain ⟨a, b, c⟩ := mem_toGo.mp h
      exact .step g1 a b c
  · exact List.mem_append.mpr (.inl W.first)
  · intro x hx nx y hy
    rcases List.mem_append.mp hx with h | h
    · by_cases e : x = one
      · subst e
        exact List.mem_append.mpr (.inr hy)
      · exact List.mem_append.mpr (.inl (W.done x h (fun z => by
          rcases List.mem_append.mp z with z | z
          · exact nx (List.mem_append.mpr (.inl z))
          · exact e (List.mem_singleton.mp z)) y hy))
    · exact absurd (List.mem_append.mpr (.inr h)) nx
  · intro x hx nx
    rcases List.mem_append.mp hx with h | h
    · obtain ⟨p, hp, np, hy⟩ := W.from_ x h nx
      refine ⟨p, List.mem_append.mpr (.inl hp), fun z => ?_, hy⟩
      rcases List.mem_append.mp z with z | z
      · exact np (by simp [z])
      · exact fr p z hp
    · refine ⟨one, List.mem_append.mpr (.inl o1), fun z => ?_, h⟩
      rcases List.mem_append.mp z with z | z
      · exact ot z
      · exact oc z
end
theorem walk_end {f : Nat → List Nat} {ss : List Step} {g : Nat} {gl : List Nat} (W : Walk f ss g gl []) (x : Nat) : x ∈ gl ↔ Goes f ss g x := by
  refine ⟨W.goes x, fun h => ?_⟩
  induction h with
  | base => exact W.first
  | step _ hb hm hne ih => exact W.done _ ih (by simp) _ (mem_toGo.mpr ⟨hb, hm, hne⟩)
theorem walk_len {f : Nat → List Nat} {ss : List Step} {S : Nat → Prop} {i0 : Nat} {gl td : List Nat} (P : Peeled f S ss.length (kkOf ss) (rrOf ss)) (h0 : i0 < ss.length) (W : Walk f ss (kkOf ss i0) gl td) : gl.length ≤ ss.length ∧ td.length ≤ gl.length := by
  have : ∀ x ∈ gl, x ∈ ss.map (·.1) := fun x hx => by
    obtain ⟨i, hi, _, rfl⟩ := (goes_iff P h0).mp (W.goes x hx)
    exact kk_mem hi
  have h1 := sub_len W.nd this
  rw [List.length_map] at h1
  exact ⟨h1, sub_len W.ndT W.sub⟩
/-- slides one behind the other, done on a list -/
def doneL (l : List Nat) (ms : List Step) : List Nat := ms.foldl (fun l s => l.erase s.1 ++ [s.2]) l
def DoneOk (f : Nat → List Nat) : List Nat → List Step → Prop
  | _, [] => True
  | l, s :: r => s.1 ∈ l ∧ s.2 ∈ f s.1 ∧ (∀ x ∈ f s.2, x ∉ l.erase s.1) ∧ DoneOk f (l.erase s.1 ++ [s.2]) r
theorem doneL_append {l : List Nat} {a b : List Step} : doneL l (a ++ b) = doneL (doneL l a) b := List.foldl_append ..
theorem doneOk_append {f : Nat → List Nat} : ∀ {a b : List Step} {l : List Nat}, DoneOk f l (a ++ b) ↔ DoneOk f l a ∧ DoneOk f (doneL l a) b
  | [], b, l => by simp [DoneOk, doneL]
  | s :: r, b, l => by
    show (_ ∧ _ ∧ _ ∧ DoneOk f _ (r ++ b)) ↔ (_ ∧ _ ∧ _ ∧ DoneOk f _ r) ∧ DoneOk f (doneL (l.erase s.1 ++ [s.2]) r) b
    rw [doneOk_append]
    exact ⟨fun ⟨a, b, c, d, e⟩ => ⟨⟨a, b, c, d⟩, e⟩, fun ⟨⟨a, b, c, d⟩, e⟩ => ⟨a, b, c, d, e⟩⟩
section
variable {f : Nat → List Nat} {S : Nat → Prop} {n i0 : Nat} {kk rr d : Nat → Nat}
/-- the next slide, where those ahead have gone -/
theorem free_step (sym : ∀ a b, b ∈ f a → a ∈ f b) (apart : ∀ x y, S x → y ∈ f x → ¬ S y) (P : Peeled f S n kk rr) (R : RootedA (fun a b => b ∈ f a) (kk i0) d) (h0 : i0 < n) {p : Nat} (g : Go f n kk rr i0 p) :
    Occ f S n kk rr i0 p (kk p) ∧ rr p ∈ f (kk p) ∧ ¬ Occ f S n kk rr i0 p (rr p) ∧ (∀ x ∈ f (rr p), Occ f S n kk rr i0 p x → x = kk p) ∧ ∀ x, Occ f S n kk rr i0 (p + 1) x ↔ (x = rr p ∨ (Occ f S n kk rr i0 p x ∧ x ≠ kk p)) := by
  obtain ⟨hpn, _, ev, hd⟩ := go_d sym P R h0 g
  have keep : S (kk p) ∧ ¬ ∃ j, j < p ∧ Go f n kk rr i0 j ∧ kk p = kk j := ⟨P.mem p hpn, fun ⟨j, hj, _, e⟩ => by
    have := P.inj p j hpn (by omega) e
    omega⟩
  refine ⟨.inl keep, P.out p hpn, ?_, ?_, ?_⟩
  · rintro (⟨h1, _⟩ | ⟨j, hj, gj, e⟩)
    · exact apart _ _ (P.mem p hpn) (P.out p hpn) h1
    · obtain ⟨hjn, _, evj, hdj⟩ := go_d sym P R h0 gj
      have b1 := sym _ _ (P.out p hpn)
      have b2 := sym _ _ (P.out j hjn)
      rw [← e] at b2 hdj
      have := R.up _ _ _ b1 b2 (by omega) (by omega)
      have := P.inj p j hpn hjn this
      omega
  · rintro x hx (⟨h1, h2⟩ | ⟨j, hj, gj, e⟩)
    · rcases P.ahead p hpn x hx h1 with e | ⟨j, hj, e⟩
      · exact e
      · refine absurd ⟨j, hj, ?_, e⟩ h2
        exact .step g (by omega) (e ▸ hx) (by omega)
    · obtain ⟨hjn, _, evj, hdj⟩ := go_d sym P R h0 gj
      have := R.step _ _ hx
      rw [e] at this
      omega
  · intro x
    constructor
    · rintro (⟨h1, h2⟩ | ⟨j, hj, gj, e⟩)
      · refine .inr ⟨.inl ⟨h1, fun ⟨j, hj, gj, e⟩ => h2 ⟨j, by omega, gj, e⟩⟩, fun e => h2 ⟨p, by omega, g, e⟩⟩
      · by_cases hjp : j = p
        · subst hjp
          exact .inl e
        · refine .inr ⟨.inr ⟨j, by omega, gj, e⟩, fun z => ?_⟩
          obtain ⟨hjn, _, evj, hdj⟩ := go_d sym P R h0 gj
          rw [← e, z] at hdj
          omega
    · rintro (e | ⟨h | ⟨j, hj, gj, e⟩, hne⟩)
      · exact .inr ⟨p, by omega, g, e⟩
      · refine .inl ⟨h.1, fun ⟨j, hj, gj, e⟩ => ?_⟩
        by_cases hjp : j = p
        · subst hjp
          exact hne e
        · exact h.2 ⟨j, by omega, gj, e⟩
      · exact .inr ⟨j, by omega, gj, e⟩
theorem free_stay {p : Nat} (g : ¬ Go f n kk rr i0 p) (x : Nat) : Occ f S n kk rr i0 (p + 1) x ↔ Occ f S n kk rr i0 p x := by
  have z : ∀ (Q : Nat → Prop), (∃ j, j < p + 1 ∧ Go f n kk rr i0 j ∧ Q j) ↔ ∃ j, j < p ∧ Go f n kk rr i0 j ∧ Q j := fun Q => ⟨fun ⟨j, hj, gj, q⟩ => ⟨j, by
    have : j ≠ p := fun e => g (e ▸ gj)
    omega, gj, q⟩, fun ⟨j, hj, gj, q⟩ => ⟨j, by omega, gj, q⟩⟩
  unfold Occ
  rw [z, z]
theorem occ0 (x : Nat) : Occ f S n kk rr i0 0 x ↔ S x := by
  constructor
  · rintro (h | ⟨j, hj, _⟩)
    · exact h.1
    · omega
  · exact fun h => .inl ⟨h, fun ⟨j, hj, _⟩ => by omega⟩
end
section
variable {rs : List (List Nat)} (Gr : Graph rs) (Ro : Rooted rs)
include Gr Ro
/-- the slides told for a guard who isn't locked -/
theorem slides_right {st : List Nat} {ss : List Step} {i0 : Nat} (St : Setting rs st) (hp : peelOk (nb rs) st ss) (h0 : i0 < ss.length) :
    DoneOk (nb rs) st (slidesOf (nb rs) ss (kkOf ss i0)) ∧ ∃ S', Rch (nb rs) st S' ∧ (doneL st (slidesOf (nb rs) ss (kkOf ss i0))).Perm S' := by
  have P : Peeled (nb rs) (fun x => x ∈ st) ss.length (kkOf ss) (rrOf ss) := peeled_of St.nd hp
  obtain ⟨d, R⟩ := Ro (kkOf ss i0) (St.lt _ (P.mem i0 h0))
  have apart : ∀ x y, x ∈ st → y ∈ nb rs x → ¬ y ∈ st := fun x y hx hy hS => St.apart x hx y hS hy
  have key : ∀ p, p ≤ ss.length → DoneOk (nb rs) st ((ss.take p).filter fun s => goesB (nb rs) ss (kkOf ss i0) s.1) ∧ (doneL st ((ss.take p).filter fun s => goesB (nb rs) ss (kkOf ss i0) s.1)).Nodup ∧
      (∀ x, x ∈ doneL st ((ss.take p).filter fun s => goesB (nb rs) ss (kkOf ss i0) s.1) ↔ Occ (nb rs) (fun x => x ∈ st) ss.length (kkOf ss) (rrOf ss) i0 p x) ∧ Comes (nb rs) (fun x => x ∈ st) (Occ (nb rs) (fun x => x ∈ st) ss.length (kkOf ss) (rrOf ss) i0 p) := by
    intro p
    induction p with
    | zero =>
      intro _
      refine ⟨True.intro, St.nd, fun x => (occ0 x).symm, ?_⟩
      have e : Occ (nb rs) (fun x => x ∈ st) ss.length (kkOf ss) (rrOf ss) i0 0 = fun x => x ∈ st := funext fun x => propext (occ0 x)
      rw [e]
      exact .here
    | succ p ih =>
      intro hp1
      obtain ⟨k1, k2, k3, k4⟩ := ih (by omega)
      have hpl : p < ss.length := by omega
      have ek : ss[p]? = some (kkOf ss p, rrOf ss p) := by
        unfold kkOf rrOf
        rw [List.getD_eq_getElem?_getD, List.getElem?_eq_getElem hpl]
        rfl
      have et : ss.take (p + 1) = ss.take p ++ [(kkOf ss p, rrOf ss p)] := by
        rw [List.take_add_one, ek]
        rfl
      rw [et, List.filter_append]
      by_cases hg : goesB (nb rs) ss (kkOf ss i0) (kkOf ss p) = true
      · have gp : Go (nb rs) ss.length (kkOf ss) (rrOf ss) i0 p := by
          obtain ⟨i, hi, gi, e⟩ := (goes_iff P h0).mp (goesB_iff.mp hg)
          have := P.inj i p hi hpl e
          subst this
          exact gi
        obtain ⟨o1, o2, o3, o4, o5⟩ := free_step Gr.sym apart P R h0 gp
        have ef : ([(kkOf ss p, rrOf ss p)].filter fun s => goesB (nb rs) ss (kkOf ss i0) s.1) = [(kkOf ss p, rrOf ss p)] := by
          simp [List.filter, hg]
        rw [ef]
        generalize ((ss.take p).filter fun s => goesB (nb rs) ss (kkOf ss i0) s.1) = ms at k1 k2 k3
        have me : ∀ x, x ∈ (doneL st ms).erase (kkOf ss p) ↔ x ≠ kkOf ss p ∧ x ∈ doneL st ms := fun x => k2.mem_erase_iff
        refine ⟨doneOk_append.mpr ⟨k1, (k3 _).mpr o1, o2, fun x hx hm => ?_, True.intro⟩, ?_, fun x => ?_, .more k4 ⟨kkOf ss p, rrOf ss p, o1, o2, o3, o4, o5⟩⟩
        · rw [me] at hm
          exact hm.1 (o4 x hx ((k3 x).mp hm.2))
        · rw [doneL_append]
          show ((doneL st ms).erase (kkOf ss p) ++ [rrOf ss p]).Nodup
          rw [List.nodup_append]
          refine ⟨k2.erase _, by simp, fun a ha b hb e => ?_⟩
          rw [me] at ha
          rw [List.mem_singleton.mp hb] at e
          exact o3 (e ▸ (k3 a).mp ha.2)
        · rw [doneL_append]
          show x ∈ (doneL st ms).erase (kkOf ss p) ++ [rrOf ss p] ↔ _
          rw [List.mem_append, me, List.mem_singleton, o5, k3]
          exact ⟨fun h => h.elim (fun h => .inr ⟨h.2, h.1⟩) .inl, fun h => h.elim .inr fun h => .inl ⟨h.2, h.1⟩⟩
      · have gp : ¬ Go (nb rs) ss.length (kkOf ss) (rrOf ss) i0 p := fun g => hg (goesB_iff.mpr ((goes_iff P h0).mpr ⟨p, hpl, g, rfl⟩))
        have ef : ([(kkOf ss p, rrOf ss p)].filter fun s => goesB (nb rs) ss (kkOf ss i0) s.1) = [] := by
          simp [List.filter, hg]
        rw [ef, List.append_nil]
        refine ⟨k1, k2, fun x => (k3 x).trans (free_stay gp x).symm, ?_⟩
        have e : Occ (nb rs) (fun x => x ∈ st) ss.length (kkOf ss) (rrOf ss) i0 (p + 1) = Occ (nb rs) (fun x => x ∈ st) ss.length (kkOf ss) (rrOf ss) i0 p := funext fun x => propext (free_stay gp x)
        rw [e]
        exact k4
  obtain ⟨k1, k2, k3, k4⟩ := key ss.length (Nat.le_refl _)
  rw [List.take_length] at k1 k2 k3
  refine ⟨k1, ?_⟩
  obtain ⟨S', r, e⟩ := comes_rch Gr St k4
  exact ⟨S', r, (List.perm_ext_iff_of_nodup k2 (rch_set Gr St r).1.nd).mpr fun x => (k3 x).trans (e x).symm⟩
/-- each guard once at most, the last one the guard's -/
theorem slides_last {st : List Nat} {ss : List Step} {i0 : Nat} (St : Setting rs st) (hp : peelOk (nb rs) st ss) (h0 : i0 < ss.length) :
    ((slidesOf (nb rs) ss (kkOf ss i0)).map (·.1)).Nodup ∧ (∀ s ∈ slidesOf (nb rs) ss (kkOf ss i0), s.1 ∈ st) ∧ ∃ a, slidesOf (nb rs) ss (kkOf ss i0) = a ++ [(kkOf ss i0, rrOf ss i0)] := by
  have P : Peeled (nb rs) (fun x => x ∈ st) ss.length (kkOf ss) (rrOf ss) := peeled_of St.nd hp
  obtain ⟨d, R⟩ := Ro (kkOf ss i0) (St.lt _ (P.mem i0 h0))
  have ndk : (ss.map (·.1)).Nodup := by
    rw [List.nodup_iff_pairwise_ne, List.pairwise_iff_getElem]
    intro i j hi hj hij e
    rw [List.length_map] at hi hj
    rw [List.getElem_map, List.getElem_map] at e
    have := P.inj i j hi hj (by
      unfold kkOf
      rw [List.getD_eq_getElem?_getD, List.getD_eq_getElem?_getD, List.getElem?_eq_getElem hi, List.getElem?_eq_getElem hj]
      exact e)
    omega
  refine ⟨ndk.sublist (List.filter_sublist.map _), fun s hs => ?_, ?_⟩
  · obtain ⟨i, hi, e⟩ := List.getElem_of_mem (List.mem_filter.mp hs).1
    have := P.mem i hi
    unfold kkOf at this
    rw [List.getD_eq_getElem?_getD, List.getElem?_eq_getElem hi, e] at this
    exact this
  · have ek : ss[i0]? = some (kkOf ss i0, rrOf ss i0) := by
      unfold kkOf rrOf
      rw [List.getD_eq_getElem?_getD, List.getElem?_eq_getElem h0]
      rfl
    have es : ss = ss.take i0 ++ [(kkOf ss i0, rrOf ss i0)] ++ ss.drop (i0 + 1) := by
      have e1 := List.take_append_drop i0 ss
      rw [List.drop_eq_getElem_cons h0, show ss[i0] = (kkOf ss i0, rrOf ss i0) from Option.some.inj ((List.getElem?_eq_getElem h0).symm.trans ek)] at e1
      rw [List.append_assoc]
      exact e1.symm
    refine ⟨(ss.take i0).filter fun s => goesB (nb rs) ss (kkOf ss i0) s.1, ?_⟩
    unfold slidesOf
    have e2 : ((ss.drop (i0 + 1)).filter fun s => goesB (nb rs) ss (kkOf ss i0) s.1) = [] := by
      rw [List.filter_eq_nil_iff]
      intro s hs hg
      obtain ⟨j, hj, e⟩ := List.getElem_of_mem hs
      rw [List.length_drop] at hj
      rw [List.getElem_drop] at e
      obtain ⟨i, hi, gi, e3⟩ := (goes_iff P h0).mp (goesB_iff.mp hg)
      have hle := (go_d Gr.sym P R h0 gi).2.1
      have := P.inj i (i0 + 1 + j) hi (by omega) (by
        rw [e3]
        unfold kkOf
        rw [List.getD_eq_getElem?_getD, List.getElem?_eq_getElem (by omega), e]
        rfl)
      omega
    conv => lhs; rw [show (ss.filter fun s => goesB (nb rs) ss (kkOf ss i0) s.1) = ((ss.take i0 ++ [(kkOf ss i0, rrOf ss i0)] ++ ss.drop (i0 + 1)).filter fun s => goesB (nb rs) ss (kkOf ss i0) s.1) from by rw [← es]]
    rw [List.filter_append, List.filter_append, e2, List.append_nil]
    have hg : goesB (nb rs) ss (kkOf ss i0) (kkOf ss i0) = true := goesB_iff.mpr .base
    simp [List.filter, hg]
end
end GM

namespace G
open PySem L2 GM
def rLenS (K : PySem.W.Frag) : List V → Hp → VK → Prop := fun xs H Q => ∃ p ys, xs = [V.ref p] ∧ (SqL K H p ys ∨ SqT K H p ys) ∧ Q (V.int ys.length) H
def OD (H : Hp) (q : Addr) (ss : List GM.Step) : Prop := H q = some (.dK (dk (ss.map fun s => (s.1, vn s.2))))
theorem OD.same {H H' : Hp} {q : Addr} {ss : List GM.Step} (h : OD H q ss) (e : Same H H') : OD H' q ss := e _ _ h
theorem od_fst (ss : List GM.Step) : (ss.map fun s => (s.1, vn s.2)).map (·.1) = ss.map (·.1) := by rw [List.map_map]; rfl
theorem ts_of {kvs : List (Nat × V)} (h : ∀ q ∈ kvs, q.2 = V.bl true) : kvs = ts (kvs.map (·.1)) := by
  unfold ts
  rw [List.map_map]
  refine ((List.map_congr_left fun q hq => ?_).trans (List.map_id kvs)).symm
  exact Prod.ext rfl (h q hq).symm
theorem keys_ts (L : List Nat) : (dk (ts L)).map (fun kv => kV kv.1) = L.map vn := by
  unfold dk ts
  rw [List.map_map, List.map_map]
  rfl
def inR (st rooms : List Nat) : List Nat := st.filter fun x => decide (x ∈ rooms)
/-- a dict of numbers, one for each of these rooms -/
def MD (H : Hp) (q : Addr) (rooms : List Nat) (c : Nat → Int) : Prop := H q = some (.dK (dk (rooms.map fun r => (r, V.int (c r)))))
theorem MD.same {H H' : Hp} {q : Addr} {rooms : List Nat} {c : Nat → Int} (h : MD H q rooms c) (e : Same H H') : MD H' q rooms c := e _ _ h
theorem md_fst (rooms : List Nat) (c : Nat → Int) : (rooms.map fun r => (r, V.int (c r))).map (·.1) = rooms := by
  rw [List.map_map]
  exact (List.map_congr_left fun _ _ => rfl).trans (List.map_id rooms)
theorem md_get {rooms : List Nat} (nd : rooms.Nodup) (c : Nat → Int) {n : Nat} (h : n ∈ rooms) : valV (dk (rooms.map fun r => (r, V.int (c r)))) (Sum.inl (n : Int)) = some (.int (c n)) := by
  rw [valV_dk]
  exact look_some (by rw [md_fst]; exact nd) (List.mem_map.mpr ⟨n, h, rfl⟩)
theorem md_put {rooms : List Nat} (nd : rooms.Nodup) (c : Nat → Int) {n : Nat} (v : Int) (h : n ∈ rooms) : putK (dk (rooms.map fun r => (r, V.int (c r)))) (Sum.inl (n : Int)) (.int v) = dk (rooms.map fun r => (r, V.int (if r = n then v else c r))) := by
  unfold putK
  rw [valV_any, md_get nd c h]
  show (dk _).map _ = dk _
  unfold dk
  rw [List.map_map, List.map_map, List.map_map]
  refine List.map_congr_left fun r _ => ?_
  show (if (Sum.inl (r : Int) : Key) = Sum.inl (n : Int) then _ else _) = _
  by_cases e : r = n
  · subst e
    rw [if_pos rfl]
    show (_, _) = (_, V.int (if r = r then v else c r))
    rw [if_pos rfl]
  · rw [if_neg fun z => e (key_eq.mp z)]
    show (_, _) = (_, V.int (if r = n then v else c r))
    rw [if_neg e]
theorem kv_of {kvs : List (Nat × V)} {g : Nat → V} (h : ∀ q ∈ kvs, q.2 = g q.1) : kvs = (kvs.map (·.1)).map fun r => (r, g r) := by
  rw [List.map_map]
  refine ((List.map_congr_left fun q hq => ?_).trans (List.map_id kvs)).symm
  exact Prod.ext rfl (h q hq).symm
theorem within_simple {ws : List Way} {rooms : List Nat} (S : Simple ws) : (∀ g ∈ rooms, ∀ r ∈ within ws rooms g, g ∈ within ws rooms r) ∧ ∀ r, (within ws rooms r).Nodup :=
  ⟨fun g hg r hr => List.mem_filter.mpr ⟨S.sym _ _ (List.mem_filter.mp hr).1, by simpa using hg⟩, fun r => (S.nd r).filter _⟩
theorem rdk_at {kr : List (Nat × V)} {rooms : List Nat} (e : kr.map (·.1) = rooms) {i : Nat} {k : Key} {v : V} (h : (dk kr)[i]? = some (k, v)) : (rooms.map vn)[i]? = some (kV k) := by
  unfold dk at h
  rw [List.getElem?_map] at h
  cases h2 : kr[i]? with
  | none => rw [h2] at h; cases h
  | some z =>
    rw [h2] at h
    cases h
    rw [← e, List.map_map, List.getElem?_map, h2]
    rfl
def spOutsW (C : Addr) : Sp := fun vs H Q _ => ∃ (p l s : Addr) (ws : List Way) (rooms st : List Nat), vs = [.ref p, .ref l, .ref s] ∧ TreeAt C H p ws ∧ Simple ws ∧ ws.length ≤ 59 ∧ NL H l rooms ∧ rooms.Nodup ∧ (∀ r ∈ rooms, r < ws.length + 1) ∧ rooms.length ≤ 60 ∧ NT H s st ∧ st.Nodup ∧ st.length ≤ 60 ∧
  ∀ H' q ss, Same H H' → H q = none → peelOk (within ws rooms) (inR st rooms) ss → Stuck (within ws rooms) (after (inR st rooms) ss) → OD H' q ss → Res (within ws rooms) (inR st rooms) ss → Q (.ref q) H'
def spLockW (C : Addr) : Sp := fun vs H Q _ => ∃ (p l s : Addr) (ws : List Way) (rooms st : List Nat), vs = [.ref p, .ref l, .ref s] ∧ TreeAt C H p ws ∧ Simple ws ∧ ws.length ≤ 59 ∧ NL H l rooms ∧ rooms.Nodup ∧ (∀ r ∈ rooms, r < ws.length + 1) ∧ rooms.length ≤ 60 ∧ NT H s st ∧ st.Nodup ∧ st.length ≤ 60 ∧
  ∀ H' q ss, Same H H' → H q = none → peelOk (within ws rooms) (inR st rooms) ss → Stuck (within ws rooms) (after (inR st rooms) ss) → NT H' q (after (inR st rooms) ss) → Q (.ref q) H'
structure LW (P : Program) (w : World) (K : PySem.W.Frag) (mg : Str → Option Value) (base : Heap) (C : Addr) : Prop where
  L_all_rooms : Cal P w K mg base "all_rooms" 3 ["tree"] (spAll C)
  L_rows_within : Cal P w K mg base "rows_within" 6 ["tree", "rooms"] (spRowsW C)
theorem within_in {ws : List Way} {rooms : List Nat} {g r : Nat} (h : r ∈ within ws rooms g) : r ∈ rooms := by
  have := (List.mem_filter.mp h).2
  simpa using this
section
variable {P : Program} {w : World} {K : PySem.W.Frag} {mg : Str → Option Value} {base : Heap} {C : Addr}
end
end G

namespace G
open PySem L2 GM
theorem inV_vn {x : Nat} : ∀ {l : List Nat}, inV (vn x) (l.map vn) = decide (x ∈ l)
  | [] => rfl
  | a :: l => by
    have ih := inV_vn (x := x) (l := l)
    unfold inV at ih ⊢
    rw [List.map_cons, List.any_cons, ih]
    show (decide ((a : Int) = (x : Int)) || _) = _
    by_cases h : a = x
    · subst h
      simp
    · have h2 : ¬ ((a : Int) = (x : Int)) := by omega
      have h3 : ¬ x = a := fun e => h e.symm
      simp [h2, h3]
theorem flat_vn (l : List Nat) : (l.map vn).all flatV = true := by
  rw [List.all_eq_true]
  intro y hy
  obtain ⟨n, _, rfl⟩ := List.mem_map.mp hy
  rfl
theorem within_all {ws : List Way} (h : ∀ w ∈ ws, w.1 < w.2 ∧ w.2 < ws.length + 1) : within ws (List.range (ws.length + 1)) = nb (rows ws) := by
  funext r
  unfold within
  apply List.filter_eq_self.mpr
  intro x hx
  have := (graph_rows h).lt r x hx
  rw [rows_length] at this
  exact decide_eq_true (List.mem_range.mpr this)
theorem inR_all {n : Nat} {st : List Nat} (h : ∀ x ∈ st, x < n) : inR st (List.range n) = st := List.filter_eq_self.mpr fun x hx => decide_eq_true (List.mem_range.mpr (h x hx))
structure LX (P : Program) (w : World) (K : PySem.W.Frag) (mg : Str → Option Value) (base : Heap) (C : Addr) : Prop extends LW P w K mg base C where
  L_outs_within : Cal P w K mg base "outs_within" 7 ["tree", "rooms", "setting"] (spOutsW C)
section
variable {P : Program} {w : World} {K : PySem.W.Frag} {mg : Str → Option Value} {base : Heap} {C : Addr}
end
def Ww (ws : List Way) : Prop := ∀ w ∈ ws, w.1 < w.2 ∧ w.2 < ws.length + 1
theorem set_lt {ws : List Way} {st : List Nat} (S : Setting (rows ws) st) : ∀ x ∈ st, x < ws.length + 1 := fun x hx => by
  have := S.lt x hx
  rw [rows_length] at this
  exact this
theorem set_len {ws : List Way} {st : List Nat} (S : Setting (rows ws) st) (hl : ws.length ≤ 59) : st.length ≤ 60 := by
  have := up_len S.up (set_lt S)
  omega
def spLock (C : Addr) : Sp := fun vs H Q _ => ∃ (p s : Addr) (ws : List Way) (st : List Nat), vs = [.ref p, .ref s] ∧ TreeAt C H p ws ∧ Simple ws ∧ ws.length ≤ 59 ∧ Ww ws ∧ NT H s st ∧ Setting (rows ws) st ∧
  ∀ H' q ss, Same H H' → H q = none → peelOk (nb (rows ws)) st ss → Stuck (nb (rows ws)) (after st ss) → NT H' q (after st ss) → Q (.ref q) H'
section
variable {P : Program} {w : World} {K : PySem.W.Frag} {mg : Str → Option Value} {base : Heap} {C : Addr}
end
end G

namespace G
open PySem L2 GM
section
variable {P : Program} {w : World} {K : PySem.W.Frag} {mg : Str → Option Value} {base : Heap}
theorem scD : FnScope ["well", "many", "found", "number"] ["well", "many"] (defScope s__law_draw) := ⟨rfl, rfl, rfl, by decide +kernel, rfl, by decide +kernel, by decide +kernel⟩
theorem ok_draw {f : Addr} {fd : FuncData} (F : Fun K "_law_draw" "_law_draw" s__law_draw f fd) : FnOk P w K mg base CX0 1 f fd ["well", "many"] spDraw := by
  refine F.ok scD (fun vs H Q E h => ?_) (fun cdv A outer s H vs Q E hr h => ?_)
  · obtain ⟨a, cap, rfl, _⟩ := h
    rfl
  · obtain ⟨a, cap, rfl, ⟨w0, w1, w2, hH⟩, c0, c1, k⟩ := h
    refine ⟨_, pss_cons (ps_if (pt_cmpR op_gt (pe_ix ix_list (pv 0) pe_int (fun _ _ => rfl)) pe_int (nomark _))
        (pss_cons (ps_set (i := 2) scD.nd rfl (Or.inl rfl) (pe_op op_mod (pe_ix ix_list (pv 0) pe_int (fun _ _ => rfl)) (pv 1)))
        (pss_cons (ps_asg (pe_op op_fdivN (pe_ix ix_list (pv 0) pe_int (fun _ _ => rfl)) (pv 1)) (pg_sub (pv 0) pe_int set_list))
        (pss_one (ps_ret (pv 2))))) pss_nil)
      (pss_cons (ps_asg (pe_op op_add (pe_ix ix_list (pv 0) pe_int (fun _ _ => rfl)) pe_int) (pg_sub (pv 0) pe_int set_list))
      (pss_cons (ps_set (i := 3) scD.nd rfl (Or.inl rfl) (pe_op op_mod (pe_op op_mul (pe_op op_add (pe_op op_add (pe_ix ix_list (pv 0) pe_int (fun _ _ => rfl)) (pe_op op_mul pe_int (pe_ix ix_list (pv 0) pe_int (fun _ _ => rfl)))) pe_int) pe_int) pe_int))
      (pss_cons (ps_set (i := 3) scD.nd rfl (Or.inl rfl) (pe_op op_mod (pe_op op_mul (pv 3) (pe_op op_add (pe_op op_fdivN (pv 3) pe_int) pe_int)) pe_int))
      (pss_one (ps_ret (pe_op op_mod (pe_op op_mod (pe_op op_mul (pv 3) (pe_op op_add (pe_op op_fdivN (pv 3) pe_int) pe_int)) pe_int) (pv 1))))))), ?_⟩
    refine ⟨_, rfl, a, _, _, _, rfl, rfl, SqL.of hH, rfl, _, _, rfl, rfl, _, rfl, ?_⟩
    refine ite2 (fun hp => ?_) (fun hp => ?_)
    · refine ⟨_, rfl, a, _, _, _, rfl, rfl, SqL.of hH, rfl, _, rfl, _, _, rfl, rfl, c0, ?_⟩
      refine ⟨_, rfl, a, _, _, _, rfl, rfl, SqL.of hH, rfl, _, rfl, _, _, rfl, rfl, ⟨by omega, by omega⟩, _, rfl, a, _, _, 0, rfl, rfl, hH, rfl, _, rfl, ?_⟩
      exact k _ _ _ _ (Int.emod_nonneg _ (by omega)) (Int.emod_lt_of_pos _ c0)
    · have e1 : ∀ {n : Int} {m : Int}, 0 < m → 0 ≤ n % m ∧ n % m < m := fun h => ⟨Int.emod_nonneg _ (by omega), Int.emod_lt_of_pos _ h⟩
      refine ⟨_, rfl, a, _, _, _, rfl, rfl, SqL.of hH, rfl, _, _, rfl, rfl, _, rfl, a, _, _, 2, rfl, rfl, hH, rfl, ?_⟩
      have h2 : upd H a (.lst ([V.int w0, .int w1, .int w2].set 2 (.int (w2 + 1)))) a = some (.lst [.int w0, .int w1, .int (w2 + 1)]) := upd_same
      refine ⟨_, rfl, a, _, _, _, rfl, rfl, SqL.of h2, rfl, _, rfl, a, _, _, _, rfl, rfl, SqL.of h2, rfl, _, _, rfl, rfl, .inl ⟨by decide, by decide⟩, _, _, rfl, rfl, _, _, rfl, rfl, ?_⟩
      refine ⟨_, _, rfl, rfl, .inr ⟨by decide, by decide⟩, _, _, rfl, rfl, (by show (0 : Int) < 2147483647; decide), ?_⟩
      generalize hn : ((w1 + 104729 * (w2 + 1) + 1) * 48271 % 2147483647 : Int) = n
      have hn1 : 0 ≤ n ∧ n < 2147483647 := by rw [← hn]; exact e1 (by decide)
      refine ⟨_, rfl, _, rfl, _, _, rfl, rfl, ⟨by decide, by decide⟩, _, _, rfl, rfl, _, _, rfl, rfl, .inl ⟨by omega, by omega⟩, _, _, rfl, rfl, (by show (0 : Int) < 2147483647; decide), ?_⟩
      generalize hn' : (n * (n.fdiv 1009 + 69621) % 2147483647 : Int) = n'
      have hn2 : 0 ≤ n' ∧ n' < 2147483647 := by rw [← hn']; exact e1 (by decide)
      refine ⟨_, rfl, _, rfl, _, _, rfl, rfl, ⟨by decide, by decide⟩, _, _, rfl, rfl, _, _, rfl, rfl, .inl ⟨by omega, by omega⟩, _, _, rfl, rfl, (by show (0 : Int) < 2147483399; decide), _, rfl, _, _, rfl, rfl, c0, ?_⟩
      exact k _ w0 w1 (w2 + 1) (e1 c0).1 (e1 c0).2
structure TxL (K : PySem.W.Frag) (mg : Str → Option Value) : Prop where
  isi : mg "isinstance" = none
  len : mg "len" = none
  list : mg "list" = none
  int : mg "int" = none
  tup : mg "tuple" = none
  rg : mg "range" = none
  en : mg "enumerate" = none
  srt : mg "sorted" = none
  max : mg "max" = none
def spWays : Sp := fun vs H Q _ => ∃ (a : Addr) (many : Nat), vs = [.ref a, vn many] ∧ Well H a ∧ 1 ≤ many ∧ many ≤ 60 ∧ ∀ H' q ws told, Same (rm H a) (rm H' a) → Well H' a → H q = none → Grown told ws → ws.length + 1 = many → LP (only H H') q ws → Q (.ref q) H'
theorem test_ne {K : PySem.W.Frag} {i : Nat} {σ : St} {H : Hp} {Q Q' : Bool → Hp → Prop} (h : ∀ b H1, Q b H1 → Q' b H1) (k : tTest (tOp (rNeD K) (tVar i) (tLst tNil)) σ H Q) : tTest (tOp (rNeD K) (tVar i) (tLst tNil)) σ H Q' := by
  obtain ⟨v, e, hl, k⟩ := k
  refine ⟨v, e, hl, fun p np => ?_⟩
  obtain ⟨d, e', h1, h2, h3, h4, b, hb, q⟩ := k p np
  exact ⟨d, e', h1, h2, h3, h4, b, hb, h _ _ q⟩
/-- what the drawn ways are drawn of lies below -/
theorem ix_bound {k many : Nat} {kind d1 d2 : Int} (h1 : 1 ≤ k) (h2 : k < many) (hk0 : 0 ≤ kind) (hk : kind < 7) (a0 : 0 ≤ d1) (a1 : d1 < k) (b0 : 0 ≤ d2) (b1 : d2 < 3) :
    ∃ j : Nat, j < k ∧ atI [V.int ((k : Int) - 1), .int 0, .int ((k : Int) - 2 + (k : Int) % 2), .int (if (k : Int) - (many : Int) / 2 > 0 then (k : Int) - (many : Int) / 2 else 0), .int (((k : Int) - 1) / 2), .int d1, .int (if (k : Int) - 1 - d2 > 0 then (k : Int) - 1 - d2 else 0)] kind = some (vn j) := by
  have mk : ∀ (z : Int), 0 ≤ z → z < k → ∃ j : Nat, j < k ∧ V.int z = vn j := fun z h0 h1 => ⟨z.toNat, by omega, by show V.int z = V.int ((z.toNat : Nat) : Int); rw [Int.toNat_of_nonneg h0]⟩
  have : kind = 0 ∨ kind = 1 ∨ kind = 2 ∨ kind = 3 ∨ kind = 4 ∨ kind = 5 ∨ kind = 6 := by omega
  rcases this with rfl | rfl | rfl | rfl | rfl | rfl | rfl
  · obtain ⟨j, l, e⟩ := mk ((k : Int) - 1) (by omega) (by omega)
    exact ⟨j, l, by rw [← e]; rfl⟩
  · obtain ⟨j, l, e⟩ := mk 0 (by omega) (by omega)
    exact ⟨j, l, by rw [← e]; rfl⟩
  · obtain ⟨j, l, e⟩ := mk ((k : Int) - 2 + (k : Int) % 2) (by omega) (by omega)
    exact ⟨j, l, by rw [← e]; rfl⟩
  · obtain ⟨j, l, e⟩ := mk (if (k : Int) - (many : Int) / 2 > 0 then (k : Int) - (many : Int) / 2 else 0) (by split <;> omega) (by split <;> omega)
    exact ⟨j, l, by rw [← e]; rfl⟩
  · obtain ⟨j, l, e⟩ := mk (((k : Int) - 1) / 2) (by omega) (by omega)
    exact ⟨j, l, by rw [← e]; rfl⟩
  · obtain ⟨j, l, e⟩ := mk d1 (by omega) (by omega)
    exact ⟨j, l, by rw [← e]; rfl⟩
  · obtain ⟨j, l, e⟩ := mk (if (k : Int) - 1 - d2 > 0 then (k : Int) - 1 - d2 else 0) (by split <;> omega) (by split <;> omega)
    exact ⟨j, l, by rw [← e]; rfl⟩
theorem scWay : FnScope ["well", "many", "kind", "order", "told", "found", "k", "some"] ["well", "many"] (defScope s__law_ways) := ⟨rfl, rfl, rfl, by decide +kernel, rfl, by decide +kernel, by decide +kernel⟩
theorem ok_way {f : Addr} {fd : FuncData} (F : Fun K "_law_ways" "_law_ways" s__law_ways f fd) (T : TxL K mg) (L_law_draw : Cal P w K mg base "_law_draw" 1 ["well", "many"] spDraw) : FnOk P w K mg base CX0 2 f fd ["well", "many"] spWays := by
  refine F.ok scWay (fun vs H Q E h => ?_) (fun cdv A outer s H vs Q E hr h => ?_)
  · obtain ⟨a, many, rfl, _⟩ := h
    rfl
  · obtain ⟨a, many, rfl, ⟨u0, u1, u2, hW⟩, m1, m2, q⟩ := h
    have hu := hr.units
    refine ⟨_, (pss_cons (ps_set (i := 2) scWay.nd rfl (Or.inl rfl) (L_law_draw.pe (hr.mono (by decide)) rfl (pa_cons (pv 0) (pa_cons pe_int pa_nil))))
      (pss_cons (ps_set (i := 3) scWay.nd rfl (Or.inl rfl) (pe_listRg rfl rfl T.list (prg_1 rfl T.rg (pv 1))))
      (pss_cons (ps_set (i := 4) scWay.nd rfl (Or.inl rfl) (pe_lst pa_nil))
      (pss_cons (ps_while PassesOwn.never (pt_cmpR (op_neD hu) (pv 3) (pe_lst pa_nil) (nomark _))
        (pss_one (ps_expr (pe_bm PySem.F.plainAttrs_list PySem.F.slot_list_append PySem.F.type_list_append mt_append (pv 4) (pa_cons (pe_bm PySem.F.plainAttrs_list PySem.F.slot_list_pop PySem.F.type_list_pop mt_popAt (pv 3) (pa_cons (pe_op op_mul (L_law_draw.pe (hr.mono (by decide)) rfl (pa_cons (pv 0) (pa_cons (pe_callB call_len_seq (by rfl) T.len PySem.boot_len (pa_cons (pv 3) pa_nil)) pa_nil))) (pe_callTy call_int1 (by rfl) T.int PyProof.Rows.boot_int (pa_cons (pe_cmpR op_gt (pv 2) pe_int (nomark _)) pa_nil))) pa_nil)) pa_nil)))))
      (pss_cons (ps_set (i := 5) scWay.nd rfl (Or.inl rfl) (pe_lst pa_nil))
      (pss_cons (ps_for PassesOwn.never rfl (pi_range2 (by rfl) T.rg (pa_cons pe_int (pa_cons (pv 1) pa_nil))) (pg_name (i := 6) scWay.nd rfl (Or.inl rfl))
        (pss_cons (ps_set (i := 7) scWay.nd rfl (Or.inl rfl) (pe_lst (pa_cons (pe_op op_sub (pv 6) pe_int) (pa_cons pe_int (pa_cons (pe_op op_add (pe_op op_sub (pv 6) pe_int) (pe_op op_mod (pv 6) pe_int)) (pa_cons (pe_callB (call_max2 rfl) (by rfl) T.max PyProof.Rows.boot_max (pa_cons pe_int (pa_cons (pe_op op_sub (pv 6) (pe_op op_fdiv (pv 1) pe_int)) pa_nil))) (pa_cons (pe_op op_fdiv (pe_op op_sub (pv 6) pe_int) pe_int) (pa_cons (L_law_draw.pe (hr.mono (by decide)) rfl (pa_cons (pv 0) (pa_cons (pv 6) pa_nil))) pa_nil))))))))
      (pss_cons (ps_expr (pe_bm PySem.F.plainAttrs_list PySem.F.slot_list_append PySem.F.type_list_append mt_append (pv 7) (pa_cons (pe_callB (call_max2 rfl) (by rfl) T.max PyProof.Rows.boot_max (pa_cons pe_int (pa_cons (pe_op op_sub (pe_op op_sub (pv 6) pe_int) (L_law_draw.pe (hr.mono (by decide)) rfl (pa_cons (pv 0) (pa_cons pe_int pa_nil)))) pa_nil))) pa_nil)))
      (pss_one (ps_expr (pe_bm PySem.F.plainAttrs_list PySem.F.slot_list_append PySem.F.type_list_append mt_append (pv 5) (pa_cons (pe_callTy call_tuple_of (by rfl) T.tup PyProof.Rows.boot_tuple (pa_cons (pe_callB cr_sortedI (by rfl) T.srt PyProof.Rows.boot_sorted (pa_cons (pe_lst (pa_cons (pe_ix ix_list (pv 4) (pv 6) (fun _ _ => rfl)) (pa_cons (pe_ix ix_list (pv 4) (pe_ix ix_list (pv 7) (pv 2) (fun _ _ => rfl)) (fun _ _ => rfl)) pa_nil))) pa_nil)) pa_nil)) pa_nil)))))))
      (pss_one (ps_ret (pv 5))))))))), ?_⟩
    -- kind, order, told
    refine ⟨_, rfl, a, 7, rfl, ⟨_, _, _, hW⟩, by decide, by decide, fun kind c0 c1 c2 k0 k1 => ?_⟩
    have r0 : rm (upd H a (HO.lst [V.int c0, V.int c1, V.int c2])) a = rm H a := rm_upd
    have w0 : Well (upd H a (HO.lst [V.int c0, V.int c1, V.int c2])) a := ⟨_, _, _, upd_same⟩
    have f0 : ∀ b, upd H a (HO.lst [V.int c0, V.int c1, V.int c2]) b = none → H b = none := fun b e => by
      by_cases z : b = a
      · rw [z, upd_same] at e
        cases e
      · rw [upd_ne z] at e
        exact e
    generalize upd H a (HO.lst [V.int c0, V.int c1, V.int c2]) = B0 at r0 w0 f0
    refine ⟨_, rfl, (many : Int), rfl, RgOk.of_le (by decide) (by omega) (by decide) (by omega), fun lo no => ?_⟩
    rw [rg_vn]
    generalize hB1 : upd _ lo _ = B1
    have s1 : Same B0 B1 := hB1 ▸ same_new no
    have h1 : NL B1 lo (List.range many) := hB1 ▸ upd_same
    refine ⟨(by show 0 ≤ sizeLine; decide), fun lt nt => ?_⟩
    generalize hB2 : upd _ lt _ = B2
    have s2 : Same B1 B2 := hB2 ▸ same_new nt
    have h2 : NL B2 lt [] := hB2 ▸ upd_same
    obtain ⟨y0, y1, y2, hW0⟩ := w0
    have loa : lo ≠ a := (ne_of_none hW0 no).symm
    have lta : lt ≠ a := (ne_of_none (s1 _ _ hW0) nt).symm
    have lol : lo ≠ lt := ne_of_none h1 nt
    have flo : H lo = none := f0 _ no
    have flt : H lt = none := f0 _ (s1.free nt)
    have sr2 : Same (rm H a) (rm B2 a) := by
      rw [← r0]
      exact rm_mono a (s1.trans s2)
    -- while order != []
    refine while_by (fun σ Hd => ∃ ord tld : List Nat, σ = [some (.ref a), some (vn many), some (.int kind), some (.ref lo), some (.ref lt), none, none, none] ∧ Same (rm H a) (rm Hd a) ∧ Well Hd a ∧ NL Hd lo ord ∧ NL Hd lt tld ∧ (tld ++ ord).Perm (List.range many))
      (fun _ Hd => match Hd lo with | some (.lst xs) => xs.length | _ => 0) ⟨List.range many, [], rfl, sr2, ⟨_, _, _, s2 _ _ (s1 _ _ hW0)⟩, s2 _ _ h1, h2, .refl _⟩ ?_ (fun σ H Q Q' h k => test_ne h k)
    rintro σ Hd ⟨ord, tld, rfl, sd, ⟨x0, x1, x2, wd⟩, ho, ht, hp⟩
    have lenp := hp.length_eq
    rw [List.length_append, List.length_range] at lenp
    refine ⟨_, rfl, (by show 0 ≤ sizeLine; decide), fun e0 ne0 => ?_⟩
    have se := same_new (o := HO.lst []) ne0
    refine ne_nl (se _ _ ho) (show NL _ e0 [] from upd_same) ⟨_, rfl, ?_⟩
    by_cases hne : ord = []
    · rw [decide_eq_false (fun h => h hne)]
      refine iteF ⟨(by show 0 ≤ sizeLine; decide), fun lf nf => ?_⟩
      generalize hB4 : upd _ lf _ = B4
      have s4 : Same Hd B4 := hB4 ▸ se.trans (same_new nf)
      have h4 : B4 lf = some (.lst []) := hB4 ▸ upd_same
      have flf : H lf = none := by
        have lfa : lf ≠ a := (ne_of_none (se _ _ wd) nf).symm
        have : Same (rm H a) (rm (upd Hd e0 (HO.lst [])) a) := sd.trans (rm_mono a se)
        have z := this.free (l := lf) (by rw [rm_ne lfa]; exact nf)
        rw [rm_ne lfa] at z
        exact z
      rw [hne, List.append_nil] at hp
      have nd : tld.Nodup := hp.nodup_iff.mpr List.nodup_range
      have lt60 : tld.length = many := by rw [hne] at lenp; simpa using lenp
      have hlt : ∀ x ∈ tld, x < tld.length := fun x hx => by
        rw [lt60]
        exact List.mem_range.mp (hp.subset hx)
      refine ⟨_, rfl, 1, (many : Int), rfl, ⟨by decide, by decide, by omega, by omega⟩, ?_⟩
      refine for_range (lo := 1) (n := ((many : Int) - 1).toNat) (fun i σ Hf => ∃ v6 v7, σ = [some (.ref a), some (vn many), some (.int kind), some (.ref lo), some (.ref lt), some (.ref lf), v6, v7] ∧ Same (rm H a) (rm Hf a) ∧ Well Hf a ∧ NL Hf lt tld ∧
          ∃ (ws : List Way) (as : List Addr), Hf lf = some (.lst (as.map V.ref)) ∧ ws.length = i ∧ as.length = i ∧ (∀ j t, as[j]? = some t → H t = none ∧ NT Hf t [(ws.getD j (0, 0)).1, (ws.getD j (0, 0)).2]) ∧
            ∀ k w, ws[k]? = some w → ∃ j x y, j ≤ k ∧ tld[j]? = some x ∧ tld[k + 1]? = some y ∧ ((w = (x, y) ∧ x < y) ∨ (w = (y, x) ∧ y < x)))
        ⟨_, _, rfl, sd.trans (rm_mono a s4), ⟨_, _, _, s4 _ _ wd⟩, s4 _ _ ht, [], [], h4, rfl, rfl, fun j t h => (by simp at h), fun k w h => (by simp at h)⟩ ?_ ?_
      · rintro i σ Hf hi ⟨v6, v7, rfl, sf, ⟨p0, p1, p2, wf⟩, hf, ws, as, hlf, lws, las, hts, hties⟩
        have hi2 : i + 1 < many := by omega
        have ek : (1 : Int) + (i : Int) = ((i + 1 : Nat) : Int) := by omega
        rw [ek]
        -- some = [..]
        refine ⟨_, rfl, _, _, rfl, rfl, _, rfl, _, _, rfl, rfl, _, rfl, _, _, rfl, rfl, (by show (0 : Int) < 2; decide), _, _, rfl, rfl, _, rfl, _, rfl, _, _, rfl, rfl, ⟨by decide, by decide⟩, _, _, rfl, rfl, _, _, rfl, _, rfl, _, _, rfl, rfl, _, _, rfl, rfl, ⟨by decide, by decide⟩, ?_⟩
        refine ⟨_, rfl, _, rfl, a, ((i + 1 : Nat) : Int), rfl, ⟨_, _, _, wf⟩, by omega, by omega, fun d1 q0 q1 q2 a0 a1 => ?_⟩
        have r1 : rm (upd Hf a (HO.lst [V.int q0, V.int q1, V.int q2])) a = rm Hf a := rm_upd
        have w1 : upd Hf a (HO.lst [V.int q0, V.int q1, V.int q2]) a = some (HO.lst [V.int q0, V.int q1, V.int q2]) := upd_same
        generalize upd Hf a (HO.lst [V.int q0, V.int q1, V.int q2]) = G1 at r1 w1
        have of1 : ∀ b o, Hf b = some o → b ≠ a → G1 b = some o := fun b o e n => by
          have : rm G1 a b = some o := by rw [r1, rm_ne n]; exact e
          exact (rm_some this).2
        refine ⟨(by show 6 ≤ sizeLine; decide), fun ls ns => ?_⟩
        generalize hG2 : upd _ ls _ = G2
        have g2 : Same G1 G2 := hG2 ▸ same_new ns
        have hs2 : G2 ls = some _ := hG2 ▸ upd_same
        have lsa : ls ≠ a := (ne_of_none w1 ns).symm
        -- some.append(max(0, k - 1 - draw))
        refine ⟨_, rfl, .inl ⟨rfl, _, SqL.of hs2⟩, _, rfl, _, _, rfl, rfl, _, rfl, a, 3, rfl, ⟨_, _, _, g2 _ _ w1⟩, by decide, by decide, fun d2 q0' q1' q2' b0 b1 => ?_⟩
        have r3 : rm (upd G2 a (HO.lst [V.int q0', V.int q1', V.int q2'])) a = rm G2 a := rm_upd
        have w3 : upd G2 a (HO.lst [V.int q0', V.int q1', V.int q2']) a = some (HO.lst [V.int q0', V.int q1', V.int q2']) := upd_same
        have hs3 : upd G2 a (HO.lst [V.int q0', V.int q1', V.int q2']) ls = some _ := (upd_ne lsa).trans hs2
        generalize upd G2 a (HO.lst [V.int q0', V.int q1', V.int q2']) = G3 at r3 w3 hs3
        have of3 : ∀ b o, G2 b = some o → b ≠ a → G3 b = some o := fun b o e n => by
          have : rm G3 a b = some o := by rw [r3, rm_ne n]; exact e
          exact (rm_some this).2
        refine ⟨_, _, rfl, rfl, _, _, rfl, ls, _, _, rfl, rfl, hs3, (by show 6 < sizeLine; decide), ?_⟩
        generalize hG4 : upd _ ls _ = G4
        have hs4 : G4 ls = some _ := hG4 ▸ upd_same
        have of4 : ∀ b o, Hf b = some o → b ≠ a → G4 b = some o := fun b o e n => by
          have z := of3 _ _ (g2 _ _ (of1 b o e n)) n
          have bls : b ≠ ls := ne_of_none (of1 b o e n) ns
          rw [← hG4, upd_ne bls]
          exact z
        have w4 : G4 a = some (HO.lst [V.int q0', V.int q1', V.int q2']) := by
          rw [← hG4, upd_ne lsa.symm]
          exact w3
        -- found.append(tuple(sorted([told[k], told[some[kind]]])))
        obtain ⟨jj, ljj, ejj⟩ := ix_bound (k := i + 1) (many := many) (kind := kind) (d1 := d1) (d2 := d2) (by omega) hi2 k0 k1 a0 a1 b0 b1
        have lfa : lf ≠ a := fun z => by
          have : H a = none := z ▸ flf
          rw [hW] at this
          cases this
        have hf4 : NL G4 lt tld := of4 _ _ hf lta
        have hlf4 := of4 _ _ hlf lfa
        have x1 : i + 1 < tld.length := by omega
        have x2 : jj < tld.length := by omega
        have ia := at_vn (l := tld) x1
        have ib := at_vn (l := tld) x2
        refine ⟨_, rfl, .inl ⟨rfl, _, SqL.of hlf4⟩, ?_⟩
        refine ⟨_, rfl, _, rfl, lt, _, _, _, rfl, rfl, SqL.of hf4, ia, _, rfl, _, rfl, _, rfl, ls, _, _, _, rfl, rfl, SqL.of hs4, ejj, lt, _, _, _, rfl, rfl, SqL.of hf4, ib, (by show 2 ≤ sizeLine; decide), fun lp np => ?_⟩
        generalize hG5 : upd _ lp _ = G5
        have g5 : Same G4 G5 := hG5 ▸ same_new np
        have hp5 : NL G5 lp [tld.getD (i + 1) 0, tld.getD jj 0] := hG5 ▸ upd_same
        refine ⟨lp, [((tld.getD (i + 1) 0 : Nat) : Int), ((tld.getD jj 0 : Nat) : Int)], rfl, SqL.of hp5, fun ns' ps pm ri nps => ?_⟩
        rw [srt_ints (l := [tld.getD (i + 1) 0, tld.getD jj 0]) pm ri]
        generalize hG6 : upd _ ps _ = G6
        have g6 : Same G5 G6 := hG6 ▸ same_new nps
        have hp6 : NL G6 ps (srt [tld.getD (i + 1) 0, tld.getD jj 0]) := hG6 ▸ upd_same
        refine ⟨ps, _, rfl, .inl ⟨SqL.of hp6, fun pt npt => ?_⟩⟩
        generalize hG7 : upd _ pt _ = G7
        have g7 : Same G6 G7 := hG7 ▸ same_new npt
        have hp7 : NT G7 pt (srt [tld.getD (i + 1) 0, tld.getD jj 0]) := hG7 ▸ upd_same
        have g47 : Same G4 G7 := g5.trans (g6.trans g7)
        refine ⟨lf, _, _, rfl, rfl, g47 _ _ hlf4, by rw [List.length_map, las]; exact small1000 (by omega), ?_⟩
        have gx : tld[i + 1]? = some (tld.getD (i + 1) 0) := by rw [List.getD_eq_getElem?_getD, List.getElem?_eq_getElem x1]; rfl
        have gy : tld[jj]? = some (tld.getD jj 0) := by rw [List.getD_eq_getElem?_getD, List.getElem?_eq_getElem x2]; rfl
        have nxy : tld.getD (i + 1) 0 ≠ tld.getD jj 0 := fun z => by
          rw [z] at gx
          have := nodup_ix nd gx gy
          omega
        obtain ⟨wy, ew, cw⟩ := srt_pair nxy
        rw [ew] at hp7
        have ptlf : pt ≠ lf := (ne_of_none ((g5.trans g6) _ _ hlf4) npt).symm
        have ofT : ∀ b o, Hf b = some o → b ≠ a → b ≠ lf → upd G7 lf (HO.lst (as.map V.ref ++ [V.ref pt])) b = some o := fun b o e n1 n2 => by
          rw [upd_ne n2]
          exact g47 _ _ (of4 b o e n1)
        have lflt : lt ≠ lf := fun z => by
          have q := hlf
          rw [← z] at q
          unfold NL at hf
          rw [hf] at q
          cases htl : tld with
          | nil => rw [htl] at x1; exact absurd x1 (Nat.not_lt_zero _)
          | cons t0 tr =>
            rw [htl] at q
            cases as with
            | nil => cases q
            | cons c cs => cases q
        refine ⟨_, _, rfl, ?_, ⟨q0', q1', q2', ?_⟩, ?_, ws ++ [wy], as ++ [pt], ?_, ?_, ?_, ?_, ?_⟩
        · intro b o e
          obtain ⟨n1, e⟩ := rm_some e
          rw [rm_ne n1]
          have z := sf b o (by rw [rm_ne n1]; exact e)
          obtain ⟨_, z⟩ := rm_some z
          refine ofT b o z n1 fun zz => ?_
          rw [zz, flf] at e
          cases e
        · rw [upd_ne lfa.symm]
          exact g47 _ _ w4
        · exact ofT _ _ hf lta lflt
        · rw [upd_same, List.map_append]
          rfl
        · rw [List.length_append, lws]
          rfl
        · rw [List.length_append, las]
          rfl
        · intro j t hj
          by_cases hlt2 : j < as.length
          · rw [List.getElem?_append_left hlt2] at hj
            obtain ⟨h1, h2⟩ := hts j t hj
            refine ⟨h1, ?_⟩
            have hta : t ≠ a := fun z => by rw [z, hW] at h1; cases h1
            have htlf : t ≠ lf := fun z => by
              unfold NT at h2
              rw [z, hlf] at h2
              cases h2
            have e2 : (ws ++ [wy]).getD j (0, 0) = ws.getD j (0, 0) := by
              rw [List.getD_eq_getElem?_getD, List.getD_eq_getElem?_getD, List.getElem?_append_left (by omega)]
            rw [e2]
            exact ofT _ _ h2 hta htlf
          · rw [List.getElem?_append_right (by omega)] at hj
            have e0 : j - as.length = 0 := by
              have := (List.getElem?_eq_some_iff.mp hj).1
              simp only [List.length_cons, List.length_nil] at this
              omega
            rw [e0] at hj
            cases hj
            have ej : j = ws.length := by omega
            have e2 : (ws ++ [wy]).getD j (0, 0) = wy := by
              rw [List.getD_eq_getElem?_getD, List.getElem?_append_right (by omega), show j - ws.length = 0 by omega]
              rfl
            rw [e2]
            refine ⟨?_, ?_⟩
            · have p1 : G4 pt = none := (g5.trans g6).free npt
              cases e : H pt with
              | none => rfl
              | some o =>
                have pa : pt ≠ a := fun z => by rw [z, w4] at p1; cases p1
                have z := sf pt o (by rw [rm_ne pa]; exact e)
                obtain ⟨_, z⟩ := rm_some z
                have z2 := of4 _ _ z pa
                rw [p1] at z2
                cases z2
            · unfold NT
              rw [upd_ne ptlf]
              exact hp7
        · intro k w hk
          by_cases hlt2 : k < ws.length
          · rw [List.getElem?_append_left hlt2] at hk
            exact hties k w hk
          · rw [List.getElem?_append_right (by omega)] at hk
            have e0 : k - ws.length = 0 := by
              have := (List.getElem?_eq_some_iff.mp hk).1
              simp only [List.length_cons, List.length_nil] at this
              omega
            rw [e0] at hk
            cases hk
            have ekk : k = i := by omega
            subst ekk
            refine ⟨jj, tld.getD jj 0, tld.getD (k + 1) 0, by omega, gy, gx, ?_⟩
            rcases cw with ⟨e, l⟩ | ⟨e, l⟩
            · exact .inr ⟨e, l⟩
            · exact .inl ⟨e, l⟩
      · rintro σ Hf ⟨v6, v7, rfl, sf, wf, hf, ws, as, hlf, lws, las, hts, hties⟩
        refine ⟨_, rfl, q Hf lf ws tld sf wf flf ⟨nd, hlt, by rw [lt60, lws]; omega, hties⟩ (by rw [lws]; omega) ⟨as, ?_, by rw [las, lws], fun j t hj => ?_⟩⟩
        · rw [only_new flf]
          exact hlf
        · obtain ⟨h1, h2⟩ := hts j t hj
          unfold NT
          rw [only_new h1]
          exact h2
    · rw [decide_eq_true hne]
      refine iteT ?_
      have hpos : 0 < ord.length := List.length_pos_iff.mpr hne
      generalize hE : upd Hd e0 (HO.lst []) = E0 at se
      have oE := se _ _ ho
      have tE := se _ _ ht
      have wE := se _ _ wd
      refine ⟨_, rfl, .inl ⟨rfl, _, SqL.of tE⟩, _, rfl, .inl ⟨rfl, _, SqL.of oE⟩, _, rfl, _, rfl, lo, _, rfl, .inl (SqL.of oE), a, _, rfl, ⟨_, _, _, wE⟩, ?_, ?_, fun z q0 q1 q2 z0 z1 => ?_⟩
      · rw [List.length_map]
        omega
      · rw [List.length_map]
        omega
      rw [List.length_map] at z1
      have r1 : rm (upd E0 a (HO.lst [V.int q0, V.int q1, V.int q2])) a = rm E0 a := rm_upd
      have w1 : upd E0 a (HO.lst [V.int q0, V.int q1, V.int q2]) a = some (HO.lst [V.int q0, V.int q1, V.int q2]) := upd_same
      have o1 : upd E0 a (HO.lst [V.int q0, V.int q1, V.int q2]) lo = some (HO.lst (ord.map vn)) := (upd_ne loa).trans oE
      have t1 : upd E0 a (HO.lst [V.int q0, V.int q1, V.int q2]) lt = some (HO.lst (tld.map vn)) := (upd_ne lta).trans tE
      generalize upd E0 a (HO.lst [V.int q0, V.int q1, V.int q2]) = E1 at r1 w1 o1 t1
      have hb : (if decide (1 < kind) = true then (1 : Int) else 0) = 0 ∨ (if decide (1 < kind) = true then (1 : Int) else 0) = 1 := by split <;> simp
      refine ⟨_, rfl, _, _, rfl, rfl, .inr ⟨_, rfl, _, _, rfl, rfl, .inr (by rcases hb with h | h <;> rw [h] <;> exact ⟨by decide, by decide⟩), ?_⟩⟩
      obtain ⟨ix, hix, eix⟩ : ∃ ix : Nat, ix < ord.length ∧ z * (if decide (1 < kind) = true then (1 : Int) else 0) = (ix : Int) := by
        rcases hb with h | h
        · exact ⟨0, hpos, by rw [h]; simp⟩
        · exact ⟨z.toNat, by omega, by rw [h, Int.mul_one, Int.toNat_of_nonneg z0]⟩
      have gi : ord[ix]? = some (ord.getD ix 0) := by rw [List.getD_eq_getElem?_getD, List.getElem?_eq_getElem hix]; rfl
      refine ⟨lo, _, (ix : Int), ix, vn (ord.getD ix 0), rfl, (by rw [← eix]), o1, by omega, by omega, ?_, ?_, lt, _, _, rfl, rfl, (upd_ne lol.symm).trans t1, ?_, ⟨ord.eraseIdx ix, tld ++ [ord.getD ix 0], rfl, ?_, ⟨q0, q1, q2, ?_⟩, ?_, ?_, ?_⟩, ?_⟩
      · rw [List.length_map]
        exact PySem.seqIndex_of (by omega) (by omega)
      · rw [List.getElem?_map, gi]
        rfl
      · rw [List.length_map]
        exact small1000 (by omega)
      · intro b o e
        have z1 := sd b o e
        obtain ⟨n1, z1⟩ := rm_some z1
        obtain ⟨_, eh⟩ := rm_some e
        have b1 : b ≠ lo := fun z => by rw [z, flo] at eh; cases eh
        have b2 : b ≠ lt := fun z => by rw [z, flt] at eh; cases eh
        have z2 : rm E1 a b = some o := by
          rw [r1]
          exact rm_mono a se b o (by rw [rm_ne n1]; exact z1)
        rw [rm_ne n1, upd_ne b2, upd_ne b1]
        exact (rm_some z2).2
      · rw [upd_ne lta.symm, upd_ne loa.symm]
        exact w1
      · unfold NL
        rw [upd_ne lol, upd_same, map_eraseIdx]
      · unfold NL
        rw [upd_same, List.map_append]
        rfl
      · rw [List.append_assoc]
        exact ((List.Perm.append_left tld (perm_eraseIdx gi)).trans hp)
      · show (match upd (upd E1 lo _) lt _ lo with | some (.lst xs) => xs.length | _ => 0) < (match Hd lo with | some (.lst xs) => xs.length | _ => 0)
        have e1 : Hd lo = some (.lst (ord.map vn)) := ho
        rw [upd_ne lol, upd_same, e1]
        show ((ord.map vn).eraseIdx ix).length < (ord.map vn).length
        rw [map_eraseIdx, List.length_map, List.length_map, List.length_eraseIdx_of_lt hix]
        omega
end
end G

namespace G
open PySem L2 GM
theorem sr_at {H H' : Hp} {a b : Addr} {o : HO} (s : Same (rm H a) (rm H' a)) (n : b ≠ a) (e : H b = some o) : H' b = some o := (rm_some (s b o (by rw [rm_ne n]; exact e))).2
theorem sr_free {H H' : Hp} {a b : Addr} (s : Same (rm H a) (rm H' a)) (n : b ≠ a) (e : H' b = none) : H b = none := by
  have z := s.free (l := b) (by rw [rm_ne n]; exact e)
  rw [rm_ne n] at z
  exact z
theorem sr_draw {H : Hp} {a : Addr} {o : HO} : Same (rm H a) (rm (upd H a o) a) := by
  rw [rm_upd]
  exact .refl _
theorem sr_new {H : Hp} {a p : Addr} {o : HO} (h : H p = none) : Same (rm H a) (rm (upd H p o) a) := rm_mono a (same_new h)
theorem sr_upd {H H' : Hp} {a p : Addr} {o : HO} (s : Same (rm H a) (rm H' a)) (h : H p = none) : Same (rm H a) (rm (upd H' p o) a) := fun b u e => by
  obtain ⟨n, e⟩ := rm_some e
  rw [rm_ne n, upd_ne (ne_of_none e h)]
  exact sr_at s n e
theorem only_rmD {H H' : Hp} {a : Addr} {w : List V} (s : Same (rm H a) (rm H' a)) (ha : H a = some (.lst w)) : Same (only H H') (rm H' a) := fun b o h => by
  have n : b ≠ a := fun z => by
    subst z
    unfold only at h
    rw [ha] at h
    cases h
  rw [rm_ne n]
  unfold only at h
  split at h
  · exact h
  · rename_i xs hx
    rw [← h]
    exact sr_at s n hx
  · cases h
theorem rm_nt {H : Hp} {a p : Addr} {w : List V} {l : List Nat} (ha : H a = some (.lst w)) (h : NT H p l) : NT (rm H a) p l := by
  unfold NT at *
  rw [rm_ne (fun z => by rw [z, ha] at h; cases h)]
  exact h
def tupE : Expr → Expr
  | .Call _ (e :: _) _ _ => e
  | e => e
def spSet : Sp := fun vs H Q _ => ∃ (a q : Addr) (ws : List Way), vs = [.ref a, .ref q] ∧ Well H a ∧ LL (rm H a) q (rows ws) ∧ Ww ws ∧ ws.length ≤ 59 ∧
  ∀ H' s st, Same (rm H a) (rm H' a) → Well H' a → H s = none → Setting (rows ws) st → NT H' s st → Q (.ref s) H'
/-- guards with none beside them among the found ones: a setting -/
def lone (f : Nat → List Nat) (fs : List Nat) : List Nat := fs.filter fun r => ((f r).filter fun x => decide (x ∈ fs)).isEmpty
theorem lone_set {ws : List Way} {fs : List Nat} (up : fs.Pairwise (· < ·)) (lt : ∀ x ∈ fs, x < ws.length + 1) : Setting (rows ws) (lone (nb (rows ws)) fs) where
  up := up.sublist List.filter_sublist
  lt := fun x hx => by
    rw [rows_length]
    exact lt x (List.mem_filter.mp hx).1
  apart := fun x hx y hy m => by
    obtain ⟨_, h2⟩ := List.mem_filter.mp hx
    rw [List.isEmpty_iff, List.filter_eq_nil_iff] at h2
    exact h2 y m (decide_eq_true (List.mem_filter.mp hy).1)
section
variable {P : Program} {w : World} {K : PySem.W.Frag} {mg : Str → Option Value} {base : Heap} {C CP fI : Addr} {dI : FuncData}
end
end G

namespace G
open PySem L2 GM
theorem turn_ne {first step : Int} {n j k : Nat} (hs : step = 1 ∨ step = -1) (h1 : j < k) (h2 : k < n) : (first + step * (j : Int)) % (n : Int) ≠ (first + step * (k : Int)) % (n : Int) := by
  intro e
  rcases hs with rfl | rfl
  · have z := Int.emod_eq_emod_iff_emod_sub_eq_zero.mp e.symm
    rw [show first + 1 * (k : Int) - (first + 1 * (j : Int)) = ((k - j : Nat) : Int) by omega, Int.emod_eq_of_lt (by omega) (by omega)] at z
    omega
  · have z := Int.emod_eq_emod_iff_emod_sub_eq_zero.mp e
    rw [show first + -1 * (j : Int) - (first + -1 * (k : Int)) = ((k - j : Nat) : Int) by omega, Int.emod_eq_of_lt (by omega) (by omega)] at z
    omega
theorem srt_set {ws : List Way} (hw : Ww ws) {fs : List Nat} (nd : fs.Nodup) (lt : ∀ x ∈ fs, x < ws.length + 1) (ap : ∀ x ∈ fs, ∀ y ∈ fs, y ∉ nb (rows ws) x) : Setting (rows ws) (srt fs) where
  up := by
    have h1 := srt_pw fs
    have h2 : (srt fs).Nodup := (srt_perm fs).nodup_iff.mpr nd
    exact h1.imp₂ (fun x y h k => by omega) h2
  lt := fun x hx => by
    rw [rows_length]
    exact lt x (mem_srt.mp hx)
  apart := fun x hx y hy => ap x (mem_srt.mp hx) y (mem_srt.mp hy)
theorem step_at {z : Int} (h0 : 0 ≤ z) (h1 : z < 3) : ∃ st : Int, (st = 1 ∨ st = -1) ∧ atI [V.int 1, V.int 1, V.int (-1)] z = some (.int st) := by
  have : z = 0 ∨ z = 1 ∨ z = 2 := by omega
  rcases this with rfl | rfl | rfl
  · exact ⟨1, .inl rfl, rfl⟩
  · exact ⟨1, .inl rfl, rfl⟩
  · exact ⟨-1, .inr rfl, rfl⟩
section
variable {P : Program} {w : World} {K : PySem.W.Frag} {mg : Str → Option Value} {base : Heap} {C CP fI : Addr} {dI : FuncData}
theorem scLset : FnScope ["well", "near", "often", "first", "step", "found", "k", "room", "one"] ["well", "near"] (defScope s__law_setting) := ⟨rfl, rfl, rfl, by decide +kernel, rfl, by decide +kernel, by decide +kernel⟩
theorem ok_lset {f : Addr} {fd : FuncData} (F : Fun K "_law_setting" "_law_setting" s__law_setting f fd) (T : TxL K mg) (L_law_draw : Cal P w K mg base "_law_draw" 1 ["well", "many"] spDraw) : FnOk P w K mg base CX0 2 f fd ["well", "near"] spSet := by
  refine F.ok scLset (fun vs H Q E h => ?_) (fun cdv A outer s H vs Q E hr h => ?_)
  · obtain ⟨a, q, ws, rfl, _⟩ := h
    rfl
  · obtain ⟨a, q, ws, rfl, ⟨u0, u1, u2, hW⟩, hq, hw, hl, k⟩ := h
    have hu := hr.units
    refine ⟨_, (pss_cons (ps_set (i := 2) scLset.nd rfl (Or.inl rfl) (pe_op op_add pe_int (L_law_draw.pe (hr.mono (by decide)) rfl (pa_cons (pv 0) (pa_cons pe_int pa_nil)))))
      (pss_cons (ps_set (i := 3) scLset.nd rfl (Or.inl rfl) (L_law_draw.pe (hr.mono (by decide)) rfl (pa_cons (pv 0) (pa_cons (pe_callB call_len_seq (by rfl) T.len PySem.boot_len (pa_cons (pv 1) pa_nil)) pa_nil))))
      (pss_cons (ps_set (i := 4) scLset.nd rfl (Or.inl rfl) (pe_ix ix_list (pe_lst (pa_cons pe_int (pa_cons pe_int (pa_cons (pe_un un_neg pe_int) pa_nil)))) (L_law_draw.pe (hr.mono (by decide)) rfl (pa_cons (pv 0) (pa_cons pe_int pa_nil))) (fun _ _ => rfl)))
      (pss_cons (ps_set (i := 5) scLset.nd rfl (Or.inr rfl) (pe_lst pa_nil))
      (pss_cons (ps_for PassesOwn.never rfl (pi_range1 (by rfl) T.rg (pa_cons (pe_callB call_len_seq (by rfl) T.len PySem.boot_len (pa_cons (pv 1) pa_nil)) pa_nil)) (pg_name (i := 6) scLset.nd rfl (Or.inl rfl))
        (pss_cons (ps_set (i := 7) scLset.nd rfl (Or.inl rfl) (pe_op op_mod (pe_op op_add (pv 3) (pe_op op_mul (pv 4) (pv 6))) (pe_callB call_len_seq (by rfl) T.len PySem.boot_len (pa_cons (pv 1) pa_nil))))
      (pss_one (ps_if (PW.pt (pw_and (pt_cmpR (op_eqD hu) (pe_lc (own := [("one", 8)]) (g := gName 8) rfl scLset.nd (pi_list (pe_ix ix_list (pv 1) (pv 7) (fun _ _ => rfl))) (blkOk_by (N := ["well", "near", "often", "first", "step", "found", "k", "room", "one"]) (sc := defScope s__law_setting) (by decide +kernel)) (fun _ _ _ _ _ => pg_name (i := 8) scLset.nd rfl (Or.inl rfl)) (fun _ _ _ _ _ => pts_one (pt_cmpR (r := rIn K false) op_in_seq (pv 8) (pv 5) rfl)) (fun _ _ _ _ _ => (pv 8))) (pe_lst pa_nil) (nomark _)) (pw_and1 (pt_cmpR op_lt (L_law_draw.pe (hr.mono (by decide)) rfl (pa_cons (pv 0) (pa_cons pe_int pa_nil))) (pv 2) (nomark _))))) (pss_one (ps_expr (pe_bm PySem.F.plainAttrs_list PySem.F.slot_list_append PySem.F.type_list_append mt_append (pv 5) (pa_cons (pv 7) pa_nil)))) pss_nil))))
      (pss_one (ps_ret (pe_callTy call_tuple_of (by rfl) T.tup PyProof.Rows.boot_tuple (pa_cons (pe_callB cr_sortedI (by rfl) T.srt PyProof.Rows.boot_sorted (pa_cons (pv 5) pa_nil)) pa_nil))))))))), ?_⟩
    have hq0 := hq.same (rm_same H a)
    obtain ⟨as, hqa, hA⟩ := id hq0
    -- often
    refine ⟨_, rfl, a, 3, rfl, ⟨u0, u1, u2, hW⟩, by decide, by decide, fun z1 p0 p1 p2 _ _ => ?_⟩
    have r1 : Same (rm H a) (rm (upd H a (HO.lst [V.int p0, V.int p1, V.int p2])) a) := sr_draw
    have w1 : upd H a (HO.lst [V.int p0, V.int p1, V.int p2]) a = some (HO.lst [V.int p0, V.int p1, V.int p2]) := upd_same
    generalize upd H a (HO.lst [V.int p0, V.int p1, V.int p2]) = G1 at r1 w1
    refine ⟨_, _, rfl, rfl, ?_⟩
    -- first
    obtain ⟨as1, hqa1, hA1⟩ : LL G1 q (rows ws) := hq.same (r1.trans (rm_same G1 a))
    have el1 : (as1.map V.ref).length = ws.length + 1 := by rw [List.length_map, hA1.1, rows_length]
    refine ⟨_, rfl, _, rfl, q, _, rfl, .inl (SqL.of hqa1), a, _, rfl, ⟨_, _, _, w1⟩, by rw [el1]; omega, by rw [el1]; omega, fun first p0' p1' p2' f0 f1 => ?_⟩
    rw [el1] at f1
    have r2 : Same (rm G1 a) (rm (upd G1 a (HO.lst [V.int p0', V.int p1', V.int p2'])) a) := sr_draw
    have w2 : upd G1 a (HO.lst [V.int p0', V.int p1', V.int p2']) a = some (HO.lst [V.int p0', V.int p1', V.int p2']) := upd_same
    generalize upd G1 a (HO.lst [V.int p0', V.int p1', V.int p2']) = G2 at r2 w2
    -- step
    refine ⟨_, rfl, (by show 3 ≤ sizeLine; decide), fun ls ns => ?_⟩
    generalize hG3 : upd _ ls _ = G3
    have s23 : Same G2 G3 := hG3 ▸ same_new ns
    have hls : G3 ls = some (.lst [V.int 1, V.int 1, V.int (-1)]) := hG3 ▸ upd_same
    have lsa : ls ≠ a := (ne_of_none w2 ns).symm
    refine ⟨_, rfl, a, 3, rfl, ⟨_, _, _, s23 _ _ w2⟩, by decide, by decide, fun z3 x0 x1 x2 c0 c1 => ?_⟩
    have r4 : Same (rm G3 a) (rm (upd G3 a (HO.lst [V.int x0, V.int x1, V.int x2])) a) := sr_draw
    have w4 : upd G3 a (HO.lst [V.int x0, V.int x1, V.int x2]) a = some (HO.lst [V.int x0, V.int x1, V.int x2]) := upd_same
    generalize upd G3 a (HO.lst [V.int x0, V.int x1, V.int x2]) = G4 at r4 w4
    have hls4 : G4 ls = _ := sr_at r4 lsa hls
    obtain ⟨step, hstep, eat⟩ := step_at c0 c1
    have sr4 : Same (rm H a) (rm G4 a) := r1.trans (r2.trans ((rm_mono a s23).trans r4))
    refine ⟨ls, _, _, _, rfl, rfl, SqL.of hls4, eat, (by show 0 ≤ sizeLine; decide), fun F nF => ?_⟩
    have Fa : F ≠ a := (ne_of_none w4 nF).symm
    have nF0 : H F = none := sr_free sr4 Fa nF
    generalize hG5 : upd _ F _ = G5
    have s45 : Same G4 G5 := hG5 ▸ same_new nF
    have hF5 : NL G5 F [] := hG5 ▸ upd_same
    have sr5 : Same (rm H a) (rm G5 a) := sr4.trans (rm_mono a s45)
    obtain ⟨as5, hqa5, hA5⟩ : LL G5 q (rows ws) := hq.same (sr5.trans (rm_same G5 a))
    have el5 : (as5.map V.ref).length = ws.length + 1 := by rw [List.length_map, hA5.1, rows_length]
    refine ⟨_, rfl, q, _, rfl, .inl (SqL.of hqa5), ((ws.length + 1 : Nat) : Int), (by rw [el5]), by omega, by omega, ?_⟩
    refine for_range (lo := 0) (n := (((ws.length + 1 : Nat) : Int)).toNat) (fun i σ Hc => ∃ v6 v7 v8, σ = [some (.ref a), some (.ref q), some (.int (1 + z1)), some (.int first), some (.int step), some (.ref F), v6, v7, v8] ∧ Same (rm H a) (rm Hc a) ∧ Well Hc a ∧
        ∃ fs : List Nat, NL Hc F fs ∧ fs.Nodup ∧ (∀ x ∈ fs, x < ws.length + 1) ∧ (∀ x ∈ fs, ∀ y ∈ fs, y ∉ nb (rows ws) x) ∧ (∀ x ∈ fs, ∃ j : Nat, j < i ∧ (x : Int) = (first + step * (j : Int)) % ((ws.length + 1 : Nat) : Int)) ∧ fs.length ≤ i)
      ⟨none, none, none, rfl, sr5, ⟨_, _, _, s45 _ _ w4⟩, [], hF5, List.nodup_nil, (fun x h => nomatch h), (fun x h => nomatch h), (fun x h => nomatch h), Nat.le_refl _⟩ ?_ ?_
    · rintro i σ Hc hi ⟨v6, v7, v8, rfl, sc, ⟨y0, y1, y2, wc⟩, fs, hF, nd, lt, ap, tn, len⟩
      have hi2 : i < ws.length + 1 := by omega
      have ez : (0 : Int) + (i : Int) = ((i : Nat) : Int) := by omega
      rw [ez]
      obtain ⟨as2, hqa2, hA2⟩ : LL Hc q (rows ws) := hq.same (sc.trans (rm_same Hc a))
      have el2 : (as2.map V.ref).length = ws.length + 1 := by rw [List.length_map, hA2.1, rows_length]
      have npos : (0 : Int) < ((as2.map V.ref).length : Nat) := by rw [el2]; omega
      obtain ⟨r, er⟩ : ∃ r : Nat, (first + step * (i : Int)) % (((as2.map V.ref).length : Nat) : Int) = (r : Int) := ⟨((first + step * (i : Int)) % (((as2.map V.ref).length : Nat) : Int)).toNat, by
        have := Int.emod_nonneg (first + step * (i : Int)) (show (((as2.map V.ref).length : Nat) : Int) ≠ 0 by omega)
        omega⟩
      have hr1 : r < ws.length + 1 := by
        have := Int.emod_lt_of_pos (first + step * (i : Int)) npos
        rw [er, el2] at this
        omega
      have er2 : (r : Int) = (first + step * (i : Int)) % ((ws.length + 1 : Nat) : Int) := by
        rw [← el2]
        exact er.symm
      have rnew : r ∉ fs := fun h => by
        obtain ⟨j, hj, e⟩ := tn r h
        exact turn_ne hstep hj hi2 (e.symm.trans er2)
      refine ⟨_, rfl, _, rfl, _, rfl, _, _, rfl, rfl, .inr ⟨by omega, by omega⟩, _, _, rfl, rfl, _, rfl, q, _, rfl, .inl (SqL.of hqa2), _, _, rfl, rfl, npos, ?_⟩
      dsimp only
      rw [er]
      obtain ⟨lb, hlb⟩ : ∃ lb, as2[r]? = some lb := ⟨_, List.getElem?_eq_getElem (by rw [hA2.1, rows_length]; exact hr1)⟩
      have hlb2 : NL Hc lb (nb (rows ws) r) := hA2.2 r lb hlb
      refine ⟨_, rfl, _, rfl, q, _, _, _, rfl, rfl, SqL.of hqa2, atI_nat (by rw [List.getElem?_map, hlb]; rfl), lb, rfl, ⟨_, SqL.of hlb2⟩, fun D3 nD3 => ?_⟩
      refine lc_gen (walk_list (K := K) (a := lb) (xs := (nb (rows ws) r).map vn)) ((nb (rows ws) r).map vn) (fun v => match v with | .int z => decide (z.toNat ∈ fs) | _ => false) (fun v => v) nD3 rfl (by rw [List.length_map]; exact small1000 (by have := nb_len ws r; omega))
        (fun j Hc x H' _ _ y => ⟨y.1, y.2⟩) (fun Hc s => SqL.of (s _ _ hlb2)) ?_ (fun v Hc R hv _ _ k => ⟨_, rfl, k Hc (.refl _)⟩) ?_
      · intro v Hc2 R2 hv2 s5 k2
        obtain ⟨y, _, rfl⟩ := List.mem_map.mp hv2
        have kk' : R2 (decide (y ∈ fs)) Hc2 := k2 Hc2 (.refl _)
        refine ⟨_, rfl, _, rfl, F, _, rfl, .inl (SqL.of (s5 _ _ hF)), rfl, flat_vn fs, _, rfl, ?_⟩
        rw [inV_vn]
        exact kk'
      · intro H5 s5 hD5
        have e5 : NL H5 D3 ((nb (rows ws) r).filter fun x => decide (x ∈ fs)) := by
          unfold NL
          rw [hD5, List.map_id', List.filter_map]
          rfl
        refine ⟨(by show 0 ≤ sizeLine; decide), fun e0 ne0 => ?_⟩
        have se := s5.trans (same_new (o := HO.lst []) ne0)
        refine eq_nl (same_new (o := HO.lst []) ne0 _ _ e5) (show NL _ e0 [] from upd_same) ⟨_, rfl, ?_⟩
        generalize upd H5 e0 (HO.lst []) = H6 at se
        have keep : ∀ H7, Same (rm Hc a) (rm H7 a) → Well H7 a → ∃ v6' v7' v8', [some (V.ref a), some (V.ref q), some (V.int (1 + z1)), some (V.int first), some (V.int step), some (V.ref F), some (vn i), some (vn r), v8] = [some (V.ref a), some (V.ref q), some (V.int (1 + z1)), some (V.int first), some (V.int step), some (V.ref F), v6', v7', v8'] ∧ Same (rm H a) (rm H7 a) ∧ Well H7 a ∧
            ∃ fs : List Nat, NL H7 F fs ∧ fs.Nodup ∧ (∀ x ∈ fs, x < ws.length + 1) ∧ (∀ x ∈ fs, ∀ y ∈ fs, y ∉ nb (rows ws) x) ∧ (∀ x ∈ fs, ∃ j : Nat, j < i + 1 ∧ (x : Int) = (first + step * (j : Int)) % ((ws.length + 1 : Nat) : Int)) ∧ fs.length ≤ i + 1 := fun H7 s7 w7 =>
          ⟨_, _, _, rfl, sc.trans s7, w7, fs, sr_at s7 Fa hF, nd, lt, ap, fun x hx => by obtain ⟨j, h1, h2⟩ := tn x hx; exact ⟨j, by omega, h2⟩, by omega⟩
        by_cases hc : ((nb (rows ws) r).filter fun x => decide (x ∈ fs)) = []
        · rw [decide_eq_true hc]
          refine iteT ⟨_, rfl, a, 4, rfl, ⟨_, _, _, se _ _ wc⟩, by decide, by decide, fun z q0 q1 q2 z0 z1 => ?_⟩
          have r7 : Same (rm H6 a) (rm (upd H6 a (HO.lst [V.int q0, V.int q1, V.int q2])) a) := sr_draw
          have w7 : upd H6 a (HO.lst [V.int q0, V.int q1, V.int q2]) a = some (HO.lst [V.int q0, V.int q1, V.int q2]) := upd_same
          generalize upd H6 a (HO.lst [V.int q0, V.int q1, V.int q2]) = H7 at r7 w7
          have s7 : Same (rm Hc a) (rm H7 a) := (rm_mono a se).trans r7
          have hF7 : NL H7 F fs := sr_at s7 Fa hF
          refine ⟨_, rfl, _, _, rfl, rfl, _, rfl, ite2 (fun _ => ?_) (fun _ => keep H7 s7 ⟨_, _, _, w7⟩)⟩
          refine ⟨_, rfl, .inl ⟨rfl, _, SqL.of hF7⟩, _, rfl, F, _, _, rfl, rfl, hF7, by rw [List.length_map]; exact small1000 (by omega), ?_⟩
          have apr : ∀ x ∈ fs, x ∉ nb (rows ws) r := fun x hx m => by
            rw [List.filter_eq_nil_iff] at hc
            exact hc x m (decide_eq_true hx)
          refine ⟨_, _, _, rfl, fun b o e => ?_, ⟨q0, q1, q2, by rw [upd_ne Fa.symm]; exact w7⟩, fs ++ [r], ?_, ?_, ?_, ?_, ?_, ?_⟩
          · obtain ⟨n1, e⟩ := rm_some e
            rw [rm_ne n1, upd_ne (ne_of_none e nF0)]
            exact sr_at s7 n1 (sr_at sc n1 e)
          · unfold NL
            rw [upd_same, List.map_append]
            rfl
          · rw [List.nodup_append]
            exact ⟨nd, by simp, fun x hx y hy e => rnew (by rw [List.mem_singleton.mp hy] at e; rw [← e]; exact hx)⟩
          · intro x hx
            rcases List.mem_append.mp hx with h | h
            · exact lt x h
            · rw [List.mem_singleton.mp h]
              exact hr1
          · intro x hx y hy
            rcases List.mem_append.mp hx with h | h <;> rcases List.mem_append.mp hy with h' | h'
            · exact ap x h y h'
            · rw [List.mem_singleton.mp h']
              intro m
              exact apr x h ((graph_rows hw).sym _ _ m)
            · rw [List.mem_singleton.mp h]
              exact apr y h'
            · rw [List.mem_singleton.mp h, List.mem_singleton.mp h']
              exact (graph_rows hw).irr r
          · intro x hx
            rcases List.mem_append.mp hx with h | h
            · obtain ⟨j, h1, h2⟩ := tn x h
              exact ⟨j, by omega, h2⟩
            · rw [List.mem_singleton.mp h]
              exact ⟨i, by omega, er2⟩
          · rw [List.length_append]
            exact Nat.succ_le_succ len
        · rw [decide_eq_false hc]
          exact iteF (keep H6 (rm_mono a se) ⟨_, _, _, se _ _ wc⟩)
    · rintro σ Hc ⟨v6, v7, v8, rfl, sc, ⟨y0, y1, y2, wc⟩, fs, hF, nd, lt, ap, tn, len⟩
      refine ⟨_, rfl, F, fs.map (fun (n : Nat) => (n : Int)), rfl, (by rw [← vn_map]; exact SqL.of hF), fun ns' ps pm ri nps => ?_⟩
      rw [srt_ints (l := fs) pm ri]
      generalize hG6 : upd _ ps _ = G6
      have g6 : Same Hc G6 := hG6 ▸ same_new nps
      have hp6 : NL G6 ps (srt fs) := hG6 ▸ upd_same
      refine ⟨ps, _, rfl, .inl ⟨SqL.of hp6, fun pt npt => ?_⟩⟩
      have s7 := same_new (o := HO.tup ((srt fs).map vn)) npt
      have pa : pt ≠ a := (ne_of_none (g6 _ _ wc) npt).symm
      exact k _ pt _ (sc.trans (rm_mono a (g6.trans s7))) ⟨y0, y1, y2, s7 _ _ (g6 _ _ wc)⟩ (sr_free sc pa (g6.free npt)) (srt_set hw nd lt ap) upd_same
end
end G

/-! sorted(xs), xs a list of tuples of whole numbers, any number of them. -/
namespace TSo
open PySem PyProof.Rows Srt SrtO
abbrev It := Int ⊕ List Nat
def sh0 : Nat → Bool := fun _ => false
def IsTup (h : Heap) (v : Value) (l : List It) : Prop := ∃ a o xs n, v = Value.ref a ∧ h.get? a = some o ∧ o.cls = .type "tuple" ∧ o.data = .seq xs n ∧ tupItems sh0 0 xs.toList = some l
theorem IsTup.keeps {h h' : Heap} {v : Value} {l : List It} (t : IsTup h v l) (k : ∀ b o, h.get? b = some o → o.cls = .type "tuple" → h'.get? b = some o) : IsTup h' v l := by
  obtain ⟨a, o, xs, n, e, e1, e2, e3, e4⟩ := t
  exact ⟨a, o, xs, n, e, k a o e1 e2, e2, e3, e4⟩
theorem tup_swo (k : Value → List It) : Swo fun v u => lexLt itemOrd (k v) (k u) := by
  refine ⟨fun x y h => ?_, fun x y z h1 h2 => ?_⟩
  · cases e : lexLt itemOrd (k y) (k x) with
    | false => rfl
    | true =>
      have := lex_trans (O := itemOrd) _ _ _ h e
      rw [lex_irrefl] at this
      cases this
  · cases e : lexLt itemOrd (k z) (k x) with
    | false => rfl
    | true =>
      rcases lex_negTrans (O := itemOrd) (k z) (k y) (k x) e with a | a
      · rw [h2] at a; cases a
      · rw [h1] at a; cases a
theorem firsts {h : Heap} {k : Value → List It} : ∀ {vs : List Value}, (∀ v ∈ vs, IsTup h v (k v) ∧ k v ≠ []) → ∃ fs, TupsOf h sh0 vs fs ∧ fs.length = vs.length
  | [], _ => ⟨[], .nil, rfl⟩
  | v :: vs, hp => by
    obtain ⟨fs, h1, h2⟩ := firsts (vs := vs) fun u hu => hp u (List.mem_cons_of_mem _ hu)
    obtain ⟨⟨a, o, xs, n, e, e1, e2, e3, e4⟩, ne⟩ := hp v List.mem_cons_self
    have hx : ∃ i t r, xs.toList = Value.int i t :: r := by
      cases hxs : xs.toList with
      | nil =>
        rw [hxs] at e4
        exact absurd (Option.some.inj e4).symm ne
      | cons u r =>
        rw [hxs] at e4
        obtain ⟨i, t, _, hu, _⟩ := tupItems_int rfl e4
        exact ⟨i, t, r, by rw [hu]⟩
    obtain ⟨i, t, r, hx⟩ := hx
    have h0 : xs[0]? = some (Value.int i t) := by rw [← Array.getElem?_toList, hx]; rfl
    exact ⟨Value.int i t :: fs, .cons ⟨a, o, xs, n, e, e1, e2, e3, h0, fun _ => ⟨i, t, rfl⟩, fun z => nomatch z⟩ h1, by rw [List.length_cons, h2, List.length_cons]⟩
section
variable {prog : Program} {w : World} {A : Around} {E : Value → Shared → Prop} {s : Shared}
theorem tup_cmp {vs : List Value} {k : Value → List It} (hp : ∀ v ∈ vs, IsTup s.heap v (k v)) : Cmp prog w A s (tuples' true) (fun p => p.1 ∈ vs) (lt2 fun v u => lexLt itemOrd (k v) (k u)) := by
  intro p q hm hm'
  have key : ∀ v, v ∈ vs → tupKey s.heap sh0 v = some (k v) := fun v hv => by
    obtain ⟨a, o, xs, n, e, e1, e2, e3, e4⟩ := hp v hv
    rw [e]
    rw [e] at e4
    simp only [tupKey, e1, e3]
    exact e4
  exact tup_ltAt (shape := sh0) true A _ p.1 q.1 (k p.1) (k q.1) (key _ hm) (key _ hm') ⟨rfl, rfl⟩
theorem tups_sortable {a : Addr} {vs : List Value} {k : Value → List It} (h0 : 0 < vs.length) (hp : ∀ v ∈ vs, IsTup s.heap v (k v) ∧ k v ≠ []) (ha : ∀ o, s.heap.get? a = some o → o.cls ≠ .type "tuple") :
    SortableO prog w A s a vs fun v u => lexLt itemOrd (k v) (k u) := by
  intro h' keep
  have hp' : ∀ v ∈ vs, IsTup h' v (k v) ∧ k v ≠ [] := fun v hm => ⟨(hp v hm).1.keeps fun b o e c => keep b o (fun z => by subst z; exact ha o e c) e, (hp v hm).2⟩
  obtain ⟨fs, h1, h2⟩ := firsts hp'
  exact ⟨tuples' true, fun Q E hq => tup_kind (s := { s with heap := h' }) (shape := sh0) (by omega) h1 hq, tup_cmp fun v hm => (hp' v hm).1⟩
theorem sorted_tups {l : Addr} {vs : List Value} {k : Value → List It} {Q : Value → Shared → Prop} (hl : s.heap.IsList l vs.toArray) (hz : vs.length ≤ sizeLine) (hp : ∀ v ∈ vs, IsTup s.heap v (k v)) (hn : 2 ≤ vs.length → ∀ v ∈ vs, k v ≠ [])
    (h : ∀ (h' : Heap) (d : Addr) (out : List Value), Srtd (fun v u => lexLt itemOrd (k v) (k u)) out → Stb (fun v u => lexLt itemOrd (k v) (k u)) out vs → (∀ b o, s.heap.get? b = some o → h'.get? b = some o) → s.heap.objs.size ≤ d → (∃ n, h'.get? d = some (seqObj "list" out.toArray n)) → Q (.ref d) { s with heap := h' }) :
    wpAny (model prog w) A (call (.builtin "sorted") [.ref l]) Q E s := by
  refine sorted_ord (tup_swo k) hl hz (fun h2 h₁ a ha kk => ?_) fun out hs hb => h _ _ out hs hb (fun b o e => sortedAll_old e) (Nat.le_succ _) (sortedAll_at s.heap vs out.toArray)
  refine tups_sortable (s := { s with heap := h₁ }) (by omega) (fun v hm => ⟨(hp v hm).keeps fun b o e _ => (kk b o e).2, hn h2 v hm⟩) fun o e => ?_
  have e' : some o = some (seqObj "list" vs.toArray 0) := e.symm.trans ha
  cases e'
  intro c
  exact absurd (Value.type.inj c) (by decide)
end
end TSo
namespace L2
open PySem PySem.Spec PyProof.Rows
/-- a tuple's rooms as the sort compares them -/
def toI (l : List Nat) : List TSo.It := l.map fun (n : Nat) => Sum.inl (n : Int)
/-- one tuple of rooms before another -/
def tlt (l m : List Nat) : Bool := lexLt itemOrd (toI l) (toI m)
theorem toI_inj : ∀ {l m : List Nat}, toI l = toI m → l = m
  | [], [], _ => rfl
  | [], _ :: _, h => nomatch h
  | _ :: _, [], h => nomatch h
  | a :: l, b :: m, h => by
    obtain ⟨h1, h2⟩ := List.cons.inj h
    have e : a = b := Int.ofNat.inj (Sum.inl.inj h1)
    rw [e, toI_inj h2]
theorem tlt_total {l m : List Nat} (h1 : tlt l m = false) (h2 : tlt m l = false) : l = m := toI_inj (lex_total (O := itemOrd) _ _ h1 h2)
/-- two sorted arrangements of the same tuples are one -/
theorem tsorted_uniq : ∀ {l m : List (List Nat)}, l.Perm m → l.Pairwise (fun x y => tlt y x = false) → m.Pairwise (fun x y => tlt y x = false) → l = m
  | [], m, h, _, _ => List.Perm.nil_eq h
  | a :: l, [], h, _, _ => absurd h.length_eq (by simp)
  | a :: l, b :: m, h, h1, h2 => by
    have e : a = b := by
      rw [List.pairwise_cons] at h1 h2
      rcases List.mem_cons.mp (h.subset List.mem_cons_self) with e | m1
      · exact e
      · rcases List.mem_cons.mp (h.symm.subset List.mem_cons_self) with e | m2
        · exact e.symm
        · exact tlt_total (h2.1 a m1) (h1.1 b m2)
    subst e
    rw [tsorted_uniq h.cons_inv (List.pairwise_cons.mp h1).2 (List.pairwise_cons.mp h2).2]
theorem vals_items : ∀ {l : List Nat} {us : List Value}, Vals (l.map fun (n : Nat) => V.int (n : Int)) us → tupItems TSo.sh0 0 us = some (toI l)
  | [], _, .nil => rfl
  | n :: l, _, .cons h t => by
    rename_i u us
    obtain ⟨tk, rfl⟩ := (show ∃ t, u = Value.int (n : Int) t from h)
    have ih := vals_items t
    have sh : ∀ (us : List Value) (i j : Nat), tupItems TSo.sh0 i us = tupItems TSo.sh0 j us := by
      intro us
      induction us with
      | nil => intro i j; rfl
      | cons u us ih =>
        intro i j
        cases u <;> simp only [tupItems, TSo.sh0, ih (i + 1) (j + 1)] <;> rfl
    show (if TSo.sh0 0 = true then none else (tupItems TSo.sh0 1 us).map (Sum.inl (n : Int) :: ·)) = _
    rw [if_neg (by decide), sh us 1 0, ih]
    rfl
def addrV : Value → Addr
  | .ref a => a
  | _ => 0
theorem tup_is {P : Program} {w : World} {H : Hp} {h : Heap} {b : Addr} {l : List Nat} (o : ObjOk P w H h b (.tup (l.map fun (n : Nat) => V.int (n : Int)))) : TSo.IsTup h (.ref b) (toI l) := by
  obtain ⟨_, its, r, ob, ho, hc, n, hd⟩ := o
  exact ⟨b, ob, its.toArray, n, rfl, ho, hc, hd, by simpa using vals_items r⟩
/-- sorted, by what stands at each place -/
def Srt1 (k : Addr → List Nat) (bs : List Addr) : Prop := bs.Pairwise fun x y => tlt (k y) (k x) = false
def rSortedTN (K : PySem.W.Frag) : List V → Hp → VK → Prop := fun vs H Q => ∃ (a : Addr) (as : List Addr) (k : Addr → List Nat), vs = [.ref a] ∧ SqL K H a (as.map V.ref) ∧ (∀ b ∈ as, H b = some (.tup ((k b).map fun (n : Nat) => V.int (n : Int)))) ∧ (2 ≤ as.length → ∀ b ∈ as, k b ≠ []) ∧
  ∀ bs p, bs.Perm as → Srt1 k bs → H p = none → Q (.ref p) (upd H p (.lst (bs.map V.ref)))
section
variable {X : Cx}
theorem out_refs {as : List Addr} {k : Addr → List Nat} {vs out : List Value} (ev : vs = as.map Value.ref) (h1 : SrtO.Srtd (fun v u => lexLt itemOrd (toI (k (addrV v))) (toI (k (addrV u)))) out) (h2 : SrtO.Stb (fun v u => lexLt itemOrd (toI (k (addrV v))) (toI (k (addrV u)))) out vs) :
    out = (out.map addrV).map Value.ref ∧ (out.map addrV).Perm as ∧ Srt1 k (out.map addrV) := by
  have hr : ∀ u ∈ out, u = Value.ref (addrV u) := fun u hu => by
    have := h2.perm.mem_iff.mp hu
    rw [ev] at this
    obtain ⟨a, _, rfl⟩ := List.mem_map.mp this
    rfl
  refine ⟨?_, ?_, ?_⟩
  · rw [List.map_map]
    exact ((List.map_congr_left fun u hu => (hr u hu).symm).trans (List.map_id out)).symm
  · have := h2.perm.map addrV
    rw [ev, List.map_map] at this
    refine this.trans (List.Perm.of_eq ?_)
    exact (List.map_congr_left fun _ _ => rfl).trans (List.map_id as)
  · exact List.pairwise_map.mpr (h1.imp fun h => h)
theorem vals_refV : ∀ bs : List Addr, Vals (bs.map V.ref) (bs.map Value.ref)
  | [] => .nil
  | _ :: r => .cons rfl (vals_refV r)
theorem refs_are {as : List Addr} : ∀ {us : List Value}, Vals (as.map V.ref) us → us = as.map Value.ref := by
  induction as with
  | nil => intro us h; cases h; rfl
  | cons a as ih =>
    intro us h
    cases h with
    | cons r t =>
      cases r
      rw [ih t]
      rfl
theorem cr_sortedTN : CallR X (.builtin "sorted") (rSortedTN X.K) := by
  intro pins s σ H vs us Q I r h
  obtain ⟨a, as, k, rfl, hs, hx, hne, q⟩ := h
  obtain ⟨its, rv, hl, hz⟩ := I.list hs
  obtain ⟨u, rfl, ru⟩ := vals1 r
  obtain rfl : u = Value.ref a := ru
  have ev := refs_are rv
  have el : its.length = as.length := by rw [ev, List.length_map]
  refine TSo.sorted_tups (k := fun v => toI (k (addrV v))) hl.isList (by rw [← rv.length]; exact hz) (fun v hv => ?_) (fun h2 v hv => ?_) fun h' d out h1 h2 kp hd hn => ?_
  · rw [ev] at hv
    obtain ⟨b, hb, rfl⟩ := List.mem_map.mp hv
    exact tup_is (I.hok _ _ (hx b hb))
  · rw [ev] at hv
    obtain ⟨b, hb, rfl⟩ := List.mem_map.mp hv
    intro e
    exact hne (by omega) b hb (toI_inj (show toI (k b) = toI [] from e))
  · obtain ⟨n, hn⟩ := hn
    obtain ⟨eo, pm, sr⟩ := out_refs ev h1 h2
    refine ⟨.ref d, upd H d (.lst ((out.map addrV).map V.ref)), I.laid (t' := s.toks) kp hd ⟨?_, out, n, ?_, hn⟩, rfl, q _ d pm sr (I.hok.fresh hd)⟩
    · rw [List.length_map, pm.length_eq]
      rw [List.length_map] at hz
      exact hz
    · have := vals_refV (out.map addrV)
      rw [← eo] at this
      exact this
/-- the rooms of a tuple -/
def roomsAt (H : Hp) (b : Addr) : List Nat := match H b with
  | some (.tup xs) => xs.map fun v => match v with | .int z => z.toNat | _ => 0
  | _ => []
theorem roomsAt_tup {H : Hp} {b : Addr} {l : List Nat} (h : H b = some (.tup (l.map fun (n : Nat) => V.int (n : Int)))) : roomsAt H b = l := by
  unfold roomsAt
  rw [h]
  show (l.map fun (n : Nat) => V.int (n : Int)).map _ = l
  rw [List.map_map]
  refine (List.map_congr_left (g := id) fun n _ => ?_).trans (List.map_id l)
  show ((n : Int)).toNat = n
  omega
/-- a tuple of rooms as a key -/
def toK (l : List Nat) : List Key := l.map fun (n : Nat) => (Sum.inl (n : Int) : Key)
theorem toK_inj {l m : List Nat} (h : toK l = toK m) : l = m := by
  unfold toK at h
  exact List.map_inj_right (f := fun (n : Nat) => (Sum.inl (n : Int) : Key)) (fun a b e => Int.ofNat.inj (Sum.inl.inj e)) |>.mp h
theorem toK_kV (l : List Nat) : (toK l).map kV = l.map fun (n : Nat) => V.int (n : Int) := by
  unfold toK
  rw [List.map_map]
  rfl
theorem keys_rooms {H : Hp} : ∀ {kvs : List (List Key × V)} {ls : List (List Nat)} {bs : List Addr}, kvs.map (·.1) = ls.map toK → IsKeys H kvs bs → bs.map (roomsAt H) = ls ∧ ∀ b ∈ bs, H b = some (.tup ((roomsAt H b).map fun (n : Nat) => V.int (n : Int)))
  | [], [], _, _, .nil => ⟨rfl, fun b h => nomatch h⟩
  | [], _ :: _, _, h, _ => nomatch h
  | _ :: _, [], _, h, _ => nomatch h
  | p :: kvs, l :: ls, _, h, .cons hb t => by
    obtain ⟨e1, e2⟩ := List.cons.inj h
    obtain ⟨h1, h2⟩ := keys_rooms e2 t
    have e3 : p.1 = toK l := e1
    rw [e3, toK_kV] at hb
    have e4 := roomsAt_tup hb
    refine ⟨by rw [List.map_cons, h1, e4], fun b hm => ?_⟩
    rcases List.mem_cons.mp hm with e | e
    · rw [e, e4]; exact hb
    · exact h2 b e
def rSortedDT : List V → Hp → VK → Prop := fun vs H Q => ∃ (d : Addr) (kvs : List (List Key × V)) (ls : List (List Nat)), vs = [V.ref d] ∧ Rd H d (.dT kvs) ∧ kvs.map (·.1) = ls.map toK ∧ (2 ≤ ls.length → ∀ l ∈ ls, l ≠ []) ∧
  ∀ bs p, (bs.map (roomsAt H)).Perm ls → Srt1 (roomsAt H) bs → (∀ b ∈ bs, H b = some (.tup ((roomsAt H b).map fun (n : Nat) => V.int (n : Int)))) → H p = none → Q (.ref p) (upd H p (.lst (bs.map V.ref)))
theorem call_sortedDT (hc : X.calm = true) : CallR X (.builtin "sorted") rSortedDT := by
  intro pins s σ H xs us Q I r h
  obtain ⟨d, kvs, ls, rfl, hd, hk, hne, q⟩ := h
  obtain ⟨u, rfl, rx⟩ := vals1 r
  cases rx
  obtain ⟨z, hs, ks, pr, o, es, ep, ho, hx, hdt, he, hn⟩ := (show ObjOk X.prog X.w H s.heap d (.dT kvs) from hd.ok I.hok)
  have l1 : es.size = ks.length := size_of_entries he
  have l2 : kvs.length = ks.length := Paired.length pr
  obtain ⟨kr1, kr2⟩ := keys_rooms hk (isKeys_of pr)
  generalize hbs : (ks.map fun x => x.2.1) = bs at kr1 kr2
  have lb : bs.length = ks.length := by rw [← hbs, List.length_map]
  have ll : ls.length = ks.length := by rw [← kr1, List.length_map, lb]
  have zk : ks.length ≤ sizeLine := by omega
  refine Calls.call_function_entry kind_sorted plain_sorted entry_sorted (args_sorted1 _) ?_
  unfold Builtin.«sorted»
  refine wpAny_bind (m := checkCount "sorted" 1 1 _) (wpAny_pure (wpAny_bind (PySem.W.kdu_collect (A := X.A.in1) (kdl_raw hs hx hdt) (I.ok.hd hc) ho (by omega) fun h' tk acc kp it => ?_)))
  have ea : acc.toList = bs.map Value.ref := by
    have hl : acc.toList.length = ks.length := by rw [Array.length_toList, it.1]; exact l1
    rw [← hbs, List.map_map]
    refine List.ext_getElem (by rw [hl, List.length_map]) fun j h1 h2 => ?_
    obtain ⟨en, hen, hv⟩ := it.2 j (acc.toList[j]) (by rw [← Array.getElem?_toList]; exact List.getElem?_eq_getElem h1)
    have qe := entry_at he j
    have hj : j < ks.length := by omega
    rw [hen, List.getElem?_eq_getElem hj] at qe
    have e2 : en = entryOfKey (tupleKind (mixKind X.prog X.w)) ks[j] := Option.some.inj qe
    rw [hv, e2, List.getElem_map]
    rfl
  have I1 : Inv X pins σ H { s with heap := h', toks := tk } := I.kept kp
  have hal : acc.toList.length ≤ sizeLine := by rw [ea, List.length_map]; omega
  refine wpAny_bind (wpAny_newList ?_ hal)
  have hoL : (h'.push (seqObj "list" acc.toList.toArray 0)).get? h'.objs.size = some (seqObj "list" acc.toList.toArray 0) := Heap.get?_push_size _ rfl
  show wpAny _ _ _ _ _ { s with heap := h'.push (seqObj "list" acc.toList.toArray 0), toks := tk }
  have sortable : 2 ≤ acc.toList.length → SrtO.SortableO X.prog X.w X.A.in1.in1 { s with heap := h'.push (seqObj "list" acc.toList.toArray 0), toks := tk } h'.objs.size acc.toList fun v u => lexLt itemOrd (toI (roomsAt H (addrV v))) (toI (roomsAt H (addrV u))) := fun h2 => by
    refine TSo.tups_sortable (s := { s with heap := h'.push (seqObj "list" acc.toList.toArray 0), toks := tk }) (k := fun v => toI (roomsAt H (addrV v))) (by omega) (fun v hv => ?_) fun o e c => ?_
    · rw [ea] at hv
      obtain ⟨b, hb, rfl⟩ := List.mem_map.mp hv
      refine ⟨(tup_is (I1.hok _ _ (kr2 b hb))).keeps fun b' o' e' _ => Heap.get?_push_of_some _ e', fun e => ?_⟩
      rw [ea, List.length_map, lb] at h2
      exact hne (by omega) (roomsAt H b) (by rw [← kr1]; exact List.mem_map.mpr ⟨b, hb, rfl⟩) (toI_inj (show toI (roomsAt H b) = toI [] from e))
    · have e' := e.symm.trans hoL
      cases e'
      exact absurd (Value.type.inj c) (by decide)
  refine wpAny_bind (wpAny_holding (wpAny_call_entry slot_list_sort ⟨_, hoL, rfl⟩ entry_list_sort (SrtO.list_sort_ord (s := { s with heap := h'.push (seqObj "list" acc.toList.toArray 0), toks := tk }) (TSo.tup_swo fun v => toI (roomsAt H (addrV v))) hoL hal sortable fun out g1 g2 => ⟨_, rfl, ?_⟩) (args_list_sort _)))
  obtain ⟨e', he'⟩ := sortedHeap_at (vs := acc.toList) (out := out.toArray) hoL
  obtain ⟨eo, pm, sr⟩ := out_refs ea g1 g2
  have fresh := I1.hok.fresh (Nat.le_refl h'.objs.size)
  have done := q (out.map addrV) h'.objs.size (by rw [← kr1]; exact pm.map _) sr (fun b hb => kr2 b (pm.mem_iff.mp hb)) fresh
  have vo : Vals ((out.map addrV).map V.ref) out := by
    have := vals_refV (out.map addrV)
    rw [← eo] at this
    exact this
  refine wpAny_pure ⟨_, rfl, .ref h'.objs.size, upd H h'.objs.size (.lst ((out.map addrV).map V.ref)), I1.laid (t' := tk) (fun b u e => ?_) (Nat.le_refl _) ⟨?_, out, e', vo, he'⟩, rfl, done⟩
  · have hb : b < h'.objs.size := Heap.lt_size e
    rw [sortedHeap_old (Nat.ne_of_lt hb) (by rw [size_push']; exact Nat.lt_succ_of_lt hb)]
    exact Heap.get?_push_of_some _ e
  · rw [List.length_map, pm.length_eq, lb]
    exact zk
end
end L2

namespace G
open PySem L2 GM
/-- whether a guard can go from a to b -/
def space (f : Nat → List Nat) (S : List Nat) (a b : Nat) : Bool := decide (b ∉ S) && (f b).all fun x => !(decide (x ∈ S) && decide (x ≠ a))
def spSpace (C : Addr) : Sp := fun vs H Q _ => ∃ (p d : Addr) (a b : Nat) (ws : List Way) (S : List Nat), vs = [.ref p, .ref d, vn a, vn b] ∧ TreeAt C H p ws ∧ ws.length ≤ 59 ∧ b < ws.length + 1 ∧ DS H d S ∧ ∀ H', Same H H' → Q (.bl (space (nb (rows ws)) S a b)) H'
def slidesL (f : Nat → List Nat) (S T : List Nat) : List Way := T.flatMap fun a => ((f a).filter fun b => space f S a b).map fun b => (a, b)
def spSlidesOf (C : Addr) : Sp := fun vs H Q _ => ∃ (p s : Addr) (ws : List Way) (S : List Nat), vs = [.ref p, .ref s] ∧ TreeAt C H p ws ∧ ws.length ≤ 59 ∧ Ww ws ∧ NT H s S ∧ Setting (rows ws) S ∧ ∀ H' q, Same H H' → H q = none → LP (only H H') q (slidesL (nb (rows ws)) S S) → Q (.ref q) H'
/-- a list of pairs, itself none of them -/
def PL (H : Hp) (D : Addr) (L : List Way) : Prop := ∃ as : List Addr, H D = some (.lst (as.map V.ref)) ∧ (∀ b ∈ as, b ≠ D) ∧ Pairs H as L
theorem PL.add {H : Hp} {D p : Addr} {L : List Way} {a b : Nat} (h : PL H D L) (np : H p = none) : ∃ acc, upd H p (.tup [vn a, vn b]) D = some (.lst acc) ∧ acc.length = L.length ∧ PL (upd (upd H p (.tup [vn a, vn b])) D (.lst (acc ++ [V.ref p]))) D (L ++ [(a, b)]) := by
  obtain ⟨as, h1, h2, h3⟩ := h
  have pD : D ≠ p := ne_of_none h1 np
  refine ⟨as.map V.ref, by rw [upd_ne pD]; exact h1, by rw [List.length_map, h3.1], as ++ [p], by rw [upd_same, List.map_append]; rfl, fun c hc => ?_, by rw [List.length_append, List.length_append, h3.1]; rfl, fun i c hc => ?_⟩
  · rcases List.mem_append.mp hc with m | m
    · exact h2 c m
    · rw [List.mem_singleton.mp m]; exact pD.symm
  · by_cases hi : i < as.length
    · rw [List.getElem?_append_left hi] at hc
      have := h3.2 i c hc
      have c1 := h2 c (List.mem_of_getElem? hc)
      rw [List.getD_eq_getElem?_getD, List.getElem?_append_left (by rw [← h3.1]; exact hi), ← List.getD_eq_getElem?_getD]
      unfold NT at *
      rw [upd_ne c1, upd_ne (ne_of_none this np)]
      exact this
    · have hl := (List.getElem?_eq_some_iff.mp hc).1
      rw [List.length_append, List.length_singleton] at hl
      have ei : i = as.length := by omega
      subst ei
      rw [List.getElem?_append_right (Nat.le_refl _), Nat.sub_self] at hc
      have ec : c = p := (Option.some.inj hc).symm
      subst ec
      rw [List.getD_eq_getElem?_getD, List.getElem?_append_right (by rw [h3.1]; exact Nat.le_refl _), h3.1, Nat.sub_self]
      unfold NT
      rw [upd_ne pD.symm, upd_same]
      rfl
theorem PL.same {H H' : Hp} {D : Addr} {L : List Way} (h : PL H D L) (s : Same H H') : PL H' D L := by
  obtain ⟨as, h1, h2, h3⟩ := h
  exact ⟨as, s _ _ h1, h2, h3.same s⟩
theorem only_tupAt {H H' : Hp} {b : Addr} {xs : List V} (s : Same H H') (h : H' b = some (.tup xs)) : only H H' b = some (.tup xs) := by
  unfold only
  cases e : H b with
  | none => exact h
  | some o =>
    have := s _ _ e
    rw [h] at this
    cases (Option.some.inj this)
    rfl
theorem PL.only {H H' : Hp} {D : Addr} {L : List Way} (h : PL H' D L) (s : Same H H') (n : H D = none) : LP (only H H') D L := by
  obtain ⟨as, h1, h2, h3⟩ := h
  exact ⟨as, by rw [only_new n]; exact h1, h3.1, fun i a ha => only_tupAt s (h3.2 i a ha)⟩
theorem slidesL_snoc (f : Nat → List Nat) (S T : List Nat) (a : Nat) : slidesL f S (T ++ [a]) = slidesL f S T ++ ((f a).filter fun b => space f S a b).map fun b => (a, b) := by
  unfold slidesL
  rw [List.flatMap_append]
  simp
theorem slidesL_len {f : Nat → List Nat} {S : List Nat} {n : Nat} (hf : ∀ a, (f a).length ≤ n) : ∀ T : List Nat, (slidesL f S T).length ≤ T.length * n
  | [] => by simp [slidesL]
  | a :: T => by
    have ih := slidesL_len (S := S) hf T
    have h1 := List.length_filter_le (fun b => space f S a b) (f a)
    have h2 := hf a
    show ((((f a).filter fun b => space f S a b).map fun b => (a, b)) ++ slidesL f S T).length ≤ _
    rw [List.length_append, List.length_map, List.length_cons, Nat.succ_mul]
    omega
section
variable {P : Program} {w : World} {K : PySem.W.Frag} {mg : Str → Option Value} {base : Heap} {C : Addr}
theorem scSpace : FnScope ["tree", "guards", "room", "other", "near"] ["tree", "guards", "room", "other"] (defScope s__has_space) := ⟨rfl, rfl, rfl, by decide +kernel, rfl, by decide +kernel, by decide +kernel⟩
theorem ok_space {f : Addr} {fd : FuncData} (F : Fun K "_has_space" "_has_space" s__has_space f fd) (L_Tbeside : CalM P w K mg base C "beside" 5 ["self", "room"] (spBeside C)) : FnOk P w K mg base CX0 6 f fd ["tree", "guards", "room", "other"] (spSpace C) := by
  refine F.ok scSpace (fun vs H Q E h => ?_) (fun cdv A outer s H vs Q E hr h => ?_)
  · obtain ⟨p, d, a, b, ws, S, rfl, _⟩ := h
    rfl
  · obtain ⟨p, d, a, b, ws, S, rfl, TT, hl, hb, hd, q⟩ := h
    have hu0 := hu_of hr
    refine ⟨_, (pss_cons (ps_if (pt_cmp (pc_din hu0 (pv 3) (pv 1))) (pss_one (ps_ret pe_bl)) pss_nil)
      (pss_cons (ps_for PassesOwn.never rfl (pi_list (L_Tbeside.pe (hr.mono (by decide)) (pv 0) (pa_cons (pv 3) pa_nil))) (pg_name (i := 4) scSpace.nd rfl (Or.inl rfl))
        (pss_one (ps_if (PW.pt (pw_and (pt_cmp (pc_din hu0 (pv 4) (pv 1))) (pw_and1 (pt_cmpR op_ne (pv 4) (pv 2) (nomark _))))) (pss_one (ps_ret pe_bl)) pss_nil)))
      (pss_one (ps_ret pe_bl)))), ?_⟩
    refine ⟨_, rfl, _, rfl, d, _, rfl, DGet.k (k := Sum.inl (b : Int)) hd, _, rfl, ?_⟩
    rw [valV_ts]
    by_cases hbS : b ∈ S
    · rw [if_pos hbS]
      refine iteT ?_
      have e : space (nb (rows ws)) S a b = false := by
        unfold space
        rw [decide_eq_false (fun h => h hbS), Bool.false_and]
      have := q H (.refl _)
      rw [e] at this
      exact this
    rw [if_neg hbS]
    obtain ⟨dx, lw, lr, ip, _⟩ := id TT
    refine iteF ⟨_, rfl, p, dx, _, rfl, ip, flds_no _ _ k_be k_be2, _, rfl, p, ws, b, rfl, TT, by omega, hb, fun H1 l s1 n1 hl1 => ?_⟩
    have hl1' : NL H1 l (nb (rows ws) b) := hl1
    refine ⟨l, rfl, ⟨_, SqL.of hl1'⟩, for_list (K := K) (a := l) (xs := (nb (rows ws) b).map vn) (fun j σ Hc => ∃ v4, σ = [some (.ref p), some (.ref d), some (vn a), some (vn b), v4] ∧ Same H1 Hc ∧ ∀ x ∈ (nb (rows ws) b).take j, ¬ (x ∈ S ∧ x ≠ a))
      ⟨none, rfl, .refl _, fun x h => nomatch h⟩ (fun j σ Hc _ ⟨_, _, sc, _⟩ => SqL.of (sc _ _ hl1')) ?_ ?_⟩
    · rintro j y σ Hc hj ⟨v4, rfl, sc, hn⟩
      obtain ⟨x, hx, rfl⟩ := at_map hj
      have et : (nb (rows ws) b).take (j + 1) = (nb (rows ws) b).take j ++ [x] := by
        rw [List.take_add_one, hx]
        rfl
      refine ⟨_, rfl, _, rfl, d, _, rfl, DGet.k (k := Sum.inl (x : Int)) (sc _ _ (s1 _ _ hd)), _, rfl, ?_⟩
      rw [valV_ts]
      have nxt : ¬ (x ∈ S ∧ x ≠ a) → ∀ z ∈ (nb (rows ws) b).take (j + 1), ¬ (z ∈ S ∧ z ≠ a) := fun h z hz => by
        rw [et] at hz
        rcases List.mem_append.mp hz with m | m
        · exact hn z m
        · rw [List.mem_singleton.mp m]; exact h
      by_cases hS : x ∈ S
      · rw [if_pos hS]
        refine iteT ⟨_, rfl, _, rfl, rfl, _, rfl, ?_⟩
        rw [show (!decide (vn x = vn a)) = decide (x ≠ a) by rw [vn_dec, not_dec]]
        by_cases hxa : x = a
        · rw [decide_eq_false (fun h => h hxa)]
          exact iteF ⟨_, rfl, sc, nxt fun h => h.2 hxa⟩
        · rw [decide_eq_true hxa]
          refine iteT ?_
          have e : space (nb (rows ws)) S a b = false := by
            unfold space
            have : (nb (rows ws) b).all (fun x => !(decide (x ∈ S) && decide (x ≠ a))) = false := List.all_eq_false.mpr ⟨x, List.mem_of_getElem? hx, by simp [hS, hxa]⟩
            rw [this, Bool.and_false]
          have := q Hc (s1.trans sc)
          rw [e] at this
          exact this
      · rw [if_neg hS]
        exact iteF (iteF ⟨_, rfl, sc, nxt fun h => hS h.1⟩)
    · rintro σ Hc ⟨v4, rfl, sc, hn⟩
      rw [List.length_map, List.take_length] at hn
      have e : space (nb (rows ws)) S a b = true := by
        unfold space
        rw [decide_eq_true hbS, Bool.true_and, List.all_eq_true]
        intro x hx
        have := hn x hx
        simp only [Bool.not_eq_true', Bool.and_eq_false_iff, decide_eq_false_iff_not]
        by_cases h : x ∈ S
        · exact .inr fun h2 => this ⟨h, h2⟩
        · exact .inl h
      have := q Hc (s1.trans sc)
      rw [e] at this
      exact this
theorem scSlo : FnScope ["tree", "setting", "guards", "room", "other"] ["tree", "setting"] (defScope s__slides_of) := ⟨rfl, rfl, rfl, by decide +kernel, rfl, by decide +kernel, by decide +kernel⟩
theorem ok_slidesof {f : Addr} {fd : FuncData} (F : Fun K "_slides_of" "_slides_of" s__slides_of f fd) (T : TxS K mg) (L_Tbeside : CalM P w K mg base C "beside" 5 ["self", "room"] (spBeside C)) (L_has_space : Cal P w K mg base "_has_space" 6 ["tree", "guards", "room", "other"] (spSpace C)) : FnOk P w K mg base CX0 7 f fd ["tree", "setting"] (spSlidesOf C) := by
  refine F.ok scSlo (fun vs H Q E h => ?_) (fun cdv A outer s H vs Q E hr h => ?_)
  · obtain ⟨p, s, ws, S, rfl, _⟩ := h
    rfl
  · obtain ⟨p, s, ws, S, rfl, TT, hl, hw, hs, St, q⟩ := h
    have hu0 := hu_of hr
    refine ⟨_, (pss_cons (ps_set (i := 2) scSlo.nd rfl (Or.inr rfl) (pe_dc (own := [("room", 3)]) (g := gName 3) (tt := tYes) rfl scSlo.nd (pi_tup (pv 1)) (blkOk_by (N := ["tree", "setting", "guards", "room", "other"]) (sc := defScope s__slides_of) (by decide +kernel)) (fun _ _ _ _ _ => pg_name (i := 3) scSlo.nd rfl (Or.inl rfl)) (fun _ _ _ _ _ => pts_nil) (fun _ _ _ _ _ => (pv 3)) (fun _ _ _ _ _ => pe_bl)))
      (pss_one (ps_ret (pe_lc2 (own := [("room", 3), ("other", 4)]) (vs1 := [4]) (g := gName 3) (tt := tYes) (g1 := gName 4) rfl scSlo.nd (pi_tup (pv 1)) (blkOk_by (N := ["tree", "setting", "guards", "room", "other"]) (sc := defScope s__slides_of) (by decide +kernel)) (by decide) (fun _ _ _ _ _ => pg_name (i := 3) scSlo.nd rfl (Or.inl rfl)) (fun _ _ _ _ _ => pts_nil) (fun _ _ _ _ _ => (pi_listK (K := K) rfl (L_Tbeside.pe (hr.mono (by decide)) (pv 0) (pa_cons (pv 3) pa_nil)))) (fun _ _ _ _ _ => pg_name (i := 4) scSlo.nd rfl (Or.inl rfl)) (fun _ _ _ _ _ => pts_one (pt_val (L_has_space.pe (hr.mono (by decide)) rfl (pa_cons (pv 0) (pa_cons (pv 2) (pa_cons (pv 3) (pa_cons (pv 4) pa_nil))))))) (fun _ _ _ _ _ => (pe_tup (pa_cons (pv 3) (pa_cons (pv 4) pa_nil)))))))), ?_⟩
    refine ⟨_, rfl, s, rfl, ⟨_, SqT.of hs⟩, fun D nD => ?_⟩
    refine dc_gen (walk_tup (K := K) (a := s) (xs := S.map vn)) S St.nd (fun _ => true) (fun _ v _ => v = .bl true) (fun _ _ _ _ _ h => h) nD (List.length_map _).symm (by rw [List.length_map]; exact small1000 (by have := set_len St hl; omega))
      (fun j Hc x H' _ _ y => ⟨y.1, y.2⟩) (fun Hc s => SqT.of (s _ _ hs)) (fun x Hc R _ _ k => k Hc (.refl _)) (fun x Hc R _ _ _ k => ⟨_, rfl, k⟩) (fun x Hc R _ _ _ k => k _ _ (.refl _) rfl) ?_
    intro H2 kvs s2 hD hf hv
    rw [List.filter_eq_self.mpr (fun _ _ => rfl)] at hf
    have hkv := ts_of hv
    rw [hf] at hkv
    rw [hkv] at hD
    clear hkv hf hv
    have hD2 : DS H2 D S := hD
    have hs2 := hs.same s2
    have slen := set_len St hl
    have slt := set_lt St
    refine ⟨_, rfl, s, rfl, ⟨_, SqT.of hs2⟩, fun E nE => ?_⟩
    refine ⟨fun i m Hc => m = S.length - i ∧ i ≤ S.length ∧ Same H2 Hc ∧ PL Hc E (slidesL (nb (rows ws)) S (S.take i)), ⟨S.length, by simp, Nat.zero_le _, same_new nE, [], upd_same, (fun b h => nomatch h), rfl, fun i a h => by simp at h⟩, ?_⟩
    rintro i m Hc ⟨rfl, hi, sc, hP⟩
    have len0 := slidesL_len (S := S) (f := nb (rows ws)) (n := 118) (fun a => by have := nb_len ws a; omega) (S.take i)
    have wk := walk_tup (K := K) (a := s) (xs := S.map vn)
    have hsc := SqT.of (K := K) (sc _ _ hs2)
    by_cases hlt : i < S.length
    · refine .inr ⟨wk.goes i Hc (by rw [List.length_map]; exact hlt) hsc, fun H => i + 1 ≤ S.length ∧ Same H2 H ∧ PL H E (slidesL (nb (rows ws)) S (S.take (i + 1))), fun H' h => ⟨S.length - (i + 1), by omega, rfl, h⟩, fun y H' hy => ?_⟩
      obtain ⟨rfl, hx⟩ := wk.yields i Hc y H' (by rw [List.length_map]; exact hlt) hsc hy
      obtain ⟨a, ha, rfl⟩ := at_map hx
      have haS : a ∈ S := List.mem_of_getElem? ha
      have et : S.take (i + 1) = S.take i ++ [a] := by
        rw [List.take_add_one, ha]
        rfl
      refine ⟨rfl, ?_⟩
      unfold tYes
      dsimp only
      rw [if_pos rfl]
      have TTc := TT.same (s2.trans sc)
      obtain ⟨dx, lw, lr, ip, _⟩ := id TTc
      refine ⟨_, rfl, p, dx, _, rfl, ip, flds_no _ _ k_be k_be2, _, rfl, p, ws, a, rfl, TTc, by omega, slt a haS, fun H4 lq s4 n4 hlq => ?_⟩
      have hlq' : NL H4 lq (nb (rows ws) a) := hlq
      obtain ⟨as0, hE0, _⟩ := id hP
      have lE : lq ≠ E := (ne_of_none hE0 n4).symm
      have nl := nb_len ws a
      refine ⟨lq, rfl, ⟨_, SqL.of hlq'⟩, fun j k Hd => k = (nb (rows ws) a).length - j ∧ j ≤ (nb (rows ws) a).length ∧ Same H2 Hd ∧ NL Hd lq (nb (rows ws) a) ∧ PL Hd E (slidesL (nb (rows ws)) S (S.take i) ++ (((nb (rows ws) a).take j).filter fun b => space (nb (rows ws)) S a b).map fun b => (a, b)),
        ⟨_, rfl, Nat.zero_le _, sc.trans s4, hlq', by simpa using hP.same s4⟩, ?_⟩
      rintro j k Hd ⟨rfl, hj, sd, hld, hPd⟩
      have wk1 := walk_list (K := K) (a := lq) (xs := (nb (rows ws) a).map vn)
      have hsd := SqL.of (K := K) hld
      by_cases hjl : j < (nb (rows ws) a).length
      · refine .inr ⟨wk1.goes j Hd (by rw [List.length_map]; exact hjl) hsd, fun H => j + 1 ≤ (nb (rows ws) a).length ∧ Same H2 H ∧ NL H lq (nb (rows ws) a) ∧ PL H E (slidesL (nb (rows ws)) S (S.take i) ++ (((nb (rows ws) a).take (j + 1)).filter fun b => space (nb (rows ws)) S a b).map fun b => (a, b)), fun H' h => ⟨(nb (rows ws) a).length - (j + 1), by omega, rfl, h⟩, fun y H' hy => ?_⟩
        obtain ⟨rfl, hx1⟩ := wk1.yields j Hd y H' (by rw [List.length_map]; exact hjl) hsd hy
        obtain ⟨b, hb, rfl⟩ := at_map hx1
        have hbm : b ∈ nb (rows ws) a := List.mem_of_getElem? hb
        have hbn : b < ws.length + 1 := by
          have := (graph_rows hw).lt _ _ hbm
          rw [rows_length] at this
          exact this
        have et1 : (nb (rows ws) a).take (j + 1) = (nb (rows ws) a).take j ++ [b] := by
          rw [List.take_add_one, hb]
          rfl
        refine ⟨rfl, _, rfl, _, rfl, _, rfl, _, rfl, p, D, a, b, ws, S, rfl, TT.same (s2.trans sd), hl, hbn, hD2.same sd, fun H5 s5 => ⟨_, rfl, ?_⟩⟩
        have hld5 := hld.same s5
        have hP5 := hPd.same s5
        cases hsp : space (nb (rows ws)) S a b with
        | false =>
          refine iteF ⟨hjl, sd.trans s5, hld5, ?_⟩
          rw [et1, List.filter_append, List.filter_cons_of_neg (by rw [hsp]; decide), List.filter_nil, List.append_nil]
          exact hP5
        | true =>
          refine iteT ⟨_, rfl, _, rfl, (by show 2 ≤ sizeLine; decide), fun T nT => ?_⟩
          obtain ⟨acc, e1, e2, e3⟩ := hP5.add (a := a) (b := b) nT
          refine ⟨acc, e1, ?_, hjl, fun c o e => ?_, ?_, ?_⟩
          · rw [e2, List.length_append, List.length_map]
            have h1 := List.length_filter_le (fun b => space (nb (rows ws)) S a b) ((nb (rows ws) a).take j)
            rw [List.length_take] at h1
            rw [List.length_take] at len0
            exact Nat.lt_of_le_of_lt (by omega : _ ≤ 60 * 118 + 118) (by decide)
          · rw [upd_ne (ne_of_none e nE), upd_ne (ne_of_none (s5 _ _ (sd _ _ e)) nT)]
            exact s5 _ _ (sd _ _ e)
          · unfold NL
            rw [upd_ne lE, upd_ne (ne_of_none hld5 nT)]
            exact hld5
          · rw [et1, List.filter_append, List.filter_cons_of_pos hsp, List.filter_nil, List.map_append, ← List.append_assoc]
            exact e3
      · have ej : j = (nb (rows ws) a).length := by omega
        subst ej
        refine .inl ⟨?_, hlt, sd, ?_⟩
        · have := wk1.stops Hd hsd
          rw [List.length_map] at this
          exact this
        · rw [et, slidesL_snoc]
          rw [List.take_length] at hPd
          exact hPd
    · have ei : i = S.length := by omega
      subst ei
      rw [List.take_length] at hP
      refine .inl ⟨?_, q Hc E (s2.trans sc) (s2.free nE) (hP.only (s2.trans sc) (s2.free nE))⟩
      have := wk.stops Hc hsc
      rw [List.length_map] at this
      exact this
end
end G

namespace L2
open PySem PySem.Spec PyProof.Rows
/-! *d in a display: the keys of a dict -/
section
variable {X : Cx} {pins : List (Addr × Obj)} {σ : L2.St} {H : Hp} {s : Shared}
theorem star_dK {a : Addr} {kvs : List (Key × V)} {E : Value → Shared → Prop} {Q : List Value → Shared → Prop} (hc : X.calm = true) (I : Inv X pins σ H s) (h : H a = some (.dK kvs)) (hQ : ∀ us s', Inv X pins σ H s' → Vals (kvs.map fun kv => kV kv.1) us → Q us s') : PySem.W.StarOf (model X.prog X.w) X.A E (.ref a) Q s := by
  obtain ⟨z, lo, vs, rk, hd⟩ := (show ObjOk X.prog X.w H s.heap a (.dK kvs) from I.hok a _ h)
  obtain ⟨ep, hat⟩ := hd.dictAt
  have hl : kvs.length = vs.length := Paired.length rk
  unfold PySem.W.StarOf notIterableAtAll
  refine wpAny_bind (wpAny_specialOf hat.dictOf.typeIs PySem.F.slot_dict_iter.lookup (wpAny_pure ⟨rfl, ?_⟩))
  refine PySem.W.kdu_collect (PySem.W.kdl_dict (knd := mixKind X.prog X.w) (kvs := vs) (ep := ep) lo) (I.ok.hd hc) hat (by rw [← hl]; exact z) fun h' tk acc hk hacc => ?_
  refine hQ acc.toList _ (I.kept (t' := tk) hk) ?_
  have el : acc.toList.length = acc.size := by simp
  refine vals_of_at (by rw [List.length_map, el, hacc.1, hl]) fun j x w h1 h2 => ?_
  obtain ⟨k, y, hky, hi⟩ := hacc.2 j w (by rw [← Array.getElem?_toList]; exact h2)
  have e1 : (kvs.map (·.1))[j]? = some k := by
    rw [KV.keys rk, List.getElem?_map, hky] <;> rfl
  have e2 : (kvs.map fun kv => kV kv.1)[j]? = some (kV k) := by
    have e3 : (kvs.map fun kv => kV kv.1) = (kvs.map (·.1)).map kV := by rw [List.map_map] <;> rfl
    rw [e3, List.getElem?_map, e1] <;> rfl
  rw [e2] at h1
  cases h1
  exact keyIs_rel hi
end
/-- *d -/
def tStarD (te : TE) (t : TA) : TA := fun σ H Q => te σ H fun x H1 => ∃ p kvs, x = V.ref p ∧ H1 p = some (.dK kvs) ∧ t σ H1 fun ys H2 => Q ((kvs.map fun kv => kV kv.1) ++ ys) H2
theorem pa_starD {X : Cx} {e : Expr} {es : List Expr} {te : TE} {t : TA} {p : Pos} (hc : X.calm = true) (he : PE X e te) (hr : PA X es t) (hs : starEach (.Starred e p :: es) X.env = (true, eval e X.env) :: starEach es X.env := by rfl) : PA X (.Starred e p :: es) (tStarD te t) := by
  refine ⟨fun pos pins s σ H Q I h => ?_⟩
  refine PySem.W.items_star (thn (he.run pins s σ H _ I h) fun v s1 ⟨y, H1, I1, ry, a, kvs, ey, hx, q⟩ => ?_) hs
  subst ey
  obtain rfl : v = Value.ref a := ry
  refine star_dK hc I1 hx fun us s2 I2 rv => ?_
  exact thn (hr.run pos pins s2 σ H1 _ I2 q) fun ws s3 ⟨vs, H3, I3, r3, q3⟩ => ⟨_, H3, I3, rv.append r3, q3⟩
end L2

/-! Ways of a tree in whatever order; rows do not ask for the order; stars, lanes. -/
namespace GM
/-- how many labels there are -/
def lab (n : Nat) (lots : List Nat) : Nat := ((List.range n).filter fun v => decide (v ∈ lots)).length
def fin : List Way → List Nat → List Nat
  | [], l => l
  | w :: r, l => fin r (relab l (l.getD w.1 0) (l.getD w.2 0))
theorem relab_self {l : List Nat} {a : Nat} : relab l a a = l := by
  unfold relab
  refine (List.map_congr_left fun x _ => ?_).trans (List.map_id l)
  split
  · rename_i h; exact h.symm
  · rfl
theorem getD_mem {l : List Nat} {i : Nat} (h : i < l.length) : l.getD i 0 ∈ l := by
  rw [List.getD_eq_getElem?_getD, List.getElem?_eq_getElem h]
  exact List.getElem_mem h
theorem lab_relab {n : Nat} {l : List Nat} {a b : Nat} (lt : ∀ x ∈ l, x < n) (ha : a ∈ l) (hb : b ∈ l) (ne : a ≠ b) : lab n l = lab n (relab l a b) + 1 := by
  have e : (List.range n).filter (fun v => decide (v ∈ relab l a b)) = ((List.range n).filter fun v => decide (v ∈ l)).erase b := by
    rw [List.Nodup.erase_eq_filter (List.nodup_range.filter _) b, List.filter_filter]
    apply List.filter_congr
    intro x _
    rw [Bool.eq_iff_iff]
    simp only [decide_eq_true_eq, Bool.and_eq_true, bne_iff_ne, ne_eq]
    unfold relab
    rw [List.mem_map]
    constructor
    · rintro ⟨y, hy, e⟩
      split at e
      · subst e; exact ⟨ne, ha⟩
      · rename_i h; subst e; exact ⟨h, hy⟩
    · rintro ⟨h1, h2⟩
      exact ⟨x, h2, by rw [if_neg h1]⟩
  have m : b ∈ (List.range n).filter fun v => decide (v ∈ l) := List.mem_filter.mpr ⟨List.mem_range.mpr (lt b hb), by simpa using hb⟩
  unfold lab
  rw [e, List.length_erase_of_mem m]
  have := List.length_pos_of_mem m
  omega
theorem relab_lt {n : Nat} {l : List Nat} {a b : Nat} (lt : ∀ x ∈ l, x < n) (ha : a < n) : ∀ x ∈ relab l a b, x < n := fun x hx => by
  obtain ⟨y, hy, e⟩ := List.mem_map.mp hx
  split at e
  · omega
  · rw [← e]; exact lt y hy
theorem lab_fin {n : Nat} : ∀ (ws : List Way) (l : List Nat), (∀ w ∈ ws, w.1 < w.2 ∧ w.2 < n) → l.length = n → (∀ x ∈ l, x < n) → lab n l ≤ lab n (fin ws l) + ws.length ∧ (lab n l = lab n (fin ws l) + ws.length → okWays n ws l)
  | [], l, _, _, _ => ⟨Nat.le_refl _, fun _ => True.intro⟩
  | w :: r, l, hw, hl, lt => by
    have h0 := hw w List.mem_cons_self
    have m1 : l.getD w.1 0 ∈ l := getD_mem (by omega)
    have m2 : l.getD w.2 0 ∈ l := getD_mem (by omega)
    obtain ⟨k1, k2⟩ := lab_fin r (relab l (l.getD w.1 0) (l.getD w.2 0)) (fun v hv => hw v (List.mem_cons_of_mem _ hv)) (by rw [relab_length, hl]) (relab_lt lt (lt _ m1))
    show lab n l ≤ lab n (fin r _) + (r.length + 1) ∧ (lab n l = lab n (fin r _) + (r.length + 1) → _)
    by_cases e : l.getD w.1 0 = l.getD w.2 0
    · have e1 : relab l (l.getD w.1 0) (l.getD w.2 0) = l := by rw [e]; exact relab_self
      rw [e1] at k1 k2 ⊢
      exact ⟨by omega, fun h => by omega⟩
    · have e1 := lab_relab lt m1 m2 e
      exact ⟨by omega, fun h => ⟨h0.1, h0.2, e, k2 (by omega)⟩⟩
theorem fin_length : ∀ {ws : List Way} {l : List Nat}, (fin ws l).length = l.length
  | [], _ => rfl
  | w :: r, l => by
    show (fin r _).length = _
    rw [fin_length, relab_length]
theorem fin_eq : ∀ {ws : List Way} {l : List Nat} {u v : Nat}, u < l.length → v < l.length → l.getD u 0 = l.getD v 0 → (fin ws l).getD u 0 = (fin ws l).getD v 0
  | [], _, _, _, _, _, h => h
  | w :: r, l, u, v, hu, hv, h => by
    show (fin r _).getD u 0 = (fin r _).getD v 0
    exact fin_eq (by rw [relab_length]; exact hu) (by rw [relab_length]; exact hv) (by rw [relab_getD hu, relab_getD hv, h])
theorem fin_way : ∀ {ws : List Way} {l : List Nat}, (∀ w ∈ ws, w.1 < l.length ∧ w.2 < l.length) → ∀ w ∈ ws, (fin ws l).getD w.1 0 = (fin ws l).getD w.2 0
  | w :: r, l, h, v, hv => by
    show (fin r _).getD v.1 0 = (fin r _).getD v.2 0
    have h0 := h w List.mem_cons_self
    rcases List.mem_cons.mp hv with e | hv
    · rw [e]
      refine fin_eq (by rw [relab_length]; exact h0.1) (by rw [relab_length]; exact h0.2) ?_
      rw [relab_getD h0.1, relab_getD h0.2, if_pos rfl]
      split <;> rename_i z
      · rfl
      · rfl
    · exact fin_way (fun v hv => by rw [relab_length]; exact h v (List.mem_cons_of_mem _ hv)) v hv
/-- whatever is alike at both ends of each way is alike everywhere -/
def Conn (n : Nat) (ws : List Way) : Prop := ∀ L : Nat → Nat, (∀ w ∈ ws, L w.1 = L w.2) → ∀ a b, a < n → b < n → L a = L b
theorem conn_ok {n : Nat} {ws : List Way} (C : Conn n ws) (hw : ∀ w ∈ ws, w.1 < w.2 ∧ w.2 < n) (hn : ws.length + 1 = n) : okWays n ws (List.range n) := by
  obtain ⟨h1, h2⟩ := lab_fin (n := n) ws (List.range n) hw List.length_range (fun x hx => List.mem_range.mp hx)
  have e0 : lab n (List.range n) = n := by
    unfold lab
    rw [List.filter_eq_self.mpr fun x hx => by simpa using List.mem_range.mp hx, List.length_range]
  have lf : (fin ws (List.range n)).length = n := by rw [fin_length, List.length_range]
  have cst : ∀ a b, a < n → b < n → (fin ws (List.range n)).getD a 0 = (fin ws (List.range n)).getD b 0 := C (fun v => (fin ws (List.range n)).getD v 0) (fun w h => fin_way (fun w h => by rw [List.length_range]; have := hw w h; omega) w h)
  have e1 : lab n (fin ws (List.range n)) ≤ 1 := by
    unfold lab
    have nd : ((List.range n).filter fun v => decide (v ∈ fin ws (List.range n))).Nodup := List.nodup_range.filter _
    have al : ∀ x ∈ (List.range n).filter (fun v => decide (v ∈ fin ws (List.range n))), x = (fin ws (List.range n)).getD 0 0 := fun x hx => by
      have := (List.mem_filter.mp hx).2
      obtain ⟨i, hi, e⟩ := List.getElem_of_mem (by simpa using this : x ∈ fin ws (List.range n))
      have e3 : (fin ws (List.range n)).getD i 0 = x := by
        rw [List.getD_eq_getElem?_getD, List.getElem?_eq_getElem hi]
        exact e
      rw [← e3]
      exact cst i 0 (by omega) (by omega)
    generalize (List.range n).filter (fun v => decide (v ∈ fin ws (List.range n))) = l at nd al
    match l, nd, al with
    | [], _, _ => simp
    | [a], _, _ => simp
    | a :: b :: r, nd, al =>
      have h1 := al a (by simp)
      have h2 := al b (by simp)
      rw [List.nodup_cons] at nd
      exact absurd (by rw [h1, h2]; simp) nd.1
  exact h2 (by omega)
theorem grown_conn {told : List Nat} {ws : List Way} (G : Grown told ws) : Conn (ws.length + 1) ws := fun L h a b ha hb => by
  have key : ∀ (k i x : Nat), i ≤ k → told[i]? = some x → ∀ z, told[0]? = some z → L x = L z := by
    intro k
    induction k with
    | zero =>
      intro i x hi hx z hz
      have : i = 0 := by omega
      subst this
      rw [hx] at hz
      rw [Option.some.inj hz]
    | succ k ih =>
      intro i x hi hx z hz
      by_cases e : i ≤ k
      · exact ih i x e hx z hz
      · have e1 : i = k + 1 := by omega
        subst e1
        have hk : k < ws.length := by
          have := (List.getElem?_eq_some_iff.mp hx).1
          have := G.len
          omega
        obtain ⟨j, x', y', hj, hx', hy', hw⟩ := G.ties k _ (List.getElem?_eq_getElem hk)
        rw [hx] at hy'
        have e2 : y' = x := (Option.some.inj hy').symm
        subst e2
        have m := h _ (List.getElem_mem hk)
        have i1 := ih j x' (by omega) hx' z hz
        rcases hw with ⟨e, _⟩ | ⟨e, _⟩ <;> rw [e] at m <;> simp only at m <;> omega
  obtain ⟨i, hi, e⟩ := grown_all G ha
  obtain ⟨j, hj, e'⟩ := grown_all G hb
  have h0 : 0 < told.length := by have := G.len; omega
  rw [key i i a (Nat.le_refl _) e _ (List.getElem?_eq_getElem h0), key j j b (Nat.le_refl _) e' _ (List.getElem?_eq_getElem h0)]
theorem perm_ok {told : List Nat} {ws us : List Way} (G : Grown told ws) (p : us.Perm ws) : okWays (us.length + 1) us (List.range (us.length + 1)) := by
  have el := p.length_eq
  refine conn_ok (fun L h a b ha hb => ?_) (fun w h => ?_) rfl
  · exact grown_conn G L (fun w hw => h w (p.mem_iff.mpr hw)) a b (by omega) (by omega)
  · have := grown_ww G w (p.mem_iff.mp h)
    omega
theorem simple_of {ws : List Way} (nd : ws.Nodup) (hw : ∀ w ∈ ws, w.1 < w.2 ∧ w.2 < ws.length + 1) : Simple ws := by
  refine ⟨(graph_rows hw).sym, fun a => ?_⟩
  unfold nb rows
  rw [getD_map_srt]
  refine (srt_perm _).nodup_iff.mpr ?_
  have e : ∀ j, ((List.replicate (ws.length + 1) ([] : List Nat)).getD j []) = [] := fun j => by
    rw [List.getD_eq_getElem?_getD, List.getElem?_replicate]
    split <;> rfl
  refine raw_nodup ws _ nd (fun w h => by rw [List.length_replicate]; exact hw w h) (fun j => by rw [e]; exact List.nodup_nil) (fun w h => by rw [e, e]; simp) a
theorem nb_pw {ws : List Way} {a : Nat} : (nb (rows ws) a).Pairwise (· ≤ ·) := by
  unfold nb rows
  rw [getD_map_srt]
  exact srt_pw _
theorem rows_perm {ws us : List Way} (nd : ws.Nodup) (hw : ∀ w ∈ ws, w.1 < w.2 ∧ w.2 < ws.length + 1) (p : us.Perm ws) : rows us = rows ws := by
  have el := p.length_eq
  have hu : ∀ w ∈ us, w.1 < w.2 ∧ w.2 < us.length + 1 := fun w h => by
    rw [el]
    exact hw w (p.mem_iff.mp h)
  have S1 := simple_of nd hw
  have S2 := simple_of (p.nodup_iff.mpr nd) hu
  have key : ∀ a, nb (rows us) a = nb (rows ws) a := fun a => by
    refine pw_perm_eq ((List.perm_ext_iff_of_nodup (S2.nd a) (S1.nd a)).mpr fun x => ?_) nb_pw nb_pw
    rw [mem_rows hu, mem_rows hw, p.mem_iff, p.mem_iff]
  apply List.ext_getElem
  · rw [rows_length, rows_length, el]
  · intro i h1 h2
    have := key i
    unfold nb at this
    rw [List.getD_eq_getElem?_getD, List.getElem?_eq_getElem h1, List.getD_eq_getElem?_getD, List.getElem?_eq_getElem h2] at this
    exact this
/-- the ways of a star, of a lane, of so many rooms -/
def starW (m : Nat) : List Way := (List.range m).map fun k => (0, k + 1)
def laneW (m : Nat) : List Way := (List.range m).map fun k => (k, k + 1)
theorem range_at {n i x : Nat} (h : (List.range n)[i]? = some x) : i < n ∧ x = i := by
  obtain ⟨h1, h2⟩ := List.getElem?_eq_some_iff.mp h
  rw [List.length_range] at h1
  rw [List.getElem_range] at h2
  exact ⟨h1, h2.symm⟩
theorem star_grown (m : Nat) : Grown (List.range (m + 1)) (starW m) where
  nd := List.nodup_range
  lt := fun x h => by rw [List.length_range]; exact List.mem_range.mp h
  len := by unfold starW; rw [List.length_map, List.length_range, List.length_range]
  ties := fun k w h => by
    unfold starW at h
    rw [List.getElem?_map] at h
    cases e : (List.range m)[k]? with
    | none => rw [e] at h; cases h
    | some z =>
      rw [e] at h
      obtain ⟨h1, rfl⟩ := range_at e
      cases h
      exact ⟨0, 0, z + 1, Nat.zero_le _, List.getElem?_range (by omega), List.getElem?_range (by omega), .inl ⟨rfl, by omega⟩⟩
theorem lane_grown (m : Nat) : Grown (List.range (m + 1)) (laneW m) where
  nd := List.nodup_range
  lt := fun x h => by rw [List.length_range]; exact List.mem_range.mp h
  len := by unfold laneW; rw [List.length_map, List.length_range, List.length_range]
  ties := fun k w h => by
    unfold laneW at h
    rw [List.getElem?_map] at h
    cases e : (List.range m)[k]? with
    | none => rw [e] at h; cases h
    | some z =>
      rw [e] at h
      obtain ⟨h1, rfl⟩ := range_at e
      cases h
      exact ⟨z, z, z + 1, Nat.le_refl _, List.getElem?_range (by omega), List.getElem?_range (by omega), .inl ⟨rfl, by omega⟩⟩
theorem star_lane (m : Nat) : decide (rows (starW m) = rows (laneW m)) = decide (m + 1 < 3) := by
  apply decide_eq_decide.mpr
  constructor
  · intro e
    refine Classical.byContradiction fun h => ?_
    have w1 := grown_ww (star_grown m)
    have w2 := grown_ww (lane_grown m)
    have m1 : 2 ∈ nb (rows (starW m)) 0 := (mem_rows w1).mpr (.inl (List.mem_map.mpr ⟨1, List.mem_range.mpr (by omega), rfl⟩))
    rw [e] at m1
    rcases (mem_rows w2).mp m1 with z | z <;> (obtain ⟨k, _, e⟩ := List.mem_map.mp z; have := Prod.mk.inj e; omega)
  · intro h
    have : m = 0 ∨ m = 1 := by omega
    rcases this with rfl | rfl <;> rfl
/-- a room more, at the end -/
theorem grown_more {told : List Nat} {ws : List Way} (G : Grown told ws) {r : Nat} (h : r < ws.length + 1) : Grown (told ++ [ws.length + 1]) (ws ++ [(r, ws.length + 1)]) where
  nd := List.nodup_append.mpr ⟨G.nd, by simp, fun x hx y hy e => by
    have := G.lt x hx
    have := G.len
    rw [List.mem_singleton.mp hy] at e
    omega⟩
  lt := fun x hx => by
    have l := G.len
    rw [List.length_append, List.length_singleton]
    rcases List.mem_append.mp hx with h | h
    · have := G.lt x h; omega
    · rw [List.mem_singleton.mp h]; omega
  len := by rw [List.length_append, List.length_append, ← G.len]; rfl
  ties := fun k w hk => by
    have l := G.len
    by_cases e : k < ws.length
    · rw [List.getElem?_append_left e] at hk
      obtain ⟨j, x, y, h1, h2, h3, h4⟩ := G.ties k w hk
      refine ⟨j, x, y, h1, ?_, ?_, h4⟩
      · rw [List.getElem?_append_left (by omega)]; exact h2
      · rw [List.getElem?_append_left (by omega)]; exact h3
    · have hl := (List.getElem?_eq_some_iff.mp hk).1
      rw [List.length_append, List.length_singleton] at hl
      have ek : k = ws.length := by omega
      subst ek
      rw [List.getElem?_append_right (Nat.le_refl _), Nat.sub_self] at hk
      cases hk
      obtain ⟨i, hi, ei⟩ := grown_all G h
      refine ⟨i, r, ws.length + 1, hi, ?_, ?_, .inl ⟨rfl, by omega⟩⟩
      · rw [List.getElem?_append_left (by omega)]; exact ei
      · rw [List.getElem?_append_right (by omega), show ws.length + 1 - told.length = 0 by omega]; rfl
end GM

/-! Leaps: of rooms that hang together without a ring there are more than ways between them. -/
namespace GM
def bothIn (V : List Nat) (w : Way) : Bool := decide (w.1 ∈ V) && decide (w.2 ∈ V)
theorem forest_from {told : List Nat} {ws : List Way} (G : Grown told ws) (V : List Nat) : ∀ k, k ≤ ws.length → ((ws.take k).filter (bothIn V)).length + 1 ≤ ((told.take (k + 1)).filter fun x => decide (x ∈ V)).length ∨ (((ws.take k).filter (bothIn V)).length = 0 ∧ ((told.take (k + 1)).filter fun x => decide (x ∈ V)).length = 0)
  | 0, _ => by
    rw [List.take_zero, List.filter_nil, List.length_nil]
    omega
  | k + 1, hk => by
    have ih := forest_from G V k (by omega)
    obtain ⟨w, hw⟩ : ∃ w, ws[k]? = some w := ⟨_, List.getElem?_eq_getElem (by omega)⟩
    obtain ⟨j, x, y, hj, hx, hy, e⟩ := G.ties k w hw
    have e1 : ws.take (k + 1) = ws.take k ++ [w] := by rw [List.take_add_one, hw]; rfl
    have e2 : told.take (k + 1 + 1) = told.take (k + 1) ++ [y] := by rw [List.take_add_one, hy]; rfl
    have eb : bothIn V w = (decide (x ∈ V) && decide (y ∈ V)) := by
      rcases e with ⟨e, _⟩ | ⟨e, _⟩
      · rw [e]; rfl
      · rw [e]; exact Bool.and_comm _ _
    rw [e1, e2, List.filter_append, List.filter_append, List.length_append, List.length_append]
    by_cases vy : y ∈ V
    · have l2 : ([y].filter fun x => decide (x ∈ V)).length = 1 := by rw [List.filter_cons_of_pos (by simpa using vy)]; rfl
      rw [l2]
      by_cases vx : x ∈ V
      · have l1 : ([w].filter (bothIn V)).length = 1 := by rw [List.filter_cons_of_pos (by rw [eb, decide_eq_true vx, decide_eq_true vy]; rfl)]; rfl
        rw [l1]
        have m : x ∈ (told.take (k + 1)).filter fun x => decide (x ∈ V) := List.mem_filter.mpr ⟨List.mem_of_getElem? (i := j) (by rw [List.getElem?_take_of_lt (by omega)]; exact hx), decide_eq_true vx⟩
        have := List.length_pos_of_mem m
        omega
      · have l1 : ([w].filter (bothIn V)).length = 0 := by rw [List.filter_cons_of_neg (by rw [eb, decide_eq_false vx, Bool.false_and]; decide)]; rfl
        rw [l1]
        omega
    · have l2 : ([y].filter fun x => decide (x ∈ V)).length = 0 := by rw [List.filter_cons_of_neg (by simpa using vy)]; rfl
      have l1 : ([w].filter (bothIn V)).length = 0 := by rw [List.filter_cons_of_neg (by rw [eb, decide_eq_false vy, Bool.and_false]; decide)]; rfl
      rw [l1, l2]
      omega
theorem forest {told : List Nat} {ws : List Way} (G : Grown told ws) {V : List Nat} (ndV : V.Nodup) (hV : ∀ x ∈ V, x < ws.length + 1) (ne : V ≠ []) : (ws.filter (bothIn V)).length + 1 ≤ V.length := by
  have h := forest_from G V ws.length (Nat.le_refl _)
  rw [List.take_length, show ws.length + 1 = told.length from G.len, List.take_length] at h
  have h1 : (told.filter fun x => decide (x ∈ V)).length ≤ V.length := sub_len (G.nd.filter _) fun x hx => of_decide_eq_true (List.mem_filter.mp hx).2
  obtain ⟨v, hv⟩ := List.exists_mem_of_ne_nil _ ne
  obtain ⟨i, _, e⟩ := grown_all G (hV v hv)
  have m : v ∈ told.filter fun x => decide (x ∈ V) := List.mem_filter.mpr ⟨List.mem_of_getElem? e, decide_eq_true hv⟩
  have := List.length_pos_of_mem m
  omega
theorem sum_two {α : Type} {f : α → Nat} : ∀ {l : List α}, (∀ x ∈ l, 2 ≤ f x) → 2 * l.length ≤ (l.map f).sum
  | [], _ => Nat.zero_le _
  | a :: l, h => by
    have ih := sum_two (f := f) (l := l) fun x hx => h x (List.mem_cons_of_mem _ hx)
    have := h a List.mem_cons_self
    rw [List.map_cons, List.sum_cons, List.length_cons]
    omega
theorem pairs_few {told : List Nat} {ws ws0 : List Way} (G : Grown told ws0) (p : ws.Perm ws0) {B A : List Nat} (ndB : B.Nodup) (ndA : A.Nodup) (dis : ∀ x ∈ B, x ∉ A) (hB : ∀ x ∈ B, x < ws.length + 1) (hA : ∀ x ∈ A, x < ws.length + 1) (ne : B ≠ []) :
    (B.map fun r => ((nb (rows ws) r).filter fun g => decide (g ∈ A)).length).sum + 1 ≤ B.length + A.length := by
  have el := p.length_eq
  have hw : ∀ w ∈ ws, w.1 < w.2 ∧ w.2 < ws.length + 1 := fun w h => by
    have := grown_ww G w (p.mem_iff.mp h)
    omega
  have S := simple_of (p.nodup_iff.mpr (grown_nodup G)) hw
  have ndV : (B ++ A).Nodup := List.nodup_append.mpr ⟨ndB, ndA, fun x hx y hy e => dis x hx (e ▸ hy)⟩
  have F := forest G ndV (fun x hx => by rw [← el]; exact (List.mem_append.mp hx).elim (hB x) (hA x)) (fun e => ne (List.append_eq_nil_iff.mp e).1)
  rw [List.length_append, ← (p.filter (bothIn (B ++ A))).length_eq] at F
  have lw : ∀ r g, g ∈ nb (rows ws) r → (min r g, max r g) ∈ ws := fun r g m => by
    rw [mem_rows hw] at m
    rcases m with m | m
    · have := (hw _ m).1
      simp only at this
      rw [Nat.min_eq_left (by omega), Nat.max_eq_right (by omega)]
      exact m
    · have := (hw _ m).1
      simp only at this
      rw [Nat.min_eq_right (by omega), Nat.max_eq_left (by omega)]
      exact m
  have key : (B.flatMap fun r => ((nb (rows ws) r).filter fun g => decide (g ∈ A)).map fun g => ((min r g, max r g) : Way)).length ≤ (ws.filter (bothIn (B ++ A))).length := by
    refine sub_len ?_ fun w hw' => ?_
    · rw [List.nodup_iff_pairwise_ne, List.pairwise_flatMap]
      constructor
      · intro r hr
        rw [List.pairwise_map]
        have nd := List.nodup_iff_pairwise_ne.mp ((S.nd r).filter fun g => decide (g ∈ A))
        refine nd.imp_of_mem fun {x y} hx hy n e => n ?_
        have h1 := of_decide_eq_true (List.mem_filter.mp hx).2
        have h2 := of_decide_eq_true (List.mem_filter.mp hy).2
        have e1 : min r x = min r y := congrArg Prod.fst e
        have e2 : max r x = max r y := congrArg Prod.snd e
        omega
      · refine (List.nodup_iff_pairwise_ne.mp ndB).imp_of_mem fun {r s} hr hs n x hx y hy e => ?_
        obtain ⟨g, hg, rfl⟩ := List.mem_map.mp hx
        obtain ⟨h, hh, rfl⟩ := List.mem_map.mp hy
        have h1 := of_decide_eq_true (List.mem_filter.mp hg).2
        have h2 := of_decide_eq_true (List.mem_filter.mp hh).2
        have e1 : min r g = min s h := congrArg Prod.fst e
        have e2 : max r g = max s h := congrArg Prod.snd e
        have n1 : r ≠ h := fun z => dis r hr (z ▸ h2)
        omega
    · obtain ⟨r, hr, h⟩ := List.mem_flatMap.mp hw'
      obtain ⟨g, hg, rfl⟩ := List.mem_map.mp h
      obtain ⟨h1, h2⟩ := List.mem_filter.mp hg
      refine List.mem_filter.mpr ⟨lw r g h1, ?_⟩
      have mr : r ∈ B ++ A := List.mem_append_left _ hr
      have mg : g ∈ B ++ A := List.mem_append_right _ (of_decide_eq_true h2)
      unfold bothIn
      rw [Bool.and_eq_true, decide_eq_true_iff, decide_eq_true_iff]
      by_cases hl : r ≤ g
      · rw [Nat.min_eq_left hl, Nat.max_eq_right hl]
        exact ⟨mr, mg⟩
      · rw [Nat.min_eq_right (by omega), Nat.max_eq_left (by omega)]
        exact ⟨mg, mr⟩
  rw [List.length_flatMap] at key
  have e : (B.map fun r => (((nb (rows ws) r).filter fun g => decide (g ∈ A)).map fun g => ((min r g, max r g) : Way)).length) = B.map fun r => ((nb (rows ws) r).filter fun g => decide (g ∈ A)).length := by
    congr 1
    funext r
    exact List.length_map _
  rw [e] at key
  omega
/-- a room into which at most one of them is in the way -/
theorem next_room {told : List Nat} {ws ws0 : List Way} (G : Grown told ws0) (p : ws.Perm ws0) {B A : List Nat} (ndB : B.Nodup) (ndA : A.Nodup) (dis : ∀ x ∈ B, x ∉ A) (hB : ∀ x ∈ B, x < ws.length + 1) (hA : ∀ x ∈ A, x < ws.length + 1) (ne : B ≠ []) (el : B.length = A.length) :
    ∃ r ∈ B, ((nb (rows ws) r).filter fun g => decide (g ∈ A)).length < 2 := by
  apply Classical.byContradiction
  intro h
  have h1 := pairs_few G p ndB ndA dis hB hA ne
  have h2 := sum_two (f := fun r => ((nb (rows ws) r).filter fun g => decide (g ∈ A)).length) (l := B) fun r hr => by
    apply Classical.byContradiction
    intro z
    exact h ⟨r, hr, by omega⟩
  omega
end GM

/-! The leaps that are told, as a function; that they are right. -/
namespace GM
/-- the next leap: into the first room with at most one in the way, of the one in the way, or of the first -/
def nextL (A : List Nat) (B : List (Nat × List Nat)) : Option Way := match B.find? fun q => decide (q.2.length < 2) with
  | none => none
  | some q => (q.2 ++ A).head?.map fun g => (g, q.1)
def goA (A : List Nat) (m : Way) : List Nat := A.filter fun x => decide (x ≠ m.1)
def goB (B : List (Nat × List Nat)) (m : Way) : List (Nat × List Nat) := (B.filter fun q => decide (q.1 ≠ m.2)).map fun q => (q.1, q.2.filter fun x => decide (x ≠ m.1))
inductive Runs : List Nat → List (Nat × List Nat) → List Way → Prop
  | nil {A : List Nat} : Runs A [] []
  | cons {A : List Nat} {B : List (Nat × List Nat)} {m : Way} {ms : List Way} : B ≠ [] → nextL A B = some m → Runs (goA A m) (goB B m) ms → Runs A B (m :: ms)
theorem runs_one {A : List Nat} {B : List (Nat × List Nat)} {ms : List Way} (h : Runs A B ms) : ∀ {ns : List Way}, Runs A B ns → ns = ms := by
  induction h with
  | nil =>
    intro ns k
    cases k with
    | nil => rfl
    | cons h1 _ _ => exact absurd rfl h1
  | cons h1 h2 _ ih =>
    intro ns k
    cases k with
    | nil => exact absurd rfl h1
    | cons g1 g2 g3 =>
      rw [h2] at g2
      obtain rfl := Option.some.inj g2
      rw [ih g3]
/-- what stands as the leaps are told -/
structure Bar (ws : List Way) (A : List Nat) (B : List (Nat × List Nat)) : Prop where
  ndA : A.Nodup
  ndB : (B.map (·.1)).Nodup
  dis : ∀ x ∈ B.map (·.1), x ∉ A
  ltA : ∀ x ∈ A, x < ws.length + 1
  ltB : ∀ x ∈ B.map (·.1), x < ws.length + 1
  len : B.length = A.length
  row : ∀ q ∈ B, q.2 = (nb (rows ws) q.1).filter fun g => decide (g ∈ A)
theorem bar_next {told : List Nat} {ws ws0 : List Way} (G : Grown told ws0) (p : ws.Perm ws0) {A : List Nat} {B : List (Nat × List Nat)} (b : Bar ws A B) (ne : B ≠ []) :
    ∃ m, nextL A B = some m ∧ m.1 ∈ A ∧ m.2 ∈ B.map (·.1) ∧ (∀ x ∈ nb (rows ws) m.2, x ∈ A → x = m.1) ∧ ∃ q, (B.find? fun q => decide (q.2.length < 2)) = some q ∧ q.1 = m.2 ∧ (q.2 ++ A).head? = some m.1 := by
  obtain ⟨r, hr, h2⟩ := next_room G p b.ndB b.ndA b.dis b.ltB b.ltA (by simpa using ne) (by rw [List.length_map]; exact b.len)
  obtain ⟨q0, hq0, rfl⟩ := List.mem_map.mp hr
  rw [← b.row q0 hq0] at h2
  cases e : B.find? fun q => decide (q.2.length < 2) with
  | none =>
    rw [List.find?_eq_none] at e
    exact absurd (decide_eq_true h2) (e q0 hq0)
  | some q =>
    have hq := List.mem_of_find?_eq_some e
    have hl : q.2.length < 2 := of_decide_eq_true (by simpa using List.find?_some e)
    have ro := b.row q hq
    have mB : q.1 ∈ B.map (·.1) := List.mem_map.mpr ⟨q, hq, rfl⟩
    have Ane : A ≠ [] := fun z => by
      have := b.len
      rw [z] at this
      exact ne (List.length_eq_zero_iff.mp this)
    obtain ⟨g, hg⟩ : ∃ g, (q.2 ++ A).head? = some g := by
      cases e2 : q.2 with
      | cons g r => exact ⟨g, rfl⟩
      | nil =>
        cases e3 : A with
        | nil => exact absurd e3 Ane
        | cons g r => exact ⟨g, rfl⟩
    refine ⟨(g, q.1), by unfold nextL; rw [e]; show Option.map _ (q.2 ++ A).head? = _; rw [hg]; rfl, ?_, mB, ?_, q, rfl, rfl, hg⟩
    · have m : g ∈ q.2 ++ A := List.mem_of_mem_head? hg
      rcases List.mem_append.mp m with h | h
      · rw [ro] at h
        exact of_decide_eq_true (List.mem_filter.mp h).2
      · exact h
    · intro x hx hA
      have m : x ∈ q.2 := by
        rw [ro]
        exact List.mem_filter.mpr ⟨hx, decide_eq_true hA⟩
      match e2 : q.2, hl, m, hg with
      | [y], _, m, hg =>
        have h1 := List.mem_singleton.mp m
        have h2 : y = g := Option.some.inj hg
        rw [h1, h2]
theorem bar_go {ws : List Way} {A : List Nat} {B : List (Nat × List Nat)} {m : Way} (b : Bar ws A B) (h1 : m.1 ∈ A) (h2 : m.2 ∈ B.map (·.1)) : Bar ws (goA A m) (goB B m) := by
  have e1 : (goB B m).map (·.1) = (B.map (·.1)).filter fun x => decide (x ≠ m.2) := by
    unfold goB
    rw [List.map_map, List.filter_map]
    rfl
  refine ⟨b.ndA.filter _, by rw [e1]; exact b.ndB.filter _, fun x hx hA => ?_, fun x hx => b.ltA x (List.mem_filter.mp hx).1, fun x hx => ?_, ?_, fun q hq => ?_⟩
  · rw [e1] at hx
    exact b.dis x (List.mem_filter.mp hx).1 (List.mem_filter.mp hA).1
  · rw [e1] at hx
    exact b.ltB x (List.mem_filter.mp hx).1
  · have l1 : (goA A m).length + 1 = A.length := by
      have e : goA A m = A.erase m.1 := by
        unfold goA
        rw [b.ndA.erase_eq_filter]
        apply List.filter_congr
        intro x _
        by_cases z : x = m.1 <;> simp [z]
      rw [e, List.length_erase_of_mem h1]
      have := List.length_pos_of_mem h1
      omega
    have l2 : (goB B m).length + 1 = B.length := by
      have e : ((B.map (·.1)).filter fun x => decide (x ≠ m.2)) = (B.map (·.1)).erase m.2 := by
        rw [b.ndB.erase_eq_filter]
        apply List.filter_congr
        intro x _
        by_cases z : x = m.2 <;> simp [z]
      have := congrArg List.length e1
      rw [List.length_map, e, List.length_erase_of_mem h2, List.length_map] at this
      have h3 := List.length_pos_of_mem h2
      rw [List.length_map] at h3
      omega
    have := b.len
    omega
  · obtain ⟨q0, hq0, rfl⟩ := List.mem_map.mp hq
    show (q0.2.filter fun x => decide (x ≠ m.1)) = (nb (rows ws) q0.1).filter fun g => decide (g ∈ goA A m)
    rw [b.row q0 (List.mem_filter.mp hq0).1, List.filter_filter]
    apply List.filter_congr
    intro x _
    unfold goA
    by_cases h : x ∈ A
    · by_cases k : x = m.1 <;> simp [h, k, h1]
    · simp [h]
/-- leaps that lead from one setting to the other one -/
inductive Leaps (f : Nat → List Nat) (other : List Nat) : List Nat → List Way → Prop
  | nil : Leaps f other other []
  | cons {S : List Nat} {g e : Nat} {ms : List Way} : g ∈ S → g ∉ other → e ∈ other → e ∉ S → (∀ x ∈ f e, x ∈ S → x = g) → Leaps f other (mv S g e) ms → Leaps f other S ((g, e) :: ms)
theorem leap_set {rs : List (List Nat)} (Gr : Graph rs) {S : List Nat} (St : Setting rs S) {a b : Nat} (ha : a ∈ S) (hb : b < rs.length) (nS : b ∉ S) (c : ∀ x ∈ nb rs b, x ∈ S → x = a) : Setting rs (mv S a b) where
  up := by
    unfold mv
    have nd : (srt ((S.filter fun x => decide (x ≠ a)) ++ [b])).Nodup := (srt_perm _).nodup_iff.mpr (List.nodup_append.mpr ⟨St.nd.filter _, by simp, fun x hx y hy e => by
      rw [List.mem_singleton.mp hy] at e
      rw [e] at hx
      exact nS (List.mem_filter.mp hx).1⟩)
    exact (srt_pw _).imp₂ (fun x y h k => by omega) nd
  lt := fun x hx => by
    rcases mem_mv.mp hx with e | ⟨h, _⟩
    · rw [e]; exact hb
    · exact St.lt x h
  apart := fun x hx y hy m => by
    rcases mem_mv.mp hx with ex | ⟨h1, n1⟩
    · rcases mem_mv.mp hy with ey | ⟨h2, n2⟩
      · rw [ex, ey] at m
        exact Gr.irr _ m
      · rw [ex] at m
        exact n2 (c y m h2)
    · rcases mem_mv.mp hy with ey | ⟨h2, n2⟩
      · rw [ey] at m
        exact n1 (c x (Gr.sym _ _ m) h1)
      · exact St.apart x h1 y h2 m
/-- what is told leads there -/
theorem runs_right {told : List Nat} {ws ws0 : List Way} (G : Grown told ws0) (p : ws.Perm ws0) (hw : ∀ w ∈ ws, w.1 < w.2 ∧ w.2 < ws.length + 1) {other : List Nat} (O : Setting (rows ws) other) : ∀ (k : Nat) {A : List Nat} {B : List (Nat × List Nat)} {S : List Nat}, B.length = k → Bar ws A B → Setting (rows ws) S →
    (∀ x ∈ A, x ∈ S ∧ x ∉ other) → (∀ x ∈ S, x ∈ A ∨ x ∈ other) → (∀ x ∈ B.map (·.1), x ∈ other ∧ x ∉ S) → (∀ x ∈ other, x ∈ S ∨ x ∈ B.map (·.1)) → ∃ ms, Runs A B ms ∧ Leaps (nb (rows ws)) other S ms ∧ ms.length = k
  | 0, A, B, S, hk, b, St, hA, hS, hB, hO => by
    obtain rfl := List.length_eq_zero_iff.mp hk
    have eA : A = [] := List.length_eq_zero_iff.mp (by rw [← b.len]; rfl)
    subst eA
    have e : S = other := by
      refine pw_perm_eq ((List.perm_ext_iff_of_nodup St.nd O.nd).mpr fun x => ⟨fun h => ?_, fun h => ?_⟩) (St.up.imp fun h => Nat.le_of_lt h) (O.up.imp fun h => Nat.le_of_lt h)
      · exact (hS x h).elim (fun z => nomatch z) id
      · exact (hO x h).elim id (fun z => nomatch z)
    subst e
    exact ⟨[], .nil, .nil, rfl⟩
  | k + 1, A, B, S, hk, b, St, hA, hS, hB, hO => by
    have ne : B ≠ [] := fun z => by rw [z] at hk; cases hk
    obtain ⟨m, hm, mA, mB, bar, _⟩ := bar_next G p b ne
    obtain ⟨g, e⟩ := m
    simp only at mA mB bar
    have b' := bar_go b (m := (g, e)) mA mB
    have e1 : (goB B (g, e)).map (·.1) = (B.map (·.1)).filter fun x => decide (x ≠ e) := by
      unfold goB
      rw [List.map_map, List.filter_map]
      rfl
    have lk : (goB B (g, e)).length = k := by
      have h1 := b'.len
      have h2 := b.len
      have e2 : goA A (g, e) = A.erase g := by
        unfold goA
        rw [b.ndA.erase_eq_filter]
        apply List.filter_congr
        intro x _
        by_cases z : x = g <;> simp [z]
      rw [e2, List.length_erase_of_mem mA] at h1
      omega
    obtain ⟨gS, gO⟩ := hA g mA
    obtain ⟨eO, eS⟩ := hB e mB
    have c : ∀ x ∈ nb (rows ws) e, x ∈ S → x = g := fun x hx hxS => by
      rcases hS x hxS with h | h
      · exact bar x hx h
      · exact absurd hx (O.apart e eO x h)
    have St' := leap_set (graph_rows hw) St gS (O.lt e eO) eS c
    obtain ⟨ms, r, l, n⟩ := runs_right G p hw O k (A := goA A (g, e)) (B := goB B (g, e)) (S := mv S g e) lk b' St' (fun x hx => by
        obtain ⟨h1, h2⟩ := List.mem_filter.mp hx
        exact ⟨mem_mv.mpr (.inr ⟨(hA x h1).1, of_decide_eq_true h2⟩), (hA x h1).2⟩) (fun x hx => by
        rcases mem_mv.mp hx with z | ⟨h1, h2⟩
        · rw [z]; exact .inr eO
        · rcases hS x h1 with h | h
          · exact .inl (List.mem_filter.mpr ⟨h, decide_eq_true h2⟩)
          · exact .inr h) (fun x hx => by
        rw [e1] at hx
        obtain ⟨h1, h2⟩ := List.mem_filter.mp hx
        refine ⟨(hB x h1).1, fun z => ?_⟩
        rcases mem_mv.mp z with z | ⟨z, _⟩
        · exact of_decide_eq_true h2 z
        · exact (hB x h1).2 z) (fun x hx => by
        by_cases z : x = e
        · rw [z]; exact .inl (mem_mv.mpr (.inl rfl))
        · rcases hO x hx with h | h
          · exact .inl (mem_mv.mpr (.inr ⟨h, fun y => gO (y ▸ hx)⟩))
          · refine .inr ?_
            rw [e1]
            exact List.mem_filter.mpr ⟨h, decide_eq_true z⟩)
    exact ⟨(g, e) :: ms, .cons ne hm r, .cons gS gO eO eS c l, by rw [List.length_cons, n]⟩
end GM

/-! Defs that are called where no repr is under way. -/
namespace L2
open PySem PySem.Spec PyProof.Rows
structure FnOkG (P : Program) (w : World) (K : PySem.W.Frag) (mg : Str → Option Value) (base : Heap) (CX : CXT) (k : Nat) (f : Addr) (fd : FuncData) (ps : List Str) (sp : Sp) : Prop where
  len : ∀ (vs : List V) (H : Hp) (Q : VK) (E : XK), sp vs H Q E → vs.length = ps.length
  run : ∀ (A : Around) (outer : List Env) (s : Shared) (H : Hp) (args : Args) (us : List Value) (vs : List V) (Q : VK) (E : XK), A.guards = some [] → Room k A → Env0 P w K mg base A outer s H → BindsTo s fd args (ps.zip us) → Vals vs us → sp vs H Q E →
    codeAny (model P w) A (Code.call (.ref f) args) (CR CX outer P w H s Q E) s
theorem fn_ofG {CX : CXT} {P : Program} {w : World} {K : PySem.W.Frag} {mg : Str → Option Value} {base : Heap} {k : Nat} {f : Addr} {name qual : Str} {params : Arguments} {body : List Stmt} {scope : Scope} {dV kV doc pm cdv ct oc : Value} {an od : Option Addr} {osl : Array (Option Value)} {N ps : List Str} {sp : Sp}
    (lk : K.lookup f = some { cls := oc, dict := od, data := .func (PySem.W.fnOf name qual params body scope dV kV doc pm an cdv ct), slots := osl }) (hcd : PySem.W.codeIn K cdv qual = true) (S : FnScope N ps scope)
    (len : ∀ (vs : List V) (H : Hp) (Q : VK) (E : XK), sp vs H Q E → vs.length = ps.length)
    (hbody : ∀ (A : Around) (outer : List Env) (s : Shared) (H : Hp) (vs : List V) (Q : VK) (E : XK), A.guards = some [] → Room k (A.deeper (envOfC qual scope s.heap.objs.size f cdv)) → sp vs H Q E →
      ∃ t, PSs (cxOf CX P w K mg base N qual scope f cdv A outer s H E) body t ∧ t { nx := fun x H' => Q .non H', rt := Q } (start N vs) H) :
    FnOkG P w K mg base CX (k + 1) f (PySem.W.fnOf name qual params body scope dV kV doc pm an cdv ct) ps sp where
  len := len
  run := fun A outer s H args us vs Q E hg hr e0 hb r hsp => by
    have hl := len vs H Q E hsp
    have KX := PySem.W.Frag.In.keeps e0.mod.kin fun b o e => (e0.bs b o e).1
    have lim := Heap.NoLimit.keeps e0.mod.nolimit fun b o e => (e0.bs b o e).1
    refine codeAny_call_function hr.depth (KX f _ lk) rfl S.co S.gen rfl (PySem.W.codeRec_of KX hcd) (hb _ _ _ _ ?_)
    refine wpAny_newFunctionEnv_cells S.kind ?_ fun env he s1 x => ?_
    · rintro ⟨n, v⟩ hy
      rcases S.par n (List.of_mem_zip hy).1 with q | q
      · exact .inl q
      · exact .inr ⟨q, PySem.W.cellsFrom_some scope.names (s.heap.objs.size + 1) [] (.inl q)⟩
    subst he
    refine ⟨Heap.NoLimit.keeps lim x.toInCall.keep, codeAny_func ?_⟩
    obtain ⟨t, ht, hq⟩ := hbody A outer s H vs Q E hg (hr.deeper (envOfC qual scope s.heap.objs.size f cdv)) hsp
    have I : Inv (cxOf CX P w K mg base N qual scope f cdv A outer s H E) [] (start N vs) H s1 := inv_start S hr.hd e0 hl r x
    refine wpAny_mono (ht.run [] s1 (start N vs) H { nx := fun x H' => Q .non H', rt := Q } I hq) (fun fl s' hs => ?_) fun e s' hs => hs
    have fin : ∀ {σ' : St} {H' : Hp} {v : V} {u : Value}, Inv (cxOf CX P w K mg base N qual scope f cdv A outer s H E) [] σ' H' s' → RelV v u → Q v H' → CR CX outer P w H s Q E (.ok (.ret u)) s' := fun J rv q => ⟨_, _, J.os, J.bare, J.base, J.hok, rv, q⟩
    cases fl with
    | next =>
      obtain ⟨σ', H', J, q⟩ := hs
      exact fin (v := .non) (u := .none) J rfl q
    | brk =>
      obtain ⟨_, _, _, q⟩ := hs
      exact False.elim q
    | cont =>
      obtain ⟨_, _, _, q⟩ := hs
      exact False.elim q
    | ret u =>
      obtain ⟨v, σ', H', J, rv, q⟩ := hs
      exact fin J rv q
theorem Fun.okG {P : Program} {w : World} {K : PySem.W.Frag} {mg : Str → Option Value} {base : Heap} {x qual : Str} {st : Stmt} {f : Addr} {fd : FuncData} {N ps : List Str} {k : Nat} {sp : Sp} (F : Fun K x qual st f fd) (S : FnScope N ps (defScope st))
    (len : ∀ (vs : List V) (H : Hp) (Q : VK) (E : XK), sp vs H Q E → vs.length = ps.length)
    (hbody : ∀ (cdv : Value) (A : Around) (outer : List Env) (s : Shared) (H : Hp) (vs : List V) (Q : VK) (E : XK), A.guards = some [] → Room k (A.deeper (envOfC qual (defScope st) s.heap.objs.size f cdv)) → sp vs H Q E →
      ∃ t, PSs (cxOf CX0 P w K mg base N qual (defScope st) f cdv A outer s H E).nox (defBody st) t ∧ t { nx := fun x H' => Q .non H', rt := Q } (start N vs) H) :
    FnOkG P w K mg base CX0 (k + 1) f fd ps sp := by
  obtain ⟨oc, od, kV, doc, pm, an, cdv, ct, osl, rfl, lk, hcd⟩ := F.ex
  refine fn_ofG lk hcd S len fun A outer s H vs Q E hg hr hsp => ?_
  obtain ⟨t, h, q⟩ := hbody cdv A outer s H vs Q E hg hr hsp
  exact ⟨t, h.nox, q⟩
theorem run_fnG {X : Cx} {CX : CXT} {k : Nat} {f : Addr} {fd : FuncData} {ps : List Str} {sp : Sp} {dvs : List V} {ds : List Value} {E : XK} {pins : List (Addr × Obj)} {σ : St} {H : Hp} {s : Shared} {Q : VK} {us : List Value} {vs : List V}
    (F : FnOkG X.prog X.w X.K X.mg X.base CX k f fd ps sp) (hg : X.A.guards = some []) (hr : Room k X.A) (hb : Binds X.K fd ps ds) (hd : Vals dvs ds) (hx : Passes CX X E) (I : Inv X pins σ H s) (r : Vals vs us) (h : sp (vs ++ dvs) H Q E) :
    wpAny (model X.prog X.w) X.A (call (.ref f) us) (EP X pins σ Q) X.xe s := by
  have r2 := Vals.append r hd
  have hl : (us ++ ds).length = ps.length := by rw [← Vals.length r2]; exact F.len (vs ++ dvs) H Q E h
  refine wpAny_call (codeAny_mono (F.run X.A X.stack s H { pos := us } (us ++ ds) (vs ++ dvs) Q E hg hr I.env0 (hb s us I.kIn hl) r2 h) fun r s' hq => ?_)
  cases r with
  | error e => exact hx pins σ H s e s' I hq
  | ok fl =>
    cases fl with
    | next => exact False.elim hq
    | brk => exact False.elim hq
    | cont => exact False.elim hq
    | ret u => exact I.after hq
theorem pe_callG {X : Cx} {CX : CXT} {k : Nat} {f : Addr} {fd : FuncData} {ps : List Str} {sp : Sp} {dvs : List V} {ds : List Value} {E : XK} {x : Str} {p pos : Pos} {e : Expr} {es : List Expr} {t : TA}
    (F : FnOkG X.prog X.w X.K X.mg X.base CX k f fd ps sp) (hgd : X.A.guards = some []) (hr : Room k X.A) (hg : Gl X x) (hm : X.mg x = some (.ref f)) (hk : PySem.W.keepIn X.K (.ref f) = true) (hb : Binds X.K fd ps ds) (hd : Vals dvs ds) (hx : Passes CX X E) (ha : PA X (e :: es) t) (hdb : (x == ("__debug__" : Str)) = false := by decide)
    (he : starEach (e :: es) X.env = (false, eval e X.env) :: starEach es X.env := by rfl) (hpl : (backTo pos (starEach es X.env)).any (·.1) = false := by rfl) : PE X (.Call (.Name x p) (e :: es) [] pos) (tCall sp dvs E t) where
  run := fun pins s σ H Q I h => by
    refine wpAny_Call_Name_kw (ld_glob I hg hm (PySem.W.callWith_K I.ok.mod.kin hk (thn (ha.run pos pins s σ H (fun vs H1 => sp (vs ++ dvs) H1 Q E) I h) fun us s1 x => ?_) he hpl) hdb)
    obtain ⟨vs, H1, I1, r, q⟩ := x
    exact ⟨I1.kIn, run_fnG F hgd hr hb hd hx I1 r q⟩
theorem law_callG {P : Program} {w : World} {K : PySem.W.Frag} {mg mb : Str → Option Value} {CX : CXT} {k : Nat} {fa a : Addr} {fd : FuncData} {x : Str} {sp : Sp} {s₁ : Shared} {vs : List Value} {ns : List Int} (KX : K.In s₁.heap) (hns : s₁.heap.Ns mainGlobals mg) (hb : s₁.heap.Ns builtinsNs mb) (hbb : ∀ x : Str, x ≠ "__name__" → mb x = bootBuiltins x) (hlim : s₁.heap.NoLimit) (hg : s₁.gens = #[])
    (ha : s₁.heap.get? a = some { cls := .type "list", data := .seq vs.toArray }) (hi : IntsAre vs ns) (hl : ns.length ≤ sizeLine) (hr : Room k callerA) (F : ∀ base : Heap, K.In base → base.Ns mainGlobals mg → FnOkG P w K mg base CX k fa fd [x] sp) (hbind : ∀ (s : Shared) (u : Value), BindsTo s fd { pos := [u] } [(x, u)])
    (hsp : ∀ H : Hp, Only H → SqL K H a (ns.map V.int) → sp [.ref a] H (fun v _ => v = .bl true) fun _ _ _ => False) (hCX : ∀ (H : Hp) (e : Value) (s' : Shared), CX [] H s₁ (fun _ _ _ => False) e s' → False) :
    codeAny (model P w) callerA (Code.call (.ref fa) { pos := [.ref a] }) (fun r s' => r = .ok (.ret (.bool true)) ∧ OldK s₁.heap s'.heap ∧ s'.os = s₁.os ∧ AllBare s'.gens) s₁ := by
  have rv := vals_ints hi
  have lenV := IntsAre.length hi
  have core : ∀ H : Hp, Only H → SqL K H a (ns.map V.int) → HOk P w H s₁.heap → (∀ b, H b ≠ none → b = a) → (H a ≠ none → K.lookup a = none) →
      codeAny (model P w) callerA (Code.call (.ref fa) { pos := [.ref a] }) (fun r s' => r = .ok (.ret (.bool true)) ∧ OldK s₁.heap s'.heap ∧ s'.os = s₁.os ∧ AllBare s'.gens) s₁ := fun H hO hS hok hA hK => by
    have noA : ∀ {b : Addr} {o : Obj} {es : Array DictEntry} {ep : Nat}, s₁.heap.get? b = some o → o.data = .dict es ep → H b = none := by
      intro b o es ep e d
      cases q : H b with
      | none => rfl
      | some u =>
        have e' := hA b (by rw [q]; simp)
        subst e'
        rw [ha] at e
        cases e
        cases d
    have nsK : ∀ {b : Addr} {m : Str → Option Value}, s₁.heap.Ns b m → (hidT s₁.heap H).Ns b m := fun ⟨o, es, ep, e, d, r⟩ => ⟨o, es, ep, hidT_get e (noA e d), d, r⟩
    have hKb : K.In (hidT s₁.heap H) := fun b o e => hidT_get (KX b o e) (by
      cases q : H b with
      | none => rfl
      | some u =>
        have e' := hA b (by rw [q]; simp)
        subst e'
        have := hK (by rw [q]; simp)
        rw [this] at e
        cases e)
    have lim2 : (hidT s₁.heap H).NoLimit := by
      obtain ⟨mc, h1, h2⟩ := hlim
      exact ⟨mc, nsK h1, h2⟩
    have hM : Mod K mg (hidT s₁.heap H) := ⟨hKb, nsK hns, ⟨mb, nsK hb, hbb⟩, lim2⟩
    have e0 : Env0 P w K mg (hidT s₁.heap H) callerA [] s₁ H := { frames := rfl, mod := hM, bs := fun b o e => of_hidT e, bsz := Nat.le_of_eq (hidT_size s₁.heap H), funs := trivial, frf := fun b hb => absurd hb List.not_mem_nil, hok := hok, bare := AllBare.of_eq hg }
    refine codeAny_mono ((F (hidT s₁.heap H) hKb (nsK hns)).run callerA [] s₁ H { pos := [.ref a] } [.ref a] [.ref a] (fun v _ => v = .bl true) (fun _ _ _ => False) rfl hr e0 (hbind s₁ (.ref a)) (.cons rfl .nil) (hsp H hO hS)) fun r s' h => ?_
    cases r with
    | error e => exact (hCX H e s' h).elim
    | ok fl =>
      cases fl with
      | next => exact False.elim h
      | brk => exact False.elim h
      | cont => exact False.elim h
      | ret u =>
        obtain ⟨v, H', os, bare, un, hok', r', q⟩ := h
        have q : v = .bl true := q
        subst q
        obtain rfl : u = .bool true := r'
        refine ⟨rfl, OldK.of_keep fun b o e => ?_, os, bare⟩
        cases q : H b with
        | none => exact un.keep b o e q List.not_mem_nil List.not_mem_nil
        | some u =>
          rcases hO b with z | ⟨ob, xs, z⟩
          · rw [z] at q
            cases q
          · have z2 := un.frzs b ob (.lst xs) z
            obtain ⟨e1, _⟩ := hok b (.frz ob (.lst xs)) z
            obtain ⟨e2, _⟩ := hok' b (.frz ob (.lst xs)) z2
            rw [e] at e1
            cases e1
            exact e2
  cases hk : K.lookup a with
  | none =>
    refine core (fun b => if b = a then some (.frz { cls := .type "list", data := .seq vs.toArray } (.lst (ns.map V.int))) else none) (fun b => ?_) ?_ (fun b u z => ?_) (fun b z => ?_) fun _ => hk
    · by_cases hb : b = a
      · exact .inr ⟨_, _, if_pos hb⟩
      · exact .inl (if_neg hb)
    · exact .inl (.inr ⟨_, if_pos rfl⟩)
    · by_cases hb : b = a
      · subst hb
        have z := (if_pos rfl).symm.trans z
        cases z
        exact ⟨ha, by rw [List.length_map]; exact hl, vs, 0, rv, ha⟩
      · have z := (if_neg hb).symm.trans z
        cases z
    · by_cases hb : b = a
      · exact hb
      · exact absurd (if_neg hb) z
  | some o =>
    have e := KX a o hk
    rw [ha] at e
    cases e
    refine core (fun _ => none) (fun _ => .inl rfl) (.inr ⟨_, _, _, hk, rfl, rfl, rfl, ?_, ?_⟩) (fun b u z => nomatch z) (fun b z => absurd rfl z) fun z => absurd rfl z
    · show vs.length ≤ sizeLine
      omega
    · exact rv
theorem walk_ofG {l : PySem.W.OpenLaw} {n k : Nat} {q : Program} {loose : List Str} {XP : (Str → Option Value) → Heap → Prop} {YP : World → Heap → Prop} {d : DefRec} {K : Params → PySem.W.Frag} {CX : World → CXT} {sp : World → Sp} {x : Str} (hn : l.most = some n) (hn2 : n ≤ sizeLine) (hdf : d.params.defaults = []) (hr : Room k callerA) (hY : ∀ (w : World) (h : Heap), YP w h → (K w.params).In h)
    (F : ∀ (w : World) (mg : Str → Option Value) (fa : Addr) (h : Heap), (K w.params).In h → h.Ns mainGlobals mg → mg d.name = some (.ref fa) → ∃ fd : FuncData, (∀ (s : Shared) (u : Value), BindsTo s fd { pos := [u] } [(x, u)]) ∧ ∀ base : Heap, (K w.params).In base → base.Ns mainGlobals mg → FnOkG l.prog w (K w.params) mg base (CX w) k fa fd [x] (sp w))
    (hsp : ∀ (w : World) (H : Hp) (a : Addr) (ns : List Int), ns.length ≤ n → Only H → SqL (K w.params) H a (ns.map V.int) → sp w [.ref a] H (fun v _ => v = .bl true) fun _ _ _ => False)
    (hCX : ∀ (w : World) (H : Hp) (s : Shared) (e : Value) (s' : Shared), CX w [] H s (fun _ _ _ => False) e s' → False) : PySem.W.WalkO q loose XP YP l.row.toRowW d [] fun f vs => call f vs := by
  refine Att.attach_call hn hdf fun w s₀ s₁ mg mb fa o pm cd doc a vs ns G Y ho hd hcd hmg hobj hints hlen hg => ?_
  have KX := hY w s₁.heap Y
  obtain ⟨fd, hb, hF⟩ := F w mg fa s₁.heap KX G.T.g hmg
  exact law_callG KX G.T.g G.T.b G.T.builtins G.T.nolimit hg hobj hints (Nat.le_trans hlen hn2) hr hF hb (fun H hO hS => hsp w H a ns hlen hO hS) fun H e s' => hCX w H s₁ e s'
end L2

/-! Things of whatever kind, an empty dict among them; their repr. -/
namespace L2
open PySem PySem.Spec PyProof.Rows
mutual
inductive Dz (H : Hp) : V → PyData → Prop
  | non : Dz H .non .none
  | bl (b : Bool) : Dz H (.bl b) (.bool b)
  | int (i : Int) : Dz H (.int i) (.int i)
  | str (x : Str) : Dz H (.str x) (.str x)
  | lst {a : Addr} {xs : List V} {ds : List PyData} : H a = some (.lst xs) → DzAll H xs ds → Dz H (.ref a) (.list ds)
  | tup {a : Addr} {xs : List V} {ds : List PyData} : H a = some (.tup xs) → DzAll H xs ds → Dz H (.ref a) (.tuple ds)
  | emp {a : Addr} : H a = some (.dK []) → Dz H (.ref a) (.dict [])
inductive DzAll (H : Hp) : List V → List PyData → Prop
  | nil : DzAll H [] []
  | cons {v : V} {vs : List V} {d : PyData} {ds : List PyData} : Dz H v d → DzAll H vs ds → DzAll H (v :: vs) (d :: ds)
end
mutual
theorem Dz.same {H H' : Hp} (s : ∀ b o, H b = some o → H' b = some o) {v : V} {d : PyData} : Dz H v d → Dz H' v d
  | .non => .non
  | .bl b => .bl b
  | .int i => .int i
  | .str x => .str x
  | .lst h r => .lst (s _ _ h) (DzAll.same s r)
  | .tup h r => .tup (s _ _ h) (DzAll.same s r)
  | .emp h => .emp (s _ _ h)
theorem DzAll.same {H H' : Hp} (s : ∀ b o, H b = some o → H' b = some o) {vs : List V} {ds : List PyData} : DzAll H vs ds → DzAll H' vs ds
  | .nil => .nil
  | .cons h r => .cons (Dz.same s h) (DzAll.same s r)
end
theorem dict_nil {prog : Program} {w : World} {knd : KeyKind prog w Key} {es : Array DictEntry} (h : Pairs knd es.toList []) : es = #[] := by
  cases es with
  | mk l =>
    cases l with
    | nil => rfl
    | cons e l => cases h
section
variable {X : Cx} {pins : List (Addr × Obj)} {σ : St} {H : Hp} {s : Shared}
mutual
theorem Dz.reads (I : Inv X pins σ H s) {v : V} {d : PyData} {u : Value} : Dz H v d → RelV v u → ∃ as, Reads s.heap u d as
  | .non, r => by
    obtain rfl := r
    exact ⟨_, .none⟩
  | .bl b, r => by
    obtain rfl := r
    exact ⟨_, .bool b⟩
  | .int i, r => by
    obtain ⟨t, rfl⟩ := r
    exact ⟨_, .int i t⟩
  | .str x, r => by
    obtain ⟨t, rfl⟩ := r
    exact ⟨_, .str x t⟩
  | .lst h q, r => by
    obtain rfl := r
    obtain ⟨its, v1, ⟨o, n, g, c, d, t⟩, _⟩ := I.list (SqL.of h)
    obtain ⟨as, R⟩ := DzAll.reads I q v1
    exact ⟨_, .list g c t R⟩
  | .tup h q, r => by
    obtain rfl := r
    obtain ⟨its, v1, ⟨o, g, c, n, t⟩, _⟩ := I.tuple (SqT.of h)
    obtain ⟨as, R⟩ := DzAll.reads I q v1
    exact ⟨_, .tuple g c t R⟩
  | .emp h, r => by
    obtain rfl := r
    have z := I.hok _ _ h
    simp only [ObjOk] at z
    obtain ⟨_, _, vs, kv, o, es, ep, g, hx, hd, _, pr, _⟩ := z
    cases kv
    obtain rfl := dict_nil pr
    exact ⟨_, .dict (kvs := []) g hx.1 hd .nil .nil⟩
theorem DzAll.reads (I : Inv X pins σ H s) {vs : List V} {ds : List PyData} {us : List Value} : DzAll H vs ds → Vals vs us → ∃ as, ReadsAll s.heap us ds as
  | .nil, .nil => ⟨_, .nil⟩
  | .cons h q, .cons r rr => by
    obtain ⟨as, R⟩ := Dz.reads I h r
    obtain ⟨bs, S⟩ := DzAll.reads I q rr
    exact ⟨_, .cons R S⟩
end
theorem emp_at (I : Inv X pins σ H s) {a : Addr} (h : H a = some (.dK [])) : ∃ o n, s.heap.get? a = some o ∧ o.cls = .type "dict" ∧ o.data = .dict #[] n ∧ (a == sysModules) = false := by
  have z := I.hok _ _ h
  simp only [ObjOk] at z
  obtain ⟨_, sm, vs, kv, o, es, ep, g, hx, hd, _, pr, _⟩ := z
  cases kv
  obtain rfl := dict_nil pr
  exact ⟨o, ep, g, hx.1, hd, sm⟩
mutual
theorem Dz.reprk (I : Inv X pins σ H s) {v : V} {d : PyData} {u : Value} : Dz H v d → RelV v u → d.showable = true → d.shown.length ≤ sizeLine → ∃ bs, ReadAtMost s.heap d.depth bs ∧ ReprK X.prog X.w bs s.heap d.depth u d.shown
  | .non, r, _, _ => by
    obtain rfl := r
    exact ⟨[], (fun x h => absurd h List.not_mem_nil), ReprK.of_is ReprIs.none [] _ _⟩
  | .bl b, r, _, _ => by
    obtain rfl := r
    exact ⟨[], (fun x h => absurd h List.not_mem_nil), ReprK.of_is (ReprIs.bool b) [] _ _⟩
  | .int i, r, hs, _ => by
    obtain ⟨t, rfl⟩ := r
    exact ⟨[], (fun x h => absurd h List.not_mem_nil), ReprK.of_is (ReprIs.int t (of_decide_eq_true hs)) [] _ _⟩
  | .str x, r, _, hz => by
    obtain ⟨t, rfl⟩ := r
    exact ⟨[], (fun x h => absurd h List.not_mem_nil), ReprK.of_is (ReprIs.str x t (show (reprText x).length ≤ sizeLine from hz)) [] _ _⟩
  | .lst (xs := xs) (ds := ds) h q, r, hs, hz => by
    obtain ⟨as, R⟩ := Dz.reads I (.lst h q) r
    obtain rfl := r
    obtain ⟨its, v1, ⟨o, n, g, c, d, t⟩, _⟩ := I.list (SqL.of h)
    obtain ⟨bs, hb, hk⟩ := DzAll.reprk I q v1 hs fun t ht => Nat.le_trans (listText_mem_le ht) hz
    have hna := not_mem_of_deeper R (show PyData.depthAll ds < PyData.depthAll ds + 1 by omega) hb
    refine ⟨_ :: bs, ReadAtMost.cons R (show PyData.depthAll ds ≤ PyData.depthAll ds + 1 by omega) hb, ?_⟩
    show ReprK X.prog X.w (_ :: bs) s.heap (PyData.depthAll ds + 1) _ (listText (PyData.shownAll ds))
    cases its with
    | nil =>
      cases v1
      cases q
      exact ReprK.listEmpty g c t
    | cons x l => exact ReprK.list g c t hna (by rw [ReprAllK.length_eq hk]; rfl) fun i y e => ReprAllK.item hk i y (by simpa using e)
  | .tup (ds := ds) h q, r, hs, hz => by
    obtain ⟨as, R⟩ := Dz.reads I (.tup h q) r
    obtain rfl := r
    obtain ⟨its, v1, ⟨o, g, c, n, t⟩, _⟩ := I.tuple (SqT.of h)
    obtain ⟨bs, hb, hk⟩ := DzAll.reprk I q v1 hs fun t ht => Nat.le_trans (tupleText_mem_le ht) hz
    have hna := not_mem_of_deeper R (show PyData.depthAll ds < PyData.depthAll ds + 1 by omega) hb
    exact ⟨_ :: bs, ReadAtMost.cons R (show PyData.depthAll ds ≤ PyData.depthAll ds + 1 by omega) hb, ReprK.tuple g c t hna hk⟩
  | .emp h, r, hs, hz => by
    obtain ⟨as, R⟩ := Dz.reads I (.emp h) r
    obtain rfl := r
    obtain ⟨o, n, g, c, t, sm⟩ := emp_at I h
    have hb : ReadAtMost s.heap 0 [] := (fun x h => absurd h List.not_mem_nil)
    have hna := not_mem_of_deeper R (show 0 < 0 + 1 by omega) hb
    exact ⟨_ :: [], ReadAtMost.cons R (show 0 ≤ 0 + 1 by omega) hb, ReprK.dict (ps := []) g c t sm hna (ReprEntriesK.of_two [] [] [] .nil .nil)⟩
theorem DzAll.reprk (I : Inv X pins σ H s) {vs : List V} {ds : List PyData} {us : List Value} : DzAll H vs ds → Vals vs us → PyData.showableAll ds = true → (∀ t ∈ PyData.shownAll ds, t.length ≤ sizeLine) → ∃ bs, ReadAtMost s.heap (PyData.depthAll ds) bs ∧ ReprAllK X.prog X.w bs s.heap (PyData.depthAll ds) us (PyData.shownAll ds)
  | .nil, .nil, _, _ => ⟨[], (fun x h => absurd h List.not_mem_nil), ReprAllK.nil⟩
  | .cons (d := d) (ds := ds) h q, .cons r rr, hs, hz => by
    have hs' : d.showable = true ∧ PyData.showableAll ds = true := by
      have : (d.showable && PyData.showableAll ds) = true := hs
      rwa [Bool.and_eq_true] at this
    obtain ⟨b1, hb1, k1⟩ := Dz.reprk I h r hs'.1 (hz d.shown List.mem_cons_self)
    obtain ⟨b2, hb2, k2⟩ := DzAll.reprk I q rr hs'.2 fun t ht => hz t (List.mem_cons_of_mem d.shown ht)
    refine ⟨b1 ++ b2, fun b hm => ?_, .cons (ReprK.level_le (ReprK.more k1 fun b hb => List.mem_append_left b2 hb) (Nat.le_max_left _ _)) (ReprAllK.more_le (fun b hb => List.mem_append_right b1 hb) (Nat.le_max_right _ _) k2)⟩
    rcases List.mem_append.mp hm with hm | hm
    · obtain ⟨d', as', r', hd'⟩ := hb1 b hm
      exact ⟨d', as', r', Nat.le_trans hd' (Nat.le_max_left _ _)⟩
    · obtain ⟨d', as', r', hd'⟩ := hb2 b hm
      exact ⟨d', as', r', Nat.le_trans hd' (Nat.le_max_right _ _)⟩
end
end
def rReprZ : List V → Hp → VK → Prop := fun xs H Q => ∃ (v : V) (d : PyData), xs = [v] ∧ Dz H v d ∧ d.showable = true ∧ d.depth ≤ 60 ∧ d.shown.length ≤ sizeLine ∧ Q (.str d.shown) H
end L2

/-! ranges as values: made by range(n), walked -/
namespace L2
open PySem PySem.Spec PyProof.Rows
section
variable {X : Cx} {tg : Expr}
theorem cr_range1 : CallR X (.type "range") (fun vs H Q => ∃ j, vs = [V.int j] ∧ ∀ p, H p = none → Q (.ref p) (upd H p (.rng 0 j))) := by
  intro pins s σ H vs us Q I r h
  obtain ⟨j, rfl, q⟩ := h
  obtain ⟨u1, rfl, rj⟩ := vals1 r
  obtain ⟨u, rfl⟩ := rj
  refine call_range_1 ⟨.ref s.heap.objs.size, upd H s.heap.objs.size (.rng 0 j), I.laid (fun b o e => Heap.get?_push_of_some _ e) (Nat.le_refl _) ?_, rfl, q _ (I.hok.fresh (Nat.le_refl _))⟩
  exact ⟨_, _, _, Heap.get?_push_size _ rfl⟩
def iRngV (tl : TE) : TI := fun σ H R => tl σ H fun x H1 => ∃ a lo hi, x = .ref a ∧ H1 a = some (.rng lo hi) ∧ (-(2 ^ 62) ≤ lo ∧ lo < 2 ^ 62 ∧ -(2 ^ 62) ≤ hi ∧ hi < 2 ^ 62) ∧ R (Itr lo (hi - lo).toNat) H1
theorem pi_rngV {l : Expr} {tl : TE} (hl : PE X l tl) : PI X tg l (iRngV tl) := by
  refine ⟨fun pins s σ H R I h => ?_⟩
  refine thn (hl.run pins s σ H _ I h) fun v s1 ⟨x, H1, I1, r1, q1⟩ => ?_
  obtain ⟨a, lo, hi, e, hq, ⟨h1, h2, h3, h4⟩, q⟩ := q1
  subst e
  cases r1
  obtain ⟨t, u, w, ho⟩ := I1.hok a _ hq
  refine wpAny_pyIter_range ho (small_one h1 h2 h3 h4) ?_
  refine ⟨s1.heap.objs.size, [s1.heap.objs.size], _, _, H1, rfl, I1.kept (t' := s1.toks) fun b o e => Heap.get?_push_of_some _ e, turn_range _ lo (hi - lo).toNat, ?_, fun b hb => ?_, q⟩
  · have e1 : lo + ((0 : Nat) : Int) * 1 = lo := by simp
    have e2 : (((hi - lo).toNat : Nat) : Int) - ((0 : Nat) : Int) = Builtin.Range.rangeSize lo hi 1 := by rw [rangeSize_one]; split <;> omega
    show IsRangeIter _ _ (lo + ((0 : Nat) : Int) * 1) ((((hi - lo).toNat : Nat) : Int) - ((0 : Nat) : Int)) 1
    rw [e1, e2]
    exact Heap.get?_push_size _ rfl
  · have e : b = s1.heap.objs.size := by simpa using hb
    subst e
    exact I1.fpOk (Nat.le_refl _) (I1.hok.fresh (Nat.le_refl _))
end
end L2

namespace G
open PySem L2 GM
theorem iteN0 {b : Bool} {A B : Prop} (e : b = false) (h : B) : if b = true then A else B := by
  subst e
  exact iteF h
theorem iteN1 {b : Bool} {A B : Prop} (e : b = true) (h : A) : if b = true then A else B := by
  subst e
  exact iteT h
def tyN : PyData → String
  | .none => "NoneType"
  | .bool _ => "bool"
  | .int _ => "int"
  | .str _ => "str"
  | .list _ => "list"
  | .tuple _ => "tuple"
  | .dict _ => "dict"
def isTup : PyData → Bool
  | .tuple _ => true
  | _ => false
def isLst : PyData → Bool
  | .list _ => true
  | _ => false
def isBl : PyData → Bool
  | .bool _ => true
  | _ => false
def isInt : PyData → Bool
  | .int _ => true
  | _ => false
theorem dz_ty {K : PySem.W.Frag} {H : Hp} {v : V} {d : PyData} (h : Dz H v d) : TyX K H v (.type (tyN d)) := by
  cases h with
  | non => exact .base .non
  | bl b => exact .base (.bl b)
  | int i => exact .base (.int i)
  | str x => exact .base (.str x)
  | lst h q => exact .base (.lst h)
  | tup h q => exact .base (.tup h)
  | emp h => exact .base (.dK h)
theorem kb_tup (d : PyData) : kitB (tyN d) "tuple" = some (isTup d) := by
  cases d with
  | none => exact (by decide +kernel : kitB "NoneType" "tuple" = some false)
  | bool b => exact (by decide +kernel : kitB "bool" "tuple" = some false)
  | int i => exact (by decide +kernel : kitB "int" "tuple" = some false)
  | str x => exact (by decide +kernel : kitB "str" "tuple" = some false)
  | list x => exact (by decide +kernel : kitB "list" "tuple" = some false)
  | tuple x => exact (by decide +kernel : kitB "tuple" "tuple" = some true)
  | dict x => exact (by decide +kernel : kitB "dict" "tuple" = some false)
theorem kb_lst (d : PyData) : kitB (tyN d) "list" = some (isLst d) := by
  cases d with
  | none => exact (by decide +kernel : kitB "NoneType" "list" = some false)
  | bool b => exact (by decide +kernel : kitB "bool" "list" = some false)
  | int i => exact (by decide +kernel : kitB "int" "list" = some false)
  | str x => exact (by decide +kernel : kitB "str" "list" = some false)
  | list x => exact (by decide +kernel : kitB "list" "list" = some true)
  | tuple x => exact (by decide +kernel : kitB "tuple" "list" = some false)
  | dict x => exact (by decide +kernel : kitB "dict" "list" = some false)
theorem kb_bl (d : PyData) : kitB (tyN d) "bool" = some (isBl d) := by
  cases d with
  | none => exact (by decide +kernel : kitB "NoneType" "bool" = some false)
  | bool b => exact (by decide +kernel : kitB "bool" "bool" = some true)
  | int i => exact (by decide +kernel : kitB "int" "bool" = some false)
  | str x => exact (by decide +kernel : kitB "str" "bool" = some false)
  | list x => exact (by decide +kernel : kitB "list" "bool" = some false)
  | tuple x => exact (by decide +kernel : kitB "tuple" "bool" = some false)
  | dict x => exact (by decide +kernel : kitB "dict" "bool" = some false)
theorem kb_int (d : PyData) : kitB (tyN d) "int" = some (isInt d || isBl d) := by
  cases d with
  | none => exact (by decide +kernel : kitB "NoneType" "int" = some false)
  | bool b => exact (by decide +kernel : kitB "bool" "int" = some true)
  | int i => exact (by decide +kernel : kitB "int" "int" = some true)
  | str x => exact (by decide +kernel : kitB "str" "int" = some false)
  | list x => exact (by decide +kernel : kitB "list" "int" = some false)
  | tuple x => exact (by decide +kernel : kitB "tuple" "int" = some false)
  | dict x => exact (by decide +kernel : kitB "dict" "int" = some false)
theorem dz_int {K : PySem.W.Frag} {H : Hp} {v : V} {d : PyData} (h : Dz H v d) : (∃ i, v = .int i ∧ d = .int i) ∨ (NoInt K H v ∧ isInt d = false) := by
  cases h with
  | int i => exact .inl ⟨_, rfl, rfl⟩
  | non => exact .inr ⟨⟨_, _, _, dz_ty .non, kb_int _, kb_bl _, rfl⟩, rfl⟩
  | bl b => exact .inr ⟨⟨_, _, _, dz_ty (.bl b), kb_int _, kb_bl _, rfl⟩, rfl⟩
  | str x => exact .inr ⟨⟨_, _, _, dz_ty (.str x), kb_int _, kb_bl _, rfl⟩, rfl⟩
  | lst h r => exact .inr ⟨⟨_, _, _, dz_ty (.lst h r), kb_int _, kb_bl _, rfl⟩, rfl⟩
  | tup h r => exact .inr ⟨⟨_, _, _, dz_ty (.tup h r), kb_int _, kb_bl _, rfl⟩, rfl⟩
  | emp h => exact .inr ⟨⟨_, _, _, dz_ty (.emp h), kb_int _, kb_bl _, rfl⟩, rfl⟩
theorem DzAll.len {H : Hp} : ∀ {vs : List V} {ds : List PyData}, DzAll H vs ds → vs.length = ds.length
  | _, _, .nil => rfl
  | _, _, .cons _ r => by rw [List.length_cons, List.length_cons, DzAll.len r]
theorem DzAll.at {H : Hp} : ∀ {vs : List V} {ds : List PyData}, DzAll H vs ds → ∀ {i : Nat} {v : V}, vs[i]? = some v → ∃ d, ds[i]? = some d ∧ Dz H v d
  | _, _, .nil, i, v, h => by cases h
  | _, _, .cons h r, 0, v, e => ⟨_, rfl, Option.some.inj e ▸ h⟩
  | _, _, .cons h r, i + 1, v, e => DzAll.at r e

/-- the room that a thing is -/
def roomD (n : Nat) : PyData → Option Nat
  | .int i => if 0 ≤ i ∧ i < (n : Int) then some i.toNat else none
  | _ => none
theorem roomD_some {n : Nat} {d : PyData} {r : Nat} (h : roomD n d = some r) : d = .int (r : Int) ∧ r < n := by
  cases d with
  | int i =>
    have h2 : (if 0 ≤ i ∧ i < (n : Int) then some i.toNat else none) = some r := h
    split at h2
    · rename_i c
      injection h2 with h2
      subst h2
      exact ⟨by rw [Int.toNat_of_nonneg c.1], by omega⟩
    · cases h2
  | _ => cases h
theorem roomD_of {n r : Nat} (h : r < n) : roomD n (.int (r : Int)) = some r := by
  show (if 0 ≤ (r : Int) ∧ (r : Int) < (n : Int) then some (r : Int).toNat else none) = some r
  rw [if_pos ⟨by omega, by omega⟩, Int.toNat_natCast]
/-- two rooms that a thing names -/
def twoD (n : Nat) : PyData → Option Way
  | .tuple [x, y] => match roomD n x, roomD n y with
    | some a, some b => some (a, b)
    | _, _ => none
  | _ => none
theorem twoD_some {n : Nat} {d : PyData} {w : Way} (h : twoD n d = some w) : d = .tuple [.int (w.1 : Int), .int (w.2 : Int)] ∧ w.1 < n ∧ w.2 < n := by
  unfold twoD at h
  split at h
  · split at h
    · rename_i a b ea eb
      injection h with h
      subst h
      obtain ⟨rfl, h1⟩ := roomD_some ea
      obtain ⟨rfl, h2⟩ := roomD_some eb
      exact ⟨rfl, h1, h2⟩
    · cases h
  · cases h
theorem twoD_no {n : Nat} {d : PyData} (h : isTup d = false) : twoD n d = none := by
  cases d with
  | tuple _ => cases h
  | _ => rfl
theorem twoD_len {n : Nat} {ds : List PyData} (h : ds.length ≠ 2) : twoD n (.tuple ds) = none := by
  cases e : twoD n (.tuple ds) with
  | none => rfl
  | some w =>
    obtain ⟨e1, _⟩ := twoD_some e
    injection e1 with e1
    rw [e1] at h
    exact absurd rfl h
theorem twoD_left {n : Nat} {x y : PyData} (h : roomD n x = none) : twoD n (.tuple [x, y]) = none := by
  show (match roomD n x, roomD n y with | some a, some b => some (a, b) | _, _ => none) = none
  rw [h]
theorem twoD_right {n : Nat} {x y : PyData} (h : roomD n y = none) : twoD n (.tuple [x, y]) = none := by
  show (match roomD n x, roomD n y with | some a, some b => some (a, b) | _, _ => none) = none
  rw [h]
  cases roomD n x <;> rfl
theorem twoD_of {n a b : Nat} (ha : a < n) (hb : b < n) : twoD n (.tuple [.int (a : Int), .int (b : Int)]) = some (a, b) := by
  show (match roomD n (.int (a : Int)), roomD n (.int (b : Int)) with | some a, some b => some (a, b) | _, _ => none) = _
  rw [roomD_of ha, roomD_of hb]
/-- the leap that a thing is, where these guards stand -/
def leapD (ws : List Way) (S : List Nat) (d : PyData) : Option Way := match twoD (ws.length + 1) d with
  | some w => if (decide (w.1 ∈ S) && space (nb (rows ws)) S w.1 w.2) = true then some w else none
  | none => none
theorem leapD_none {ws : List Way} {S : List Nat} {d : PyData} (h : twoD (ws.length + 1) d = none) : leapD ws S d = none := by
  unfold leapD
  rw [h]
theorem leapD_two {ws : List Way} {S : List Nat} {a b : Nat} (ha : a < ws.length + 1) (hb : b < ws.length + 1) : (leapD ws S (.tuple [.int (a : Int), .int (b : Int)])).isSome = (decide (a ∈ S) && space (nb (rows ws)) S a b) := by
  unfold leapD
  rw [twoD_of ha hb]
  show (if (decide (a ∈ S) && space (nb (rows ws)) S a b) = true then some (a, b) else none).isSome = _
  cases h : (decide (a ∈ S) && space (nb (rows ws)) S a b) <;> rfl
theorem leapD_some {ws : List Way} {S : List Nat} {d : PyData} {w : Way} (h : leapD ws S d = some w) : d = .tuple [.int (w.1 : Int), .int (w.2 : Int)] ∧ w.1 < ws.length + 1 ∧ w.2 < ws.length + 1 ∧ w.1 ∈ S ∧ space (nb (rows ws)) S w.1 w.2 = true := by
  unfold leapD at h
  split at h
  · rename_i w0 e
    split at h
    · rename_i c
      injection h with h
      subst h
      obtain ⟨h1, h2, h3⟩ := twoD_some e
      rw [Bool.and_eq_true, decide_eq_true_iff] at c
      exact ⟨h1, h2, h3, c.1, c.2⟩
    · cases h
  · cases h
theorem space_same {f : Nat → List Nat} {S G : List Nat} (e : ∀ x, x ∈ G ↔ x ∈ S) (a b : Nat) : space f G a b = space f S a b := by
  unfold space
  have e1 : decide (b ∉ G) = decide (b ∉ S) := decide_eq_decide.mpr (not_congr (e b))
  rw [e1]
  refine congrArg _ (List.all_congr rfl fun x => ?_)
  rw [decide_eq_decide.mpr (e x)]
theorem leapD_same {ws : List Way} {S G : List Nat} (e : ∀ x, x ∈ G ↔ x ∈ S) (d : PyData) : leapD ws G d = leapD ws S d := by
  unfold leapD
  cases twoD (ws.length + 1) d with
  | none => rfl
  | some w =>
    show (if (decide (w.1 ∈ G) && space (nb (rows ws)) G w.1 w.2) = true then some w else none) = if (decide (w.1 ∈ S) && space (nb (rows ws)) S w.1 w.2) = true then some w else none
    rw [space_same e, decide_eq_decide.mpr (e w.1)]
/-- the rooms that a move may lead to -/
def gF (ws : List Way) (far : Bool) (a : Nat) : List Nat := if far = true then List.range (ws.length + 1) else nb (rows ws) a
/-- all moves of these guards -/
def movesL (f g : Nat → List Nat) (S T : List Nat) : List Way := T.flatMap fun a => ((g a).filter fun b => space f S a b).map fun b => (a, b)
abbrev movesF (ws : List Way) (far : Bool) (S : List Nat) : List Way := movesL (nb (rows ws)) (gF ws far) S S
theorem mem_movesL {f g : Nat → List Nat} {S T : List Nat} {w : Way} : w ∈ movesL f g S T ↔ w.1 ∈ T ∧ w.2 ∈ g w.1 ∧ space f S w.1 w.2 = true := by
  unfold movesL
  rw [List.mem_flatMap]
  constructor
  · rintro ⟨a, ha, hm⟩
    obtain ⟨b, hb, rfl⟩ := List.mem_map.mp hm
    obtain ⟨h1, h2⟩ := List.mem_filter.mp hb
    exact ⟨ha, h1, h2⟩
  · rintro ⟨h1, h2, h3⟩
    exact ⟨w.1, h1, List.mem_map.mpr ⟨w.2, List.mem_filter.mpr ⟨h2, h3⟩, rfl⟩⟩
theorem movesL_snoc (f g : Nat → List Nat) (S T : List Nat) (a : Nat) : movesL f g S (T ++ [a]) = movesL f g S T ++ ((g a).filter fun b => space f S a b).map fun b => (a, b) := by
  unfold movesL
  rw [List.flatMap_append]
  simp
theorem movesL_len {f g : Nat → List Nat} {S : List Nat} {n : Nat} (hg : ∀ a, (g a).length ≤ n) : ∀ T : List Nat, (movesL f g S T).length ≤ T.length * n
  | [] => by simp [movesL]
  | a :: T => by
    have ih := movesL_len (f := f) (S := S) hg T
    have h1 := List.length_filter_le (fun b => space f S a b) (g a)
    have h2 := hg a
    show ((((g a).filter fun b => space f S a b).map fun b => (a, b)) ++ movesL f g S T).length ≤ _
    rw [List.length_append, List.length_map, List.length_cons, Nat.succ_mul]
    omega
theorem gF_len (ws : List Way) (hl : ws.length ≤ 59) (far : Bool) (a : Nat) : (gF ws far a).length ≤ 118 := by
  unfold gF
  split
  · rw [List.length_range]
    omega
  · have := nb_len ws a
    omega
theorem gF_lt {ws : List Way} (hw : Ww ws) {far : Bool} {a b : Nat} (h : b ∈ gF ws far a) : b < ws.length + 1 := by
  unfold gF at h
  split at h
  · exact List.mem_range.mp h
  · have := (graph_rows hw).lt _ _ h
    rw [rows_length] at this
    exact this
/-- the move that a thing is, where these guards stand -/
def moveD (ws : List Way) (far : Bool) (S : List Nat) (d : PyData) : Option Way := match leapD ws S d with
  | some w => if far = true ∨ w.2 ∈ nb (rows ws) w.1 then some w else none
  | none => none
theorem moveD_none {ws : List Way} {far : Bool} {S : List Nat} {d : PyData} (h : leapD ws S d = none) : moveD ws far S d = none := by
  unfold moveD
  rw [h]
theorem moveD_true (ws : List Way) (S : List Nat) (d : PyData) : moveD ws true S d = leapD ws S d := by
  unfold moveD
  cases leapD ws S d with
  | none => rfl
  | some w => exact if_pos (.inl rfl)
theorem moveD_some {ws : List Way} {far : Bool} {S : List Nat} {d : PyData} {w : Way} (h : moveD ws far S d = some w) : leapD ws S d = some w ∧ (far = true ∨ w.2 ∈ nb (rows ws) w.1) := by
  unfold moveD at h
  cases e : leapD ws S d with
  | none =>
    rw [e] at h
    cases h
  | some v =>
    rw [e] at h
    dsimp only at h
    split at h
    · rename_i c
      injection h with h
      subst h
      exact ⟨rfl, c⟩
    · cases h
theorem moveD_same {ws : List Way} {far : Bool} {S G : List Nat} (e : ∀ x, x ∈ G ↔ x ∈ S) (d : PyData) : moveD ws far G d = moveD ws far S d := by
  unfold moveD
  rw [leapD_same e]
/-- a thing is a move just where it is one of all -/
theorem moveD_mem {ws : List Way} {far : Bool} {S : List Nat} {a b : Nat} (ha : a < ws.length + 1) (hb : b < ws.length + 1) : moveD ws far S (.tuple [.int (a : Int), .int (b : Int)]) = if (a, b) ∈ movesF ws far S then some (a, b) else none := by
  have e1 : leapD ws S (.tuple [.int (a : Int), .int (b : Int)]) = if (decide (a ∈ S) && space (nb (rows ws)) S a b) = true then some (a, b) else none := by
    unfold leapD
    rw [twoD_of ha hb]
  unfold moveD
  rw [e1]
  by_cases c : (decide (a ∈ S) && space (nb (rows ws)) S a b) = true
  · rw [if_pos c]
    dsimp only
    rw [Bool.and_eq_true, decide_eq_true_iff] at c
    have : ((far = true ∨ b ∈ nb (rows ws) a) ↔ (a, b) ∈ movesF ws far S) := by
      rw [mem_movesL]
      constructor
      · intro h
        refine ⟨c.1, ?_, c.2⟩
        unfold gF
        rcases h with h | h
        · rw [if_pos h]
          exact List.mem_range.mpr hb
        · split
          · exact List.mem_range.mpr hb
          · exact h
      · rintro ⟨_, h, _⟩
        unfold gF at h
        split at h
        · exact .inl ‹_›
        · exact .inr h
    simp only [this]
  · rw [if_neg c]
    dsimp only
    rw [if_neg fun z => c (by
      have := mem_movesL.mp z
      rw [Bool.and_eq_true, decide_eq_true_iff]
      exact ⟨this.1, this.2.2⟩)]
/-- how far a row of things goes, or where it stops -/
def rowG (ws : List Way) (far : Bool) : List Nat → Nat → List PyData → Except Int (List Nat)
  | S, _, [] => .ok S
  | S, i, d :: ds => match moveD ws far S d with
    | none => .error (i : Int)
    | some w => rowG ws far (mv S w.1 w.2) (i + 1) ds
/-- the setting behind what is handed in, or where it is refused -/
def rowH (ws : List Way) (far : Bool) (S : List Nat) : PyData → Except Int (List Nat)
  | .list ds => rowG ws far S 0 ds
  | _ => .error (-1)
theorem rowH_no {ws : List Way} {far : Bool} {S : List Nat} {d : PyData} (h : isLst d = false) : rowH ws far S d = .error (-1) := by
  cases d with
  | list _ => cases h
  | _ => rfl
def spCanMove (C : Addr) (far : Bool) : Sp := fun vs H Q _ => ∃ (p d : Addr) (v : V) (x : PyData) (ws : List Way) (S : List Nat), vs = [.ref p, .ref d, v] ∧ TreeAt C H p ws ∧ ws.length ≤ 59 ∧ DS H d S ∧ Dz H v x ∧ ∀ H', Same H H' → Q (.bl (moveD ws far S x).isSome) H'
def spMoves (C : Addr) (far : Bool) : Sp := fun vs H Q _ => ∃ (p s : Addr) (ws : List Way) (S : List Nat), vs = [.ref p, .ref s] ∧ TreeAt C H p ws ∧ ws.length ≤ 59 ∧ Ww ws ∧ NT H s S ∧ Setting (rows ws) S ∧ ∀ H' q, Same H H' → H q = none → LP (only H H') q (movesF ws far S) → Q (.ref q) H'
theorem dz_pair {H : Hp} {v : V} {a b : Nat} (h : Dz H v (.tuple [.int a, .int b])) : ∃ t, v = .ref t ∧ NT H t [a, b] := by
  cases h with
  | tup h q =>
    cases q with
    | cons h1 q =>
      cases h1
      cases q with
      | cons h2 q =>
        cases h2
        cases q
        exact ⟨_, rfl, h⟩
theorem only_trans {H H2 H5 : Hp} (s : Same H H2) (t : Same H2 H5) : Same (only H2 H5) (only H H5) := fun b o h => by
  unfold only at h
  split at h
  · rename_i hn
    rw [only_new (s.free hn)]
    exact h
  · rename_i xs hx
    rw [← h]
    cases e : H b with
    | none =>
      rw [only_new e]
      exact t _ _ hx
    | some o' =>
      have z := s _ _ e
      rw [hx] at z
      cases z
      exact only_tup e
  · cases h
section
variable {P : Program} {w : World} {K : PySem.W.Frag} {mg : Str → Option Value} {base : Heap} {C : Addr}
theorem scCanLeapD : FnScope ["tree", "guards", "move", "room", "other"] ["tree", "guards", "move"] (defScope s__can_leap) := ⟨rfl, rfl, rfl, by decide +kernel, rfl, by decide +kernel, by decide +kernel⟩
theorem ok_canleapD {f : Addr} {fd : FuncData} (F : Fun K "_can_leap" "_can_leap" s__can_leap f fd) (T : TxS K mg) (L_is_room : Cal P w K mg base "is_room" 3 ["tree", "thing"] (spRoom K C)) (L_has_space : Cal P w K mg base "_has_space" 6 ["tree", "guards", "room", "other"] (spSpace C)) : FnOk P w K mg base CX0 7 f fd ["tree", "guards", "move"] (spCanMove C true) := by
  refine F.ok scCanLeapD (fun vs H Q E h => ?_) (fun cdv A outer s H vs Q E hr h => ?_)
  · obtain ⟨p, d, v, x, ws, S, rfl, _⟩ := h
    rfl
  · obtain ⟨p, d, v, x, ws, S, rfl, TT, hl, hd, hz, q⟩ := h
    simp only [moveD_true] at q
    have hu0 := hu_of hr
    refine ⟨_, (pss_cons (ps_if (PW.pt (pw_or (pt_not (pt_val (pe_callB call_isi (by rfl) T.isi PyProof.Rows.boot_isinstance (pa_cons (pv 2) (pa_cons (pe_bltn (v := .ty "tuple") (by rfl) T.tup PyProof.Rows.boot_tuple rfl) pa_nil))))) (pw_or1 (pt_cmpR op_ne (pe_callB call_len_seq (by rfl) T.len PySem.boot_len (pa_cons (pv 2) pa_nil)) pe_int (nomark _))))) (pss_one (ps_ret pe_bl)) pss_nil)
      (pss_cons (ps_asg (pv 2) (pg_tup rfl (pgs_cons (pg_name (i := 3) scCanLeapD.nd rfl (Or.inl rfl)) (pgs_cons (pg_name (i := 4) scCanLeapD.nd rfl (Or.inl rfl)) pgs_nil))))
      (pss_cons (ps_if (PW.pt (pw_or (pt_not (pt_val (L_is_room.pe (hr.mono (by decide)) rfl (pa_cons (pv 0) (pa_cons (pv 3) pa_nil))))) (pw_or1 (pt_not (pt_val (L_is_room.pe (hr.mono (by decide)) rfl (pa_cons (pv 0) (pa_cons (pv 4) pa_nil)))))))) (pss_one (ps_ret pe_bl)) pss_nil)
      (pss_one (ps_ret (pe_and (pe_cmp (pc_din hu0 (pv 3) (pv 1)) rfl) (pe_one (L_has_space.pe (hr.mono (by decide)) rfl (pa_cons (pv 0) (pa_cons (pv 1) (pa_cons (pv 3) (pa_cons (pv 4) pa_nil)))))))))))), ?_⟩
    have no : (leapD ws S x) = none → ∀ H', Same H H' → Q (.bl false) H' := fun e H' s => by
      have := q H' s
      rw [e] at this
      exact this
    refine ⟨_, rfl, _, _, _, _, _, rfl, .ty _, dz_ty hz, kit_ty (kb_tup x), _, rfl, ?_⟩
    cases hT : isTup x with
    | false => exact iteT (iteT (no (leapD_none (twoD_no hT)) H (.refl _)))
    | true =>
      obtain ⟨t, xs, ds, rfl, rfl, ht, hA⟩ : ∃ t xs ds, v = .ref t ∧ x = .tuple ds ∧ H t = some (.tup xs) ∧ DzAll H xs ds := by
        cases hz with
        | tup h hq => exact ⟨_, _, _, rfl, rfl, h, hq⟩
        | _ => cases hT
      have eL := DzAll.len hA
      refine iteF ⟨_, rfl, t, _, rfl, .inr (SqT.of ht), rfl, _, rfl, ?_⟩
      by_cases h2 : xs.length = 2
      · have e2 : (!decide (V.int ((xs.length : Nat) : Int) = V.int 2)) = false := by
          rw [h2]
          rfl
        refine iteN0 e2 ?_
        match xs, ds, hA, h2, ht, q, no with
        | [y, z], [e, f], .cons hx (.cons hy .nil), _, ht, q, no =>
          refine ⟨_, rfl, t, _, rfl, SqT.of ht, rfl, _, _, rfl, _, _, rfl, rfl, ?_⟩
          refine ⟨_, rfl, _, rfl, p, ws, _, rfl, TT, by omega, ?_⟩
          rcases dz_int (K := K) hx with ⟨i, rfl, rfl⟩ | ⟨ni, nx⟩
          · refine .inl ⟨_, rfl, _, rfl, ?_⟩
            by_cases hi : 0 ≤ i ∧ i < ((ws.length + 1 : Nat) : Int)
            · obtain ⟨a, rfl⟩ : ∃ a : Nat, i = (a : Int) := ⟨i.toNat, by omega⟩
              have ha : a < ws.length + 1 := by omega
              rw [room_dec ha]
              refine iteF ⟨_, rfl, _, rfl, p, ws, _, rfl, TT, by omega, ?_⟩
              rcases dz_int (K := K) hy with ⟨j, rfl, rfl⟩ | ⟨nj, ny⟩
              · refine .inl ⟨_, rfl, _, rfl, ?_⟩
                by_cases hj : 0 ≤ j ∧ j < ((ws.length + 1 : Nat) : Int)
                · obtain ⟨b, rfl⟩ : ∃ b : Nat, j = (b : Int) := ⟨j.toNat, by omega⟩
                  have hb : b < ws.length + 1 := by omega
                  rw [room_dec hb]
                  refine iteF ⟨_, rfl, _, rfl, d, _, rfl, DGet.k (k := Sum.inl (a : Int)) hd, ?_⟩
                  rw [valV_ts]
                  have eT := leapD_two (S := S) ha hb
                  by_cases h : a ∈ S
                  · rw [if_pos h]
                    refine ⟨true, rfl, iteT ⟨_, rfl, _, rfl, _, rfl, _, rfl, p, d, a, b, ws, S, rfl, TT, hl, hb, hd, fun H' s' => ?_⟩⟩
                    have := q H' s'
                    rw [eT, decide_eq_true h, Bool.true_and] at this
                    exact this
                  · rw [if_neg h]
                    refine ⟨false, rfl, iteF ?_⟩
                    have := q H (.refl _)
                    rw [eT, decide_eq_false h, Bool.false_and] at this
                    exact this
                · have e3 : roomD (ws.length + 1) (.int j) = none := if_neg hj
                  have e4 : (decide (0 ≤ j) && decide (j < ((ws.length + 1 : Nat) : Int))) = false := by
                    rw [← Bool.decide_and]
                    exact decide_eq_false hj
                  refine iteN1 (by rw [e4]; rfl) (no (leapD_none (twoD_right e3)) H (.refl _))
              · have e3 : roomD (ws.length + 1) f = none := by
                  cases f with
                  | int i => cases ny
                  | _ => rfl
                exact .inr ⟨nj, _, rfl, iteT (no (leapD_none (twoD_right e3)) H (.refl _))⟩
            · have e3 : roomD (ws.length + 1) (.int i) = none := if_neg hi
              have e4 : (decide (0 ≤ i) && decide (i < ((ws.length + 1 : Nat) : Int))) = false := by
                rw [← Bool.decide_and]
                exact decide_eq_false hi
              refine iteN1 (by rw [e4]; rfl) (no (leapD_none (twoD_left e3)) H (.refl _))
          · have e3 : roomD (ws.length + 1) e = none := by
              cases e with
              | int i => cases nx
              | _ => rfl
            exact .inr ⟨ni, _, rfl, iteT (no (leapD_none (twoD_left e3)) H (.refl _))⟩
      · have e2 : (!decide (V.int ((xs.length : Nat) : Int) = V.int 2)) = true := by
          rw [decide_eq_false (fun z => h2 (by have := V.int.inj z; omega))]
          rfl
        refine iteN1 e2 ?_
        exact no (leapD_none (twoD_len (by omega))) H (.refl _)
theorem scCanLeap8 : FnScope ["tree", "guards", "move", "room", "other"] ["tree", "guards", "move"] (defScope s__can_leap) := ⟨rfl, rfl, rfl, by decide +kernel, rfl, by decide +kernel, by decide +kernel⟩
theorem ok_canleap8 {f : Addr} {fd : FuncData} (F : Fun K "_can_leap" "_can_leap" s__can_leap f fd) (T : TxS K mg) (L_is_room : Cal P w K mg base "is_room" 3 ["tree", "thing"] (spRoom K C)) (L_has_space : Cal P w K mg base "_has_space" 6 ["tree", "guards", "room", "other"] (spSpace C)) : FnOk P w K mg base CX0 8 f fd ["tree", "guards", "move"] (spCanMove C true) := by
  refine F.ok scCanLeap8 (fun vs H Q E h => ?_) (fun cdv A outer s H vs Q E hr h => ?_)
  · obtain ⟨p, d, v, x, ws, S, rfl, _⟩ := h
    rfl
  · obtain ⟨p, d, v, x, ws, S, rfl, TT, hl, hd, hz, q⟩ := h
    simp only [moveD_true] at q
    have hu0 := hu_of hr
    refine ⟨_, (pss_cons (ps_if (PW.pt (pw_or (pt_not (pt_val (pe_callB call_isi (by rfl) T.isi PyProof.Rows.boot_isinstance (pa_cons (pv 2) (pa_cons (pe_bltn (v := .ty "tuple") (by rfl) T.tup PyProof.Rows.boot_tuple rfl) pa_nil))))) (pw_or1 (pt_cmpR op_ne (pe_callB call_len_seq (by rfl) T.len PySem.boot_len (pa_cons (pv 2) pa_nil)) pe_int (nomark _))))) (pss_one (ps_ret pe_bl)) pss_nil)
      (pss_cons (ps_asg (pv 2) (pg_tup rfl (pgs_cons (pg_name (i := 3) scCanLeap8.nd rfl (Or.inl rfl)) (pgs_cons (pg_name (i := 4) scCanLeap8.nd rfl (Or.inl rfl)) pgs_nil))))
      (pss_cons (ps_if (PW.pt (pw_or (pt_not (pt_val (L_is_room.pe (hr.mono (by decide)) rfl (pa_cons (pv 0) (pa_cons (pv 3) pa_nil))))) (pw_or1 (pt_not (pt_val (L_is_room.pe (hr.mono (by decide)) rfl (pa_cons (pv 0) (pa_cons (pv 4) pa_nil)))))))) (pss_one (ps_ret pe_bl)) pss_nil)
      (pss_one (ps_ret (pe_and (pe_cmp (pc_din hu0 (pv 3) (pv 1)) rfl) (pe_one (L_has_space.pe (hr.mono (by decide)) rfl (pa_cons (pv 0) (pa_cons (pv 1) (pa_cons (pv 3) (pa_cons (pv 4) pa_nil)))))))))))), ?_⟩
    have no : (leapD ws S x) = none → ∀ H', Same H H' → Q (.bl false) H' := fun e H' s => by
      have := q H' s
      rw [e] at this
      exact this
    refine ⟨_, rfl, _, _, _, _, _, rfl, .ty _, dz_ty hz, kit_ty (kb_tup x), _, rfl, ?_⟩
    cases hT : isTup x with
    | false => exact iteT (iteT (no (leapD_none (twoD_no hT)) H (.refl _)))
    | true =>
      obtain ⟨t, xs, ds, rfl, rfl, ht, hA⟩ : ∃ t xs ds, v = .ref t ∧ x = .tuple ds ∧ H t = some (.tup xs) ∧ DzAll H xs ds := by
        cases hz with
        | tup h hq => exact ⟨_, _, _, rfl, rfl, h, hq⟩
        | _ => cases hT
      have eL := DzAll.len hA
      refine iteF ⟨_, rfl, t, _, rfl, .inr (SqT.of ht), rfl, _, rfl, ?_⟩
      by_cases h2 : xs.length = 2
      · have e2 : (!decide (V.int ((xs.length : Nat) : Int) = V.int 2)) = false := by
          rw [h2]
          rfl
        refine iteN0 e2 ?_
        match xs, ds, hA, h2, ht, q, no with
        | [y, z], [e, f], .cons hx (.cons hy .nil), _, ht, q, no =>
          refine ⟨_, rfl, t, _, rfl, SqT.of ht, rfl, _, _, rfl, _, _, rfl, rfl, ?_⟩
          refine ⟨_, rfl, _, rfl, p, ws, _, rfl, TT, by omega, ?_⟩
          rcases dz_int (K := K) hx with ⟨i, rfl, rfl⟩ | ⟨ni, nx⟩
          · refine .inl ⟨_, rfl, _, rfl, ?_⟩
            by_cases hi : 0 ≤ i ∧ i < ((ws.length + 1 : Nat) : Int)
            · obtain ⟨a, rfl⟩ : ∃ a : Nat, i = (a : Int) := ⟨i.toNat, by omega⟩
              have ha : a < ws.length + 1 := by omega
              rw [room_dec ha]
              refine iteF ⟨_, rfl, _, rfl, p, ws, _, rfl, TT, by omega, ?_⟩
              rcases dz_int (K := K) hy with ⟨j, rfl, rfl⟩ | ⟨nj, ny⟩
              · refine .inl ⟨_, rfl, _, rfl, ?_⟩
                by_cases hj : 0 ≤ j ∧ j < ((ws.length + 1 : Nat) : Int)
                · obtain ⟨b, rfl⟩ : ∃ b : Nat, j = (b : Int) := ⟨j.toNat, by omega⟩
                  have hb : b < ws.length + 1 := by omega
                  rw [room_dec hb]
                  refine iteF ⟨_, rfl, _, rfl, d, _, rfl, DGet.k (k := Sum.inl (a : Int)) hd, ?_⟩
                  rw [valV_ts]
                  have eT := leapD_two (S := S) ha hb
                  by_cases h : a ∈ S
                  · rw [if_pos h]
                    refine ⟨true, rfl, iteT ⟨_, rfl, _, rfl, _, rfl, _, rfl, p, d, a, b, ws, S, rfl, TT, hl, hb, hd, fun H' s' => ?_⟩⟩
                    have := q H' s'
                    rw [eT, decide_eq_true h, Bool.true_and] at this
                    exact this
                  · rw [if_neg h]
                    refine ⟨false, rfl, iteF ?_⟩
                    have := q H (.refl _)
                    rw [eT, decide_eq_false h, Bool.false_and] at this
                    exact this
                · have e3 : roomD (ws.length + 1) (.int j) = none := if_neg hj
                  have e4 : (decide (0 ≤ j) && decide (j < ((ws.length + 1 : Nat) : Int))) = false := by
                    rw [← Bool.decide_and]
                    exact decide_eq_false hj
                  refine iteN1 (by rw [e4]; rfl) (no (leapD_none (twoD_right e3)) H (.refl _))
              · have e3 : roomD (ws.length + 1) f = none := by
                  cases f with
                  | int i => cases ny
                  | _ => rfl
                exact .inr ⟨nj, _, rfl, iteT (no (leapD_none (twoD_right e3)) H (.refl _))⟩
            · have e3 : roomD (ws.length + 1) (.int i) = none := if_neg hi
              have e4 : (decide (0 ≤ i) && decide (i < ((ws.length + 1 : Nat) : Int))) = false := by
                rw [← Bool.decide_and]
                exact decide_eq_false hi
              refine iteN1 (by rw [e4]; rfl) (no (leapD_none (twoD_left e3)) H (.refl _))
          · have e3 : roomD (ws.length + 1) e = none := by
              cases e with
              | int i => cases nx
              | _ => rfl
            exact .inr ⟨ni, _, rfl, iteT (no (leapD_none (twoD_left e3)) H (.refl _))⟩
      · have e2 : (!decide (V.int ((xs.length : Nat) : Int) = V.int 2)) = true := by
          rw [decide_eq_false (fun z => h2 (by have := V.int.inj z; omega))]
          rfl
        refine iteN1 e2 ?_
        exact no (leapD_none (twoD_len (by omega))) H (.refl _)
theorem scCanSlideD : FnScope ["tree", "guards", "move"] ["tree", "guards", "move"] (defScope s__can_slide) := ⟨rfl, rfl, rfl, by decide +kernel, rfl, by decide +kernel, by decide +kernel⟩
theorem ok_canslideD {f : Addr} {fd : FuncData} (F : Fun K "_can_slide" "_can_slide" s__can_slide f fd) (T : TxS K mg) (L_Tbeside : CalM P w K mg base C "beside" 5 ["self", "room"] (spBeside C)) (L_can_leap : Cal P w K mg base "_can_leap" 7 ["tree", "guards", "move"] (spCanMove C true)) : FnOk P w K mg base CX0 8 f fd ["tree", "guards", "move"] (spCanMove C false) := by
  refine F.ok scCanSlideD (fun vs H Q E h => ?_) (fun cdv A outer s H vs Q E hr h => ?_)
  · obtain ⟨p, d, v, x, ws, S, rfl, _⟩ := h
    rfl
  · obtain ⟨p, d, v, x, ws, S, rfl, TT, hl, hd, hz, q⟩ := h
    refine ⟨_, (pss_one (ps_ret (pe_and (L_can_leap.pe (hr.mono (by decide)) rfl (pa_cons (pv 0) (pa_cons (pv 1) (pa_cons (pv 2) pa_nil)))) (pe_one (pe_cmpR op_in_seq (pe_ix ix_tup (pv 2) pe_int (fun _ _ => rfl)) (L_Tbeside.pe (hr.mono (by decide)) (pv 0) (pa_cons (pe_ix ix_tup (pv 2) pe_int (fun _ _ => rfl)) pa_nil)) rfl))))), ?_⟩
    refine ⟨_, rfl, _, rfl, _, rfl, p, d, v, x, ws, S, rfl, TT, hl, hd, hz, fun H1 s1 => ?_⟩
    rw [moveD_true]
    cases e : leapD ws S x with
    | none =>
      refine ⟨_, rfl, iteF ?_⟩
      have := q H1 s1
      rw [moveD_none e] at this
      exact this
    | some w0 =>
      obtain ⟨a, b⟩ := w0
      obtain ⟨rfl, ha, hb, gS, _⟩ := leapD_some e
      simp only at ha hb gS
      obtain ⟨t, rfl, ht⟩ := dz_pair hz
      have ht1 := ht.same s1
      have TT1 := TT.same s1
      obtain ⟨dx, lw, lr, ip, _⟩ := id TT1
      have i0 : atI ([a, b].map vn) 0 = some (vn a) := rfl
      have i1 : atI ([a, b].map vn) 1 = some (vn b) := rfl
      refine ⟨_, rfl, iteT ⟨_, rfl, t, _, _, _, rfl, rfl, SqT.of ht1, i1, ?_⟩⟩
      refine ⟨_, rfl, p, dx, _, rfl, ip, flds_no _ _ k_be k_be2, _, rfl, t, _, _, _, rfl, rfl, SqT.of ht1, i0, p, ws, a, rfl, TT1, by omega, ha, fun H2 l s2 n2 hl2 => ?_⟩
      refine ⟨l, _, rfl, .inl (SqL.of hl2), rfl, flat_vn _, ?_⟩
      rw [if_neg Bool.false_ne_true, inV_vn]
      have := q H2 (s1.trans s2)
      unfold moveD at this
      rw [e] at this
      dsimp only at this
      by_cases m : b ∈ nb (rows ws) a
      · rw [if_pos (.inr m)] at this
        rw [decide_eq_true m]
        exact this
      · rw [if_neg (fun z => z.elim (fun y => nomatch y) m)] at this
        rw [decide_eq_false m]
        exact this
theorem scSlidesX : FnScope ["tree", "setting"] ["tree", "setting"] (defScope s_slides) := ⟨rfl, rfl, rfl, by decide +kernel, rfl, by decide +kernel, by decide +kernel⟩
theorem ok_slidesX {f : Addr} {fd : FuncData} (F : Fun K "slides" "slides" s_slides f fd) (L_check_setting : Cal P w K mg base "check_setting" 6 ["tree", "setting"] (spChkSet C)) (L_slides_of : Cal P w K mg base "_slides_of" 7 ["tree", "setting"] (spSlidesOf C)) : FnOk P w K mg base CX0 8 f fd ["tree", "setting"] (spMoves C false) := by
  refine F.ok scSlidesX (fun vs H Q E h => ?_) (fun cdv A outer s H vs Q E hr h => ?_)
  · obtain ⟨p, s, ws, S, rfl, _⟩ := h
    rfl
  · obtain ⟨p, s, ws, S, rfl, TT, hl, hw, hs, SS, q⟩ := h
    refine ⟨_, (pss_cons (ps_expr (L_check_setting.pe (hr.mono (by decide)) rfl (pa_cons (pv 0) (pa_cons (pv 1) pa_nil))))
      (pss_one (ps_ret (L_slides_of.pe (hr.mono (by decide)) rfl (pa_cons (pv 0) (pa_cons (pv 1) pa_nil)))))), ?_⟩
    refine ⟨_, rfl, _, rfl, p, s, ws, S, rfl, TT, hl, hs, SS, fun H1 s1 => ?_⟩
    refine ⟨_, rfl, _, rfl, p, s, ws, S, rfl, TT.same s1, hl, hw, hs.same s1, SS, fun H2 r s2 n2 hr2 => ?_⟩
    refine q H2 r (s1.trans s2) (s1.free n2) ?_
    show LP (only H H2) r (slidesL (nb (rows ws)) S S)
    exact hr2.same (only_trans s1 s2)
theorem scLfX : FnScope ["tree", "setting", "guards", "rooms", "room", "other"] ["tree", "setting"] (defScope s_leaps_from) := ⟨rfl, rfl, rfl, by decide +kernel, rfl, by decide +kernel, by decide +kernel⟩
theorem ok_lfX {f : Addr} {fd : FuncData} (F : Fun K "leaps_from" "leaps_from" s_leaps_from f fd) (T : TxS K mg) (LLT : LT P w K mg base C) (L_check_setting : Cal P w K mg base "check_setting" 6 ["tree", "setting"] (spChkSet C)) (L_has_space : Cal P w K mg base "_has_space" 6 ["tree", "guards", "room", "other"] (spSpace C)) : FnOk P w K mg base CX0 8 f fd ["tree", "setting"] (spMoves C true) := by
  refine F.ok scLfX (fun vs H Q E h => ?_) (fun cdv A outer s H vs Q E hr h => ?_)
  · obtain ⟨p, s, ws, S, rfl, _⟩ := h
    rfl
  · obtain ⟨p, s, ws, S, rfl, TT, hl, hw, hs0, St, q⟩ := h
    obtain ⟨L_is_room, L_Tbeside, L_len⟩ := LLT
    have hu0 := hu_of hr
    refine ⟨_, (pss_cons (ps_expr (L_check_setting.pe (hr.mono (by decide)) rfl (pa_cons (pv 0) (pa_cons (pv 1) pa_nil))))
      (pss_cons (ps_set (i := 2) scLfX.nd rfl (Or.inr rfl) (pe_dc (own := [("room", 4)]) (g := gName 4) (tt := tYes) rfl scLfX.nd (pi_tup (pv 1)) (blkOk_by (N := ["tree", "setting", "guards", "rooms", "room", "other"]) (sc := defScope s_leaps_from) (by decide +kernel)) (fun _ _ _ _ _ => pg_name (i := 4) scLfX.nd rfl (Or.inl rfl)) (fun _ _ _ _ _ => pts_nil) (fun _ _ _ _ _ => (pv 4)) (fun _ _ _ _ _ => pe_bl)))
      (pss_cons (ps_set (i := 3) scLfX.nd rfl (Or.inr rfl) (pe_callTy cr_range1 (by rfl) T.rg PyProof.Rows.boot_range (pa_cons (L_len.pe (hr.mono (by decide)) rfl T.len (pa_cons (pv 0) pa_nil)) pa_nil)))
      (pss_one (ps_ret (pe_lc2 (own := [("room", 4), ("other", 5)]) (vs1 := [5]) (g := gName 4) (tt := tYes) (g1 := gName 5) rfl scLfX.nd (pi_tup (pv 1)) (blkOk_by (N := ["tree", "setting", "guards", "rooms", "room", "other"]) (sc := defScope s_leaps_from) (by decide +kernel)) (by decide) (fun _ _ _ _ _ => pg_name (i := 4) scLfX.nd rfl (Or.inl rfl)) (fun _ _ _ _ _ => pts_nil) (fun _ _ _ _ _ => (pi_rngV (pv 3))) (fun _ _ _ _ _ => pg_name (i := 5) scLfX.nd rfl (Or.inl rfl)) (fun _ _ _ _ _ => pts_one (pt_val (L_has_space.pe (hr.mono (by decide)) rfl (pa_cons (pv 0) (pa_cons (pv 2) (pa_cons (pv 4) (pa_cons (pv 5) pa_nil))))))) (fun _ _ _ _ _ => (pe_tup (pa_cons (pv 4) (pa_cons (pv 5) pa_nil)))))))))), ?_⟩
    refine ⟨_, rfl, _, rfl, p, s, ws, S, rfl, TT, hl, hs0, St, fun H1 s1 => ?_⟩
    have hs : NT H1 s S := s1 _ _ hs0
    have TT1 := TT.same s1
    refine ⟨_, rfl, s, rfl, ⟨_, SqT.of hs⟩, fun D nD => ?_⟩
    refine dc_gen (walk_tup (K := K) (a := s) (xs := S.map vn)) S St.nd (fun _ => true) (fun _ v _ => v = .bl true) (fun _ _ _ _ _ h => h) nD (List.length_map _).symm (by rw [List.length_map]; exact small1000 (by have := set_len St hl; omega))
      (fun j Hc x H' _ _ y => ⟨y.1, y.2⟩) (fun Hc s => SqT.of (s _ _ hs)) (fun x Hc R _ _ k => k Hc (.refl _)) (fun x Hc R _ _ _ k => ⟨_, rfl, k⟩) (fun x Hc R _ _ _ k => k _ _ (.refl _) rfl) ?_
    intro H2 kvs s2 hD hf hv
    rw [List.filter_eq_self.mpr (fun _ _ => rfl)] at hf
    have hkv := ts_of hv
    rw [hf] at hkv
    rw [hkv] at hD
    clear hkv hf hv
    have hD2 : DS H2 D S := hD
    have slen := set_len St hl
    have slt := set_lt St
    have TT2 := TT1.same s2
    obtain ⟨dx, lw, lr, ip, _⟩ := id TT2
    refine ⟨_, rfl, p, dx, _, rfl, ip, p, ws, rfl, TT2, by omega, _, rfl, by omega, by omega, _, rfl, fun g ng => ?_⟩
    generalize hB : upd H2 g _ = B
    have s3 : Same H2 B := hB ▸ same_new ng
    have hg : B g = some (.rng 0 ((ws.length + 1 : Nat) : Int)) := hB ▸ upd_same
    clear hB
    have hs3 : NT B s S := (hs.same s2).same s3
    have hD3 := hD2.same s3
    have TT3 := TT2.same s3
    have sa : Same H B := (s1.trans s2).trans s3
    refine ⟨_, rfl, s, rfl, ⟨_, SqT.of hs3⟩, fun E nE => ?_⟩
    refine ⟨fun i m Hc => m = S.length - i ∧ i ≤ S.length ∧ Same B Hc ∧ PL Hc E (movesL (nb (rows ws)) (gF ws true) S (S.take i)), ⟨S.length, by simp, Nat.zero_le _, same_new nE, [], upd_same, (fun b h => nomatch h), rfl, fun i a h => by simp at h⟩, ?_⟩
    rintro i m Hc ⟨rfl, hi, sc, hP⟩
    have len0 := movesL_len (f := nb (rows ws)) (g := gF ws true) (S := S) (n := 118) (gF_len ws hl true) (S.take i)
    have wk := walk_tup (K := K) (a := s) (xs := S.map vn)
    have hsc := SqT.of (K := K) (sc _ _ hs3)
    by_cases hlt : i < S.length
    · refine .inr ⟨wk.goes i Hc (by rw [List.length_map]; exact hlt) hsc, fun H => i + 1 ≤ S.length ∧ Same B H ∧ PL H E (movesL (nb (rows ws)) (gF ws true) S (S.take (i + 1))), fun H' h => ⟨S.length - (i + 1), by omega, rfl, h⟩, fun y H' hy => ?_⟩
      obtain ⟨rfl, hx⟩ := wk.yields i Hc y H' (by rw [List.length_map]; exact hlt) hsc hy
      obtain ⟨a, ha, rfl⟩ := at_map hx
      have et : S.take (i + 1) = S.take i ++ [a] := by
        rw [List.take_add_one, ha]
        rfl
      refine ⟨rfl, ?_⟩
      unfold tYes
      dsimp only
      rw [if_pos rfl]
      refine ⟨_, rfl, g, 0, _, rfl, sc _ _ hg, ⟨by decide, by decide, by omega, by omega⟩, ?_⟩
      have en : (((ws.length + 1 : Nat) : Int) - 0).toNat = ws.length + 1 := by omega
      rw [en]
      refine ⟨fun j k Hd => k = ws.length + 1 - j ∧ j ≤ ws.length + 1 ∧ Same B Hd ∧ PL Hd E (movesL (nb (rows ws)) (gF ws true) S (S.take i) ++ ((List.range j).filter fun b => space (nb (rows ws)) S a b).map fun b => (a, b)), ⟨_, rfl, Nat.zero_le _, sc, by simpa using hP⟩, ?_⟩
      rintro j k Hd ⟨rfl, hj, sd, hPd⟩
      have wk1 := walk_range (lo := 0) (n := ws.length + 1)
      have er : List.range (j + 1) = List.range j ++ [j] := List.range_succ
      by_cases hjl : j < ws.length + 1
      · refine .inr ⟨wk1.goes j Hd hjl True.intro, fun H => j + 1 ≤ ws.length + 1 ∧ Same B H ∧ PL H E (movesL (nb (rows ws)) (gF ws true) S (S.take i) ++ ((List.range (j + 1)).filter fun b => space (nb (rows ws)) S a b).map fun b => (a, b)), fun H' h => ⟨ws.length + 1 - (j + 1), by omega, rfl, h⟩, fun y H' hy => ?_⟩
        obtain ⟨rfl, ey⟩ := wk1.yields j Hd y H' hjl True.intro hy
        have ej : y = vn j := Eq.trans ey (congrArg V.int (Int.zero_add (j : Int)))
        subst ej
        refine ⟨rfl, _, rfl, _, rfl, _, rfl, _, rfl, p, D, a, j, ws, S, rfl, TT3.same sd, hl, hjl, hD3.same sd, fun H5 s5 => ⟨_, rfl, ?_⟩⟩
        have hP5 := hPd.same s5
        cases hsp : space (nb (rows ws)) S a j with
        | false =>
          refine iteF ⟨hjl, sd.trans s5, ?_⟩
          rw [er, List.filter_append, List.filter_cons_of_neg (by rw [hsp]; decide), List.filter_nil, List.append_nil]
          exact hP5
        | true =>
          refine iteT ⟨_, rfl, _, rfl, (by show 2 ≤ sizeLine; decide), fun T nT => ?_⟩
          obtain ⟨acc, e1, e2, e3⟩ := hP5.add (a := a) (b := j) nT
          refine ⟨acc, e1, ?_, hjl, fun c o e => ?_, ?_⟩
          · rw [e2, List.length_append, List.length_map]
            have h1 := List.length_filter_le (fun b => space (nb (rows ws)) S a b) (List.range j)
            rw [List.length_range] at h1
            have h2 : (S.take i).length ≤ S.length := by rw [List.length_take]; omega
            have h3 : (S.take i).length * 118 ≤ 60 * 118 := Nat.mul_le_mul_right _ (by omega)
            exact Nat.lt_of_le_of_lt (by omega : _ ≤ 60 * 118 + 60) (by decide)
          · rw [upd_ne (ne_of_none e nE), upd_ne (ne_of_none (s5 _ _ (sd _ _ e)) nT)]
            exact s5 _ _ (sd _ _ e)
          · rw [er, List.filter_append, List.filter_cons_of_pos hsp, List.filter_nil, List.map_append, ← List.append_assoc]
            exact e3
      · have ejl : j = ws.length + 1 := by omega
        subst ejl
        refine .inl ⟨wk1.stops Hd True.intro, hlt, sd, ?_⟩
        rw [et, movesL_snoc]
        exact hPd
    · have ei : i = S.length := by omega
      subst ei
      rw [List.take_length] at hP
      refine .inl ⟨?_, q Hc _ (sa.trans sc) (sa.free nE) ?_⟩
      · have := wk.stops Hc hsc
        rw [List.length_map] at this
        exact this
      · exact (hP.only sc nE).same (only_trans sa sc)
end
end G

/-! isinstance(e, (A, B, C)) of a caught exception of an own class. -/
namespace L2
open PySem PySem.Spec PyProof.Rows
def rIsXT (K : PySem.W.Frag) (C a : Addr) (cls : Value) (d : Option Addr) : List V → Hp → VK → Prop := fun xs H Q => ∃ (dd : Addr) (fs : List (Str × V)) (tp : Addr) (cs : List V) (us : List Value) (b : Bool), xs = [.ref a, .ref tp] ∧ H tp = some (.tup cs) ∧ Paired ClsV cs us ∧ cls = .ref C ∧ d = some dd ∧ H dd = some (.xd fs) ∧ PySem.W.kitAny K (.ref C) us = some b ∧ Q (.bl b) H
theorem call_isXT {X : Cx} {a C fI : Addr} {oe : Obj} {cls : Value} {d : Option Addr} {pn : List (Addr × Obj)} (T : XvC X.K C fI) (hz : Zc cls d oe) (hf : ∃ vs, oe.data = .fields vs) :
    CallR (X.suite a ((a, oe) :: pn)) (.builtin "isinstance") (rIsXT X.K C a cls d) := by
  intro pins s σ H xs us Q I r h
  obtain ⟨dd, fs, tp, cs, ws, b, rfl, hT, k, rfl, rfl, hdd, e, q⟩ := h
  obtain ⟨u1, u2, rfl, r1, r2⟩ := vals2 r
  obtain rfl : u1 = Value.ref a := r1
  obtain rfl : u2 = Value.ref tp := r2
  have hp := (I.pin (a, oe) (List.mem_append.mpr (.inl List.mem_cons_self))).1
  obtain ⟨lt, its, rv, hi⟩ := I.hok tp (.tup cs) hT
  have ew := ClsV.all k rv
  subst ew
  obtain ⟨hc, hd⟩ := hz
  obtain ⟨vs, hv⟩ := hf
  have z := I.hok dd (.xd fs) hdd
  obtain ⟨od, hod⟩ : ∃ od, s.heap.get? dd = some od := by
    obtain ⟨m, hns, _⟩ := z
    obtain ⟨od, hd2, _⟩ := lookIn_ns hns
    exact ⟨od, hd2⟩
  obtain ⟨⟨c0, d0, da0, s0⟩, g0, rfl, n0, rfl⟩ := hi
  refine PySem.W.kia_tup (PySem.W.kitx_exc T.hcl T.ga T.gg T.ox.exC T.kl T.sp T.tk T.mo) I.kIn (⟨hp, hc, ?_, ?_⟩ : PySem.W.InstAt s.heap a oe C (some od)) g0 e (fun z => nomatch z) fun tk => ⟨.bl b, H, I.tok tk, rfl, q⟩
  · unfold PySem.W.notCls
    rw [hv]
  · rw [hd]
    exact hod
end L2

namespace G
open PySem L2 GM
def spErr (C : Addr) (f : Str) : Sp := fun vs H Q _ => ∃ (a : Addr) (x : V), vs = [.ref a, x] ∧ H a = some (exo a C none) ∧ ∀ d, H d = none → d ≠ a → Q .non (upd (upd H d (exd d [(f, x)])) a (exo a C (some d)))
/-- an own error's class of one field: its facts, its __init__, its name -/
structure LP2 (P : Program) (w : World) (K : PySem.W.Frag) (mg : Str → Option Value) (base : Heap) (C fI : Addr) (dI : FuncData) (nm fl : Str) : Prop where
  xv : XvC K C fI
  no : PySem.W.findIn K (.ref C) fl = some none
  FI : FnOk P w K mg base CX0 1 fI dI ["self", fl] (spErr C fl)
  bI : Binds K dI ["self", fl] []
  g : mg nm = some (.ref C)
/-- a def that may raise, called by its name -/
structure CalX (P : Program) (w : World) (K : PySem.W.Frag) (mg : Str → Option Value) (base : Heap) (x : Str) (k : Nat) (ps : List Str) (sp : Sp) : Prop where
  ex : ∃ f fd, FnOk P w K mg base (L2.CX P w) k f fd ps sp ∧ Binds K fd ps [] ∧ mg x = some (.ref f) ∧ PySem.W.keepIn K (.ref f) = true

/-- a def that a local name holds -/
structure ValF (P : Program) (w : World) (K : PySem.W.Frag) (mg : Str → Option Value) (base : Heap) (f : Addr) (k : Nat) (ps : List Str) (sp : Sp) : Prop where
  ex : ∃ fd, FnOk P w K mg base CX0 k f fd ps sp ∧ PySem.W.keepIn K (.ref f) = true ∧ Binds K fd ps []
theorem ValF.pe {X : Cx} {i : Nat} {f : Addr} {k : Nat} {x : Str} {ps : List Str} {sp : Sp} {e : Expr} {es : List Expr} {t : TA} {p pos : Pos} (L : ValF X.prog X.w X.K X.mg X.base f k ps sp) (hr : Room k X.A) (hN : X.N[i]? = some x) (hv : Vis X.env.scope x) (ha : PA X (e :: es) t)
    (hdb : (x == ("__debug__" : Str)) = false := by decide) (hcd : (x == ("__classdict__" : Str)) = false := by decide)
    (he : starEach (e :: es) X.env = (false, eval e X.env) :: starEach es X.env := by rfl) (hpl : (backTo pos (starEach es X.env)).any (·.1) = false := by rfl) : PE X (.Call (.Name x p) (e :: es) [] pos) (tCallL i f sp [] E0 t) := by
  obtain ⟨fd, F, kp, b⟩ := L.ex
  exact pe_callL F hr hN hv kp b .nil pass0 ha hdb hcd he hpl
theorem mk_err {CS : Addr} {f : Str} {x : V} {H0 H1 : Hp} {E : XK} (s01 : Same H0 H1) (k : ∀ H' d, Same H0 H' → H0 d = none → H' d = some (.xd [(f, x)]) → E (.ref CS) (some d) H') :
    ([x] : List V).length ≤ 1000 ∧ ∀ a, H1 a = none → spErr CS f (.ref a :: ([x] ++ [])) (upd H1 a (exo a CS none)) (fun v H2 => v = .non ∧ ∃ (d : Addr) (fs : List (Str × V)), H2 a = some (exo a CS (some d)) ∧ H2 d = some (exd d fs) ∧ H1 d = none ∧ E (.ref CS) (some d) (upd (del H2 a) d (.xd fs))) (fun _ _ _ => False) := by
  refine ⟨by show 1 ≤ 1000; decide, fun a na => ⟨a, _, rfl, upd_same, fun d nd nda => ⟨rfl, d, [(f, x)], ?_, ?_, ?_, ?_⟩⟩⟩
  · exact upd_same
  · rw [upd_ne nda, upd_same]
  · rw [upd_ne nda] at nd
    exact nd
  · rw [upd_ne nda] at nd
    refine k _ d (fun c o e => ?_) (s01.free nd) upd_same
    have e9 := s01 _ _ e
    have c1 : c ≠ d := ne_of_none e9 nd
    have c2 : c ≠ a := ne_of_none e9 na
    rw [upd_ne c1, del_ne c2, upd_ne c2, upd_ne c1, upd_ne c2]
    exact e9
/-- a def that goes a row of moves -/
def spMovedD (C CS fL : Addr) (far : Bool) : Sp := fun vs H Q E => ∃ (p s : Addr) (v : V) (d : PyData) (ws : List Way) (A : List Nat), vs = [.ref p, .ref s, v, .ref fL] ∧ TreeAt C H p ws ∧ ws.length ≤ 59 ∧ Ww ws ∧ NT H s A ∧ Setting (rows ws) A ∧ Dz H v d ∧
  (∀ B, rowH ws far A d = .ok B → Setting (rows ws) B → ∀ H' q, Same H H' → H q = none → NT H' q B → Q (.ref q) H') ∧ ∀ i, rowH ws far A d = .error i → ∀ H' e, Same H H' → H e = none → H' e = some (.xd [("at", .int i)]) → E (.ref CS) (some e) H'
def spGoneD (C CS : Addr) (far : Bool) : Sp := fun vs H Q E => ∃ (p s : Addr) (v : V) (d : PyData) (ws : List Way) (A : List Nat), vs = [.ref p, .ref s, v] ∧ TreeAt C H p ws ∧ ws.length ≤ 59 ∧ Ww ws ∧ NT H s A ∧ Setting (rows ws) A ∧ Dz H v d ∧
  (∀ B, rowH ws far A d = .ok B → Setting (rows ws) B → ∀ H' q, Same H H' → H q = none → NT H' q B → Q (.ref q) H') ∧ ∀ i, rowH ws far A d = .error i → ∀ H' e, Same H H' → H e = none → H' e = some (.xd [("at", .int i)]) → E (.ref CS) (some e) H'
section
variable {P : Program} {w : World} {K : PySem.W.Frag} {mg : Str → Option Value} {base : Heap} {C CS fI fL : Addr} {dI : FuncData} {far : Bool}
theorem scMovedD : FnScope ["tree", "setting", "moves", "can_move", "guards", "room", "at", "move", "other"] ["tree", "setting", "moves", "can_move"] (defScope s__moved) := ⟨rfl, rfl, rfl, by decide +kernel, rfl, by decide +kernel, by decide +kernel⟩
theorem ok_movedD {f : Addr} {fd : FuncData} (F : Fun K "_moved" "_moved" s__moved f fd) (T : TxS K mg) (L_check_setting : Cal P w K mg base "check_setting" 6 ["tree", "setting"] (spChkSet C)) (VL : ValF P w K mg base fL 8 ["tree", "guards", "move"] (spCanMove C far)) (XP : LP2 P w K mg base CS fI dI "NoSlide" "at") : FnOk P w K mg base (L2.CX P w) 9 f fd ["tree", "setting", "moves", "can_move"] (spMovedD C CS fL far) := by
  refine F.okX scMovedD (fun vs H Q E h => ?_) (fun cdv A outer s H vs Q E hr h => ?_)
  · obtain ⟨p, s, v, d, ws, A, rfl, _⟩ := h
    rfl
  · obtain ⟨p, s, v, dz, ws, A, rfl, TT, hl, hw, hs, SA, hz, kY, kN⟩ := h
    have hu0 := hu_of hr
    refine ⟨_, (pss_cons (ps_expr (L_check_setting.pe (hr.mono (by decide)) rfl (pa_cons (pv 0) (pa_cons (pv 1) pa_nil))))
      (pss_cons (ps_if (pt_not (pt_val (pe_callB call_isi (by rfl) T.isi PyProof.Rows.boot_isinstance (pa_cons (pv 2) (pa_cons (pe_bltn (v := .ty "list") (by rfl) T.list PyProof.Rows.boot_list rfl) pa_nil))))) (pss_one (ps_raise rfl (takes_of rfl rfl rfl rfl) (pmk_oex XP.xv.ox XP.xv.iC XP.xv.tI XP.FI (hr.mono (by decide)) XP.bI .nil pass0 rfl XP.g (pa_cons (pe_un un_neg pe_int) pa_nil)))) pss_nil)
      (pss_cons (ps_setDc (i := 4) (own := [("room", 5)]) (g := gName 5) (tt := tYes) rfl scMovedD.nd rfl rfl (sw_trueD rfl rfl rfl (by decide +kernel)) (pi_tup (pv 1)) (blkOk_by (N := ["tree", "setting", "moves", "can_move", "guards", "room", "at", "move", "other"]) (sc := defScope s__moved) (by decide +kernel)) (fun _ _ _ _ _ => pg_name (i := 5) scMovedD.nd rfl (Or.inl rfl)) (fun _ _ _ _ _ => pts_nil) (fun _ _ _ _ _ => (pv 5)) (fun _ _ _ _ _ => pe_bl))
      (pss_cons (ps_for (passes_of rfl) rfl (pi_enum (by rfl) T.en (pa_cons (pv 2) pa_nil)) (pg_tup rfl (pgs_cons (pg_name (i := 6) scMovedD.nd rfl (Or.inl rfl)) (pgs_cons (pg_name (i := 7) scMovedD.nd rfl (Or.inl rfl)) pgs_nil)))
        (pss_cons (ps_if (pt_not (pt_val (VL.pe (i := 3) (hr.mono (by decide)) rfl (Or.inl rfl) (pa_cons (pv 0) (pa_cons (pv 4) (pa_cons (pv 7) pa_nil)))))) (pss_one (ps_raise rfl (takes_of rfl rfl rfl rfl) (pmk_oex XP.xv.ox XP.xv.iC XP.xv.tI XP.FI (hr.mono (by decide)) XP.bI .nil pass0 rfl XP.g (pa_cons (pv 6) pa_nil)))) pss_nil)
      (pss_cons (ps_asg (pv 7) (pg_tup rfl (pgs_cons (pg_name (i := 5) scMovedD.nd rfl (Or.inl rfl)) (pgs_cons (pg_name (i := 8) scMovedD.nd rfl (Or.inl rfl)) pgs_nil))))
      (pss_cons (ps_ddel (pv 4) (pv 5))
      (pss_one (ps_dput hu0 (pv 4) (pv 8) pe_bl rfl))))))
      (pss_one (ps_ret (pe_callTy call_tuple_of (by rfl) T.tup PyProof.Rows.boot_tuple (pa_cons (pe_callB (call_sortedDI rfl) (by rfl) T.srt PyProof.Rows.boot_sorted (pa_cons (pv 4) pa_nil)) pa_nil)))))))), ?_⟩
    have Gr := graph_rows hw
    have lA := set_len SA hl
    have raise : ∀ {i : Int} (hi : rowH ws far A dz = .error i) {Hx : Hp} (sx : Same H Hx), ([V.int i] : List V).length ≤ 1000 ∧ ∀ a, Hx a = none → spErr CS "at" (.ref a :: ([V.int i] ++ [])) (upd Hx a (exo a CS none)) (fun v H2 => v = .non ∧ ∃ (d : Addr) (fs : List (Str × V)), H2 a = some (exo a CS (some d)) ∧ H2 d = some (exd d fs) ∧ Hx d = none ∧ E (.ref CS) (some d) (upd (del H2 a) d (.xd fs))) (fun _ _ _ => False) :=
      fun hi Hx sx => mk_err sx fun H' e sH he hd => kN _ hi H' e sH he hd
    refine ⟨_, rfl, _, rfl, p, s, ws, A, rfl, TT, hl, hs, SA, fun H1 s1 => ?_⟩
    refine ⟨_, rfl, _, _, _, _, _, rfl, .ty _, dz_ty (hz.same s1), kit_ty (kb_lst dz), _, rfl, ?_⟩
    cases hT : isLst dz with
    | false =>
      refine iteT ?_
      exact ⟨1, rfl, raise (rowH_no hT) s1⟩
    | true =>
    obtain ⟨l, xs, ds, rfl, rfl, hla, hA⟩ : ∃ s xs ds, v = .ref s ∧ dz = .list ds ∧ H s = some (.lst xs) ∧ DzAll H xs ds := by
      cases hz with
      | lst h8 h9 => exact ⟨_, _, _, rfl, rfl, h8, h9⟩
      | _ => cases hT
    have exl := DzAll.len hA
    refine iteF ?_
    have hs1 := hs.same s1
    refine ⟨_, rfl, s, rfl, ⟨_, SqT.of hs1⟩, fun d nd => ?_⟩
    refine dc_gen (walk_tup (K := K) (a := s) (xs := A.map vn)) A SA.nd (fun _ => true) (fun _ v _ => v = .bl true) (fun _ _ _ _ _ h => h) nd (by rw [List.length_map]) (by rw [List.length_map]; exact small1000 (by omega))
      (fun j Hc x H' _ _ y => ⟨y.1, y.2⟩) (fun Hc s => SqT.of (s _ _ hs1)) (fun x Hc R _ _ k => k Hc (.refl _)) (fun x Hc R _ _ _ k => ⟨_, rfl, k⟩) (fun x Hc R _ _ _ k => k _ Hc (.refl _) rfl) ?_
    intro H2 kvs s2 hd2 hf2 hv2
    have hd : DS H2 d A := by
      unfold DS
      rw [hd2, kv_of (g := fun _ => V.bl true) hv2, hf2, List.filter_eq_self.mpr (fun _ _ => rfl)]
      rfl
    clear hd2 hf2 hv2
    have s12 := s1.trans s2
    have ndH : H d = none := s1.free nd
    refine ⟨_, rfl, l, _, rfl, SqL.of (s12 _ _ hla), ?_⟩
    refine for_it (walk_enum (xs := xs)) (fun i σ Hc => ∃ (v5 v6 v7 v8 : Option V) (G S : List Nat), σ = [some (.ref p), some (.ref s), some (.ref l), some (.ref fL), some (.ref d), v5, v6, v7, v8] ∧ Same H Hc ∧ DS Hc d G ∧ G.Nodup ∧ Setting (rows ws) S ∧ (∀ x, x ∈ G ↔ x ∈ S) ∧ rowG ws far A 0 ds = rowG ws far S i (ds.drop i))
      ⟨_, _, _, _, A, A, rfl, s12, hd, SA.nd, SA, fun x => Iff.rfl, rfl⟩ (fun i σ Hc _ ⟨_, _, _, _, _, _, _, sc, _⟩ => SqL.of (sc _ _ hla)) ?_ ?_
    · rintro i y σ Hc Hc' hi ⟨v5, v6, v7, v8, G, S, rfl, sc, hdc, ndG, SS, GS, er⟩ ⟨T0, y1, y2, rfl, nT, rfl, ey1, ey2⟩
      obtain rfl : y1 = V.int (i : Nat) := (Option.some.inj ey1).symm
      obtain ⟨dd, hdj, hzj⟩ := DzAll.at hA ey2
      have ed : ds.drop i = dd :: ds.drop (i + 1) := by
        rw [List.drop_eq_getElem_cons (List.getElem?_eq_some_iff.mp hdj).1, (List.getElem?_eq_some_iff.mp hdj).2]
      rw [ed, rowG] at er
      refine ⟨T0, _, rfl, SqT.of upd_same, rfl, _, _, rfl, _, _, rfl, rfl, ?_⟩
      generalize hB2 : upd _ T0 _ = B2
      have s5 : Same Hc B2 := hB2 ▸ same_new nT
      clear hB2
      have sd := sc.trans s5
      have hd5 := hdc.same s5
      refine ⟨rfl, _, rfl, _, rfl, _, rfl, p, d, y2, dd, ws, G, rfl, TT.same sd, hl, hd5, hzj.same sd, fun H6 s6 => ⟨_, rfl, ?_⟩⟩
      have s06 := sd.trans s6
      rw [moveD_same GS]
      cases hD : moveD ws far S dd with
      | none =>
        rw [hD] at er
        refine iteT ?_
        exact ⟨_, rfl, raise er s06⟩
      | some w0 =>
      rw [hD] at er
      obtain ⟨g, e⟩ := w0
      obtain ⟨rfl, glt, elt, gS, esp⟩ := leapD_some (moveD_some hD).1
      simp only at glt elt gS esp er
      obtain ⟨t, rfl, ht⟩ := dz_pair hzj
      have ht5 : NT B2 t [g, e] := sd _ _ ht
      unfold space at esp
      rw [Bool.and_eq_true, decide_eq_true_iff, List.all_eq_true] at esp
      obtain ⟨eS, bar0⟩ := esp
      have bar : ∀ x ∈ nb (rows ws) e, x ∈ S → x = g := fun x hx hS => by
        have := bar0 x hx
        rw [decide_eq_true hS, Bool.true_and] at this
        simpa using this
      have gG := (GS g).mpr gS
      have eG : e ∉ G := fun z => eS ((GS e).mp z)
      have lG : G.length ≤ 60 := by
        have := up_len ((srt_pw G).imp₂ (fun x y h k => Nat.lt_of_le_of_ne h k) ((srt_perm G).nodup_iff.mpr ndG)) (n := ws.length + 1) (fun x hx => set_lt SS x ((GS x).mp (mem_srt.mp hx)))
        rw [(srt_perm G).length_eq] at this
        omega
      refine iteF ⟨_, rfl, t, _, rfl, SqT.of (ht5.same s6), rfl, _, _, rfl, _, _, rfl, rfl, ?_⟩
      have hd6 := hd5.same s6
      refine ⟨_, rfl, _, rfl, d, _, Sum.inl (g : Int), rfl, hd6, rfl, (by rw [valV_ts, if_pos gG]; rfl), ?_⟩
      rw [dropK_ts]
      generalize hB7 : upd _ d _ = B7
      have hd7 : DS B7 d (G.filter fun x => decide (x ≠ g)) := hB7 ▸ upd_same
      have s07 : Same H B7 := fun c o h => by
        rw [← hB7, upd_ne (ne_of_none h ndH)]
        exact s06 _ _ h
      clear hB7
      have fl := List.length_filter_le (fun x => decide (x ≠ g)) G
      refine ⟨_, rfl, _, rfl, d, _, rfl, DPut.k (k := Sum.inl (e : Int)) hd7 (by rw [dk_length]; unfold ts; rw [List.length_map]; exact small1000 (by omega)), ?_⟩
      have eF : e ∉ G.filter fun x => decide (x ≠ g) := fun z => eG (List.mem_filter.mp z).1
      rw [putK_ts, if_neg eF]
      refine ⟨_, _, _, _, (G.filter fun x => decide (x ≠ g)) ++ [e], mv S g e, rfl, fun c o h => ?_, upd_same, ?_, leap_set Gr SS gS (by rw [rows_length]; exact elt) eS bar, fun x => ?_, er⟩
      · rw [upd_ne (ne_of_none h ndH)]
        exact s07 _ _ h
      · exact List.nodup_append.mpr ⟨ndG.filter _, by simp, fun x hx y hy z => eF (by rw [List.mem_singleton.mp hy] at z; exact z ▸ hx)⟩
      · rw [mem_mv, List.mem_append, List.mem_singleton, List.mem_filter, decide_eq_true_iff, GS x]
        exact Or.comm
    · rintro σ Hc ⟨v5, v6, v7, v8, G, S, rfl, sc, hdc, ndG, SS, GS, er⟩
      rw [exl, List.drop_length, rowG] at er
      have eG : srt G = S := pw_perm_eq ((srt_perm G).trans ((List.perm_ext_iff_of_nodup ndG SS.nd).mpr GS)) (srt_pw G) (SS.up.imp fun h => Nat.le_of_lt h)
      have lG : G.length ≤ 60 := by
        rw [← (srt_perm G).length_eq, eG]
        exact set_len SS hl
      refine ⟨_, rfl, d, dk (ts G), G.map fun (n : Nat) => (n : Int), rfl, .inl hdc, ?_, by rw [List.length_map]; omega, fun ys p1 pm ri np => ?_⟩
      · unfold dk ts
        rw [List.map_map, List.map_map, List.map_map]
        rfl
      rw [srt_ints pm ri, eG]
      generalize hG4 : upd _ p1 _ = G4
      have s4 : Same Hc G4 := hG4 ▸ same_new np
      have hp1 : NL G4 p1 S := hG4 ▸ upd_same
      clear hG4
      refine ⟨p1, _, rfl, .inl ⟨SqL.of hp1, fun q nq => ?_⟩⟩
      exact kY _ er SS _ q (sc.trans (s4.trans (same_new nq))) ((sc.trans s4).free nq) upd_same
theorem scLeaptX : FnScope ["tree", "setting", "moves"] ["tree", "setting", "moves"] (defScope s_leapt) := ⟨rfl, rfl, rfl, by decide +kernel, rfl, by decide +kernel, by decide +kernel⟩
theorem ok_leaptX {f : Addr} {fd : FuncData} (F : Fun K "leapt" "leapt" s_leapt f fd) (LM : CalX P w K mg base "_moved" 9 ["tree", "setting", "moves", "can_move"] (spMovedD C CS fL true)) (gL : mg "_can_leap" = some (.ref fL)) : FnOk P w K mg base (L2.CX P w) 10 f fd ["tree", "setting", "moves"] (spGoneD C CS true) := by
  refine F.okX scLeaptX (fun vs H Q E h => ?_) (fun cdv A outer s H vs Q E hr h => ?_)
  · obtain ⟨p, s, v, d, ws, A, rfl, _⟩ := h
    rfl
  · obtain ⟨p, s, v, d, ws, A, rfl, TT, hl, hw, hs, SA, hz, kY, kN⟩ := h
    obtain ⟨fM, dM, FM, bM, gM, kM⟩ := LM.ex
    refine ⟨_, (pss_one (ps_ret (pe_callS FM (hr.mono (by decide)) rfl gM kM bM (fun σ => passAt (takes_of rfl rfl rfl rfl) σ) (pa_cons (pv 0) (pa_cons (pv 1) (pa_cons (pv 2) (pa_cons (pe_glob (v := .ref fL) rfl gL rfl) pa_nil))))))), ?_⟩
    exact ⟨_, rfl, _, rfl, _, rfl, p, s, v, d, ws, A, rfl, TT, hl, hw, hs, SA, hz, kY, kN⟩
theorem scSlidX : FnScope ["tree", "setting", "moves"] ["tree", "setting", "moves"] (defScope s_slid) := ⟨rfl, rfl, rfl, by decide +kernel, rfl, by decide +kernel, by decide +kernel⟩
theorem ok_slidX {f : Addr} {fd : FuncData} (F : Fun K "slid" "slid" s_slid f fd) (LM : CalX P w K mg base "_moved" 9 ["tree", "setting", "moves", "can_move"] (spMovedD C CS fL false)) (gL : mg "_can_slide" = some (.ref fL)) : FnOk P w K mg base (L2.CX P w) 10 f fd ["tree", "setting", "moves"] (spGoneD C CS false) := by
  refine F.okX scSlidX (fun vs H Q E h => ?_) (fun cdv A outer s H vs Q E hr h => ?_)
  · obtain ⟨p, s, v, d, ws, A, rfl, _⟩ := h
    rfl
  · obtain ⟨p, s, v, d, ws, A, rfl, TT, hl, hw, hs, SA, hz, kY, kN⟩ := h
    obtain ⟨fM, dM, FM, bM, gM, kM⟩ := LM.ex
    refine ⟨_, (pss_one (ps_ret (pe_callS FM (hr.mono (by decide)) rfl gM kM bM (fun σ => passAt (takes_of rfl rfl rfl rfl) σ) (pa_cons (pv 0) (pa_cons (pv 1) (pa_cons (pv 2) (pa_cons (pe_glob (v := .ref fL) rfl gL rfl) pa_nil))))))), ?_⟩
    exact ⟨_, rfl, _, rfl, _, rfl, p, s, v, d, ws, A, rfl, TT, hl, hw, hs, SA, hz, kY, kN⟩
end
end G

namespace G
open PySem L2 GM
def Apart (f : Nat → List Nat) (S : List Nat) : Prop := ∀ x ∈ S, ∀ y ∈ S, y ∉ f x
theorem space_bar {f : Nat → List Nat} {S : List Nat} {g e : Nat} : space f S g e = true ↔ e ∉ S ∧ ∀ x ∈ f e, x ∈ S → x = g := by
  unfold space
  rw [Bool.and_eq_true, decide_eq_true_iff, List.all_eq_true]
  refine and_congr Iff.rfl ⟨fun h x hx hS => ?_, fun h x hx => ?_⟩
  · have := h x hx
    rw [decide_eq_true hS, Bool.true_and] at this
    simpa using this
  · by_cases hS : x ∈ S
    · have := h x hx hS
      simp [this]
    · simp [hS]
def spApartR : Sp := fun vs H Q _ => ∃ (q s : Addr) (ws : List Way) (S : List Nat), vs = [.ref q, .ref s] ∧ LL H q (rows ws) ∧ Ww ws ∧ ws.length ≤ 59 ∧ NL H s S ∧ (∀ x ∈ S, x < ws.length + 1) ∧ S.length ≤ 61 ∧
  ∀ H' b, Same H H' → (b = true ↔ Apart (nb (rows ws)) S) → Q (.bl b) H'
/-- a guard of a to b, by the law's look -/
theorem rest_space {ws : List Way} (hw : Ww ws) {S : List Nat} (SS : Setting (rows ws) S) {a b : Nat} (bS : b ∉ S) : Apart (nb (rows ws)) (S.filter (fun x => decide (x ≠ a)) ++ [b]) ↔ space (nb (rows ws)) S a b = true := by
  have Gr := graph_rows hw
  rw [space_bar]
  constructor
  · intro h
    refine ⟨bS, fun x hx hS => ?_⟩
    apply Classical.byContradiction
    intro ne
    exact h b (List.mem_append_right _ (List.mem_singleton_self _)) x (List.mem_append_left _ (List.mem_filter.mpr ⟨hS, decide_eq_true ne⟩)) hx
  · rintro ⟨_, h⟩ x hx y hy e
    rcases List.mem_append.mp hx with hx | hx
    · obtain ⟨x1, x2⟩ := List.mem_filter.mp hx
      rcases List.mem_append.mp hy with hy | hy
      · exact SS.apart x x1 y (List.mem_filter.mp hy).1 e
      · rw [List.mem_singleton.mp hy] at e
        exact of_decide_eq_true x2 (h x (Gr.sym _ _ e) x1)
    · rw [List.mem_singleton.mp hx] at e
      rcases List.mem_append.mp hy with hy | hy
      · obtain ⟨y1, y2⟩ := List.mem_filter.mp hy
        exact of_decide_eq_true y2 (h y e y1)
      · rw [List.mem_singleton.mp hy] at e
        exact Gr.irr _ e
def spLMoves : Sp := fun vs H Q _ => ∃ (q s : Addr) (ws : List Way) (S : List Nat) (far : Bool), vs = [.ref q, .ref s, .bl far] ∧ LL H q (rows ws) ∧ Ww ws ∧ ws.length ≤ 59 ∧ NT H s S ∧ Setting (rows ws) S ∧
  ∀ H' r, Same H H' → H r = none → LP H' r (movesF ws far S) → Q (.ref r) H'
section
variable {P : Program} {w : World} {K : PySem.W.Frag} {mg : Str → Option Value} {base : Heap}
theorem scApartR : FnScope ["near", "rooms", "room", "one"] ["near", "rooms"] (defScope s__law_apart) := ⟨rfl, rfl, rfl, by decide +kernel, rfl, by decide +kernel, by decide +kernel⟩
theorem ok_apartR {f : Addr} {fd : FuncData} (F : Fun K "_law_apart" "_law_apart" s__law_apart f fd)  : FnOk P w K mg base CX0 1 f fd ["near", "rooms"] spApartR := by
  refine F.ok scApartR (fun vs H Q E h => ?_) (fun cdv A outer s H vs Q E hr h => ?_)
  · obtain ⟨q, s, ws, S, rfl, _⟩ := h
    rfl
  · obtain ⟨q, s, ws, S, rfl, hq, hw, hl, hs, lt, sl, k⟩ := h
    have hu := hr.units
    refine ⟨_, (pss_one (ps_ret (pe_cmpR (op_eqD hu) (pe_lc (own := [("room", 2)]) (g := gName 2) rfl scApartR.nd (pi_list (pv 1)) (blkOk_by (N := ["near", "rooms", "room", "one"]) (sc := defScope s__law_apart) (by decide +kernel)) (fun _ _ _ _ _ => pg_name (i := 2) scApartR.nd rfl (Or.inl rfl)) (fun _ _ _ _ _ => pts_one (pt_cmpR (r := rNeD K) (op_neD hu) (pe_lc (own := [("one", 3)]) (g := gName 3) rfl scApartR.nd (pi_listK (K := K) rfl (pe_ix (r := rIxL K) ix_list (pv 0) (pv 2) (fun _ _ => rfl))) (blkOk_rel (N := ["near", "rooms", "room", "one"]) (outer := _) (by decide +kernel)) (fun _ _ _ _ _ => pg_name (i := 3) scApartR.nd rfl (Or.inl rfl)) (fun _ _ _ _ _ => pts_one (pt_cmpR (r := rIn K false) op_in_seq (pv 3) (pv 1) rfl)) (fun _ _ _ _ _ => (pv 3))) (pe_lst pa_nil) (nomark _))) (fun _ _ _ _ _ => (pv 2))) (pe_lst pa_nil) (nomark _)))), ?_⟩
    have Gr := graph_rows hw
    refine ⟨_, rfl, s, rfl, ⟨_, SqL.of hs⟩, fun D2 nD2 => ?_⟩
    refine lc_gen (walk_list (K := K) (a := s) (xs := S.map vn)) (S.map vn) (fun v => match v with | .int z => decide (((nb (rows ws) z.toNat).filter fun x => decide (x ∈ S)) ≠ []) | _ => false) (fun v => v) nD2 rfl (by rw [List.length_map]; exact small1000 (by omega))
      (fun j Hc x H' _ _ y => ⟨y.1, y.2⟩) (fun Hc s => SqL.of (s _ _ hs)) ?_ (fun v Hc R hv _ _ k => ⟨_, rfl, k Hc (.refl _)⟩) ?_
    · intro v Hc R hv s2 kR
      obtain ⟨r, hrm, rfl⟩ := List.mem_map.mp hv
      have kR' : ∀ H3, Same Hc H3 → R (decide (((nb (rows ws) r).filter fun x => decide (x ∈ S)) ≠ [])) H3 := kR
      obtain ⟨qas, lb, g1, g2, g3⟩ := (hq.same s2).at (r := r) (by rw [rows_length]; exact lt r hrm)
      refine ⟨_, rfl, _, rfl, q, _, _, _, rfl, rfl, SqL.of g1, g2, lb, rfl, ⟨_, SqL.of g3⟩, fun D3 nD3 => ?_⟩
      refine lc_gen (walk_list (K := K) (a := lb) (xs := (nb (rows ws) r).map vn)) ((nb (rows ws) r).map vn) (fun v => match v with | .int z => decide (z.toNat ∈ S) | _ => false) (fun v => v) nD3 rfl (by rw [List.length_map]; exact small1000 (by have := nb_len ws r; omega))
        (fun j Hc x H' _ _ y => ⟨y.1, y.2⟩) (fun Hc s => SqL.of (s _ _ g3)) ?_ (fun v Hc R hv _ _ k => ⟨_, rfl, k Hc (.refl _)⟩) ?_
      · intro v Hc2 R2 hv2 s5 k2
        obtain ⟨y, _, rfl⟩ := List.mem_map.mp hv2
        have kk' : R2 (decide (y ∈ S)) Hc2 := k2 Hc2 (.refl _)
        refine ⟨_, rfl, _, rfl, s, _, rfl, .inl (SqL.of (s5 _ _ (s2 _ _ hs))), rfl, flat_vn S, _, rfl, ?_⟩
        rw [inV_vn]
        exact kk'
      · intro H5 s5 hD5
        have e5 : NL H5 D3 ((nb (rows ws) r).filter fun x => decide (x ∈ S)) := by
          unfold NL
          rw [hD5, List.map_id', List.filter_map]
          rfl
        refine ⟨(by show 0 ≤ sizeLine; decide), fun e0 ne0 => ?_⟩
        have se := same_new (o := HO.lst []) ne0
        refine ne_nl (se _ _ e5) (show NL _ e0 [] from upd_same) ⟨_, rfl, ?_⟩
        exact kR' _ (s5.trans se)
    · intro H5 s5 hD5
      have e5 : NL H5 D2 (S.filter fun r => decide (((nb (rows ws) r).filter fun x => decide (x ∈ S)) ≠ [])) := by
        unfold NL
        rw [hD5, List.map_id', List.filter_map]
        rfl
      refine ⟨(by show 0 ≤ sizeLine; decide), fun e0 ne0 => ?_⟩
      have se := same_new (o := HO.lst []) ne0
      refine eq_nl (se _ _ e5) (show NL _ e0 [] from upd_same) (k _ _ (s5.trans se) ?_)
      rw [decide_eq_true_iff, List.filter_eq_nil_iff]
      constructor
      · intro h x hx y hy m
        refine h x hx (decide_eq_true fun z => ?_)
        rw [List.filter_eq_nil_iff] at z
        exact z y (m) (decide_eq_true hy)
      · intro h x hx z
        refine of_decide_eq_true z (List.filter_eq_nil_iff.mpr fun y hy e => ?_)
        exact h x hx y (of_decide_eq_true e) (hy)
theorem scLMoves : FnScope ["near", "setting", "far", "found", "room", "rest", "other", "one"] ["near", "setting", "far"] (defScope s__law_moves) := ⟨rfl, rfl, rfl, by decide +kernel, rfl, by decide +kernel, by decide +kernel⟩
theorem ok_lmoves {f : Addr} {fd : FuncData} (F : Fun K "_law_moves" "_law_moves" s__law_moves f fd) (T : TxL K mg) (L_law_apart : Cal P w K mg base "_law_apart" 1 ["near", "rooms"] spApartR) : FnOk P w K mg base CX0 2 f fd ["near", "setting", "far"] spLMoves := by
  refine F.ok scLMoves (fun vs H Q E h => ?_) (fun cdv A outer s H vs Q E hr h => ?_)
  · obtain ⟨q, s, ws, S, far, rfl, _⟩ := h
    rfl
  · obtain ⟨q, s, ws, S, far, rfl, hq, hw, hl, hs, SS, k⟩ := h
    have hu := hr.units
    refine ⟨_, (pss_cons (ps_set (i := 3) scLMoves.nd rfl (Or.inl rfl) (pe_lst pa_nil))
      (pss_cons (ps_for PassesOwn.never rfl (pi_tup (pv 1)) (pg_name (i := 4) scLMoves.nd rfl (Or.inr rfl))
        (pss_cons (ps_setLc (i := 5) (own := [("one", 7)]) (g := gName 7) rfl scLMoves.nd rfl rfl (sw_true rfl rfl rfl (by decide +kernel)) (pi_tup (pv 1)) (blkOk_by (N := ["near", "setting", "far", "found", "room", "rest", "other", "one"]) (sc := defScope s__law_moves) (by decide +kernel)) (fun _ _ _ _ _ => pg_name (i := 7) scLMoves.nd rfl (Or.inl rfl)) (fun _ _ _ _ _ => pts_one (pt_cmpR op_ne (pv 7) (pv 4) (nomark _))) (fun _ _ _ _ _ => (pv 7)))
      (pss_one (ps_for PassesOwn.never rfl (pi_list (pe_ix ix_list (pe_lst (pa_cons (pe_ix ix_list (pv 0) (pv 4) (fun _ _ => rfl)) (pa_cons (pe_listRg rfl rfl T.list (prg_1 rfl T.rg (pe_callB call_len_seq (by rfl) T.len PySem.boot_len (pa_cons (pv 0) pa_nil)))) pa_nil))) (pe_callTy call_int1 (by rfl) T.int PyProof.Rows.boot_int (pa_cons (pv 2) pa_nil)) (fun _ _ => rfl))) (pg_name (i := 6) scLMoves.nd rfl (Or.inl rfl))
        (pss_one (ps_if (PW.pt (pw_and (pt_cmpR op_ne (pv 6) (pv 4) (nomark _)) (pw_and (pt_cmpR op_notIn_seq (pv 6) (pv 5) rfl) (pw_and1 (pt_val (L_law_apart.pe (hr.mono (by decide)) rfl (pa_cons (pv 0) (pa_cons (pe_op op_catR (pv 5) (pe_lst (pa_cons (pv 6) pa_nil))) pa_nil)))))))) (pss_one (ps_expr (pe_bm PySem.F.plainAttrs_list PySem.F.slot_list_append PySem.F.type_list_append mt_append (pv 3) (pa_cons (pe_tup (pa_cons (pv 4) (pa_cons (pv 6) pa_nil))) pa_nil)))) pss_nil))))))
      (pss_one (ps_ret (pv 3))))), ?_⟩
    have lS := set_len SS hl
    have ltS := set_lt SS
    refine ⟨(by show 0 ≤ sizeLine; decide), fun E nE => ?_⟩
    generalize hB1 : upd _ E _ = B1
    have s1 : Same H B1 := hB1 ▸ same_new nE
    have hE1 : PL B1 E [] := ⟨[], hB1 ▸ upd_same, (fun b h => nomatch h), rfl, fun i a h => by simp at h⟩
    clear hB1
    refine ⟨_, rfl, s, rfl, ⟨_, SqT.of (s1 _ _ hs)⟩, for_tup (K := K) (a := s) (xs := S.map vn) (fun i σ Hc => ∃ v4 v5 v6, σ = [some (.ref q), some (.ref s), some (.bl far), some (.ref E), v4, v5, v6, none] ∧ Same H Hc ∧ PL Hc E (movesL (nb (rows ws)) (gF ws far) S (S.take i)))
      ⟨none, none, none, rfl, s1, hE1⟩ (fun i σ Hc _ ⟨_, _, _, _, sc, _⟩ => SqT.of (sc _ _ hs)) ?_ ?_⟩
    · rintro i y σ Hc hi ⟨v4, v5, v6, rfl, sc, hP⟩
      obtain ⟨a, ha, rfl⟩ := at_map hi
      have haS : a ∈ S := List.mem_of_getElem? ha
      have et : S.take (i + 1) = S.take i ++ [a] := by
        rw [List.take_add_one, ha]
        rfl
      -- rest
      refine ⟨_, rfl, s, rfl, ⟨_, SqT.of (sc _ _ hs)⟩, fun R0 nR => ?_⟩
      refine lc_gen (walk_tup (K := K) (a := s) (xs := S.map vn)) (S.map vn) (fun v => match v with | .int z => decide (z.toNat ≠ a) | _ => false) (fun v => v) nR rfl (by rw [List.length_map]; exact small1000 (by omega))
        (fun j Hc x H' _ _ y => ⟨y.1, y.2⟩) (fun Hc2 s2 => SqT.of (s2 _ _ (sc _ _ hs))) ?_ (fun v Hc R hv _ _ k => ⟨_, rfl, k Hc (.refl _)⟩) ?_
      · intro v He R hv se kR
        obtain ⟨x, hx, rfl⟩ := List.mem_map.mp hv
        refine ⟨_, rfl, _, rfl, rfl, _, rfl, ?_⟩
        rw [show (!decide (vn x = vn a)) = decide (x ≠ a) by rw [vn_dec, not_dec]]
        exact kR He (.refl _)
      intro H2 s2 hR2
      have hR2 : NL H2 R0 (S.filter fun x => decide (x ≠ a)) := by
        unfold NL
        rw [hR2, List.map_id', List.filter_map]
        rfl
      have s02 := sc.trans s2
      have hP2 := hP.same s2
      have s2f := s02
      -- the rooms that the move may lead to
      obtain ⟨qas, lb, g1, g2, g3⟩ := hq.at (r := a) (by rw [rows_length]; exact ltS a haS)
      have lbE : lb ≠ E := ne_of_none g3 nE
      replace g1 := s02 _ _ g1
      replace g3 := s02 _ _ g3
      obtain ⟨qas2, hqa, hqA⟩ := id (hq.same s02)
      have el5 : ((qas2.map V.ref).length : Int) = ((ws.length + 1 : Nat) : Int) := by rw [List.length_map, hqA.1, rows_length]
      have nEh : H E = none := nE
      refine ⟨_, rfl, _, rfl, q, _, _, _, rfl, rfl, SqL.of g1, g2, _, rfl, q, _, rfl, .inl (SqL.of hqa), ((ws.length + 1 : Nat) : Int), (by rw [el5]), RgOk.of_le (by decide) (by omega) (by decide) (by omega), fun lo no => ?_⟩
      generalize hG4 : upd _ lo _ = G4
      have s4 : Same H2 G4 := hG4 ▸ same_new no
      have h4 : NL G4 lo (List.range (ws.length + 1)) := by
        show G4 lo = _
        rw [← hG4, upd_same, rg_vn]
      clear hG4
      refine ⟨(by show 2 ≤ sizeLine; decide), fun l2 nl2 => ?_⟩
      generalize hG5 : upd _ l2 _ = G5
      have s5 : Same G4 G5 := hG5 ▸ same_new nl2
      have h5 : G5 l2 = some (.lst [.ref lb, .ref lo]) := hG5 ▸ upd_same
      clear hG5
      obtain ⟨lv, hlv, elv⟩ : ∃ lv, NL G5 lv (gF ws far a) ∧ atI [V.ref lb, V.ref lo] (if far = true then 1 else 0) = some (.ref lv) := by
        unfold gF
        cases far with
        | true => exact ⟨lo, h4.same s5, rfl⟩
        | false => exact ⟨lb, ((show NL H2 lb _ from g3).same s4).same s5, rfl⟩
      refine ⟨_, rfl, .inr ⟨_, rfl, l2, _, _, _, rfl, rfl, SqL.of h5, elv, ?_⟩⟩
      have s25 : Same H2 G5 := s4.trans s5
      have hEc : ∃ o, Hc E = some o := by
        obtain ⟨as, e1, _⟩ := hP
        exact ⟨_, e1⟩
      have neR : R0 ≠ E := fun e => by
        obtain ⟨o, h⟩ := hEc
        rw [e, h] at nR
        cases nR
      have neL : lv ≠ E := by
        obtain ⟨o, h⟩ := hEc
        have h2' := s2 _ _ h
        have hcase : lv = lo ∨ lv = lb := by
          cases far with
          | true => exact .inl (V.ref.inj (Option.some.inj elv.symm))
          | false => exact .inr (V.ref.inj (Option.some.inj elv.symm))
        rcases hcase with rfl | rfl
        · exact fun e => by
            rw [e, h2'] at no
            cases no
        · exact lbE
      have s05 := s02.trans s25
      have hP5 := hP2.same s25
      have hR5 := hR2.same s25
      refine ⟨lv, rfl, ⟨_, SqL.of hlv⟩, for_list (K := K) (a := lv) (xs := (gF ws far a).map vn) (fun j σ Hd => ∃ v6, σ = [some (.ref q), some (.ref s), some (.bl far), some (.ref E), some (vn a), some (.ref R0), v6, none] ∧ Same H Hd ∧ NL Hd R0 (S.filter fun x => decide (x ≠ a)) ∧ NL Hd lv (gF ws far a) ∧ PL Hd E (movesL (nb (rows ws)) (gF ws far) S (S.take i) ++ (((gF ws far a).take j).filter fun b => space (nb (rows ws)) S a b).map fun b => (a, b)))
        ⟨v6, rfl, s05, hR5, hlv, by simpa using hP5⟩ (fun j σ Hd _ ⟨_, _, _, _, h, _⟩ => SqL.of h) ?_ ?_⟩
      · rintro j y σ Hd hj ⟨v6, rfl, sd, hRd, hlvd, hPd⟩
        obtain ⟨b, hb, rfl⟩ := at_map hj
        have hbm : b ∈ gF ws far a := List.mem_of_getElem? hb
        have blt := gF_lt hw hbm
        have er : (gF ws far a).take (j + 1) = (gF ws far a).take j ++ [b] := by
          rw [List.take_add_one, hb]
          rfl
        have skip : space (nb (rows ws)) S a b = false → ∀ Hx, Same Hd Hx → ∃ v6, [some (V.ref q), some (.ref s), some (.bl far), some (.ref E), some (vn a), some (.ref R0), some (vn b), none] = [some (V.ref q), some (.ref s), some (.bl far), some (.ref E), some (vn a), some (.ref R0), v6, none] ∧ Same H Hx ∧ NL Hx R0 (S.filter fun x => decide (x ≠ a)) ∧ NL Hx lv (gF ws far a) ∧ PL Hx E (movesL (nb (rows ws)) (gF ws far) S (S.take i) ++ (((gF ws far a).take (j + 1)).filter fun b => space (nb (rows ws)) S a b).map fun b => (a, b)) := fun e Hx sx => by
          refine ⟨_, rfl, sd.trans sx, hRd.same sx, hlvd.same sx, ?_⟩
          rw [er, List.filter_append, List.filter_cons_of_neg (by rw [e]; decide), List.filter_nil, List.append_nil]
          exact hPd.same sx
        refine ⟨_, rfl, _, rfl, rfl, _, rfl, ?_⟩
        rw [show (!decide (vn b = vn a)) = decide (b ≠ a) by rw [vn_dec, not_dec]]
        by_cases hba : b = a
        · rw [decide_eq_false (fun z => z hba)]
          refine iteF (iteF ?_)
          refine skip ?_ Hd (.refl _)
          unfold space
          rw [hba, decide_eq_false (fun z => z haS), Bool.false_and]
        · rw [decide_eq_true hba]
          refine iteT ⟨_, rfl, _, rfl, R0, _, rfl, .inl (SqL.of hRd), rfl, flat_vn _, _, rfl, ?_⟩
          rw [inV_vn, if_pos rfl]
          by_cases hbS : b ∈ S
          · rw [decide_eq_true (List.mem_filter.mpr ⟨hbS, decide_eq_true hba⟩)]
            refine iteF (iteF ?_)
            refine skip ?_ Hd (.refl _)
            unfold space
            rw [decide_eq_false (fun z => z hbS), Bool.false_and]
          · rw [decide_eq_false (fun z => hbS (List.mem_filter.mp z).1)]
            refine iteT ?_
            refine ⟨_, rfl, _, rfl, _, rfl, (by show 1 ≤ sizeLine; decide), fun c1 nc1 => ?_⟩
            generalize hG6 : upd _ c1 _ = G6
            have s6 : Same Hd G6 := hG6 ▸ same_new nc1
            have hc1 : NL G6 c1 [b] := hG6 ▸ upd_same
            clear hG6
            have fl : (S.filter fun x => decide (x ≠ a)).length < S.length := List.length_filter_lt_length_iff_exists.mpr ⟨a, haS, by simp⟩
            refine ⟨R0, c1, _, _, rfl, rfl, SqL.of (hRd.same s6), SqL.of hc1, (by
              rw [List.length_map]
              show (S.filter fun x => decide (x ≠ a)).length + 1 ≤ sizeLine
              exact Nat.le_trans (show (S.filter fun x => decide (x ≠ a)).length + 1 ≤ 999 by omega) (by decide)), fun c2 nc2 => ?_⟩
            generalize hG7 : upd _ c2 _ = G7
            have s7 : Same G6 G7 := hG7 ▸ same_new nc2
            have hc2 : NL G7 c2 ((S.filter fun x => decide (x ≠ a)) ++ [b]) := by
              show G7 c2 = _
              rw [← hG7, upd_same, List.map_append]
              try rfl
            clear hG7
            have s67 := s6.trans s7
            refine ⟨q, c2, ws, _, rfl, hq.same (sd.trans s67), hw, hl, hc2, fun x hx => ?_, by rw [List.length_append, List.length_singleton]; omega, fun H8 t s8 et8 => ⟨t, rfl, ?_⟩⟩
            · rcases List.mem_append.mp hx with hx | hx
              · exact ltS x (List.mem_filter.mp hx).1
              · rw [List.mem_singleton.mp hx]
                exact blt
            have esp : space (nb (rows ws)) S a b = t := by
              rw [Bool.eq_iff_iff]
              exact (rest_space hw SS hbS).symm.trans et8.symm
            have s68 := s67.trans s8
            cases ht : t with
            | false => exact iteF (skip (esp.trans ht) H8 s68)
            | true =>
              rw [ht] at esp
              have hP8 := hPd.same s68
              obtain ⟨as, e1, e2, e3⟩ := id hP8
              refine iteT ⟨_, rfl, .inl ⟨rfl, _, SqL.of e1⟩, _, rfl, _, rfl, (by show 2 ≤ sizeLine; decide), fun T nT => ?_⟩
              obtain ⟨acc, f1, f2, f3⟩ := hP8.add (a := a) (b := b) nT
              refine ⟨E, _, _, rfl, rfl, f1, ?_, ?_⟩
              · rw [f2, List.length_append, List.length_map]
                have g1 := movesL_len (f := nb (rows ws)) (g := gF ws far) (S := S) (n := 118) (gF_len ws hl far) (S.take i)
                have g2 := List.length_filter_le (fun b => space (nb (rows ws)) S a b) ((gF ws far a).take j)
                have g3 : ((gF ws far a).take j).length ≤ (gF ws far a).length := by rw [List.length_take]; omega
                have g4 := gF_len ws hl far a
                have g5 : (S.take i).length ≤ S.length := by rw [List.length_take]; omega
                have g6 : (S.take i).length * 118 ≤ 60 * 118 := Nat.mul_le_mul_right _ (by omega)
                exact Nat.lt_of_le_of_lt (by omega : _ ≤ 60 * 118 + 118) (by decide)
              · have nE9 : ∀ c o, H c = some o → (upd (upd H8 T (.tup [vn a, vn b])) E (.lst (acc ++ [V.ref T]))) c = some o := fun c o e => by
                  rw [upd_ne (ne_of_none e nEh), upd_ne (ne_of_none ((sd.trans s68) _ _ e) nT)]
                  exact (sd.trans s68) _ _ e
                have keepL : ∀ {r : Addr} {L : List Nat}, NL Hd r L → r ≠ E → NL (upd (upd H8 T (.tup [vn a, vn b])) E (.lst (acc ++ [V.ref T]))) r L := fun {r L} h n => by
                  show upd _ E _ r = _
                  rw [upd_ne n, upd_ne (ne_of_none (s68 _ _ h) nT)]
                  exact s68 _ _ h
                refine ⟨_, rfl, nE9, keepL hRd neR, keepL hlvd neL, ?_⟩
                rw [er, List.filter_append, List.filter_cons_of_pos esp, List.filter_nil, List.map_append, ← List.append_assoc]
                exact f3
      · rintro σ Hd ⟨v6, rfl, sd, hRd, hlvd, hPd⟩
        rw [List.length_map, List.take_length] at hPd
        refine ⟨_, _, _, rfl, sd, ?_⟩
        rw [et, movesL_snoc]
        exact hPd
    · rintro σ Hc ⟨v4, v5, v6, rfl, sc, hP⟩
      rw [List.length_map, List.take_length] at hP
      obtain ⟨as, h1, h2, h3⟩ := hP
      exact ⟨_, rfl, k Hc E sc nE ⟨as, h1, h3⟩⟩
end
end G

namespace G
open PySem L2 GM
mutual
theorem dz_dp {K : PySem.W.Frag} {H : Hp} {v : V} {d : PyData} : Dz H v d → d.canLay0 = true → Dp K H v d
  | .non, _ => .non
  | .bl b, _ => .bl b
  | .int i, _ => .int i
  | .str x, _ => .str x
  | .lst h q, c => .lst (SqL.of h) (dz_dpAll q c)
  | .tup h q, c => .tup (SqT.of h) (dz_dpAll q c)
  | .emp h, c => by cases c
theorem dz_dpAll {K : PySem.W.Frag} {H : Hp} {vs : List V} {ds : List PyData} : DzAll H vs ds → PyData.canLayAll0 ds = true → DpAll K H vs ds
  | .nil, _ => .nil
  | .cons (d := d) (ds := ds) h q, c => by
    have c2 : (d.canLay0 && PyData.canLayAll0 ds) = true := c
    rw [Bool.and_eq_true] at c2
    exact .cons (dz_dp h c2.1) (dz_dpAll q c2.2)
end
def pairD (ss : List Way) : List PyData := ss.map fun s => PyData.tuple (dN [s.1, s.2])
theorem dp_lp {K : PySem.W.Frag} {H : Hp} : ∀ (as : List Addr) (ss : List Way), Pairs H as ss → DpAll K H (as.map V.ref) (pairD ss)
  | [], [], _ => .nil
  | [], _ :: _, h => by have := h.1; simp at this
  | _ :: _, [], h => by have := h.1; simp at this
  | a :: as, s :: ss, h => by
    have h0 : NT H a [s.1, s.2] := h.2 0 a rfl
    exact .cons (dp_nt h0) (dp_lp as ss ⟨by have := h.1; simpa using this, fun i b hb => h.2 (i + 1) b hb⟩)
theorem flat_pair {ss : List Way} : ∀ d ∈ pairD ss, Flat 1 d := fun d h => by
  obtain ⟨s, _, rfl⟩ := List.mem_map.mp h
  exact flat_tup flat_dN
theorem notin_lpD {K : PySem.W.Frag} {H : Hp} {v : V} {p : Addr} {d : PyData} {ss : List Way} {Q : VK} (hd : Dz H v d) (f : Flat 3 d) (hp : LP H p ss) (h : Q (.bl (!(pairD ss).any fun z => PyData.eqv z d)) H) : rNotInD K v (.ref p) H Q := by
  obtain ⟨as, h1, h2⟩ := hp
  exact ⟨_, _, dz_dp hd f.1, .lst (SqL.of h1) (dp_lp as ss h2), f.shaped, (flat_list flat_pair).shaped, h⟩
/-- what is equal to a pair of rooms among some -/
theorem any_two {ms : List Way} {d : PyData} (h : ((pairD ms).any fun z => PyData.eqv z d) = true) : ∃ x y, d = .tuple [x, y] ∧ (isBl x = false → isBl y = false → ∃ w ∈ ms, d = .tuple [.int (w.1 : Int), .int (w.2 : Int)]) := by
  rw [List.any_eq_true] at h
  obtain ⟨z, hz, e⟩ := h
  obtain ⟨w, hw, rfl⟩ := List.mem_map.mp hz
  have one : ∀ {n : Nat} {x : PyData}, PyData.eqv (.int (n : Int)) x = true → isBl x = false → x = .int (n : Int) := fun {n x} e b => by
    cases x with
    | int i =>
      have : ((n : Int) == i) = true := e
      rw [eq_of_beq this]
    | bool b => cases b <;> cases ‹isBl _ = false›
    | none => cases e
    | str _ => cases e
    | list _ => cases e
    | tuple _ => cases e
    | dict _ => cases e
  cases d with
  | tuple ds =>
    have e2 : PyData.eqvAll (dN [w.1, w.2]) ds = true := e
    match ds, e2 with
    | [x, y], e2 =>
      have e3 : (PyData.eqv (.int ((w.1 : Nat) : Int)) x && (PyData.eqv (.int ((w.2 : Nat) : Int)) y && true)) = true := e2
      rw [Bool.and_eq_true, Bool.and_eq_true] at e3
      exact ⟨x, y, rfl, fun hx hy => ⟨w, hw, by rw [one e3.1 hx, one e3.2.1 hy]⟩⟩
    | [], e2 => cases e2
    | [x], e2 =>
      have e3 : (PyData.eqv (.int ((w.1 : Nat) : Int)) x && false) = true := e2
      rw [Bool.and_false] at e3
      cases e3
    | x :: y :: _ :: _, e2 =>
      have e3 : (PyData.eqv (.int ((w.1 : Nat) : Int)) x && (PyData.eqv (.int ((w.2 : Nat) : Int)) y && false)) = true := e2
      rw [Bool.and_false, Bool.and_false] at e3
      cases e3
  | none => cases e
  | bool _ => cases e
  | int _ => cases e
  | str _ => cases e
  | list _ => cases e
  | dict _ => cases e
theorem two_bl {n : Nat} {x y : PyData} (h : isBl x = true ∨ isBl y = true) : twoD n (.tuple [x, y]) = none := by
  rcases h with h | h
  · refine twoD_left ?_
    cases x with
    | bool _ => rfl
    | _ => cases h
  · refine twoD_right ?_
    cases y with
    | bool _ => rfl
    | _ => cases h
/-- a move is among all that can be done -/
theorem move_any {ws : List Way} {far : Bool} {S : List Nat} {d : PyData} {w : Way} (h : moveD ws far S d = some w) : ((pairD (movesF ws far S)).any fun z => PyData.eqv z d) = true := by
  obtain ⟨e1, e2⟩ := moveD_some h
  obtain ⟨rfl, ha, hb, _, _⟩ := leapD_some e1
  have m : w ∈ movesF ws far S := by
    have := moveD_mem (far := far) (S := S) ha hb
    rw [h] at this
    split at this
    · assumption
    · cases this
  rw [List.any_eq_true]
  refine ⟨_, List.mem_map.mpr ⟨w, m, rfl⟩, ?_⟩
  show PyData.eqvAll (dN [w.1, w.2]) (dN [w.1, w.2]) = true
  rw [eqv_dN, decide_eq_true rfl]
/-- what may stand in a row -/
def MvOk (d : PyData) : Prop := ∀ ds, d = .list ds → ∀ e ∈ ds, Flat 3 e
theorem un65q {A : Around} {k : Nat} (r : Room k A) : A.units + 65 < cLine := by
  have := r.un
  omega
def isBlV : V → Bool
  | .bl _ => true
  | _ => false
theorem dz_isBl {H : Hp} {v : V} {d : PyData} (h : Dz H v d) : isBlV v = isBl d := by
  cases h <;> rfl
/-- what is told of a row, or where it is refused -/
def Res3 (ws : List Way) (far : Bool) (S : List Nat) (d : PyData) (H : Hp) (r : Addr) : Prop := (∃ B b, rowH ws far S d = .ok B ∧ H r = some (.tup [.str "told", .ref b]) ∧ NT H b B) ∨ ∃ i, rowH ws far S d = .error i ∧ H r = some (.tup [.str "none", .int i])
def spBehind : Sp := fun vs H Q _ => ∃ (q s : Addr) (v : V) (d : PyData) (ws : List Way) (S : List Nat) (far : Bool), vs = [.ref q, .ref s, v, .bl far] ∧ LL H q (rows ws) ∧ Ww ws ∧ ws.length ≤ 59 ∧ NT H s S ∧ Setting (rows ws) S ∧ Dz H v d ∧ MvOk d ∧
  ∀ H' r, Same H H' → H r = none → Res3 ws far S d H' r → Q (.ref r) H'
section
variable {P : Program} {w : World} {K : PySem.W.Frag} {mg : Str → Option Value} {base : Heap}
theorem scBehind3 : FnScope ["near", "setting", "moves", "far", "at", "move", "room", "one"] ["near", "setting", "moves", "far"] (defScope s__law_behind) := ⟨rfl, rfl, rfl, by decide +kernel, rfl, by decide +kernel, by decide +kernel⟩
theorem ok_behind3 {f : Addr} {fd : FuncData} (F : Fun K "_law_behind" "_law_behind" s__law_behind f fd) (T : TxL K mg) (Tb : mg "bool" = none) (L_law_moves : Cal P w K mg base "_law_moves" 2 ["near", "setting", "far"] spLMoves) : FnOk P w K mg base CX0 3 f fd ["near", "setting", "moves", "far"] spBehind := by
  refine F.ok scBehind3 (fun vs H Q E h => ?_) (fun cdv A outer s H vs Q E hr h => ?_)
  · obtain ⟨q, s, v, d, ws, S, far, rfl, _⟩ := h
    rfl
  · obtain ⟨q, s, v, d, ws, S, far, rfl, hq, hw, hl, hs, SS, hz, mok, k⟩ := h
    have kY : ∀ B, rowH ws far S d = .ok B → Setting (rows ws) B → ∀ H' r b, Same H H' → H r = none → H' r = some (.tup [.str "told", .ref b]) → NT H' b B → Q (.ref r) H' := fun B hB _ H' r b s n h hb => k H' r s n (.inl ⟨B, b, hB, h, hb⟩)
    have kN : ∀ i, rowH ws far S d = .error i → ∀ H' r, Same H H' → H r = none → H' r = some (.tup [.str "none", .int i]) → Q (.ref r) H' := fun i hi H' r s n h => k H' r s n (.inr ⟨i, hi, h⟩)
    have hu := hr.units
    have hu65 := un65q hr
    refine ⟨_, (pss_cons (ps_if (pt_not (pt_val (pe_callB call_isi (by rfl) T.isi PyProof.Rows.boot_isinstance (pa_cons (pv 2) (pa_cons (pe_bltn (v := .ty "list") (by rfl) T.list PyProof.Rows.boot_list rfl) pa_nil))))) (pss_one (ps_ret (pe_tup (pa_cons pe_str (pa_cons (pe_un un_neg pe_int) pa_nil))))) pss_nil)
      (pss_cons (ps_for PassesOwn.never rfl (pi_enum (by rfl) T.en (pa_cons (pv 2) pa_nil)) (pg_tup rfl (pgs_cons (pg_name (i := 4) scBehind3.nd rfl (Or.inl rfl)) (pgs_cons (pg_name (i := 5) scBehind3.nd rfl (Or.inr rfl)) pgs_nil)))
        (pss_cons (ps_if (pt_cmpR (op_notInD hu65) (pv 5) (L_law_moves.pe (hr.mono (by decide)) rfl (pa_cons (pv 0) (pa_cons (pv 1) (pa_cons (pv 3) pa_nil)))) rfl) (pss_one (ps_ret (pe_tup (pa_cons pe_str (pa_cons (pv 4) pa_nil))))) pss_nil)
      (pss_cons (ps_if (pt_cmpR op_in_seq pe_bl (pe_lc (own := [("room", 6)]) (g := gName 6) (tt := tYes) rfl scBehind3.nd (pi_tup (pv 5)) (blkOk_by (N := ["near", "setting", "moves", "far", "at", "move", "room", "one"]) (sc := defScope s__law_behind) (by decide +kernel)) (fun _ _ _ _ _ => pg_name (i := 6) scBehind3.nd rfl (Or.inl rfl)) (fun _ _ _ _ _ => pts_nil) (fun _ _ _ _ _ => (pe_callB (r := rIsi K) call_isi (by rfl) T.isi PyProof.Rows.boot_isinstance (pa_cons (pv 6) (pa_cons (pe_bltn (v := .ty "bool") (by rfl) Tb PyProof.Rows.boot_bool rfl) pa_nil))))) rfl) (pss_one (ps_ret (pe_tup (pa_cons pe_str (pa_cons (pv 4) pa_nil))))) pss_nil)
      (pss_one (ps_set (i := 1) scBehind3.nd rfl (Or.inl rfl) (pe_callTy call_tuple_of (by rfl) T.tup PyProof.Rows.boot_tuple (pa_cons (pe_callB cr_sortedI (by rfl) T.srt PyProof.Rows.boot_sorted (pa_cons (pe_op op_catR (pe_lc (own := [("one", 7)]) (g := gName 7) rfl scBehind3.nd (pi_tup (pv 1)) (blkOk_by (N := ["near", "setting", "moves", "far", "at", "move", "room", "one"]) (sc := defScope s__law_behind) (by decide +kernel)) (fun _ _ _ _ _ => pg_name (i := 7) scBehind3.nd rfl (Or.inl rfl)) (fun _ _ _ _ _ => pts_one (pt_cmpR (r := rNeD K) (op_neD hu) (pv 7) (pe_ix (r := rIxT K) ix_tup (pv 5) pe_int (fun _ _ => rfl)) (nomark _))) (fun _ _ _ _ _ => (pv 7))) (pe_lst (pa_cons (pe_ix ix_tup (pv 5) pe_int (fun _ _ => rfl)) pa_nil))) pa_nil)) pa_nil)))))))
      (pss_one (ps_ret (pe_tup (pa_cons pe_str (pa_cons (pv 1) pa_nil))))))), ?_⟩
    have Gr := graph_rows hw
    have out : ∀ {i : Int} (hi : rowH ws far S d = .error i) {Hx : Hp} (sx : Same H Hx), 2 ≤ sizeLine ∧ ∀ r, Hx r = none → Q (.ref r) (upd Hx r (.tup [.str "none", .int i])) := fun hi Hx sx => ⟨by decide, fun r nr => kN _ hi _ r (sx.trans (same_new nr)) (sx.free nr) upd_same⟩
    refine ⟨_, rfl, _, _, _, _, _, rfl, .ty _, dz_ty hz, kit_ty (kb_lst d), _, rfl, ?_⟩
    cases hT : isLst d with
    | false =>
      refine iteT ?_
      exact ⟨1, rfl, out (rowH_no hT) (.refl _)⟩
    | true =>
    obtain ⟨l, xs, ds, rfl, rfl, hla, hA⟩ : ∃ s xs ds, v = .ref s ∧ d = .list ds ∧ H s = some (.lst xs) ∧ DzAll H xs ds := by
      cases hz with
      | lst h8 h9 => exact ⟨_, _, _, rfl, rfl, h8, h9⟩
      | _ => cases hT
    have exl := DzAll.len hA
    refine iteF ?_
    refine ⟨_, rfl, l, _, rfl, SqL.of hla, ?_⟩
    refine for_it (walk_enum (xs := xs)) (fun i σ Hc => ∃ (s' : Addr) (U : List Nat) (v4 v5 : Option V), σ = [some (.ref q), some (.ref s'), some (.ref l), some (.bl far), v4, v5, none, none] ∧ Same H Hc ∧ NT Hc s' U ∧ Setting (rows ws) U ∧ rowG ws far S 0 ds = rowG ws far U i (ds.drop i))
      ⟨s, S, none, none, rfl, .refl _, hs, SS, rfl⟩ (fun i σ Hc _ ⟨_, _, _, _, _, sc, _⟩ => SqL.of (sc _ _ hla)) ?_ ?_
    · rintro i y σ Hc Hc' hi ⟨s', U, v4, v5, rfl, sc, hU, SU, er⟩ ⟨T0, y1, y2, rfl, nT, rfl, ey1, ey2⟩
      obtain rfl : y1 = V.int (i : Nat) := (Option.some.inj ey1).symm
      obtain ⟨dd, hdj, hzj⟩ := DzAll.at hA ey2
      have fl3 := mok ds rfl dd (List.mem_of_getElem? hdj)
      have ed : ds.drop i = dd :: ds.drop (i + 1) := by
        rw [List.drop_eq_getElem_cons (List.getElem?_eq_some_iff.mp hdj).1, (List.getElem?_eq_some_iff.mp hdj).2]
      rw [ed, rowG] at er
      refine ⟨T0, _, rfl, SqT.of upd_same, rfl, _, _, rfl, _, _, rfl, rfl, ?_⟩
      generalize hB2 : upd _ T0 _ = B2
      have s5 : Same Hc B2 := hB2 ▸ same_new nT
      clear hB2
      have sd := sc.trans s5
      have hU5 := hU.same s5
      refine ⟨_, rfl, _, rfl, _, rfl, _, rfl, q, s', ws, U, far, rfl, hq.same sd, hw, hl, hU5, SU, fun H6 lm s6 nlm hlm => ?_⟩
      have s06 := sd.trans s6
      refine notin_lpD (hzj.same s06) fl3 hlm ⟨_, rfl, ?_⟩
      have noM : moveD ws far U dd = none → rowH ws far S (.list ds) = .error (i : Int) := fun e => by
        show rowG ws far S 0 ds = _
        rw [er, e]
      cases hany : ((pairD (movesF ws far U)).any fun z => PyData.eqv z dd) with
      | false =>
        refine iteT ?_
        have e : moveD ws far U dd = none := by
          cases z : moveD ws far U dd with
          | none => rfl
          | some w0 =>
            rw [move_any z] at hany
            cases hany
        exact ⟨_, rfl, out (noM e) s06⟩
      | true =>
      refine iteF ?_
      obtain ⟨x, y, rfl, hxy⟩ := any_two hany
      obtain ⟨tt, vx, vy, rfl, htt, zx, zy⟩ : ∃ t vx vy, y2 = .ref t ∧ H t = some (.tup [vx, vy]) ∧ Dz H vx x ∧ Dz H vy y := by
        cases hzj with
        | tup h q =>
          cases q with
          | cons h1 q =>
            cases q with
            | cons h2 q =>
              cases q
              exact ⟨_, _, _, rfl, h, h1, h2⟩
      have ht6 := s06 _ _ htt
      refine ⟨_, rfl, tt, rfl, ⟨_, SqT.of ht6⟩, fun D nD => ?_⟩
      refine lc_gen (walk_tup (K := K) (a := tt) (xs := [vx, vy])) [vx, vy] (fun _ => true) (fun v => .bl (isBlV v)) nD rfl (by show 2 < sizeLine; decide)
        (fun j Hc x H' _ _ y => ⟨y.1, y.2⟩) (fun Hc s => SqT.of (s _ _ ht6)) (fun v Hc R hv _ k => k Hc (.refl _)) (fun v Hc R hv _ s8 k => ?_) ?_
      · obtain ⟨dv, hdv⟩ : ∃ dv, Dz Hc v dv := by
          have s0c : Same H Hc := s06.trans (fun c o e => s8 _ _ e)
          rcases List.mem_cons.mp hv with rfl | hv
          · exact ⟨x, zx.same s0c⟩
          · rw [List.mem_singleton.mp hv]
            exact ⟨y, zy.same s0c⟩
        refine ⟨_, rfl, _, _, _, _, _, rfl, .ty _, dz_ty hdv, kit_ty (kb_bl dv), ?_⟩
        rw [dz_isBl hdv] at k
        exact k Hc (.refl _)
      intro H7 s7 hD7
      have s07 := s06.trans s7
      rw [List.filter_eq_self.mpr (fun _ _ => rfl)] at hD7
      have eb : inV (V.bl true) ([vx, vy].map fun v => V.bl (isBlV v)) = (isBl x || isBl y) := by
        rw [← dz_isBl zx, ← dz_isBl zy]
        show inV (V.bl true) [V.bl (isBlV vx), V.bl (isBlV vy)] = (isBlV vx || isBlV vy)
        cases isBlV vx <;> cases isBlV vy <;> rfl
      refine ⟨D, _, rfl, .inl (SqL.of hD7), rfl, rfl, _, rfl, ?_⟩
      rw [if_neg Bool.false_ne_true, eb]
      cases hb : (isBl x || isBl y) with
      | true =>
        refine iteT ?_
        have e : moveD ws far U (.tuple [x, y]) = none := moveD_none (leapD_none (two_bl (by
          rw [Bool.or_eq_true] at hb
          exact hb)))
        exact ⟨_, rfl, out (noM e) s07⟩
      | false =>
      rw [Bool.or_eq_false_iff] at hb
      obtain ⟨w0, wm, ew⟩ := hxy hb.1 hb.2
      obtain ⟨g, e⟩ := w0
      injection ew with ew
      injection ew with e1 ew
      injection ew with e2 _
      subst e1 e2
      obtain ⟨gS, eg, esp⟩ := mem_movesL.mp wm
      simp only at gS eg esp
      have glt := set_lt SU g gS
      have elt := gF_lt hw eg
      have hD : moveD ws far U (.tuple [.int (g : Int), .int (e : Int)]) = some (g, e) := by
        rw [moveD_mem glt elt, if_pos wm]
      rw [hD] at er
      obtain ⟨eS, barr⟩ := space_bar.mp esp
      cases zx
      cases zy
      have htt7 : NT H7 tt [g, e] := s07 _ _ htt
      have hU7 := (hU5.same s6).same s7
      have i0 : atI ([g, e].map vn) 0 = some (vn g) := rfl
      have i1 : atI ([g, e].map vn) 1 = some (vn e) := rfl
      have lU := set_len SU hl
      refine iteF ⟨_, rfl, s', rfl, ⟨_, SqT.of hU7⟩, fun R0 nR => ?_⟩
      refine lc_gen (walk_tup (K := K) (a := s') (xs := U.map vn)) (U.map vn) (fun v => match v with | .int z => decide (z.toNat ≠ g) | _ => false) (fun v => v) nR rfl (by rw [List.length_map]; exact small1000 (by omega))
        (fun j Hc x H' _ _ y => ⟨y.1, y.2⟩) (fun Hc s => SqT.of (s _ _ hU7)) ?_ (fun v Hc R hv _ _ k => ⟨_, rfl, k Hc (.refl _)⟩) ?_
      · intro v He R hv se kR
        obtain ⟨x, hx, rfl⟩ := List.mem_map.mp hv
        have kR' : R (decide (x ≠ g)) He := kR He (.refl _)
        refine ⟨_, rfl, _, rfl, tt, _, _, _, rfl, rfl, SqT.of (se _ _ htt7), i0, _, _, .int _, .int _, rfl, rfl, _, rfl, ?_⟩
        rw [show (!PyData.eqv (.int (x : Int)) (.int (g : Int))) = decide (x ≠ g) by
          show (!((x : Int) == (g : Int))) = _
          by_cases e : x = g
          · subst e
            simp
          · have : ¬ ((x : Int) = (g : Int)) := fun z => e (by omega)
            simp [e, this]]
        exact kR'
      intro H8 s8 hR8
      have hR8 : NL H8 R0 (U.filter fun x => decide (x ≠ g)) := by
        unfold NL
        rw [hR8, List.map_id', List.filter_map]
        rfl
      refine ⟨_, rfl, tt, _, _, _, rfl, rfl, SqT.of (s8 _ _ htt7), i1, (by show 1 ≤ sizeLine; decide), fun c1 nc1 => ?_⟩
      generalize hG9 : upd _ c1 _ = G9
      have s9 : Same H8 G9 := hG9 ▸ same_new nc1
      have hc1 : NL G9 c1 [e] := hG9 ▸ upd_same
      clear hG9
      have fl := List.length_filter_le (fun x => decide (x ≠ g)) U
      refine ⟨R0, c1, _, _, rfl, rfl, SqL.of (hR8.same s9), SqL.of hc1, (by
        rw [List.length_map]
        show (U.filter fun x => decide (x ≠ g)).length + 1 ≤ sizeLine
        exact Nat.le_trans (show (U.filter fun x => decide (x ≠ g)).length + 1 ≤ 999 by omega) (by decide)), fun c2 nc2 => ?_⟩
      generalize hG10 : upd _ c2 _ = G10
      have s10 : Same G9 G10 := hG10 ▸ same_new nc2
      have hc2 : NL G10 c2 ((U.filter fun x => decide (x ≠ g)) ++ [e]) := by
        show G10 c2 = _
        rw [← hG10, upd_same, List.map_append]
        try rfl
      clear hG10
      refine ⟨c2, ((U.filter fun x => decide (x ≠ g)) ++ [e]).map fun (n : Nat) => (n : Int), rfl, (by rw [← vn_map]; exact SqL.of hc2), fun ns' p pm ri np => ?_⟩
      rw [srt_ints pm ri]
      generalize hG11 : upd _ p _ = G11
      have s11 : Same G10 G11 := hG11 ▸ same_new np
      have hp11 : NL G11 p (mv U g e) := hG11 ▸ upd_same
      clear hG11
      refine ⟨p, _, rfl, .inl ⟨SqL.of hp11, fun r nr => ?_⟩⟩
      have sr := same_new (o := HO.tup ((mv U g e).map vn)) nr
      exact ⟨r, mv U g e, _, _, rfl, s07.trans (s8.trans (s9.trans (s10.trans (s11.trans sr)))), upd_same, leap_set Gr SU gS (by rw [rows_length]; exact elt) eS barr, er⟩
    · rintro σ Hc ⟨s', U, v4, v5, rfl, sc, hU, SU, er⟩
      rw [exl, List.drop_length, rowG] at er
      refine ⟨_, rfl, (by show 2 ≤ sizeLine; decide), fun r nr => ?_⟩
      have sr := same_new (o := HO.tup [V.str "told", V.ref s']) nr
      exact kY U er SU _ r s' (sc.trans sr) (sc.free nr) upd_same (hU.same sr)
end
end G

namespace G
open PySem L2 GM
theorem nat_of {z : Int} {n : Nat} (h0 : 0 ≤ z) (h1 : z < (n : Int)) : ∃ k : Nat, k < n ∧ z = (k : Int) := ⟨z.toNat, by omega, by omega⟩
theorem sr_put {H H' : Hp} {a p : Addr} {o : HO} (s : Same (rm H a) (rm H' a)) (h : H p = none) : Same (rm H a) (rm (upd H' p o) a) := fun b u e => by
  obtain ⟨n, e⟩ := rm_some e
  rw [rm_ne n, upd_ne (ne_of_none e h)]
  exact sr_at s n e
theorem sr_nt {H H' : Hp} {a b : Addr} {l : List Nat} (s : Same (rm H a) (rm H' a)) (w : Well H a) (h : NT H b l) : NT H' b l := by
  obtain ⟨x, y, z, w⟩ := w
  exact sr_at s (fun e => by
    unfold NT at h
    rw [e, w] at h
    cases h) h
theorem at_vnq {l : List Nat} {i x : Nat} (h : l[i]? = some x) : atI (l.map vn) (i : Int) = some (vn x) := by
  have hi := (List.getElem?_eq_some_iff.mp h).1
  unfold atI ixN
  rw [if_pos (Int.natCast_nonneg _), if_pos (by rw [List.length_map]; omega)]
  show (l.map vn)[((i : Nat) : Int).toNat]? = _
  rw [show ((i : Nat) : Int).toNat = i by omega, List.getElem?_map, h]
  rfl
theorem _root_.G.Pairs.updQ {H : Hp} {D : Addr} {o o' : HO} {as : List Addr} {Ls : List Way} (h : Pairs H as Ls) (hD : H D = some o) (no : ∀ xs, o ≠ .tup xs) : Pairs (L2.upd H D o') as Ls := ⟨h.1, fun i a e => by
  have h1 := h.2 i a e
  unfold NT at *
  rw [upd_ne fun e => by
    rw [e, hD] at h1
    exact no _ (Option.some.inj h1)]
  exact h1⟩
theorem pairs_sr {H H' : Hp} {a : Addr} {as : List Addr} {ws : List Way} (s : Same (rm H a) (rm H' a)) (w : Well H a) (h : Pairs H as ws) : Pairs H' as ws := ⟨h.1, fun i b e => sr_nt s w (h.2 i b e)⟩
theorem nt_updQ {H : Hp} {D a : Addr} {o o' : HO} {l : List Nat} (h : NT H a l) (hD : H D = some o) (no : ∀ xs, o ≠ .tup xs) : NT (upd H D o') a l := by
  unfold NT at *
  rw [upd_ne fun e => by
    rw [e, hD] at h
    exact no _ (Option.some.inj h)]
  exact h
theorem pairs_snoc {H : Hp} {as : List Addr} {R : List Way} {a : Addr} {k : Way} (h : Pairs H as R) (ha : NT H a [k.1, k.2]) : Pairs H (as ++ [a]) (R ++ [k]) := by
  refine ⟨by rw [List.length_append, List.length_append, h.1]; rfl, fun i c hc => ?_⟩
  by_cases hi : i < as.length
  · rw [List.getElem?_append_left hi] at hc
    rw [List.getD_eq_getElem?_getD, List.getElem?_append_left (by rw [← h.1]; exact hi), ← List.getD_eq_getElem?_getD]
    exact h.2 i c hc
  · have hl := (List.getElem?_eq_some_iff.mp hc).1
    rw [List.length_append, List.length_singleton] at hl
    have ei : i = as.length := by omega
    subst ei
    rw [List.getElem?_append_right (Nat.le_refl _), Nat.sub_self] at hc
    have ec : c = a := (Option.some.inj hc).symm
    subst ec
    rw [List.getD_eq_getElem?_getD, List.getElem?_append_right (by rw [h.1]; exact Nat.le_refl _), h.1, Nat.sub_self]
    exact ha
theorem mv_length {A : List Nat} {g e : Nat} (ndA : A.Nodup) (gA : g ∈ A) : (mv A g e).length = A.length := by
  unfold mv
  rw [(srt_perm _).length_eq, List.length_append, List.length_singleton]
  have h : A.filter (fun x => decide (x ≠ g)) = A.erase g := by
    rw [ndA.erase_eq_filter]
    apply List.filter_congr
    intro x _
    by_cases z : x = g <;> simp [z]
  rw [h, List.length_erase_of_mem gA]
  have := List.length_pos_of_mem gA
  omega
theorem lp_rmQ {H : Hp} {a p : Addr} {ws : List Way} (h : LP H p ws) (w : Well H a) (n : p ≠ a) : LP (rm H a) p ws := by
  obtain ⟨as, h1, h2⟩ := h
  obtain ⟨x, y, z, w⟩ := w
  refine ⟨as, by rw [rm_ne n]; exact h1, h2.1, fun i b hb => ?_⟩
  have := h2.2 i b hb
  unfold NT at *
  rw [rm_ne fun e => by
    rw [e, w] at this
    cases this]
  exact this
theorem ne_lp0 {K : PySem.W.Frag} {H : Hp} {p e : Addr} {L : List Way} {Q : VK} (hp : LP H p L) (he : NL H e []) (h : Q (.bl (decide (L ≠ []))) H) : rNeD K (.ref p) (.ref e) H Q := by
  obtain ⟨as, h1, h2⟩ := hp
  refine ⟨_, _, .lst (SqL.of h1) (dp_lp as L h2), dp_nl he, (flat_list flat_pair).shaped, (flat_list flat_dN).shaped, ?_⟩
  show Q (.bl (!PyData.eqvAll (pairD L) [])) H
  have : (!PyData.eqvAll (pairD L) []) = decide (L ≠ []) := by
    cases L with
    | nil => rfl
    | cons _ _ => rfl
  rw [this]
  exact h
def spRow3 : Sp := fun vs H Q _ => ∃ (a q s : Addr) (ws : List Way) (S : List Nat) (far : Bool), vs = [.ref a, .ref q, .ref s, .bl far] ∧ Well H a ∧ LL (rm H a) q (rows ws) ∧ Ww ws ∧ ws.length ≤ 59 ∧ NT H s S ∧ Setting (rows ws) S ∧
  ∀ H' g ms, Same (rm H a) (rm H' a) → Well H' a → g ≠ a → LP H' g ms → ms.length ≤ 6 → (∀ w ∈ ms, w.1 < 60 ∧ w.2 < 60) → Q (.ref g) H'
section
variable {P : Program} {w : World} {K : PySem.W.Frag} {mg : Str → Option Value} {base : Heap}
theorem scRow3 : FnScope ["well", "near", "setting", "far", "found", "k", "some", "move", "one"] ["well", "near", "setting", "far"] (defScope s__law_row) := ⟨rfl, rfl, rfl, by decide +kernel, rfl, by decide +kernel, by decide +kernel⟩
theorem ok_row3 {f : Addr} {fd : FuncData} (F : Fun K "_law_row" "_law_row" s__law_row f fd) (T : TxL K mg) (L_law_draw : Cal P w K mg base "_law_draw" 1 ["well", "many"] spDraw) (L_law_moves : Cal P w K mg base "_law_moves" 2 ["near", "setting", "far"] spLMoves) : FnOk P w K mg base CX0 3 f fd ["well", "near", "setting", "far"] spRow3 := by
  refine F.ok scRow3 (fun vs H Q E h => ?_) (fun cdv A outer s H vs Q E hr h => ?_)
  · obtain ⟨a, q, s, ws, S, far, rfl, _⟩ := h
    rfl
  · obtain ⟨a, q, s, ws, A, far, rfl, ⟨u0, u1, u2, hW⟩, hq, hw, hl, hs, SA, k⟩ := h
    have hu := hr.units
    refine ⟨_, (pss_cons (ps_set (i := 4) scRow3.nd rfl (Or.inl rfl) (pe_lst pa_nil))
      (pss_cons (ps_for PassesOwn.never rfl (pi_range1 (by rfl) T.rg (pa_cons (L_law_draw.pe (hr.mono (by decide)) rfl (pa_cons (pv 0) (pa_cons pe_int pa_nil))) pa_nil)) (pg_name (i := 5) scRow3.nd rfl (Or.inl rfl))
        (pss_cons (ps_set (i := 6) scRow3.nd rfl (Or.inl rfl) (L_law_moves.pe (hr.mono (by decide)) rfl (pa_cons (pv 1) (pa_cons (pv 2) (pa_cons (pv 3) pa_nil)))))
      (pss_one (ps_if (pt_cmpR (op_neD hu) (pv 6) (pe_lst pa_nil) (nomark _)) (pss_cons (ps_set (i := 7) scRow3.nd rfl (Or.inr rfl) (pe_ix ix_list (pv 6) (L_law_draw.pe (hr.mono (by decide)) rfl (pa_cons (pv 0) (pa_cons (pe_callB call_len_seq (by rfl) T.len PySem.boot_len (pa_cons (pv 6) pa_nil)) pa_nil))) (fun _ _ => rfl)))
      (pss_cons (ps_set (i := 2) scRow3.nd rfl (Or.inl rfl) (pe_callTy call_tuple_of (by rfl) T.tup PyProof.Rows.boot_tuple (pa_cons (pe_callB cr_sortedI (by rfl) T.srt PyProof.Rows.boot_sorted (pa_cons (pe_op op_catR (pe_lc (own := [("one", 8)]) (g := gName 8) rfl scRow3.nd (pi_tup (pv 2)) (blkOk_by (N := ["well", "near", "setting", "far", "found", "k", "some", "move", "one"]) (sc := defScope s__law_row) (by decide +kernel)) (fun _ _ _ _ _ => pg_name (i := 8) scRow3.nd rfl (Or.inl rfl)) (fun _ _ _ _ _ => pts_one (pt_cmpR op_ne (pv 8) (pe_ix (r := rIxT K) ix_tup (pv 7) pe_int (fun _ _ => rfl)) (nomark _))) (fun _ _ _ _ _ => (pv 8))) (pe_lst (pa_cons (pe_ix ix_tup (pv 7) pe_int (fun _ _ => rfl)) pa_nil))) pa_nil)) pa_nil)))
      (pss_one (ps_expr (pe_bm PySem.F.plainAttrs_list PySem.F.slot_list_append PySem.F.type_list_append mt_append (pv 4) (pa_cons (pv 7) pa_nil)))))) pss_nil))))
      (pss_one (ps_ret (pv 4))))), ?_⟩
    have Gr := graph_rows hw
    refine ⟨(by show 0 ≤ sizeLine; decide), fun g ng => ?_⟩
    generalize hB1 : upd _ g _ = B1
    have s1 : Same H B1 := hB1 ▸ same_new ng
    have hg1 : LP B1 g [] := ⟨[], hB1 ▸ upd_same, rfl, fun i a h => by simp at h⟩
    clear hB1
    have ga : g ≠ a := (ne_of_none hW ng).symm
    have hW1 := s1 _ _ hW
    have hs1 := hs.same s1
    refine ⟨_, rfl, a, 7, rfl, ⟨_, _, _, hW1⟩, by decide, by decide, fun many p0 p1 p2 m0 m1 => ?_⟩
    have r0 : Same (rm B1 a) (rm (upd B1 a (HO.lst [V.int p0, V.int p1, V.int p2])) a) := sr_draw
    have w0 : upd B1 a (HO.lst [V.int p0, V.int p1, V.int p2]) a = some (HO.lst [V.int p0, V.int p1, V.int p2]) := upd_same
    have hs0 := sr_nt r0 ⟨_, _, _, hW1⟩ hs1
    have hg0 : LP (upd B1 a (HO.lst [V.int p0, V.int p1, V.int p2])) g [] := by
      obtain ⟨as, h1, h2⟩ := hg1
      exact ⟨as, (upd_ne ga).trans h1, pairs_sr r0 ⟨_, _, _, hW1⟩ h2⟩
    generalize upd B1 a (HO.lst [V.int p0, V.int p1, V.int p2]) = B2 at r0 w0 hs0 hg0
    refine ⟨_, rfl, by omega, by omega, for_range (lo := 0) (n := many.toNat) (fun i σ Hc => ∃ (s' : Addr) (B : List Nat) (ms : List Way) (v5 v6 v7 : Option V), σ = [some (.ref a), some (.ref q), some (.ref s'), some (.bl far), some (.ref g), v5, v6, v7, none] ∧ Same (rm H a) (rm Hc a) ∧ Well Hc a ∧ LP Hc g ms ∧ NT Hc s' B ∧ Setting (rows ws) B ∧ ms.length ≤ i ∧ ∀ w ∈ ms, w.1 < 60 ∧ w.2 < 60)
      ⟨s, A, [], none, none, none, rfl, (rm_mono a s1).trans r0, ⟨_, _, _, w0⟩, hg0, hs0, SA, Nat.le_refl _, fun w h => nomatch h⟩ ?_ ?_⟩
    · rintro i σ Hc hi ⟨s', B, ms, v5, v6, v7, rfl, sc, ⟨x0, x1, x2, wc⟩, ⟨gas, hga, hgp⟩, hB, SB, lg, lt⟩
      have hqc : LL Hc q (rows ws) := (hq.same sc).same (rm_same Hc a)
      refine ⟨_, rfl, _, rfl, _, rfl, q, s', ws, B, far, rfl, hqc, hw, hl, hB, SB, fun H6 lm s6 nlm hlm => ?_⟩
      have w6 := s6 _ _ wc
      have sc6 := sc.trans (rm_mono a s6)
      have hgp6 := hgp.same s6
      have hga6 := s6 _ _ hga
      have hB6 := hB.same s6
      have lma : lm ≠ a := (ne_of_none wc nlm).symm
      refine ⟨_, rfl, (by show 0 ≤ sizeLine; decide), fun e0 ne0 => ?_⟩
      have se := same_new (o := HO.lst []) ne0
      refine ne_lp0 (hlm.same se) (show NL _ e0 [] from upd_same) ⟨_, rfl, ?_⟩
      have w7 := se _ _ w6
      have sc7 := sc6.trans (rm_mono a se)
      have hgp7 := hgp6.same se
      have hga7 := se _ _ hga6
      have hB7 := hB6.same se
      have hlm7 := hlm.same se
      generalize upd H6 e0 (HO.lst []) = H7 at w7 sc7 hgp7 hga7 hB7 hlm7
      by_cases hne : movesF ws far B = []
      · rw [decide_eq_false (fun h => h hne)]
        exact iteF ⟨s', B, ms, _, _, _, rfl, sc7, ⟨_, _, _, w7⟩, ⟨gas, hga7, hgp7⟩, hB7, SB, by omega, lt⟩
      · rw [decide_eq_true hne]
        have hpos := List.length_pos_iff.mpr hne
        obtain ⟨mas, hma, hmp⟩ := id hlm7
        have mll : mas.length = (movesF ws far B).length := hmp.1
        have mlen : (movesF ws far B).length ≤ 60 * 118 := by
          have g1 := movesL_len (f := nb (rows ws)) (g := gF ws far) (S := B) (n := 118) (gF_len ws hl far) B
          have g2 := set_len SB hl
          have g3 : B.length * 118 ≤ 60 * 118 := Nat.mul_le_mul_right _ g2
          exact Nat.le_trans g1 g3
        refine iteT ⟨_, rfl, _, rfl, _, rfl, lm, _, rfl, .inl (SqL.of hma), a, (movesF ws far B).length, (by rw [List.length_map, mll]; rfl), ⟨_, _, _, w7⟩, by omega, by omega, fun z p0 p1 p2 z0 z1 => ?_⟩
        have r1 : Same (rm H7 a) (rm (upd H7 a (HO.lst [V.int p0, V.int p1, V.int p2])) a) := sr_draw
        have w8 : upd H7 a (HO.lst [V.int p0, V.int p1, V.int p2]) a = some (HO.lst [V.int p0, V.int p1, V.int p2]) := upd_same
        have WE : Well H7 a := ⟨_, _, _, w7⟩
        have hB8 := sr_nt r1 WE hB7
        have hgp8 := pairs_sr r1 WE hgp7
        have hmp8 := pairs_sr r1 WE hmp
        have hga8 : upd H7 a (HO.lst [V.int p0, V.int p1, V.int p2]) g = some (.lst (gas.map V.ref)) := (upd_ne ga).trans hga7
        have hma8 : upd H7 a (HO.lst [V.int p0, V.int p1, V.int p2]) lm = some (.lst (mas.map V.ref)) := (upd_ne lma).trans hma
        generalize upd H7 a (HO.lst [V.int p0, V.int p1, V.int p2]) = H8 at r1 w8 hB8 hgp8 hmp8 hga8 hma8
        obtain ⟨ix, hix, rfl⟩ := nat_of z0 z1
        have hixm : ix < mas.length := by omega
        obtain ⟨t, ht⟩ : ∃ t, mas[ix]? = some t := ⟨_, List.getElem?_eq_getElem hixm⟩
        have eat : atI (mas.map V.ref) (ix : Int) = some (.ref t) := atI_nat (by rw [List.getElem?_map, ht]; rfl)
        obtain ⟨wv, hwv, htn⟩ : ∃ wv, wv ∈ movesF ws far B ∧ NT H8 t [wv.1, wv.2] := ⟨_, List.mem_of_getElem? (List.getElem?_eq_getElem hix), by
          have := hmp8.2 ix t ht
          rw [List.getD_eq_getElem?_getD, List.getElem?_eq_getElem hix] at this
          exact this⟩
        obtain ⟨room, goal⟩ := wv
        obtain ⟨rB, eg, esp⟩ := mem_movesL.mp hwv
        simp only at rB eg esp htn
        have rlt := set_lt SB room rB
        have elt := gF_lt hw eg
        obtain ⟨eS, barr⟩ := space_bar.mp esp
        have sc8 := sc7.trans r1
        refine ⟨lm, _, _, _, rfl, rfl, SqL.of hma8, eat, ?_⟩
        have i0 : atI ([room, goal].map vn) 0 = some (vn room) := rfl
        have i1 : atI ([room, goal].map vn) 1 = some (vn goal) := rfl
        have lU := set_len SB hl
        refine ⟨_, rfl, s', rfl, ⟨_, SqT.of hB8⟩, fun R0 nR => ?_⟩
        refine lc_gen (walk_tup (K := K) (a := s') (xs := B.map vn)) (B.map vn) (fun v => match v with | .int z => decide (z.toNat ≠ room) | _ => false) (fun v => v) nR rfl (by rw [List.length_map]; exact small1000 (by omega))
          (fun j Hc x H' _ _ y => ⟨y.1, y.2⟩) (fun Hc s => SqT.of (s _ _ hB8)) ?_ (fun v Hc R hv _ _ k => ⟨_, rfl, k Hc (.refl _)⟩) ?_
        · intro v He R hv se kR
          obtain ⟨x, hx, rfl⟩ := List.mem_map.mp hv
          have kR' : R (decide (x ≠ room)) He := kR He (.refl _)
          refine ⟨_, rfl, _, rfl, t, _, _, _, rfl, rfl, SqT.of (se _ _ htn), i0, rfl, _, rfl, ?_⟩
          rw [show (!decide (vn x = vn room)) = decide (x ≠ room) by rw [vn_dec, not_dec]]
          exact kR'
        intro H9 s9 hR9
        have hR9 : NL H9 R0 (B.filter fun x => decide (x ≠ room)) := by
          unfold NL
          rw [hR9, List.map_id', List.filter_map]
          rfl
        refine ⟨_, rfl, t, _, _, _, rfl, rfl, SqT.of (s9 _ _ htn), i1, (by show 1 ≤ sizeLine; decide), fun c1 nc1 => ?_⟩
        generalize hG10 : upd _ c1 _ = G10
        have s10 : Same H9 G10 := hG10 ▸ same_new nc1
        have hc1 : NL G10 c1 [goal] := hG10 ▸ upd_same
        clear hG10
        have fl := List.length_filter_le (fun x => decide (x ≠ room)) B
        refine ⟨R0, c1, _, _, rfl, rfl, SqL.of (hR9.same s10), SqL.of hc1, (by
          rw [List.length_map]
          show (B.filter fun x => decide (x ≠ room)).length + 1 ≤ sizeLine
          exact Nat.le_trans (show (B.filter fun x => decide (x ≠ room)).length + 1 ≤ 999 by omega) (by decide)), fun c2 nc2 => ?_⟩
        generalize hG11 : upd _ c2 _ = G11
        have s11 : Same G10 G11 := hG11 ▸ same_new nc2
        have hc2 : NL G11 c2 ((B.filter fun x => decide (x ≠ room)) ++ [goal]) := by
          show G11 c2 = _
          rw [← hG11, upd_same, List.map_append]
          try rfl
        clear hG11
        refine ⟨c2, ((B.filter fun x => decide (x ≠ room)) ++ [goal]).map fun (n : Nat) => (n : Int), rfl, (by rw [← vn_map]; exact SqL.of hc2), fun ns' p pm ri np => ?_⟩
        rw [srt_ints pm ri]
        generalize hG12 : upd _ p _ = G12
        have s12 : Same G11 G12 := hG12 ▸ same_new np
        have hp12 : NL G12 p (mv B room goal) := hG12 ▸ upd_same
        clear hG12
        refine ⟨p, _, rfl, .inl ⟨SqL.of hp12, fun r nr => ?_⟩⟩
        generalize hG13 : upd _ r _ = G13
        have s13 : Same G12 G13 := hG13 ▸ same_new nr
        have hr13 : NT G13 r (mv B room goal) := hG13 ▸ upd_same
        clear hG13
        have s813 : Same H8 G13 := s9.trans (s10.trans (s11.trans (s12.trans s13)))
        have hga13 := s813 _ _ hga8
        have ht13 := htn.same s813
        have gl : gas.length ≤ 40 := by
          rw [hgp.1]
          omega
        refine ⟨_, rfl, .inl ⟨rfl, _, SqL.of hga13⟩, _, rfl, ?_⟩
        refine ⟨g, _, _, rfl, rfl, hga13, by rw [List.length_map]; exact small1000 (by omega), ?_⟩
        have w13 := s813 _ _ w8
        have rg : r ≠ g := fun e => by
          rw [e] at hr13
          have z : G13 g = some (.tup _) := hr13
          rw [hga13] at z
          cases z
        refine ⟨r, mv B room goal, ms ++ [(room, goal)], _, _, _, rfl, sr_put (sc8.trans (rm_mono a s813)) ng, ⟨_, _, _, (upd_ne ga.symm).trans w13⟩, ⟨gas ++ [t], by rw [upd_same, List.map_append]; rfl, pairs_snoc ((hgp8.same s813).updQ hga13 (fun _ z => nomatch z)) (nt_updQ ht13 hga13 (fun _ z => nomatch z))⟩, nt_updQ hr13 hga13 (fun _ z => nomatch z), leap_set Gr SB rB (by rw [rows_length]; exact elt) eS barr, by rw [List.length_append]; show ms.length + 1 ≤ _; omega, fun w hm => ?_⟩
        rcases List.mem_append.mp hm with hm | hm
        · exact lt w hm
        · rw [List.mem_singleton.mp hm]
          exact ⟨by show room < 60; omega, by show goal < 60; omega⟩
    · rintro σ Hc ⟨s', B, ms, v5, v6, v7, rfl, sc, wc, hg, hB, SB, lg, lt⟩
      exact ⟨_, rfl, k _ g ms sc wc ga hg (by omega) lt⟩
end
end G

/-! repr of a list, a tuple of things of whatever kind, or of None. -/
namespace L2
open PySem PySem.Spec PyProof.Rows
/-- None, a text, a list, a tuple -/
def Top : PyData → Prop
  | .none => True
  | .str _ => True
  | .list _ => True
  | .tuple _ => True
  | _ => False
def rReprT : List V → Hp → VK → Prop := fun xs H Q => ∃ (v : V) (d : PyData), xs = [v] ∧ Dz H v d ∧ Top d ∧ d.showable = true ∧ d.depth ≤ 60 ∧ d.shown.length ≤ sizeLine ∧ Q (.str d.shown) H
section
variable {X : Cx}
theorem call_reprZ (hg : X.A.guards = some []) (hu : X.A.units + 80 < cLine) : CallR X (.builtin "repr") rReprT := by
  intro pins s σ H xs us Q I r h
  obtain ⟨v, d, rfl, hz, hk, hs, hd, hl, q⟩ := h
  obtain ⟨u, rfl, ru⟩ := vals1 r
  have fin : ∀ (h' : Heap) (t tk : Nat), (∀ b o, s.heap.get? b = some o → h'.get? b = some o) → ∃ (v' : V) (H' : Hp), Inv X pins σ H' { s with heap := h', toks := tk } ∧ RelV v' (Value.str d.shown t) ∧ Q v' H' := fun h' t tk hk => ⟨.str d.shown, H, I.kept hk, ⟨_, rfl⟩, q⟩
  cases hz with
  | lst h1 h2 =>
    rename_i a xs ds
    obtain rfl := ru
    obtain ⟨as, R⟩ := Dz.reads I (.lst h1 h2) rfl
    obtain ⟨its, v1, ⟨o, n, g, c, dd, t⟩, _⟩ := I.list (SqL.of h1)
    have hz' : (listText (PyData.shownAll ds)).length ≤ sizeLine := hl
    obtain ⟨bs, hb, hk⟩ := DzAll.reprk I h2 v1 hs fun t ht => Nat.le_trans (listText_mem_le ht) hz'
    have hna := not_mem_of_deeper R (show PyData.depthAll ds < PyData.depthAll ds + 1 by omega) hb
    have hd' : PyData.depthAll ds + 1 ≤ 60 := hd
    refine call_repr_slot (by omega) ⟨o, g, c⟩ F.slot_list_repr.toG ?_
    cases its with
    | nil =>
      cases v1
      cases h2
      exact call_list_repr_empty ⟨o, g, c⟩ g t ⟨_, _, rfl, fin s.heap _ _ fun _ _ e => e⟩
    | cons x l =>
      exact call_list_reprK g c t hna (by rw [ReprAllK.length_eq hk]; rfl) (fun i y e => ReprAllK.item hk i y (by simpa using e)) hg (fun b _ => Clear.nil b) (by show X.A.units + 1 + _ < _; omega) (fun _ _ e => e) (fun h' u tk hk => ⟨_, _, rfl, fin h' _ _ hk⟩) hz'
  | tup h1 h2 =>
    rename_i a xs ds
    obtain rfl := ru
    obtain ⟨as, R⟩ := Dz.reads I (.tup h1 h2) rfl
    obtain ⟨its, v1, ⟨o, g, c, n, t⟩, _⟩ := I.tuple (SqT.of h1)
    have hz' : (tupleText (PyData.shownAll ds)).length ≤ sizeLine := hl
    obtain ⟨bs, hb, hk⟩ := DzAll.reprk I h2 v1 hs fun t ht => Nat.le_trans (tupleText_mem_le ht) hz'
    have hna := not_mem_of_deeper R (show PyData.depthAll ds < PyData.depthAll ds + 1 by omega) hb
    have hd' : PyData.depthAll ds + 1 ≤ 60 := hd
    refine call_repr_slot (by omega) ⟨o, g, c⟩ F.slot_tuple_repr ?_
    exact call_tuple_reprK g c t hna hk hg (fun b _ => Clear.nil b) (by show X.A.units + 1 + _ < _; omega) (fun _ _ e => e) (fun h' u tk hk => ⟨_, _, rfl, fin h' _ _ hk⟩) hz'
  | non =>
    obtain rfl := ru
    exact P.repr_of_none ⟨.str "None", H, I.kept (h' := s.heap) (t' := s.toks + 1) (fun _ _ e => e), ⟨_, rfl⟩, q⟩
  | bl b => exact hk.elim
  | int i => exact hk.elim
  | str x =>
    obtain ⟨t, rfl⟩ := ru
    have hz' : (reprText x).length ≤ sizeLine := hl
    exact P.repr_of_str ⟨.str (reprText x), H, I.kept (h' := s.heap) (t' := s.toks + 1) (fun _ _ e => e), ⟨_, rfl⟩, q⟩ hz'
  | emp h => exact hk.elim
end
end L2

/-! Slices and joins of tuples of whatever things: one way on, whether the tuple itself comes back or a new one. -/
namespace G
open PySem L2
theorem cut_whole {xs : List V} {lo hi : Option Int} (h : HT.sIx xs.length 0 lo = 0 ∧ HT.sIx xs.length xs.length hi = xs.length) : cutV xs lo hi = xs := by
  unfold cutV
  rw [h.1, h.2, List.drop_zero, Nat.sub_zero, List.take_length]
theorem sl_any {K : PySem.W.Frag} {H : Hp} {a : Addr} {xs : List V} {lo hi : Option Int} {Q : VK} (h : H a = some (.tup xs)) (k : ∀ H' p, Same H H' → H' p = some (.tup (cutV xs lo hi)) → Q (.ref p) H') : rSlA K (.ref a) lo hi H Q := by
  refine ⟨a, xs, rfl, SqT.of h, fun hw => k H a (.refl _) ?_, fun _ p np => k _ p (same_new np) upd_same⟩
  rw [cut_whole hw]
  exact h
theorem cat_any {K : PySem.W.Frag} {H : Hp} {a b : Addr} {xs ys : List V} {Q : VK} (ha : H a = some (.tup xs)) (hb : H b = some (.tup ys)) (n : xs.length + ys.length ≤ 1000) (k : ∀ H' p, Same H H' → H' p = some (.tup (xs ++ ys)) → Q (.ref p) H') : rCatA K (.ref a) (.ref b) H Q := by
  refine ⟨a, b, xs, ys, rfl, rfl, SqT.of ha, SqT.of hb, Nat.le_trans n (by decide), fun e => ?_, fun _ e => ?_, fun _ _ p np => k _ p (same_new np) upd_same⟩
  · subst e
    exact k H b (.refl _) hb
  · subst e
    exact k H a (.refl _) (by rw [List.append_nil]; exact ha)
theorem dz_drop {H : Hp} : ∀ {xs : List V} {ds : List PyData} (i : Nat), DzAll H xs ds → DzAll H (xs.drop i) (ds.drop i)
  | _, _, 0, h => h
  | _, _, _ + 1, .nil => .nil
  | _, _, i + 1, .cons _ r => dz_drop i r
theorem dz_take {H : Hp} : ∀ {xs : List V} {ds : List PyData} (n : Nat), DzAll H xs ds → DzAll H (xs.take n) (ds.take n)
  | _, _, 0, _ => .nil
  | _, _, _ + 1, .nil => .nil
  | _, _, n + 1, .cons h r => .cons h (dz_take n r)
/-- a slice of things -/
theorem dz_cutV {H : Hp} {xs : List V} {ds : List PyData} (h : DzAll H xs ds) (lo hi : Option Int) : ∃ i n, cutV xs lo hi = (xs.drop i).take n ∧ DzAll H (cutV xs lo hi) ((ds.drop i).take n) :=
  ⟨_, _, rfl, dz_take _ (dz_drop _ h)⟩
theorem dz_appV {H : Hp} : ∀ {xs : List V} {ds : List PyData} {ys : List V} {es : List PyData}, DzAll H xs ds → DzAll H ys es → DzAll H (xs ++ ys) (ds ++ es)
  | _, _, _, _, .nil, k => k
  | _, _, _, _, .cons h r, k => .cons h (dz_appV r k)
theorem dz_revV {H : Hp} : ∀ {xs : List V} {ds : List PyData}, DzAll H xs ds → DzAll H xs.reverse ds.reverse
  | _, _, .nil => .nil
  | _, _, .cons h r => by
    rw [List.reverse_cons, List.reverse_cons]
    exact dz_appV (dz_revV r) (.cons h .nil)
/-- t[:-1], t[:-2] -/
theorem cut_neg (xs : List V) (n : Nat) (h : n + 1 ≤ xs.length) : cutV xs none (some (-((n : Int) + 1))) = xs.take (xs.length - (n + 1)) := by
  unfold cutV
  show (xs.drop 0).take ((if (-((n : Int) + 1)) < 0 then ((-((n : Int) + 1)) + (xs.length : Int)).toNat else min (-((n : Int) + 1)).toNat xs.length) - 0) = _
  rw [if_pos (by omega), List.drop_zero, Nat.sub_zero]
  congr 1
  omega
end G

/-! repr of a thing of whatever kind. -/
namespace L2
open PySem PySem.Spec PyProof.Rows
def rReprA : List V → Hp → VK → Prop := fun xs H Q => ∃ (v : V) (d : PyData), xs = [v] ∧ Dz H v d ∧ d.showable = true ∧ d.depth ≤ 60 ∧ d.shown.length ≤ sizeLine ∧ Q (.str d.shown) H
section
variable {X : Cx}
theorem call_reprA (hg : X.A.guards = some []) (hu : X.A.units + 80 < cLine) : CallR X (.builtin "repr") rReprA := by
  intro pins s σ H xs us Q I r h
  obtain ⟨v, d, rfl, hz, hs, hd, hl, q⟩ := h
  have old : Top d → wpAny (model X.prog X.w) X.A (call (.builtin "repr") us) (EP X pins σ Q) X.xe s := fun k => call_reprZ hg hu pins s σ H [v] us Q I r ⟨v, d, rfl, hz, k, hs, hd, hl, q⟩
  obtain ⟨u, rfl, ru⟩ := vals1 r
  have fin : ∀ (h' : Heap) (t tk : Nat), (∀ b o, s.heap.get? b = some o → h'.get? b = some o) → ∃ (v' : V) (H' : Hp), Inv X pins σ H' { s with heap := h', toks := tk } ∧ RelV v' (Value.str d.shown t) ∧ Q v' H' := fun h' t tk hk => ⟨.str d.shown, H, I.kept hk, ⟨_, rfl⟩, q⟩
  cases hz with
  | lst h1 h2 => exact old True.intro
  | tup h1 h2 => exact old True.intro
  | non => exact old True.intro
  | str x => exact old True.intro
  | bl b =>
    obtain rfl := ru
    refine P.repr_of_bool ?_
    have := fin s.heap s.toks (s.toks + 1) fun _ _ e => e
    cases b <;> exact this
  | int i =>
    obtain ⟨t, rfl⟩ := ru
    exact P.repr_of_int (of_decide_eq_true hs) (fin s.heap s.toks (s.toks + 1) fun _ _ e => e)
  | emp h =>
    rename_i a
    obtain rfl := ru
    obtain ⟨o, n, g, c, t, sm⟩ := emp_at I h
    have hR : Reads s.heap (.ref a) (.dict []) _ := .dict (as := []) (bs := []) (es := #[]) (kvs := []) g c t .nil .nil
    refine repr_of_reads' hR hs (fun _ m => ?_) hg (by omega) (fun _ _ e => e) (fun h' u tk hk => fin h' _ _ hk) hl
    have : sysModules = a := by simpa using m
    rw [this] at sm
    simp at sm
end
end L2

namespace G
open PySem L2 GM
/-- small data: that it can be shown, how deep, how long -/
def Sm (k m : Nat) (d : PyData) : Prop := d.showable = true ∧ d.depth ≤ k ∧ d.leavesShort 13 = true ∧ d.weight ≤ m
theorem Sm.mono {k m k' m' : Nat} {d : PyData} (h : Sm k m d) (hk : k ≤ k') (hm : m ≤ m') : Sm k' m' d := ⟨h.1, Nat.le_trans h.2.1 hk, h.2.2.1, Nat.le_trans h.2.2.2 hm⟩
theorem sm_all {k m : Nat} : ∀ {ds : List PyData}, (∀ d ∈ ds, Sm k m d) → PyData.showableAll ds = true ∧ PyData.depthAll ds ≤ k ∧ PyData.leavesShortAll 13 ds = true ∧ PyData.weightAll ds ≤ (m + 1) * ds.length
  | [], _ => ⟨rfl, Nat.zero_le _, rfl, Nat.zero_le _⟩
  | d :: ds, h => by
    obtain ⟨a1, a2, a3, a4⟩ := h d List.mem_cons_self
    obtain ⟨b1, b2, b3, b4⟩ := sm_all (ds := ds) fun e he => h e (List.mem_cons_of_mem _ he)
    refine ⟨?_, Nat.max_le.mpr ⟨a2, b2⟩, ?_, ?_⟩
    · show (d.showable && PyData.showableAll ds) = true
      rw [a1, b1]
      rfl
    · show (d.leavesShort 13 && PyData.leavesShortAll 13 ds) = true
      rw [a3, b3]
      rfl
    · show d.weight + 1 + PyData.weightAll ds ≤ _
      rw [List.length_cons, Nat.mul_succ]
      omega
theorem sm_list {k m n : Nat} {ds : List PyData} (h : ∀ d ∈ ds, Sm k m d) (hn : (m + 1) * ds.length ≤ n) : Sm (k + 1) n (.list ds) := by
  obtain ⟨a1, a2, a3, a4⟩ := sm_all h
  exact ⟨a1, Nat.succ_le_succ a2, a3, Nat.le_trans a4 hn⟩
theorem sm_tup {k m n : Nat} {ds : List PyData} (h : ∀ d ∈ ds, Sm k m d) (hn : (m + 1) * ds.length ≤ n) : Sm (k + 1) n (.tuple ds) := by
  obtain ⟨a1, a2, a3, a4⟩ := sm_all h
  exact ⟨a1, Nat.succ_le_succ a2, a3, Nat.le_trans a4 hn⟩
theorem sm_nat {n : Nat} (h : n < 1000) : Sm 0 10 (.int (n : Int)) := by
  have lg : n.log2 ≤ 9 := by
    by_cases z : n = 0
    · subst z
      decide
    · have := (Nat.log2_lt z (k := 10)).mpr (by omega)
      omega
  refine ⟨?_, Nat.le_refl _, ?_, ?_⟩
  · show decide ((n : Int).natAbs.log2 < 1920) = true
    rw [Int.natAbs_natCast, decide_eq_true_iff]
    omega
  · show decide ((PyData.shown (.int (n : Int))).length ≤ 13) = true
    rw [decide_eq_true_iff]
    exact PyData.shown_int_le (by
      rw [Int.natAbs_natCast]
      exact Nat.lt_of_lt_of_le h (by decide))
  · show (if ((n : Int) == 0) = true then 0 else (n : Int).natAbs.log2 + 1) ≤ 10
    split
    · omega
    · rw [Int.natAbs_natCast]
      omega
theorem sm_non : Sm 0 10 .none := ⟨rfl, Nat.le_refl _, rfl, Nat.zero_le _⟩
theorem sm_bl (b : Bool) : Sm 0 10 (.bool b) := ⟨rfl, Nat.le_refl _, rfl, Nat.zero_le _⟩
theorem sm_str0 : Sm 0 10 (.str "0") := ⟨rfl, Nat.le_refl _, by decide +kernel, by decide +kernel⟩
theorem sm_emp : Sm 2 200 (.dict []) := ⟨rfl, by decide, rfl, Nat.zero_le _⟩
/-- a small thing that may stand in a row -/
def Mv (d : PyData) : Prop := Sm 2 40 d ∧ d.canLay0 = true
theorem atI_all {Pr : V → Prop} {xs : List V} (h : ∀ x ∈ xs, Pr x) {i : Int} (h0 : 0 ≤ i) (h1 : i < (xs.length : Int)) : ∃ v, atI xs i = some v ∧ Pr v := by
  obtain ⟨j, rfl⟩ : ∃ j : Nat, i = (j : Int) := ⟨i.toNat, by omega⟩
  have hj : j < xs.length := by omega
  have e := List.getElem?_eq_getElem hj
  exact ⟨_, atI_nat e, h _ (List.mem_of_getElem? e)⟩
theorem rm_new {H : Hp} {a p : Addr} {o o' : HO} (w : H a = some o) (n : H p = none) : rm (upd H p o') a p = some o' := by
  rw [rm_ne (ne_of_none w n).symm]
  exact upd_same
theorem all_some {P1 : PyData → Prop} {xs : List PyData} (h : ∀ d ∈ xs, P1 d) (i n : Nat) : ∀ d ∈ (xs.drop i).take n, P1 d := fun d hd => h d (List.mem_of_mem_drop (List.mem_of_mem_take hd))
theorem len_some {α : Type} (xs : List α) (i n : Nat) : ((xs.drop i).take n).length ≤ xs.length := by
  rw [List.length_take, List.length_drop]
  omega
theorem well_same {H H' : Hp} {a : Addr} (w : Well H a) (s : Same H H') : Well H' a := by
  obtain ⟨x, y, z, h⟩ := w
  exact ⟨x, y, z, s _ _ h⟩
theorem cut_le (xs : List V) (lo hi : Option Int) : (cutV xs lo hi).length ≤ xs.length := by
  unfold cutV
  rw [List.length_take, List.length_drop]
  omega
/-- a list of small things -/
def Bl (H : Hp) (t : Addr) (n : Nat) : Prop := ∃ xs ds, H t = some (.lst xs) ∧ DzAll H xs ds ∧ (∀ d ∈ ds, Mv d) ∧ ds.length ≤ n
def Thg (H : Hp) (v : V) : Prop := ∃ d, Dz H v d ∧ Mv d
theorem Bl.same {H H' : Hp} {t : Addr} {n : Nat} (h : Bl H t n) (s : Same H H') : Bl H' t n := by
  obtain ⟨xs, ds, h1, h2, h3⟩ := h
  exact ⟨xs, ds, s _ _ h1, h2.same s, h3⟩
theorem Thg.same {H H' : Hp} {v : V} (h : Thg H v) (s : Same H H') : Thg H' v := by
  obtain ⟨d, z, r⟩ := h
  exact ⟨d, z.same s, r⟩
theorem bl_new {H : Hp} {a p : Addr} {xs : List V} {ds : List PyData} {n : Nat} (w : Well H a) (np : H p = none) (h : DzAll (rm H a) xs ds) (s : ∀ d ∈ ds, Mv d) (l : ds.length ≤ n) : Bl (rm (upd H p (.lst xs)) a) p n := by
  obtain ⟨x, y, z, e⟩ := w
  exact ⟨xs, ds, rm_new e np, h.same (rm_mono a (same_new np)), s, l⟩
theorem bl_sl {K : PySem.W.Frag} {H : Hp} {a s : Addr} {n m : Nat} {lo hi : Option Int} {Q : VK} (w : Well H a) (h : Bl (rm H a) s n) (hm : ∀ (xs : List V), xs.length ≤ n → (cutV xs lo hi).length ≤ m) (k : ∀ H' p, Same H H' → Well H' a → Bl (rm H' a) p m → Q (.ref p) H') : rSlL K (.ref s) lo hi H Q := by
  obtain ⟨xs, ds, h1, h2, h3, h4⟩ := h
  have el := DzAll.len h2
  refine ⟨s, xs, rfl, SqL.of (rm_same H a _ _ h1), fun p np => ?_⟩
  obtain ⟨i, j, e, z⟩ := dz_cutV h2 lo hi
  refine k _ p (same_new np) (well_same w (same_new np)) (bl_new w np z (all_some h3 i j) ?_)
  rw [← DzAll.len z]
  exact hm xs (by omega)
theorem bl_cat {K : PySem.W.Frag} {H : Hp} {a s t : Addr} {n m : Nat} {Q : VK} (w : Well H a) (ha : Bl (rm H a) s n) (hb : Bl (rm H a) t m) (l : n + m ≤ 1000) (k : ∀ H' p, Same H H' → Well H' a → Bl (rm H' a) p (n + m) → Q (.ref p) H') : rCatR K (.ref s) (.ref t) H Q := by
  obtain ⟨xs, ds, h1, h2, h3, h4⟩ := ha
  obtain ⟨ys, es, g1, g2, g3, g4⟩ := hb
  have el := DzAll.len h2
  have el2 := DzAll.len g2
  refine ⟨s, t, xs, ys, rfl, rfl, SqL.of (rm_same H a _ _ h1), SqL.of (rm_same H a _ _ g1), Nat.le_trans (show xs.length + ys.length ≤ 1000 by omega) (by decide), fun p np => ?_⟩
  refine k _ p (same_new np) (well_same w (same_new np)) (bl_new w np (dz_appV h2 g2) (fun d hd => (List.mem_append.mp hd).elim (h3 d) (g3 d)) ?_)
  rw [List.length_append]
  omega
theorem bl_one {H : Hp} {a p : Addr} {v : V} (w : Well H a) (th : Thg (rm H a) v) (np : H p = none) : Bl (rm (upd H p (.lst [v])) a) p 1 := by
  obtain ⟨d, z, sm⟩ := th
  exact bl_new w np (.cons z .nil) (fun e he => by rw [List.mem_singleton.mp he]; exact sm) (Nat.le_refl _)
theorem bl_rev {H : Hp} {a p s : Addr} {xs : List V} {n : Nat} (w : Well H a) (h : Bl (rm H a) s n) (hx : H s = some (.lst xs)) (np : H p = none) : Bl (rm (upd H p (.lst xs.reverse)) a) p n := by
  obtain ⟨ys, ds, h1, h2, h3, h4⟩ := h
  have e := rm_same H a _ _ h1
  rw [hx] at e
  cases e
  exact bl_new w np (dz_revV h2) (fun d hd => h3 d (List.mem_reverse.mp hd)) (by rw [List.length_reverse]; exact h4)
theorem Bl.mono {H : Hp} {t : Addr} {n m : Nat} (h : Bl H t n) (l : n ≤ m) : Bl H t m := by
  obtain ⟨xs, ds, h1, h2, h3, h4⟩ := h
  exact ⟨xs, ds, h1, h2, h3, Nat.le_trans h4 l⟩
theorem sm_neg : Sm 0 10 (.int (-1)) := ⟨by decide +kernel, Nat.le_refl _, by decide +kernel, by decide +kernel⟩
theorem sm0 {d : PyData} (h : Sm 0 10 d) : Sm 1 11 d := h.mono (by decide) (by decide)
theorem mv_tup {ds : List PyData} (s : ∀ d ∈ ds, Sm 0 10 d) (n : ds.length ≤ 3) (c : PyData.canLayAll0 ds = true) : Mv (.tuple ds) := ⟨sm_tup (m := 11) (fun d hd => sm0 (s d hd)) (by omega), c⟩
theorem mv_lst {ds : List PyData} (s : ∀ d ∈ ds, Sm 0 10 d) (n : ds.length ≤ 3) (c : PyData.canLayAll0 ds = true) : Mv (.list ds) := ⟨sm_list (m := 11) (fun d hd => sm0 (s d hd)) (by omega), c⟩
theorem mv_non : Mv .none := ⟨sm_non.mono (by decide) (by decide), rfl⟩
theorem thg_tup {H : Hp} {a p : Addr} {xs : List V} {ds : List PyData} (w : Well H a) (np : H p = none) (h : DzAll (rm H a) xs ds) (s : ∀ d ∈ ds, Sm 0 10 d) (n : ds.length ≤ 3) (c : PyData.canLayAll0 ds = true) : Thg (rm (upd H p (.tup xs)) a) (.ref p) := by
  obtain ⟨x, y, z, e⟩ := w
  exact ⟨_, .tup (rm_new e np) (h.same (rm_mono a (same_new np))), mv_tup s n c⟩
theorem thg_lst {H : Hp} {a p : Addr} {xs : List V} {ds : List PyData} (w : Well H a) (np : H p = none) (h : DzAll (rm H a) xs ds) (s : ∀ d ∈ ds, Sm 0 10 d) (n : ds.length ≤ 3) (c : PyData.canLayAll0 ds = true) : Thg (rm (upd H p (.lst xs)) a) (.ref p) := by
  obtain ⟨x, y, z, e⟩ := w
  exact ⟨_, .lst (rm_new e np) (h.same (rm_mono a (same_new np))), mv_lst s n c⟩
def spBent3 : Sp := fun vs H Q _ => ∃ (a q l : Addr) (n : Nat) (ws : List Way), vs = [.ref a, .ref q, .ref l] ∧ Well H a ∧ LL (rm H a) q (rows ws) ∧ ws.length ≤ 59 ∧ Bl (rm H a) l n ∧ n ≤ 200 ∧
  ∀ H' t, Same (rm H a) (rm H' a) → Well H' a → Bl (rm H' a) t (3 * n + 1) → Q (.ref t) H'
section
variable {P : Program} {w : World} {K : PySem.W.Frag} {mg : Str → Option Value} {base : Heap} {C : Addr}
theorem scBent3 : FnScope ["well", "near", "moves", "at", "one", "other", "odd", "way"] ["well", "near", "moves"] (defScope s__law_bent) := ⟨rfl, rfl, rfl, by decide +kernel, rfl, by decide +kernel, by decide +kernel⟩
theorem ok_bent3 {f : Addr} {fd : FuncData} (F : Fun K "_law_bent" "_law_bent" s__law_bent f fd) (T : TxL K mg) (L_law_draw : Cal P w K mg base "_law_draw" 1 ["well", "many"] spDraw) : FnOk P w K mg base CX0 2 f fd ["well", "near", "moves"] spBent3 := by
  refine F.ok scBent3 (fun vs H Q E h => ?_) (fun cdv A outer s H vs Q E hr h => ?_)
  · obtain ⟨a, q, l, n, ws, rfl, _⟩ := h
    rfl
  · obtain ⟨a, q, l, n, ws, rfl, hW, hq, hl, hB, hn, k⟩ := h
    have hu := hr.units
    refine ⟨_, (pss_cons (ps_set (i := 3) scBent3.nd rfl (Or.inl rfl) (L_law_draw.pe (hr.mono (by decide)) rfl (pa_cons (pv 0) (pa_cons (pe_op op_add (pe_callB call_len_seq (by rfl) T.len PySem.boot_len (pa_cons (pv 2) pa_nil)) pe_int) pa_nil))))
      (pss_cons (ps_par (i := 4) (j := 5) (by rfl) scBent3.nd rfl rfl (by decide) rfl rfl (pa_cons (L_law_draw.pe (hr.mono (by decide)) rfl (pa_cons (pv 0) (pa_cons (pe_callB call_len_seq (by rfl) T.len PySem.boot_len (pa_cons (pv 1) pa_nil)) pa_nil))) (pa_cons (L_law_draw.pe (hr.mono (by decide)) rfl (pa_cons (pv 0) (pa_cons (pe_callB call_len_seq (by rfl) T.len PySem.boot_len (pa_cons (pv 1) pa_nil)) pa_nil))) pa_nil)) (by rfl))
      (pss_cons (ps_set (i := 6) scBent3.nd rfl (Or.inl rfl) (pe_lst (pa_cons (pe_tup (pa_cons (pv 4) (pa_cons (pv 5) pa_nil))) (pa_cons (pe_tup (pa_cons (pv 4) (pa_cons (pv 4) pa_nil))) (pa_cons (pe_lst (pa_cons (pv 4) (pa_cons (pv 5) pa_nil))) (pa_cons (pe_tup (pa_cons (pv 4) pa_nil)) (pa_cons (pe_tup (pa_cons (pv 4) (pa_cons (pv 5) (pa_cons pe_int pa_nil)))) (pa_cons (pe_tup (pa_cons (pv 4) (pa_cons (pe_callB call_len_seq (by rfl) T.len PySem.boot_len (pa_cons (pv 1) pa_nil)) pa_nil))) pa_nil))))))))
      (pss_cons (ps_set (i := 6) scBent3.nd rfl (Or.inl rfl) (pe_op op_catR (pv 6) (pe_lst (pa_cons (pe_tup (pa_cons (pe_un un_neg pe_int) (pa_cons (pv 5) pa_nil))) (pa_cons pe_non (pa_cons (pe_tup (pa_cons pe_bl (pa_cons (pv 5) pa_nil))) pa_nil))))))
      (pss_cons (ps_set (i := 7) scBent3.nd rfl (Or.inl rfl) (L_law_draw.pe (hr.mono (by decide)) rfl (pa_cons (pv 0) (pa_cons pe_int pa_nil))))
      (pss_cons (ps_if (pt_cmpR op_eq (pv 7) pe_int (nomark _)) (pss_one (ps_ret (pe_op op_catR (pe_slice sl_list (pv 2) po_none (po_some (pv 3))) (pe_slice sl_list (pv 2) (po_some (pe_op op_add (pv 3) pe_int)) po_none)))) pss_nil)
      (pss_cons (ps_if (pt_cmpR op_eq (pv 7) pe_int (nomark _)) (pss_one (ps_ret (pe_op op_catR (pe_op op_catR (pe_slice sl_list (pv 2) po_none (po_some (pv 3))) (pe_revL (pe_slice sl_list (pv 2) (po_some (pv 3)) (po_some (pe_op op_add (pv 3) pe_int))))) (pe_slice sl_list (pv 2) (po_some (pe_op op_add (pv 3) pe_int)) po_none)))) pss_nil)
      (pss_one (ps_ret (pe_op op_catR (pe_op op_catR (pe_slice sl_list (pv 2) po_none (po_some (pv 3))) (pe_lst (pa_cons (pe_ix ix_list (pv 6) (L_law_draw.pe (hr.mono (by decide)) rfl (pa_cons (pv 0) (pa_cons pe_int pa_nil))) (fun _ _ => rfl)) pa_nil))) (pe_slice sl_list (pv 2) (po_some (pv 3)) po_none))))))))))), ?_⟩
    obtain ⟨u0, u1, u2, hW⟩ := hW
    obtain ⟨ps, es, hp1, hp2, hp3, hp4⟩ := id hB
    have epl := DzAll.len hp2
    refine ⟨_, rfl, _, rfl, l, _, rfl, .inl (SqL.of (rm_same H a _ _ hp1)), _, _, rfl, rfl, a, _, rfl, ⟨_, _, _, hW⟩, by omega, by omega, fun at0 p0 p1 p2 at00 at01 => ?_⟩
    have s1 : Same (rm H a) (rm (upd H a (HO.lst [V.int p0, V.int p1, V.int p2])) a) := sr_draw
    have w1 : Well (upd H a (HO.lst [V.int p0, V.int p1, V.int p2])) a := ⟨_, _, _, upd_same⟩
    generalize upd H a (HO.lst [V.int p0, V.int p1, V.int p2]) = H1 at s1 w1
    obtain ⟨qas, hqa, hqA⟩ := id ((hq.same s1).same (rm_same H1 a))
    have el5 : (qas.map V.ref).length = ws.length + 1 := by rw [List.length_map, hqA.1, rows_length]
    refine ⟨_, rfl, _, rfl, q, _, rfl, .inl (SqL.of hqa), a, ws.length + 1, (by rw [el5]; rfl), w1, by omega, by omega, fun x p0 p1 p2 x0 x1 => ?_⟩
    have s2 : Same (rm H1 a) (rm (upd H1 a (HO.lst [V.int p0, V.int p1, V.int p2])) a) := sr_draw
    have w2 : Well (upd H1 a (HO.lst [V.int p0, V.int p1, V.int p2])) a := ⟨_, _, _, upd_same⟩
    generalize upd H1 a (HO.lst [V.int p0, V.int p1, V.int p2]) = H2 at s2 w2
    obtain ⟨qas, hqa, hqA⟩ := id ((hq.same (s1.trans s2)).same (rm_same H2 a))
    have el5 : (qas.map V.ref).length = ws.length + 1 := by rw [List.length_map, hqA.1, rows_length]
    refine ⟨_, rfl, _, rfl, q, _, rfl, .inl (SqL.of hqa), a, ws.length + 1, (by rw [el5]; rfl), w2, by omega, by omega, fun y p0 p1 p2 y0 y1 => ?_⟩
    have s3 : Same (rm H2 a) (rm (upd H2 a (HO.lst [V.int p0, V.int p1, V.int p2])) a) := sr_draw
    have w3 : Well (upd H2 a (HO.lst [V.int p0, V.int p1, V.int p2])) a := ⟨_, _, _, upd_same⟩
    generalize upd H2 a (HO.lst [V.int p0, V.int p1, V.int p2]) = H3 at s3 w3
    obtain ⟨xn, hxn, rfl⟩ := nat_of x0 (show x < ((ws.length + 1 : Nat) : Int) by omega)
    obtain ⟨yn, hyn, rfl⟩ := nat_of y0 (show y < ((ws.length + 1 : Nat) : Int) by omega)
    have s03 := s1.trans (s2.trans s3)
    obtain ⟨qas, hqa, hqA⟩ := id ((hq.same s03).same (rm_same H3 a))
    have el5 : (qas.map V.ref).length = ws.length + 1 := by rw [List.length_map, hqA.1, rows_length]
    refine ⟨_, _, rfl, _, rfl, _, rfl, (by show 2 ≤ sizeLine; decide), fun c0 nc0 => ?_⟩
    generalize hE0 : upd _ c0 _ = E0
    have thc0 : Thg (rm E0 a) (.ref c0) := hE0 ▸ thg_tup w3 nc0 (.cons (.int _) (.cons (.int _) .nil)) (fun d hd => by
      simp only [List.mem_cons, List.not_mem_nil, or_false] at hd
      rcases hd with rfl | rfl
      · exact sm_nat (n := xn) (by omega)
      · exact sm_nat (n := yn) (by omega)) (by show 2 ≤ 3; decide) rfl
    have sE0 : Same H3 E0 := hE0 ▸ same_new nc0
    have wE0 : Well E0 a := well_same w3 sE0
    clear hE0
    refine ⟨_, rfl, _, rfl, (by show 2 ≤ sizeLine; decide), fun c1 nc1 => ?_⟩
    generalize hE1 : upd _ c1 _ = E1
    have thc1 : Thg (rm E1 a) (.ref c1) := hE1 ▸ thg_tup wE0 nc1 (.cons (.int _) (.cons (.int _) .nil)) (fun d hd => by
      simp only [List.mem_cons, List.not_mem_nil, or_false] at hd
      rcases hd with rfl | rfl
      · exact sm_nat (n := xn) (by omega)
      · exact sm_nat (n := xn) (by omega)) (by show 2 ≤ 3; decide) rfl
    have sE1 : Same E0 E1 := hE1 ▸ same_new nc1
    have wE1 : Well E1 a := well_same wE0 sE1
    clear hE1
    have thc0 := thc0.same (rm_mono a sE1)
    refine ⟨_, rfl, _, rfl, (by show 2 ≤ sizeLine; decide), fun c2 nc2 => ?_⟩
    generalize hE2 : upd _ c2 _ = E2
    have thc2 : Thg (rm E2 a) (.ref c2) := hE2 ▸ thg_lst wE1 nc2 (.cons (.int _) (.cons (.int _) .nil)) (fun d hd => by
      simp only [List.mem_cons, List.not_mem_nil, or_false] at hd
      rcases hd with rfl | rfl
      · exact sm_nat (n := xn) (by omega)
      · exact sm_nat (n := yn) (by omega)) (by show 2 ≤ 3; decide) rfl
    have sE2 : Same E1 E2 := hE2 ▸ same_new nc2
    have wE2 : Well E2 a := well_same wE1 sE2
    clear hE2
    have thc0 := thc0.same (rm_mono a sE2)
    have thc1 := thc1.same (rm_mono a sE2)
    refine ⟨_, rfl, (by show 1 ≤ sizeLine; decide), fun c3 nc3 => ?_⟩
    generalize hE3 : upd _ c3 _ = E3
    have thc3 : Thg (rm E3 a) (.ref c3) := hE3 ▸ thg_tup wE2 nc3 (.cons (.int _) .nil) (fun d hd => by
      rw [List.mem_singleton.mp hd]
      exact sm_nat (n := xn) (by omega)) (by show 1 ≤ 3; decide) rfl
    have sE3 : Same E2 E3 := hE3 ▸ same_new nc3
    have wE3 : Well E3 a := well_same wE2 sE3
    clear hE3
    have thc0 := thc0.same (rm_mono a sE3)
    have thc1 := thc1.same (rm_mono a sE3)
    have thc2 := thc2.same (rm_mono a sE3)
    refine ⟨_, rfl, _, rfl, (by show 3 ≤ sizeLine; decide), fun c4 nc4 => ?_⟩
    generalize hE4 : upd _ c4 _ = E4
    have thc4 : Thg (rm E4 a) (.ref c4) := hE4 ▸ thg_tup wE3 nc4 (.cons (.int _) (.cons (.int _) (.cons (.int _) .nil))) (fun d hd => by
      simp only [List.mem_cons, List.not_mem_nil, or_false] at hd
      rcases hd with rfl | rfl | rfl
      · exact sm_nat (n := xn) (by omega)
      · exact sm_nat (n := yn) (by omega)
      · exact sm_nat (n := 0) (by decide)) (by show 3 ≤ 3; decide) rfl
    have sE4 : Same E3 E4 := hE4 ▸ same_new nc4
    have wE4 : Well E4 a := well_same wE3 sE4
    clear hE4
    have thc0 := thc0.same (rm_mono a sE4)
    have thc1 := thc1.same (rm_mono a sE4)
    have thc2 := thc2.same (rm_mono a sE4)
    have thc3 := thc3.same (rm_mono a sE4)
    refine ⟨_, rfl, _, rfl, q, _, rfl, .inl (SqL.of ((sE0.trans (sE1.trans (sE2.trans (sE3.trans sE4)))) _ _ hqa)), (by show 2 ≤ sizeLine; decide), fun c5 nc5 => ?_⟩
    generalize hE5 : upd _ c5 _ = E5
    have thc5 : Thg (rm E5 a) (.ref c5) := hE5 ▸ thg_tup wE4 nc5 (.cons (.int _) (.cons (.int _) .nil)) (fun d hd => by
      simp only [List.mem_cons, List.not_mem_nil, or_false] at hd
      rcases hd with rfl | rfl
      · exact sm_nat (n := xn) (by omega)
      · exact (by rw [el5]; exact sm_nat (n := ws.length + 1) (by omega))) (by show 2 ≤ 3; decide) rfl
    have sE5 : Same E4 E5 := hE5 ▸ same_new nc5
    have wE5 : Well E5 a := well_same wE4 sE5
    clear hE5
    have thc0 := thc0.same (rm_mono a sE5)
    have thc1 := thc1.same (rm_mono a sE5)
    have thc2 := thc2.same (rm_mono a sE5)
    have thc3 := thc3.same (rm_mono a sE5)
    have thc4 := thc4.same (rm_mono a sE5)
    refine ⟨(by show 6 ≤ sizeLine; decide), fun l1 nl1 => ?_⟩
    generalize hXl1 : upd _ l1 _ = Xl1
    have sXl1 : Same E5 Xl1 := hXl1 ▸ same_new nl1
    have hl1 : Xl1 l1 = some (.lst [.ref c0, .ref c1, .ref c2, .ref c3, .ref c4, .ref c5]) := hXl1 ▸ upd_same
    have wXl1 : Well Xl1 a := well_same wE5 sXl1
    clear hXl1
    have thc0 := thc0.same (rm_mono a sXl1)
    have thc1 := thc1.same (rm_mono a sXl1)
    have thc2 := thc2.same (rm_mono a sXl1)
    have thc3 := thc3.same (rm_mono a sXl1)
    have thc4 := thc4.same (rm_mono a sXl1)
    have thc5 := thc5.same (rm_mono a sXl1)
    refine ⟨_, rfl, ?_⟩
    refine ⟨1, rfl, _, rfl, (by show 2 ≤ sizeLine; decide), fun c6 nc6 => ?_⟩
    generalize hE6 : upd _ c6 _ = E6
    have thc6 : Thg (rm E6 a) (.ref c6) := hE6 ▸ thg_tup wXl1 nc6 (.cons (.int _) (.cons (.int _) .nil)) (fun d hd => by
      simp only [List.mem_cons, List.not_mem_nil, or_false] at hd
      rcases hd with rfl | rfl
      · exact sm_neg
      · exact sm_nat (n := yn) (by omega)) (by show 2 ≤ 3; decide) rfl
    have sE6 : Same Xl1 E6 := hE6 ▸ same_new nc6
    have wE6 : Well E6 a := well_same wXl1 sE6
    clear hE6
    have thc0 := thc0.same (rm_mono a sE6)
    have thc1 := thc1.same (rm_mono a sE6)
    have thc2 := thc2.same (rm_mono a sE6)
    have thc3 := thc3.same (rm_mono a sE6)
    have thc4 := thc4.same (rm_mono a sE6)
    have thc5 := thc5.same (rm_mono a sE6)
    refine ⟨_, rfl, (by show 2 ≤ sizeLine; decide), fun c7 nc7 => ?_⟩
    generalize hE7 : upd _ c7 _ = E7
    have thc7 : Thg (rm E7 a) (.ref c7) := hE7 ▸ thg_tup wE6 nc7 (.cons (.bl _) (.cons (.int _) .nil)) (fun d hd => by
      simp only [List.mem_cons, List.not_mem_nil, or_false] at hd
      rcases hd with rfl | rfl
      · exact sm_bl _
      · exact sm_nat (n := yn) (by omega)) (by show 2 ≤ 3; decide) rfl
    have sE7 : Same E6 E7 := hE7 ▸ same_new nc7
    have wE7 : Well E7 a := well_same wE6 sE7
    clear hE7
    have thc0 := thc0.same (rm_mono a sE7)
    have thc1 := thc1.same (rm_mono a sE7)
    have thc2 := thc2.same (rm_mono a sE7)
    have thc3 := thc3.same (rm_mono a sE7)
    have thc4 := thc4.same (rm_mono a sE7)
    have thc5 := thc5.same (rm_mono a sE7)
    have thc6 := thc6.same (rm_mono a sE7)
    refine ⟨(by show 3 ≤ sizeLine; decide), fun l2 nl2 => ?_⟩
    generalize hXl2 : upd _ l2 _ = Xl2
    have sXl2 : Same E7 Xl2 := hXl2 ▸ same_new nl2
    have hl2 : Xl2 l2 = some (.lst [.ref c6, .non, .ref c7]) := hXl2 ▸ upd_same
    have wXl2 : Well Xl2 a := well_same wE7 sXl2
    clear hXl2
    have thc0 := thc0.same (rm_mono a sXl2)
    have thc1 := thc1.same (rm_mono a sXl2)
    have thc2 := thc2.same (rm_mono a sXl2)
    have thc3 := thc3.same (rm_mono a sXl2)
    have thc4 := thc4.same (rm_mono a sXl2)
    have thc5 := thc5.same (rm_mono a sXl2)
    have thc6 := thc6.same (rm_mono a sXl2)
    have thc7 := thc7.same (rm_mono a sXl2)
    refine ⟨l1, l2, _, _, rfl, rfl, SqL.of ((sE6.trans (sE7.trans sXl2)) _ _ hl1), SqL.of hl2, (by show 9 ≤ sizeLine; decide), fun st nst => ?_⟩
    generalize hX : upd _ st _ = X0
    have sX : Same Xl2 X0 := hX ▸ same_new nst
    have hst : X0 st = some (.lst [.ref c0, .ref c1, .ref c2, .ref c3, .ref c4, .ref c5, .ref c6, .non, .ref c7]) := hX ▸ upd_same
    have wX : Well X0 a := well_same wXl2 sX
    have sta : st ≠ a := by
      obtain ⟨x, y, z, e⟩ := wXl2
      exact (ne_of_none e nst).symm
    clear hX
    have thA : ∀ x ∈ [(.ref c0 : V), (.ref c1 : V), (.ref c2 : V), (.ref c3 : V), (.ref c4 : V), (.ref c5 : V), (.ref c6 : V), (.non : V), (.ref c7 : V)], Thg (rm X0 a) x := fun x hx => by
      simp only [List.mem_cons, List.not_mem_nil, or_false] at hx
      rcases hx with rfl | rfl | rfl | rfl | rfl | rfl | rfl | rfl | rfl
      · exact thc0.same (rm_mono a sX)
      · exact thc1.same (rm_mono a sX)
      · exact thc2.same (rm_mono a sX)
      · exact thc3.same (rm_mono a sX)
      · exact thc4.same (rm_mono a sX)
      · exact thc5.same (rm_mono a sX)
      · exact thc6.same (rm_mono a sX)
      · exact ⟨_, .non, mv_non⟩
      · exact thc7.same (rm_mono a sX)
    have sE : Same H3 X0 := (sE0.trans (sE1.trans (sE2.trans (sE3.trans (sE4.trans (sE5.trans (sXl1.trans (sE6.trans (sE7.trans (sXl2.trans sX))))))))))
    have s0X := s03.trans (rm_mono a sE)
    refine ⟨_, rfl, a, 4, rfl, wX, by decide, by decide, fun wy p0 p1 p2 wy0 wy1 => ?_⟩
    have s4 : Same (rm X0 a) (rm (upd X0 a (HO.lst [V.int p0, V.int p1, V.int p2])) a) := sr_draw
    have w4 : Well (upd X0 a (HO.lst [V.int p0, V.int p1, V.int p2])) a := ⟨_, _, _, upd_same⟩
    have hst4 : upd X0 a (HO.lst [V.int p0, V.int p1, V.int p2]) st = _ := (upd_ne sta).trans hst
    generalize upd X0 a (HO.lst [V.int p0, V.int p1, V.int p2]) = H4 at s4 w4 hst4
    have thB : ∀ x ∈ _, Thg (rm H4 a) x := fun x hx => (thA x hx).same s4
    have s04 : Same (rm H a) (rm H4 a) := s0X.trans s4
    have b3 := hB.same s04
    have any : ∀ {lo hi : Option Int} (xs : List V), xs.length ≤ n → (cutV xs lo hi).length ≤ n := fun xs h => Nat.le_trans (cut_le xs _ _) h
    refine ⟨_, rfl, rfl, _, rfl, ite2 (fun _ => ?_) (fun _ => ?_)⟩
    · refine ⟨_, rfl, _, rfl, _, rfl, ?_⟩
      refine bl_sl (K := K) w4 b3 any fun A1 p1 z1 wa1 c1 => ?_
      refine ⟨_, rfl, _, rfl, _, _, rfl, rfl, _, rfl, ?_⟩
      unfold tNoPart
      refine bl_sl (K := K) wa1 (b3.same (rm_mono a z1)) any fun A2 p2 z2 wa2 c2 => ?_
      refine bl_cat (K := K) wa2 (c1.same (rm_mono a z2)) c2 (by omega) fun A3 p3 z3 wa3 c3 => ?_
      exact k A3 p3 (s04.trans (rm_mono a (z1.trans (z2.trans z3)))) wa3 (c3.mono (by omega))
    · refine ⟨_, rfl, rfl, _, rfl, ite2 (fun _ => ?_) (fun _ => ?_)⟩
      · refine ⟨_, rfl, _, rfl, _, rfl, ?_⟩
        refine bl_sl (K := K) w4 b3 any fun A1 p1 z1 wa1 c1 => ?_
        refine ⟨_, rfl, _, rfl, _, rfl, _, rfl, _, _, rfl, rfl, _, rfl, ?_⟩
        refine bl_sl (K := K) wa1 (b3.same (rm_mono a z1)) any fun A2 p2 z2 wa2 c2 => ?_
        obtain ⟨ys, es2, g1, _⟩ := id c2
        have g1' := rm_same A2 a _ _ g1
        refine ⟨p2, _, rfl, SqL.of g1', fun p3 np3 => ?_⟩
        have c3 := bl_rev wa2 c2 g1' np3
        have z3 : Same A2 (upd A2 p3 (HO.lst ys.reverse)) := same_new np3
        have wa3 := well_same wa2 z3
        generalize upd A2 p3 (HO.lst ys.reverse) = A3 at c3 z3 wa3
        refine bl_cat (K := K) wa3 (c1.same (rm_mono a (z2.trans z3))) c3 (by omega) fun A4 p4 z4 wa4 c4 => ?_
        refine ⟨_, rfl, _, rfl, _, _, rfl, rfl, _, rfl, ?_⟩
        unfold tNoPart
        refine bl_sl (K := K) wa4 (b3.same (rm_mono a (z1.trans (z2.trans (z3.trans z4))))) any fun A5 p5 z5 wa5 c5 => ?_
        refine bl_cat (K := K) wa5 (c4.same (rm_mono a z5)) c5 (by omega) fun A6 p6 z6 wa6 c6 => ?_
        exact k A6 p6 (s04.trans (rm_mono a (z1.trans (z2.trans (z3.trans (z4.trans (z5.trans z6))))))) wa6 (c6.mono (by omega))
      · refine ⟨_, rfl, _, rfl, _, rfl, ?_⟩
        refine bl_sl (K := K) w4 b3 any fun A1 p1 z1 wa1 c1 => ?_
        have hst5 := z1 _ _ hst4
        refine ⟨_, rfl, _, rfl, a, 9, rfl, wa1, by decide, by decide, fun on q0 q1 q2 on0 on1 => ?_⟩
        have s5 : Same (rm A1 a) (rm (upd A1 a (HO.lst [V.int q0, V.int q1, V.int q2])) a) := sr_draw
        have w5 : Well (upd A1 a (HO.lst [V.int q0, V.int q1, V.int q2])) a := ⟨_, _, _, upd_same⟩
        have hst6 : upd A1 a (HO.lst [V.int q0, V.int q1, V.int q2]) st = _ := (upd_ne sta).trans hst5
        generalize upd A1 a (HO.lst [V.int q0, V.int q1, V.int q2]) = A2 at s5 w5 hst6
        obtain ⟨vv, eat, th⟩ := atI_all thB on0 on1
        have s14 := (rm_mono a z1).trans s5
        refine ⟨st, _, _, vv, rfl, rfl, SqL.of hst6, eat, (by show 1 ≤ sizeLine; decide), fun p2 np2 => ?_⟩
        have c2 := bl_one w5 (th.same s14) np2
        have z2 : Same A2 (upd A2 p2 (HO.lst [vv])) := same_new np2
        have wa2 := well_same w5 z2
        generalize upd A2 p2 (HO.lst [vv]) = A3 at c2 z2 wa2
        refine bl_cat (K := K) wa2 ((c1.same s5).same (rm_mono a z2)) c2 (by omega) fun A4 p4 z4 wa4 c4 => ?_
        refine ⟨_, rfl, _, rfl, _, rfl, ?_⟩
        unfold tNoPart
        refine bl_sl (K := K) wa4 (b3.same (s14.trans (rm_mono a (z2.trans z4)))) any fun A5 p5 z5 wa5 c5 => ?_
        refine bl_cat (K := K) wa5 (c4.same (rm_mono a z5)) c5 (by omega) fun A6 p6 z6 wa6 c6 => ?_
        exact k A6 p6 (s04.trans (s14.trans (rm_mono a (z2.trans (z4.trans (z5.trans z6)))))) wa6 (c6.mono (by omega))
end
end G

/-! try: .. except X as n: a suite that raises: the name goes, the exception goes on. -/
namespace L2H
open PySem PySem.Spec PyProof.Rows L2 HotX
/-- the context of such a suite -/
abbrev suiteE (X : Cx) (a : Addr) (pn : List (Addr × Obj)) (xe : Value → Shared → Prop) : Cx := { X with A := X.A.mark (some (.ref a)), calm := false, pn := pn, xe := xe }
section
variable {X : Cx} {pins : List (Addr × Obj)} {σ : L2.St} {H : Hp} {s : Shared}
theorem suiteE_of {a : Addr} {pn pn' : List (Addr × Obj)} {xe : Value → Shared → Prop} (I : Inv (X.suite a pn) pn' σ H s) : Inv (suiteE X a pn xe) pn' σ H s :=
  ⟨⟨I.ok.mod, I.ok.kind, I.ok.glob, I.ok.blt, I.ok.above, I.ok.inj, I.ok.has, I.ok.cab, fun z => (nomatch z), I.ok.frames, I.ok.stk, I.ok.exf, I.ok.bs, I.ok.bsz, I.ok.noex, I.ok.exfs, I.ok.funs, I.ok.frf⟩, I.os, I.bare, I.base, I.loc, I.cell, I.free, I.freeC, I.pin, I.hok, I.len⟩
theorem unsuiteE {a : Addr} {q : Addr × Obj} {pn' : List (Addr × Obj)} {xe : Value → Shared → Prop} (I : Inv (suiteE X a (q :: (X.pn ++ pins)) xe) pn' σ H s) (ok : X.Ok) : Inv X pins σ H s :=
  ⟨ok, I.os, I.bare, I.base, I.loc, I.cell, I.free, I.freeC, fun p hp => I.pin p (List.mem_append_left _ (List.mem_cons_of_mem _ hp)), I.hok, I.len⟩
end
section
variable {X : Cx} {n : Str} {i : Nat} {Wout : WX} {pos : Pos}
/-- an exception of the suite: noted, the name unbound, on it goes -/
theorem as_exc {a : Addr} {oe4 : Obj} {pins : List (Addr × Obj)} {u : Value} {s' : Shared} {xe : Value → Shared → Prop} (hs : X.stack = X.env :: X.outer) (hf : X.env.frame = some X.env.locals) (hex : X.ex = []) (ok : X.Ok) (hN : X.N.Nodup) (hi : X.N[i]? = some n) (hln : X.env.kindOf n = some .local)
    (hpa : ∀ hd : Option Value, PassesOwnAt (model X.prog X.w) (X.A.mark hd) X.A X.env X.xe) (tk : L2.Takes X Wout)
    (xx : L2.XE (suiteE X a ((a, oe4) :: (X.pn ++ pins)) xe) (fun c d σ H => Wout c d (σ.set i none) H) u s') :
    AsSuiteRaised (model X.prog X.w) (X.A.mark (some (.ref a))) X.env n pos (notedBy (model X.prog X.w) (X.A.mark (some (.ref a))) X.env (cameBackBy (model X.prog X.w) X.A X.env X.xe)) u s' := by
  have hfr : X.A.frames = some (X.env :: X.outer) := by rw [ok.frames, hs]
  have hfr' : (X.A.mark (some (.ref a))).frames = some (X.env :: X.outer) := hfr
  obtain ⟨e, B, sI, pins', σ', H', cls, d, rfl, J', nb, up, sky, na, os, ag, hw⟩ := xx
  have J : Inv X pins σ' H' sI := unsuiteE J' ok
  have sky' : Sky B (X.env :: X.outer) e (Zc cls d) X.env.locals s'.heap := by rw [← hs]; exact sky
  -- behind the note
  have fin : ∀ h1, HandSPX.HeldZ B (X.env :: X.outer) e (Zc cls d) X.env.locals h1 → s'.heap.UpToSlots h1 →
      wpAny (model X.prog X.w) (X.A.mark (some (.ref a))) (do bindName X.env n .none; unbindBehindTheSuite X.env n pos)
        (fun _ s₂ => wpAny (model X.prog X.w) (X.A.mark (some (.ref a))) (passOn "try.except-as" (.ref e) X.env : Sem Flow) (fun _ _ => False) (notedBy (model X.prog X.w) (X.A.mark (some (.ref a))) X.env (cameBackBy (model X.prog X.w) X.A X.env X.xe)) s₂)
        (fun y s₂ => wpAny (model X.prog X.w) (X.A.mark (some (.ref a))) (setFlight (.ref e) none) (fun _ s₃ => (notedBy (model X.prog X.w) (X.A.mark (some (.ref a))) X.env (cameBackBy (model X.prog X.w) X.A X.env X.xe)) y s₃) (notedBy (model X.prog X.w) (X.A.mark (some (.ref a))) X.env (cameBackBy (model X.prog X.w) X.A X.env X.xe)) s₂) { s' with heap := h1 } := fun h1 hh1 up1 => by
    have J3 : Inv X pins σ' H' { s' with heap := h1 } := J.landed nb hh1.1 (up.trans up1) os ag
    obtain ⟨k1, k2, k3, oe, vs, T, oT, ts, he3, hz, hd, hv1, hnT, hTe, hT, hdT, ht3⟩ := id hh1
    have nT : H' T = none := (J.inGround nb).gone hnT
    have notFr : ∀ (b : Addr) (o : Obj) (fv : Array Value), h1.get? b = some o → o.data = .fields fv → b ∉ frs (X.env :: X.outer) := fun b o fv e dd hm => by
      obtain ⟨_, o', e', hnf⟩ := k3.mem hm
      have eo : o = o' := Option.some.inj (e.symm.trans e')
      rw [← eo] at hnf
      exact hnf _ dd
    have locF : X.env.locals ∈ frs (X.env :: X.outer) := List.mem_filterMap.mpr ⟨X.env, List.mem_cons_self, hf⟩
    have fsF : ∀ b, b ∈ X.fs → b ∈ frs (X.env :: X.outer) := fun b hm => by
      obtain ⟨e, he, q⟩ := List.mem_filterMap.mp hm
      exact List.mem_filterMap.mpr ⟨e, List.mem_cons_of_mem _ he, q⟩
    have fa := notFr e oe vs he3 hd
    have fT := notFr T oT ts hT hdT
    have S3 : Inv X ((e, oe) :: (T, oT) :: pins) σ' H' { s' with heap := h1 } :=
      ⟨ok, J3.os, J3.bare, J3.base, J3.loc, J3.cell, J3.free, J3.freeC, fun p hp => by
        rcases List.mem_append.mp hp with hp | hp
        · exact J3.pin p (List.mem_append_left _ hp)
        rcases List.mem_cons.mp hp with z | hp
        · rw [z]
          exact ⟨he3, na, fun z2 => fa (by rw [show e = X.env.locals from z2]; exact locF), fun z2 => fa (fsF _ z2), fun v z2 => by
            have z3 : oe.data = .cell v := z2
            rw [hd] at z3
            cases z3⟩
        · rcases List.mem_cons.mp hp with z | hp
          · rw [z]
            exact ⟨hT, nT, fun z2 => fT (by rw [show T = X.env.locals from z2]; exact locF), fun z2 => fT (fsF _ z2), fun v z2 => by
              have z3 : oT.data = .cell v := z2
              rw [hdT] at z3
              cases z3⟩
          · exact J3.pin p (List.mem_append_right _ hp), J3.hok, J3.len⟩
    refine gone_ok S3 hN hi hln fun s6 S6 => ?_
    have J6 : Inv X pins (σ'.set i none) H' s6 := ⟨ok, S6.os, S6.bare, S6.base, S6.loc, S6.cell, S6.free, S6.freeC, fun p hp => S6.pin p (by
      rcases List.mem_append.mp hp with hp | hp
      · exact List.mem_append_left _ hp
      · exact List.mem_append_right _ (List.mem_cons_of_mem _ (List.mem_cons_of_mem _ hp))), S6.hok, S6.len⟩
    have pa := S6.pin (e, oe) (List.mem_append_right _ List.mem_cons_self)
    have pT := S6.pin (T, oT) (List.mem_append_right _ (List.mem_cons_of_mem _ List.mem_cons_self))
    have ga : s6.heap.get? e = some oe := pa.1
    have gT : s6.heap.get? T = some oT := pT.1
    have na6 : H' e = none := na
    have nT6 : H' T = none := nT
    -- what is not the exception's
    have far : ∀ b o, sI.heap.get? b = some o → b ≠ e ∧ b ≠ T := fun b o q0 => by
      by_cases hb : b ∈ frs X.stack
      · rw [hs] at hb
        exact ⟨fun z => fa (by rw [← z]; exact hb), fun z => fT (by rw [← z]; exact hb)⟩
      · have q := nb b o q0 hb
        exact ⟨fun z => by
          rw [z, k2] at q
          exact (nomatch q), fun z => by
          rw [z, hnT] at q
          cases q⟩
    have far0 : ∀ b o, X.s_0.heap.get? b = some o → b ≠ e ∧ b ≠ T := fun b o q0 => by
      obtain ⟨o', q⟩ := J.base.there b o q0 (by rw [hex]; simp)
      exact far b o' q
    have farP : ∀ p ∈ X.pn ++ pins, p.1 ≠ e ∧ p.1 ≠ T := fun p hp => far p.1 p.2 (J.pin p hp).1
    obtain ⟨G, g1, g2⟩ := restrict s6.heap fun b => !(decide (b = e) || decide (b = T))
    have gIn : ∀ b o, G.get? b = some o → s6.heap.get? b = some o ∧ b ≠ e ∧ b ≠ T := fun b o q0 => by
      cases q : (!(decide (b = e) || decide (b = T))) with
      | false =>
        rw [g2 b q] at q0
        cases q0
      | true =>
        rw [g1 b q] at q0
        simp only [Bool.not_eq_true', Bool.or_eq_false_iff, decide_eq_false_iff_not] at q
        exact ⟨q0, q.1, q.2⟩
    have gOf : ∀ b o, b ≠ e → b ≠ T → s6.heap.get? b = some o → G.get? b = some o := fun b o h1 h2 q0 => by
      rw [g1 b (by simp [h1, h2])]
      exact q0
    have I6 : Inv X pins (σ'.set i none) H' { s6 with heap := G } := J6.less (fun b o q0 => (gIn b o q0).1) gOf ⟨oe, vs, ga, hd⟩ ⟨oT, ts, gT, hdT⟩ na6 nT6 far0 farP
    -- the ground behind it
    have B6in : ∀ b o, (PySem.W.hideAll G (frs X.stack)).get? b = some o → s6.heap.get? b = some o := fun b o q0 => (gIn b o (PySem.W.of_hideAll _ q0)).1
    have Bno : ∀ b, (b = e ∨ b = T) → (PySem.W.hideAll G (frs X.stack)).get? b = none := fun b hb => by
      cases q : (PySem.W.hideAll G (frs X.stack)).get? b with
      | none => rfl
      | some o =>
        obtain ⟨_, n1, n2⟩ := gIn b o (PySem.W.of_hideAll _ q)
        rcases hb with z | z
        · exact absurd z n1
        · exact absurd z n2
    have fl6 : HandSPX.HeldZ (PySem.W.hideAll G (frs X.stack)) (X.env :: X.outer) e (Zc cls d) X.env.locals s6.heap := by
      refine ⟨B6in, Bno e (.inl rfl), ?_, oe, vs, T, oT, ts, ga, hz, hd, hv1, Bno T (.inr rfl), hTe, gT, hdT, ht3⟩
      have ff := funFrames_none (B := PySem.W.hideAll G (frs X.stack)) J6.stack fun b hb => PySem.W.hideAll_none _ hb
      rw [← hs]
      exact ff
    unfold PySem.passOn
    refine wpAny_bind (wpAny_field ga hd hv1 ?_)
    rw [if_neg (show ¬ ((Value.ref T == Value.none) = true) from by simp)]
    have goOn : wpAny (model X.prog X.w) (X.A.mark (some (.ref a))) (setFlight (.ref e) X.env.frame) (fun _ s7 => wpAny (model X.prog X.w) (X.A.mark (some (.ref a))) (throw (.ref e) : Sem Flow) (fun _ _ => False) (notedBy (model X.prog X.w) (X.A.mark (some (.ref a))) X.env (cameBackBy (model X.prog X.w) X.A X.env X.xe)) s7) (notedBy (model X.prog X.w) (X.A.mark (some (.ref a))) X.env (cameBackBy (model X.prog X.w) X.A X.env X.xe)) s6 := by
      rw [hf]
      refine HandSPX.setFlight_onZ fl6 fun h7 hh7 up7 => wpAny_throw (hpa (some (.ref a)) _ _ (tk _ _ ?_))
      refine ⟨e, PySem.W.hideAll G (frs X.stack), { s6 with heap := G }, pins, σ'.set i none, H', cls, d, rfl, I6, fun b o q0 hb => PySem.W.hideAll_get _ q0 hb, ?_, .inr (.inr (by rw [← hs] at hh7; exact hh7)), na6, rfl, J6.bare, hw⟩
      exact Heap.UpToSlots.trans (Heap.UpToSlots.of_keeps fun b o q0 => (gIn b o q0).1) up7
    first
      | exact wpAny_bind (wpAny_pure (wpAny_bind goOn))
      | exact wpAny_bind goOn
  show wpAny (model X.prog X.w) (X.A.mark (some (.ref a))) (noteFrame (.ref e) X.env) _ _ _
  rcases sky' with ⟨hB, hn, hl, oe, vs, he0, hz, hd, hv1⟩ | fl | hh
  · exact HandSPX.look_newZ Zc.steady hfr' hl hf he0 hB hn hd hv1 hz fin
  · exact HandSPX.looks_onZ Zc.steady hfr' hf fl fin
  · exact HandSPX.againZ hf hh.2.2.2 (fin s'.heap hh (Heap.UpToSlots.refl _))
end
section
variable {X : Cx} {x n : Str} {c : Value} {i : Nat} {body suite : List Stmt} {b₀ : Stmt} {np pos pos' : Pos} {tb : WX → TS} {ts : Addr → Value → Option Addr → TS} {Wout : WX}
/-- try: body, except x as n: a suite that may raise; the body's exceptions have no context -/
theorem ps_try_asX (hs : X.stack = X.env :: X.outer) (hf : X.env.frame = some X.env.locals) (hex : X.ex = []) (hN : X.N.Nodup) (hi : X.N[i]? = some n) (hln : X.env.kindOf n = some .local) (hc : Names X x c)
    (hpa : ∀ hd : Option Value, PassesOwnAt (model X.prog X.w) (X.A.mark hd) X.A X.env X.xe) (tk : L2.Takes X Wout)
    (hb : ∀ (W : WX) (pn : List (Addr × Obj)) (xe : Value → Shared → Prop), L2N.Takes (X.tr pn xe) W → PassesOwn (model X.prog X.w) X.A X.env xe → PSs (X.tr pn xe) body (tb W))
    (hsu : ∀ (a : Addr) (oe : Obj) (cls : Value) (d : Option Addr) (pn : List (Addr × Obj)) (xe : Value → Shared → Prop), L2N.Zn cls d oe → (∃ vs, oe.data = .fields vs) → L2.Takes (suiteE X a ((a, oe) :: pn) xe) (fun c d σ H => Wout c d (σ.set i none) H) → HotC (suiteE X a ((a, oe) :: pn) xe) →
      PSs (suiteE X a ((a, oe) :: pn) xe) (b₀ :: suite) (ts a cls d)) :
    PS X (.Try body [.ExceptHandler (some (.Name x np)) (some n) (b₀ :: suite) pos'] [] [] pos) (fun D σ H => tb (wAs X.K c i ts Wout D) D σ H) := by
  refine ⟨fun pins s σ H D I h => ?_⟩
  have ok := I.ok
  have hfr : X.A.frames = some (X.env :: X.outer) := by rw [ok.frames, hs]
  have hloc : Loc X.env.scope n := .inl hln
  refine wpAny_Try_except ?_
  refine wpAny_mono ((hb (wAs X.K c i ts Wout D) (X.pn ++ pins) (fun e s₁ => wpAny (model X.prog X.w) X.A (noteFrame e X.env) (fun _ s₂ => wpAny (model X.prog X.w) X.A (setFlight e none) (fun _ s₃ =>
    wpAny (model X.prog X.w) X.A (handleBy e X.env [.ExceptHandler (some (.Name x np)) (some n) (b₀ :: suite) pos']) (SP X pins D) X.xe s₃) X.xe s₂) X.xe s₁) (fun u s' xx => ?_) PassesOwn.looking).run [] s σ H D (I.toTry _) h) (fun f s1 hsp => ?_) (fun e s1 he => he)
  · -- the catch
    obtain ⟨a, B, sI, pins', σ', H', cls, d, rfl, J', nb, up, sky, na, os, ag, b, hb1, hyes, hno⟩ := xx
    have J : Inv X pins σ' H' sI := J'.ofTry ok
    have sky' : Sky B (X.env :: X.outer) a (L2N.Zn cls d) X.env.locals s'.heap := by rw [← hs]; exact sky
    show wpAny (model X.prog X.w) X.A (noteFrame (.ref a) X.env) _ _ _
    refine L2N.Sky.land L2N.Zn.steady hfr hf sky' fun h3 fl3 up3 => ?_
    have J3 : Inv X pins σ' H' { s' with heap := h3 } := J.landed nb fl3.1 (up.trans up3) os ag
    obtain ⟨oe3, vs3, he3, hz3, hd3⟩ := fl3.there
    have notFr : ∀ {h : Heap} {o : Obj} {vs : Array Value}, h.FunFrames B (X.env :: X.outer) → h.get? a = some o → o.data = .fields vs → a ∉ frs (X.env :: X.outer) := fun {h o vs} ff e dd hm => by
      obtain ⟨_, o', e', hnf⟩ := ff.mem hm
      rw [e] at e'; cases e'
      exact hnf _ dd
    have nfr := notFr fl3.2.2.1 he3 hd3
    have nL : a ≠ X.env.locals := fun z => nfr (List.mem_filterMap.mpr ⟨X.env, List.mem_cons_self, by rw [hf, z]⟩)
    have nF : a ∉ X.fs := fun hm => by
      obtain ⟨e, he, q⟩ := List.mem_filterMap.mp hm
      exact nfr (List.mem_filterMap.mpr ⟨e, List.mem_cons_of_mem _ he, q⟩)
    have S3 := J3.suite he3 hd3 na nL nF
    refine wpAny_handleBy_cons (codeAny_handlers_test ?_) (by intro q; cases q)
    have LT : PySem.W.Looks (model X.prog X.w) h3 (typeOf (.ref a)) cls := fun A Q E s k q => wpAny_typeOf_ref (k _ _ he3) (by rw [hz3.1]; exact q)
    have LM := PySem.W.exm_one (M := model X.prog X.w) (J3.kIn) LT hb1
    have test : ∀ {Q : Value → Shared → Prop} {E : Value → Shared → Prop}, Q c { s' with heap := h3 } → wpAny (model X.prog X.w) (X.A.mark (some (.ref a))) (eval (.Name x np) X.env) Q E { s' with heap := h3 } := fun {Q E} q => by
      obtain ⟨hg, hdbg, hm | ⟨hm, hv, hnn⟩⟩ := hc
      · exact ld_glob (X := X.suite a ((a, oe3) :: (X.pn ++ pins))) S3 hg hm q hdbg
      · exact ld_blt (X := X.suite a ((a, oe3) :: (X.pn ++ pins))) S3 hg hm hv q hnn hdbg
    refine test (LM.here ?_)
    cases b with
    | true =>
      refine codeAny_handlers_suite_as ?_
      refine HandSPX.lands_againZ fl3 fun h4 fl4 up4 => ?_
      have J4 : Inv X pins σ' H' { s' with heap := h4 } := J.landed nb fl4.1 ((up.trans up3).trans up4) os ag
      obtain ⟨oe4, vs4, he4, hz4, hd4⟩ := fl4.there
      have S4 := J4.suite he4 hd4 na nL nF
      refine store_ok (X := X.suite a ((a, oe4) :: (X.pn ++ pins))) (v := .ref a) S4 hN hi hloc rfl (fun s5 S5 => ?_) (.inr hln)
      refine wpAny_mono ((hsu a oe4 cls d (X.pn ++ pins) (fun u s6 => AsSuiteRaised (model X.prog X.w) (X.A.mark (some (.ref a))) X.env n pos' (notedBy (model X.prog X.w) (X.A.mark (some (.ref a))) X.env (cameBackBy (model X.prog X.w) X.A X.env X.xe)) u s6) hz4 ⟨_, hd4⟩
        (fun u s6 xx => as_exc hs hf hex ok hN hi hln hpa tk xx) ⟨(a, oe4), ⟨rfl, vs4, hd4, hz4.2.2 vs4 hd4⟩, List.mem_cons_self⟩).run [] s5 _ H' _ (suiteE_of S5) (hyes rfl a na)) (fun f s6 hsp => ?_) (fun _ _ z => z)
      have end_ : ∀ {σ6 : L2.St} {H6 : Hp} {xe : Value → Shared → Prop} {Q : Shared → Prop}, Inv (suiteE X a ((a, oe4) :: (X.pn ++ pins)) xe) [] σ6 H6 s6 → (∀ s7, Inv X pins (σ6.set i none) H6 s7 → Q s7) →
          wpAny (model X.prog X.w) X.A (do bindName X.env n .none; unbindBehindTheSuite X.env n pos') (fun _ s7 => Q s7) X.xe s6 := fun {σ6 H6 xe Q} S6 hq => gone_ok (unsuiteE S6 ok) hN hi hln hq
      cases f with
      | next =>
        obtain ⟨σ6, H6, S6, q6⟩ := hsp
        exact end_ S6 fun s7 J7 => ⟨_, _, J7, q6⟩
      | brk =>
        obtain ⟨σ6, H6, S6, q6⟩ := hsp
        exact end_ S6 fun s7 J7 => ⟨_, _, J7, q6⟩
      | cont =>
        obtain ⟨σ6, H6, S6, q6⟩ := hsp
        exact end_ S6 fun s7 J7 => ⟨_, _, J7, q6⟩
      | ret u =>
        obtain ⟨v6, σ6, H6, S6, r6, q6⟩ := hsp
        exact end_ S6 fun s7 J7 => ⟨_, _, _, J7, r6, q6⟩
    | false =>
      show wpAny _ X.A (handleBy (.ref a) X.env []) _ _ _
      refine wpAny_handleBy_nil ?_
      have flz : HandSPX.FlyingZ B (X.env :: X.outer) a (Zc cls d) h3 := flyingZ_imp (fun o z => z.zc) fl3
      obtain ⟨k1, k2, k3, oe, vs, T, oT, ts', he, hz, hd, h1, hr⟩ := id flz
      unfold PySem.passOn
      refine wpAny_bind (wpAny_field he hd h1 ?_)
      rw [if_neg (show ¬ ((Value.ref T == Value.none) = true) from by simp)]
      have fin : wpAny (model X.prog X.w) X.A (setFlight (.ref a) X.env.frame) (fun _ s4 => wpAny (model X.prog X.w) X.A (throw (.ref a) : Sem Flow) (SP X pins D) X.xe s4) X.xe { s' with heap := h3 } := by
        rw [hf]
        refine HandSPX.setFlight_upZ flz fun h4 hh4 up4 => wpAny_throw (tk _ _ ?_)
        exact ⟨a, B, sI, pins, σ', H', cls, d, rfl, J, nb, (up.trans up3).trans up4, .inr (.inr (by rw [hs]; exact hh4)), na, os, ag, hno rfl⟩
      first
        | exact wpAny_bind (wpAny_pure (wpAny_bind fin))
        | exact wpAny_bind fin
  · cases f with
    | next =>
      obtain ⟨σ', H', J', q⟩ := hsp
      exact wpAny_execs_nil ⟨σ', H', J'.ofTry ok, q⟩
    | brk =>
      obtain ⟨σ', H', J', q⟩ := hsp
      exact ⟨σ', H', J'.ofTry ok, q⟩
    | cont =>
      obtain ⟨σ', H', J', q⟩ := hsp
      exact ⟨σ', H', J'.ofTry ok, q⟩
    | ret u =>
      obtain ⟨v, σ', H', J', r, q⟩ := hsp
      exact ⟨v, σ', H', J'.ofTry ok, r, q⟩
end
end L2H

/-! Defs whose exceptions have no context (raised where nothing is handled); one called by a local name. -/
namespace L2N
open PySem PySem.Spec PyProof.Rows L2
section
variable {X : Cx} {ta : TA} {e : Expr} {es : List Expr} {p pos : Pos}
/-- C(e, ..), the context None -/
theorem pmk_oex {CX : CXT} {x : Str} {C fI : Addr} {k : Nat} {fd : FuncData} {ps : List Str} {sp : Sp} {ds : List Value} {dvs : List V} (T : OexC X.K C) (iC : PySem.W.findIn X.K (.ref C) "__init__" = some (some (.ref fI))) (tI : PySem.W.typeIn X.K (.ref fI) = some (.type "function"))
    (F1 : FnOk X.prog X.w X.K X.mg X.base CX k fI fd ps sp) (hr : Room (k + 1) X.A) (hb : Binds X.K fd ps ds) (hd : Vals dvs ds) (hx : Passes CX X (fun _ _ _ => False)) (hg : Gl X x) (hm : X.mg x = some (.ref C)) (ha : PA X (e :: es) ta)
    (hdb : (x == ("__debug__" : Str)) = false := by decide) (he : starEach (e :: es) X.env = (false, eval e X.env) :: starEach es X.env := by rfl) (hpl : (backTo pos (starEach es X.env)).any (·.1) = false := by rfl) :
    L2N.PMk X (.Call (.Name x p) (e :: es) [] pos) (tMkO C sp dvs ta) := by
  intro pins s σ H Q I h
  obtain ⟨nm, q, N, bs, bm, sn, sub, ab, col, dd, k0, k1, k2, k3, k5, hC, hbm⟩ := T.cls
  refine wpAny_Call_Name_kw (ld_glob I hg hm ?_ hdb)
  refine PySem.W.callWith_K (h₀ := X.base) I.ok.mod.kin T.kC (thn (ha.run pos pins s σ H _ I h) fun us s1 ⟨vs, H1, I1, r1, hz, q1⟩ => ⟨I1.kIn, ?_⟩) he hpl
  show wpAny _ _ (call (.ref C) us) _ _ _
  obtain ⟨hp, g, dr, tk, os⟩ := s1
  have hsz : hp.objs.size ≤ hp.objs.size + 1 := Nat.le_succ _
  have hn : H1 (hp.objs.size + 1) = none := I1.hok.fresh hsz
  have hq := q1 (hp.objs.size + 1) hn
  have kk : ∀ b o, hp.get? b = some o → ((hp.push (PySem.W.kdv_tup us)).push (PySem.HandSPX.excO C hp.objs.size)).get? b = some o := fun b o e => Heap.get?_push_of_some _ (Heap.get?_push_of_some _ e)
  have hget : ((hp.push (PySem.W.kdv_tup us)).push (PySem.HandSPX.excO C hp.objs.size)).get? (hp.objs.size + 1) = some (PySem.HandSPX.excO C hp.objs.size) := by heap_get
  have I2 : Inv X pins σ (upd H1 (hp.objs.size + 1) (exo (hp.objs.size + 1) C none)) ⟨(hp.push (PySem.W.kdv_tup us)).push (PySem.HandSPX.excO C hp.objs.size), g, dr, tk, os⟩ :=
    I1.laid (t' := tk) (a := hp.objs.size + 1) (o := exo (hp.objs.size + 1) C none) (h' := (hp.push (PySem.W.kdv_tup us)).push (PySem.HandSPX.excO C hp.objs.size)) kk hsz (exo_ok hget)
  have r2 : Vals (V.ref (hp.objs.size + 1) :: (vs ++ dvs)) (Value.ref (hp.objs.size + 1) :: (us ++ ds)) := .cons rfl (r1.append hd)
  have hl : (Value.ref (hp.objs.size + 1) :: us ++ ds).length = ps.length := by
    have e := r2.length
    rw [F1.len _ _ _ _ hq] at e
    exact e.symm
  have hus : us.length ≤ sizeLine := by
    rw [← Paired.length r1, sizeLine_eq]
    omega
  refine wpAny_call (PySem.HandSPX.call_own F.excBase_ValueError (fun Y => PySem.HandSPX.refsVE_contains Y bm hbm) (I1.kIn _ _ hC) (PySem.W.looks_findIn I1.kIn iC) (fun self => PySem.W.bind_fn I1.kIn self tI) hus
    (codeAny_mono (F1.run _ X.stack _ _ ⟨Value.ref (hp.objs.size + 1) :: us, []⟩ (Value.ref (hp.objs.size + 1) :: (us ++ ds)) _ _ (fun _ _ _ => False) (hr.make C us []) (I2.env0.make C us []) (hb _ (Value.ref (hp.objs.size + 1) :: us) I2.kIn hl) r2 hq) fun r s' hq' => ?_))
  cases r with
  | error er => exact hx pins σ _ _ er s' I2 hq'
  | ok fl =>
    cases fl with
    | ret u =>
      obtain ⟨v, H2, os2, bare2, un2, hok2, rv, ev, d, fs, ea, ed, hd1, q2⟩ := hq'
      subst ev
      obtain ⟨h2, g2, d2, t2, os'⟩ := s'
      obtain ⟨t0, G, J, kG, ge, hoe, na⟩ := mk_end0 (d2 := d2) (t2 := t2) I1 hsz kk un2 hok2 os2 bare2 ea ed hd1
      exact ⟨rv, hp.objs.size + 1, _, _, ⟨G, g2, d2, t2, os'⟩, _, .ref C, some d, rfl, J, kG, ge, hoe, ⟨rfl, rfl, fun vs hv => by
        cases hv
        rfl⟩, rfl, rfl, na, rfl, bare2, raises_own T.exC T.tyC, q2⟩
    | next => exact False.elim hq'
    | brk => exact False.elim hq'
    | cont => exact False.elim hq'
end
theorem takesN0 {X : Cx} : L2N.Takes X (fun _ _ _ _ => False) := fun _ _ x => by
  obtain ⟨_, _, _, _, _, _, _, _, _, _, _, _, _, _, _, _, z⟩ := x
  exact z.elim
end L2N
namespace L2
open PySem PySem.Spec PyProof.Rows
section
variable {P : Program} {w : World} {K : PySem.W.Frag} {mg : Str → Option Value} {base : Heap}
/-- as Fun.okX, the exceptions without a context -/
theorem Fun.okN {x qual : Str} {st : Stmt} {f : Addr} {fd : FuncData} {N ps : List Str} {k : Nat} {sp : Sp} (F : Fun K x qual st f fd) (S : FnScope N ps (defScope st)) (len : ∀ vs H Q E, sp vs H Q E → vs.length = ps.length)
    (hbody : ∀ (cdv : Value) (A : Around) (outer : List Env) (s : Shared) (H : Hp) (vs : List V) (Q : VK) (E : XK), Room k (A.deeper (envOfC qual (defScope st) s.heap.objs.size f cdv)) → sp vs H Q E →
      ∃ t, PSs (cxOf (L2N.CX P w) P w K mg base N qual (defScope st) f cdv A outer s H E) (defBody st) t ∧ t { nx := fun _ H' => Q .non H', rt := Q } (start N vs) H) : FnOk P w K mg base (L2N.CX P w) (k + 1) f fd ps sp := by
  obtain ⟨oc, od, kV, doc, pm, an, cdv, ct, osl, rfl, lk, hcd⟩ := F.ex
  exact fn_of lk hcd S len fun A outer s H vs Q E hr hsp => hbody cdv A outer s H vs Q E hr hsp
/-- as Fun.ok, while an exception is handled -/
theorem Fun.okH {CX : CXT} {x qual : Str} {st : Stmt} {f : Addr} {fd : FuncData} {N ps : List Str} {k : Nat} {sp : Sp} (F : Fun K x qual st f fd) (S : FnScope N ps (defScope st)) (len : ∀ vs H Q E, sp vs H Q E → vs.length = ps.length)
    (hbody : ∀ (cdv : Value) (A : Around) (outer : List Env) (s : Shared) (H : Hp) (vs : List V) (Q : VK) (E : XK) (p : Addr × Obj), sp vs H Q E →
      ∃ t, PSs (L2H.cxH CX P w K mg base N qual (defScope st) f cdv A outer s H E p) (defBody st) t ∧ t { nx := fun _ H' => Q .non H', rt := Q } (start N vs) H) : L2H.FnH P w K mg base CX (k + 1) f fd ps sp := by
  obtain ⟨oc, od, kV, doc, pm, an, cdv, ct, osl, rfl, lk, hcd⟩ := F.ex
  exact L2H.fn_ofH lk hcd S len fun A outer s H vs Q E p _ _ hsp => hbody cdv A outer s H vs Q E p hsp
end
/-- a def in the i-th slot, with what it may let out -/
def tCallLS (i : Nat) (f : Addr) (sp : Sp) (E : St → XK) (t : TA) : TE := fun σ H Q => σ[i]? = some (some (.ref f)) ∧ t σ H fun vs H1 => sp vs H1 Q (E σ)
section
variable {X : Cx} {CX : CXT} {k i : Nat} {f : Addr} {fd : FuncData} {ps : List Str} {sp : Sp} {E : St → XK} {x : Str} {p pos : Pos} {e : Expr} {es : List Expr} {t : TA}
theorem pe_callLS (F : FnOk X.prog X.w X.K X.mg X.base CX k f fd ps sp) (hr : Room k X.A) (hN : X.N[i]? = some x) (hv : Vis X.env.scope x) (hk : PySem.W.keepIn X.K (.ref f) = true) (hb : Binds X.K fd ps []) (hx : ∀ σ, PassesAt CX X σ (E σ)) (ha : PA X (e :: es) t)
    (hdb : (x == ("__debug__" : Str)) = false := by decide) (hcd : (x == ("__classdict__" : Str)) = false := by decide)
    (he : starEach (e :: es) X.env = (false, eval e X.env) :: starEach es X.env := by rfl) (hpl : (backTo pos (starEach es X.env)).any (·.1) = false := by rfl) : PE X (.Call (.Name x p) (e :: es) [] pos) (tCallLS i f sp E t) := by
  refine ⟨fun pins s σ H Q I h => ?_⟩
  obtain ⟨hs, ht⟩ := h
  refine wpAny_Call_Name_kw (thn ((pe_var (pos := p) hN hv hdb hcd).run pins s σ H (fun v H1 => v = .ref f ∧ H1 = H) I ⟨.ref f, hs, rfl, rfl⟩) fun u s1 ⟨v, H1, I1, r1, q1⟩ => ?_)
  obtain ⟨rfl, rfl⟩ := q1
  cases r1
  refine PySem.W.callWith_K (h₀ := X.base) I.ok.mod.kin hk (thn (ha.run pos pins s1 σ _ _ I1 ht) fun us s2 ⟨vs, H2, I2, r, q⟩ => ⟨I2.kIn, ?_⟩) he hpl
  exact run_fnS F hr hb (hx σ) I2 r q
end
end L2

/-! A def that an expression tells (tell[0](..)), called. -/
namespace L2
open PySem PySem.Spec PyProof.Rows
structure HeldX (P : Program) (w : World) (K : PySem.W.Frag) (mg : Str → Option Value) (base : Heap) (CX : CXT) (k : Nat) (f : Addr) (sp : Sp) : Prop where
  ex : ∃ (fd : FuncData) (ps : List Str), FnOk P w K mg base CX k f fd ps sp ∧ PySem.W.keepIn K (.ref f) = true ∧ Binds K fd ps []
def tCallV (S : Addr → Sp → Prop) (E : St → XK) (tf : TE) (t : TA) : TE := fun σ H Q => tf σ H fun x H0 => ∃ f sp, x = .ref f ∧ S f sp ∧ t σ H0 fun vs H1 => sp vs H1 Q (E σ)
section
variable {X : Cx} {CX : CXT} {k : Nat} {E : St → XK} {pos : Pos} {fe e : Expr} {es : List Expr} {tf : TE} {t : TA} {S : Addr → Sp → Prop}
theorem pe_callV (A : ∀ f sp, S f sp → HeldX X.prog X.w X.K X.mg X.base CX k f sp) (hr : Room k X.A) (hf : PE X fe tf) (hx : ∀ σ, PassesAt CX X σ (E σ)) (ha : PA X (e :: es) t)
    (hc : eval (.Call fe (e :: es) [] pos) X.env = (do callWith pos (← eval fe X.env) [] (backTo pos (starEach (e :: es) X.env)) (backToKw pos (keywordEach [] X.env))) := by rfl)
    (he : starEach (e :: es) X.env = (false, eval e X.env) :: starEach es X.env := by rfl) (hpl : (backTo pos (starEach es X.env)).any (·.1) = false := by rfl) : PE X (.Call fe (e :: es) [] pos) (tCallV S E tf t) := by
  refine ⟨fun pins s σ H Q I h => ?_⟩
  refine Call_ (thn (hf.run pins s σ H _ I h) fun u s1 ⟨x, H1, I1, r1, f, sp, ex, hS, ht⟩ => ?_) hc
  subst ex
  obtain rfl : u = Value.ref f := r1
  obtain ⟨fd, ps, F, kp, b⟩ := (A f sp hS).ex
  exact PySem.W.callWith_K (h₀ := X.base) I.ok.mod.kin kp (thn (ha.run pos pins s1 σ _ _ I1 ht) fun us s2 ⟨vs, H2, I2, r, q⟩ => ⟨I2.kIn, run_fnS F hr b (hx σ) I2 r q⟩) he hpl
end
theorem passN {X : Cx} (σ : St) : PassesAt CX0 X σ (fun _ _ _ => False) := fun _ _ _ _ _ _ h => h.elim
end L2

/-! Laws whose defs make lambdas, and ask repr, too. -/
namespace L2
open PySem PySem.Spec PyProof.Rows LamX
/-- the heap without its tables of code -/
def noT (H : Hp) : Hp := fun b => match H b with
  | some (.tbl _) => none
  | o => o
theorem noT_some {H : Hp} {b : Addr} {o : HO} (h : noT H b = some o) : H b = some o ∧ ∀ ps, o ≠ .tbl ps := by
  unfold noT at h
  split at h
  · cases h
  · rename_i n
    exact ⟨h, fun ps e => n ps (by rw [h, e])⟩
theorem noT_of {H : Hp} {b : Addr} {o : HO} (h : H b = some o) (n : ∀ ps, o ≠ .tbl ps) : noT H b = some o := by
  unfold noT
  split
  · rename_i ps e
    rw [h] at e
    exact absurd (Option.some.inj e) (n ps)
  · exact h
theorem noT_in (H : Hp) : ∀ b o, noT H b = some o → H b = some o := fun _ _ h => (noT_some h).1
theorem noT_ext {H H' : Hp} (e : ExtN H H') : ∀ b o, noT H b = some o → noT H' b = some o := fun b o h => by
  obtain ⟨h1, n⟩ := noT_some h
  exact noT_of (e b o h1 n) n
theorem noT_mono {H H' : Hp} (e : ∀ b o, H b = some o → H' b = some o) : ∀ b o, noT H b = some o → noT H' b = some o := noT_ext (ExtN.of e)
/-- what the start of a law with tables is -/
def startH (cs : List (Addr × Addr)) (a : Addr) (u : Option HO) : Hp := fun b => if b ∈ cs.map Prod.snd then some (.tbl #[]) else if b = a then u else none
section
variable {P : Program} {w : World} {K : PySem.W.Frag} {mg mb : Str → Option Value} {CX : CXT} {k : Nat} {fa a : Addr} {cs : List (Addr × Addr)} {fd : FuncData} {x : Str} {sp : Sp} {t : Shared} {us : List Value} {ns : List Int}
theorem law_tabG (kin : K.In t.heap) (gns : t.heap.Ns mainGlobals mg) (bns : t.heap.Ns builtinsNs mb) (bok : ∀ y : Str, y ≠ "__name__" → mb y = bootBuiltins y) (nol : t.heap.NoLimit) (gen0 : t.gens = #[])
    (tabs : ∀ q ∈ cs, t.heap.get? q.2 = some { cls := .none, data := .fields #[] }) (out : ∀ q ∈ cs, K.lookup q.2 = none) (code : ∀ q ∈ cs, PySem.W.CodeHd t.heap q.1 q.2)
    (bmod : ∃ (bm : Addr) (ob : Obj), mg "__builtins__" = some (.ref bm) ∧ bm ≠ builtinsNs ∧ t.heap.get? bm = some ob ∧ ob.cls = .type "module" ∧ ob.dict = some builtinsNs ∧ ob.data = .plain)
    (arg : t.heap.get? a = some { cls := .type "list", data := .seq us.toArray }) (isI : IntsAre us ns) (len : ns.length ≤ sizeLine) (room : Room k callerA)
    (F : ∀ base : Heap, K.In base → base.Ns mainGlobals mg → (∀ q ∈ cs, TabB base mg q.1 q.2) → FnOkG P w K mg base CX k fa fd [x] sp) (bind : ∀ (s : Shared) (u : Value), BindsTo s fd ⟨[u], []⟩ [(x, u)])
    (wish : ∀ H : Hp, (∀ q ∈ cs, H q.2 = some (.tbl #[])) → SqL K H a (ns.map V.int) → sp [.ref a] H (fun v _ => v = .bl true) fun _ _ _ => False) (noE : ∀ H e s', CX [] H t (fun _ _ _ => False) e s' → False) :
    codeAny (model P w) callerA (.call (.ref fa) ⟨[.ref a], []⟩) (fun r s' => r = .ok (.ret (.bool true)) ∧ OldK t.heap s'.heap ∧ s'.os = t.os ∧ AllBare s'.gens) t := by
  have isTab : ∀ b, b ∈ cs.map Prod.snd → t.heap.get? b = some { cls := .none, data := .fields #[] } := fun b hb => by
    obtain ⟨q, hq, rfl⟩ := List.mem_map.mp hb
    exact tabs q hq
  have argT : a ∉ cs.map Prod.snd := fun m => by
    have e := isTab a m
    rw [arg] at e
    injection e with e
    injection e with _ _ e
    cases e
  have tabIn : ∀ q ∈ cs, q.2 ∈ cs.map Prod.snd := fun q hq => List.mem_map_of_mem hq
  -- u: what is tracked at the list's place
  have main : ∀ u : Option HO, (u = none ∨ ∃ o xs, u = some (.frz o (.lst xs))) → SqL K (startH cs a u) a (ns.map V.int) → (∀ v, u = some v → ObjOk P w (startH cs a u) t.heap a v) → (u ≠ none → K.lookup a = none) →
      codeAny (model P w) callerA (.call (.ref fa) ⟨[.ref a], []⟩) (fun r s' => r = .ok (.ret (.bool true)) ∧ OldK t.heap s'.heap ∧ s'.os = t.os ∧ AllBare s'.gens) t := by
    intro u shape seq okA notK
    have atT : ∀ b, b ∈ cs.map Prod.snd → startH cs a u b = some (.tbl #[]) := fun b hb => if_pos hb
    have atA : startH cs a u a = u := by
      unfold startH
      rw [if_neg argT, if_pos rfl]
    have away : ∀ b, b ∉ cs.map Prod.snd → b ≠ a → startH cs a u b = none := fun b n1 n2 => by
      unfold startH
      rw [if_neg n1, if_neg n2]
    have kinds : ∀ b, startH cs a u b = none ∨ b ∈ cs.map Prod.snd ∨ b = a := fun b => by
      by_cases h1 : b ∈ cs.map Prod.snd
      · exact .inr (.inl h1)
      · by_cases h2 : b = a
        · exact .inr (.inr h2)
        · exact .inl (away b h1 h2)
    have hok : HOk P w (startH cs a u) t.heap := fun b v e => by
      rcases kinds b with z | z | z
      · rw [z] at e
        cases e
      · rw [atT b z] at e
        injection e with e
        subst e
        exact isTab b z
      · subst z
        exact okA v (atA.symm.trans e)
    have free : ∀ {b : Addr} {o : Obj}, t.heap.get? b = some o → (∀ vs n, o.data ≠ .seq vs n) → o.data ≠ .fields #[] → startH cs a u b = none := fun {b o} e d1 d2 => by
      rcases kinds b with z | z | z
      · exact z
      · rw [isTab b z] at e
        injection e with e
        subst e
        exact absurd rfl d2
      · rw [z, arg] at e
        injection e with e
        subst e
        exact absurd rfl (d1 _ _)
    have low : ∀ {b : Addr} {o : Obj}, t.heap.get? b = some o → startH cs a u b = none → (hidT t.heap (startH cs a u)).get? b = some o := fun e n => hidT_get e n
    have lowNs : ∀ {b : Addr} {m : Str → Option Value}, t.heap.Ns b m → (hidT t.heap (startH cs a u)).Ns b m := fun {b m} h => by
      obtain ⟨o, es, ep, e, d, r⟩ := h
      exact ⟨o, es, ep, low e (free e (fun _ _ z => by rw [d] at z; cases z) fun z => by rw [d] at z; cases z), d, r⟩
    have kin2 : K.In (hidT t.heap (startH cs a u)) := fun b o e => by
      refine low (kin b o e) ?_
      rcases kinds b with z | z | z
      · exact z
      · obtain ⟨q, hq, rfl⟩ := List.mem_map.mp z
        rw [out q hq] at e
        cases e
      · cases hu : u with
        | none => rw [z, ← hu, atA, hu]
        | some v =>
          have := notK (by rw [hu]; exact Option.some_ne_none v)
          rw [z, this] at e
          cases e
    have nol2 : (hidT t.heap (startH cs a u)).NoLimit := by
      obtain ⟨mc, m1, m2⟩ := nol
      exact ⟨mc, lowNs m1, m2⟩
    have tabB : ∀ q ∈ cs, TabB (hidT t.heap (startH cs a u)) mg q.1 q.2 := fun q hq => by
      have eT := tabs q hq
      refine ⟨?_, ?_, ?_⟩
      · obtain ⟨o, fs, r0⟩ := code q hq
        obtain ⟨f1, f2, f3, f4, f5, f6, f7, e1, e2, e3, e4, e5⟩ := r0
        refine ⟨o, fs, f1, f2, f3, f4, f5, f6, f7, low e1 (free e1 (fun _ _ z => ?_) fun z => ?_), e2, e3, e4, e5⟩
        · rw [e3] at z
          cases z
        · rw [e3] at z
          injection z with z
          rw [z] at e4
          simp at e4
      · obtain ⟨bm, ob, b1, b2, b3, b4, b5, b6⟩ := bmod
        refine ⟨bm, ob, b1, b2, fun e => ?_, fun e => ?_, low b3 (free b3 (fun _ _ z => by rw [b6] at z; cases z) fun z => by rw [b6] at z; cases z), b4, b5, b6⟩
        · obtain ⟨o, es, ep, g1, g2, _⟩ := gns
          rw [e, g1] at b3
          injection b3 with b3
          rw [← b3, g2] at b6
          cases b6
        · rw [e, eT] at b3
          injection b3 with b3
          rw [← b3] at b6
          cases b6
      · intro e
        obtain ⟨o, es, ep, g1, g2, _⟩ := gns
        rw [e, eT] at g1
        injection g1 with g1
        rw [← g1] at g2
        cases g2
    have env : Env0 P w K mg (hidT t.heap (startH cs a u)) callerA [] t (startH cs a u) := { frames := rfl, mod := ⟨kin2, lowNs gns, ⟨mb, lowNs bns, bok⟩, nol2⟩, bs := fun b o e => of_hidT e, bsz := Nat.le_of_eq (hidT_size _ _), funs := trivial, frf := fun b hb => absurd hb List.not_mem_nil, hok := hok, bare := AllBare.of_eq gen0 }
    have run := (F _ kin2 (lowNs gns) tabB).run callerA [] t (startH cs a u) ⟨[.ref a], []⟩ [.ref a] [.ref a] (fun v _ => v = .bl true) (fun _ _ _ => False) rfl room env (bind t (.ref a)) (.cons rfl .nil) (wish _ (fun q hq => atT _ (tabIn q hq)) seq)
    refine codeAny_mono run fun r s' h => ?_
    match r, h with
    | .error e, h => exact (noE _ e s' h).elim
    | .ok .next, h => exact False.elim h
    | .ok .brk, h => exact False.elim h
    | .ok .cont, h => exact False.elim h
    | .ok (.ret v), h =>
      obtain ⟨v0, H', os, bare, un, hok', r', e0⟩ := h
      have e0 : v0 = .bl true := e0
      subst e0
      obtain rfl : v = Value.bool true := r'
      have stays : ∀ b o, b ∉ cs.map Prod.snd → t.heap.get? b = some o → s'.heap.get? b = some o := fun b o nb e => by
        rcases kinds b with z | z | z
        · exact un.keep b o e z List.not_mem_nil List.not_mem_nil
        · exact absurd z nb
        · subst z
          rcases shape with hu | ⟨ob, xs, hu⟩
          · exact un.keep b o e (atA.trans hu) List.not_mem_nil List.not_mem_nil
          · have z2 := un.frzs b ob (.lst xs) (atA.trans hu)
            have p1 := (hok b _ (atA.trans hu)).1
            have p2 := (hok' b _ z2).1
            rw [e] at p1
            rw [p2]
            exact p1.symm
      have more : ∀ q ∈ cs, ∃ l : Array Value, s'.heap.get? q.2 = some { cls := .none, data := .fields l } := fun q hq => by
        obtain ⟨l, z⟩ := un.tbls q.2 #[] (atT _ (tabIn q hq))
        exact ⟨_, hok' q.2 _ z⟩
      refine ⟨rfl, ⟨fun b o e => ?_, fun b o e => ?_⟩, os, bare⟩
      · by_cases hb : b ∈ cs.map Prod.snd
        · obtain ⟨q, hq, rfl⟩ := List.mem_map.mp hb
          obtain ⟨l, hm⟩ := more q hq
          rw [tabs q hq] at e
          injection e with e
          subst e
          exact .inr (.inl ⟨((code q hq).tab (tabs q hq)).isCodeTable, rfl, #[], l, rfl, by rw [Array.empty_append]; exact hm⟩)
        · exact .inl (stays b o hb e)
      · by_cases hb : b ∈ cs.map Prod.snd
        · obtain ⟨q, hq, rfl⟩ := List.mem_map.mp hb
          obtain ⟨l, hm⟩ := more q hq
          exact ⟨_, hm⟩
        · exact ⟨o, stays b o hb e⟩
  have rv := vals_ints isI
  have lenU := IntsAre.length isI
  cases hk : K.lookup a with
  | some o =>
    have e := kin a o hk
    rw [arg] at e
    injection e with e
    subst e
    refine main none (.inl rfl) (.inr ⟨_, _, _, hk, rfl, rfl, rfl, ?_, ?_⟩) (fun v e => by cases e) fun n => absurd rfl n
    · rw [List.size_toArray, lenU]
      exact len
    · simpa using rv
  | none =>
    have seq : startH cs a (some (.frz { cls := .type "list", data := .seq us.toArray } (.lst (ns.map V.int)))) a = some (.frz { cls := .type "list", data := .seq us.toArray } (.lst (ns.map V.int))) := by
      unfold startH
      rw [if_neg argT, if_pos rfl]
    refine main (some (.frz { cls := .type "list", data := .seq us.toArray } (.lst (ns.map V.int)))) (.inr ⟨_, _, rfl⟩) (.inl (.inr ⟨_, seq⟩)) (fun v e => ?_) fun _ => hk
    injection e with e
    subst e
    exact ⟨arg, by rw [List.length_map]; exact len, us, _, rv, arg⟩
end
/-- the promise of a law's def, where its makers' tables stand -/
def LawAtG (l : PySem.W.OpenLaw) (w : World) (K : PySem.W.Frag) (CX : CXT) (k n : Nat) (x : Str) (mg : Str → Option Value) (fa : Addr) (h : Heap) : Prop :=
  ∃ (fd : FuncData) (cs : List (Addr × Addr)) (sp : Sp), (∀ q ∈ cs, h.get? q.2 = some { cls := .none, data := .fields #[] }) ∧ (∀ q ∈ cs, K.lookup q.2 = none) ∧ (∀ q ∈ cs, PySem.W.CodeHd h q.1 q.2) ∧ (∀ (s : Shared) (u : Value), BindsTo s fd ⟨[u], []⟩ [(x, u)]) ∧
    (∀ (H : Hp) (a : Addr) (ns : List Int), ns.length ≤ n → (∀ q ∈ cs, H q.2 = some (.tbl #[])) → SqL K H a (ns.map V.int) → sp [.ref a] H (fun v _ => v = .bl true) fun _ _ _ => False) ∧
    ∀ base : Heap, K.In base → base.Ns mainGlobals mg → (∀ q ∈ cs, TabB base mg q.1 q.2) → FnOkG l.prog w K mg base CX k fa fd [x] sp
theorem walk_tabG {l : PySem.W.OpenLaw} {n k : Nat} {q : Program} {loose : List Str} {XP : (Str → Option Value) → Heap → Prop} {YP : World → Heap → Prop} {d : DefRec} {K : Params → PySem.W.Frag} {CX : World → CXT} {x : Str} (most : l.most = some n) (small : n ≤ sizeLine) (nodef : d.params.defaults = []) (room : Room k callerA) (yes : ∀ (w : World) (h : Heap), YP w h → (K w.params).In h)
    (F : ∀ (w : World) (mg : Str → Option Value) (fa : Addr) (h : Heap), YP w h → (K w.params).In h → h.Ns mainGlobals mg → mg d.name = some (.ref fa) → LawAtG l w (K w.params) (CX w) k n x mg fa h) (noE : ∀ (w : World) (H : Hp) (s : Shared) (e : Value) (s' : Shared), CX w [] H s (fun _ _ _ => False) e s' → False) :
    PySem.W.WalkO q loose XP YP l.row.toRowW d [] fun f vs => PySem.call f vs := by
  refine Att.attach_callB most nodef fun w s₀ s₁ mg mb fa o pm cd doc a us ns G Y ho hd hcd hmg hobj isI len bits g0 => ?_
  have kin := yes w _ Y
  obtain ⟨fd, cs, sp, tabs, out, code, bind, wish, run⟩ := F w mg fa _ Y kin G.T.g hmg
  exact law_tabG kin G.T.g G.T.b G.T.builtins G.T.nolimit g0 tabs out code G.T.bmain hobj isI (Nat.le_trans len small) room run bind (fun H h1 h2 => wish H a ns len h1 h2) fun H e s' => noE w H s₁ e s'
end L2

/-! Several except clauses, each with «as» a name. -/
namespace L2
open PySem PySem.Spec PyProof.Rows
/-- one clause: its class, its name's slot, its suite -/
structure ClsAs where
  c : Value
  i : Nat
  ts : Addr → Value → Option Addr → TS
/-- what the clauses wish of an exception of the body, one after the other -/
def wAsM (K : PySem.W.Frag) (Wout : WX) (D : Ends) : List ClsAs → WX
  | [] => Wout
  | q :: r => fun cls d σ H => ∃ b, PySem.W.exmOne K cls q.c = some b ∧
      (b = true → ∀ a, H a = none → q.ts a cls d { nx := fun σ' H' => D.nx (σ'.set q.i none) H', rt := D.rt, bk := fun σ' H' => D.bk (σ'.set q.i none) H', ct := fun σ' H' => D.ct (σ'.set q.i none) H' } (σ.set q.i (some (.ref a))) H) ∧
      (b = false → wAsM K Wout D r cls d σ H)
inductive HdsAs (X : Cx) : List ExceptHandler → List ClsAs → Prop
  | nil : HdsAs X [] []
  | cons {x n : Str} {i : Nat} {c : Value} {ts : Addr → Value → Option Addr → TS} {b₀ : Stmt} {suite : List Stmt} {np pos' : Pos} {hds : List ExceptHandler} {l : List ClsAs} (hi : X.N[i]? = some n) (hln : X.env.kindOf n = some .local) (hc : Names X x c)
      (hsu : ∀ (a : Addr) (oe : Obj) (cls : Value) (d : Option Addr) (pn : List (Addr × Obj)), Zc cls d oe → (∃ vs, oe.data = .fields vs) → PSs (X.suite a ((a, oe) :: pn)) (b₀ :: suite) (ts a cls d)) (r : HdsAs X hds l) :
      HdsAs X (.ExceptHandler (some (.Name x np)) (some n) (b₀ :: suite) pos' :: hds) (⟨c, i, ts⟩ :: l)
section
variable {X : Cx} {body : List Stmt} {h₀ : ExceptHandler} {hds : List ExceptHandler} {l : List ClsAs} {pos : Pos} {tb : WX → TS} {Wout : WX}
theorem ps_try_asM (hs : X.stack = X.env :: X.outer) (hf : X.env.frame = some X.env.locals) (hN : X.N.Nodup) (tk : Takes X Wout)
    (hb : ∀ (W : WX) (pn : List (Addr × Obj)) (xe : Value → Shared → Prop), Takes (X.tr pn xe) W → PassesOwn (model X.prog X.w) X.A X.env xe → PSs (X.tr pn xe) body (tb W))
    (hh : HdsAs X (h₀ :: hds) l) : PS X (.Try body (h₀ :: hds) [] [] pos) (fun D σ H => tb (wAsM X.K Wout D l) D σ H) := by
  refine ⟨fun pins s σ H D I h => ?_⟩
  have ok := I.ok
  have hfr : X.A.frames = some (X.env :: X.outer) := by rw [ok.frames, hs]
  refine wpAny_Try_except ?_
  refine wpAny_mono ((hb (wAsM X.K Wout D l) (X.pn ++ pins) (fun e s₁ => wpAny (model X.prog X.w) X.A (noteFrame e X.env) (fun _ s₂ => wpAny (model X.prog X.w) X.A (setFlight e none) (fun _ s₃ =>
    wpAny (model X.prog X.w) X.A (handleBy e X.env (h₀ :: hds)) (SP X pins D) X.xe s₃) X.xe s₂) X.xe s₁) (fun u s' xx => ?_) PassesOwn.looking).run [] s σ H D (I.toTry _) h) (fun f s1 hsp => ?_) (fun e s1 he => he)
  · obtain ⟨a, B, sI, pins', σ', H', cls, d, rfl, J', nb, up, sky, na, os, ag, w⟩ := xx
    have J : Inv X pins σ' H' sI := J'.ofTry ok
    have sky' : Sky B (X.env :: X.outer) a (Zc cls d) X.env.locals s'.heap := by rw [← hs]; exact sky
    show wpAny (model X.prog X.w) X.A (noteFrame (.ref a) X.env) _ _ _
    refine Sky.land Zc.steady hfr hf sky' fun h3 fl3 up3 => ?_
    have J3 : Inv X pins σ' H' { s' with heap := h3 } := J.landed nb fl3.1 (up.trans up3) os ag
    obtain ⟨oe3, vs3, he3, hz3, hd3⟩ := fl3.there
    have notFr : ∀ {h : Heap} {o : Obj} {vs : Array Value}, h.FunFrames B (X.env :: X.outer) → h.get? a = some o → o.data = .fields vs → a ∉ frs (X.env :: X.outer) := fun {h o vs} ff e dd hm => by
      obtain ⟨_, o', e', hnf⟩ := ff.mem hm
      rw [e] at e'; cases e'
      exact hnf _ dd
    have nfr := notFr fl3.2.2.1 he3 hd3
    have nL : a ≠ X.env.locals := fun z => nfr (List.mem_filterMap.mpr ⟨X.env, List.mem_cons_self, by rw [hf, z]⟩)
    have nF : a ∉ X.fs := fun hm => by
      obtain ⟨e, he, q⟩ := List.mem_filterMap.mp hm
      exact nfr (List.mem_filterMap.mpr ⟨e, List.mem_cons_of_mem _ he, q⟩)
    have S3 := J3.suite he3 hd3 na nL nF
    have go : ∀ {hds' : List ExceptHandler} {l' : List ClsAs}, HdsAs X hds' l' → wAsM X.K Wout D l' cls d σ' H' →
        wpAny (model X.prog X.w) X.A (handleBy (.ref a) X.env hds') (SP X pins D) X.xe { s' with heap := h3 } := by
      intro hds' l' hk
      induction hk with
      | nil =>
        intro w
        refine wpAny_handleBy_nil ?_
        obtain ⟨k1, k2, k3, oe, vs, T, oT, ts', he, hz, hd, h1, hr⟩ := id fl3
        unfold PySem.passOn
        refine wpAny_bind (wpAny_field he hd h1 ?_)
        rw [if_neg (show ¬ ((Value.ref T == Value.none) = true) from by simp)]
        have fin : wpAny (model X.prog X.w) X.A (setFlight (.ref a) X.env.frame) (fun _ s4 => wpAny (model X.prog X.w) X.A (throw (.ref a) : Sem Flow) (SP X pins D) X.xe s4) X.xe { s' with heap := h3 } := by
          rw [hf]
          refine HandSPX.setFlight_upZ fl3 fun h4 hh4 up4 => wpAny_throw (tk _ _ ?_)
          exact ⟨a, B, sI, pins, σ', H', cls, d, rfl, J, nb, (up.trans up3).trans up4, .inr (.inr (by rw [hs]; exact hh4)), na, os, ag, w⟩
        first
          | exact wpAny_bind (wpAny_pure (wpAny_bind fin))
          | exact wpAny_bind fin
      | @cons x n i c ts b₀ suite np pos' hds2 l2 hi hln hc hsu r ih =>
        intro w
        obtain ⟨b, hb1, hyes, hno⟩ := w
        have hloc : Loc X.env.scope n := .inl hln
        refine wpAny_handleBy_cons (codeAny_handlers_test ?_) (by intro q; cases q)
        have LT : PySem.W.Looks (model X.prog X.w) h3 (typeOf (.ref a)) cls := fun A Q E s k q => wpAny_typeOf_ref (k _ _ he3) (by rw [hz3.1]; exact q)
        have LM := PySem.W.exm_one (M := model X.prog X.w) (J3.kIn) LT hb1
        have test : ∀ {Q : Value → Shared → Prop} {E : Value → Shared → Prop}, Q c { s' with heap := h3 } → wpAny (model X.prog X.w) (X.A.mark (some (.ref a))) (eval (.Name x np) X.env) Q E { s' with heap := h3 } := fun {Q E} q => by
          obtain ⟨hg, hdbg, hm | ⟨hm, hv, hnn⟩⟩ := hc
          · exact ld_glob (X := X.suite a ((a, oe3) :: (X.pn ++ pins))) S3 hg hm q hdbg
          · exact ld_blt (X := X.suite a ((a, oe3) :: (X.pn ++ pins))) S3 hg hm hv q hnn hdbg
        refine test (LM.here ?_)
        cases b with
        | true =>
          refine codeAny_handlers_suite_as ?_
          refine HandSPX.lands_againZ fl3 fun h4 fl4 up4 => ?_
          have J4 : Inv X pins σ' H' { s' with heap := h4 } := J.landed nb fl4.1 ((up.trans up3).trans up4) os ag
          obtain ⟨oe4, vs4, he4, hz4, hd4⟩ := fl4.there
          have S4 := J4.suite he4 hd4 na nL nF
          refine store_ok (X := X.suite a ((a, oe4) :: (X.pn ++ pins))) (v := .ref a) S4 hN hi hloc rfl (fun s5 S5 => ?_) (.inr hln)
          refine wpAny_mono ((hsu a oe4 cls d (X.pn ++ pins) hz4 ⟨_, hd4⟩).run [] s5 _ H' _ S5 (hyes rfl a na)) (fun f s6 hsp => ?_) (fun _ _ z => False.elim z)
          have end_ : ∀ {σ6 : St} {H6 : Hp} {Q : Shared → Prop}, Inv (X.suite a ((a, oe4) :: (X.pn ++ pins))) [] σ6 H6 s6 → (∀ s7, Inv X pins (σ6.set i none) H6 s7 → Q s7) →
              wpAny (model X.prog X.w) X.A (do bindName X.env n .none; unbindBehindTheSuite X.env n pos') (fun _ s7 => Q s7) X.xe s6 := fun {σ6 H6 Q} S6 hq => gone_ok (S6.unsuite ok) hN hi hln hq
          cases f with
          | next =>
            obtain ⟨σ6, H6, S6, q6⟩ := hsp
            exact end_ S6 fun s7 J7 => ⟨_, _, J7, q6⟩
          | brk =>
            obtain ⟨σ6, H6, S6, q6⟩ := hsp
            exact end_ S6 fun s7 J7 => ⟨_, _, J7, q6⟩
          | cont =>
            obtain ⟨σ6, H6, S6, q6⟩ := hsp
            exact end_ S6 fun s7 J7 => ⟨_, _, J7, q6⟩
          | ret u =>
            obtain ⟨v6, σ6, H6, S6, r6, q6⟩ := hsp
            exact end_ S6 fun s7 J7 => ⟨_, _, _, J7, r6, q6⟩
        | false =>
          show wpAny _ X.A (handleBy (.ref a) X.env hds2) _ _ _
          exact ih (hno rfl)
    exact go hh w
  · cases f with
    | next =>
      obtain ⟨σ', H', J', q⟩ := hsp
      exact wpAny_execs_nil ⟨σ', H', J'.ofTry ok, q⟩
    | brk =>
      obtain ⟨σ', H', J', q⟩ := hsp
      exact ⟨σ', H', J'.ofTry ok, q⟩
    | cont =>
      obtain ⟨σ', H', J', q⟩ := hsp
      exact ⟨σ', H', J'.ofTry ok, q⟩
    | ret u =>
      obtain ⟨v, σ', H', J', r, q⟩ := hsp
      exact ⟨v, σ', H', J'.ofTry ok, r, q⟩
end
end L2

/-! Defs that make lambdas. -/
namespace L2
open PySem PySem.Spec PyProof.Rows LamX
section
variable {P : Program} {w : World} {K : PySem.W.Frag} {mg : Str → Option Value} {base : Heap}
/-- a def whose code object is known -/
theorem Fun.okC {x qual : Str} {st : Stmt} {f c : Addr} {fd : FuncData} {N ps : List Str} {k : Nat} {sp : Sp} (F : Fun K x qual st f fd) (hc : fd.code = .ref c) (S : FnScope N ps (defScope st)) (len : ∀ vs H Q E, sp vs H Q E → vs.length = ps.length)
    (body : ∀ (A : Around) (outer : List Env) (s : Shared) (H : Hp) (vs : List V) (Q : VK) (E : XK), Room k (A.deeper (envOfC qual (defScope st) s.heap.objs.size f (.ref c))) → sp vs H Q E →
      ∃ t, PSs (cxOf CX0 P w K mg base N qual (defScope st) f (.ref c) A outer s H E).nox (defBody st) t ∧ t { nx := fun _ H' => Q .non H', rt := Q } (start N vs) H) : FnOk P w K mg base CX0 (k + 1) f fd ps sp := by
  obtain ⟨oc, od, kV, doc, pm, an, cdv, ct, osl, rfl, lk, hcd⟩ := F.ex
  have hc' : cdv = .ref c := hc
  subst hc'
  refine fn_of lk hcd S len fun A outer s H vs Q E hr hsp => ?_
  obtain ⟨t, h, q⟩ := body A outer s H vs Q E hr hsp
  exact ⟨t, h.nox, q⟩
/-- the same where no repr is under way -/
theorem Fun.okCG {x qual : Str} {st : Stmt} {f c : Addr} {fd : FuncData} {N ps : List Str} {k : Nat} {sp : Sp} (F : Fun K x qual st f fd) (hc : fd.code = .ref c) (S : FnScope N ps (defScope st)) (len : ∀ vs H Q E, sp vs H Q E → vs.length = ps.length)
    (body : ∀ (A : Around) (outer : List Env) (s : Shared) (H : Hp) (vs : List V) (Q : VK) (E : XK), A.guards = some [] → Room k (A.deeper (envOfC qual (defScope st) s.heap.objs.size f (.ref c))) → sp vs H Q E →
      ∃ t, PSs (cxOf CX0 P w K mg base N qual (defScope st) f (.ref c) A outer s H E).nox (defBody st) t ∧ t { nx := fun _ H' => Q .non H', rt := Q } (start N vs) H) : FnOkG P w K mg base CX0 (k + 1) f fd ps sp := by
  obtain ⟨oc, od, kV, doc, pm, an, cdv, ct, osl, rfl, lk, hcd⟩ := F.ex
  have hc' : cdv = .ref c := hc
  subst hc'
  refine fn_ofG lk hcd S len fun A outer s H vs Q E hg hr hsp => ?_
  obtain ⟨t, h, q⟩ := body A outer s H vs Q E hg hr hsp
  exact ⟨t, h.nox, q⟩
end
/-- what is made of a lambda: its refusal's field, or None -/
def TAsk (CS : Addr) (fl : Str) : (XK → Hp → VK → Prop) → Hp → VK → Prop := fun tl H Q =>
  tl (fun cls d H' => cls = .ref CS ∧ ∃ (e : Addr) (v : V), d = some e ∧ H' e = some (.xd [(fl, v)]) ∧ Q v H') H fun _ H' => Q .non H'
/-- the def that calls what it got, by its facts -/
structure AskF (P : Program) (w : World) (K : PySem.W.Frag) (mg : Str → Option Value) (x a : Str) (st : Stmt) (N : List Str) (TT : (XK → Hp → VK → Prop) → Hp → VK → Prop) : Prop where
  ex : ∃ g fd, Fun K x x st g fd ∧ mg x = some (.ref g) ∧ Binds K fd [a] [] ∧ FnScope N [a] (defScope st) ∧ N[0]? = some a ∧ Vis (defScope st) a
  gives : ∀ (X : Cx) (g : Addr) (cdg : Value) (q : Str), X.prog = P → X.w = w → X.K = K → X.mg = mg → GivesTo X N x (defScope st) g cdg (defBody st) a q TT
section
variable {X : Cx} {T : List (Addr × Str)} {TT : (XK → Hp → VK → Prop) → Hp → VK → Prop} {x a : Str} {st : Stmt} {N : List Str} {c P : Addr} {k : Nat} {params : Arguments} {body : Expr} {scope : Scope} {t : XK → TE} {p lpos pos : Pos}
theorem AskF.pe (L : AskF X.prog X.w X.K X.mg x a st N TT) (hg : Gl X x) (TB : TabB X.base X.mg c P) (hcode : X.env.code = .ref c) (hmT : (P, X.env.qual ++ "<lambda>") ∈ T) (hu : ∀ p ∈ T, p.1 = P → p.2 = X.env.qual ++ "<lambda>") (hr : Room (k + 2) X.A)
    (hbody : ∀ (A : Around) (outer : List Env) (s : Shared) (H : Hp) (E : XK) (f c' : Addr), Room k (A.deeper (lamEnv X scope s.heap.objs.size f c')) → PE (lamCx X A outer s H E scope f c') body (t E))
    (S : lamSB X.env.scope scope = true := by decide +kernel) (hdef : defaultsOf params X.env = ([], []) := by rfl)
    (hbind : ∀ (q : Str) (cl : List (Str × Addr)) (pm cv ctv : Value), bindArgs (PySem.W.kla_fn "<lambda>" q params body scope cl pm cv ctv) ⟨[], []⟩ = pure [] := by intro _ _ _ _ _; rfl)
    (hdb : (x == ("__debug__" : Str)) = false := by decide) (hd : (a == ("__debug__" : Str)) = false := by decide) (hcd : (a == ("__classdict__" : Str)) = false := by decide) :
    PE X (.Call (.Name x p) [.Lambda params body scope lpos] [] pos) (tLam T TT t) := by
  obtain ⟨g, fd, F, gm, b, Sg, hN, hv⟩ := L.ex
  have kp := F.kp
  obtain ⟨oc, od, kV, doc, pm, an, cdv, ct, osl, rfl, lk, hcg⟩ := F.ex
  exact pe_lamcall hg gm kp lk hcg b Sg hN hv (L.gives X g cdv _ rfl rfl rfl rfl) TB hcode hmT hu hr (lamS_by S) hdef hbind hbody hdb hd hcd
end
end L2

namespace G
open PySem L2 GM LamX
theorem takes_len {X : Cx} {W : WX} (t : Takes X W) : Takes X (fun c d σ H => σ.length = X.N.length → W c d σ H) := fun u s' ⟨a, B, sI, pins, σ, H, cls, d, e, I, nb, up, sky, na, os, ag, w⟩ =>
  t u s' ⟨a, B, sI, pins, σ, H, cls, d, e, I, nb, up, sky, na, os, ag, w I.len⟩
theorem scAsked : FnScope ["ask", "found", "e"] ["ask"] (defScope s__law_asked) := ⟨rfl, rfl, rfl, by decide +kernel, rfl, by decide +kernel, by decide +kernel⟩
/-- what is made of a lambda: what it tells, or its refusal's field -/
def TAskT (CS : Addr) : (XK → Hp → VK → Prop) → Hp → VK → Prop := fun tl H Q =>
  tl (fun cls d H' => cls = .ref CS ∧ ∃ (e : Addr) (v : V), d = some e ∧ H' e = some (.xd [("at", v)]) ∧ ∀ r, H' r = none → Q (.ref r) (upd H' r (.tup [.str "none", v]))) H fun v H' => ∀ r, H' r = none → Q (.ref r) (upd H' r (.tup [.str "told", v]))
def setAsk (te : TE) : TS := tAsg (tTup (tCons (tC (.str "told")) (tCons te tNil))) (gName 1)
section
variable {X : Cx} {CS : Addr}
theorem ask_gives3 {g : Addr} {cdg : Value} {q : Str} (XF : XfC X.K CS) (no : PySem.W.findIn X.K (.ref CS) "at" = some none) (gS : X.mg "NoSlide" = some (.ref CS)) (XE : PySem.W.exmOne X.K (.ref CS) (.ref CS) = some true) :
    GivesTo X ["ask", "found", "e"] "_law_asked" (defScope s__law_asked) g cdg (defBody s__law_asked) "ask" q (TAskT CS) := by
  intro f c' s H Q tl act hc h
  refine ⟨_, pss_cons (ps_set (i := 1) scAsked.nd rfl (Or.inl rfl) pe_non)
    (pss_cons (ps_try_as (i := 2) (tb := fun W D σ H => ∃ Ech : XK, (∀ cls d σ' H', Ech cls d H' → σ'.length = 3 → W cls d σ' H') ∧ setAsk (fun σZ HZ Q => σZ[0]? = some (some (.ref f)) ∧ HZ c' = some (CodeO c' q) ∧ tl Ech HZ Q) D σ H) (ts := fun a cls d => tAsg (tTup (tCons (tC (.str "none")) (tCons (tXf a cls d CS "at" (tVar 2)) tNil))) (gName 1)) (Wout := fun _ _ _ _ => False) rfl rfl scAsked.nd rfl rfl ⟨rfl, by decide, Or.inl gS⟩ L2.takes0
        (fun W pn xe tk _ => ?_)
        (fun a oe cls d pn hz hf => pss_one (ps_set (i := 1) scAsked.nd rfl (Or.inl rfl) (by exact (pe_tup (pa_cons pe_str (pa_cons (pe_xf XF no hz hf (pv 2)) pa_nil)))))))
    (pss_one (ps_ret (pv 1)))), ?_⟩
  · refine ⟨fun pins s' σ H' D I h' => ?_⟩
    obtain ⟨Ech, hW, h1⟩ := h'
    exact (pss_one (ps_set (i := 1) scAsked.nd rfl (Or.inl rfl) (pe_tup (pa_cons pe_str (pa_cons (act _ pn xe Ech _ _ (takes_len tk) fun cls d σ' H' e l => hW cls d σ' H' e l) pa_nil))))).run pins s' σ H' D I h1
  · refine ⟨fun cls d H' => cls = .ref CS ∧ ∃ (e : Addr) (v : V), d = some e ∧ H' e = some (.xd [("at", v)]) ∧ ∀ r, H' r = none → Q (.ref r) (upd H' r (.tup [.str "none", v])), fun cls d σ' H' hx hl => ?_, rfl, hc, ?_⟩
    · obtain ⟨rfl, e, v, rfl, he, hq⟩ := hx
      obtain ⟨x0, x1, x2, rfl⟩ : ∃ x0 x1 x2, σ' = [x0, x1, x2] := match σ', hl with | [a, b, c], _ => ⟨a, b, c, rfl⟩
      refine ⟨true, XE, fun _ a na => ?_, fun z => nomatch z⟩
      exact ⟨_, rfl, rfl, rfl, e, _, _, rfl, he, rfl, (by show 2 ≤ sizeLine; decide), fun r nr => ⟨_, rfl, hq r nr⟩⟩
    · refine cast (congrArg (fun k => tl (fun cls d H' => cls = .ref CS ∧ ∃ (e : Addr) (v : V), d = some e ∧ H' e = some (.xd [("at", v)]) ∧ ∀ r, H' r = none → Q (.ref r) (upd H' r (.tup [.str "none", v]))) H k) (funext fun v => funext fun H' => propext ⟨fun z => ⟨(by show 2 ≤ sizeLine; decide), fun r nr => ⟨_, rfl, z r nr⟩⟩, fun z r nr => ?_⟩)) h
      obtain ⟨v2, e2, z3⟩ := z.2 r nr
      obtain rfl : V.ref r = v2 := Option.some.inj (Option.some.inj e2)
      exact z3
end
theorem askF_mk3 {P : Program} {w : World} {K : PySem.W.Frag} {mg : Str → Option Value} {CS g : Addr} {fd : FuncData} (F : Fun K "_law_asked" "_law_asked" s__law_asked g fd) (b : Binds K fd ["ask"] []) (gA : mg "_law_asked" = some (.ref g)) (XF : XfC K CS) (no : PySem.W.findIn K (.ref CS) "at" = some none) (gS : mg "NoSlide" = some (.ref CS)) (XE : PySem.W.exmOne K (.ref CS) (.ref CS) = some true) :
    AskF P w K mg "_law_asked" "ask" s__law_asked ["ask", "found", "e"] (TAskT CS) :=
  ⟨⟨g, fd, F, gA, b, scAsked, rfl, .inl rfl⟩, fun X g cdg q h1 h2 h3 h4 => by
    subst h3 h4
    exact ask_gives3 XF no gS XE⟩
end G

set_option maxHeartbeats 8000000
namespace G
open PySem L2 GM LamX
theorem nt_noT {H : Hp} {p : Addr} {l : List Nat} (h : NT H p l) : NT (noT H) p l := noT_of h fun ps e => by cases e
theorem nl_noT {H : Hp} {p : Addr} {l : List Nat} (h : NL H p l) : NL (noT H) p l := noT_of h fun ps e => by cases e
theorem ll_noT {H : Hp} {p : Addr} {rs : List (List Nat)} (h : LL H p rs) : LL (noT H) p rs := by
  obtain ⟨as, h1, h2, h3⟩ := h
  exact ⟨as, noT_of h1 (fun ps e => by cases e), h2, fun i a e => nl_noT (h3 i a e)⟩
theorem lp_noT {H : Hp} {p : Addr} {ws : List Way} (h : LP H p ws) : LP (noT H) p ws := by
  obtain ⟨as, h1, h2, h3⟩ := h
  exact ⟨as, noT_of h1 (fun ps e => by cases e), h2, fun i a e => nt_noT (h3 i a e)⟩
theorem tree_noT {C : Addr} {H : Hp} {p : Addr} {ws : List Way} (h : TreeAt C H p ws) : TreeAt C (noT H) p ws := by
  obtain ⟨dx, lw, lr, h1, h2, h3⟩ := h
  exact ⟨dx, lw, lr, noT_of h1 (fun ps e => by cases e), lp_noT h2, ll_noT h3⟩
mutual
theorem dz_noT {H : Hp} {v : V} {d : PyData} : Dz H v d → Dz (noT H) v d
  | .non => .non
  | .bl b => .bl b
  | .int i => .int i
  | .str x => .str x
  | .lst h r => .lst (noT_of h fun ps e => by cases e) (dz_noTAll r)
  | .tup h r => .tup (noT_of h fun ps e => by cases e) (dz_noTAll r)
  | .emp h => .emp (noT_of h fun ps e => by cases e)
theorem dz_noTAll {H : Hp} {vs : List V} {ds : List PyData} : DzAll H vs ds → DzAll (noT H) vs ds
  | .nil => .nil
  | .cons h r => .cons (dz_noT h) (dz_noTAll r)
end
theorem tabs_rm {T : List (Addr × Str)} {H H' : Hp} {a : Addr} (t : Tabs T H) (w : Well H a) (s : Same (rm H a) (rm H' a)) : Tabs T H' := fun p hp => by
  obtain ⟨ps, h1, h2, h3⟩ := t p hp
  obtain ⟨x, y, z, hw⟩ := w
  refine ⟨ps, sr_at s (fun e => ?_) h1, h2, fun pos cv hcv => ?_⟩
  · rw [e, hw] at h1
    cases h1
  · obtain ⟨c, e1, e2⟩ := h3 pos cv hcv
    refine ⟨c, e1, sr_at s (fun e => ?_) e2⟩
    rw [e, hw] at e2
    cases e2
theorem noT_rm {H H' : Hp} {a : Addr} (s : Same (noT H) (noT H')) : Same (noT (rm H a)) (noT (rm H' a)) := fun b o h => by
  obtain ⟨h1, n⟩ := noT_some h
  obtain ⟨ne, h2⟩ := rm_some h1
  refine noT_of ?_ n
  rw [rm_ne ne]
  exact noT_in _ _ _ (s b o (noT_of h2 n))
theorem not_same {x : Str} : (!decide (V.str x = V.str x)) = false := by simp
theorem un80q {A : Around} {k : Nat} (r : Room k A) : A.units + 80 < cLine := by
  have := r.un
  omega
theorem made_same {H : Hp} {C x dx : Addr} (nx : H x = none) (nd : H dx = none) : Same H (upd (upd H dx (.own x)) x (.ins C dx [])) := fun b o e => by
  rw [upd_ne (ne_of_none e nx), upd_ne (ne_of_none e nd)]
  exact e
theorem pair_refl : ∀ ss : List Way, PyData.eqvAll (pairD ss) (pairD ss) = true
  | [] => rfl
  | s :: r => by
    show (PyData.eqvAll (dN [s.1, s.2]) (dN [s.1, s.2]) && PyData.eqvAll (pairD r) (pairD r)) = true
    rw [eqv_dN, pair_refl r, decide_eq_true rfl]
    rfl
theorem eq_lp1 {K : PySem.W.Frag} {H : Hp} {p q : Addr} {ss : List Way} {Q : VK} (hp : LP H p ss) (hq : LP H q ss) (h : Q (.bl true) H) : rEqD K (.ref p) (.ref q) H Q := by
  obtain ⟨as, h1, h2⟩ := hp
  obtain ⟨bs, g1, g2⟩ := hq
  refine ⟨_, _, .lst (SqL.of h1) (dp_lp as ss h2), .lst (SqL.of g1) (dp_lp bs ss g2), (flat_list flat_pair).shaped, (flat_list flat_pair).shaped, ?_⟩
  show Q (.bl (PyData.eqvAll (pairD ss) (pairD ss))) H
  rw [pair_refl]
  exact h
theorem ne_lp1 {K : PySem.W.Frag} {H : Hp} {p q : Addr} {ss : List Way} {Q : VK} (hp : LP H p ss) (hq : LP H q ss) (h : Q (.bl false) H) : rNeD K (.ref p) (.ref q) H Q := by
  obtain ⟨as, h1, h2⟩ := hp
  obtain ⟨bs, g1, g2⟩ := hq
  refine ⟨_, _, .lst (SqL.of h1) (dp_lp as ss h2), .lst (SqL.of g1) (dp_lp bs ss g2), (flat_list flat_pair).shaped, (flat_list flat_pair).shaped, ?_⟩
  show Q (.bl (!PyData.eqvAll (pairD ss) (pairD ss))) H
  rw [pair_refl]
  exact h
theorem iteN0F {b : Bool} {A B : Prop} (e : b = false) (h : B) : if b = true then A else B := by
  subst e
  exact iteF h
theorem nt_rm3 {H : Hp} {a p : Addr} {l : List Nat} (h : NT H p l) (w : Well H a) : NT (rm H a) p l := by
  obtain ⟨x, y, z, w⟩ := w
  unfold NT at *
  rw [rm_ne fun e => by
    rw [e, w] at h
    cases h]
  exact h
theorem well_noT {H H' : Hp} {a : Addr} (w : Well H a) (s : Same (noT H) (noT H')) : Well H' a := by
  obtain ⟨x, y, z, h⟩ := w
  exact ⟨x, y, z, noT_in _ _ _ (s _ _ (noT_of h fun ps e => by cases e))⟩
/-- what is handed to slid and leapt -/
def MvA (H : Hp) (v : V) : Prop := ∃ d, Dz H v d ∧ Sm 4 9000 d ∧ MvOk d
theorem MvA.noT {H : Hp} {v : V} (h : MvA H v) : MvA (noT H) v := by
  obtain ⟨d, z, r⟩ := h
  exact ⟨d, dz_noT z, r⟩
theorem MvA.same {H H' : Hp} {v : V} (h : MvA H v) (s : Same H H') : MvA H' v := by
  obtain ⟨d, z, r⟩ := h
  exact ⟨d, z.same s, r⟩
theorem mva_bl {H : Hp} {t : Addr} {n : Nat} (h : Bl H t n) (l : n ≤ 200) : MvA H (.ref t) := by
  obtain ⟨xs, ds, h1, h2, h3, h4⟩ := h
  refine ⟨.list ds, .lst h1 h2, (sm_list (k := 2) (m := 40) (n := 9000) (fun d hd => (h3 d hd).1) (by omega)).mono (by decide) (by decide), fun es e d hd => ?_⟩
  injection e with e
  subst e
  exact ⟨(h3 d hd).2, Nat.le_trans (h3 d hd).1.2.1 (by decide)⟩
theorem mva_tup {H : Hp} {t p : Addr} {n : Nat} {xs : List V} (h : Bl H t n) (hx : H t = some (.lst xs)) (hp : H p = some (.tup xs)) (l : n ≤ 200) : MvA H (.ref p) := by
  obtain ⟨ys, ds, h1, h2, h3, h4⟩ := h
  rw [hx] at h1
  cases h1
  exact ⟨.tuple ds, .tup hp h2, (sm_tup (k := 2) (m := 40) (n := 9000) (fun d hd => (h3 d hd).1) (by omega)).mono (by decide) (by decide), fun es e => by cases e⟩
theorem bl_lp3 {H : Hp} {l : Addr} {ms : List Way} {n : Nat} (h : LP H l ms) (lt : ∀ w ∈ ms, w.1 < 60 ∧ w.2 < 60) (m : ms.length ≤ n) : Bl H l n := by
  obtain ⟨as, h1, h2⟩ := h
  have key : ∀ (as : List Addr) (ms : List Way), Pairs H as ms → (∀ w ∈ ms, w.1 < 60 ∧ w.2 < 60) → ∃ ds, DzAll H (as.map V.ref) ds ∧ (∀ d ∈ ds, Mv d) ∧ ds.length = ms.length := by
    intro as
    induction as with
    | nil =>
      intro ms h lt
      cases ms with
      | nil => exact ⟨[], .nil, fun d h => by simp at h, rfl⟩
      | cons _ _ => have := h.1; simp at this
    | cons a as ih =>
      intro ms h lt
      cases ms with
      | nil => have := h.1; simp at this
      | cons w ms =>
        obtain ⟨ds, g1, g2, g3⟩ := ih ms ⟨by have := h.1; simpa using this, fun i b hb => h.2 (i + 1) b hb⟩ fun w hw => lt w (List.mem_cons_of_mem _ hw)
        have ha : NT H a [w.1, w.2] := h.2 0 a rfl
        have := lt w List.mem_cons_self
        refine ⟨.tuple [.int w.1, .int w.2] :: ds, .cons (.tup ha (.cons (.int _) (.cons (.int _) .nil))) g1, fun d hd => ?_, by rw [List.length_cons, List.length_cons, g3]⟩
        rcases List.mem_cons.mp hd with rfl | hd
        · refine mv_tup (fun d hd => ?_) (by show 2 ≤ 3; decide) rfl
          simp only [List.mem_cons, List.not_mem_nil, or_false] at hd
          rcases hd with rfl | rfl
          · exact sm_nat (by omega)
          · exact sm_nat (by omega)
        · exact g2 d hd
  obtain ⟨ds, g1, g2, g3⟩ := key as ms h2 lt
  exact ⟨_, ds, h1, g1, g2, by omega⟩
theorem Res3.same {ws : List Way} {far : Bool} {S : List Nat} {d : PyData} {H H' : Hp} {r : Addr} (h : Res3 ws far S d H r) (s : Same H H') : Res3 ws far S d H' r := by
  rcases h with ⟨B, b, h1, h2, h3⟩ | ⟨i, h1, h2⟩
  · exact .inl ⟨B, b, h1, s _ _ h2, h3.same s⟩
  · exact .inr ⟨i, h1, s _ _ h2⟩
theorem str_flat0 {x : Str} (h : PyData.canLay0 (.str x) = true) : Flat 0 (.str x) := ⟨h, Nat.le_refl _⟩
theorem ne_res3 {K : PySem.W.Frag} {ws : List Way} {far : Bool} {S : List Nat} {d : PyData} {H : Hp} {p q : Addr} {Q : VK} (hp : Res3 ws far S d H p) (hq : Res3 ws far S d H q) (h : Q (.bl false) H) : rNeD K (.ref p) (.ref q) H Q := by
  rcases hp with ⟨B, b, h1, h2, h3⟩ | ⟨i, h1, h2⟩
  · rcases hq with ⟨B', b', g1, g2, g3⟩ | ⟨i, g1, g2⟩
    · rw [h1] at g1
      cases g1
      have fl : ∀ d ∈ [PyData.str "told", .tuple (dN B)], Flat 1 d := fun d hd => by
        simp only [List.mem_cons, List.not_mem_nil, or_false] at hd
        rcases hd with rfl | rfl
        · exact ⟨(by decide +kernel : PyData.canLay0 (.str "told") = true), Nat.zero_le _⟩
        · exact flat_tup flat_dN
      refine ⟨_, _, .tup (SqT.of h2) (.cons (.str _) (.cons (dp_nt h3) .nil)), .tup (SqT.of g2) (.cons (.str _) (.cons (dp_nt g3) .nil)), (flat_tup fl).shaped, (flat_tup fl).shaped, ?_⟩
      show Q (.bl (!((("told" : Str) == "told") && (PyData.eqvAll (dN B) (dN B) && true)))) H
      rw [eqv_dN, decide_eq_true rfl]
      exact h
    · rw [h1] at g1
      cases g1
  · rcases hq with ⟨B', b', g1, g2, g3⟩ | ⟨i', g1, g2⟩
    · rw [h1] at g1
      cases g1
    · rw [h1] at g1
      cases g1
      have fl : ∀ d ∈ [PyData.str "none", .int i], Flat 0 d := fun d hd => by
        simp only [List.mem_cons, List.not_mem_nil, or_false] at hd
        rcases hd with rfl | rfl
        · exact ⟨(by decide +kernel : PyData.canLay0 (.str "none") = true), Nat.le_refl _⟩
        · exact ⟨rfl, Nat.le_refl _⟩
      refine ⟨_, _, .tup (SqT.of h2) (.cons (.str _) (.cons (.int _) .nil)), .tup (SqT.of g2) (.cons (.str _) (.cons (.int _) .nil)), (flat_tup fl).shaped, (flat_tup fl).shaped, ?_⟩
      show Q (.bl (!((("none" : Str) == "none") && ((i == i) && true)))) H
      rw [beq_self_eq_true i]
      exact h
/-- two lists of the same pairs, None behind both -/
theorem ne_told {K : PySem.W.Frag} {H : Hp} {p q : Addr} {L : List Way} {as bs : List Addr} {Q : VK} (hp : H p = some (.lst (as.map V.ref ++ [.non]))) (pa : Pairs H as L) (hq : H q = some (.lst (bs.map V.ref ++ [.non]))) (pb : Pairs H bs L) (h : Q (.bl false) H) : rNeD K (.ref p) (.ref q) H Q := by
  have dpA : ∀ {vs ws : List V} {ds es : List PyData}, DpAll K H vs ds → DpAll K H ws es → DpAll K H (vs ++ ws) (ds ++ es) := by
    intro vs ws ds es h1 h2
    induction vs generalizing ds with
    | nil => cases h1; exact h2
    | cons v vs ih =>
      cases h1 with
      | cons a b => exact .cons a (ih b)
  have fl : ∀ d ∈ pairD L ++ [PyData.none], Flat 1 d := fun d hd => by
    rcases List.mem_append.mp hd with hd | hd
    · exact flat_pair d hd
    · rw [List.mem_singleton.mp hd]
      exact ⟨rfl, Nat.zero_le _⟩
  have rf : ∀ L : List Way, PyData.eqvAll (pairD L ++ [PyData.none]) (pairD L ++ [PyData.none]) = true := by
    intro L
    induction L with
    | nil => rfl
    | cons w r ih =>
      show (PyData.eqvAll (dN [w.1, w.2]) (dN [w.1, w.2]) && PyData.eqvAll (pairD r ++ [PyData.none]) (pairD r ++ [PyData.none])) = true
      rw [eqv_dN, ih, decide_eq_true rfl]
      rfl
  refine ⟨_, _, .lst (SqL.of hp) (dpA (dp_lp as L pa) (.cons .non .nil)), .lst (SqL.of hq) (dpA (dp_lp bs L pb) (.cons .non .nil)), (flat_list fl).shaped, (flat_list fl).shaped, ?_⟩
  show Q (.bl (!PyData.eqvAll (pairD L ++ [PyData.none]) (pairD L ++ [PyData.none]))) H
  rw [rf]
  exact h
theorem lam_gone {K : PySem.W.Frag} {C CS p s tl f0 f1 : Addr} {far : Bool} {v : V} {d : PyData} {ws : List Way} {st : List Nat} {T : List (Addr × Str)} {σ : St} {H : Hp} {Q : VK} {S1 : Addr → Sp → Prop} (e3 : σ[3]? = some (some (.ref p))) (e5 : σ[5]? = some (some (.ref s))) (e7 : σ[7]? = some (some (.ref tl))) (e10 : σ[10]? = some (some v))
    (TT : TreeAt C (noT H) p ws) (hl : ws.length ≤ 59) (hw : Ww ws) (hs : NT (noT H) s st) (S : Setting (rows ws) st) (hz : Dz (noT H) v d) (htl : noT H tl = some (.lst [.ref f0, .ref f1])) (hS : S1 f1 (spGoneD C CS far)) (hT : Tabs T H)
    (k : ∀ H' r, Same (noT H) (noT H') → Tabs T H' → Res3 ws far st d H' r → Q (.ref r) H') : tLam T (TAskT CS) (fun E => tCallV S1 (fun σ => WE (fun cls d x H => E cls d H) σ) (tOp (rIxL K) (tVar 7) (tC (.int 1))) (tCons (tVar 3) (tCons (tVar 5) (tCons (tVar 10) tNil)))) σ H Q := by
  refine ⟨hT, fun H1 e1 T1 => ?_⟩
  refine ⟨_, e7, tl, _, _, _, rfl, rfl, SqL.of (noT_in _ _ _ (noT_ext e1 _ _ htl)), (show atI [V.ref f0, V.ref f1] 1 = some (.ref f1) from rfl), f1, _, rfl, hS, _, e3, _, e5, _, e10, p, s, v, d, ws, st, rfl, (TT.same (noT_ext e1)).same (noT_in H1), hl, hw, noT_in H1 _ _ (noT_ext e1 _ _ hs), S, Dz.same (noT_in H1) (Dz.same (noT_ext e1) hz), fun B hB SB H' q r nq hq => fun t nt => ?_, fun i hi H' e r ne he => ⟨rfl, e, _, rfl, he, fun t nt => ?_⟩⟩
  · have sn := same_new (o := HO.tup [V.str "told", V.ref q]) nt
    exact k _ t (fun b o h => noT_mono (r.trans sn) b o (noT_ext e1 b o h)) ((T1.ext r).ext sn) (.inl ⟨B, q, hB, upd_same, hq.same sn⟩)
  · have sn := same_new (o := HO.tup [V.str "none", V.int i]) nt
    exact k _ t (fun b o h => noT_mono (r.trans sn) b o (noT_ext e1 b o h)) ((T1.ext r).ext sn) (.inr ⟨i, hi, upd_same⟩)
/-- the defs that tell all moves; those that go a row of them -/
def Tell0 (C fs fl : Addr) : Addr → Sp → Prop := fun f sp => (f = fs ∧ sp = spMoves C false) ∨ (f = fl ∧ sp = spMoves C true)
def Tell1 (C CS fs fl : Addr) : Addr → Sp → Prop := fun f sp => (f = fs ∧ sp = spGoneD C CS false) ∨ (f = fl ∧ sp = spGoneD C CS true)
def spRight (T : List (Addr × Str)) : Sp := fun vs H Q _ => ∃ (a : Addr), vs = [.ref a] ∧ Well H a ∧ Tabs T H ∧ ∀ H', Same (noT (rm H a)) (noT (rm H' a)) → Tabs T H' → Q (.bl true) H'
structure LR3 (P : Program) (w : World) (K : PySem.W.Frag) (mg : Str → Option Value) (base : Heap) (C CS f1 f2 f3 f4 : Addr) : Prop where
  L_law_draw : Cal P w K mg base "_law_draw" 1 ["well", "many"] spDraw
  L_law_ways : Cal P w K mg base "_law_ways" 2 ["well", "many"] spWays
  L_Tree : CalK P w K mg base C "Tree" 4 ["self", "ways"] (spInit C)
  L_law_near : Cal P w K mg base "_law_near" 1 ["ways"] spRows
  L_law_setting : Cal P w K mg base "_law_setting" 2 ["well", "near"] spSet
  L_law_moves : Cal P w K mg base "_law_moves" 2 ["near", "setting", "far"] spLMoves
  L_law_row : Cal P w K mg base "_law_row" 3 ["well", "near", "setting", "far"] spRow3
  L_law_bent : Cal P w K mg base "_law_bent" 2 ["well", "near", "moves"] spBent3
  L_law_behind : Cal P w K mg base "_law_behind" 3 ["near", "setting", "moves", "far"] spBehind
  g1 : mg "slides" = some (.ref f1)
  g2 : mg "leaps_from" = some (.ref f2)
  g3 : mg "slid" = some (.ref f3)
  g4 : mg "leapt" = some (.ref f4)
  A0 : ∀ f sp, Tell0 C f1 f2 f sp → HeldX P w K mg base CX0 8 f sp
  A1 : ∀ f sp, Tell1 C CS f3 f4 f sp → HeldX P w K mg base (L2.CX P w) 10 f sp
section
variable {P : Program} {w : World} {K : PySem.W.Frag} {mg : Str → Option Value} {base : Heap} {C CS c PD f1 f2 f3 f4 : Addr} {T : List (Addr × Str)}
theorem scRight : FnScope ["well", "many", "ways", "tree", "near", "setting", "far", "tell", "told", "row", "moves", "same"] ["well"] (defScope s__law_right) := ⟨rfl, rfl, rfl, by decide +kernel, rfl, by decide +kernel, by decide +kernel⟩
theorem ok_right {f : Addr} {fd : FuncData} (F : Fun K "_law_right" "_law_right" s__law_right f fd) (hc : fd.code = .ref c) (TB : TabB base mg c PD) (hm : (PD, ("_law_right.<locals>.<lambda>" : Str)) ∈ T) (hu9 : ∀ p ∈ T, p.1 = PD → p.2 = "_law_right.<locals>.<lambda>") (TX : TxL K mg) (Tr : mg "repr" = none) (LL : LR3 P w K mg base C CS f1 f2 f3 f4) (LA : AskF P w K mg "_law_asked" "ask" s__law_asked ["ask", "found", "e"] (TAskT CS)) : FnOkG P w K mg base CX0 15 f fd ["well"] (spRight T) := by
  refine F.okCG hc scRight (fun vs H Q E h => ?_) (fun A outer s H vs Q E hgd hr h => ?_)
  · obtain ⟨a, rfl, _⟩ := h
    rfl
  · obtain ⟨a, rfl, W0, hT, k⟩ := h
    obtain ⟨L_law_draw, L_law_ways, L_Tree, L_law_near, L_law_setting, L_law_moves, L_law_row, L_law_bent, L_law_behind, g1, g2, g3, g4, A0, A1⟩ := LL
    obtain ⟨u0, u1, u2, hW⟩ := id W0
    have hu := hr.units
    have hu80 := un80q hr
    have T := TX
    refine ⟨_, (pss_cons (ps_set (i := 1) scRight.nd rfl (Or.inl rfl) (pe_ix ix_list (pe_lst (pa_cons (pe_op op_add pe_int (L_law_draw.pe (hr.mono (by decide)) rfl (pa_cons (pv 0) (pa_cons pe_int pa_nil)))) (pa_cons (pe_op op_add pe_int (L_law_draw.pe (hr.mono (by decide)) rfl (pa_cons (pv 0) (pa_cons pe_int pa_nil)))) (pa_cons pe_int pa_nil)))) (pe_op op_mul (pe_callTy call_int1 (by rfl) T.int PyProof.Rows.boot_int (pa_cons (pe_cmpR op_eq (L_law_draw.pe (hr.mono (by decide)) rfl (pa_cons (pv 0) (pa_cons pe_int pa_nil))) pe_int (nomark _)) pa_nil)) pe_int) (fun _ _ => rfl)))
      (pss_cons (ps_set (i := 2) scRight.nd rfl (Or.inl rfl) (L_law_ways.pe (hr.mono (by decide)) rfl (pa_cons (pv 0) (pa_cons (pv 1) pa_nil))))
      (pss_cons (ps_asg (pe_tup (pa_cons (L_Tree.pe (hr.mono (by decide)) rfl (pa_cons (pv 2) pa_nil)) (pa_cons (L_law_near.pe (hr.mono (by decide)) rfl (pa_cons (pv 2) pa_nil)) pa_nil))) (pg_tup rfl (pgs_cons (pg_name (i := 3) scRight.nd rfl (Or.inr rfl)) (pgs_cons (pg_name (i := 4) scRight.nd rfl (Or.inl rfl)) pgs_nil))))
      (pss_cons (ps_set (i := 5) scRight.nd rfl (Or.inr rfl) (L_law_setting.pe (hr.mono (by decide)) rfl (pa_cons (pv 0) (pa_cons (pv 4) pa_nil))))
      (pss_cons (ps_for PassesOwn.never rfl (pi_list (pe_lst (pa_cons pe_bl (pa_cons pe_bl pa_nil)))) (pg_name (i := 6) scRight.nd rfl (Or.inl rfl))
        (pss_cons (ps_set (i := 7) scRight.nd rfl (Or.inr rfl) (pe_lst (pa_cons (pe_glob (v := .ref f1) rfl g1 rfl) (pa_cons (pe_glob (v := .ref f3) rfl g3 rfl) pa_nil))))
      (pss_cons (ps_if (pt_val (pv 6)) (pss_one (ps_set (i := 7) scRight.nd rfl (Or.inr rfl) (pe_lst (pa_cons (pe_glob (v := .ref f2) rfl g2 rfl) (pa_cons (pe_glob (v := .ref f4) rfl g4 rfl) pa_nil))))) pss_nil)
      (pss_cons (ps_set (i := 8) scRight.nd rfl (Or.inl rfl) (pe_callV (S := Tell0 C f1 f2) A0 (hr.mono (by decide)) (pe_ix ix_list (pv 7) pe_int (fun _ _ => rfl)) passN (pa_cons (pv 3) (pa_cons (pv 5) pa_nil))))
      (pss_cons (ps_if (PW.pt (pw_or (pt_cmpR (op_neD hu) (pv 8) (L_law_moves.pe (hr.mono (by decide)) rfl (pa_cons (pv 4) (pa_cons (pv 5) (pa_cons (pv 6) pa_nil)))) rfl) (pw_or1 (pt_not (pt_val (pe_callB call_isi (by rfl) T.isi PyProof.Rows.boot_isinstance (pa_cons (pv 8) (pa_cons (pe_bltn (v := .ty "list") (by rfl) T.list PyProof.Rows.boot_list rfl) pa_nil)))))))) (pss_one (ps_ret pe_bl)) pss_nil)
      (pss_cons (ps_expr (pe_bm PySem.F.plainAttrs_list PySem.F.slot_list_append PySem.F.type_list_append mt_append (pv 8) (pa_cons pe_non pa_nil)))
      (pss_cons (ps_set (i := 9) scRight.nd rfl (Or.inl rfl) (L_law_row.pe (hr.mono (by decide)) rfl (pa_cons (pv 0) (pa_cons (pv 4) (pa_cons (pv 5) (pa_cons (pv 6) pa_nil))))))
      (pss_one (ps_for PassesOwn.never rfl (pi_list (pe_lst (pa_cons (pv 9) (pa_cons (L_law_bent.pe (hr.mono (by decide)) rfl (pa_cons (pv 0) (pa_cons (pv 4) (pa_cons (pv 9) pa_nil)))) (pa_cons (pe_ix ix_list (pe_lst (pa_cons (pe_callTy call_tuple_of (by rfl) T.tup PyProof.Rows.boot_tuple (pa_cons (pv 9) pa_nil)) (pa_cons pe_non (pa_cons pe_dnewK pa_nil)))) (L_law_draw.pe (hr.mono (by decide)) rfl (pa_cons (pv 0) (pa_cons pe_int pa_nil))) (fun _ _ => rfl)) pa_nil))))) (pg_name (i := 10) scRight.nd rfl (Or.inr rfl))
        (pss_cons (ps_set (i := 11) scRight.nd rfl (Or.inl rfl) (pe_callB (call_reprA hgd hu80) (by rfl) Tr PyProof.Rows.boot_repr (pa_cons (pv 10) pa_nil)))
      (pss_cons (ps_if (pt_cmpR (op_neD hu) (LA.pe (k := 11) rfl TB rfl hm hu9 (hr.mono (by decide)) (fun A outer s H E f c' hr' => pe_callV (S := Tell1 C CS f3 f4) A1 (hr'.mono (by decide)) (pe_ix (r := rIxL K) ix_list (pv 7) pe_int (fun _ _ => rfl)) (fun σ => passAt (takes_of rfl rfl rfl rfl) σ) (pa_cons (pv 3) (pa_cons (pv 5) (pa_cons (pv 10) pa_nil)))) (by show lamSB (defScope s__law_right) _ = true; decide +kernel)) (L_law_behind.pe (hr.mono (by decide)) rfl (pa_cons (pv 4) (pa_cons (pv 5) (pa_cons (pv 10) (pa_cons (pv 6) pa_nil))))) (nomark _)) (pss_one (ps_ret pe_bl)) pss_nil)
      (pss_one (ps_if (PW.pt (pw_or (pt_cmpR op_ne (pe_callB (call_reprA hgd hu80) (by rfl) Tr PyProof.Rows.boot_repr (pa_cons (pv 10) pa_nil)) (pv 11) (nomark _)) (pw_or1 (pt_cmpR (op_neD hu) (pe_op op_catR (pe_callV (S := Tell0 C f1 f2) A0 (hr.mono (by decide)) (pe_ix ix_list (pv 7) pe_int (fun _ _ => rfl)) passN (pa_cons (pv 3) (pa_cons (pv 5) pa_nil))) (pe_lst (pa_cons pe_non pa_nil))) (pv 8) rfl)))) (pss_one (ps_ret pe_bl)) pss_nil)))))))))))))
      (pss_one (ps_ret pe_bl))))))), ?_⟩
    refine ⟨_, rfl, a, 12, rfl, ⟨u0, u1, u2, hW⟩, by decide, by decide, fun z1 p0 p1 p2 a1 b1 => ?_⟩
    have r1 : Same (rm H a) (rm (upd H a (HO.lst [V.int p0, V.int p1, V.int p2])) a) := sr_draw
    have w1 : Well (upd H a (HO.lst [V.int p0, V.int p1, V.int p2])) a := ⟨_, _, _, upd_same⟩
    generalize upd H a (HO.lst [V.int p0, V.int p1, V.int p2]) = G1 at r1 w1
    refine ⟨_, _, rfl, rfl, _, rfl, a, 12, rfl, w1, by decide, by decide, fun z2 p0 p1 p2 a2 b2 => ?_⟩
    have r2 : Same (rm G1 a) (rm (upd G1 a (HO.lst [V.int p0, V.int p1, V.int p2])) a) := sr_draw
    have w2 : Well (upd G1 a (HO.lst [V.int p0, V.int p1, V.int p2])) a := ⟨_, _, _, upd_same⟩
    generalize upd G1 a (HO.lst [V.int p0, V.int p1, V.int p2]) = G2 at r2 w2
    refine ⟨_, _, rfl, rfl, (by show 3 ≤ sizeLine; decide), fun lm nlm => ?_⟩
    have sm2 : Same G2 (upd G2 lm (HO.lst [V.int (1 + z1), V.int (1 + z2), V.int 20])) := same_new nlm
    have hlm : upd G2 lm (HO.lst [V.int (1 + z1), V.int (1 + z2), V.int 20]) lm = _ := upd_same
    have w2' := well_same w2 sm2
    have lma : lm ≠ a := by
      obtain ⟨x, y, z, e⟩ := w2
      exact (ne_of_none e nlm).symm
    generalize upd G2 lm (HO.lst [V.int (1 + z1), V.int (1 + z2), V.int 20]) = G3 at sm2 hlm w2'
    refine ⟨_, rfl, a, 6, rfl, w2', by decide, by decide, fun z3 p0 p1 p2 a3 b3 => ?_⟩
    have r3 : Same (rm G3 a) (rm (upd G3 a (HO.lst [V.int p0, V.int p1, V.int p2])) a) := sr_draw
    have w3 : upd G3 a (HO.lst [V.int p0, V.int p1, V.int p2]) a = some (HO.lst [V.int p0, V.int p1, V.int p2]) := upd_same
    have hlm3 : upd G3 a (HO.lst [V.int p0, V.int p1, V.int p2]) lm = _ := (upd_ne lma).trans hlm
    generalize upd G3 a (HO.lst [V.int p0, V.int p1, V.int p2]) = G4 at r3 w3 hlm3
    have sr3 : Same (rm H a) (rm G4 a) := r1.trans (r2.trans ((rm_mono a sm2).trans r3))
    obtain ⟨m, hm1, hm20, eat⟩ : ∃ m : Nat, 1 ≤ m ∧ m ≤ 20 ∧ atI [V.int (1 + z1), V.int (1 + z2), V.int 20] ((if decide (V.int z3 = V.int 0) = true then 1 else 0) * 2) = some (.int (m : Int)) := by
      by_cases e : decide (V.int z3 = V.int 0) = true
      · rw [if_pos e]
        exact ⟨20, by decide, by decide, rfl⟩
      · rw [if_neg e]
        exact ⟨(1 + z1).toNat, by omega, by omega, by rw [Int.toNat_of_nonneg (by omega)]; rfl⟩
    refine ⟨rfl, .inr ⟨_, rfl, _, _, rfl, rfl, (.inr ⟨by decide, by decide⟩), lm, _, _, _, rfl, rfl, SqL.of hlm3, eat, ?_⟩⟩
    refine ⟨_, rfl, _, rfl, a, m, rfl, ⟨_, _, _, w3⟩, by omega, by omega, fun H4 lw ws tol s4 ⟨y0, y1, y2, w4⟩ n4 hG hlws hLP => ?_⟩
    have hl : ws.length ≤ 59 := by omega
    have hok := grown_ok hG
    have hw : Ww ws := okWays_lt hok
    have sr4 : Same (rm H a) (rm H4 a) := sr3.trans s4
    have hLP4 : LP H4 lw ws := (hLP.same (only_rmD s4 w3)).same (rm_same H4 a)
    refine ⟨_, rfl, fun x dx nx ndx nex => ?_⟩
    have s4x : Same H4 (upd (upd H4 dx (.own x)) x (.ins C dx [])) := fun b o e => by
      rw [upd_ne (ne_of_none e nx), upd_ne (ne_of_none e ndx)]
      exact e
    refine ⟨x, lw, dx, ws, rfl, upd_same, hLP4.same s4x, hl, hok, fun H5 la lr k5 hx5 hlw5 hlr5 => ⟨rfl, ?_⟩⟩
    obtain ⟨s5, TT5⟩ := tree_made nx ndx nex k5 hx5 hlw5 hlr5
    have TT5' : TreeAt C (rm H5 a) x ws := TT5.same (only_rm s5 w4)
    refine ⟨_, rfl, lw, ws, rfl, hLP4.same s5, hl, hw, fun H6 q s6 n6 hq6 => ?_⟩
    have w5 := s5 _ _ w4
    have hq6' : LL (rm H6 a) q (rows ws) := hq6.same (only_rm s6 w5)
    have w6 := s6 _ _ w5
    refine ⟨(by show 2 ≤ sizeLine; decide), fun T0 nT0 => ?_⟩
    have s7 : Same H6 (upd H6 T0 (HO.tup [V.ref x, V.ref q])) := same_new nT0
    have hT0 : upd H6 T0 (HO.tup [V.ref x, V.ref q]) T0 = some (HO.tup [V.ref x, V.ref q]) := upd_same
    generalize upd H6 T0 (HO.tup [V.ref x, V.ref q]) = H7 at s7 hT0
    have w7 := s7 _ _ w6
    refine ⟨T0, _, rfl, SqT.of hT0, rfl, _, _, rfl, _, _, rfl, rfl, ?_⟩
    have TT7 : TreeAt C (rm H7 a) x ws := TT5'.same (rm_mono a (s6.trans s7))
    have hq7 : LL (rm H7 a) q (rows ws) := hq6'.same (rm_mono a s7)
    have sr7 : Same (rm H a) (rm H7 a) := sr4.trans (rm_mono a (s5.trans (s6.trans s7)))
    refine ⟨_, rfl, _, rfl, a, q, ws, rfl, ⟨_, _, _, w7⟩, hq7, hw, hl, fun B0 s st s8 wB0 n8 SS hs8 => ?_⟩
    have srB : Same (rm H a) (rm B0 a) := sr7.trans s8
    have TB0 : Tabs _ B0 := tabs_rm hT W0 srB
    have TT0 : TreeAt C (noT (rm B0 a)) x ws := tree_noT (TT7.same s8)
    have hq0 : LL (noT (rm B0 a)) q (rows ws) := ll_noT (hq7.same s8)
    have hs0 : NT (noT (rm B0 a)) s st := nt_noT (nt_rm3 hs8 wB0)
    clear hT0 s7 n6 hq6' hq6 TT5' TT5 k5 hx5 hlw5 hlr5 nex ndx nx s4x hLP4 hlws hLP TT7 hq7 hs8 hlm3 eat hlm
    refine ⟨(by show 2 ≤ sizeLine; decide), fun lf nlf => ?_⟩
    have sf : Same B0 (upd B0 lf (.lst [V.bl false, V.bl true])) := same_new nlf
    have hlf : upd B0 lf (.lst [V.bl false, V.bl true]) lf = _ := upd_same
    have wBf := well_same wB0 sf
    have lfa : lf ≠ a := by
      obtain ⟨x, y, z, e⟩ := wB0
      exact (ne_of_none e nlf).symm
    have TBf := TB0.ext sf
    have sfN : Same (noT (rm B0 a)) (noT (rm (upd B0 lf (.lst [V.bl false, V.bl true])) a)) := noT_mono (rm_mono a sf)
    have hlfN : noT (rm (upd B0 lf (.lst [V.bl false, V.bl true])) a) lf = some (.lst [V.bl false, V.bl true]) := noT_of (by rw [rm_ne lfa]; exact hlf) fun ps e => by cases e
    generalize upd B0 lf (.lst [V.bl false, V.bl true]) = B1 at hlf wBf TBf sfN hlfN
    have TT1 := TT0.same sfN
    have hq1 := hq0.same sfN
    have hs1 := hs0.same sfN
    have upm : ∀ (Hx : Hp), Same (noT (rm Hx a)) Hx := fun Hx b o h => rm_same Hx a _ _ (noT_in _ _ _ h)
    refine ⟨lf, rfl, ⟨_, SqL.of hlf⟩, for_list (K := K) (a := lf) (xs := [V.bl false, V.bl true]) (fun i σ Hc => ∃ v6 v7 v8 v9 v10 v11, σ = [some (.ref a), some (.int (m : Int)), some (.ref lw), some (.ref x), some (.ref q), some (.ref s), v6, v7, v8, v9, v10, v11] ∧ Same (noT (rm B1 a)) (noT (rm Hc a)) ∧ Well Hc a ∧ Tabs _ Hc)
      ⟨none, none, none, none, none, none, rfl, .refl _, wBf, TBf⟩ (fun i σ Hc _ ⟨_, _, _, _, _, _, _, sc, _⟩ => SqL.of (upm Hc _ _ (sc _ _ hlfN))) ?_ ?_⟩
    · rintro i y σ Hc hi ⟨v6, v7, v8, v9, v10, v11, rfl, sc, wc, Tc⟩
      obtain ⟨far, rfl⟩ : ∃ far, y = .bl far := by
        have := List.mem_of_getElem? hi
        simp only [List.mem_cons, List.not_mem_nil, or_false] at this
        rcases this with rfl | rfl
        · exact ⟨_, rfl⟩
        · exact ⟨_, rfl⟩
      refine ⟨(by show 2 ≤ sizeLine; decide), fun t1 nt1 => ?_⟩
      have st1 : Same Hc (upd Hc t1 (.lst [V.ref f1, V.ref f3])) := same_new nt1
      have ht1 : upd Hc t1 (.lst [V.ref f1, V.ref f3]) t1 = _ := upd_same
      have wt1 := well_same wc st1
      have Tt1 := Tc.ext st1
      have sct : Same (noT (rm B1 a)) (noT (rm (upd Hc t1 (.lst [V.ref f1, V.ref f3])) a)) := fun b o h => noT_mono (rm_mono a st1) b o (sc b o h)
      have t1a : t1 ≠ a := by
        obtain ⟨x, y, z, e⟩ := wc
        exact (ne_of_none e nt1).symm
      generalize upd Hc t1 (.lst [V.ref f1, V.ref f3]) = H10 at ht1 wt1 Tt1 sct
      cases far with
      | false =>
        refine ⟨_, rfl, _, rfl, iteF ?_⟩
        -- told
        refine ⟨_, rfl, t1, _, _, _, rfl, rfl, SqL.of ht1, (show atI [V.ref f1, V.ref f3] 0 = some (.ref f1) from rfl), f1, _, rfl, .inl ⟨rfl, rfl⟩, _, rfl, _, rfl, x, s, ws, st, rfl, (TT1.same sct).same (upm H10), hl, hw, (hs1.same sct).same (upm H10), SS, fun H12 r s12 nr hr12 => ?_⟩
        obtain ⟨y0, y1, y2, wte⟩ := id wt1
        have ra : r ≠ a := (ne_of_none wte nr).symm
        have hr12' : LP H12 r (movesF ws false st) := (hr12.same (only_rmD (rm_mono a s12) wte)).same (rm_same H12 a)
        refine ⟨_, rfl, _, rfl, _, rfl, _, rfl, q, s, ws, st, false, rfl, ((hq1.same sct).same (upm H10)).same s12, hw, hl, ((hs1.same sct).same (upm H10)).same s12, SS, fun H13 lm2 s13 nlm2 hlm2 => ?_⟩
        have s1213 := s12.trans s13
        obtain ⟨as, hra, hrp⟩ := hr12'.same s13
        refine ne_lp1 ⟨as, hra, hrp⟩ hlm2 ⟨_, rfl, iteF ?_⟩
        refine ⟨_, rfl, _, _, _, _, true, rfl, .ty _, .base (.lst hra), kit_ty (by decide +kernel), _, rfl, iteF ?_⟩
        have lenL : (movesF ws false st).length ≤ 60 * 118 := by
          have g1 := movesL_len (f := nb (rows ws)) (g := gF ws false) (S := st) (n := 118) (gF_len ws hl false) st
          have g2 := set_len SS hl
          have g3 : st.length * 118 ≤ 60 * 118 := Nat.mul_le_mul_right _ g2
          exact Nat.le_trans g1 g3
        have lenA : as.length ≤ 60 * 118 := by rw [hrp.1]; exact lenL
        refine ⟨_, rfl, .inl ⟨rfl, _, SqL.of hra⟩, r, _, _, rfl, rfl, hra, (by rw [List.length_map]; exact Nat.lt_of_le_of_lt lenA (by decide)), ?_⟩
        have s14 : Same H10 (upd H13 r (.lst (as.map V.ref ++ [.non]))) := fun c o e => by
          rw [upd_ne (ne_of_none e nr)]
          exact s1213 _ _ e
        have hto : upd H13 r (.lst (as.map V.ref ++ [.non])) r = some (.lst (as.map V.ref ++ [.non])) := upd_same
        have hpo : Pairs (upd H13 r (.lst (as.map V.ref ++ [.non]))) as (movesF ws false st) := hrp.updQ hra (fun _ z => nomatch z)
        generalize upd H13 r (.lst (as.map V.ref ++ [.non])) = H14 at s14 hto hpo
        have w14 := well_same wt1 s14
        have T14 := Tt1.ext s14
        have sc14 : Same (noT (rm B1 a)) (noT (rm H14 a)) := fun b o h => noT_mono (rm_mono a s14) b o (sct b o h)
        -- row
        refine ⟨_, rfl, _, rfl, _, rfl, _, rfl, a, q, s, ws, st, false, rfl, w14, (hq1.same sc14).same (noT_in _), hw, hl, (hs1.same sc14).same (upm H14), SS, fun H15 g ms s15 w15 ga hg lms ltw => ?_⟩
        have sc15 : Same (noT (rm B1 a)) (noT (rm H15 a)) := fun b o h => noT_mono s15 b o (sc14 b o h)
        obtain ⟨y0, y1, y2, w15e⟩ := id w15
        have bg15 : Bl (rm H15 a) g 6 := bl_lp3 (lp_rmQ hg w15 ga) ltw lms
        refine ⟨_, rfl, _, rfl, _, rfl, _, rfl, a, q, g, 6, ws, rfl, w15, (hq1.same sc15).same (noT_in _), hl, bg15, by decide, fun H16 t s16 w16 b16 => ?_⟩
        have bg16 := bg15.same s16
        obtain ⟨gxs, gds, hgx, _⟩ := id bg16
        refine ⟨_, rfl, g, gxs, rfl, .inl ⟨SqL.of (rm_same H16 a _ _ hgx), fun tp ntp => ?_⟩⟩
        have u1 : Same H16 (upd H16 tp (.tup gxs)) := same_new ntp
        have htp : upd H16 tp (.tup gxs) tp = some (.tup gxs) := upd_same
        have tpa : tp ≠ a := by
          obtain ⟨x, y, z, e⟩ := w16
          exact (ne_of_none e ntp).symm
        generalize upd H16 tp (.tup gxs) = E1 at u1 htp
        have wE1 := well_same w16 u1
        refine fun D nD => ?_
        have u2 : Same E1 (upd E1 D (.dK [])) := same_new nD
        have hD : upd E1 D (.dK []) D = some (.dK []) := upd_same
        have Da : D ≠ a := by
          obtain ⟨x, y, z, e⟩ := wE1
          exact (ne_of_none e nD).symm
        generalize upd E1 D (.dK []) = E2 at u2 hD
        have wE2 := well_same wE1 u2
        refine ⟨(by show 3 ≤ sizeLine; decide), fun l3 nl3 => ?_⟩
        have u3 : Same E2 (upd E2 l3 (.lst [V.ref tp, V.non, V.ref D])) := same_new nl3
        have hl3 : upd E2 l3 (.lst [V.ref tp, V.non, V.ref D]) l3 = _ := upd_same
        have l3a : l3 ≠ a := by
          obtain ⟨x, y, z, e⟩ := wE2
          exact (ne_of_none e nl3).symm
        generalize upd E2 l3 (.lst [V.ref tp, V.non, V.ref D]) = E3 at u3 hl3
        have wE3 := well_same wE2 u3
        refine ⟨_, rfl, a, 3, rfl, wE3, by decide, by decide, fun z p0 p1 p2 z0 z1 => ?_⟩
        have r4 : Same (rm E3 a) (rm (upd E3 a (HO.lst [V.int p0, V.int p1, V.int p2])) a) := sr_draw
        have wE4 : Well (upd E3 a (HO.lst [V.int p0, V.int p1, V.int p2])) a := ⟨_, _, _, upd_same⟩
        have hl4 : upd E3 a (HO.lst [V.int p0, V.int p1, V.int p2]) l3 = _ := (upd_ne l3a).trans hl3
        generalize upd E3 a (HO.lst [V.int p0, V.int p1, V.int p2]) = E4 at r4 wE4 hl4
        have s1E : Same (rm E1 a) (rm E4 a) := (rm_mono a (u2.trans u3)).trans r4
        have s2E : Same (rm E2 a) (rm E4 a) := (rm_mono a u3).trans r4
        have s16E : Same (rm H16 a) (rm E4 a) := (rm_mono a u1).trans s1E
        obtain ⟨v, eat, hv⟩ : ∃ v, atI [V.ref tp, V.non, V.ref D] z = some v ∧ MvA (rm E4 a) v := by
          have : z = 0 ∨ z = 1 ∨ z = 2 := by omega
          rcases this with rfl | rfl | rfl
          · exact ⟨_, rfl, mva_tup (bg16.same s16E) (s16E _ _ hgx) (s1E _ _ (by rw [rm_ne tpa]; exact htp)) (by decide)⟩
          · exact ⟨_, rfl, .none, .non, sm_non.mono (by decide) (by decide), fun es e => by cases e⟩
          · exact ⟨_, rfl, .dict [], .emp (s2E _ _ (by rw [rm_ne Da]; exact hD)), sm_emp.mono (by decide) (by decide), fun es e => by cases e⟩
        refine ⟨l3, _, _, v, rfl, rfl, SqL.of hl4, eat, (by show 3 ≤ sizeLine; decide), fun L0 nL0 => ?_⟩
        have u5 : Same E4 (upd E4 L0 (.lst [V.ref g, V.ref t, v])) := same_new nL0
        have hL0 : upd E4 L0 (.lst [V.ref g, V.ref t, v]) L0 = _ := upd_same
        generalize upd E4 L0 (.lst [V.ref g, V.ref t, v]) = B2 at u5 hL0
        have wB2 := well_same wE4 u5
        have s16B : Same (rm H16 a) (rm B2 a) := s16E.trans (rm_mono a u5)
        have s14B : Same (rm H14 a) (rm B2 a) := s15.trans (s16.trans s16B)
        have TB2 : Tabs _ B2 := tabs_rm T14 w14 s14B
        have scB2 : Same (noT (rm B1 a)) (noT (rm B2 a)) := fun b o h => noT_mono s14B b o (sc14 b o h)
        have dn : Same (noT (rm B2 a)) (noT B2) := noT_mono (rm_same B2 a)
        have TTb : TreeAt C (noT B2) x ws := (TT1.same scB2).same dn
        have hqb : LL (noT B2) q (rows ws) := (hq1.same scB2).same dn
        have hsb : NT (noT B2) s st := (hs1.same scB2).same dn
        have tellb : noT B2 t1 = some (.lst [V.ref f1, V.ref f3]) := noT_of (sr_at s14B t1a (s14 _ _ ht1)) fun ps e => by cases e
        have toldb : noT B2 r = some (.lst (as.map V.ref ++ [.non])) := noT_of (sr_at s14B ra hto) fun ps e => by cases e
        have pairb : Pairs (noT B2) as (movesF ws false st) := by
          have hp := pairs_sr s14B w14 hpo
          exact ⟨hp.1, fun i b e => nt_noT (hp.2 i b e)⟩
        have l0b : noT B2 L0 = some (.lst [V.ref g, V.ref t, v]) := noT_of hL0 fun ps e => by cases e
        have all3 : ∀ y ∈ [V.ref g, V.ref t, v], MvA (noT B2) y := fun y hy => by
          simp only [List.mem_cons, List.not_mem_nil, or_false] at hy
          rcases hy with rfl | rfl | rfl
          · exact (mva_bl (bg16.same s16B) (by decide)).noT.same dn
          · exact (mva_bl (b16.same s16B) (by decide)).noT.same dn
          · exact ((hv.same (rm_mono a u5)).noT).same dn
        refine ⟨L0, rfl, ⟨_, SqL.of hL0⟩, for_list (K := K) (a := L0) (xs := [V.ref g, V.ref t, v]) (fun i σ Hd => ∃ v10 v11, σ = [some (.ref a), some (.int (m : Int)), some (.ref lw), some (.ref x), some (.ref q), some (.ref s), some (.bl false), some (.ref t1), some (.ref r), some (.ref g), v10, v11] ∧ Same (noT B2) (noT Hd) ∧ Tabs _ Hd)
          ⟨_, _, rfl, .refl _, TB2⟩ (fun i σ Hd _ ⟨_, _, _, sd, _⟩ => SqL.of (noT_in _ _ _ (sd _ _ l0b))) ?_ ?_⟩
        · rintro i y σ Hd hi ⟨v10, v11, rfl, sd, Td⟩
          obtain ⟨d, hd, smd, mok⟩ := all3 y (List.mem_of_getElem? hi)
          refine ⟨_, rfl, y, d, rfl, Dz.same (noT_in Hd) (Dz.same sd hd), smd.1, Nat.le_trans smd.2.1 (by decide), PyData.shown_fits (B := 13) (by decide) (by decide) smd.2.2.1 (Nat.le_trans smd.2.2.2 (by decide)), ?_⟩
          refine lam_gone rfl rfl rfl rfl (TTb.same sd) hl hw (sd _ _ hsb) SS (Dz.same sd hd) (sd _ _ tellb) (far := false) (.inl ⟨rfl, rfl⟩) Td fun H2 r2 sr2 T2 res2 => ?_
          have sd2 : Same (noT B2) (noT H2) := fun b o h => sr2 b o (sd b o h)
          refine ⟨_, rfl, _, rfl, _, rfl, _, rfl, q, s, y, d, ws, st, false, rfl, (hqb.same sd2).same (noT_in H2), hw, hl, noT_in _ _ _ (sd2 _ _ hsb), SS, Dz.same (noT_in H2) (Dz.same sd2 hd), mok, fun H3 r3 s3 nr3 res3 => ?_⟩
          have sd3 : Same (noT B2) (noT H3) := fun b o h => noT_mono s3 b o (sd2 b o h)
          have T3 := T2.ext s3
          refine ne_res3 (res2.same s3) res3 ⟨_, rfl, iteF ?_⟩
          refine ⟨_, rfl, y, d, rfl, Dz.same (noT_in H3) (Dz.same sd3 hd), smd.1, Nat.le_trans smd.2.1 (by decide), PyData.shown_fits (B := 13) (by decide) (by decide) smd.2.2.1 (Nat.le_trans smd.2.2.2 (by decide)), ?_⟩
          refine ⟨_, rfl, rfl, _, rfl, iteN0F not_same ?_⟩
          refine ⟨_, rfl, t1, _, _, _, rfl, rfl, SqL.of (noT_in _ _ _ (sd3 _ _ tellb)), (show atI [V.ref f1, V.ref f3] 0 = some (.ref f1) from rfl), f1, _, rfl, .inl ⟨rfl, rfl⟩, _, rfl, _, rfl, x, s, ws, st, rfl, (TTb.same sd3).same (noT_in H3), hl, hw, noT_in _ _ _ (sd3 _ _ hsb), SS, fun H4 q4 s4 nq4 hq4 => ?_⟩
          obtain ⟨y3, y4, y5, w3e⟩ := well_noT wB2 sd3
          obtain ⟨bs, hb4, pb4⟩ := (hq4.same (only_rmD (rm_mono a s4) w3e)).same (rm_same H4 a)
          have lenB : bs.length ≤ 60 * 118 := by rw [pb4.1]; exact lenL
          refine ⟨(by show 1 ≤ sizeLine; decide), fun c1 nc1 => ?_⟩
          have s5 : Same H4 (upd H4 c1 (.lst [V.non])) := same_new nc1
          have hc1 : upd H4 c1 (.lst [V.non]) c1 = some (.lst [V.non]) := upd_same
          generalize upd H4 c1 (.lst [V.non]) = H5 at s5 hc1
          refine ⟨q4, c1, _, _, rfl, rfl, SqL.of (s5 _ _ hb4), SqL.of hc1, (by
            rw [List.length_map]
            show bs.length + 1 ≤ sizeLine
            exact Nat.le_trans (show bs.length + 1 ≤ 60 * 118 + 1 by omega) (by decide)), fun c2 nc2 => ?_⟩
          have s6 : Same H5 (upd H5 c2 (.lst (bs.map V.ref ++ [V.non]))) := same_new nc2
          have hc2 : upd H5 c2 (.lst (bs.map V.ref ++ [V.non])) c2 = some (.lst (bs.map V.ref ++ [V.non])) := upd_same
          generalize upd H5 c2 (.lst (bs.map V.ref ++ [V.non])) = H6' at s6 hc2
          have s36 := s4.trans (s5.trans s6)
          have sd6 : Same (noT B2) (noT H6') := fun b o h => noT_mono s36 b o (sd3 b o h)
          refine ⟨_, rfl, ne_told hc2 (pb4.same (s5.trans s6)) (noT_in _ _ _ (sd6 _ _ toldb)) ((pairb.same sd6).same (noT_in H6')) ⟨_, rfl, iteF ?_⟩⟩
          exact ⟨_, _, rfl, sd6, T3.ext s36⟩
        · rintro σ Hd ⟨v10, v11, rfl, sd, Td⟩
          refine ⟨_, _, _, _, _, _, rfl, fun b o h => ?_, well_noT wB2 sd, Td⟩
          exact noT_rm sd b o (scB2 b o h)
      | true =>
        refine ⟨_, rfl, _, rfl, iteT ?_⟩
        refine ⟨(by show 2 ≤ sizeLine; decide), fun t2 nt2 => ?_⟩
        have st2 : Same H10 (upd H10 t2 (.lst [V.ref f2, V.ref f4])) := same_new nt2
        have ht2 : upd H10 t2 (.lst [V.ref f2, V.ref f4]) t2 = _ := upd_same
        have wt2 := well_same wt1 st2
        have Tt2 := Tt1.ext st2
        have sct2 : Same (noT (rm B1 a)) (noT (rm (upd H10 t2 (.lst [V.ref f2, V.ref f4])) a)) := fun b o h => noT_mono (rm_mono a st2) b o (sct b o h)
        have t2a : t2 ≠ a := by
          obtain ⟨x, y, z, e⟩ := wt1
          exact (ne_of_none e nt2).symm
        generalize upd H10 t2 (.lst [V.ref f2, V.ref f4]) = H11 at ht2 wt2 Tt2 sct2
        -- told
        refine ⟨_, rfl, t2, _, _, _, rfl, rfl, SqL.of ht2, (show atI [V.ref f2, V.ref f4] 0 = some (.ref f2) from rfl), f2, _, rfl, .inr ⟨rfl, rfl⟩, _, rfl, _, rfl, x, s, ws, st, rfl, (TT1.same sct2).same (upm H11), hl, hw, (hs1.same sct2).same (upm H11), SS, fun H12 r s12 nr hr12 => ?_⟩
        obtain ⟨y0, y1, y2, wte⟩ := id wt2
        have ra : r ≠ a := (ne_of_none wte nr).symm
        have hr12' : LP H12 r (movesF ws true st) := (hr12.same (only_rmD (rm_mono a s12) wte)).same (rm_same H12 a)
        refine ⟨_, rfl, _, rfl, _, rfl, _, rfl, q, s, ws, st, true, rfl, ((hq1.same sct2).same (upm H11)).same s12, hw, hl, ((hs1.same sct2).same (upm H11)).same s12, SS, fun H13 lm2 s13 nlm2 hlm2 => ?_⟩
        have s1213 := s12.trans s13
        obtain ⟨as, hra, hrp⟩ := hr12'.same s13
        refine ne_lp1 ⟨as, hra, hrp⟩ hlm2 ⟨_, rfl, iteF ?_⟩
        refine ⟨_, rfl, _, _, _, _, true, rfl, .ty _, .base (.lst hra), kit_ty (by decide +kernel), _, rfl, iteF ?_⟩
        have lenL : (movesF ws true st).length ≤ 60 * 118 := by
          have g1 := movesL_len (f := nb (rows ws)) (g := gF ws true) (S := st) (n := 118) (gF_len ws hl true) st
          have g2 := set_len SS hl
          have g3 : st.length * 118 ≤ 60 * 118 := Nat.mul_le_mul_right _ g2
          exact Nat.le_trans g1 g3
        have lenA : as.length ≤ 60 * 118 := by rw [hrp.1]; exact lenL
        refine ⟨_, rfl, .inl ⟨rfl, _, SqL.of hra⟩, r, _, _, rfl, rfl, hra, (by rw [List.length_map]; exact Nat.lt_of_le_of_lt lenA (by decide)), ?_⟩
        have s14 : Same H11 (upd H13 r (.lst (as.map V.ref ++ [.non]))) := fun c o e => by
          rw [upd_ne (ne_of_none e nr)]
          exact s1213 _ _ e
        have hto : upd H13 r (.lst (as.map V.ref ++ [.non])) r = some (.lst (as.map V.ref ++ [.non])) := upd_same
        have hpo : Pairs (upd H13 r (.lst (as.map V.ref ++ [.non]))) as (movesF ws true st) := hrp.updQ hra (fun _ z => nomatch z)
        generalize upd H13 r (.lst (as.map V.ref ++ [.non])) = H14 at s14 hto hpo
        have w14 := well_same wt2 s14
        have T14 := Tt2.ext s14
        have sc14 : Same (noT (rm B1 a)) (noT (rm H14 a)) := fun b o h => noT_mono (rm_mono a s14) b o (sct2 b o h)
        -- row
        refine ⟨_, rfl, _, rfl, _, rfl, _, rfl, a, q, s, ws, st, true, rfl, w14, (hq1.same sc14).same (noT_in _), hw, hl, (hs1.same sc14).same (upm H14), SS, fun H15 g ms s15 w15 ga hg lms ltw => ?_⟩
        have sc15 : Same (noT (rm B1 a)) (noT (rm H15 a)) := fun b o h => noT_mono s15 b o (sc14 b o h)
        obtain ⟨y0, y1, y2, w15e⟩ := id w15
        have bg15 : Bl (rm H15 a) g 6 := bl_lp3 (lp_rmQ hg w15 ga) ltw lms
        refine ⟨_, rfl, _, rfl, _, rfl, _, rfl, a, q, g, 6, ws, rfl, w15, (hq1.same sc15).same (noT_in _), hl, bg15, by decide, fun H16 t s16 w16 b16 => ?_⟩
        have bg16 := bg15.same s16
        obtain ⟨gxs, gds, hgx, _⟩ := id bg16
        refine ⟨_, rfl, g, gxs, rfl, .inl ⟨SqL.of (rm_same H16 a _ _ hgx), fun tp ntp => ?_⟩⟩
        have u1 : Same H16 (upd H16 tp (.tup gxs)) := same_new ntp
        have htp : upd H16 tp (.tup gxs) tp = some (.tup gxs) := upd_same
        have tpa : tp ≠ a := by
          obtain ⟨x, y, z, e⟩ := w16
          exact (ne_of_none e ntp).symm
        generalize upd H16 tp (.tup gxs) = E1 at u1 htp
        have wE1 := well_same w16 u1
        refine fun D nD => ?_
        have u2 : Same E1 (upd E1 D (.dK [])) := same_new nD
        have hD : upd E1 D (.dK []) D = some (.dK []) := upd_same
        have Da : D ≠ a := by
          obtain ⟨x, y, z, e⟩ := wE1
          exact (ne_of_none e nD).symm
        generalize upd E1 D (.dK []) = E2 at u2 hD
        have wE2 := well_same wE1 u2
        refine ⟨(by show 3 ≤ sizeLine; decide), fun l3 nl3 => ?_⟩
        have u3 : Same E2 (upd E2 l3 (.lst [V.ref tp, V.non, V.ref D])) := same_new nl3
        have hl3 : upd E2 l3 (.lst [V.ref tp, V.non, V.ref D]) l3 = _ := upd_same
        have l3a : l3 ≠ a := by
          obtain ⟨x, y, z, e⟩ := wE2
          exact (ne_of_none e nl3).symm
        generalize upd E2 l3 (.lst [V.ref tp, V.non, V.ref D]) = E3 at u3 hl3
        have wE3 := well_same wE2 u3
        refine ⟨_, rfl, a, 3, rfl, wE3, by decide, by decide, fun z p0 p1 p2 z0 z1 => ?_⟩
        have r4 : Same (rm E3 a) (rm (upd E3 a (HO.lst [V.int p0, V.int p1, V.int p2])) a) := sr_draw
        have wE4 : Well (upd E3 a (HO.lst [V.int p0, V.int p1, V.int p2])) a := ⟨_, _, _, upd_same⟩
        have hl4 : upd E3 a (HO.lst [V.int p0, V.int p1, V.int p2]) l3 = _ := (upd_ne l3a).trans hl3
        generalize upd E3 a (HO.lst [V.int p0, V.int p1, V.int p2]) = E4 at r4 wE4 hl4
        have s1E : Same (rm E1 a) (rm E4 a) := (rm_mono a (u2.trans u3)).trans r4
        have s2E : Same (rm E2 a) (rm E4 a) := (rm_mono a u3).trans r4
        have s16E : Same (rm H16 a) (rm E4 a) := (rm_mono a u1).trans s1E
        obtain ⟨v, eat, hv⟩ : ∃ v, atI [V.ref tp, V.non, V.ref D] z = some v ∧ MvA (rm E4 a) v := by
          have : z = 0 ∨ z = 1 ∨ z = 2 := by omega
          rcases this with rfl | rfl | rfl
          · exact ⟨_, rfl, mva_tup (bg16.same s16E) (s16E _ _ hgx) (s1E _ _ (by rw [rm_ne tpa]; exact htp)) (by decide)⟩
          · exact ⟨_, rfl, .none, .non, sm_non.mono (by decide) (by decide), fun es e => by cases e⟩
          · exact ⟨_, rfl, .dict [], .emp (s2E _ _ (by rw [rm_ne Da]; exact hD)), sm_emp.mono (by decide) (by decide), fun es e => by cases e⟩
        refine ⟨l3, _, _, v, rfl, rfl, SqL.of hl4, eat, (by show 3 ≤ sizeLine; decide), fun L0 nL0 => ?_⟩
        have u5 : Same E4 (upd E4 L0 (.lst [V.ref g, V.ref t, v])) := same_new nL0
        have hL0 : upd E4 L0 (.lst [V.ref g, V.ref t, v]) L0 = _ := upd_same
        generalize upd E4 L0 (.lst [V.ref g, V.ref t, v]) = B2 at u5 hL0
        have wB2 := well_same wE4 u5
        have s16B : Same (rm H16 a) (rm B2 a) := s16E.trans (rm_mono a u5)
        have s14B : Same (rm H14 a) (rm B2 a) := s15.trans (s16.trans s16B)
        have TB2 : Tabs _ B2 := tabs_rm T14 w14 s14B
        have scB2 : Same (noT (rm B1 a)) (noT (rm B2 a)) := fun b o h => noT_mono s14B b o (sc14 b o h)
        have dn : Same (noT (rm B2 a)) (noT B2) := noT_mono (rm_same B2 a)
        have TTb : TreeAt C (noT B2) x ws := (TT1.same scB2).same dn
        have hqb : LL (noT B2) q (rows ws) := (hq1.same scB2).same dn
        have hsb : NT (noT B2) s st := (hs1.same scB2).same dn
        have tellb : noT B2 t2 = some (.lst [V.ref f2, V.ref f4]) := noT_of (sr_at s14B t2a (s14 _ _ ht2)) fun ps e => by cases e
        have toldb : noT B2 r = some (.lst (as.map V.ref ++ [.non])) := noT_of (sr_at s14B ra hto) fun ps e => by cases e
        have pairb : Pairs (noT B2) as (movesF ws true st) := by
          have hp := pairs_sr s14B w14 hpo
          exact ⟨hp.1, fun i b e => nt_noT (hp.2 i b e)⟩
        have l0b : noT B2 L0 = some (.lst [V.ref g, V.ref t, v]) := noT_of hL0 fun ps e => by cases e
        have all3 : ∀ y ∈ [V.ref g, V.ref t, v], MvA (noT B2) y := fun y hy => by
          simp only [List.mem_cons, List.not_mem_nil, or_false] at hy
          rcases hy with rfl | rfl | rfl
          · exact (mva_bl (bg16.same s16B) (by decide)).noT.same dn
          · exact (mva_bl (b16.same s16B) (by decide)).noT.same dn
          · exact ((hv.same (rm_mono a u5)).noT).same dn
        refine ⟨L0, rfl, ⟨_, SqL.of hL0⟩, for_list (K := K) (a := L0) (xs := [V.ref g, V.ref t, v]) (fun i σ Hd => ∃ v10 v11, σ = [some (.ref a), some (.int (m : Int)), some (.ref lw), some (.ref x), some (.ref q), some (.ref s), some (.bl true), some (.ref t2), some (.ref r), some (.ref g), v10, v11] ∧ Same (noT B2) (noT Hd) ∧ Tabs _ Hd)
          ⟨_, _, rfl, .refl _, TB2⟩ (fun i σ Hd _ ⟨_, _, _, sd, _⟩ => SqL.of (noT_in _ _ _ (sd _ _ l0b))) ?_ ?_⟩
        · rintro i y σ Hd hi ⟨v10, v11, rfl, sd, Td⟩
          obtain ⟨d, hd, smd, mok⟩ := all3 y (List.mem_of_getElem? hi)
          refine ⟨_, rfl, y, d, rfl, Dz.same (noT_in Hd) (Dz.same sd hd), smd.1, Nat.le_trans smd.2.1 (by decide), PyData.shown_fits (B := 13) (by decide) (by decide) smd.2.2.1 (Nat.le_trans smd.2.2.2 (by decide)), ?_⟩
          refine lam_gone rfl rfl rfl rfl (TTb.same sd) hl hw (sd _ _ hsb) SS (Dz.same sd hd) (sd _ _ tellb) (far := true) (.inr ⟨rfl, rfl⟩) Td fun H2 r2 sr2 T2 res2 => ?_
          have sd2 : Same (noT B2) (noT H2) := fun b o h => sr2 b o (sd b o h)
          refine ⟨_, rfl, _, rfl, _, rfl, _, rfl, q, s, y, d, ws, st, true, rfl, (hqb.same sd2).same (noT_in H2), hw, hl, noT_in _ _ _ (sd2 _ _ hsb), SS, Dz.same (noT_in H2) (Dz.same sd2 hd), mok, fun H3 r3 s3 nr3 res3 => ?_⟩
          have sd3 : Same (noT B2) (noT H3) := fun b o h => noT_mono s3 b o (sd2 b o h)
          have T3 := T2.ext s3
          refine ne_res3 (res2.same s3) res3 ⟨_, rfl, iteF ?_⟩
          refine ⟨_, rfl, y, d, rfl, Dz.same (noT_in H3) (Dz.same sd3 hd), smd.1, Nat.le_trans smd.2.1 (by decide), PyData.shown_fits (B := 13) (by decide) (by decide) smd.2.2.1 (Nat.le_trans smd.2.2.2 (by decide)), ?_⟩
          refine ⟨_, rfl, rfl, _, rfl, iteN0F not_same ?_⟩
          refine ⟨_, rfl, t2, _, _, _, rfl, rfl, SqL.of (noT_in _ _ _ (sd3 _ _ tellb)), (show atI [V.ref f2, V.ref f4] 0 = some (.ref f2) from rfl), f2, _, rfl, .inr ⟨rfl, rfl⟩, _, rfl, _, rfl, x, s, ws, st, rfl, (TTb.same sd3).same (noT_in H3), hl, hw, noT_in _ _ _ (sd3 _ _ hsb), SS, fun H4 q4 s4 nq4 hq4 => ?_⟩
          obtain ⟨y3, y4, y5, w3e⟩ := well_noT wB2 sd3
          obtain ⟨bs, hb4, pb4⟩ := (hq4.same (only_rmD (rm_mono a s4) w3e)).same (rm_same H4 a)
          have lenB : bs.length ≤ 60 * 118 := by rw [pb4.1]; exact lenL
          refine ⟨(by show 1 ≤ sizeLine; decide), fun c1 nc1 => ?_⟩
          have s5 : Same H4 (upd H4 c1 (.lst [V.non])) := same_new nc1
          have hc1 : upd H4 c1 (.lst [V.non]) c1 = some (.lst [V.non]) := upd_same
          generalize upd H4 c1 (.lst [V.non]) = H5 at s5 hc1
          refine ⟨q4, c1, _, _, rfl, rfl, SqL.of (s5 _ _ hb4), SqL.of hc1, (by
            rw [List.length_map]
            show bs.length + 1 ≤ sizeLine
            exact Nat.le_trans (show bs.length + 1 ≤ 60 * 118 + 1 by omega) (by decide)), fun c2 nc2 => ?_⟩
          have s6 : Same H5 (upd H5 c2 (.lst (bs.map V.ref ++ [V.non]))) := same_new nc2
          have hc2 : upd H5 c2 (.lst (bs.map V.ref ++ [V.non])) c2 = some (.lst (bs.map V.ref ++ [V.non])) := upd_same
          generalize upd H5 c2 (.lst (bs.map V.ref ++ [V.non])) = H6' at s6 hc2
          have s36 := s4.trans (s5.trans s6)
          have sd6 : Same (noT B2) (noT H6') := fun b o h => noT_mono s36 b o (sd3 b o h)
          refine ⟨_, rfl, ne_told hc2 (pb4.same (s5.trans s6)) (noT_in _ _ _ (sd6 _ _ toldb)) ((pairb.same sd6).same (noT_in H6')) ⟨_, rfl, iteF ?_⟩⟩
          exact ⟨_, _, rfl, sd6, T3.ext s36⟩
        · rintro σ Hd ⟨v10, v11, rfl, sd, Td⟩
          refine ⟨_, _, _, _, _, _, rfl, fun b o h => ?_, well_noT wB2 sd, Td⟩
          exact noT_rm sd b o (scB2 b o h)
    · rintro σ Hc ⟨v6, v7, v8, v9, v10, v11, rfl, sc, wc, Tc⟩
      exact k Hc (fun b o h => sc b o (sfN b o (noT_mono srB b o h))) Tc
end
end G

/-! t[::-1] of a tuple -/
namespace L2
open PySem PySem.Spec PyProof.Rows
section
variable {prog : Program} {w : World} {A : Around} {E : Value → Shared → Prop} {s : Shared}
theorem adjust_rev (n : Nat) : Builtin.Slice.sliceAdjust none none (-1) (n : Int) = ((n : Int) - 1, -1) := rfl
theorem places_rev (n : Nat) : Builtin.Slice.slicePlaces ((n : Int) - 1) (-1) (-1) = n := by
  unfold Builtin.Slice.slicePlaces
  have h1 : ¬ ((-1 : Int) > 0) := by omega
  simp only [h1, if_false, show (- -1 : Int) = 1 by decide, Int.ediv_one]
  split <;> omega
theorem sliceApplied_rev {sl : Addr} {vl vu vs : Value} {n : Nat} {Q : Int × Int × Nat → Shared → Prop} (hs : s.heap.IsSliceOf sl vl vu vs) (pl : IsPart vl none) (pu : IsPart vu none) (ps : IsPart vs (some (-1)))
    (h : Q ((n : Int) - 1, -1, n) s) : wpAny (model prog w) A (Builtin.Slice.sliceApplied (.ref sl) (pure (n : Int))) Q E s := by
  obtain ⟨os, hos, hcs, hds⟩ := id hs
  unfold Builtin.Slice.sliceApplied Builtin.Slice.sliceFields
  refine wpAny_bind (wpAny_bind (wpAny_field hos hds (x := vl) rfl (wpAny_bind (wpAny_field hos hds (x := vu) rfl (wpAny_bind (wpAny_field hos hds (x := vs) rfl (wpAny_pure ?_)))))))
  refine wpAny_bind (HT.slicePart_ ps ?_)
  show wpAny _ _ (if ((-1 : Int) == 0) = true then _ else _) _ _ s
  rw [if_neg (by decide)]
  refine wpAny_bind (HT.slicePart_ pl (wpAny_bind (HT.slicePart_ pu (wpAny_bind (wpAny_pure ?_)))))
  show wpAny _ _ (match Builtin.Slice.sliceAdjust none none (-1) (n : Int) with | (lo, hi) => pure (lo, (-1 : Int), Builtin.Slice.slicePlaces lo hi (-1))) _ _ s
  rw [adjust_rev n]
  show wpAny _ _ (pure ((n : Int) - 1, (-1 : Int), Builtin.Slice.slicePlaces ((n : Int) - 1) (-1) (-1))) _ _ s
  rw [places_rev]
  exact wpAny_pure h
theorem pick_rev (xs : Array Value) : ((List.range xs.size).filterMap fun (m : Nat) => xs[(((xs.size : Nat) : Int) - 1 + (m : Int) * (-1)).toNat]?).toArray = xs.toList.reverse.toArray := by
  have h := PySem.W.krv_pick xs
  unfold slicePick at h
  rw [PySem.W.krv_bounds] at h
  dsimp only at h
  rw [PySem.W.krv_sliceRange, List.filterMap_map] at h
  rw [← h]
  have e : (fun (m : Nat) => xs[(((xs.size : Nat) : Int) - 1 + (m : Int) * (-1)).toNat]?) = ((fun x => xs[x]?) ∘ fun k => xs.size - 1 - k) := by
    funext m
    show _ = xs[xs.size - 1 - m]?
    congr 1
    omega
  rw [e]
theorem getItem_tuple_rev {t sl : Addr} {items : Array Value} {vl vu vs : Value} {Q : Value → Shared → Prop} (ht : IsTup s.heap t items) (hs : s.heap.IsSliceOf sl vl vu vs) (pl : IsPart vl none) (pu : IsPart vu none) (ps : IsPart vs (some (-1)))
    (h : Q (.ref s.heap.objs.size) { s with heap := s.heap.push { cls := .type "tuple", data := .seq items.toList.reverse.toArray } })
    (hsz : items.size ≤ sizeLine) : wpAny (model prog w) A (getItem (.ref t) (.ref sl)) Q E s := by
  have htake : sizeOk (.seq items.toList.reverse.toArray) := by
    show items.toList.reverse.toArray.size ≤ sizeLine
    rw [List.size_toArray, List.length_reverse, Array.length_toList]
    exact hsz
  obtain ⟨os, hos, hcs, hds⟩ := id hs
  have hTs : s.TypeIs (.ref sl) "slice" := ⟨os, hos, hcs⟩
  unfold getItem
  try with_reducible refine wpAny_holding ?_
  first | refine wpAny_bind (wpAny_pure ?_) | skip
  refine wpAny_bind (wpAny_sequenceKey ht.typeIs (by decide) ?_)
  refine wpAny_bind (wpAny_callSpecial?_slot (name := Str.ofString "__getitem__") ht.typeIs PyProof.Rows.slot_tuple_getitem
    (wpAny_call_entry PyProof.Rows.slot_tuple_getitem ht.typeIs entry_tuple_getitem ?_ (args_tuple_getitem _ _)))
  show wpAny _ _ (Builtin.Tuple.tupleItemsOf (.ref t) >>= _) _ _ s
  refine wpAny_bind (tupleItemsOf_ ht ?_)
  refine wpAny_bind (wpAny_typeOf hTs ?_)
  rw [if_pos (by decide)]
  refine wpAny_bind (sliceApplied_rev hs pl pu ps ?_)
  have hno : ¬ ((((items.size : Nat) : Int) - 1 == 0 && (-1 : Int) == 1 && items.size == items.size) = true) := by
    intro q
    rw [Bool.and_eq_true, Bool.and_eq_true] at q
    exact absurd (eq_of_beq q.1.2) (by decide)
  show wpAny _ _ (if (((items.size : Nat) : Int) - 1 == 0 && (-1 : Int) == 1 && items.size == items.size) = true then _ else _) _ _ s
  rw [if_neg hno, pick_rev]
  first
    | exact wpAny_bind (m := Builtin.Tuple.tupleExact _) (wpAny_newObj_type (wpAny_pure ⟨_, rfl, wpAny_pure h⟩) htake)
    | exact wpAny_bind (m := Builtin.Tuple.tupleExact _) (wpAny_newObj_type (wpAny_bind (wpAny_pure (wpAny_pure ⟨_, rfl, wpAny_pure h⟩))) htake)
    | exact wpAny_bind (wpAny_bind (m := Builtin.Tuple.tupleExact _) (wpAny_newObj_type (wpAny_pure (wpAny_pure ⟨_, rfl, wpAny_pure h⟩)) htake))
    | exact wpAny_bind (wpAny_bind (m := Builtin.Tuple.tupleExact _) (wpAny_newObj_type (wpAny_pure ⟨_, rfl, wpAny_pure h⟩) htake))
end
section
variable {X : Cx}
def tRevT (K : PySem.W.Frag) (te : TE) : TE := fun σ H Q => te σ H fun x H1 => ∃ a xs, x = .ref a ∧ SqT K H1 a xs ∧ ∀ p, H1 p = none → Q (.ref p) (upd H1 p (.tup xs.reverse))
theorem pe_revT {e : Expr} {te : TE} {k : Nat} {p1 p2 p3 pos : Pos} (he : PE X e te) : PE X (.Subscript e (.Slice none none (some (.UnaryOp .USub (.Constant (.int 1) k p1) p2)) p3) pos) (tRevT X.K te) := by
  refine ⟨fun pins s σ H Q I h => ?_⟩
  refine Subscript_ (thn (he.run pins s σ H _ I h) fun v s1 ⟨x, H1, I1, r1, q1⟩ => ?_)
  obtain ⟨a, xs, ex, hx, q⟩ := q1
  subst ex
  cases r1
  have hst : PO X (some (.UnaryOp .USub (.Constant (.int 1) k p1) p2)) (tPart (tUn (rU fun i => .int (-i)) (tC (.int 1)))) := po_some (pe_un un_neg pe_int)
  refine wpAny_Slice (thn (po_none.run pins s1 σ H1 (fun o H2 => o = none ∧ H2 = H1) I1 ⟨rfl, rfl⟩) fun vl s2 ⟨l, H2, I2, pl, el, e2⟩ => ?_)
  subst el e2
  refine thn (po_none.run pins s2 σ H2 (fun o H3 => o = none ∧ H3 = H2) I2 ⟨rfl, rfl⟩) fun vu s3 ⟨u, H3, I3, pu, eu, e3⟩ => ?_
  subst eu e3
  refine thn (hst.run pins s3 σ H3 (fun o H4 => o = some (-1) ∧ H4 = H3) I3 ⟨1, rfl, -1, rfl, rfl, rfl⟩) fun vs s4 ⟨o, H4, I4, ps, eo, e4⟩ => ?_
  subst eo e4
  have I5 : Inv X pins σ H4 { s4 with heap := s4.heap.push { cls := .type "slice", data := .fields #[vl, vu, vs] } } := I4.kept (t' := s4.toks) fun b ob q => Heap.get?_push_of_some _ q
  obtain ⟨its, r, ht, hz⟩ := I5.tuple hx
  have hlen := r.length
  show wpAny (model X.prog X.w) X.A (subscriptTail e (.Slice none none (some (.UnaryOp .USub (.Constant (.int 1) k p1) p2)) p3) (.ref a) (.ref s4.heap.objs.size)) (EP X pins σ Q) X.xe { s4 with heap := s4.heap.push { cls := .type "slice", data := .fields #[vl, vu, vs] } }
  refine tail_any (ops := [.ref a, .ref s4.heap.objs.size]) ht.typeIs (PyProof.Rows.slot_tuple_getitem.lookup) ?_ (by with_unfolding_all rfl)
  refine getItem_tuple_rev ht (Heap.IsSliceOf.new _ vl vu vs) pl pu ps ?_ (by rw [List.size_toArray]; omega)
  refine ⟨.ref _, _, I5.laid (t' := s4.toks) (o := .tup xs.reverse) (fun b ob q => Heap.get?_push_of_some _ q) (Nat.le_refl _) ?_, rfl, q _ (I5.hok.fresh (Nat.le_refl _))⟩
  exact ⟨by rw [List.length_reverse]; exact hz, _, r.reverse, IsTup.new _ _⟩
end
end L2

namespace L2
open PySem PySem.Spec PyProof.Rows
/-- a def that may be called by its name where no repr is under way -/
structure CalG (P : Program) (w : World) (K : PySem.W.Frag) (mg : Str → Option Value) (base : Heap) (x : Str) (k : Nat) (ps : List Str) (sp : Sp) : Prop where
  ex : ∃ f fd, FnOkG P w K mg base CX0 k f fd ps sp ∧ Binds K fd ps [] ∧ mg x = some (.ref f) ∧ PySem.W.keepIn K (.ref f) = true
structure CalH (P : Program) (w : World) (K : PySem.W.Frag) (mg : Str → Option Value) (base : Heap) (x : Str) (k : Nat) (ps : List Str) (sp : Sp) (A : Around) : Prop extends CalG P w K mg base x k ps sp where
  hg : A.guards = some []
theorem CalG.at {P : Program} {w : World} {K : PySem.W.Frag} {mg : Str → Option Value} {base : Heap} {x : Str} {k j : Nat} {ps : List Str} {sp : Sp} {A : Around} (L : CalG P w K mg base x k ps sp) (_ : Room j A) (h : A.guards = some []) : CalH P w K mg base x k ps sp A := ⟨L, h⟩
theorem CalH.pe {X : Cx} {x : Str} {k : Nat} {ps : List Str} {sp : Sp} {e : Expr} {es : List Expr} {t : TA} {p pos : Pos} (L : CalH X.prog X.w X.K X.mg X.base x k ps sp X.A) (hr : Room k X.A) (hg : Gl X x) (ha : PA X (e :: es) t) (hdb : (x == ("__debug__" : Str)) = false := by decide)
    (he : starEach (e :: es) X.env = (false, eval e X.env) :: starEach es X.env := by rfl) (hpl : (backTo pos (starEach es X.env)).any (·.1) = false := by rfl) : PE X (.Call (.Name x p) (e :: es) [] pos) (tCall sp [] E0 t) := by
  obtain ⟨f, fd, F, b, g, kp⟩ := L.ex
  exact pe_callG F L.hg hr hg g kp b .nil pass0 ha hdb he hpl
end L2
namespace G
open PySem L2 GM LamX
theorem noT_out {H : Hp} {a b : Addr} {o : HO} (h : noT (rm H a) b = some o) : noT H b = some o := by
  obtain ⟨h1, n⟩ := noT_some h
  exact noT_of (rm_some h1).2 n
def spLaw (K : PySem.W.Frag) (T : List (Addr × Str)) : Sp := fun vs H Q _ => ∃ (a : Addr) (ns : List Int), vs = [.ref a] ∧ SqL K H a (ns.map V.int) ∧ ns.length ≤ 63 ∧ Tabs T H ∧ ∀ H', Q (.bl true) H'
theorem cut_int {ns : List Int} {lo hi : Option Int} {i : Nat} {y : V} (h : (cutV (ns.map V.int ++ [V.int 0]) lo hi)[i]? = some y) : ∃ z, y = V.int z := by
  have m : y ∈ cutV (ns.map V.int ++ [V.int 0]) lo hi := List.mem_of_getElem? h
  have m2 : y ∈ ns.map V.int ++ [V.int 0] := List.mem_of_mem_drop (List.mem_of_mem_take m)
  rcases List.mem_append.mp m2 with h | h
  · obtain ⟨z, _, rfl⟩ := List.mem_map.mp h
    exact ⟨z, rfl⟩
  · exact ⟨0, List.mem_singleton.mp h⟩
section
variable {P : Program} {w : World} {K : PySem.W.Frag} {mg : Str → Option Value} {base : Heap} {C CS : Addr} {T : List (Addr × Str)}
theorem scNoSl : FnScope ["self", "at"] ["self", "at"] (defScope s_NoSlide___init__) := ⟨rfl, rfl, rfl, by decide +kernel, rfl, by decide +kernel, by decide +kernel⟩
theorem ok_nosl {f C : Addr} {fd : FuncData} (F : Fun K "__init__" "NoSlide.__init__" s_NoSlide___init__ f fd) (T : XvC K C f) (no : PySem.W.findIn K (.ref C) "at" = some none) : FnOk P w K mg base CX0 1 f fd ["self", "at"] (spErr C "at") := by
  refine F.ok scNoSl (fun vs H Q E h => ?_) (fun cdv A outer s H vs Q E hr h => ?_)
  · obtain ⟨a, x, rfl, _⟩ := h
    rfl
  · obtain ⟨a, x, rfl, ha, k⟩ := h
    refine ⟨_, pss_one (ps_ost (pv 0) (pv 1)), ?_⟩
    exact ⟨_, rfl, _, rfl, a, C, rfl, T.ox, no, .inl ⟨ha, fun d hd hda => k d hd hda⟩⟩
theorem nb0 (a x : Nat) : x ∉ nb (rows []) a := fun z => by
  rcases (mem_rows (ws := []) (fun w h => nomatch h)).mp z with h | h <;> cases h
theorem moves0 : movesF [] false [0] = [] := List.eq_nil_iff_forall_not_mem.mpr fun w h => nb0 _ _ (mem_movesL.mp h).2.1
theorem set0 : Setting (rows []) [0] where
  up := List.pairwise_singleton _ _
  lt := fun x h => by
    rw [List.mem_singleton.mp h]
    decide
  apart := fun x h y g => by
    rw [List.mem_singleton.mp h]
    exact nb0 _ _
theorem only_in {H H' : Hp} (s : Same H H') : Same (only H H') H' := fun b o h => by
  unfold only at h
  split at h
  · exact h
  · rename_i xs hx
    rw [← h]
    exact s b _ hx
  · cases h
theorem scLaw : FnScope ["script", "k", "cell"] ["script"] (defScope s_law) := ⟨rfl, rfl, rfl, by decide +kernel, rfl, by decide +kernel, by decide +kernel⟩
theorem ok_law {f : Addr} {fd : FuncData} (F : Fun K "law" "law" s_law f fd) (TX : TxL K mg) (L_law_right : CalG P w K mg base "_law_right" 15 ["well"] (spRight T)) (L_Tree : CalK P w K mg base C "Tree" 4 ["self", "ways"] (spInit C)) (L_slides : Cal P w K mg base "slides" 8 ["tree", "setting"] (spMoves C false)) (XL : CalX P w K mg base "leapt" 10 ["tree", "setting", "moves"] (spGoneD C CS true)) : FnOkG P w K mg base CX0 16 f fd ["script"] (spLaw K T) := by
  refine F.okG scLaw (fun vs H Q E h => ?_) (fun cdv A outer s H vs Q E hgd hr h => ?_)
  · obtain ⟨a, ns, rfl, _⟩ := h
    rfl
  · obtain ⟨a, ns, rfl, hS, hl, hT, k⟩ := h
    have hu := hr.units
    have TS := hT
    clear hT
    have T := TX
    have L_law_right := L_law_right.at hr hgd
    obtain ⟨fL, dL, FL, bL, gL, kL⟩ := XL.ex
    refine ⟨_, (pss_cons (ps_for PassesOwn.never rfl (pi_enum (by rfl) T.en (pa_cons (pe_slice sl_list (pe_op op_catR (pv 0) (pe_lst (pa_cons pe_int pa_nil))) po_none (po_some pe_int)) pa_nil)) (pg_tup rfl (pgs_cons (pg_name (i := 1) scLaw.nd rfl (Or.inl rfl)) (pgs_cons (pg_name (i := 2) scLaw.nd rfl (Or.inl rfl)) pgs_nil)))
        (pss_one (ps_if (pt_not (pt_val (L_law_right.pe (hr.mono (by decide)) rfl (pa_cons (pe_lst (pa_cons (pe_op op_mul (pv 2) (pe_callTy call_int1 (by rfl) T.int PyProof.Rows.boot_int (pa_cons (pe_cmpR op_ge (pv 2) (pe_op op_pow pe_int pe_int) (nomark _)) pa_nil))) (pa_cons (pe_op op_add (pe_op op_mod (pv 2) pe_int) (pe_op op_mul pe_int (pv 1))) (pa_cons pe_int pa_nil)))) pa_nil)))) (pss_one (ps_ret pe_bl)) pss_nil)))
      (pss_one (ps_ret (pe_and (pe_cmpR (op_eqD hu) (L_slides.pe (hr.mono (by decide)) rfl (pa_cons (L_Tree.pe (hr.mono (by decide)) rfl (pa_cons (pe_lst pa_nil) pa_nil)) (pa_cons (pe_tup (pa_cons pe_int pa_nil)) pa_nil))) (pe_lst pa_nil) (nomark _)) (pe_one (pe_cmpR (op_eqD hu) (pe_callS FL (hr.mono (by decide)) rfl gL kL bL (fun σ => passAt L2.takes0 σ) (pa_cons (L_Tree.pe (hr.mono (by decide)) rfl (pa_cons (pe_lst pa_nil) pa_nil)) (pa_cons (pe_tup (pa_cons pe_int pa_nil)) (pa_cons (pe_lst pa_nil) pa_nil)))) (pe_tup (pa_cons pe_int pa_nil)) (nomark _))))))), ?_⟩
    refine ⟨_, rfl, (by show 1 ≤ sizeLine; decide), fun p1 n1 => ?_⟩
    generalize hB1 : upd _ p1 _ = B1
    have s1 : Same H B1 := hB1 ▸ same_new n1
    have TS1 := TS.ext s1
    have h1 : B1 p1 = some _ := hB1 ▸ upd_same
    refine ⟨a, p1, _, _, rfl, rfl, s1.seq hS, SqL.of h1, (by rw [List.length_map]; exact Nat.le_trans (Nat.add_le_add_right hl 1) (by decide)), fun p2 n2 => ?_⟩
    generalize hB2 : upd _ p2 _ = B2
    have h2 : B2 p2 = some _ := hB2 ▸ upd_same
    have TS2 := TS1.ext (hB2 ▸ same_new n2 : Same B1 B2)
    refine ⟨_, rfl, p2, _, rfl, SqL.of h2, fun p3 n3 => ?_⟩
    generalize hcut : cutV (ns.map V.int ++ [V.int 0]) none _ = cs
    have hint : ∀ {i : Nat} {y : V}, cs[i]? = some y → ∃ z, y = V.int z := fun h => cut_int (hcut ▸ h)
    have TS3 := TS2.ext (same_new (o := HO.lst cs) n3)
    refine ⟨p3, cs, rfl, SqL.of upd_same, ?_⟩
    refine for_it (walk_enum (xs := cs)) (fun j σ Hd => ∃ v1 v2, σ = [some (.ref a), v1, v2] ∧ noT Hd p3 = some (.lst cs) ∧ Tabs _ Hd) ⟨_, _, rfl, noT_of upd_same (fun ps e => by cases e), TS3⟩ (fun j σ Hd _ ⟨_, _, _, h, _⟩ => SqL.of (noT_in _ _ _ h)) ?_ ?_
    · rintro j y σ Hd Hd' hj ⟨v1, v2, rfl, hd, Td⟩ ⟨T0, y1, y2, rfl, nT, rfl, ey1, ey2⟩
      obtain rfl : y1 = V.int (j : Nat) := (Option.some.inj ey1).symm
      obtain ⟨z, rfl⟩ := hint ey2
      refine ⟨T0, _, rfl, SqT.of upd_same, rfl, _, _, rfl, _, _, rfl, rfl, ?_⟩
      generalize hB3 : upd _ T0 _ = B3
      have s3 : Same Hd B3 := hB3 ▸ same_new nT
      refine ⟨_, rfl, _, rfl, _, _, rfl, rfl, ⟨by decide, by decide, by decide⟩, _, _, rfl, rfl, .inr ⟨_, rfl, _, _, rfl, rfl, .inr (by split <;> exact ⟨by decide, by decide⟩), ?_⟩⟩
      refine ⟨_, rfl, _, _, rfl, rfl, (by show (0 : Int) < 2147483647; decide), _, rfl, _, _, rfl, rfl, .inl ⟨by decide, by decide⟩, _, _, rfl, rfl, ?_⟩
      refine ⟨(by show 3 ≤ sizeLine; decide), fun p4 n4 => ?_⟩
      have q := s3 _ _ (noT_in _ _ _ hd)
      have T4 := Td.ext s3
      refine ⟨p4, rfl, ⟨_, _, _, upd_same⟩, T4.ext (same_new n4), fun H' s' T' => ⟨_, rfl, iteF ⟨_, _, rfl, ?_, T'⟩⟩⟩
      have n34 : p3 ≠ p4 := ne_of_none q n4
      refine noT_out (s' _ _ (noT_of ?_ fun ps e => by cases e))
      rw [rm_ne n34, upd_ne n34]
      exact q
    · rintro σ Hd ⟨v1, v2, rfl, hd, _⟩
      clear hd
      refine ⟨(by show 0 ≤ sizeLine; decide), fun e1 ne1 => ?_⟩
      generalize hG1 : upd _ e1 _ = G1
      have he1 : LP G1 e1 [] := ⟨[], hG1 ▸ upd_same, rfl, fun i a h => by simp at h⟩
      clear hG1
      refine fun x dx nx ndx nex => ?_
      have s4x := made_same (C := C) nx ndx
      refine ⟨x, e1, dx, [], rfl, upd_same, he1.same s4x, by decide, True.intro, fun H5 la lr k5 hx5 hlw5 hlr5 => ⟨rfl, ?_⟩⟩
      obtain ⟨s5, TT5⟩ := tree_made nx ndx nex k5 hx5 hlw5 hlr5
      have TT := TT5.same (only_in s5)
      refine ⟨(by show 1 ≤ sizeLine; decide), fun t1 nt1 => ?_⟩
      have u1 : Same H5 (upd H5 t1 (.tup [V.int 0])) := same_new nt1
      have ht1 : NT (upd H5 t1 (.tup [V.int 0])) t1 [0] := upd_same
      generalize upd H5 t1 (.tup [V.int 0]) = E1 at u1 ht1
      refine ⟨x, t1, [], [0], rfl, TT.same u1, by decide, (fun w h => nomatch h), ht1, set0, fun H6 r s6 nr hr6 => ?_⟩
      rw [moves0] at hr6
      obtain ⟨as, h1, h2⟩ := hr6
      have : as = [] := List.length_eq_zero_iff.mp h2.1
      subst this
      have hr : NL H6 r [] := only_in s6 _ _ h1
      refine ⟨(by show 0 ≤ sizeLine; decide), fun e2 ne2 => ?_⟩
      have u2 := same_new (o := HO.lst []) ne2
      refine eq_nl (hr.same u2) (show NL _ e2 [] from upd_same) ⟨_, rfl, iteT ?_⟩
      generalize upd H6 e2 (HO.lst []) = E2
      refine ⟨(by show 0 ≤ sizeLine; decide), fun e3 ne3 => ?_⟩
      generalize hG1 : upd _ e3 _ = G3
      have he3 : LP G3 e3 [] := ⟨[], hG1 ▸ upd_same, rfl, fun i a h => by simp at h⟩
      clear hG1
      refine fun x2 dx2 nx2 ndx2 nex2 => ?_
      have s7x := made_same (C := C) nx2 ndx2
      refine ⟨x2, e3, dx2, [], rfl, upd_same, he3.same s7x, by decide, True.intro, fun H7 la2 lr2 k7 hx7 hlw7 hlr7 => ⟨rfl, ?_⟩⟩
      obtain ⟨s7, TT7⟩ := tree_made nx2 ndx2 nex2 k7 hx7 hlw7 hlr7
      have TTb := TT7.same (only_in s7)
      refine ⟨(by show 1 ≤ sizeLine; decide), fun t2 nt2 => ?_⟩
      have u3 : Same H7 (upd H7 t2 (.tup [V.int 0])) := same_new nt2
      have ht2 : NT (upd H7 t2 (.tup [V.int 0])) t2 [0] := upd_same
      generalize upd H7 t2 (.tup [V.int 0]) = E3 at u3 ht2
      refine ⟨(by show 0 ≤ sizeLine; decide), fun e4 ne4 => ?_⟩
      have u4 : Same E3 (upd E3 e4 (.lst [])) := same_new ne4
      have he4 : upd E3 e4 (.lst []) e4 = some (.lst []) := upd_same
      generalize upd E3 e4 (.lst []) = E4 at u4 he4
      refine ⟨x2, t2, .ref e4, .list [], [], [0], rfl, TTb.same (u3.trans u4), by decide, (fun w h => nomatch h), ht2.same u4, set0, .lst he4 .nil, fun B hB SB H8 r2 s8 nr2 hr2 => ?_, fun i hi => nomatch hi⟩
      obtain rfl : [0] = B := Except.ok.inj hB
      refine ⟨(by show 1 ≤ sizeLine; decide), fun t3 nt3 => ?_⟩
      have u5 : Same H8 (upd H8 t3 (.tup [V.int 0])) := same_new nt3
      have ht3 : NT (upd H8 t3 (.tup [V.int 0])) t3 [0] := upd_same
      refine eq_nt (hr2.same u5) ht3 ?_
      exact k _
end
end G

namespace G
open PySem L2 GM LamX
section
variable {K : PySem.W.Frag} {mg : Str → Option Value}
theorem cal_mk {P : Program} {w : World} {base : Heap} {x : Str} {k : Nat} {ps : List Str} {sp : Sp} {f : Addr} {fd : FuncData} {q : Str} {st : Stmt} (o : FnOk P w K mg base CX0 k f fd ps sp) (b : Binds K fd ps []) (g : mg x = some (.ref f)) (F : Fun K x q st f fd) : Cal P w K mg base x k ps sp := ⟨f, fd, o, b, g, F.kp⟩

theorem xv_mk {C fI N : Addr} {nm q : Str} {bs bm : List Value} {sn : List Str} {sub : List Value} {ab : Bool} {col : Option Bool} {dd : Option Addr} {m0 m1 m2 m3 m5 : Option Value}
    (xL : K.lookup C = some (excClassObj nm q C N bs bm true sn sub ab col dd m0 m1 m2 m3 m5 "ValueError.__new__")) (hb : PySem.HandSPX.refsVE bm = true)
    (sa : PySem.W.findIn K (.ref C) "__setattr__" = some (some (.builtin "object.__setattr__"))) (ex : PySem.W.subIn K (.ref C) (.type "BaseException") = some true) (ty : PySem.W.typeIn K (.ref C) = some (.type "type")) (kC : PySem.W.keepIn K (.ref C) = true)
    (iC : PySem.W.findIn K (.ref C) "__init__" = some (some (.ref fI))) (tI : PySem.W.typeIn K (.ref fI) = some (.type "function")) (ga : PySem.W.findIn K (.ref C) "__getattribute__" = some (some (.builtin "BaseException.__getattribute__"))) (gg : PySem.W.findIn K (.ref C) "__getattr__" = some none)
    (hd : PySem.W.hasDictIn K C = true) (hcl : PySem.W.isClsIn K C = true) (kl : PySem.W.findIn K (.ref C) "__class__" = some (some (.builtin "object.__class__"))) (sp : PySem.W.specialIn K (.builtin "object.__class__") "__get__" = some (some (.builtin "getset_descriptor.__get__")))
    (tk : PySem.W.takesIn K (.builtin "object.__class__") = some true) (mo : PySem.W.mroIn K C (.type "object") = some true) : XvC K C fI :=
  ⟨⟨⟨_, _, _, _, _, _, _, _, _, _, _, _, _, _, _, xL, hb⟩, sa, ex, ty, kC⟩, iC, tI, ga, gg, hd, hcl, kl, sp, tk, mo⟩
theorem exm_own {S : Addr} (h1 : PySem.W.subIn K (.ref S) (.type "BaseException") = some true) (h2 : PySem.W.isClsIn K S = true) (h3 : PySem.W.typeIn K (.ref S) = some (.type "type")) (h4 : PySem.W.subIn K (.ref S) (.ref S) = some true) :
    PySem.W.exmOne K (.ref S) (.ref S) = some true := by
  have e1 : (PySem.W.subIn K (.ref S) (.type "BaseException") == some true) = true := by rw [h1] <;> rfl
  have e2 : ((PySem.W.clsIn K S).isSome && PySem.W.typeIn K (.ref S) == some (.type "type")) = true := by
    have h2' : (PySem.W.clsIn K S).isSome = true := h2
    rw [h2', h3] <;> rfl
  show (if (PySem.W.subIn K (.ref S) (.type "BaseException") == some true) = true then (if ((PySem.W.clsIn K S).isSome && PySem.W.typeIn K (.ref S) == some (.type "type")) = true then PySem.W.subIn K (.ref S) (.ref S) else none) else none) = some true
  rw [if_pos e1, if_pos e2]
  exact h4
theorem exm_not {S R : Addr} (h1 : PySem.W.subIn K (.ref S) (.type "BaseException") = some true) (h2 : PySem.W.isClsIn K S = true) (h3 : PySem.W.typeIn K (.ref S) = some (.type "type")) (h4 : PySem.W.subIn K (.ref R) (.ref S) = some false) :
    PySem.W.exmOne K (.ref R) (.ref S) = some false := by
  have e1 : (PySem.W.subIn K (.ref S) (.type "BaseException") == some true) = true := by rw [h1] <;> rfl
  have e2 : ((PySem.W.clsIn K S).isSome && PySem.W.typeIn K (.ref S) == some (.type "type")) = true := by
    have h2' : (PySem.W.clsIn K S).isSome = true := h2
    rw [h2', h3] <;> rfl
  show (if (PySem.W.subIn K (.ref S) (.type "BaseException") == some true) = true then (if ((PySem.W.clsIn K S).isSome && PySem.W.typeIn K (.ref S) == some (.type "type")) = true then PySem.W.subIn K (.ref R) (.ref S) else none) else none) = some false
  rw [if_pos e1, if_pos e2]
  exact h4

theorem all_mk {l : PySem.W.OpenLaw} {w : World} {h : Heap} {fa C CS fIS cJ PJ f_is_whole f_is_room f_is_way f_check_ways f_rows_beside f_check_setting f_has_space f_slides_of f_slides f_leaps_from f_can_leap f_can_slide f_moved f_slid f_leapt f_law_draw f_law_ways f_law_near f_law_setting f_law_apart f_law_moves f_law_behind f_law_row f_law_bent f_law_asked f_law_right f_law m_init m_len m_beside m_check_rooms : Addr} {d_is_whole d_is_room d_is_way d_check_ways d_rows_beside d_check_setting d_has_space d_slides_of d_slides d_leaps_from d_can_leap d_can_slide d_moved d_slid d_leapt d_law_draw d_law_ways d_law_near d_law_setting d_law_apart d_law_moves d_law_behind d_law_row d_law_bent d_law_asked d_law_right d_law e_init e_len e_beside e_check_rooms dIS : FuncData} {tM : Tok} (X : K.In h) (G : h.Ns mainGlobals mg) (hfa : mg "law" = some (.ref fa))
    (a_is_whole : PySem.W.nsIn K mainGlobals "is_whole" = some (some (.ref f_is_whole))) (F_is_whole : Fun K "is_whole" "is_whole" s_is_whole f_is_whole d_is_whole)
    (a_is_room : PySem.W.nsIn K mainGlobals "is_room" = some (some (.ref f_is_room))) (F_is_room : Fun K "is_room" "is_room" s_is_room f_is_room d_is_room)
    (a_is_way : PySem.W.nsIn K mainGlobals "is_way" = some (some (.ref f_is_way))) (F_is_way : Fun K "is_way" "is_way" s_is_way f_is_way d_is_way)
    (a_check_ways : PySem.W.nsIn K mainGlobals "_check_ways" = some (some (.ref f_check_ways))) (F_check_ways : Fun K "_check_ways" "_check_ways" s__check_ways f_check_ways d_check_ways)
    (a_rows_beside : PySem.W.nsIn K mainGlobals "_rows_beside" = some (some (.ref f_rows_beside))) (F_rows_beside : Fun K "_rows_beside" "_rows_beside" s__rows_beside f_rows_beside d_rows_beside)
    (a_check_setting : PySem.W.nsIn K mainGlobals "check_setting" = some (some (.ref f_check_setting))) (F_check_setting : Fun K "check_setting" "check_setting" s_check_setting f_check_setting d_check_setting)
    (a_has_space : PySem.W.nsIn K mainGlobals "_has_space" = some (some (.ref f_has_space))) (F_has_space : Fun K "_has_space" "_has_space" s__has_space f_has_space d_has_space)
    (a_slides_of : PySem.W.nsIn K mainGlobals "_slides_of" = some (some (.ref f_slides_of))) (F_slides_of : Fun K "_slides_of" "_slides_of" s__slides_of f_slides_of d_slides_of)
    (a_slides : PySem.W.nsIn K mainGlobals "slides" = some (some (.ref f_slides))) (F_slides : Fun K "slides" "slides" s_slides f_slides d_slides)
    (a_leaps_from : PySem.W.nsIn K mainGlobals "leaps_from" = some (some (.ref f_leaps_from))) (F_leaps_from : Fun K "leaps_from" "leaps_from" s_leaps_from f_leaps_from d_leaps_from)
    (a_can_leap : PySem.W.nsIn K mainGlobals "_can_leap" = some (some (.ref f_can_leap))) (F_can_leap : Fun K "_can_leap" "_can_leap" s__can_leap f_can_leap d_can_leap)
    (a_can_slide : PySem.W.nsIn K mainGlobals "_can_slide" = some (some (.ref f_can_slide))) (F_can_slide : Fun K "_can_slide" "_can_slide" s__can_slide f_can_slide d_can_slide)
    (a_moved : PySem.W.nsIn K mainGlobals "_moved" = some (some (.ref f_moved))) (F_moved : Fun K "_moved" "_moved" s__moved f_moved d_moved)
    (a_slid : PySem.W.nsIn K mainGlobals "slid" = some (some (.ref f_slid))) (F_slid : Fun K "slid" "slid" s_slid f_slid d_slid)
    (a_leapt : PySem.W.nsIn K mainGlobals "leapt" = some (some (.ref f_leapt))) (F_leapt : Fun K "leapt" "leapt" s_leapt f_leapt d_leapt)
    (a_law_draw : PySem.W.nsIn K mainGlobals "_law_draw" = some (some (.ref f_law_draw))) (F_law_draw : Fun K "_law_draw" "_law_draw" s__law_draw f_law_draw d_law_draw)
    (a_law_ways : PySem.W.nsIn K mainGlobals "_law_ways" = some (some (.ref f_law_ways))) (F_law_ways : Fun K "_law_ways" "_law_ways" s__law_ways f_law_ways d_law_ways)
    (a_law_near : PySem.W.nsIn K mainGlobals "_law_near" = some (some (.ref f_law_near))) (F_law_near : Fun K "_law_near" "_law_near" s__law_near f_law_near d_law_near)
    (a_law_setting : PySem.W.nsIn K mainGlobals "_law_setting" = some (some (.ref f_law_setting))) (F_law_setting : Fun K "_law_setting" "_law_setting" s__law_setting f_law_setting d_law_setting)
    (a_law_apart : PySem.W.nsIn K mainGlobals "_law_apart" = some (some (.ref f_law_apart))) (F_law_apart : Fun K "_law_apart" "_law_apart" s__law_apart f_law_apart d_law_apart)
    (a_law_moves : PySem.W.nsIn K mainGlobals "_law_moves" = some (some (.ref f_law_moves))) (F_law_moves : Fun K "_law_moves" "_law_moves" s__law_moves f_law_moves d_law_moves)
    (a_law_behind : PySem.W.nsIn K mainGlobals "_law_behind" = some (some (.ref f_law_behind))) (F_law_behind : Fun K "_law_behind" "_law_behind" s__law_behind f_law_behind d_law_behind)
    (a_law_row : PySem.W.nsIn K mainGlobals "_law_row" = some (some (.ref f_law_row))) (F_law_row : Fun K "_law_row" "_law_row" s__law_row f_law_row d_law_row)
    (a_law_bent : PySem.W.nsIn K mainGlobals "_law_bent" = some (some (.ref f_law_bent))) (F_law_bent : Fun K "_law_bent" "_law_bent" s__law_bent f_law_bent d_law_bent)
    (a_law_asked : PySem.W.nsIn K mainGlobals "_law_asked" = some (some (.ref f_law_asked))) (F_law_asked : Fun K "_law_asked" "_law_asked" s__law_asked f_law_asked d_law_asked)
    (a_law_right : PySem.W.nsIn K mainGlobals "_law_right" = some (some (.ref f_law_right))) (F_law_right : Fun K "_law_right" "_law_right" s__law_right f_law_right d_law_right)
    (a_law : PySem.W.nsIn K mainGlobals "law" = some (some (.ref f_law))) (F_law : Fun K "law" "law" s_law f_law d_law)
    (aC : PySem.W.nsIn K mainGlobals "Tree" = some (some (.ref C)))
    (i_init : PySem.W.findIn K (.ref C) "__init__" = some (some (.ref m_init))) (n_init : PySem.W.isFn K (.ref m_init) = true) (M_init : Fun K "__init__" "Tree.__init__" s_Tree___init__ m_init e_init)
    (i_len : PySem.W.findIn K (.ref C) "__len__" = some (some (.ref m_len))) (n_len : PySem.W.isFn K (.ref m_len) = true) (M_len : Fun K "__len__" "Tree.__len__" s_Tree___len__ m_len e_len)
    (i_beside : PySem.W.findIn K (.ref C) "beside" = some (some (.ref m_beside))) (n_beside : PySem.W.isFn K (.ref m_beside) = true) (M_beside : Fun K "beside" "Tree.beside" s_Tree_beside m_beside e_beside)
    (i_check_rooms : PySem.W.findIn K (.ref C) "_check_rooms" = some (some (.ref m_check_rooms))) (n_check_rooms : PySem.W.isFn K (.ref m_check_rooms) = true) (M_check_rooms : Fun K "_check_rooms" "Tree._check_rooms" s_Tree__check_rooms m_check_rooms e_check_rooms)
    (pg : PySem.W.plainGet K C Str.empty = true) (hd : PySem.W.hasDictIn K C = true) (po : PySem.W.plainOver K C = true) (sa : PySem.W.findIn K (.ref C) "__setattr__" = some (some (.builtin "object.__setattr__"))) (mk : PySem.W.makesIn K C = true) (kc : PySem.W.keepIn K (.ref C) = true)
    (nW : PySem.W.findIn K (.ref C) "_ways" = some none) (nR : PySem.W.findIn K (.ref C) "_rows" = some none) (most : PySem.W.nsIn K mainGlobals "MOST_WAYS" = some (some (.int 59 tM)))
    (aS : PySem.W.nsIn K mainGlobals "NoSlide" = some (some (.ref CS))) (xS : XvC K CS fIS) (nS : PySem.W.findIn K (.ref CS) "at" = some none) (FS : Fun K "__init__" "NoSlide.__init__" s_NoSlide___init__ fIS dIS) (hS : PySem.W.isClsIn K CS = true) (tS : PySem.W.typeIn K (.ref CS) = some (.type "type")) (eS : PySem.W.subIn K (.ref CS) (.type "BaseException") = some true) (sS : PySem.W.subIn K (.ref CS) (.ref CS) = some true)
    (hcJ : d_law_right.code = .ref cJ)
    (b_isinstance : PySem.W.nsIn K mainGlobals "isinstance" = some none)
    (b_len : PySem.W.nsIn K mainGlobals "len" = some none)
    (b_list : PySem.W.nsIn K mainGlobals "list" = some none)
    (b_int : PySem.W.nsIn K mainGlobals "int" = some none)
    (b_bool : PySem.W.nsIn K mainGlobals "bool" = some none)
    (b_tuple : PySem.W.nsIn K mainGlobals "tuple" = some none)
    (b_range : PySem.W.nsIn K mainGlobals "range" = some none)
    (b_enumerate : PySem.W.nsIn K mainGlobals "enumerate" = some none)
    (b_sorted : PySem.W.nsIn K mainGlobals "sorted" = some none)
    (b_max : PySem.W.nsIn K mainGlobals "max" = some none)
    (b_min : PySem.W.nsIn K mainGlobals "min" = some none)
    (b_repr : PySem.W.nsIn K mainGlobals "repr" = some none) :
    ∃ fd : FuncData, (∀ (s : Shared) (v : Value), BindsTo s fd ⟨[v], []⟩ [("script", v)]) ∧ ∀ base : Heap, K.In base → base.Ns mainGlobals mg → (TabB base mg cJ PJ → FnOkG l.prog w K mg base CX0 16 fa fd ["script"] (spLaw K [(PJ, ("_law_right.<locals>.<lambda>" : Str))])) := by
  have e := hfa.symm.trans (PySem.W.mg_of X G a_law)
  cases e
  have bL : ∀ (s : Shared) (v : Value), BindsTo s d_law ⟨[v], []⟩ [("script", v)] := by
    obtain ⟨oc, od, kV, doc, pm, an, cdv, ct, osl, rfl, lk, hcd⟩ := F_law.ex
    exact fun s v => .of_eq rfl
  refine ⟨d_law, bL, fun base _ _ TBJ => ?_⟩
  have b_is_whole_ := F_is_whole.binds (ps := ["thing"]) fun _ _ _ _ _ _ us hl => match us, hl with | [_], _ => rfl
  have b_is_room_ := F_is_room.binds (ps := ["tree", "thing"]) fun _ _ _ _ _ _ us hl => match us, hl with | [_, _], _ => rfl
  have b_is_way_ := F_is_way.binds (ps := ["thing", "many"]) fun _ _ _ _ _ _ us hl => match us, hl with | [_, _], _ => rfl
  have b_check_ways_ := F_check_ways.binds (ps := ["ways"]) fun _ _ _ _ _ _ us hl => match us, hl with | [_], _ => rfl
  have b_rows_beside_ := F_rows_beside.binds (ps := ["ways"]) fun _ _ _ _ _ _ us hl => match us, hl with | [_], _ => rfl
  have b_check_setting_ := F_check_setting.binds (ps := ["tree", "setting"]) fun _ _ _ _ _ _ us hl => match us, hl with | [_, _], _ => rfl
  have b_has_space_ := F_has_space.binds (ps := ["tree", "guards", "room", "other"]) fun _ _ _ _ _ _ us hl => match us, hl with | [_, _, _, _], _ => rfl
  have b_slides_of_ := F_slides_of.binds (ps := ["tree", "setting"]) fun _ _ _ _ _ _ us hl => match us, hl with | [_, _], _ => rfl
  have b_slides_ := F_slides.binds (ps := ["tree", "setting"]) fun _ _ _ _ _ _ us hl => match us, hl with | [_, _], _ => rfl
  have b_leaps_from_ := F_leaps_from.binds (ps := ["tree", "setting"]) fun _ _ _ _ _ _ us hl => match us, hl with | [_, _], _ => rfl
  have b_can_leap_ := F_can_leap.binds (ps := ["tree", "guards", "move"]) fun _ _ _ _ _ _ us hl => match us, hl with | [_, _, _], _ => rfl
  have b_can_slide_ := F_can_slide.binds (ps := ["tree", "guards", "move"]) fun _ _ _ _ _ _ us hl => match us, hl with | [_, _, _], _ => rfl
  have b_moved_ := F_moved.binds (ps := ["tree", "setting", "moves", "can_move"]) fun _ _ _ _ _ _ us hl => match us, hl with | [_, _, _, _], _ => rfl
  have b_slid_ := F_slid.binds (ps := ["tree", "setting", "moves"]) fun _ _ _ _ _ _ us hl => match us, hl with | [_, _, _], _ => rfl
  have b_leapt_ := F_leapt.binds (ps := ["tree", "setting", "moves"]) fun _ _ _ _ _ _ us hl => match us, hl with | [_, _, _], _ => rfl
  have b_law_draw_ := F_law_draw.binds (ps := ["well", "many"]) fun _ _ _ _ _ _ us hl => match us, hl with | [_, _], _ => rfl
  have b_law_ways_ := F_law_ways.binds (ps := ["well", "many"]) fun _ _ _ _ _ _ us hl => match us, hl with | [_, _], _ => rfl
  have b_law_near_ := F_law_near.binds (ps := ["ways"]) fun _ _ _ _ _ _ us hl => match us, hl with | [_], _ => rfl
  have b_law_setting_ := F_law_setting.binds (ps := ["well", "near"]) fun _ _ _ _ _ _ us hl => match us, hl with | [_, _], _ => rfl
  have b_law_apart_ := F_law_apart.binds (ps := ["near", "rooms"]) fun _ _ _ _ _ _ us hl => match us, hl with | [_, _], _ => rfl
  have b_law_moves_ := F_law_moves.binds (ps := ["near", "setting", "far"]) fun _ _ _ _ _ _ us hl => match us, hl with | [_, _, _], _ => rfl
  have b_law_behind_ := F_law_behind.binds (ps := ["near", "setting", "moves", "far"]) fun _ _ _ _ _ _ us hl => match us, hl with | [_, _, _, _], _ => rfl
  have b_law_row_ := F_law_row.binds (ps := ["well", "near", "setting", "far"]) fun _ _ _ _ _ _ us hl => match us, hl with | [_, _, _, _], _ => rfl
  have b_law_bent_ := F_law_bent.binds (ps := ["well", "near", "moves"]) fun _ _ _ _ _ _ us hl => match us, hl with | [_, _, _], _ => rfl
  have b_law_asked_ := F_law_asked.binds (ps := ["ask"]) fun _ _ _ _ _ _ us hl => match us, hl with | [_], _ => rfl
  have b_law_right_ := F_law_right.binds (ps := ["well"]) fun _ _ _ _ _ _ us hl => match us, hl with | [_], _ => rfl
  have b_law_ := F_law.binds (ps := ["script"]) fun _ _ _ _ _ _ us hl => match us, hl with | [_], _ => rfl
  have g_is_whole := PySem.W.mg_of X G a_is_whole
  have g_is_room := PySem.W.mg_of X G a_is_room
  have g_is_way := PySem.W.mg_of X G a_is_way
  have g_check_ways := PySem.W.mg_of X G a_check_ways
  have g_rows_beside := PySem.W.mg_of X G a_rows_beside
  have g_check_setting := PySem.W.mg_of X G a_check_setting
  have g_has_space := PySem.W.mg_of X G a_has_space
  have g_slides_of := PySem.W.mg_of X G a_slides_of
  have g_slides := PySem.W.mg_of X G a_slides
  have g_leaps_from := PySem.W.mg_of X G a_leaps_from
  have g_can_leap := PySem.W.mg_of X G a_can_leap
  have g_can_slide := PySem.W.mg_of X G a_can_slide
  have g_moved := PySem.W.mg_of X G a_moved
  have g_slid := PySem.W.mg_of X G a_slid
  have g_leapt := PySem.W.mg_of X G a_leapt
  have g_law_draw := PySem.W.mg_of X G a_law_draw
  have g_law_ways := PySem.W.mg_of X G a_law_ways
  have g_law_near := PySem.W.mg_of X G a_law_near
  have g_law_setting := PySem.W.mg_of X G a_law_setting
  have g_law_apart := PySem.W.mg_of X G a_law_apart
  have g_law_moves := PySem.W.mg_of X G a_law_moves
  have g_law_behind := PySem.W.mg_of X G a_law_behind
  have g_law_row := PySem.W.mg_of X G a_law_row
  have g_law_bent := PySem.W.mg_of X G a_law_bent
  have g_law_asked := PySem.W.mg_of X G a_law_asked
  have g_law_right := PySem.W.mg_of X G a_law_right
  have g_law := PySem.W.mg_of X G a_law
  have c_init := M_init.binds (ps := ["self", "ways"]) fun _ _ _ _ _ _ us hl => match us, hl with | [_, _], _ => rfl
  have c_len := M_len.binds (ps := ["self"]) fun _ _ _ _ _ _ us hl => match us, hl with | [_], _ => rfl
  have c_beside := M_beside.binds (ps := ["self", "room"]) fun _ _ _ _ _ _ us hl => match us, hl with | [_, _], _ => rfl
  have c_check_rooms := M_check_rooms.binds (ps := ["self", "things"]) fun _ _ _ _ _ _ us hl => match us, hl with | [_, _], _ => rfl
  have z_isinstance := PySem.W.mg_none_of X G b_isinstance
  have z_len := PySem.W.mg_none_of X G b_len
  have z_list := PySem.W.mg_none_of X G b_list
  have z_int := PySem.W.mg_none_of X G b_int
  have z_bool := PySem.W.mg_none_of X G b_bool
  have z_tuple := PySem.W.mg_none_of X G b_tuple
  have z_range := PySem.W.mg_none_of X G b_range
  have z_enumerate := PySem.W.mg_none_of X G b_enumerate
  have z_sorted := PySem.W.mg_none_of X G b_sorted
  have z_max := PySem.W.mg_none_of X G b_max
  have z_min := PySem.W.mg_none_of X G b_min
  have z_repr := PySem.W.mg_none_of X G b_repr
  have gC := PySem.W.mg_of X G aC
  have bIS := FS.binds (ps := ["self", "at"]) fun _ _ _ _ _ _ us hl => match us, hl with | [_, _], _ => rfl
  have gS := PySem.W.mg_of X G aS
  have T1 : TxT K mg C := ⟨⟨pg, hd, po, sa⟩, nW, nR, z_isinstance, z_len, z_list, z_int, z_bool⟩
  have TW : TxW K mg := ⟨z_isinstance, z_len, z_list, z_tuple, z_range, z_enumerate, ⟨_, PySem.W.mg_of X G most⟩, z_sorted⟩
  have TS : TxS K mg := ⟨z_isinstance, z_len, z_list, z_int, z_tuple, z_range, z_enumerate, z_sorted⟩
  have TL : TxL K mg := ⟨z_isinstance, z_len, z_list, z_int, z_tuple, z_range, z_enumerate, z_sorted, z_max⟩
  have o_len : FnOk l.prog w K mg base CX0 1 m_len e_len ["self"] (spLen C) := ok_len M_len T1
  have LCT : CalT l.prog w K mg base C f_is_whole m_len d_is_whole e_len := ⟨ok_whole F_is_whole T1, b_is_whole_, g_is_whole, F_is_whole.kp, o_len, c_len, i_len, n_len⟩
  have o_room := ok_room F_is_room T1 LCT
  have LCR : CalR l.prog w K mg base C f_is_room d_is_room := ⟨o_room, b_is_room_, g_is_room, F_is_room.kp⟩
  have LCC : CalC l.prog w K mg base C m_check_rooms e_check_rooms := ⟨ok_chk M_check_rooms LCR, c_check_rooms, ⟨i_check_rooms, n_check_rooms, M_check_rooms.kp⟩⟩
  have o_bes := ok_bes M_beside T1 LCC
  have L_is_room := cal_mk o_room b_is_room_ g_is_room F_is_room
  have LLT : LT l.prog w K mg base C := ⟨L_is_room, ⟨⟨m_beside, e_beside, o_bes, c_beside, ⟨i_beside, n_beside, M_beside.kp⟩⟩, T1.cl⟩, ⟨m_len, e_len, o_len, c_len, i_len, n_len⟩⟩
  have LCW : CalW l.prog w K mg base f_is_whole d_is_whole := ⟨ok_whole F_is_whole T1, b_is_whole_, g_is_whole, F_is_whole.kp⟩
  have LCV : CalV l.prog w K mg base f_is_way d_is_way := ⟨ok_isw F_is_way TW LCW, b_is_way_, g_is_way, F_is_way.kp⟩
  have LCI : CalI l.prog w K mg base f_check_ways f_rows_beside d_check_ways d_rows_beside := ⟨ok_ckw F_check_ways TW LCV, b_check_ways_, g_check_ways, F_check_ways.kp, ok_Rows F_rows_beside TW, b_rows_beside_, g_rows_beside, F_rows_beside.kp⟩
  have LTree : CalK l.prog w K mg base C "Tree" 4 ["self", "ways"] (spInit C) := ⟨m_init, e_init, ok_ini M_init T1 LCI, c_init, ⟨mk, i_init, n_init, kc⟩, gC⟩
  have L_check_setting := cal_mk (P := l.prog) (w := w) (base := base) (ok_cks F_check_setting TS LLT) b_check_setting_ g_check_setting F_check_setting
  have LTbes : CalM l.prog w K mg base C "beside" 5 ["self", "room"] (spBeside C) := ⟨⟨m_beside, e_beside, o_bes, c_beside, ⟨i_beside, n_beside, M_beside.kp⟩⟩, T1.cl⟩
  have L_has_space := cal_mk (P := l.prog) (w := w) (base := base) (ok_space F_has_space LTbes) b_has_space_ g_has_space F_has_space
  have L_slides_of := cal_mk (P := l.prog) (w := w) (base := base) (ok_slidesof F_slides_of TS LTbes L_has_space) b_slides_of_ g_slides_of F_slides_of
  have LPS : LP2 l.prog w K mg base CS fIS dIS "NoSlide" "at" := ⟨xS, nS, ok_nosl FS xS nS, bIS, gS⟩
  have L_slides := cal_mk (P := l.prog) (w := w) (base := base) (ok_slidesX F_slides L_check_setting L_slides_of) b_slides_ g_slides F_slides
  have L_leaps_from := cal_mk (P := l.prog) (w := w) (base := base) (ok_lfX F_leaps_from TS LLT L_check_setting L_has_space) b_leaps_from_ g_leaps_from F_leaps_from
  have L_can_leap := cal_mk (P := l.prog) (w := w) (base := base) (ok_canleapD F_can_leap TS L_is_room L_has_space) b_can_leap_ g_can_leap F_can_leap
  have L_can_slide := cal_mk (P := l.prog) (w := w) (base := base) (ok_canslideD F_can_slide TS LTbes L_can_leap) b_can_slide_ g_can_slide F_can_slide
  have o_cl8 := ok_canleap8 F_can_leap TS L_is_room L_has_space
  have VL : ValF l.prog w K mg base f_can_leap 8 ["tree", "guards", "move"] (spCanMove C true) := ⟨d_can_leap, o_cl8, F_can_leap.kp, b_can_leap_⟩
  have VS : ValF l.prog w K mg base f_can_slide 8 ["tree", "guards", "move"] (spCanMove C false) := ⟨d_can_slide, ok_canslideD F_can_slide TS LTbes L_can_leap, F_can_slide.kp, b_can_slide_⟩
  have XM1 : CalX l.prog w K mg base "_moved" 9 ["tree", "setting", "moves", "can_move"] (spMovedD C CS f_can_leap true) := ⟨f_moved, d_moved, ok_movedD F_moved TS L_check_setting VL LPS, b_moved_, g_moved, F_moved.kp⟩
  have XM2 : CalX l.prog w K mg base "_moved" 9 ["tree", "setting", "moves", "can_move"] (spMovedD C CS f_can_slide false) := ⟨f_moved, d_moved, ok_movedD F_moved TS L_check_setting VS LPS, b_moved_, g_moved, F_moved.kp⟩
  have o_leapt := ok_leaptX (P := l.prog) (w := w) (base := base) F_leapt XM1 g_can_leap
  have o_slid := ok_slidX (P := l.prog) (w := w) (base := base) F_slid XM2 g_can_slide
  have XLt : CalX l.prog w K mg base "leapt" 10 ["tree", "setting", "moves"] (spGoneD C CS true) := ⟨f_leapt, d_leapt, o_leapt, b_leapt_, g_leapt, F_leapt.kp⟩
  have A0 : ∀ f sp, Tell0 C f_slides f_leaps_from f sp → HeldX l.prog w K mg base CX0 8 f sp := by
    rintro f sp (⟨rfl, rfl⟩ | ⟨rfl, rfl⟩)
    · exact ⟨_, _, ok_slidesX F_slides L_check_setting L_slides_of, F_slides.kp, b_slides_⟩
    · exact ⟨_, _, ok_lfX F_leaps_from TS LLT L_check_setting L_has_space, F_leaps_from.kp, b_leaps_from_⟩
  have A1 : ∀ f sp, Tell1 C CS f_slid f_leapt f sp → HeldX l.prog w K mg base (L2.CX l.prog w) 10 f sp := by
    rintro f sp (⟨rfl, rfl⟩ | ⟨rfl, rfl⟩)
    · exact ⟨_, _, o_slid, F_slid.kp, b_slid_⟩
    · exact ⟨_, _, o_leapt, F_leapt.kp, b_leapt_⟩
  have LA : AskF l.prog w K mg "_law_asked" "ask" s__law_asked ["ask", "found", "e"] (TAskT CS) := askF_mk3 F_law_asked b_law_asked_ g_law_asked ⟨xS.ga, xS.gg, eS, xS.hd⟩ nS gS (exm_own eS hS tS sS)
  have mJ : (PJ, ("_law_right.<locals>.<lambda>" : Str)) ∈ [(PJ, ("_law_right.<locals>.<lambda>" : Str))] := List.mem_cons_self
  have uJ : ∀ p ∈ [(PJ, ("_law_right.<locals>.<lambda>" : Str))], p.1 = PJ → p.2 = ("_law_right.<locals>.<lambda>" : Str) := fun p hp e => by rw [List.mem_singleton.mp hp]
  have L_law_draw := cal_mk (P := l.prog) (w := w) (base := base) (ok_draw F_law_draw) b_law_draw_ g_law_draw F_law_draw
  have L_law_ways := cal_mk (P := l.prog) (w := w) (base := base) (ok_way F_law_ways TL L_law_draw) b_law_ways_ g_law_ways F_law_ways
  have L_law_near := cal_mk (P := l.prog) (w := w) (base := base) (ok_Near F_law_near TW) b_law_near_ g_law_near F_law_near
  have L_law_setting := cal_mk (P := l.prog) (w := w) (base := base) (ok_lset F_law_setting TL L_law_draw) b_law_setting_ g_law_setting F_law_setting
  have L_law_apart := cal_mk (P := l.prog) (w := w) (base := base) (ok_apartR F_law_apart) b_law_apart_ g_law_apart F_law_apart
  have L_law_moves := cal_mk (P := l.prog) (w := w) (base := base) (ok_lmoves F_law_moves TL L_law_apart) b_law_moves_ g_law_moves F_law_moves
  have L_law_behind := cal_mk (P := l.prog) (w := w) (base := base) (ok_behind3 F_law_behind TL z_bool L_law_moves) b_law_behind_ g_law_behind F_law_behind
  have L_law_row := cal_mk (P := l.prog) (w := w) (base := base) (ok_row3 F_law_row TL L_law_draw L_law_moves) b_law_row_ g_law_row F_law_row
  have L_law_bent := cal_mk (P := l.prog) (w := w) (base := base) (ok_bent3 F_law_bent TL L_law_draw) b_law_bent_ g_law_bent F_law_bent
  have LLR : LR3 l.prog w K mg base C CS f_slides f_leaps_from f_slid f_leapt := ⟨L_law_draw, L_law_ways, LTree, L_law_near, L_law_setting, L_law_moves, L_law_row, L_law_bent, L_law_behind, g_slides, g_leaps_from, g_slid, g_leapt, A0, A1⟩
  have GR : CalG l.prog w K mg base "_law_right" 15 ["well"] (spRight [(PJ, ("_law_right.<locals>.<lambda>" : Str))]) := ⟨f_law_right, d_law_right, ok_right F_law_right hcJ TBJ mJ uJ TL z_repr LLR LA, b_law_right_, g_law_right, F_law_right.kp⟩
  exact ok_law F_law TL GR LTree L_slides XLt
end
theorem at_mk {l : PySem.W.OpenLaw} {w : World} {K : PySem.W.Frag} {mg : Str → Option Value} {fa cJ PJ : Addr} {h : Heap} (A : ∃ fd : FuncData, (∀ (s : Shared) (v : Value), BindsTo s fd ⟨[v], []⟩ [("script", v)]) ∧ ∀ base : Heap, K.In base → base.Ns mainGlobals mg → (TabB base mg cJ PJ → FnOkG l.prog w K mg base CX0 16 fa fd ["script"] (spLaw K [(PJ, ("_law_right.<locals>.<lambda>" : Str))])))
    (t1 : h.get? PJ = some { cls := .none, data := .fields #[] }) (k1 : K.lookup PJ = none) (c1 : PySem.W.CodeHd h cJ PJ) : LawAtG l w K CX0 16 63 "script" mg fa h := by
  obtain ⟨fd, b, f⟩ := A
  have one : ∀ {Pr : Addr × Addr → Prop}, Pr (cJ, PJ) → ∀ q ∈ [(cJ, PJ)], Pr q := fun {Pr} a => List.forall_mem_cons.mpr ⟨a, fun q h => nomatch h⟩
  refine ⟨fd, [(cJ, PJ)], spLaw K [(PJ, ("_law_right.<locals>.<lambda>" : Str))], one (Pr := fun q => h.get? q.2 = some { cls := .none, data := .fields #[] }) t1, one (Pr := fun q => K.lookup q.2 = none) k1, one (Pr := fun q => PySem.W.CodeHd h q.1 q.2) c1, b, fun H a ns hn ht hs => ⟨a, ns, rfl, hs, hn, ?_, fun _ => rfl⟩, fun base i n tb => f base i n (tb _ List.mem_cons_self)⟩
  exact List.forall_mem_cons.mpr ⟨TabS.nil (ht _ List.mem_cons_self), fun q h => nomatch h⟩
theorem walk {l : PySem.W.OpenLaw} {q : Program} {loose : List Str} {XP : (Str → Option Value) → Heap → Prop} {YP : World → Heap → Prop} {d : DefRec} {K : Params → PySem.W.Frag} (hn : l.most = some 63) (hdf : d.params.defaults = [])
    (hY : ∀ (w : World) (h : Heap), YP w h → (K w.params).In h)
    (F : ∀ (w : World) (mg : Str → Option Value) (fa : Addr) (h : Heap), YP w h → (K w.params).In h → h.Ns mainGlobals mg → mg d.name = some (.ref fa) → LawAtG l w (K w.params) CX0 16 63 "script" mg fa h) :
    PySem.W.WalkO q loose XP YP l.row.toRowW d [] (fun f vs => PySem.call f vs) :=
  L2.walk_tabG (n := 63) (k := 16) (x := "script") (CX := fun _ => CX0) hn (by decide) hdf ⟨rfl, by decide, by decide⟩ hY F fun _ _ _ _ _ z => z
end G
open PySem PySem.W PyProof.Rows
set_option maxRecDepth 100000 in
set_option maxHeartbeats 0 in
theorem PySem.Challenge.cw_apartguards_k03_settings_and_moves_holds : PySem.Challenge.rw_apartguards_k03_settings_and_moves.Holds := by
  w_on; o_law; k_head; (case hw => w_witness2)
  k_fill
  refine G.walk (l := PySem.Challenge.rw_apartguards_k03_settings_and_moves) rfl rfl (fun w h Y => PySem.W.km_in_of Y) ?F
  case F =>
    intro w mg fa h Y KX GN hmg
    have hT := PySem.W.km_tabs_of Y
    refine' G.at_mk (PJ := 356) (G.all_mk KX GN hmg ?zqa_is_whole ?zqF_is_whole ?zqa_is_room ?zqF_is_room ?zqa_is_way ?zqF_is_way ?zqa_check_ways ?zqF_check_ways ?zqa_rows_beside ?zqF_rows_beside ?zqa_check_setting ?zqF_check_setting ?zqa_has_space ?zqF_has_space ?zqa_slides_of ?zqF_slides_of ?zqa_slides ?zqF_slides ?zqa_leaps_from ?zqF_leaps_from ?zqa_can_leap ?zqF_can_leap ?zqa_can_slide ?zqF_can_slide ?zqa_moved ?zqF_moved ?zqa_slid ?zqF_slid ?zqa_leapt ?zqF_leapt ?zqa_law_draw ?zqF_law_draw ?zqa_law_ways ?zqF_law_ways ?zqa_law_near ?zqF_law_near ?zqa_law_setting ?zqF_law_setting ?zqa_law_apart ?zqF_law_apart ?zqa_law_moves ?zqF_law_moves ?zqa_law_behind ?zqF_law_behind ?zqa_law_row ?zqF_law_row ?zqa_law_bent ?zqF_law_bent ?zqa_law_asked ?zqF_law_asked ?zqa_law_right ?zqF_law_right ?zqa_law ?zqF_law ?zqaC ?zqi_init ?zqn_init ?zqM_init ?zqi_len ?zqn_len ?zqM_len ?zqi_beside ?zqn_beside ?zqM_beside ?zqi_check_rooms ?zqn_check_rooms ?zqM_check_rooms ?zqpg ?zqhd ?zqpo ?zqsa ?zqmk ?zqkc ?zqnW ?zqnR ?zqmost ?zqaS ?zqxS ?zqnS ?zqFS ?zqhS ?zqtS ?zqeS ?zqsS ?zqhcJ ?zqb_isinstance ?zqb_len ?zqb_list ?zqb_int ?zqb_bool ?zqb_tuple ?zqb_range ?zqb_enumerate ?zqb_sorted ?zqb_max ?zqb_min ?zqb_repr) (hT 356 (by k_mem)) ?zqk1 ?zqc1
    (case zqa_is_whole => k_is)
    (case zqF_is_whole => (refine' L2.fun_mk (st := G.s_is_whole) ?zql ?zqc ?zqk; (case zql => k_is); (case zqc => k_is); (case zqk => k_is)))
    (case zqa_is_room => k_is)
    (case zqF_is_room => (refine' L2.fun_mk (st := G.s_is_room) ?zql ?zqc ?zqk; (case zql => k_is); (case zqc => k_is); (case zqk => k_is)))
    (case zqa_is_way => k_is)
    (case zqF_is_way => (refine' L2.fun_mk (st := G.s_is_way) ?zql ?zqc ?zqk; (case zql => k_is); (case zqc => k_is); (case zqk => k_is)))
    (case zqa_check_ways => k_is)
    (case zqF_check_ways => (refine' L2.fun_mk (st := G.s__check_ways) ?zql ?zqc ?zqk; (case zql => k_is); (case zqc => k_is); (case zqk => k_is)))
    (case zqa_rows_beside => k_is)
    (case zqF_rows_beside => (refine' L2.fun_mk (st := G.s__rows_beside) ?zql ?zqc ?zqk; (case zql => k_is); (case zqc => k_is); (case zqk => k_is)))
    (case zqa_check_setting => k_is)
    (case zqF_check_setting => (refine' L2.fun_mk (st := G.s_check_setting) ?zql ?zqc ?zqk; (case zql => k_is); (case zqc => k_is); (case zqk => k_is)))
    (case zqa_has_space => k_is)
    (case zqF_has_space => (refine' L2.fun_mk (st := G.s__has_space) ?zql ?zqc ?zqk; (case zql => k_is); (case zqc => k_is); (case zqk => k_is)))
    (case zqa_slides_of => k_is)
    (case zqF_slides_of => (refine' L2.fun_mk (st := G.s__slides_of) ?zql ?zqc ?zqk; (case zql => k_is); (case zqc => k_is); (case zqk => k_is)))
    (case zqa_slides => k_is)
    (case zqF_slides => (refine' L2.fun_mk (st := G.s_slides) ?zql ?zqc ?zqk; (case zql => k_is); (case zqc => k_is); (case zqk => k_is)))
    (case zqa_leaps_from => k_is)
    (case zqF_leaps_from => (refine' L2.fun_mk (st := G.s_leaps_from) ?zql ?zqc ?zqk; (case zql => k_is); (case zqc => k_is); (case zqk => k_is)))
    (case zqa_can_leap => k_is)
    (case zqF_can_leap => (refine' L2.fun_mk (st := G.s__can_leap) ?zql ?zqc ?zqk; (case zql => k_is); (case zqc => k_is); (case zqk => k_is)))
    (case zqa_can_slide => k_is)
    (case zqF_can_slide => (refine' L2.fun_mk (st := G.s__can_slide) ?zql ?zqc ?zqk; (case zql => k_is); (case zqc => k_is); (case zqk => k_is)))
    (case zqa_moved => k_is)
    (case zqF_moved => (refine' L2.fun_mk (st := G.s__moved) ?zql ?zqc ?zqk; (case zql => k_is); (case zqc => k_is); (case zqk => k_is)))
    (case zqa_slid => k_is)
    (case zqF_slid => (refine' L2.fun_mk (st := G.s_slid) ?zql ?zqc ?zqk; (case zql => k_is); (case zqc => k_is); (case zqk => k_is)))
    (case zqa_leapt => k_is)
    (case zqF_leapt => (refine' L2.fun_mk (st := G.s_leapt) ?zql ?zqc ?zqk; (case zql => k_is); (case zqc => k_is); (case zqk => k_is)))
    (case zqa_law_draw => k_is)
    (case zqF_law_draw => (refine' L2.fun_mk (st := G.s__law_draw) ?zql ?zqc ?zqk; (case zql => k_is); (case zqc => k_is); (case zqk => k_is)))
    (case zqa_law_ways => k_is)
    (case zqF_law_ways => (refine' L2.fun_mk (st := G.s__law_ways) ?zql ?zqc ?zqk; (case zql => k_is); (case zqc => k_is); (case zqk => k_is)))
    (case zqa_law_near => k_is)
    (case zqF_law_near => (refine' L2.fun_mk (st := G.s__law_near) ?zql ?zqc ?zqk; (case zql => k_is); (case zqc => k_is); (case zqk => k_is)))
    (case zqa_law_setting => k_is)
    (case zqF_law_setting => (refine' L2.fun_mk (st := G.s__law_setting) ?zql ?zqc ?zqk; (case zql => k_is); (case zqc => k_is); (case zqk => k_is)))
    (case zqa_law_apart => k_is)
    (case zqF_law_apart => (refine' L2.fun_mk (st := G.s__law_apart) ?zql ?zqc ?zqk; (case zql => k_is); (case zqc => k_is); (case zqk => k_is)))
    (case zqa_law_moves => k_is)
    (case zqF_law_moves => (refine' L2.fun_mk (st := G.s__law_moves) ?zql ?zqc ?zqk; (case zql => k_is); (case zqc => k_is); (case zqk => k_is)))
    (case zqa_law_behind => k_is)
    (case zqF_law_behind => (refine' L2.fun_mk (st := G.s__law_behind) ?zql ?zqc ?zqk; (case zql => k_is); (case zqc => k_is); (case zqk => k_is)))
    (case zqa_law_row => k_is)
    (case zqF_law_row => (refine' L2.fun_mk (st := G.s__law_row) ?zql ?zqc ?zqk; (case zql => k_is); (case zqc => k_is); (case zqk => k_is)))
    (case zqa_law_bent => k_is)
    (case zqF_law_bent => (refine' L2.fun_mk (st := G.s__law_bent) ?zql ?zqc ?zqk; (case zql => k_is); (case zqc => k_is); (case zqk => k_is)))
    (case zqa_law_asked => k_is)
    (case zqF_law_asked => (refine' L2.fun_mk (st := G.s__law_asked) ?zql ?zqc ?zqk; (case zql => k_is); (case zqc => k_is); (case zqk => k_is)))
    (case zqa_law_right => k_is)
    (case zqF_law_right => (refine' L2.fun_mk (st := G.s__law_right) ?zql ?zqc ?zqk; (case zql => k_is); (case zqc => k_is); (case zqk => k_is)))
    (case zqa_law => k_is)
    (case zqF_law => (refine' L2.fun_mk (st := G.s_law) ?zql ?zqc ?zqk; (case zql => k_is); (case zqc => k_is); (case zqk => k_is)))
    (case zqaC => k_is)
    (case zqi_init => k_is)
    (case zqn_init => k_is)
    (case zqM_init => (refine' L2.fun_mk (st := G.s_Tree___init__) ?zql ?zqc ?zqk; (case zql => k_is); (case zqc => k_is); (case zqk => k_is)))
    (case zqi_len => k_is)
    (case zqn_len => k_is)
    (case zqM_len => (refine' L2.fun_mk (st := G.s_Tree___len__) ?zql ?zqc ?zqk; (case zql => k_is); (case zqc => k_is); (case zqk => k_is)))
    (case zqi_beside => k_is)
    (case zqn_beside => k_is)
    (case zqM_beside => (refine' L2.fun_mk (st := G.s_Tree_beside) ?zql ?zqc ?zqk; (case zql => k_is); (case zqc => k_is); (case zqk => k_is)))
    (case zqi_check_rooms => k_is)
    (case zqn_check_rooms => k_is)
    (case zqM_check_rooms => (refine' L2.fun_mk (st := G.s_Tree__check_rooms) ?zql ?zqc ?zqk; (case zql => k_is); (case zqc => k_is); (case zqk => k_is)))
    (case zqpg => k_is)
    (case zqhd => k_is)
    (case zqpo => k_is)
    (case zqsa => k_is)
    (case zqmk => k_is)
    (case zqkc => k_is)
    (case zqnW => k_is)
    (case zqnR => k_is)
    (case zqmost => k_is)
    (case zqaS => k_is)
    (case zqxS => (refine' G.xv_mk ?zqxL ?zqhb ?zqsa2 ?zqex ?zqty ?zqkC ?zqiC ?zqtI ?zqga ?zqgg ?zqhd2 ?zqhcl ?zqkl ?zqsp ?zqtk ?zqmo; (case zqxL => k_is); (case zqhb => decide +kernel); (case zqsa2 => k_is); (case zqex => k_is); (case zqty => k_is); (case zqkC => k_is); (case zqiC => k_is); (case zqtI => k_is); (case zqga => k_is); (case zqgg => k_is); (case zqhd2 => k_is); (case zqhcl => k_is); (case zqkl => k_is); (case zqsp => k_is); (case zqtk => k_is); (case zqmo => k_is)))
    (case zqnS => k_is)
    (case zqFS => (refine' L2.fun_mk (st := G.s_NoSlide___init__) ?zql ?zqc ?zqk; (case zql => k_is); (case zqc => k_is); (case zqk => k_is)))
    (case zqhS => k_is)
    (case zqtS => k_is)
    (case zqeS => k_is)
    (case zqsS => k_is)
    (case zqhcJ => rfl)
    (case zqb_isinstance => k_is)
    (case zqb_len => k_is)
    (case zqb_list => k_is)
    (case zqb_int => k_is)
    (case zqb_bool => k_is)
    (case zqb_tuple => k_is)
    (case zqb_range => k_is)
    (case zqb_enumerate => k_is)
    (case zqb_sorted => k_is)
    (case zqb_max => k_is)
    (case zqb_min => k_is)
    (case zqb_repr => k_is)
    (case zqk1 => first | k_is | kernel_rfl | rfl)
    (case zqc1 => exact PySem.W.codeHd_of_K KX (by first | kernel_rfl | k_is | rfl))
