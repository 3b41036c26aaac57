import PyProof.Rows.All
import Wide.All
import OpenK.AllK
import Wide.FinOn
import HandS.ForExc
import HandS.ExcInit
import HandS.IsInst
import HandS.Defaults
import HandS.ExcValue
import KE.KExcIs
import HandS.ForMost
import HandS.Walk
import PySem.Challenge.RW_apartguards_k16_what_refusals_are
set_option Elab.async false
set_option linter.all false
set_option maxRecDepth 100000
set_option maxHeartbeats 4000000
/-! Own exceptions with an __init__ of their own as plain values: made by place or by names, their fields read, asked by isinstance. -/
namespace PySem
namespace XV
open PySem.W PySem.Calls PyProof.Rows PySem.HandSPX
section
variable {M : Model} {A : Around} {E : Value → Shared → Prop} {h : Heap} {g : Array GenState} {d : Drawn} {t : Nat} {os : OsState}
variable {nm q : Str} {C N : Addr} {bs bm bmB : List Value} {hdct : Bool} {sn : List Str} {sub : List Value} {ab : Bool} {col : Option Bool} {dd : Option Addr} {k0 k1 k2 k3 k5 : Option Value} {B newId initId : String}
theorem check_newK (F : ExcBaseFacts B newId initId bmB) (hT : ∀ X : String, bm.contains (.type X) = bmB.contains (.type X)) {rest : List Value} {kw : List (Str × Value)} {Q : Unit → Shared → Prop}
    (hC : h.get? C = some (excClassObj nm q C N bs bm hdct sn sub ab col dd k0 k1 k2 k3 k5 newId)) (hq : Q () ⟨h, g, d, t, os⟩) : wpAny M A (checkBuiltinCall newId ⟨.ref C :: rest, kw⟩) Q E ⟨h, g, d, t, os⟩ := by
  have hcont : (Value.ref C :: bm).contains (.type B) = true := by rw [List.contains_cons, hT, F.hasB, Bool.or_true]
  have hstar := F.noStar
  simp only [checkBuiltinCall, F.newKind, F.newSplit, F.newRow]
  repeat (first | refine wpAny_loadPart_at hC ?_ | (refine wpAny_isSubtype_exc hC ?_; rw [hcont]) | refine wpAny_staticBase_exc hC ?_ | refine wpAny_madeBy_exc hC ?_ | simp only [bne_self_eq_false, Bool.false_eq_true, if_false] | wp_step)
  exact hq
end
section
variable {prog : Program} {w : World} {A : Around} {E : Value → Shared → Prop} {R : Result → Shared → Prop} {h : Heap} {g : Array GenState} {d : Drawn} {t : Nat} {os : OsState}
variable {nm q : Str} {C N : Addr} {bs bm bmB : List Value} {hdct : Bool} {sn : List Str} {sub : List Value} {ab : Bool} {col : Option Bool} {dd : Option Addr} {k0 k1 k2 k3 k5 : Option Value} {B newId initId : String}
theorem new_K (F : ExcBaseFacts B newId initId bmB) (hT : ∀ X : String, bm.contains (.type X) = bmB.contains (.type X)) {rest : List Value} {kw : List (Str × Value)}
    (hC : h.get? C = some (excClassObj nm q C N bs bm hdct sn sub ab col dd k0 k1 k2 k3 k5 newId))
    (hq : R (.ok (.ret (.ref (h.objs.size + 1)))) ⟨(h.push { cls := .type "tuple", data := .seq rest.toArray }).push
      { cls := .ref C, data := .fields #[.ref h.objs.size, .none, .none, .none, .bool false, .none] }, g, d, t, os⟩) (hrest : rest.length ≤ sizeLine) :
    codeAny (model prog w) A (.builtin newId ⟨.ref C :: rest, kw⟩) R ⟨h, g, d, t, os⟩ := by
  have hends := F.ends
  have hcB : (Value.ref C :: bm).contains (.type B) = true := by rw [List.contains_cons, hT, F.hasB, Bool.or_true]
  have hcA : (Value.ref C :: bm).contains (.type "AttributeError") = false := by rw [List.contains_cons, hT, F.noAttr]; rfl
  have hcN : (Value.ref C :: bm).contains (.type "NameError") = false := by rw [List.contains_cons, hT, F.noName]; rfl
  refine codeAny_builtinAt F.entry ?_
  unfold Builtin.«BaseException.__new__»
  refine wpAt_bind ?_
  show wpAt _ _ _ (stack >>= _) _ _ _
  refine wpAt_bind (wpAt_stack fun p below => wpAt_of_wpAny ?_)
  wp_walk
  refine wpAt_of_wpAny ?_
  rw [F.owner]
  repeat (first | with_reducible refine wpAny_madeHere_exc F.canon hC ?_ | with_reducible refine wpAny_loadPart_at hC ?_ | (with_reducible refine wpAny_isSubtype_exc hC ?_; first | rw [hcB] | rw [hcA] | rw [hcN]) | wp_step)
  show R _ _
  rw [Heap.size_push]
  exact hq
theorem type_call_K (F : ExcBaseFacts B newId initId bmB) (hT : ∀ X : String, bm.contains (.type X) = bmB.contains (.type X)) {rest : List Value} {kw : List (Str × Value)} {fI : Addr} {Q : Fin → Shared → Prop}
    (hC : h.get? C = some (excClassObj nm q C N bs bm hdct sn sub ab col dd k0 k1 k2 k3 k5 newId))
    (hi : W.Looks (model prog w) h (typeLookup (.ref C) "__init__") (some (.ref fI))) (hb : ∀ self, W.Looks (model prog w) h (bindSpecial (.ref fI) self) (.ref fI, [self])) (hrest : rest.length ≤ sizeLine)
    (hq : codeAny (model prog w) A (.call (.ref fI) ⟨.ref (h.objs.size + 1) :: rest, kw⟩)
      (fun r s' => match r with | .ok (.ret v) => v = .none ∧ Q (.done (.ret (.ref (h.objs.size + 1)))) s' | .ok _ => False | .error e => E e s')
      ⟨(h.push (W.kdv_tup rest)).push (excO C h.objs.size), g, d, t, os⟩) :
    wpAny (model prog w) A (Builtin.«type.__call__» ⟨.ref C :: rest, kw⟩) Q E ⟨h, g, d, t, os⟩ := by
  repeat (first | with_reducible refine wpAny_loadPart_at hC ?_ | with_reducible refine wpAny_madeBy_exc hC ?_ | wp_step)
  refine codeAny_call_builtin_code (Code.quiet_builtin _ F.quiet) (check_newK F hT hC ?_)
  refine new_K F hT hC ?_ hrest
  show wpAny _ _ _ _ _ _
  have k : ∀ b o, h.get? b = some o → ((h.push (W.kdv_tup rest)).push (excO C h.objs.size)).get? b = some o := fun b o e => Heap.get?_push_of_some _ (Heap.get?_push_of_some _ e)
  have hC₁ := k _ _ hC
  have hget : ((h.push (W.kdv_tup rest)).push (excO C h.objs.size)).get? (h.objs.size + 1) = some (excO C h.objs.size) := by heap_get
  have hcC : (Value.ref C :: bm).contains (.ref C) = true := by simp
  have i1 := hi.keeps k
  have b1 := (hb (.ref (h.objs.size + 1))).keeps k
  unfold isInstance
  repeat (first | with_reducible refine wpAny_loadPart_at hget ?_ | (with_reducible refine wpAny_isSubtype_exc hC₁ ?_; rw [hcC]) | wp_step)
  show wpAny _ _ (typeLookup (.ref C) _) _ _ _
  refine i1.at ?_
  refine wpAny_holding (wpAny_bind (b1.at ?_))
  refine wpAny_bind (wpAny_call (codeAny_mono hq fun r s' z => ?_))
  rcases r with e | (v | _ | _ | _) <;> first | exact z | exact z.elim | skip
  obtain ⟨rfl, z⟩ := z
  first
    | exact wpAny_pure (wpAny_pure z)
    | (wp_walk; exact z)
theorem call_K (F : ExcBaseFacts B newId initId bmB) (hT : ∀ X : String, bm.contains (.type X) = bmB.contains (.type X)) {rest : List Value} {kw : List (Str × Value)} {fI : Addr}
    (hC : h.get? C = some (excClassObj nm q C N bs bm hdct sn sub ab col dd k0 k1 k2 k3 k5 newId))
    (hi : W.Looks (model prog w) h (typeLookup (.ref C) "__init__") (some (.ref fI))) (hb : ∀ self, W.Looks (model prog w) h (bindSpecial (.ref fI) self) (.ref fI, [self])) (hrest : rest.length ≤ sizeLine)
    (hq : codeAny (model prog w) (A.under (.builtin "type.__call__" ⟨.ref C :: rest, kw⟩)) (.call (.ref fI) ⟨.ref (h.objs.size + 1) :: rest, kw⟩) (W.InitBack (h.objs.size + 1) R)
      ⟨(h.push (W.kdv_tup rest)).push (excO C h.objs.size), g, d, t, os⟩) :
    codeAny (model prog w) A (.call (.ref C) ⟨rest, kw⟩) R ⟨h, g, d, t, os⟩ := by
  have f1 := tc_lookup
  have f2 := tc_bind (.ref C)
  have hTy : (⟨h, g, d, t, os⟩ : Shared).TypeIs (.ref C) "type" := ⟨_, hC, rfl⟩
  refine codeAny_of_tree ?_
  show wpAny _ _ (callAny (.ref C) _) _ _ _
  repeat (any_goals (first | assumption | with_reducible refine wpAny_loadPart_at hC ?_ | wp_step))
  refine ⟨rfl, ?_⟩
  refine codeAny_call_builtin_at (Code.quiet_builtin _ (by decide +kernel)) entry_typeCall (wpAny_check_type_call_sub hC (type_call_K F hT hC hi hb hrest ?_))
  refine codeAny_mono hq fun r s' z => ?_
  rcases r with e | (v | _ | _ | _) <;> exact z
end
end XV
end PySem

namespace L2
open PySem PySem.Spec PyProof.Rows
/-- all that an own exception class with an __init__ says in the written part -/
structure XvC (K : PySem.W.Frag) (C fI : Addr) : Prop where
  ox : OexC K C
  iC : PySem.W.findIn K (.ref C) "__init__" = some (some (.ref fI))
  tI : PySem.W.typeIn K (.ref fI) = some (.type "function")
  ga : PySem.W.findIn K (.ref C) "__getattribute__" = some (some (.builtin "BaseException.__getattribute__"))
  gg : PySem.W.findIn K (.ref C) "__getattr__" = some none
  hd : PySem.W.hasDictIn K C = true
  hcl : (PySem.W.clsIn K C).isSome = true
  kl : PySem.W.findIn K (.ref C) "__class__" = some (some (.builtin "object.__class__"))
  sp : PySem.W.specialIn K (.builtin "object.__class__") "__get__" = some (some (.builtin "getset_descriptor.__get__"))
  tk : PySem.W.takesIn K (.builtin "object.__class__") = some true
  mo : PySem.W.mroIn K C (.type "object") = some true
/-- C(e, .., k = v, ..) as a value -/
def tNewX (C : Addr) (n m : Nat) (sp : Sp) (gV : List V → List V → List V) (t tk : TA) : TE := fun σ H Q => t σ H fun vs H1 => tk σ H1 fun zs H2 => vs.length = n ∧ zs.length = m ∧ n ≤ 1000 ∧
  ∀ a, H2 a = none → sp (gV (.ref a :: vs) zs) (upd H2 a (exo a C none)) (fun v H3 => v = .non ∧ Q (.ref a) H3) E0
section
variable {X : Cx} {CX : CXT} {k n : Nat} {fI C : Addr} {fd : FuncData} {ps ks : List Str} {sp : Sp} {x f : Str} {p pos : Pos} {e : Expr} {es : List Expr} {kws : List Keyword} {te : TE} {t tk : TA} {g : List Value → List Value → List Value} {gV : List V → List V → List V}
theorem run_newX {pins : List (Addr × Obj)} {σ : St} {H : Hp} {s : Shared} {Q : VK} {us ws : List Value} {vs zs : List V} (T : XvC X.K C fI) (F1 : FnOk X.prog X.w X.K X.mg X.base CX k fI fd ps sp) (hr : Room (k + 1) X.A) (hb : KBn X.K fd ps (n + 1) ks g gV)
    (hx : Passes CX X E0) (I1 : Inv X pins σ H s) (r : Vals vs us) (rz : Vals zs ws) (l1 : vs.length = n) (l2 : zs.length = ks.length) (hn : n ≤ 1000)
    (h : ∀ a, H a = none → sp (gV (.ref a :: vs) zs) (upd H a (exo a C none)) (fun v H3 => v = .non ∧ Q (.ref a) H3) E0) :
    wpAny (model X.prog X.w) X.A (call (.ref C) us (ks.zip ws)) (EP X pins σ Q) X.xe s := by
  obtain ⟨nm, q, N, bs, bm, sn, sub, ab, col, dd, k0, k1, k2, k3, k5, hC, hbm⟩ := T.ox.cls
  obtain ⟨hp, gg, dr, tk, os⟩ := s
  have hsz : hp.objs.size ≤ hp.objs.size + 1 := Nat.le_succ _
  have hq := h (hp.objs.size + 1) (I1.hok.fresh hsz)
  have kk : ∀ b o, hp.get? b = some o → ((hp.push (PySem.W.kdv_tup us)).push (PySem.HandSPX.excO C hp.objs.size)).get? b = some o := fun b o e => Heap.get?_push_of_some _ (Heap.get?_push_of_some _ e)
  have hget : ((hp.push (PySem.W.kdv_tup us)).push (PySem.HandSPX.excO C hp.objs.size)).get? (hp.objs.size + 1) = some (PySem.HandSPX.excO C hp.objs.size) := by heap_get
  have I2 : Inv X pins σ (upd H (hp.objs.size + 1) (exo (hp.objs.size + 1) C none)) ⟨(hp.push (PySem.W.kdv_tup us)).push (PySem.HandSPX.excO C hp.objs.size), gg, dr, tk, os⟩ :=
    I1.laid (t' := tk) (a := hp.objs.size + 1) (o := exo (hp.objs.size + 1) C none) (h' := (hp.push (PySem.W.kdv_tup us)).push (PySem.HandSPX.excO C hp.objs.size)) kk hsz (exo_ok hget)
  have r1 : Vals (V.ref (hp.objs.size + 1) :: vs) (Value.ref (hp.objs.size + 1) :: us) := .cons rfl r
  have r2 := hb.rel r1 rz
  have e1 : (Value.ref (hp.objs.size + 1) :: us).length = n + 1 := r1.length.symm.trans (congrArg Nat.succ l1)
  have e2 : ws.length = ks.length := rz.length.symm.trans l2
  have hus : us.length ≤ sizeLine := by
    rw [← r.length, sizeLine_eq]
    omega
  refine wpAny_call (PySem.XV.call_K F.excBase_ValueError (fun Y => PySem.HandSPX.refsVE_contains Y bm hbm) (I1.kIn _ _ hC) (PySem.W.looks_findIn I1.kIn T.iC) (fun self => PySem.W.bind_fn I1.kIn self T.tI) hus
    (codeAny_mono (F1.run _ X.stack _ _ ⟨Value.ref (hp.objs.size + 1) :: us, ks.zip ws⟩ (g (Value.ref (hp.objs.size + 1) :: us) ws) _ _ E0 (hr.make C us (ks.zip ws))
      (I2.env0.make C us (ks.zip ws)) (hb.to _ (Value.ref (hp.objs.size + 1) :: us) ws I2.kIn e1 e2) r2 hq) fun r s' hq' => ?_))
  cases r with
  | error e => exact hx pins σ _ _ e s' I2 hq'
  | ok fl =>
    cases fl with
    | ret u =>
      obtain ⟨v, H', I3, rv, ev, q3⟩ := I2.after hq'
      subst ev
      exact ⟨rv, ⟨V.ref (hp.objs.size + 1), H', I3, rfl, q3⟩⟩
    | next => exact False.elim hq'
    | brk => exact False.elim hq'
    | cont => exact False.elim hq'
/-- C(k = v, ..) -/
theorem pe_newXK (T : XvC X.K C fI) (F : FnOk X.prog X.w X.K X.mg X.base CX k fI fd ps sp) (hr : Room (k + 1) X.A) (hg : Gl X x) (hm : X.mg x = some (.ref C)) (hb : KBn X.K fd ps 1 ks g gV) (hx : Passes CX X E0) (hkw : PK X kws tk)
    (hall : (backToKw pos (keywordEach kws X.env)).all (·.1.isSome) = true := by rfl) (hks : (backToKw pos (keywordEach kws X.env)).filterMap (·.1) = ks := by rfl) (hdb : (x == ("__debug__" : Str)) = false := by decide)
    (hpl : ((backTo pos (starEach [] X.env)).any (·.1) || (backToKw pos (keywordEach kws X.env)).any (·.1.isNone)) = false := by rfl) :
    PE X (.Call (.Name x p) [] kws pos) (tNewX C 0 ks.length sp gV tNil tk) := by
  refine ⟨fun pins s σ H Q I h => ?_⟩
  refine wpAny_Call_Name_kw (ld_glob I hg hm ?_ hdb)
  refine PySem.W.callWith_KW0 (h₀ := X.base) I.ok.mod.kin T.ox.kC hall ?_ hpl
  refine thn (hkw.run pos pins s σ H _ I h) fun ws s2 ⟨zs, H2, I2, rz, l1, l2, l3, q2⟩ => ⟨I2.kIn, ?_⟩
  rw [hks]
  exact run_newX (us := []) (vs := []) T F hr hb hx I2 .nil rz rfl l2 (Nat.zero_le _) q2
/-- C(e, ..) -/
theorem pe_newX (T : XvC X.K C fI) (F : FnOk X.prog X.w X.K X.mg X.base CX k fI fd ps sp) (hr : Room (k + 1) X.A) (hg : Gl X x) (hm : X.mg x = some (.ref C)) (hb : KBn X.K fd ps (n + 1) [] g gV) (hx : Passes CX X E0) (ha : PA X (e :: es) t)
    (hdb : (x == ("__debug__" : Str)) = false := by decide) (he : starEach (e :: es) X.env = (false, eval e X.env) :: starEach es X.env := by rfl) (hpl : (backTo pos (starEach es X.env)).any (·.1) = false := by rfl) :
    PE X (.Call (.Name x p) (e :: es) [] pos) (tNewX C n 0 sp gV t tNil) := by
  refine ⟨fun pins s σ H Q I h => ?_⟩
  refine wpAny_Call_Name_kw (ld_glob I hg hm ?_ hdb)
  refine PySem.W.callWith_K (h₀ := X.base) I.ok.mod.kin T.ox.kC (thn (ha.run pos pins s σ H _ I h) fun us s1 ⟨vs, H1, I1, r, l1, l2, l3, q⟩ => ⟨I1.kIn, ?_⟩) he hpl
  exact run_newX (ks := []) (ws := []) (zs := []) T F hr hb hx I1 r .nil l1 rfl l3 q
/-- e.f, e such an exception -/
def tXvF (K : PySem.W.Frag) (f : Str) (te : TE) : TE := fun σ H Q => te σ H fun x H1 => ∃ (a C fI d : Addr) (fs : List (Str × V)) (v : V), x = .ref a ∧ XvC K C fI ∧ PySem.W.findIn K (.ref C) f = some none ∧ H1 a = some (exo a C (some d)) ∧ H1 d = some (exd d fs) ∧ fs.lookup f = some v ∧ Q v H1
theorem pe_xvf (he : PE X e te) (hb : attributeBase e f X.env (eval e X.env) = eval e X.env := by rfl) : PE X (.Attribute e f pos) (tXvF X.K f te) := by
  refine ⟨fun pins s σ H Q I h => ?_⟩
  refine attr_of hb (thn (he.run pins s σ H _ I h) fun u s1 hh => ?_)
  obtain ⟨x, H1, I1, rx, a, C, fI, d, fs, v, ex, T, hno, ea, ed, l, q⟩ := hh
  subst ex
  obtain rfl : u = Value.ref a := rx
  obtain ⟨t1, ho⟩ := exo_at I1.hok ea
  obtain ⟨mA, hns, hr⟩ := exd_at I1.hok ed
  obtain ⟨od, hd, hl⟩ := lookIn_ns hns
  obtain ⟨u, hu, ru⟩ := RelO.some_of (v := v) (o := mA f) (by rw [← l]; exact hr f)
  have J : PySem.W.InstAt s1.heap a _ C (some od) := ⟨ho, rfl, rfl, hd⟩
  exact HandSPX.exc_get I1.kIn J T.ga T.gg T.ox.exC (PySem.W.findObj_own T.hd hno rfl (by rw [hl, hu])) (handed_of ru) ⟨v, H1, I1.tok _, ru, q⟩
/-- isinstance(e, c), e such an exception -/
def rIsXv (K : PySem.W.Frag) : List V → Hp → VK → Prop := fun xs H Q => ∃ (a C fI d : Addr) (fs : List (Str × V)) (c : V) (u : Value) (b : Bool), xs = [.ref a, c] ∧ XvC K C fI ∧ H a = some (exo a C (some d)) ∧ H d = some (exd d fs) ∧ ClsV c u ∧ PySem.W.kitOne K (.ref C) u = some b ∧ Q (.bl b) H
theorem call_isXv : CallR X (.builtin "isinstance") (rIsXv X.K) := by
  intro pins s σ H xs us Q I r h
  obtain ⟨a, C, fI, d, fs, c, u, b, rfl, T, ea, ed, k, e, q⟩ := h
  obtain ⟨u1, u2, rfl, r1, r2⟩ := vals2 r
  have e2 := k.eq r2
  subst e2
  obtain rfl : u1 = Value.ref a := r1
  obtain ⟨t1, ho⟩ := exo_at I.hok ea
  obtain ⟨mA, hns, hr⟩ := exd_at I.hok ed
  obtain ⟨od, hd, hl⟩ := lookIn_ns hns
  have J : PySem.W.InstAt s.heap a _ C (some od) := ⟨ho, rfl, rfl, hd⟩
  exact PySem.W.kia_one (PySem.W.kitx_exc T.hcl T.ga T.gg T.ox.exC T.kl T.sp T.tk T.mo) I.kIn J e (fun z => nomatch z) fun tk => ⟨.bl b, H, I.tok tk, rfl, q⟩
/-- at a: an exception of the built-in class T, not raised -/
def exb (T : String) (a : Addr) : HO := .ext fun h => ∃ o : Obj, h.get? a = some o ∧ o.cls = .type T
/-- T(e, ..) as a value -/
theorem pe_exb {T N I : String} (F : ExcCallFacts T N I) (hg : Gl X x) (hm : X.mg x = none) (hv : bootBuiltins x = some (.type T)) (ha : PA X (e :: es) t) (hn : x ≠ "__name__" := by decide) (hdb : (x == ("__debug__" : Str)) = false := by decide)
    (he : starEach (e :: es) X.env = (false, eval e X.env) :: starEach es X.env := by rfl) (hpl : (backTo pos (starEach es X.env)).any (·.1) = false := by rfl) :
    PE X (.Call (.Name x p) (e :: es) [] pos) (fun σ H Q => t σ H fun vs H1 => vs.length ≤ sizeLine ∧ ∀ a, H1 a = none → Q (.ref a) (upd H1 a (exb T a))) := by
  refine ⟨fun pins s σ H Q J h => ?_⟩
  refine wpAny_Call_Name_kw (ld_blt J hg hm hv ?_ hn hdb)
  refine PyProof.Rows.callWith_type1 (thn (ha.run pos pins s σ H _ J h) fun us s1 hh => ?_) he hpl
  obtain ⟨vs, H1, I1, r1, q0, q1⟩ := hh
  obtain ⟨hp1, g1, d1, tk1, os1⟩ := s1
  refine wpAny_call_exc F (fun h' a mk => ?_) (Nat.le_trans (Nat.le_of_eq r1.length.symm) q0)
  obtain ⟨t0, ht, _, _⟩ := mk.there
  have hna : H1 a = none := I1.hok.gone mk.new
  refine ⟨.ref a, upd H1 a (exb T a), I1.laidN mk.keeps mk.new hna ?_, rfl, q1 a hna⟩
  exact ⟨⟨_, ht, rfl⟩, ⟨_, ht⟩, fun h1 h2 ⟨o, z1, z2⟩ k => ⟨o, k _ z1, z2⟩⟩
def rIsXb (K : PySem.W.Frag) (T : String) : List V → Hp → VK → Prop := fun xs H Q => ∃ (a : Addr) (c : V) (u : Value) (b : Bool), xs = [.ref a, c] ∧ H a = some (exb T a) ∧ ClsV c u ∧ PySem.W.kitOne K (.type T) u = some b ∧ Q (.bl b) H
theorem call_isXb {T : String} (FX : ExcAttrFacts T) (lk : typeLookup (.type T) "__class__" = pure (some (.builtin "object.__class__"))) (so : isSubtype (.type T) (.type (".".intercalate ("object.__class__".cutAt '.').dropLast)) = pure true) (nb : (Value.type T == Value.type "builtin_function_or_method") = false) :
    CallR X (.builtin "isinstance") (rIsXb X.K T) := by
  intro pins s σ H xs us Q I r h
  obtain ⟨a, c, u, b, rfl, ea, k, e, q⟩ := h
  obtain ⟨u1, u2, rfl, r1, r2⟩ := vals2 r
  have e2 := k.eq r2
  subst e2
  obtain rfl : u1 = Value.ref a := r1
  obtain ⟨⟨o, h1, h2⟩, _⟩ := (show ObjOk X.prog X.w H s.heap a (.ext fun h => ∃ o : Obj, h.get? a = some o ∧ o.cls = .type T) from I.hok a _ ea)
  exact PySem.W.kia_one (PySem.W.kitx_bexc FX lk so nb) I.kIn ⟨o, h1, h2⟩ e (fun z => nomatch z) fun tk => ⟨.bl b, H, I.tok tk, rfl, q⟩
end
end L2

/-! What else the layer wants: lists joined wherever they are read from. -/
namespace L2
open PySem PySem.Spec PyProof.Rows
def rCatR (K : PySem.W.Frag) : R2 := fun x y H Q => ∃ l b xs zs, x = .ref l ∧ y = .ref b ∧ SqL K H l xs ∧ SqL K H b zs ∧ xs.length + zs.length ≤ sizeLine ∧ ∀ p, H p = none → Q (.ref p) (upd H p (.lst (xs ++ zs)))
theorem op_catR {X : Cx} : OpR X (binaryOp .Add) (rCatR X.K) := by
  intro pins s σ H x y v u Q I rx ry h
  obtain ⟨l, b, xs, zs, rfl, rfl, hH, hB, hz, q⟩ := h
  cases rx
  cases ry
  obtain ⟨its, r, ⟨o, n, e, c1, c2, c3⟩, hl⟩ := I.list hH
  obtain ⟨its2, r2, ⟨o2, n2, e2, d1, d2, d3⟩, hl2⟩ := I.list hB
  have l1 := r.length
  have l2 := r2.length
  obtain ⟨cls, dd, data, sl⟩ := o
  obtain ⟨cls2, dd2, data2, sl2⟩ := o2
  simp only at c1 c2 c3 d1 d2 d3
  subst c1 c2 c3 d1 d2 d3
  refine concat_meets ⟨_, e, rfl⟩ ⟨_, e2, rfl⟩ noFill_list_add seq_list_add PySem.F.slot_list_add PySem.F.entry_list_add (PySem.F.args_list_add_2 _ _) (list_addW l b its.toArray its2.toArray n n2 none none sl sl2 (by rw [List.size_toArray, List.size_toArray]; omega)) ⟨e, e2, ?_⟩
  have ea : its.toArray ++ its2.toArray = (its ++ its2).toArray := by simp
  rw [ea]
  exact ⟨.ref _, _, I.lnew (t' := s.toks) (r.append r2) (by rw [List.length_append]; omega), rfl, q _ I.fresh⟩
/-- data that is equal to itself -/
theorem same_ne {K : PySem.W.Frag} {H : Hp} {Q : VK} {x y : V} {d : PyData} (hx : Dp K H x d) (hy : Dp K H y d) (s : SeqAt.shaped d = true) (h : Q (.bl false) H) : rNeD K x y H Q :=
  ⟨d, d, hx, hy, s, s, by rw [SeqAt.eqv_refl d (SeqAt.canLay_of_shaped s)]; exact h⟩
end L2
namespace L2
/-- a new object: the heap behind it by a name of its own -/
theorem nw {H : Hp} {o : HO} {R : V → Hp → Prop} (h : ∀ H1 p, H p = none → Same H H1 → H1 p = some o → R (.ref p) H1) : ∀ p, H p = none → R (.ref p) (upd H p o) := fun p n =>
  h _ p n (fun b u e => by
    rw [upd_ne (ne_of_none e n)]
    exact e) upd_same
end L2

namespace G16
open PySem L2
def top (i : Nat) : Stmt := PySem.Challenge.pw_apartguards_k16_what_refusals_are.main.body.getD i (.Pass ⟨0, 0, 0, 0⟩)
/-- the nine classes: 0 NoTree, 1 NoRoom, 2 NoSetting, 3 NoSlide, 4 NoPaper, 5 Locked, 6 TooMany, 7 NoLane, 8 Unlike (the law's order) -/
abbrev sDraw : Stmt := top 12
abbrev sTaken : Stmt := top 13
abbrev sPlace : Stmt := top 14
abbrev sName : Stmt := top 15
abbrev sFields : Stmt := top 16
abbrev sRight : Stmt := top 17
abbrev sLaw : Stmt := top 18
/-! ### promises -/
def spDraw : Sp := fun vs H Q _ => ∃ (a : Addr) (w0 w1 w2 cap : Int), vs = [.ref a, .int cap] ∧ H a = some (.lst [.int w0, .int w1, .int w2]) ∧ 0 < cap ∧ cap < 1073741824 ∧ -(2 ^ 40) < w1 ∧ w1 < 2 ^ 40 ∧ 0 ≤ w2 ∧ w2 < 2 ^ 20 ∧
  ∀ (z w0' w2' : Int), 0 ≤ z → z < cap → w2 ≤ w2' → w2' ≤ w2 + 1 → Q (.int z) (upd H a (.lst [.int w0', .int w1, .int w2']))
section
variable {P : Program} {w : World} {K : PySem.W.Frag} {mg : Str → Option Value} {base : Heap}
theorem scD : FnScope ["well", "cap", "found", "number"] ["well", "cap"] (defScope sDraw) := ⟨rfl, rfl, rfl, by decide +kernel, rfl, by decide +kernel, by decide +kernel⟩
theorem ok_draw {f : Addr} {fd : FuncData} (F : Fun K "_law_draw" "_law_draw" sDraw f fd) : FnOk P w K mg base CX0 1 f fd ["well", "cap"] spDraw := by
  refine F.ok scD (fun vs H Q E h => ?_) (fun cdv A outer s H vs Q E hr h => ?_)
  · obtain ⟨a, w0, w1, w2, cap, rfl, _⟩ := h
    rfl
  · obtain ⟨a, w0, w1, w2, cap, rfl, hH, c0, c1, b0, b1, t0, t1, k⟩ := h
    refine ⟨_, pss_cons (ps_if (pt_cmpR op_gt (pe_ix ix_list (pv 0) pe_int (fun _ _ => rfl)) pe_int (nomark _))
        (pss_cons (ps_set (i := 2) scD.nd rfl (Or.inl rfl) (pe_op op_mod (pe_ix ix_list (pv 0) pe_int (fun _ _ => rfl)) (pv 1)))
        (pss_cons (ps_asg (pe_op op_fdivN (pe_ix ix_list (pv 0) pe_int (fun _ _ => rfl)) (pv 1)) (pg_sub (pv 0) pe_int set_list))
        (pss_one (ps_ret (pv 2))))) pss_nil)
      (pss_cons (ps_asg (pe_op op_add (pe_ix ix_list (pv 0) pe_int (fun _ _ => rfl)) pe_int) (pg_sub (pv 0) pe_int set_list))
      (pss_cons (ps_set (i := 3) scD.nd rfl (Or.inl rfl) (pe_op op_mod (pe_op op_mul (pe_op op_add (pe_op op_add (pe_ix ix_list (pv 0) pe_int (fun _ _ => rfl)) (pe_op op_mul pe_int (pe_ix ix_list (pv 0) pe_int (fun _ _ => rfl)))) pe_int) pe_int) pe_int))
      (pss_cons (ps_set (i := 3) scD.nd rfl (Or.inl rfl) (pe_op op_mod (pe_op op_mul (pv 3) (pe_op op_add (pe_op op_fdivN (pv 3) pe_int) pe_int)) pe_int))
      (pss_one (ps_ret (pe_op op_mod (pe_op op_mod (pe_op op_mul (pv 3) (pe_op op_add (pe_op op_fdivN (pv 3) pe_int) pe_int)) pe_int) (pv 1))))))), ?_⟩
    refine ⟨_, rfl, a, _, _, _, rfl, rfl, SqL.of hH, rfl, _, _, rfl, rfl, _, rfl, ?_⟩
    refine ite2 (fun hp => ?_) (fun hp => ?_)
    · refine ⟨_, rfl, a, _, _, _, rfl, rfl, SqL.of hH, rfl, _, rfl, _, _, rfl, rfl, c0, ?_⟩
      refine ⟨_, rfl, a, _, _, _, rfl, rfl, SqL.of hH, rfl, _, rfl, _, _, rfl, rfl, ⟨by omega, by omega⟩, _, rfl, a, _, _, 0, rfl, rfl, hH, rfl, _, rfl, ?_⟩
      exact k _ _ _ (Int.emod_nonneg _ (by omega)) (Int.emod_lt_of_pos _ c0) (Int.le_refl _) (by omega)
    · have e1 : ∀ {n : Int} {m : Int}, 0 < m → 0 ≤ n % m ∧ n % m < m := fun h => ⟨Int.emod_nonneg _ (by omega), Int.emod_lt_of_pos _ h⟩
      refine ⟨_, rfl, a, _, _, _, rfl, rfl, SqL.of hH, rfl, _, _, rfl, rfl, _, rfl, a, _, _, 2, rfl, rfl, hH, rfl, ?_⟩
      have h2 : upd H a (.lst ([V.int w0, .int w1, .int w2].set 2 (.int (w2 + 1)))) a = some (.lst [.int w0, .int w1, .int (w2 + 1)]) := upd_same
      refine ⟨_, rfl, a, _, _, _, rfl, rfl, SqL.of h2, rfl, _, rfl, a, _, _, _, rfl, rfl, SqL.of h2, rfl, _, _, rfl, rfl, .inl ⟨by decide, by decide⟩, _, _, rfl, rfl, _, _, rfl, rfl, ?_⟩
      refine ⟨_, _, rfl, rfl, .inr ⟨by decide, by decide⟩, _, _, rfl, rfl, (by show (0 : Int) < 2147483647; decide), ?_⟩
      generalize hn : ((w1 + 104729 * (w2 + 1) + 1) * 48271 % 2147483647 : Int) = n
      have hn1 : 0 ≤ n ∧ n < 2147483647 := by rw [← hn]; exact e1 (by decide)
      refine ⟨_, rfl, _, rfl, _, _, rfl, rfl, ⟨by decide, by decide⟩, _, _, rfl, rfl, _, _, rfl, rfl, .inl ⟨by omega, by omega⟩, _, _, rfl, rfl, (by show (0 : Int) < 2147483647; decide), ?_⟩
      generalize hn' : (n * (n.fdiv 1009 + 69621) % 2147483647 : Int) = n'
      have hn2 : 0 ≤ n' ∧ n' < 2147483647 := by rw [← hn']; exact e1 (by decide)
      refine ⟨_, rfl, _, rfl, _, _, rfl, rfl, ⟨by decide, by decide⟩, _, _, rfl, rfl, _, _, rfl, rfl, .inl ⟨by omega, by omega⟩, _, _, rfl, rfl, (by show (0 : Int) < 2147483399; decide), _, rfl, _, _, rfl, rfl, c0, ?_⟩
      exact k _ w0 (w2 + 1) (e1 c0).1 (e1 c0).2 (by omega) (Int.le_refl _)
end
/-! ### the classes -/
def nm (i : Nat) : Str := (["NoTree", "NoRoom", "NoSetting", "NoSlide", "NoPaper", "Locked", "TooMany", "NoLane", "Unlike"] : List Str).getD i ""
def fld (i : Nat) : Str := (["at", "room", "at", "at", "at", "lock", "many", "room", "many"] : List Str).getD i ""
def sI (i : Nat) : Stmt := inClass (top (([2, 3, 4, 5, 6, 7, 9, 10, 8] : List Nat).getD i 0)) 0
/-- what a made exception's dict holds -/
def fsOf (i : Nat) (x : V) : List (Str × V) := if i = 8 then [("more", .int 7), ("many", x)] else [(fld i, x)]
def ExI (H : Hp) (a C : Addr) (i : Nat) (x : V) : Prop := ∃ d, H a = some (exo a C (some d)) ∧ H d = some (exd d (fsOf i x))
theorem ExI.same {H H' : Hp} {a C : Addr} {i : Nat} {x : V} (h : ExI H a C i x) (s : Same H H') : ExI H' a C i x := by
  obtain ⟨d, h1, h2⟩ := h
  exact ⟨d, s _ _ h1, s _ _ h2⟩
def spI (C : Addr) (f : Str) : Sp := fun vs H Q _ => ∃ (a : Addr) (x : V), vs = [.ref a, x] ∧ H a = some (exo a C none) ∧ ∀ d, H d = none → d ≠ a → Q .non (upd (upd H d (exd d [(f, x)])) a (exo a C (some d)))
def spU (C : Addr) : Sp := fun vs H Q _ => ∃ (a : Addr) (x y : V), vs = [.ref a, x, y] ∧ H a = some (exo a C none) ∧ ∀ d, H d = none → d ≠ a → Q .non (upd (upd (upd H d (exd d [("many", x)])) a (exo a C (some d))) d (exd d [("more", y), ("many", x)]))
structure Cl (K : PySem.W.Frag) (mg : Str → Option Value) (C fI : Addr) (i : Nat) : Prop where
  xv : XvC K C fI
  g : mg (nm i) = some (.ref C)
  no : PySem.W.findIn K (.ref C) (fld i) = some none
/-- a fresh exception, made whole -/
theorem made {H : Hp} {a d C : Addr} {i : Nat} {x : V} (h8 : i ≠ 8) (ha : H a = none) (hd : upd H a (exo a C none) d = none) (hda : d ≠ a) :
    Same H (upd (upd (upd H a (exo a C none)) d (exd d [(fld i, x)])) a (exo a C (some d))) ∧ ExI (upd (upd (upd H a (exo a C none)) d (exd d [(fld i, x)])) a (exo a C (some d))) a C i x := by
  rw [upd_ne hda] at hd
  refine ⟨fun b o e => ?_, d, upd_same, ?_⟩
  · rw [upd_ne (ne_of_none e ha), upd_ne (ne_of_none e hd), upd_ne (ne_of_none e ha)]
    exact e
  · rw [upd_ne hda, upd_same]
    unfold fsOf
    rw [if_neg h8]
theorem madeU {H : Hp} {a d C : Addr} {x : V} (ha : H a = none) (hd : upd H a (exo a C none) d = none) (hda : d ≠ a) :
    Same H (upd (upd (upd (upd H a (exo a C none)) d (exd d [("many", x)])) a (exo a C (some d))) d (exd d [("more", .int 7), ("many", x)])) ∧ ExI (upd (upd (upd (upd H a (exo a C none)) d (exd d [("many", x)])) a (exo a C (some d))) d (exd d [("more", .int 7), ("many", x)])) a C 8 x := by
  rw [upd_ne hda] at hd
  refine ⟨fun b o e => ?_, d, ?_, upd_same⟩
  · rw [upd_ne (ne_of_none e hd), upd_ne (ne_of_none e ha), upd_ne (ne_of_none e hd), upd_ne (ne_of_none e ha)]
    exact e
  · rw [upd_ne (Ne.symm hda), upd_same]
section
variable {P : Program} {w : World} {K : PySem.W.Frag} {mg : Str → Option Value} {base : Heap}
theorem scI0 : FnScope ["self", "at"] ["self", "at"] (defScope (sI 0)) := ⟨rfl, rfl, rfl, by decide +kernel, rfl, by decide +kernel, by decide +kernel⟩
theorem ok_i0 {f C : Addr} {fd : FuncData} (F : Fun K "__init__" "NoTree.__init__" (sI 0) f fd) (T : Cl K mg C f 0) : FnOk P w K mg base CX0 1 f fd ["self", "at"] (spI C (fld 0)) := by
  refine F.ok scI0 (fun vs H Q E h => ?_) (fun cdv A outer s H vs Q E hr h => ?_)
  · obtain ⟨a, x, rfl, _⟩ := h
    rfl
  · obtain ⟨a, x, rfl, ha, k⟩ := h
    refine ⟨_, pss_one (ps_ost (pv 0) (pv 1)), ?_⟩
    exact ⟨_, rfl, _, rfl, a, C, rfl, T.xv.ox, T.no, .inl ⟨ha, fun d hd hda => k d hd hda⟩⟩
theorem scI1 : FnScope ["self", "room"] ["self", "room"] (defScope (sI 1)) := ⟨rfl, rfl, rfl, by decide +kernel, rfl, by decide +kernel, by decide +kernel⟩
theorem ok_i1 {f C : Addr} {fd : FuncData} (F : Fun K "__init__" "NoRoom.__init__" (sI 1) f fd) (T : Cl K mg C f 1) : FnOk P w K mg base CX0 1 f fd ["self", "room"] (spI C (fld 1)) := by
  refine F.ok scI1 (fun vs H Q E h => ?_) (fun cdv A outer s H vs Q E hr h => ?_)
  · obtain ⟨a, x, rfl, _⟩ := h
    rfl
  · obtain ⟨a, x, rfl, ha, k⟩ := h
    refine ⟨_, pss_one (ps_ost (pv 0) (pv 1)), ?_⟩
    exact ⟨_, rfl, _, rfl, a, C, rfl, T.xv.ox, T.no, .inl ⟨ha, fun d hd hda => k d hd hda⟩⟩
theorem scI2 : FnScope ["self", "at"] ["self", "at"] (defScope (sI 2)) := ⟨rfl, rfl, rfl, by decide +kernel, rfl, by decide +kernel, by decide +kernel⟩
theorem ok_i2 {f C : Addr} {fd : FuncData} (F : Fun K "__init__" "NoSetting.__init__" (sI 2) f fd) (T : Cl K mg C f 2) : FnOk P w K mg base CX0 1 f fd ["self", "at"] (spI C (fld 2)) := by
  refine F.ok scI2 (fun vs H Q E h => ?_) (fun cdv A outer s H vs Q E hr h => ?_)
  · obtain ⟨a, x, rfl, _⟩ := h
    rfl
  · obtain ⟨a, x, rfl, ha, k⟩ := h
    refine ⟨_, pss_one (ps_ost (pv 0) (pv 1)), ?_⟩
    exact ⟨_, rfl, _, rfl, a, C, rfl, T.xv.ox, T.no, .inl ⟨ha, fun d hd hda => k d hd hda⟩⟩
theorem scI3 : FnScope ["self", "at"] ["self", "at"] (defScope (sI 3)) := ⟨rfl, rfl, rfl, by decide +kernel, rfl, by decide +kernel, by decide +kernel⟩
theorem ok_i3 {f C : Addr} {fd : FuncData} (F : Fun K "__init__" "NoSlide.__init__" (sI 3) f fd) (T : Cl K mg C f 3) : FnOk P w K mg base CX0 1 f fd ["self", "at"] (spI C (fld 3)) := by
  refine F.ok scI3 (fun vs H Q E h => ?_) (fun cdv A outer s H vs Q E hr h => ?_)
  · obtain ⟨a, x, rfl, _⟩ := h
    rfl
  · obtain ⟨a, x, rfl, ha, k⟩ := h
    refine ⟨_, pss_one (ps_ost (pv 0) (pv 1)), ?_⟩
    exact ⟨_, rfl, _, rfl, a, C, rfl, T.xv.ox, T.no, .inl ⟨ha, fun d hd hda => k d hd hda⟩⟩
theorem scI4 : FnScope ["self", "at"] ["self", "at"] (defScope (sI 4)) := ⟨rfl, rfl, rfl, by decide +kernel, rfl, by decide +kernel, by decide +kernel⟩
theorem ok_i4 {f C : Addr} {fd : FuncData} (F : Fun K "__init__" "NoPaper.__init__" (sI 4) f fd) (T : Cl K mg C f 4) : FnOk P w K mg base CX0 1 f fd ["self", "at"] (spI C (fld 4)) := by
  refine F.ok scI4 (fun vs H Q E h => ?_) (fun cdv A outer s H vs Q E hr h => ?_)
  · obtain ⟨a, x, rfl, _⟩ := h
    rfl
  · obtain ⟨a, x, rfl, ha, k⟩ := h
    refine ⟨_, pss_one (ps_ost (pv 0) (pv 1)), ?_⟩
    exact ⟨_, rfl, _, rfl, a, C, rfl, T.xv.ox, T.no, .inl ⟨ha, fun d hd hda => k d hd hda⟩⟩
theorem scI5 : FnScope ["self", "lock"] ["self", "lock"] (defScope (sI 5)) := ⟨rfl, rfl, rfl, by decide +kernel, rfl, by decide +kernel, by decide +kernel⟩
theorem ok_i5 {f C : Addr} {fd : FuncData} (F : Fun K "__init__" "Locked.__init__" (sI 5) f fd) (T : Cl K mg C f 5) : FnOk P w K mg base CX0 1 f fd ["self", "lock"] (spI C (fld 5)) := by
  refine F.ok scI5 (fun vs H Q E h => ?_) (fun cdv A outer s H vs Q E hr h => ?_)
  · obtain ⟨a, x, rfl, _⟩ := h
    rfl
  · obtain ⟨a, x, rfl, ha, k⟩ := h
    refine ⟨_, pss_one (ps_ost (pv 0) (pv 1)), ?_⟩
    exact ⟨_, rfl, _, rfl, a, C, rfl, T.xv.ox, T.no, .inl ⟨ha, fun d hd hda => k d hd hda⟩⟩
theorem scI6 : FnScope ["self", "many"] ["self", "many"] (defScope (sI 6)) := ⟨rfl, rfl, rfl, by decide +kernel, rfl, by decide +kernel, by decide +kernel⟩
theorem ok_i6 {f C : Addr} {fd : FuncData} (F : Fun K "__init__" "TooMany.__init__" (sI 6) f fd) (T : Cl K mg C f 6) : FnOk P w K mg base CX0 1 f fd ["self", "many"] (spI C (fld 6)) := by
  refine F.ok scI6 (fun vs H Q E h => ?_) (fun cdv A outer s H vs Q E hr h => ?_)
  · obtain ⟨a, x, rfl, _⟩ := h
    rfl
  · obtain ⟨a, x, rfl, ha, k⟩ := h
    refine ⟨_, pss_one (ps_ost (pv 0) (pv 1)), ?_⟩
    exact ⟨_, rfl, _, rfl, a, C, rfl, T.xv.ox, T.no, .inl ⟨ha, fun d hd hda => k d hd hda⟩⟩
theorem scI7 : FnScope ["self", "room"] ["self", "room"] (defScope (sI 7)) := ⟨rfl, rfl, rfl, by decide +kernel, rfl, by decide +kernel, by decide +kernel⟩
theorem ok_i7 {f C : Addr} {fd : FuncData} (F : Fun K "__init__" "NoLane.__init__" (sI 7) f fd) (T : Cl K mg C f 7) : FnOk P w K mg base CX0 1 f fd ["self", "room"] (spI C (fld 7)) := by
  refine F.ok scI7 (fun vs H Q E h => ?_) (fun cdv A outer s H vs Q E hr h => ?_)
  · obtain ⟨a, x, rfl, _⟩ := h
    rfl
  · obtain ⟨a, x, rfl, ha, k⟩ := h
    refine ⟨_, pss_one (ps_ost (pv 0) (pv 1)), ?_⟩
    exact ⟨_, rfl, _, rfl, a, C, rfl, T.xv.ox, T.no, .inl ⟨ha, fun d hd hda => k d hd hda⟩⟩
theorem scI8 : FnScope ["self", "many", "more"] ["self", "many", "more"] (defScope (sI 8)) := ⟨rfl, rfl, rfl, by decide +kernel, rfl, by decide +kernel, by decide +kernel⟩
theorem ok_i8 {f C : Addr} {fd : FuncData} (F : Fun K "__init__" "Unlike.__init__" (sI 8) f fd) (T : Cl K mg C f 8) (no2 : PySem.W.findIn K (.ref C) "more" = some none) : FnOk P w K mg base CX0 1 f fd ["self", "many", "more"] (spU C) := by
  refine F.ok scI8 (fun vs H Q E h => ?_) (fun cdv A outer s H vs Q E hr h => ?_)
  · obtain ⟨a, x, y, rfl, _⟩ := h
    rfl
  · obtain ⟨a, x, y, rfl, ha, k⟩ := h
    refine ⟨_, pss_cons (ps_ost (pv 0) (pv 1)) (pss_one (ps_ost (pv 0) (pv 2))), ?_⟩
    refine ⟨_, rfl, _, rfl, a, C, rfl, T.xv.ox, T.no, .inl ⟨ha, fun d hd hda => ?_⟩⟩
    exact ⟨_, rfl, _, rfl, a, C, rfl, T.xv.ox, no2, .inr ⟨d, _, upd_same, by rw [upd_ne hda, upd_same], by show 1 ≤ 900; decide, k d hd hda⟩⟩
end
end G16

namespace G16
open PySem L2
structure Txt (K : PySem.W.Frag) (mg : Str → Option Value) (C fI : Nat → Addr) (G : Addr) : Prop where
  cl : ∀ i, i < 9 → Cl K mg (C i) (fI i) i
  no2 : PySem.W.findIn K (.ref (C 8)) "more" = some none
  is : ∀ i j, i < 9 → j < 9 → PySem.W.kitOne K (.ref (C i)) (.ref (C j)) = some (decide (j = i))
  isG : ∀ i, i < 9 → PySem.W.kitOne K (.ref (C i)) (.ref G) = some true
  isV : ∀ i, i < 9 → PySem.W.kitOne K (.ref (C i)) (.type "ValueError") = some true
  vG : PySem.W.kitOne K (.type "ValueError") (.ref G) = some false
  gG : mg "GuardError" = some (.ref G)
  isi : mg "isinstance" = none
  int : mg "int" = none
  en : mg "enumerate" = none
  rg : mg "range" = none
  ve : mg "ValueError" = none
def bits (i : Nat) : List V := [0, 1, 2, 3, 4, 5, 6, 7, 8].map fun (k : Nat) => V.bl (decide (k = i))
def spTaken (C : Nat → Addr) : Sp := fun vs H Q _ => ∃ (e : Addr) (i : Nat) (x : V), vs = [.ref e] ∧ i < 9 ∧ ExI H e (C i) i x ∧ ∀ H' p, Same H H' → H p = none → H' p = some (.lst (bits i)) → Q (.ref p) H'
/-- the nine made of x stand in this list -/
def Nine (H : Hp) (C : Nat → Addr) (x : V) (es : List V) : Prop := ∃ e : Nat → Addr, es = [0, 1, 2, 3, 4, 5, 6, 7, 8].map (fun (k : Nat) => V.ref (e k)) ∧ ∀ i, i < 9 → ExI H (e i) (C i) i x
def spBy (C : Nat → Addr) : Sp := fun vs H Q _ => ∃ (x : V), vs = [x] ∧ ∀ H' p es, Same H H' → H p = none → H' p = some (.lst es) → Nine H' C x es → Q (.ref p) H'
def spFields (C : Nat → Addr) : Sp := fun vs H Q _ => ∃ (l : Addr) (es : List V) (x : V), vs = [.ref l, x] ∧ H l = some (.lst es) ∧ Nine H C x es ∧ ∀ H' p, Same H H' → H p = none → H' p = some (.lst [x, x, x, x, x, x, x, x, x, x]) → Q (.ref p) H'
theorem same_new {H : Hp} {p : Addr} {o : HO} (h : H p = none) : Same H (upd H p o) := fun b u e => by
  rw [upd_ne (ne_of_none e h)]
  exact e
section
variable {P : Program} {w : World} {K : PySem.W.Frag} {mg : Str → Option Value} {base : Heap} {C fI : Nat → Addr} {G : Addr}
theorem scT : FnScope ["e", "first"] ["e"] (defScope sTaken) := ⟨rfl, rfl, rfl, by decide +kernel, rfl, by decide +kernel, by decide +kernel⟩
theorem ok_taken {f : Addr} {fd : FuncData} (F : Fun K "_law_taken" "_law_taken" sTaken f fd) (T : Txt K mg C fI G) : FnOk P w K mg base CX0 1 f fd ["e"] (spTaken C) := by
  refine F.ok scT (fun vs H Q E h => ?_) (fun cdv A outer s H vs Q E hr h => ?_)
  · obtain ⟨e, i, x, rfl, _⟩ := h
    rfl
  · obtain ⟨e, i, x, rfl, hi, ⟨d, ea, ed⟩, k⟩ := h
    refine ⟨_, pss_cons (ps_set (i := 1) scT.nd rfl (Or.inl rfl) (pe_lst (pa_cons (pe_callB call_isXv (by rfl) T.isi PyProof.Rows.boot_isinstance (pa_cons (pv 0) (pa_cons (pe_glob (v := .ref (C 0)) rfl (T.cl 0 (by decide)).g rfl) pa_nil))) (pa_cons (pe_callB call_isXv (by rfl) T.isi PyProof.Rows.boot_isinstance (pa_cons (pv 0) (pa_cons (pe_glob (v := .ref (C 1)) rfl (T.cl 1 (by decide)).g rfl) pa_nil))) (pa_cons (pe_callB call_isXv (by rfl) T.isi PyProof.Rows.boot_isinstance (pa_cons (pv 0) (pa_cons (pe_glob (v := .ref (C 2)) rfl (T.cl 2 (by decide)).g rfl) pa_nil))) (pa_cons (pe_callB call_isXv (by rfl) T.isi PyProof.Rows.boot_isinstance (pa_cons (pv 0) (pa_cons (pe_glob (v := .ref (C 3)) rfl (T.cl 3 (by decide)).g rfl) pa_nil))) pa_nil))))))
      (pss_cons (ps_set (i := 1) scT.nd rfl (Or.inl rfl) (pe_op op_catR (pv 1) (pe_lst (pa_cons (pe_callB call_isXv (by rfl) T.isi PyProof.Rows.boot_isinstance (pa_cons (pv 0) (pa_cons (pe_glob (v := .ref (C 4)) rfl (T.cl 4 (by decide)).g rfl) pa_nil))) (pa_cons (pe_callB call_isXv (by rfl) T.isi PyProof.Rows.boot_isinstance (pa_cons (pv 0) (pa_cons (pe_glob (v := .ref (C 5)) rfl (T.cl 5 (by decide)).g rfl) pa_nil))) (pa_cons (pe_callB call_isXv (by rfl) T.isi PyProof.Rows.boot_isinstance (pa_cons (pv 0) (pa_cons (pe_glob (v := .ref (C 6)) rfl (T.cl 6 (by decide)).g rfl) pa_nil))) pa_nil))))))
      (pss_one (ps_ret (pe_op op_catR (pv 1) (pe_lst (pa_cons (pe_callB call_isXv (by rfl) T.isi PyProof.Rows.boot_isinstance (pa_cons (pv 0) (pa_cons (pe_glob (v := .ref (C 7)) rfl (T.cl 7 (by decide)).g rfl) pa_nil))) (pa_cons (pe_callB call_isXv (by rfl) T.isi PyProof.Rows.boot_isinstance (pa_cons (pv 0) (pa_cons (pe_glob (v := .ref (C 8)) rfl (T.cl 8 (by decide)).g rfl) pa_nil))) pa_nil))))))), ?_⟩
    refine ⟨_, rfl, e, C i, fI i, d, fsOf i x, _, _, _, rfl, (T.cl i hi).xv, ea, ed, .own _, T.is i 0 hi (by decide), _, rfl, e, C i, fI i, d, fsOf i x, _, _, _, rfl, (T.cl i hi).xv, ea, ed, .own _, T.is i 1 hi (by decide), _, rfl, e, C i, fI i, d, fsOf i x, _, _, _, rfl, (T.cl i hi).xv, ea, ed, .own _, T.is i 2 hi (by decide), _, rfl, e, C i, fI i, d, fsOf i x, _, _, _, rfl, (T.cl i hi).xv, ea, ed, .own _, T.is i 3 hi (by decide), (by show 4 ≤ sizeLine; decide), fun p1 n1 => ?_⟩
    generalize hH1 : upd _ p1 _ = H1
    have s1 : Same _ H1 := hH1 ▸ same_new n1
    have h1 : H1 p1 = some _ := hH1 ▸ upd_same
    replace ea := s1 _ _ ea
    replace ed := s1 _ _ ed
    refine ⟨_, rfl, _, rfl, e, C i, fI i, d, fsOf i x, _, _, _, rfl, (T.cl i hi).xv, ea, ed, .own _, T.is i 4 hi (by decide), _, rfl, e, C i, fI i, d, fsOf i x, _, _, _, rfl, (T.cl i hi).xv, ea, ed, .own _, T.is i 5 hi (by decide), _, rfl, e, C i, fI i, d, fsOf i x, _, _, _, rfl, (T.cl i hi).xv, ea, ed, .own _, T.is i 6 hi (by decide), (by show 3 ≤ sizeLine; decide), fun p2 n2 => ?_⟩
    generalize hH2 : upd _ p2 _ = H2
    have s2 : Same _ H2 := hH2 ▸ same_new n2
    have h2 : H2 p2 = some _ := hH2 ▸ upd_same
    replace ea := s2 _ _ ea
    replace ed := s2 _ _ ed
    refine ⟨p1, p2, _, _, rfl, rfl, SqL.of (s2 _ _ h1), SqL.of h2, (by show 4 + 3 ≤ sizeLine; decide), fun p3 n3 => ?_⟩
    generalize hH3 : upd _ p3 _ = H3
    have s3 : Same _ H3 := hH3 ▸ same_new n3
    have h3 : H3 p3 = some _ := hH3 ▸ upd_same
    replace ea := s3 _ _ ea
    replace ed := s3 _ _ ed
    refine ⟨_, rfl, _, rfl, e, C i, fI i, d, fsOf i x, _, _, _, rfl, (T.cl i hi).xv, ea, ed, .own _, T.is i 7 hi (by decide), _, rfl, e, C i, fI i, d, fsOf i x, _, _, _, rfl, (T.cl i hi).xv, ea, ed, .own _, T.is i 8 hi (by decide), (by show 2 ≤ sizeLine; decide), fun p4 n4 => ?_⟩
    generalize hH4 : upd _ p4 _ = H4
    have s4 : Same _ H4 := hH4 ▸ same_new n4
    have h4 : H4 p4 = some _ := hH4 ▸ upd_same
    refine ⟨p3, p4, _, _, rfl, rfl, SqL.of (s4 _ _ h3), SqL.of h4, (by show 4 + 3 + 2 ≤ sizeLine; decide), fun p5 n5 => ?_⟩
    generalize hH5 : upd _ p5 _ = H5
    have s5 : Same _ H5 := hH5 ▸ same_new n5
    have h5 : H5 p5 = some _ := hH5 ▸ upd_same
    exact k H5 p5 (s1.trans (s2.trans (s3.trans (s4.trans s5)))) (s1.trans (s2.trans (s3.trans s4)) |>.free n5) h5
end
end G16

namespace G16
open PySem L2
/-- the nine __init__ and how they are called -/
structure Ini (P : Program) (w : World) (K : PySem.W.Frag) (mg : Str → Option Value) (base : Heap) (C fI : Nat → Addr) (fd : Nat → FuncData) : Prop where
  FI : ∀ i, i < 8 → FnOk P w K mg base CX0 1 (fI i) (fd i) ["self", fld i] (spI (C i) (fld i))
  FU : FnOk P w K mg base CX0 1 (fI 8) (fd 8) ["self", "many", "more"] (spU (C 8))
  kp : ∀ i, i < 8 → KBn K (fd i) ["self", fld i] 2 [] (fun us _ => us) (fun vs _ => vs)
  kk : ∀ i, i < 8 → KBn K (fd i) ["self", fld i] 1 [fld i] (fun us ws => us ++ ws) (fun vs zs => vs ++ zs)
  kpU : KBn K (fd 8) ["self", "many", "more"] 3 [] (fun us _ => us) (fun vs _ => vs)
  kkU : KBn K (fd 8) ["self", "many", "more"] 1 ["more", "many"] (fun us ws => us ++ ws.reverse) (fun vs zs => vs ++ zs.reverse)
theorem nine_mk {H : Hp} {C : Nat → Addr} {x : V} {e : Nat → Addr} (h : ∀ i, i < 9 → ExI H (e i) (C i) i x) : Nine H C x [.ref (e 0), .ref (e 1), .ref (e 2), .ref (e 3), .ref (e 4), .ref (e 5), .ref (e 6), .ref (e 7), .ref (e 8)] := ⟨e, rfl, h⟩
section
variable {P : Program} {w : World} {K : PySem.W.Frag} {mg : Str → Option Value} {base : Heap} {C fI : Nat → Addr} {G : Addr} {fdI : Nat → FuncData}

theorem sc_place : FnScope ["x", "some"] ["x"] (defScope sPlace) := ⟨rfl, rfl, rfl, by decide +kernel, rfl, by decide +kernel, by decide +kernel⟩
theorem ok_place {f : Addr} {fd : FuncData} (F : Fun K "_law_by_place" "_law_by_place" sPlace f fd) (T : Txt K mg C fI G) (J : Ini P w K mg base C fI fdI) : FnOk P w K mg base CX0 3 f fd ["x"] (spBy C) := by
  refine F.ok sc_place (fun vs H Q E h => ?_) (fun cdv A outer s H vs Q E hr h => ?_)
  · obtain ⟨x, rfl, _⟩ := h
    rfl
  · obtain ⟨x, rfl, k⟩ := h
    refine ⟨_, pss_cons (ps_set (i := 1) sc_place.nd rfl (Or.inl rfl) (pe_lst (pa_cons (pe_newX (T.cl 0 (by decide)).xv (J.FI 0 (by decide)) hr rfl (T.cl 0 (by decide)).g (J.kp 0 (by decide)) pass0 (pa_cons (pv 0) pa_nil)) (pa_cons (pe_newX (T.cl 1 (by decide)).xv (J.FI 1 (by decide)) hr rfl (T.cl 1 (by decide)).g (J.kp 1 (by decide)) pass0 (pa_cons (pv 0) pa_nil)) (pa_cons (pe_newX (T.cl 2 (by decide)).xv (J.FI 2 (by decide)) hr rfl (T.cl 2 (by decide)).g (J.kp 2 (by decide)) pass0 (pa_cons (pv 0) pa_nil)) (pa_cons (pe_newX (T.cl 3 (by decide)).xv (J.FI 3 (by decide)) hr rfl (T.cl 3 (by decide)).g (J.kp 3 (by decide)) pass0 (pa_cons (pv 0) pa_nil)) (pa_cons (pe_newX (T.cl 4 (by decide)).xv (J.FI 4 (by decide)) hr rfl (T.cl 4 (by decide)).g (J.kp 4 (by decide)) pass0 (pa_cons (pv 0) pa_nil)) (pa_cons (pe_newX (T.cl 5 (by decide)).xv (J.FI 5 (by decide)) hr rfl (T.cl 5 (by decide)).g (J.kp 5 (by decide)) pass0 (pa_cons (pv 0) pa_nil)) (pa_cons (pe_newX (T.cl 6 (by decide)).xv (J.FI 6 (by decide)) hr rfl (T.cl 6 (by decide)).g (J.kp 6 (by decide)) pass0 (pa_cons (pv 0) pa_nil)) pa_nil)))))))))
      (pss_one (ps_ret (pe_op op_catR (pv 1) (pe_lst (pa_cons (pe_newX (T.cl 7 (by decide)).xv (J.FI 7 (by decide)) hr rfl (T.cl 7 (by decide)).g (J.kp 7 (by decide)) pass0 (pa_cons (pv 0) pa_nil)) (pa_cons (pe_newX (T.cl 8 (by decide)).xv J.FU hr rfl (T.cl 8 (by decide)).g J.kpU pass0 (pa_cons (pv 0) (pa_cons pe_int pa_nil))) pa_nil)))))), ?_⟩
    refine ⟨_, rfl, rfl, rfl, by decide, fun a0 na0 => ⟨a0, x, rfl, upd_same, fun d0 nd0 hda0 => ⟨rfl, ?_⟩⟩⟩
    generalize hA0 : upd (upd (upd _ a0 _) d0 _) a0 _ = A0
    have z0 : Same H A0 ∧ ExI A0 a0 (C 0) 0 x := hA0 ▸ made (by decide) na0 nd0 hda0
    refine ⟨_, rfl, rfl, rfl, by decide, fun a1 na1 => ⟨a1, x, rfl, upd_same, fun d1 nd1 hda1 => ⟨rfl, ?_⟩⟩⟩
    generalize hA1 : upd (upd (upd _ a1 _) d1 _) a1 _ = A1
    have z1 : Same A0 A1 ∧ ExI A1 a1 (C 1) 1 x := hA1 ▸ made (by decide) na1 nd1 hda1
    refine ⟨_, rfl, rfl, rfl, by decide, fun a2 na2 => ⟨a2, x, rfl, upd_same, fun d2 nd2 hda2 => ⟨rfl, ?_⟩⟩⟩
    generalize hA2 : upd (upd (upd _ a2 _) d2 _) a2 _ = A2
    have z2 : Same A1 A2 ∧ ExI A2 a2 (C 2) 2 x := hA2 ▸ made (by decide) na2 nd2 hda2
    refine ⟨_, rfl, rfl, rfl, by decide, fun a3 na3 => ⟨a3, x, rfl, upd_same, fun d3 nd3 hda3 => ⟨rfl, ?_⟩⟩⟩
    generalize hA3 : upd (upd (upd _ a3 _) d3 _) a3 _ = A3
    have z3 : Same A2 A3 ∧ ExI A3 a3 (C 3) 3 x := hA3 ▸ made (by decide) na3 nd3 hda3
    refine ⟨_, rfl, rfl, rfl, by decide, fun a4 na4 => ⟨a4, x, rfl, upd_same, fun d4 nd4 hda4 => ⟨rfl, ?_⟩⟩⟩
    generalize hA4 : upd (upd (upd _ a4 _) d4 _) a4 _ = A4
    have z4 : Same A3 A4 ∧ ExI A4 a4 (C 4) 4 x := hA4 ▸ made (by decide) na4 nd4 hda4
    refine ⟨_, rfl, rfl, rfl, by decide, fun a5 na5 => ⟨a5, x, rfl, upd_same, fun d5 nd5 hda5 => ⟨rfl, ?_⟩⟩⟩
    generalize hA5 : upd (upd (upd _ a5 _) d5 _) a5 _ = A5
    have z5 : Same A4 A5 ∧ ExI A5 a5 (C 5) 5 x := hA5 ▸ made (by decide) na5 nd5 hda5
    refine ⟨_, rfl, rfl, rfl, by decide, fun a6 na6 => ⟨a6, x, rfl, upd_same, fun d6 nd6 hda6 => ⟨rfl, ?_⟩⟩⟩
    generalize hA6 : upd (upd (upd _ a6 _) d6 _) a6 _ = A6
    have z6 : Same A5 A6 ∧ ExI A6 a6 (C 6) 6 x := hA6 ▸ made (by decide) na6 nd6 hda6
    refine ⟨(by show 7 ≤ sizeLine; decide), fun p1 n1 => ?_⟩
    generalize hB1 : upd _ p1 _ = B1
    have s1 : Same A6 B1 := hB1 ▸ same_new n1
    have h1 : B1 p1 = some _ := hB1 ▸ upd_same
    refine ⟨_, rfl, _, rfl, rfl, rfl, by decide, fun a7 na7 => ⟨a7, x, rfl, upd_same, fun d7 nd7 hda7 => ⟨rfl, ?_⟩⟩⟩
    generalize hA7 : upd (upd (upd _ a7 _) d7 _) a7 _ = A7
    have z7 : Same B1 A7 ∧ ExI A7 a7 (C 7) 7 x := hA7 ▸ made (by decide) na7 nd7 hda7
    refine ⟨_, rfl, rfl, rfl, by decide, fun a8 na8 => ⟨a8, x, .int 7, rfl, upd_same, fun d8 nd8 hda8 => ⟨rfl, ?_⟩⟩⟩
    generalize hA8 : upd (upd (upd (upd _ a8 _) d8 _) a8 _) d8 _ = A8
    have z8 : Same A7 A8 ∧ ExI A8 a8 (C 8) 8 x := hA8 ▸ madeU na8 nd8 hda8
    refine ⟨(by show 2 ≤ sizeLine; decide), fun p2 n2 => ?_⟩
    generalize hB2 : upd _ p2 _ = B2
    have s2 : Same A8 B2 := hB2 ▸ same_new n2
    have h2 : B2 p2 = some _ := hB2 ▸ upd_same
    refine ⟨p1, p2, _, _, rfl, rfl, SqL.of ((z7.1.trans (z8.1.trans s2)) _ _ h1), SqL.of h2, (by show 7 + 2 ≤ sizeLine; decide), fun p3 n3 => ?_⟩
    generalize hB3 : upd _ p3 _ = B3
    have s3 : Same B2 B3 := hB3 ▸ same_new n3
    have h3 : B3 p3 = some _ := hB3 ▸ upd_same
    refine k B3 p3 _ (z0.1.trans (z1.1.trans (z2.1.trans (z3.1.trans (z4.1.trans (z5.1.trans (z6.1.trans (s1.trans (z7.1.trans (z8.1.trans (s2.trans s3))))))))))) ((z0.1.trans (z1.1.trans (z2.1.trans (z3.1.trans (z4.1.trans (z5.1.trans (z6.1.trans (s1.trans (z7.1.trans (z8.1.trans s2)))))))))).free n3) h3 (nine_mk (e := fun i => [a0, a1, a2, a3, a4, a5, a6, a7, a8].getD i 0) ?_)
    intro i hi
    match i, hi with
    | 0, _ => exact z0.2.same (z1.1.trans (z2.1.trans (z3.1.trans (z4.1.trans (z5.1.trans (z6.1.trans (s1.trans (z7.1.trans (z8.1.trans (s2.trans s3))))))))))
    | 1, _ => exact z1.2.same (z2.1.trans (z3.1.trans (z4.1.trans (z5.1.trans (z6.1.trans (s1.trans (z7.1.trans (z8.1.trans (s2.trans s3)))))))))
    | 2, _ => exact z2.2.same (z3.1.trans (z4.1.trans (z5.1.trans (z6.1.trans (s1.trans (z7.1.trans (z8.1.trans (s2.trans s3))))))))
    | 3, _ => exact z3.2.same (z4.1.trans (z5.1.trans (z6.1.trans (s1.trans (z7.1.trans (z8.1.trans (s2.trans s3)))))))
    | 4, _ => exact z4.2.same (z5.1.trans (z6.1.trans (s1.trans (z7.1.trans (z8.1.trans (s2.trans s3))))))
    | 5, _ => exact z5.2.same (z6.1.trans (s1.trans (z7.1.trans (z8.1.trans (s2.trans s3)))))
    | 6, _ => exact z6.2.same (s1.trans (z7.1.trans (z8.1.trans (s2.trans s3))))
    | 7, _ => exact z7.2.same (z8.1.trans (s2.trans s3))
    | 8, _ => exact z8.2.same (s2.trans s3)
theorem sc_name : FnScope ["x", "some"] ["x"] (defScope sName) := ⟨rfl, rfl, rfl, by decide +kernel, rfl, by decide +kernel, by decide +kernel⟩
theorem ok_name {f : Addr} {fd : FuncData} (F : Fun K "_law_by_name" "_law_by_name" sName f fd) (T : Txt K mg C fI G) (J : Ini P w K mg base C fI fdI) : FnOk P w K mg base CX0 3 f fd ["x"] (spBy C) := by
  refine F.ok sc_name (fun vs H Q E h => ?_) (fun cdv A outer s H vs Q E hr h => ?_)
  · obtain ⟨x, rfl, _⟩ := h
    rfl
  · obtain ⟨x, rfl, k⟩ := h
    refine ⟨_, pss_cons (ps_set (i := 1) sc_name.nd rfl (Or.inl rfl) (pe_lst (pa_cons (pe_newXK (T.cl 0 (by decide)).xv (J.FI 0 (by decide)) hr rfl (T.cl 0 (by decide)).g (J.kk 0 (by decide)) pass0 (pk_cons (pv 0) pk_nil)) (pa_cons (pe_newXK (T.cl 1 (by decide)).xv (J.FI 1 (by decide)) hr rfl (T.cl 1 (by decide)).g (J.kk 1 (by decide)) pass0 (pk_cons (pv 0) pk_nil)) (pa_cons (pe_newXK (T.cl 2 (by decide)).xv (J.FI 2 (by decide)) hr rfl (T.cl 2 (by decide)).g (J.kk 2 (by decide)) pass0 (pk_cons (pv 0) pk_nil)) (pa_cons (pe_newXK (T.cl 3 (by decide)).xv (J.FI 3 (by decide)) hr rfl (T.cl 3 (by decide)).g (J.kk 3 (by decide)) pass0 (pk_cons (pv 0) pk_nil)) (pa_cons (pe_newXK (T.cl 4 (by decide)).xv (J.FI 4 (by decide)) hr rfl (T.cl 4 (by decide)).g (J.kk 4 (by decide)) pass0 (pk_cons (pv 0) pk_nil)) pa_nil)))))))
      (pss_one (ps_ret (pe_op op_catR (pv 1) (pe_lst (pa_cons (pe_newXK (T.cl 5 (by decide)).xv (J.FI 5 (by decide)) hr rfl (T.cl 5 (by decide)).g (J.kk 5 (by decide)) pass0 (pk_cons (pv 0) pk_nil)) (pa_cons (pe_newXK (T.cl 6 (by decide)).xv (J.FI 6 (by decide)) hr rfl (T.cl 6 (by decide)).g (J.kk 6 (by decide)) pass0 (pk_cons (pv 0) pk_nil)) (pa_cons (pe_newXK (T.cl 7 (by decide)).xv (J.FI 7 (by decide)) hr rfl (T.cl 7 (by decide)).g (J.kk 7 (by decide)) pass0 (pk_cons (pv 0) pk_nil)) (pa_cons (pe_newXK (T.cl 8 (by decide)).xv J.FU hr rfl (T.cl 8 (by decide)).g J.kkU pass0 (pk_cons pe_int (pk_cons (pv 0) pk_nil))) pa_nil)))))))), ?_⟩
    refine ⟨_, rfl, rfl, rfl, by decide, fun a0 na0 => ⟨a0, x, rfl, upd_same, fun d0 nd0 hda0 => ⟨rfl, ?_⟩⟩⟩
    generalize hA0 : upd (upd (upd _ a0 _) d0 _) a0 _ = A0
    have z0 : Same H A0 ∧ ExI A0 a0 (C 0) 0 x := hA0 ▸ made (by decide) na0 nd0 hda0
    refine ⟨_, rfl, rfl, rfl, by decide, fun a1 na1 => ⟨a1, x, rfl, upd_same, fun d1 nd1 hda1 => ⟨rfl, ?_⟩⟩⟩
    generalize hA1 : upd (upd (upd _ a1 _) d1 _) a1 _ = A1
    have z1 : Same A0 A1 ∧ ExI A1 a1 (C 1) 1 x := hA1 ▸ made (by decide) na1 nd1 hda1
    refine ⟨_, rfl, rfl, rfl, by decide, fun a2 na2 => ⟨a2, x, rfl, upd_same, fun d2 nd2 hda2 => ⟨rfl, ?_⟩⟩⟩
    generalize hA2 : upd (upd (upd _ a2 _) d2 _) a2 _ = A2
    have z2 : Same A1 A2 ∧ ExI A2 a2 (C 2) 2 x := hA2 ▸ made (by decide) na2 nd2 hda2
    refine ⟨_, rfl, rfl, rfl, by decide, fun a3 na3 => ⟨a3, x, rfl, upd_same, fun d3 nd3 hda3 => ⟨rfl, ?_⟩⟩⟩
    generalize hA3 : upd (upd (upd _ a3 _) d3 _) a3 _ = A3
    have z3 : Same A2 A3 ∧ ExI A3 a3 (C 3) 3 x := hA3 ▸ made (by decide) na3 nd3 hda3
    refine ⟨_, rfl, rfl, rfl, by decide, fun a4 na4 => ⟨a4, x, rfl, upd_same, fun d4 nd4 hda4 => ⟨rfl, ?_⟩⟩⟩
    generalize hA4 : upd (upd (upd _ a4 _) d4 _) a4 _ = A4
    have z4 : Same A3 A4 ∧ ExI A4 a4 (C 4) 4 x := hA4 ▸ made (by decide) na4 nd4 hda4
    refine ⟨(by show 5 ≤ sizeLine; decide), fun p1 n1 => ?_⟩
    generalize hB1 : upd _ p1 _ = B1
    have s1 : Same A4 B1 := hB1 ▸ same_new n1
    have h1 : B1 p1 = some _ := hB1 ▸ upd_same
    refine ⟨_, rfl, _, rfl, rfl, rfl, by decide, fun a5 na5 => ⟨a5, x, rfl, upd_same, fun d5 nd5 hda5 => ⟨rfl, ?_⟩⟩⟩
    generalize hA5 : upd (upd (upd _ a5 _) d5 _) a5 _ = A5
    have z5 : Same B1 A5 ∧ ExI A5 a5 (C 5) 5 x := hA5 ▸ made (by decide) na5 nd5 hda5
    refine ⟨_, rfl, rfl, rfl, by decide, fun a6 na6 => ⟨a6, x, rfl, upd_same, fun d6 nd6 hda6 => ⟨rfl, ?_⟩⟩⟩
    generalize hA6 : upd (upd (upd _ a6 _) d6 _) a6 _ = A6
    have z6 : Same A5 A6 ∧ ExI A6 a6 (C 6) 6 x := hA6 ▸ made (by decide) na6 nd6 hda6
    refine ⟨_, rfl, rfl, rfl, by decide, fun a7 na7 => ⟨a7, x, rfl, upd_same, fun d7 nd7 hda7 => ⟨rfl, ?_⟩⟩⟩
    generalize hA7 : upd (upd (upd _ a7 _) d7 _) a7 _ = A7
    have z7 : Same A6 A7 ∧ ExI A7 a7 (C 7) 7 x := hA7 ▸ made (by decide) na7 nd7 hda7
    refine ⟨_, rfl, rfl, rfl, by decide, fun a8 na8 => ⟨a8, x, .int 7, rfl, upd_same, fun d8 nd8 hda8 => ⟨rfl, ?_⟩⟩⟩
    generalize hA8 : upd (upd (upd (upd _ a8 _) d8 _) a8 _) d8 _ = A8
    have z8 : Same A7 A8 ∧ ExI A8 a8 (C 8) 8 x := hA8 ▸ madeU na8 nd8 hda8
    refine ⟨(by show 4 ≤ sizeLine; decide), fun p2 n2 => ?_⟩
    generalize hB2 : upd _ p2 _ = B2
    have s2 : Same A8 B2 := hB2 ▸ same_new n2
    have h2 : B2 p2 = some _ := hB2 ▸ upd_same
    refine ⟨p1, p2, _, _, rfl, rfl, SqL.of ((z5.1.trans (z6.1.trans (z7.1.trans (z8.1.trans s2)))) _ _ h1), SqL.of h2, (by show 5 + 4 ≤ sizeLine; decide), fun p3 n3 => ?_⟩
    generalize hB3 : upd _ p3 _ = B3
    have s3 : Same B2 B3 := hB3 ▸ same_new n3
    have h3 : B3 p3 = some _ := hB3 ▸ upd_same
    refine k B3 p3 _ (z0.1.trans (z1.1.trans (z2.1.trans (z3.1.trans (z4.1.trans (s1.trans (z5.1.trans (z6.1.trans (z7.1.trans (z8.1.trans (s2.trans s3))))))))))) ((z0.1.trans (z1.1.trans (z2.1.trans (z3.1.trans (z4.1.trans (s1.trans (z5.1.trans (z6.1.trans (z7.1.trans (z8.1.trans s2)))))))))).free n3) h3 (nine_mk (e := fun i => [a0, a1, a2, a3, a4, a5, a6, a7, a8].getD i 0) ?_)
    intro i hi
    match i, hi with
    | 0, _ => exact z0.2.same (z1.1.trans (z2.1.trans (z3.1.trans (z4.1.trans (s1.trans (z5.1.trans (z6.1.trans (z7.1.trans (z8.1.trans (s2.trans s3))))))))))
    | 1, _ => exact z1.2.same (z2.1.trans (z3.1.trans (z4.1.trans (s1.trans (z5.1.trans (z6.1.trans (z7.1.trans (z8.1.trans (s2.trans s3)))))))))
    | 2, _ => exact z2.2.same (z3.1.trans (z4.1.trans (s1.trans (z5.1.trans (z6.1.trans (z7.1.trans (z8.1.trans (s2.trans s3))))))))
    | 3, _ => exact z3.2.same (z4.1.trans (s1.trans (z5.1.trans (z6.1.trans (z7.1.trans (z8.1.trans (s2.trans s3)))))))
    | 4, _ => exact z4.2.same (s1.trans (z5.1.trans (z6.1.trans (z7.1.trans (z8.1.trans (s2.trans s3))))))
    | 5, _ => exact z5.2.same (z6.1.trans (z7.1.trans (z8.1.trans (s2.trans s3))))
    | 6, _ => exact z6.2.same (z7.1.trans (z8.1.trans (s2.trans s3)))
    | 7, _ => exact z7.2.same (z8.1.trans (s2.trans s3))
    | 8, _ => exact z8.2.same (s2.trans s3)
theorem sc_fields : FnScope ["some", "x", "found"] ["some", "x"] (defScope sFields) := ⟨rfl, rfl, rfl, by decide +kernel, rfl, by decide +kernel, by decide +kernel⟩
theorem ok_fields {f : Addr} {fd : FuncData} (F : Fun K "_law_fields" "_law_fields" sFields f fd) (T : Txt K mg C fI G) : FnOk P w K mg base CX0 1 f fd ["some", "x"] (spFields C) := by
  refine F.ok sc_fields (fun vs H Q E h => ?_) (fun cdv A outer s H vs Q E hr h => ?_)
  · obtain ⟨l, es, x, rfl, _⟩ := h
    rfl
  · obtain ⟨l, es, x, rfl, hl, ⟨e, rfl, hE⟩, k⟩ := h
    refine ⟨_, pss_cons (ps_set (i := 2) sc_fields.nd rfl (Or.inl rfl) (pe_lst (pa_cons (pe_xvf (pe_ix ix_list (pv 0) pe_int (fun _ _ => rfl))) (pa_cons (pe_xvf (pe_ix ix_list (pv 0) pe_int (fun _ _ => rfl))) (pa_cons (pe_xvf (pe_ix ix_list (pv 0) pe_int (fun _ _ => rfl))) (pa_cons (pe_xvf (pe_ix ix_list (pv 0) pe_int (fun _ _ => rfl))) (pa_cons (pe_xvf (pe_ix ix_list (pv 0) pe_int (fun _ _ => rfl))) pa_nil)))))))
      (pss_cons (ps_set (i := 2) sc_fields.nd rfl (Or.inl rfl) (pe_op op_catR (pv 2) (pe_lst (pa_cons (pe_xvf (pe_ix ix_list (pv 0) pe_int (fun _ _ => rfl))) (pa_cons (pe_xvf (pe_ix ix_list (pv 0) pe_int (fun _ _ => rfl))) (pa_cons (pe_xvf (pe_ix ix_list (pv 0) pe_int (fun _ _ => rfl))) (pa_cons (pe_xvf (pe_ix ix_list (pv 0) pe_int (fun _ _ => rfl))) pa_nil)))))))
      (pss_one (ps_ret (pe_op op_catR (pv 2) (pe_lst (pa_cons (pe_ix ix_list (pe_lst (pa_cons (pv 1) (pa_cons pe_int pa_nil))) (pe_callTy call_int1 (by rfl) T.int PyProof.Rows.boot_int (pa_cons (pe_cmpR op_ne (pe_xvf (pe_ix ix_list (pv 0) pe_int (fun _ _ => rfl))) pe_int (nomark _)) pa_nil)) (fun _ _ => rfl)) pa_nil)))))), ?_⟩
    obtain ⟨d0, ea0, ed0⟩ := hE 0 (by decide)
    obtain ⟨d1, ea1, ed1⟩ := hE 1 (by decide)
    obtain ⟨d2, ea2, ed2⟩ := hE 2 (by decide)
    obtain ⟨d3, ea3, ed3⟩ := hE 3 (by decide)
    obtain ⟨d4, ea4, ed4⟩ := hE 4 (by decide)
    obtain ⟨d5, ea5, ed5⟩ := hE 5 (by decide)
    obtain ⟨d6, ea6, ed6⟩ := hE 6 (by decide)
    obtain ⟨d7, ea7, ed7⟩ := hE 7 (by decide)
    obtain ⟨d8, ea8, ed8⟩ := hE 8 (by decide)
    have s0 := Same.refl H
    refine ⟨_, rfl, l, _, _, _, rfl, rfl, SqL.of (s0 _ _ hl), rfl, e 0, C 0, fI 0, d0, fsOf 0 x, x, rfl, (T.cl 0 (by decide)).xv, (T.cl 0 (by decide)).no, s0 _ _ ea0, s0 _ _ ed0, rfl, _, rfl, l, _, _, _, rfl, rfl, SqL.of (s0 _ _ hl), rfl, e 1, C 1, fI 1, d1, fsOf 1 x, x, rfl, (T.cl 1 (by decide)).xv, (T.cl 1 (by decide)).no, s0 _ _ ea1, s0 _ _ ed1, rfl, _, rfl, l, _, _, _, rfl, rfl, SqL.of (s0 _ _ hl), rfl, e 2, C 2, fI 2, d2, fsOf 2 x, x, rfl, (T.cl 2 (by decide)).xv, (T.cl 2 (by decide)).no, s0 _ _ ea2, s0 _ _ ed2, rfl, _, rfl, l, _, _, _, rfl, rfl, SqL.of (s0 _ _ hl), rfl, e 3, C 3, fI 3, d3, fsOf 3 x, x, rfl, (T.cl 3 (by decide)).xv, (T.cl 3 (by decide)).no, s0 _ _ ea3, s0 _ _ ed3, rfl, _, rfl, l, _, _, _, rfl, rfl, SqL.of (s0 _ _ hl), rfl, e 4, C 4, fI 4, d4, fsOf 4 x, x, rfl, (T.cl 4 (by decide)).xv, (T.cl 4 (by decide)).no, s0 _ _ ea4, s0 _ _ ed4, rfl, (by show 5 ≤ sizeLine; decide), fun p1 n1 => ?_⟩
    generalize hB1 : upd _ p1 _ = B1
    have s1 : Same H B1 := hB1 ▸ same_new n1
    have h1 : B1 p1 = some _ := hB1 ▸ upd_same
    refine ⟨_, rfl, _, rfl, l, _, _, _, rfl, rfl, SqL.of (s1 _ _ hl), rfl, e 5, C 5, fI 5, d5, fsOf 5 x, x, rfl, (T.cl 5 (by decide)).xv, (T.cl 5 (by decide)).no, s1 _ _ ea5, s1 _ _ ed5, rfl, _, rfl, l, _, _, _, rfl, rfl, SqL.of (s1 _ _ hl), rfl, e 6, C 6, fI 6, d6, fsOf 6 x, x, rfl, (T.cl 6 (by decide)).xv, (T.cl 6 (by decide)).no, s1 _ _ ea6, s1 _ _ ed6, rfl, _, rfl, l, _, _, _, rfl, rfl, SqL.of (s1 _ _ hl), rfl, e 7, C 7, fI 7, d7, fsOf 7 x, x, rfl, (T.cl 7 (by decide)).xv, (T.cl 7 (by decide)).no, s1 _ _ ea7, s1 _ _ ed7, rfl, _, rfl, l, _, _, _, rfl, rfl, SqL.of (s1 _ _ hl), rfl, e 8, C 8, fI 8, d8, fsOf 8 x, x, rfl, (T.cl 8 (by decide)).xv, (T.cl 8 (by decide)).no, s1 _ _ ea8, s1 _ _ ed8, rfl, (by show 4 ≤ sizeLine; decide), fun p2 n2 => ?_⟩
    generalize hB2 : upd _ p2 _ = B2
    have s2 : Same B1 B2 := hB2 ▸ same_new n2
    have h2 : B2 p2 = some _ := hB2 ▸ upd_same
    refine ⟨p1, p2, _, _, rfl, rfl, SqL.of (s2 _ _ h1), SqL.of h2, (by show 5 + 4 ≤ sizeLine; decide), fun p3 n3 => ?_⟩
    generalize hB3 : upd _ p3 _ = B3
    have s3 : Same B2 B3 := hB3 ▸ same_new n3
    have h3 : B3 p3 = some _ := hB3 ▸ upd_same
    refine ⟨_, rfl, _, rfl, (by show 2 ≤ sizeLine; decide), fun p4 n4 => ?_⟩
    generalize hB4 : upd _ p4 _ = B4
    have s4 : Same B3 B4 := hB4 ▸ same_new n4
    have h4 : B4 p4 = some _ := hB4 ▸ upd_same
    have t4 : Same H B4 := s1.trans (s2.trans (s3.trans s4))
    refine ⟨_, rfl, l, _, _, _, rfl, rfl, SqL.of (t4 _ _ hl), rfl, e 8, C 8, fI 8, d8, fsOf 8 x, .int 7, rfl, (T.cl 8 (by decide)).xv, T.no2, t4 _ _ ea8, t4 _ _ ed8, rfl, rfl, .inr ⟨false, rfl, p4, _, _, x, rfl, rfl, SqL.of h4, rfl, (by show 1 ≤ sizeLine; decide), fun p5 n5 => ?_⟩⟩
    generalize hB5 : upd _ p5 _ = B5
    have s5 : Same B4 B5 := hB5 ▸ same_new n5
    have h5 : B5 p5 = some _ := hB5 ▸ upd_same
    refine ⟨p3, p5, _, _, rfl, rfl, SqL.of (s5 _ _ (s4 _ _ h3)), SqL.of h5, (by show 5 + 4 + 1 ≤ sizeLine; decide), fun p6 n6 => ?_⟩
    generalize hB6 : upd _ p6 _ = B6
    have s6 : Same B5 B6 := hB6 ▸ same_new n6
    have h6 : B6 p6 = some _ := hB6 ▸ upd_same
    exact k B6 p6 (t4.trans (s5.trans s6)) ((t4.trans s5).free n6) h6
end
end G16

namespace G16
open PySem L2
def spRight : Sp := fun vs H Q _ => ∃ (a : Addr) (w0 w1 : Int), vs = [.ref a] ∧ H a = some (.lst [.int w0, .int w1, .int 0]) ∧ -(2 ^ 40) < w1 ∧ w1 < 2 ^ 40 ∧ ∀ H', (∀ b o, H b = some o → b ≠ a → H' b = some o) → Q (.bl true) H'
/-- x is one thing of data -/
def Dat (K : PySem.W.Frag) (H : Hp) (x : V) : Prop := ∃ d, Dp K H x d ∧ SeqAt.shaped (.list [d, d, d, d, d, d, d, d, d, d]) = true
theorem dp_ten {K : PySem.W.Frag} {H : Hp} {p : Addr} {x : V} {d : PyData} (h : H p = some (.lst [x, x, x, x, x, x, x, x, x, x])) (dx : Dp K H x d) : Dp K H (.ref p) (.list [d, d, d, d, d, d, d, d, d, d]) :=
  .lst (SqL.of h) (.cons dx (.cons dx (.cons dx (.cons dx (.cons dx (.cons dx (.cons dx (.cons dx (.cons dx (.cons dx .nil))))))))))
theorem SqT.same {K : PySem.W.Frag} {H H' : Hp} {a : Addr} {xs : List V} (e : Same H H') (h : SqT K H a xs) : SqT K H' a xs := by
  rcases h with (h | ⟨o, h⟩) | h
  · exact .inl (.inl (e _ _ h))
  · exact .inl (.inr ⟨o, e _ _ h⟩)
  · exact .inr h
mutual
theorem Dp.same {K : PySem.W.Frag} {H H' : Hp} (e : Same H H') : ∀ {v : V} {d : PyData}, Dp K H v d → Dp K H' v d
  | _, _, .non => .non
  | _, _, .bl b => .bl b
  | _, _, .int i => .int i
  | _, _, .str x => .str x
  | _, _, .lst h k => .lst (e.seq h) (DpAll.same e k)
  | _, _, .tup h k => .tup (SqT.same e h) (DpAll.same e k)
theorem DpAll.same {K : PySem.W.Frag} {H H' : Hp} (e : Same H H') : ∀ {v : List V} {d : List PyData}, DpAll K H v d → DpAll K H' v d
  | _, _, .nil => .nil
  | _, _, .cons h k => .cons (Dp.same e h) (DpAll.same e k)
end
theorem Nine.same {H H' : Hp} {C : Nat → Addr} {x : V} {es : List V} (h : Nine H C x es) (e : Same H H') : Nine H' C x es := by
  obtain ⟨f, h1, h2⟩ := h
  exact ⟨f, h1, fun i hi => (h2 i hi).same e⟩
def dbits (i : Nat) : List PyData := [0, 1, 2, 3, 4, 5, 6, 7, 8].map fun (k : Nat) => PyData.bool (decide (k = i))
theorem dp_bits {K : PySem.W.Frag} {H : Hp} {i : Nat} : DpAll K H (bits i) (dbits i) :=
  .cons (.bl _) (.cons (.bl _) (.cons (.bl _) (.cons (.bl _) (.cons (.bl _) (.cons (.bl _) (.cons (.bl _) (.cons (.bl _) (.cons (.bl _) .nil))))))))
section
variable {P : Program} {w : World} {K : PySem.W.Frag} {mg : Str → Option Value} {base : Heap} {C fI : Nat → Addr} {G : Addr} {fdI : Nat → FuncData}
theorem scR : FnScope ["well", "x", "some", "spot", "e", "k"] ["well"] (defScope sRight) := ⟨rfl, rfl, rfl, by decide +kernel, rfl, by decide +kernel, by decide +kernel⟩
/-- the defs that are called -/
structure Cal (P : Program) (w : World) (K : PySem.W.Frag) (mg : Str → Option Value) (base : Heap) (C : Nat → Addr) (fD fT fP fN fF : Addr) (dD dT dP dN dF : FuncData) : Prop where
  oD : FnOk P w K mg base CX0 1 fD dD ["well", "cap"] spDraw
  oT : FnOk P w K mg base CX0 1 fT dT ["e"] (spTaken C)
  oP : FnOk P w K mg base CX0 3 fP dP ["x"] (spBy C)
  oN : FnOk P w K mg base CX0 3 fN dN ["x"] (spBy C)
  oF : FnOk P w K mg base CX0 1 fF dF ["some", "x"] (spFields C)
  bD : Binds K dD ["well", "cap"] []
  bT : Binds K dT ["e"] []
  bP : Binds K dP ["x"] []
  bN : Binds K dN ["x"] []
  bF : Binds K dF ["some", "x"] []
  gD : mg "_law_draw" = some (.ref fD)
  gT : mg "_law_taken" = some (.ref fT)
  gP : mg "_law_by_place" = some (.ref fP)
  gN : mg "_law_by_name" = some (.ref fN)
  gF : mg "_law_fields" = some (.ref fF)
  kD : PySem.W.keepIn K (.ref fD) = true
  kT : PySem.W.keepIn K (.ref fT) = true
  kP : PySem.W.keepIn K (.ref fP) = true
  kN : PySem.W.keepIn K (.ref fN) = true
  kF : PySem.W.keepIn K (.ref fF) = true
variable {fD fT fP fN fF : Addr} {dD dT dP dN dF : FuncData}
theorem ok_right {f : Addr} {fd : FuncData} (F : Fun K "_law_right" "_law_right" sRight f fd) (T : Txt K mg C fI G) (L : Cal P w K mg base C fD fT fP fN fF dD dT dP dN dF) : FnOk P w K mg base CX0 4 f fd ["well"] spRight := by
  refine F.ok scR (fun vs H Q E h => ?_) (fun cdv A outer s H vs Q E hr h => ?_)
  · obtain ⟨a, w0, w1, rfl, _⟩ := h
    rfl
  · obtain ⟨a, w0, w1, rfl, ha, b0, b1, k⟩ := h
    have hr1 : Room 1 _ := hr.mono (by decide)
    have hu := hr.units
    refine ⟨_, pss_cons (ps_set (i := 1) scR.nd rfl (Or.inl rfl) (pe_ix ix_list (pe_lst (pa_cons (pe_call L.oD hr1 rfl L.gD L.kD L.bD .nil pass0 (pa_cons (pv 0) (pa_cons (pe_op op_pow pe_int pe_int) pa_nil)))
        (pa_cons (pe_un un_neg pe_int) (pa_cons pe_non (pa_cons pe_str (pa_cons (pe_tup (pa_cons pe_int (pa_cons pe_int pa_nil))) pa_nil)))))) (pe_call L.oD hr1 rfl L.gD L.kD L.bD .nil pass0 (pa_cons (pv 0) (pa_cons pe_int pa_nil))) (fun _ _ => rfl)))
      (pss_cons (ps_for PassesOwn.never rfl (pi_list (pe_lst (pa_cons (pe_call L.oP hr rfl L.gP L.kP L.bP .nil pass0 (pa_cons (pv 1) pa_nil)) (pa_cons (pe_call L.oN hr rfl L.gN L.kN L.bN .nil pass0 (pa_cons (pv 1) pa_nil)) pa_nil)))) (pg_name (i := 2) scR.nd rfl (Or.inl rfl))
        (pss_cons (ps_if (pt_cmpR (op_neD hu) (pe_call L.oF hr1 rfl L.gF L.kF L.bF .nil pass0 (pa_cons (pv 2) (pa_cons (pv 1) pa_nil))) (pe_op op_rep (pe_lst (pa_cons (pv 1) pa_nil)) pe_int) (nomark _)) (pss_one (ps_ret pe_bl)) pss_nil)
        (pss_one (ps_for PassesOwn.never rfl (pi_enum (by rfl) T.en (pa_cons (pv 2) pa_nil)) (pg_tup rfl (pgs_cons (pg_name (i := 3) scR.nd rfl (Or.inr rfl)) (pgs_cons (pg_name (i := 4) scR.nd rfl (Or.inl rfl)) pgs_nil)))
          (pss_cons (ps_if (pt_cmpR (op_neD hu) (pe_call L.oT hr1 rfl L.gT L.kT L.bT .nil pass0 (pa_cons (pv 4) pa_nil))
              (pe_lc (own := [("k", 5)]) (g := gName 5) (tt := tYes) rfl scR.nd (pi_range1 rfl T.rg (pa_cons pe_int pa_nil)) (blkOk_by (N := ["well", "x", "some", "spot", "e", "k"]) (sc := defScope sRight) (by decide +kernel)) (fun _ _ _ _ _ => pg_name (i := 5) scR.nd rfl (Or.inl rfl)) (fun _ _ _ _ _ => pts_nil) (fun _ _ _ _ _ => pe_cmpR op_eq (pv 5) (pv 3) (nomark _))) (nomark _)) (pss_one (ps_ret pe_bl)) pss_nil)
          (pss_one (ps_if (PW.pt (pw_or (pt_not (pt_val (pe_callB call_isXv (by rfl) T.isi PyProof.Rows.boot_isinstance (pa_cons (pv 4) (pa_cons (pe_glob (v := .ref G) rfl T.gG rfl) pa_nil)))))
              (pw_or1 (pt_not (pt_val (pe_callB call_isXv (by rfl) T.isi PyProof.Rows.boot_isinstance (pa_cons (pv 4) (pa_cons (pe_bltn (v := .ty "ValueError") (by rfl) T.ve (by decide +kernel) rfl) pa_nil)))))))) (pss_one (ps_ret pe_bl)) pss_nil))))))) 
      (pss_one (ps_ret (pe_not (pe_callB (call_isXb PySem.F.excAttr_ValueError PySem.F.lkClass_ValueError PySem.F.soClass_ValueError (by decide +kernel)) (by rfl) T.isi PyProof.Rows.boot_isinstance (pa_cons (pe_exb PySem.F.excCall_ValueError (by rfl) T.ve (by decide +kernel) (pa_cons pe_str pa_nil)) (pa_cons (pe_glob (v := .ref G) rfl T.gG rfl) pa_nil))))))), ?_⟩
    -- x = [..][draw]
    refine ⟨_, rfl, _, _, rfl, rfl, ⟨by decide, by decide, by decide⟩, a, w0, w1, 0, _, rfl, ha, by decide, by decide, b0, b1, by decide, by decide, fun z1 w2 w3 _ _ g1 g2 => ?_⟩
    generalize hB1 : upd _ a _ = B1
    have h1 : B1 a = some _ := hB1 ▸ upd_same
    have o1 : ∀ b o, H b = some o → b ≠ a → B1 b = some o := fun b o e n => by rw [← hB1, upd_ne n]; exact e
    refine ⟨_, rfl, (by show 2 ≤ sizeLine; decide), fun t nt => ?_⟩
    generalize hB2 : upd _ t _ = B2
    have s2 : Same B1 B2 := hB2 ▸ same_new nt
    have h2 : B2 t = some _ := hB2 ▸ upd_same
    refine ⟨(by show 5 ≤ sizeLine; decide), fun l nl => ?_⟩
    generalize hB3 : upd _ l _ = B3
    have s3 : Same B2 B3 := hB3 ▸ same_new nl
    have h3 : B3 l = some _ := hB3 ▸ upd_same
    have nta : t ≠ a := (ne_of_none h1 nt).symm
    have nla : l ≠ a := (ne_of_none (s2 _ _ h1) nl).symm
    refine ⟨_, rfl, a, w2, w1, w3, _, rfl, s3 _ _ (s2 _ _ h1), by decide, by decide, b0, b1, by omega, by omega, fun z2 w4 w5 z20 z21 _ _ => ?_⟩
    generalize hB4 : upd _ a _ = B4
    have o4 : ∀ b o, B3 b = some o → b ≠ a → B4 b = some o := fun b o e n => by rw [← hB4, upd_ne n]; exact e
    have h4 : B4 l = some _ := o4 _ _ h3 nla
    have t4 : B4 t = some _ := o4 _ _ (s3 _ _ h2) nta
    have o5 : ∀ b o, H b = some o → b ≠ a → B4 b = some o := fun b o e n => o4 _ _ (s3 _ _ (s2 _ _ (o1 b o e n))) n
    obtain ⟨x, hx, dx⟩ : ∃ x, atI [V.int z1, V.int (-1), V.non, V.str "v", V.ref t] z2 = some x ∧ Dat K B4 x := by
      have : z2 = 0 ∨ z2 = 1 ∨ z2 = 2 ∨ z2 = 3 ∨ z2 = 4 := by omega
      rcases this with rfl | rfl | rfl | rfl | rfl
      · exact ⟨_, rfl, _, .int _, rfl⟩
      · exact ⟨_, rfl, _, .int _, rfl⟩
      · exact ⟨_, rfl, _, .non, rfl⟩
      · exact ⟨_, rfl, _, .str _, by decide +kernel⟩
      · exact ⟨_, rfl, _, .tup (SqT.of t4) (.cons (.int _) (.cons (.int _) .nil)), by decide +kernel⟩
    refine ⟨l, _, _, x, rfl, rfl, SqL.of h4, hx, ?_⟩
    obtain ⟨d, dd, sd⟩ := dx
    -- for some in [..]
    refine ⟨_, rfl, x, rfl, fun H5 p es s5 n5 h5 N5 => ⟨_, rfl, x, rfl, fun H6 p' es' s6 n6 h6 N6 => ⟨(by show 2 ≤ sizeLine; decide), fun m nm => ?_⟩⟩⟩
    generalize hB7 : upd _ m _ = B7
    have s7 : Same H6 B7 := hB7 ▸ same_new nm
    have h7 : B7 m = some _ := hB7 ▸ upd_same
    have e7 : B7 p = some (.lst es) := s7 _ _ (s6 _ _ h5)
    have e7' : B7 p' = some (.lst es') := s7 _ _ h6
    have N7 := N5.same (s6.trans s7)
    have N7' := N6.same s7
    have d7 := Dp.same (s5.trans (s6.trans s7)) dd
    have o7 : ∀ b o, H b = some o → b ≠ a → B7 b = some o := fun b o e n => s7 _ _ (s6 _ _ (s5 _ _ (o5 b o e n)))
    refine ⟨m, rfl, ⟨_, SqL.of h7⟩, for_list (K := K) (a := m) (xs := [.ref p, .ref p']) (fun i σ Hc => ∃ v2 v3 v4 v5, σ = [some (.ref a), some x, v2, v3, v4, v5] ∧ Same B7 Hc)
      ⟨none, none, none, none, rfl, .refl _⟩ (fun i σ Hc _ ⟨_, _, _, _, _, sc⟩ => SqL.of (sc _ _ h7)) ?_ ?_⟩
    · rintro i y σ Hc hi ⟨v2, v3, v4, v5, rfl, sc⟩
      obtain ⟨q, es, rfl, hq, hN⟩ : ∃ q es, y = .ref q ∧ Hc q = some (.lst es) ∧ Nine Hc C x es := by
        match i, hi with
        | 0, hi => exact ⟨p, es, (Option.some.inj hi).symm, sc _ _ e7, N7.same sc⟩
        | 1, hi => exact ⟨p', es', (Option.some.inj hi).symm, sc _ _ e7', N7'.same sc⟩
        | n + 2, hi => simp at hi
      refine ⟨_, rfl, _, rfl, q, es, x, rfl, hq, hN, fun H8 p8 s8 n8 h8 => ?_⟩
      refine ⟨_, rfl, (by show 1 ≤ sizeLine; decide), fun p9 n9 => ?_⟩
      generalize hB9 : upd _ p9 _ = B9
      have s9 : Same H8 B9 := hB9 ▸ same_new n9
      have h9 : B9 p9 = some _ := hB9 ▸ upd_same
      refine ⟨p9, 10, _, rfl, rfl, h9, by decide, by decide, (by show 1 * 10 ≤ sizeLine; decide), fun p10 n10 => ?_⟩
      generalize hB10 : upd _ p10 _ = B10
      have s10 : Same B9 B10 := hB10 ▸ same_new n10
      have h10 : B10 p10 = some (.lst [x, x, x, x, x, x, x, x, x, x]) := hB10 ▸ upd_same
      have dc := Dp.same (sc.trans (s8.trans (s9.trans s10))) d7
      refine same_ne (dp_ten (s10 _ _ (s9 _ _ h8)) dc) (dp_ten h10 dc) sd ⟨_, rfl, iteF ?_⟩
      -- for spot, e in enumerate(some)
      have sq : Same Hc B10 := s8.trans (s9.trans s10)
      refine ⟨_, rfl, q, es, rfl, SqL.of (sq _ _ hq), ?_⟩
      obtain ⟨ee, rfl, hE⟩ := hN
      refine for_it (walk_enum (xs := [0, 1, 2, 3, 4, 5, 6, 7, 8].map (fun (k : Nat) => V.ref (ee k)))) (fun j σ Hd => ∃ v3 v4 v5, σ = [some (.ref a), some x, some (.ref q), v3, v4, v5] ∧ Same B10 Hd)
        ⟨_, _, _, rfl, .refl _⟩ (fun j σ Hd _ ⟨_, _, _, _, sd⟩ => SqL.of (sd _ _ (sq _ _ hq))) ?_ ?_
      · rintro j y σ Hd Hd' hj ⟨v3, v4, v5, rfl, sd⟩ ⟨T0, y1, y2, rfl, nT, rfl, ey1, ey2⟩
        have hj9 : j < 9 := hj
        obtain rfl : y1 = V.int (j : Nat) := (Option.some.inj ey1).symm
        obtain rfl : y2 = V.ref (ee j) := by
          match j, hj9, ey2 with
          | 0, _, e => exact (Option.some.inj e).symm
          | 1, _, e => exact (Option.some.inj e).symm
          | 2, _, e => exact (Option.some.inj e).symm
          | 3, _, e => exact (Option.some.inj e).symm
          | 4, _, e => exact (Option.some.inj e).symm
          | 5, _, e => exact (Option.some.inj e).symm
          | 6, _, e => exact (Option.some.inj e).symm
          | 7, _, e => exact (Option.some.inj e).symm
          | 8, _, e => exact (Option.some.inj e).symm
        refine ⟨T0, _, rfl, SqT.of upd_same, rfl, _, _, rfl, _, _, rfl, rfl, ?_⟩
        generalize hB11 : upd _ T0 _ = B11
        have s11 : Same Hd B11 := hB11 ▸ same_new nT
        have sE : Same Hc B11 := sq.trans (sd.trans s11)
        refine ⟨_, rfl, ee j, j, x, rfl, hj9, (hE j hj9).same sE, fun H12 p12 s12 n12 h12 => ?_⟩
        refine ⟨9, rfl, by decide, by decide, fun D nD => ?_⟩
        refine lc_range (lo := 0) (n := 9) (fun i Hl => Same H12 Hl ∧ Hl D = some (.lst ((List.range i).map fun (k : Nat) => V.bl (decide (k = j))))) ⟨same_new nD, upd_same⟩ ?_ ?_
        · rintro i Hl hi ⟨sl, hl⟩
          refine ⟨rfl, _, rfl, _, rfl, rfl, _, hl, ?_, fun b o e => ?_, ?_⟩
          · rw [List.length_map, List.length_range]
            exact small1000 (by omega)
          · rw [upd_ne (ne_of_none e nD)]
            exact sl b o e
          · rw [upd_same, List.range_succ, List.map_append]
            have ez : decide (V.int (0 + (i : Int)) = V.int (j : Int)) = decide (i = j) := by
              apply decide_eq_decide.mpr
              constructor
              · intro z
                have := V.int.inj z
                omega
              · intro z
                rw [z, Int.zero_add]
            rw [ez]
            rfl
        · rintro Hl ⟨sl, hl⟩
          have hl' : Hl D = some (.lst (bits j)) := hl
          refine same_ne (.lst (SqL.of (sl _ _ h12)) (dp_bits (i := j))) (.lst (SqL.of hl') (dp_bits (i := j))) rfl ⟨_, rfl, iteF ?_⟩
          obtain ⟨dj, ea, ed⟩ := (hE j hj9).same (sE.trans (s12.trans sl))
          refine ⟨_, rfl, ee j, C j, fI j, dj, fsOf j x, _, _, _, rfl, (T.cl j hj9).xv, ea, ed, .own _, T.isG j hj9, _, rfl, iteF ?_⟩
          refine ⟨_, rfl, ee j, C j, fI j, dj, fsOf j x, _, _, _, rfl, (T.cl j hj9).xv, ea, ed, .ty _, T.isV j hj9, _, rfl, iteF ?_⟩
          exact ⟨_, _, _, rfl, sd.trans (s11.trans (s12.trans sl))⟩
      · rintro σ Hd ⟨v3, v4, v5, rfl, sd⟩
        exact ⟨_, _, _, _, rfl, sc.trans (sq.trans sd)⟩
    · rintro σ Hc ⟨v2, v3, v4, v5, rfl, sc⟩
      refine ⟨(by show 1 ≤ sizeLine; decide), fun z nz => ⟨z, _, _, _, rfl, upd_same, .own _, T.vG, _, rfl, ?_⟩⟩
      refine k _ fun b o e n => ?_
      have q := sc _ _ (o7 b o e n)
      rw [upd_ne (ne_of_none q nz)]
      exact q
end
end G16

namespace G16
open PySem L2
def spLaw (K : PySem.W.Frag) : Sp := fun vs H Q _ => ∃ (a : Addr) (ns : List Int), vs = [.ref a] ∧ SqL K H a (ns.map V.int) ∧ ns.length ≤ 63 ∧ ∀ H', Q (.bl true) H'
theorem cut_int {ns : List Int} {lo hi : Option Int} {i : Nat} {y : V} (h : (cutV (ns.map V.int ++ [V.int 0]) lo hi)[i]? = some y) : ∃ z, y = V.int z := by
  have m : y ∈ cutV (ns.map V.int ++ [V.int 0]) lo hi := List.mem_of_getElem? h
  have m2 : y ∈ ns.map V.int ++ [V.int 0] := List.mem_of_mem_drop (List.mem_of_mem_take m)
  simp only [List.mem_append, List.mem_map, List.mem_singleton] at m2
  rcases m2 with ⟨z, _, e⟩ | e
  · exact ⟨z, e.symm⟩
  · exact ⟨0, e⟩
section
variable {P : Program} {w : World} {K : PySem.W.Frag} {mg : Str → Option Value} {base : Heap} {C fI : Nat → Addr} {G : Addr}
theorem scL : FnScope ["script", "k", "cell"] ["script"] (defScope sLaw) := ⟨rfl, rfl, rfl, by decide +kernel, rfl, by decide +kernel, by decide +kernel⟩
theorem ok_law {f fR : Addr} {fd dR : FuncData} (F : Fun K "law" "law" sLaw f fd) (T : Txt K mg C fI G) (GR : FnOk P w K mg base CX0 4 fR dR ["well"] spRight) (bR : Binds K dR ["well"] []) (gR : mg "_law_right" = some (.ref fR)) (kR : PySem.W.keepIn K (.ref fR) = true) : FnOk P w K mg base CX0 5 f fd ["script"] (spLaw K) := by
  refine F.ok scL (fun vs H Q E h => ?_) (fun cdv A outer s H vs Q E hr h => ?_)
  · obtain ⟨a, ns, rfl, _⟩ := h
    rfl
  · obtain ⟨a, ns, rfl, hS, hl, k⟩ := h
    refine ⟨_, pss_cons (ps_for PassesOwn.never rfl (pi_enum (by rfl) T.en (pa_cons (pe_slice sl_list (pe_op op_catR (pv 0) (pe_lst (pa_cons pe_int pa_nil))) po_none (po_some pe_int)) pa_nil)) (pg_tup rfl (pgs_cons (pg_name (i := 1) scL.nd rfl (Or.inl rfl)) (pgs_cons (pg_name (i := 2) scL.nd rfl (Or.inl rfl)) pgs_nil)))
        (pss_one (ps_if (pt_not (pt_val (pe_call GR hr rfl gR kR bR .nil pass0 (pa_cons (pe_lst (pa_cons (pe_op op_mul (pv 2) (pe_callTy call_int1 (by rfl) T.int PyProof.Rows.boot_int (pa_cons (pe_cmpR op_ge (pv 2) (pe_op op_pow pe_int pe_int) (nomark _)) pa_nil)))
          (pa_cons (pe_op op_add (pe_op op_mod (pv 2) pe_int) (pe_op op_mul pe_int (pv 1))) (pa_cons pe_int pa_nil)))) pa_nil)))) (pss_one (ps_ret pe_bl)) pss_nil)))
      (pss_one (ps_ret pe_bl)), ?_⟩
    refine ⟨_, rfl, (by show 1 ≤ sizeLine; decide), fun p1 n1 => ?_⟩
    generalize hB1 : upd _ p1 _ = B1
    have s1 : Same H B1 := hB1 ▸ same_new n1
    have h1 : B1 p1 = some _ := hB1 ▸ upd_same
    refine ⟨a, p1, _, _, rfl, rfl, s1.seq hS, SqL.of h1, (by rw [List.length_map]; exact Nat.le_trans (Nat.add_le_add_right hl 1) (by decide)), fun p2 n2 => ?_⟩
    generalize hB2 : upd _ p2 _ = B2
    have h2 : B2 p2 = some _ := hB2 ▸ upd_same
    refine ⟨3, rfl, p2, _, rfl, SqL.of h2, fun p3 n3 => ?_⟩
    have hlen := cutV_length (ns.map V.int ++ [V.int 0]) none (some 3)
    have hint : ∀ {i : Nat} {y : V}, (cutV (ns.map V.int ++ [V.int 0]) none (some 3))[i]? = some y → ∃ z, y = V.int z := fun h => cut_int h
    generalize cutV (ns.map V.int ++ [V.int 0]) none (some 3) = cs at hlen hint
    have hlen2 : cs.length ≤ 64 := by
      simp only [List.length_append, List.length_map, List.length_cons, List.length_nil] at hlen
      omega
    refine ⟨p3, cs, rfl, SqL.of upd_same, ?_⟩
    refine for_it (walk_enum (xs := cs)) (fun j σ Hd => ∃ v1 v2, σ = [some (.ref a), v1, v2] ∧ Hd p3 = some (.lst cs)) ⟨_, _, rfl, upd_same⟩ (fun j σ Hd _ ⟨_, _, _, h⟩ => SqL.of h) ?_ ?_
    · rintro j y σ Hd Hd' hj ⟨v1, v2, rfl, hd⟩ ⟨T0, y1, y2, rfl, nT, rfl, ey1, ey2⟩
      obtain rfl : y1 = V.int (j : Nat) := (Option.some.inj ey1).symm
      obtain ⟨z, rfl⟩ := hint ey2
      refine ⟨T0, _, rfl, SqT.of upd_same, rfl, _, _, rfl, _, _, rfl, rfl, ?_⟩
      generalize hB3 : upd _ T0 _ = B3
      have s3 : Same Hd B3 := hB3 ▸ same_new nT
      refine ⟨_, rfl, _, rfl, _, _, rfl, rfl, ⟨by decide, by decide, by decide⟩, _, _, rfl, rfl, .inr ⟨_, rfl, _, _, rfl, rfl, .inr (by split <;> exact ⟨by decide, by decide⟩), ?_⟩⟩
      refine ⟨_, rfl, _, _, rfl, rfl, (by show (0 : Int) < 2147483647; decide), _, rfl, _, _, rfl, rfl, .inl ⟨by decide, by decide⟩, _, _, rfl, rfl, ?_⟩
      refine ⟨(by show 3 ≤ sizeLine; decide), fun p4 n4 => ?_⟩
      have e1 : 0 ≤ z % 2147483647 ∧ z % 2147483647 < 2147483647 := ⟨Int.emod_nonneg _ (by decide), Int.emod_lt_of_pos _ (by decide)⟩
      refine ⟨p4, _, _, rfl, upd_same, by omega, by omega, fun H' o' => ⟨_, rfl, iteF ⟨_, _, rfl, ?_⟩⟩⟩
      have q := s3 _ _ hd
      refine o' _ _ ?_ (ne_of_none q n4)
      rw [upd_ne (ne_of_none q n4)]
      exact q
    · rintro σ Hd ⟨v1, v2, rfl, hd⟩
      exact k Hd
end
end G16

namespace G16
open PySem L2
section
variable {K : PySem.W.Frag} {mg : Str → Option Value}
theorem xv_mk {C fI N : Addr} {nm q : Str} {bs bm : List Value} {sn : List Str} {sub : List Value} {ab : Bool} {col : Option Bool} {dd : Option Addr} {m0 m1 m2 m3 m5 : Option Value}
    (xL : K.lookup C = some (excClassObj nm q C N bs bm true sn sub ab col dd m0 m1 m2 m3 m5 "ValueError.__new__")) (hb : PySem.HandSPX.refsVE bm = true)
    (sa : PySem.W.findIn K (.ref C) "__setattr__" = some (some (.builtin "object.__setattr__"))) (ex : PySem.W.subIn K (.ref C) (.type "BaseException") = some true) (ty : PySem.W.typeIn K (.ref C) = some (.type "type")) (kC : PySem.W.keepIn K (.ref C) = true)
    (iC : PySem.W.findIn K (.ref C) "__init__" = some (some (.ref fI))) (tI : PySem.W.typeIn K (.ref fI) = some (.type "function")) (ga : PySem.W.findIn K (.ref C) "__getattribute__" = some (some (.builtin "BaseException.__getattribute__"))) (gg : PySem.W.findIn K (.ref C) "__getattr__" = some none)
    (hd : PySem.W.hasDictIn K C = true) (hcl : PySem.W.isClsIn K C = true) (kl : PySem.W.findIn K (.ref C) "__class__" = some (some (.builtin "object.__class__"))) (sp : PySem.W.specialIn K (.builtin "object.__class__") "__get__" = some (some (.builtin "getset_descriptor.__get__")))
    (tk : PySem.W.takesIn K (.builtin "object.__class__") = some true) (mo : PySem.W.mroIn K C (.type "object") = some true) : XvC K C fI :=
  ⟨⟨⟨_, _, _, _, _, _, _, _, _, _, _, _, _, _, _, xL, hb⟩, sa, ex, ty, kC⟩, iC, tI, ga, gg, hd, hcl, kl, sp, tk, mo⟩
theorem one_own {C D : Addr} {b : Bool} (hC : PySem.W.isClsIn K D = true) (ty : PySem.W.typeIn K (.ref D) = some (.type "type")) (h : PySem.W.subIn K (.ref C) (.ref D) = some b) (hb : C = D → b = true) : PySem.W.kitOne K (.ref C) (.ref D) = some b := by
  show (if ((Value.ref C : Value) == Value.ref D) = true then some true else (if ((PySem.W.clsIn K D).isSome && PySem.W.typeIn K (.ref D) == some (.type "type")) = true then PySem.W.subIn K (.ref C) (.ref D) else none)) = some b
  by_cases e : C = D
  · rw [if_pos (by rw [e]; exact beq_self_eq_true _), hb e]
  · rw [if_neg (fun z => e (Value.ref.inj (beq_iff_eq.mp z)))]
    have hC' : (PySem.W.clsIn K D).isSome = true := hC
    rw [if_pos (by rw [hC', ty]; rfl), h]
theorem one_ty {C : Addr} {T : String} {b : Bool} (hm : PySem.W.kitMeta T = true) (h : PySem.W.subIn K (.ref C) (.type T) = some b) : PySem.W.kitOne K (.ref C) (.type T) = some b := by
  show (if ((Value.ref C : Value) == Value.type T) = true then some true else (if PySem.W.kitMeta T = true then PySem.W.subIn K (.ref C) (.type T) else none)) = some b
  rw [if_neg (show ¬ (((Value.ref C : Value) == Value.type T) = true) from fun z => by have y := beq_iff_eq.mp z; cases y), if_pos hm, h]
theorem ty_own {T : String} {D : Addr} {b : Bool} (hC : PySem.W.isClsIn K D = true) (ty : PySem.W.typeIn K (.ref D) = some (.type "type")) (h : PySem.W.subIn K (.type T) (.ref D) = some b) : PySem.W.kitOne K (.type T) (.ref D) = some b := by
  show (if ((Value.type T : Value) == Value.ref D) = true then some true else (if ((PySem.W.clsIn K D).isSome && PySem.W.typeIn K (.ref D) == some (.type "type")) = true then PySem.W.subIn K (.type T) (.ref D) else none)) = some b
  have hC' : (PySem.W.clsIn K D).isSome = true := hC
  rw [if_neg (show ¬ (((Value.type T : Value) == Value.ref D) = true) from fun z => by have y := beq_iff_eq.mp z; cases y), if_pos (by rw [hC', ty]; rfl), h]

theorem kp0 {f : Addr} {fd : FuncData} (F : Fun K "__init__" "NoTree.__init__" (sI 0) f fd) : KBn K fd ["self", fld 0] 2 [] (fun us _ => us) (fun vs _ => vs) := by
  obtain ⟨oc, od, kV, doc, pm, an, cdv, ct, osl, rfl, lk, hcd⟩ := F.ex
  exact ⟨fun s us ws _ h1 _ => match us, h1 with | [_, _], _ => .of_eq rfl, fun r _ => r⟩
theorem kk0 {f : Addr} {fd : FuncData} (F : Fun K "__init__" "NoTree.__init__" (sI 0) f fd) : KBn K fd ["self", fld 0] 1 [fld 0] (fun us ws => us ++ ws) (fun vs zs => vs ++ zs) := by
  obtain ⟨oc, od, kV, doc, pm, an, cdv, ct, osl, rfl, lk, hcd⟩ := F.ex
  exact ⟨fun s us ws _ h1 h2 => match us, ws, h1, h2 with | [_], [_], _, _ => .of_eq rfl, fun r r2 => r.append r2⟩
theorem kp1 {f : Addr} {fd : FuncData} (F : Fun K "__init__" "NoRoom.__init__" (sI 1) f fd) : KBn K fd ["self", fld 1] 2 [] (fun us _ => us) (fun vs _ => vs) := by
  obtain ⟨oc, od, kV, doc, pm, an, cdv, ct, osl, rfl, lk, hcd⟩ := F.ex
  exact ⟨fun s us ws _ h1 _ => match us, h1 with | [_, _], _ => .of_eq rfl, fun r _ => r⟩
theorem kk1 {f : Addr} {fd : FuncData} (F : Fun K "__init__" "NoRoom.__init__" (sI 1) f fd) : KBn K fd ["self", fld 1] 1 [fld 1] (fun us ws => us ++ ws) (fun vs zs => vs ++ zs) := by
  obtain ⟨oc, od, kV, doc, pm, an, cdv, ct, osl, rfl, lk, hcd⟩ := F.ex
  exact ⟨fun s us ws _ h1 h2 => match us, ws, h1, h2 with | [_], [_], _, _ => .of_eq rfl, fun r r2 => r.append r2⟩
theorem kp2 {f : Addr} {fd : FuncData} (F : Fun K "__init__" "NoSetting.__init__" (sI 2) f fd) : KBn K fd ["self", fld 2] 2 [] (fun us _ => us) (fun vs _ => vs) := by
  obtain ⟨oc, od, kV, doc, pm, an, cdv, ct, osl, rfl, lk, hcd⟩ := F.ex
  exact ⟨fun s us ws _ h1 _ => match us, h1 with | [_, _], _ => .of_eq rfl, fun r _ => r⟩
theorem kk2 {f : Addr} {fd : FuncData} (F : Fun K "__init__" "NoSetting.__init__" (sI 2) f fd) : KBn K fd ["self", fld 2] 1 [fld 2] (fun us ws => us ++ ws) (fun vs zs => vs ++ zs) := by
  obtain ⟨oc, od, kV, doc, pm, an, cdv, ct, osl, rfl, lk, hcd⟩ := F.ex
  exact ⟨fun s us ws _ h1 h2 => match us, ws, h1, h2 with | [_], [_], _, _ => .of_eq rfl, fun r r2 => r.append r2⟩
theorem kp3 {f : Addr} {fd : FuncData} (F : Fun K "__init__" "NoSlide.__init__" (sI 3) f fd) : KBn K fd ["self", fld 3] 2 [] (fun us _ => us) (fun vs _ => vs) := by
  obtain ⟨oc, od, kV, doc, pm, an, cdv, ct, osl, rfl, lk, hcd⟩ := F.ex
  exact ⟨fun s us ws _ h1 _ => match us, h1 with | [_, _], _ => .of_eq rfl, fun r _ => r⟩
theorem kk3 {f : Addr} {fd : FuncData} (F : Fun K "__init__" "NoSlide.__init__" (sI 3) f fd) : KBn K fd ["self", fld 3] 1 [fld 3] (fun us ws => us ++ ws) (fun vs zs => vs ++ zs) := by
  obtain ⟨oc, od, kV, doc, pm, an, cdv, ct, osl, rfl, lk, hcd⟩ := F.ex
  exact ⟨fun s us ws _ h1 h2 => match us, ws, h1, h2 with | [_], [_], _, _ => .of_eq rfl, fun r r2 => r.append r2⟩
theorem kp4 {f : Addr} {fd : FuncData} (F : Fun K "__init__" "NoPaper.__init__" (sI 4) f fd) : KBn K fd ["self", fld 4] 2 [] (fun us _ => us) (fun vs _ => vs) := by
  obtain ⟨oc, od, kV, doc, pm, an, cdv, ct, osl, rfl, lk, hcd⟩ := F.ex
  exact ⟨fun s us ws _ h1 _ => match us, h1 with | [_, _], _ => .of_eq rfl, fun r _ => r⟩
theorem kk4 {f : Addr} {fd : FuncData} (F : Fun K "__init__" "NoPaper.__init__" (sI 4) f fd) : KBn K fd ["self", fld 4] 1 [fld 4] (fun us ws => us ++ ws) (fun vs zs => vs ++ zs) := by
  obtain ⟨oc, od, kV, doc, pm, an, cdv, ct, osl, rfl, lk, hcd⟩ := F.ex
  exact ⟨fun s us ws _ h1 h2 => match us, ws, h1, h2 with | [_], [_], _, _ => .of_eq rfl, fun r r2 => r.append r2⟩
theorem kp5 {f : Addr} {fd : FuncData} (F : Fun K "__init__" "Locked.__init__" (sI 5) f fd) : KBn K fd ["self", fld 5] 2 [] (fun us _ => us) (fun vs _ => vs) := by
  obtain ⟨oc, od, kV, doc, pm, an, cdv, ct, osl, rfl, lk, hcd⟩ := F.ex
  exact ⟨fun s us ws _ h1 _ => match us, h1 with | [_, _], _ => .of_eq rfl, fun r _ => r⟩
theorem kk5 {f : Addr} {fd : FuncData} (F : Fun K "__init__" "Locked.__init__" (sI 5) f fd) : KBn K fd ["self", fld 5] 1 [fld 5] (fun us ws => us ++ ws) (fun vs zs => vs ++ zs) := by
  obtain ⟨oc, od, kV, doc, pm, an, cdv, ct, osl, rfl, lk, hcd⟩ := F.ex
  exact ⟨fun s us ws _ h1 h2 => match us, ws, h1, h2 with | [_], [_], _, _ => .of_eq rfl, fun r r2 => r.append r2⟩
theorem kp6 {f : Addr} {fd : FuncData} (F : Fun K "__init__" "TooMany.__init__" (sI 6) f fd) : KBn K fd ["self", fld 6] 2 [] (fun us _ => us) (fun vs _ => vs) := by
  obtain ⟨oc, od, kV, doc, pm, an, cdv, ct, osl, rfl, lk, hcd⟩ := F.ex
  exact ⟨fun s us ws _ h1 _ => match us, h1 with | [_, _], _ => .of_eq rfl, fun r _ => r⟩
theorem kk6 {f : Addr} {fd : FuncData} (F : Fun K "__init__" "TooMany.__init__" (sI 6) f fd) : KBn K fd ["self", fld 6] 1 [fld 6] (fun us ws => us ++ ws) (fun vs zs => vs ++ zs) := by
  obtain ⟨oc, od, kV, doc, pm, an, cdv, ct, osl, rfl, lk, hcd⟩ := F.ex
  exact ⟨fun s us ws _ h1 h2 => match us, ws, h1, h2 with | [_], [_], _, _ => .of_eq rfl, fun r r2 => r.append r2⟩
theorem kp7 {f : Addr} {fd : FuncData} (F : Fun K "__init__" "NoLane.__init__" (sI 7) f fd) : KBn K fd ["self", fld 7] 2 [] (fun us _ => us) (fun vs _ => vs) := by
  obtain ⟨oc, od, kV, doc, pm, an, cdv, ct, osl, rfl, lk, hcd⟩ := F.ex
  exact ⟨fun s us ws _ h1 _ => match us, h1 with | [_, _], _ => .of_eq rfl, fun r _ => r⟩
theorem kk7 {f : Addr} {fd : FuncData} (F : Fun K "__init__" "NoLane.__init__" (sI 7) f fd) : KBn K fd ["self", fld 7] 1 [fld 7] (fun us ws => us ++ ws) (fun vs zs => vs ++ zs) := by
  obtain ⟨oc, od, kV, doc, pm, an, cdv, ct, osl, rfl, lk, hcd⟩ := F.ex
  exact ⟨fun s us ws _ h1 h2 => match us, ws, h1, h2 with | [_], [_], _, _ => .of_eq rfl, fun r r2 => r.append r2⟩
theorem kp8 {f : Addr} {fd : FuncData} (F : Fun K "__init__" "Unlike.__init__" (sI 8) f fd) : KBn K fd ["self", "many", "more"] 3 [] (fun us _ => us) (fun vs _ => vs) := by
  obtain ⟨oc, od, kV, doc, pm, an, cdv, ct, osl, rfl, lk, hcd⟩ := F.ex
  exact ⟨fun s us ws _ h1 _ => match us, h1 with | [_, _, _], _ => .of_eq rfl, fun r _ => r⟩
theorem vals_rev : ∀ {vs : List V} {us : List Value}, Vals vs us → Vals vs.reverse us.reverse := by
  intro vs us h
  induction h with
  | nil => exact .nil
  | cons a b ih =>
    rw [List.reverse_cons, List.reverse_cons]
    exact ih.append (.cons a .nil)
theorem kk8 {f : Addr} {fd : FuncData} (F : Fun K "__init__" "Unlike.__init__" (sI 8) f fd) : KBn K fd ["self", "many", "more"] 1 ["more", "many"] (fun us ws => us ++ ws.reverse) (fun vs zs => vs ++ zs.reverse) := by
  obtain ⟨oc, od, kV, doc, pm, an, cdv, ct, osl, rfl, lk, hcd⟩ := F.ex
  exact ⟨fun s us ws _ h1 h2 => match us, ws, h1, h2 with | [_], [_, _], _, _ => .of_eq rfl, fun r r2 => r.append (vals_rev r2)⟩
theorem all_mk {l : PySem.W.OpenLaw} {w : World} {h : Heap} {fa G0 C0 C1 C2 C3 C4 C5 C6 C7 C8 f0 f1 f2 f3 f4 f5 f6 f7 f8 fD fT fP fN fQ fR fL : Addr} {fd0 fd1 fd2 fd3 fd4 fd5 fd6 fd7 fd8 dD dT dP dN dQ dR dL : FuncData} (X : K.In h) (G : h.Ns mainGlobals mg) (hfa : mg "law" = some (.ref fa))
    (aC0 : PySem.W.nsIn K mainGlobals "NoTree" = some (some (.ref C0)))
    (x0 : XvC K C0 f0)
    (n0 : PySem.W.findIn K (.ref C0) "at" = some none)
    (F0 : Fun K "__init__" "NoTree.__init__" (sI 0) f0 fd0)
    (i0 : PySem.W.isClsIn K C0 = true) (t0 : PySem.W.typeIn K (.ref C0) = some (.type "type")) (v0 : PySem.W.subIn K (.ref C0) (.type "ValueError") = some true) (g0 : PySem.W.subIn K (.ref C0) (.ref G0) = some true)
    (aC1 : PySem.W.nsIn K mainGlobals "NoRoom" = some (some (.ref C1)))
    (x1 : XvC K C1 f1)
    (n1 : PySem.W.findIn K (.ref C1) "room" = some none)
    (F1 : Fun K "__init__" "NoRoom.__init__" (sI 1) f1 fd1)
    (i1 : PySem.W.isClsIn K C1 = true) (t1 : PySem.W.typeIn K (.ref C1) = some (.type "type")) (v1 : PySem.W.subIn K (.ref C1) (.type "ValueError") = some true) (g1 : PySem.W.subIn K (.ref C1) (.ref G0) = some true)
    (aC2 : PySem.W.nsIn K mainGlobals "NoSetting" = some (some (.ref C2)))
    (x2 : XvC K C2 f2)
    (n2 : PySem.W.findIn K (.ref C2) "at" = some none)
    (F2 : Fun K "__init__" "NoSetting.__init__" (sI 2) f2 fd2)
    (i2 : PySem.W.isClsIn K C2 = true) (t2 : PySem.W.typeIn K (.ref C2) = some (.type "type")) (v2 : PySem.W.subIn K (.ref C2) (.type "ValueError") = some true) (g2 : PySem.W.subIn K (.ref C2) (.ref G0) = some true)
    (aC3 : PySem.W.nsIn K mainGlobals "NoSlide" = some (some (.ref C3)))
    (x3 : XvC K C3 f3)
    (n3 : PySem.W.findIn K (.ref C3) "at" = some none)
    (F3 : Fun K "__init__" "NoSlide.__init__" (sI 3) f3 fd3)
    (i3 : PySem.W.isClsIn K C3 = true) (t3 : PySem.W.typeIn K (.ref C3) = some (.type "type")) (v3 : PySem.W.subIn K (.ref C3) (.type "ValueError") = some true) (g3 : PySem.W.subIn K (.ref C3) (.ref G0) = some true)
    (aC4 : PySem.W.nsIn K mainGlobals "NoPaper" = some (some (.ref C4)))
    (x4 : XvC K C4 f4)
    (n4 : PySem.W.findIn K (.ref C4) "at" = some none)
    (F4 : Fun K "__init__" "NoPaper.__init__" (sI 4) f4 fd4)
    (i4 : PySem.W.isClsIn K C4 = true) (t4 : PySem.W.typeIn K (.ref C4) = some (.type "type")) (v4 : PySem.W.subIn K (.ref C4) (.type "ValueError") = some true) (g4 : PySem.W.subIn K (.ref C4) (.ref G0) = some true)
    (aC5 : PySem.W.nsIn K mainGlobals "Locked" = some (some (.ref C5)))
    (x5 : XvC K C5 f5)
    (n5 : PySem.W.findIn K (.ref C5) "lock" = some none)
    (F5 : Fun K "__init__" "Locked.__init__" (sI 5) f5 fd5)
    (i5 : PySem.W.isClsIn K C5 = true) (t5 : PySem.W.typeIn K (.ref C5) = some (.type "type")) (v5 : PySem.W.subIn K (.ref C5) (.type "ValueError") = some true) (g5 : PySem.W.subIn K (.ref C5) (.ref G0) = some true)
    (aC6 : PySem.W.nsIn K mainGlobals "TooMany" = some (some (.ref C6)))
    (x6 : XvC K C6 f6)
    (n6 : PySem.W.findIn K (.ref C6) "many" = some none)
    (F6 : Fun K "__init__" "TooMany.__init__" (sI 6) f6 fd6)
    (i6 : PySem.W.isClsIn K C6 = true) (t6 : PySem.W.typeIn K (.ref C6) = some (.type "type")) (v6 : PySem.W.subIn K (.ref C6) (.type "ValueError") = some true) (g6 : PySem.W.subIn K (.ref C6) (.ref G0) = some true)
    (aC7 : PySem.W.nsIn K mainGlobals "NoLane" = some (some (.ref C7)))
    (x7 : XvC K C7 f7)
    (n7 : PySem.W.findIn K (.ref C7) "room" = some none)
    (F7 : Fun K "__init__" "NoLane.__init__" (sI 7) f7 fd7)
    (i7 : PySem.W.isClsIn K C7 = true) (t7 : PySem.W.typeIn K (.ref C7) = some (.type "type")) (v7 : PySem.W.subIn K (.ref C7) (.type "ValueError") = some true) (g7 : PySem.W.subIn K (.ref C7) (.ref G0) = some true)
    (aC8 : PySem.W.nsIn K mainGlobals "Unlike" = some (some (.ref C8)))
    (x8 : XvC K C8 f8)
    (n8 : PySem.W.findIn K (.ref C8) "many" = some none)
    (F8 : Fun K "__init__" "Unlike.__init__" (sI 8) f8 fd8)
    (i8 : PySem.W.isClsIn K C8 = true) (t8 : PySem.W.typeIn K (.ref C8) = some (.type "type")) (v8 : PySem.W.subIn K (.ref C8) (.type "ValueError") = some true) (g8 : PySem.W.subIn K (.ref C8) (.ref G0) = some true)
    (n9 : PySem.W.findIn K (.ref C8) "more" = some none) (aG : PySem.W.nsIn K mainGlobals "GuardError" = some (some (.ref G0))) (iG : PySem.W.isClsIn K G0 = true) (tG : PySem.W.typeIn K (.ref G0) = some (.type "type")) (vG : PySem.W.subIn K (.type "ValueError") (.ref G0) = some false)
    (s00 : PySem.W.subIn K (.ref C0) (.ref C0) = some true) (s01 : PySem.W.subIn K (.ref C0) (.ref C1) = some false) (s02 : PySem.W.subIn K (.ref C0) (.ref C2) = some false) (s03 : PySem.W.subIn K (.ref C0) (.ref C3) = some false) (s04 : PySem.W.subIn K (.ref C0) (.ref C4) = some false) (s05 : PySem.W.subIn K (.ref C0) (.ref C5) = some false) (s06 : PySem.W.subIn K (.ref C0) (.ref C6) = some false) (s07 : PySem.W.subIn K (.ref C0) (.ref C7) = some false) (s08 : PySem.W.subIn K (.ref C0) (.ref C8) = some false)
    (s10 : PySem.W.subIn K (.ref C1) (.ref C0) = some false) (s11 : PySem.W.subIn K (.ref C1) (.ref C1) = some true) (s12 : PySem.W.subIn K (.ref C1) (.ref C2) = some false) (s13 : PySem.W.subIn K (.ref C1) (.ref C3) = some false) (s14 : PySem.W.subIn K (.ref C1) (.ref C4) = some false) (s15 : PySem.W.subIn K (.ref C1) (.ref C5) = some false) (s16 : PySem.W.subIn K (.ref C1) (.ref C6) = some false) (s17 : PySem.W.subIn K (.ref C1) (.ref C7) = some false) (s18 : PySem.W.subIn K (.ref C1) (.ref C8) = some false)
    (s20 : PySem.W.subIn K (.ref C2) (.ref C0) = some false) (s21 : PySem.W.subIn K (.ref C2) (.ref C1) = some false) (s22 : PySem.W.subIn K (.ref C2) (.ref C2) = some true) (s23 : PySem.W.subIn K (.ref C2) (.ref C3) = some false) (s24 : PySem.W.subIn K (.ref C2) (.ref C4) = some false) (s25 : PySem.W.subIn K (.ref C2) (.ref C5) = some false) (s26 : PySem.W.subIn K (.ref C2) (.ref C6) = some false) (s27 : PySem.W.subIn K (.ref C2) (.ref C7) = some false) (s28 : PySem.W.subIn K (.ref C2) (.ref C8) = some false)
    (s30 : PySem.W.subIn K (.ref C3) (.ref C0) = some false) (s31 : PySem.W.subIn K (.ref C3) (.ref C1) = some false) (s32 : PySem.W.subIn K (.ref C3) (.ref C2) = some false) (s33 : PySem.W.subIn K (.ref C3) (.ref C3) = some true) (s34 : PySem.W.subIn K (.ref C3) (.ref C4) = some false) (s35 : PySem.W.subIn K (.ref C3) (.ref C5) = some false) (s36 : PySem.W.subIn K (.ref C3) (.ref C6) = some false) (s37 : PySem.W.subIn K (.ref C3) (.ref C7) = some false) (s38 : PySem.W.subIn K (.ref C3) (.ref C8) = some false)
    (s40 : PySem.W.subIn K (.ref C4) (.ref C0) = some false) (s41 : PySem.W.subIn K (.ref C4) (.ref C1) = some false) (s42 : PySem.W.subIn K (.ref C4) (.ref C2) = some false) (s43 : PySem.W.subIn K (.ref C4) (.ref C3) = some false) (s44 : PySem.W.subIn K (.ref C4) (.ref C4) = some true) (s45 : PySem.W.subIn K (.ref C4) (.ref C5) = some false) (s46 : PySem.W.subIn K (.ref C4) (.ref C6) = some false) (s47 : PySem.W.subIn K (.ref C4) (.ref C7) = some false) (s48 : PySem.W.subIn K (.ref C4) (.ref C8) = some false)
    (s50 : PySem.W.subIn K (.ref C5) (.ref C0) = some false) (s51 : PySem.W.subIn K (.ref C5) (.ref C1) = some false) (s52 : PySem.W.subIn K (.ref C5) (.ref C2) = some false) (s53 : PySem.W.subIn K (.ref C5) (.ref C3) = some false) (s54 : PySem.W.subIn K (.ref C5) (.ref C4) = some false) (s55 : PySem.W.subIn K (.ref C5) (.ref C5) = some true) (s56 : PySem.W.subIn K (.ref C5) (.ref C6) = some false) (s57 : PySem.W.subIn K (.ref C5) (.ref C7) = some false) (s58 : PySem.W.subIn K (.ref C5) (.ref C8) = some false)
    (s60 : PySem.W.subIn K (.ref C6) (.ref C0) = some false) (s61 : PySem.W.subIn K (.ref C6) (.ref C1) = some false) (s62 : PySem.W.subIn K (.ref C6) (.ref C2) = some false) (s63 : PySem.W.subIn K (.ref C6) (.ref C3) = some false) (s64 : PySem.W.subIn K (.ref C6) (.ref C4) = some false) (s65 : PySem.W.subIn K (.ref C6) (.ref C5) = some false) (s66 : PySem.W.subIn K (.ref C6) (.ref C6) = some true) (s67 : PySem.W.subIn K (.ref C6) (.ref C7) = some false) (s68 : PySem.W.subIn K (.ref C6) (.ref C8) = some false)
    (s70 : PySem.W.subIn K (.ref C7) (.ref C0) = some false) (s71 : PySem.W.subIn K (.ref C7) (.ref C1) = some false) (s72 : PySem.W.subIn K (.ref C7) (.ref C2) = some false) (s73 : PySem.W.subIn K (.ref C7) (.ref C3) = some false) (s74 : PySem.W.subIn K (.ref C7) (.ref C4) = some false) (s75 : PySem.W.subIn K (.ref C7) (.ref C5) = some false) (s76 : PySem.W.subIn K (.ref C7) (.ref C6) = some false) (s77 : PySem.W.subIn K (.ref C7) (.ref C7) = some true) (s78 : PySem.W.subIn K (.ref C7) (.ref C8) = some false)
    (s80 : PySem.W.subIn K (.ref C8) (.ref C0) = some false) (s81 : PySem.W.subIn K (.ref C8) (.ref C1) = some false) (s82 : PySem.W.subIn K (.ref C8) (.ref C2) = some false) (s83 : PySem.W.subIn K (.ref C8) (.ref C3) = some false) (s84 : PySem.W.subIn K (.ref C8) (.ref C4) = some false) (s85 : PySem.W.subIn K (.ref C8) (.ref C5) = some false) (s86 : PySem.W.subIn K (.ref C8) (.ref C6) = some false) (s87 : PySem.W.subIn K (.ref C8) (.ref C7) = some false) (s88 : PySem.W.subIn K (.ref C8) (.ref C8) = some true)
    (b0 : PySem.W.nsIn K mainGlobals "isinstance" = some none) (b1 : PySem.W.nsIn K mainGlobals "int" = some none) (b2 : PySem.W.nsIn K mainGlobals "enumerate" = some none) (b3 : PySem.W.nsIn K mainGlobals "range" = some none) (b4 : PySem.W.nsIn K mainGlobals "ValueError" = some none)
    (aD : PySem.W.nsIn K mainGlobals "_law_draw" = some (some (.ref fD))) (FD : Fun K "_law_draw" "_law_draw" sDraw fD dD)
    (aT : PySem.W.nsIn K mainGlobals "_law_taken" = some (some (.ref fT))) (FT : Fun K "_law_taken" "_law_taken" sTaken fT dT)
    (aP : PySem.W.nsIn K mainGlobals "_law_by_place" = some (some (.ref fP))) (FP : Fun K "_law_by_place" "_law_by_place" sPlace fP dP)
    (aN : PySem.W.nsIn K mainGlobals "_law_by_name" = some (some (.ref fN))) (FN : Fun K "_law_by_name" "_law_by_name" sName fN dN)
    (aQ : PySem.W.nsIn K mainGlobals "_law_fields" = some (some (.ref fQ))) (FQ : Fun K "_law_fields" "_law_fields" sFields fQ dQ)
    (aR : PySem.W.nsIn K mainGlobals "_law_right" = some (some (.ref fR))) (FR : Fun K "_law_right" "_law_right" sRight fR dR)
    (aL : PySem.W.nsIn K mainGlobals "law" = some (some (.ref fL))) (FL : Fun K "law" "law" sLaw fL dL) :
    ∃ fd : FuncData, (∀ (s : Shared) (v : Value), BindsTo s fd ⟨[v], []⟩ [("script", v)]) ∧ ∀ base : Heap, K.In base → base.Ns mainGlobals mg → FnOk l.prog w K mg base CX0 5 fa fd ["script"] (spLaw K) := by
  have e := hfa.symm.trans (PySem.W.mg_of X G aL)
  cases e
  have T : Txt K mg (fun i => [C0, C1, C2, C3, C4, C5, C6, C7, C8].getD i 0) (fun i => [f0, f1, f2, f3, f4, f5, f6, f7, f8].getD i 0) G0 := {
    cl := fun i hi => match i, hi with
      | 0, _ => ⟨x0, PySem.W.mg_of X G aC0, n0⟩
      | 1, _ => ⟨x1, PySem.W.mg_of X G aC1, n1⟩
      | 2, _ => ⟨x2, PySem.W.mg_of X G aC2, n2⟩
      | 3, _ => ⟨x3, PySem.W.mg_of X G aC3, n3⟩
      | 4, _ => ⟨x4, PySem.W.mg_of X G aC4, n4⟩
      | 5, _ => ⟨x5, PySem.W.mg_of X G aC5, n5⟩
      | 6, _ => ⟨x6, PySem.W.mg_of X G aC6, n6⟩
      | 7, _ => ⟨x7, PySem.W.mg_of X G aC7, n7⟩
      | 8, _ => ⟨x8, PySem.W.mg_of X G aC8, n8⟩
    no2 := n9
    is := fun i j hi hj => match i, j, hi, hj with
      | 0, 0, _, _ => one_own i0 t0 s00 (fun z => rfl)
      | 0, 1, _, _ => one_own i1 t1 s01 (fun z => by have z2 : C0 = C1 := z; rw [z2] at s01; exact absurd (s01.symm.trans s11) (by decide))
      | 0, 2, _, _ => one_own i2 t2 s02 (fun z => by have z2 : C0 = C2 := z; rw [z2] at s02; exact absurd (s02.symm.trans s22) (by decide))
      | 0, 3, _, _ => one_own i3 t3 s03 (fun z => by have z2 : C0 = C3 := z; rw [z2] at s03; exact absurd (s03.symm.trans s33) (by decide))
      | 0, 4, _, _ => one_own i4 t4 s04 (fun z => by have z2 : C0 = C4 := z; rw [z2] at s04; exact absurd (s04.symm.trans s44) (by decide))
      | 0, 5, _, _ => one_own i5 t5 s05 (fun z => by have z2 : C0 = C5 := z; rw [z2] at s05; exact absurd (s05.symm.trans s55) (by decide))
      | 0, 6, _, _ => one_own i6 t6 s06 (fun z => by have z2 : C0 = C6 := z; rw [z2] at s06; exact absurd (s06.symm.trans s66) (by decide))
      | 0, 7, _, _ => one_own i7 t7 s07 (fun z => by have z2 : C0 = C7 := z; rw [z2] at s07; exact absurd (s07.symm.trans s77) (by decide))
      | 0, 8, _, _ => one_own i8 t8 s08 (fun z => by have z2 : C0 = C8 := z; rw [z2] at s08; exact absurd (s08.symm.trans s88) (by decide))
      | 1, 0, _, _ => one_own i0 t0 s10 (fun z => by have z2 : C1 = C0 := z; rw [z2] at s10; exact absurd (s10.symm.trans s00) (by decide))
      | 1, 1, _, _ => one_own i1 t1 s11 (fun z => rfl)
      | 1, 2, _, _ => one_own i2 t2 s12 (fun z => by have z2 : C1 = C2 := z; rw [z2] at s12; exact absurd (s12.symm.trans s22) (by decide))
      | 1, 3, _, _ => one_own i3 t3 s13 (fun z => by have z2 : C1 = C3 := z; rw [z2] at s13; exact absurd (s13.symm.trans s33) (by decide))
      | 1, 4, _, _ => one_own i4 t4 s14 (fun z => by have z2 : C1 = C4 := z; rw [z2] at s14; exact absurd (s14.symm.trans s44) (by decide))
      | 1, 5, _, _ => one_own i5 t5 s15 (fun z => by have z2 : C1 = C5 := z; rw [z2] at s15; exact absurd (s15.symm.trans s55) (by decide))
      | 1, 6, _, _ => one_own i6 t6 s16 (fun z => by have z2 : C1 = C6 := z; rw [z2] at s16; exact absurd (s16.symm.trans s66) (by decide))
      | 1, 7, _, _ => one_own i7 t7 s17 (fun z => by have z2 : C1 = C7 := z; rw [z2] at s17; exact absurd (s17.symm.trans s77) (by decide))
      | 1, 8, _, _ => one_own i8 t8 s18 (fun z => by have z2 : C1 = C8 := z; rw [z2] at s18; exact absurd (s18.symm.trans s88) (by decide))
      | 2, 0, _, _ => one_own i0 t0 s20 (fun z => by have z2 : C2 = C0 := z; rw [z2] at s20; exact absurd (s20.symm.trans s00) (by decide))
      | 2, 1, _, _ => one_own i1 t1 s21 (fun z => by have z2 : C2 = C1 := z; rw [z2] at s21; exact absurd (s21.symm.trans s11) (by decide))
      | 2, 2, _, _ => one_own i2 t2 s22 (fun z => rfl)
      | 2, 3, _, _ => one_own i3 t3 s23 (fun z => by have z2 : C2 = C3 := z; rw [z2] at s23; exact absurd (s23.symm.trans s33) (by decide))
      | 2, 4, _, _ => one_own i4 t4 s24 (fun z => by have z2 : C2 = C4 := z; rw [z2] at s24; exact absurd (s24.symm.trans s44) (by decide))
      | 2, 5, _, _ => one_own i5 t5 s25 (fun z => by have z2 : C2 = C5 := z; rw [z2] at s25; exact absurd (s25.symm.trans s55) (by decide))
      | 2, 6, _, _ => one_own i6 t6 s26 (fun z => by have z2 : C2 = C6 := z; rw [z2] at s26; exact absurd (s26.symm.trans s66) (by decide))
      | 2, 7, _, _ => one_own i7 t7 s27 (fun z => by have z2 : C2 = C7 := z; rw [z2] at s27; exact absurd (s27.symm.trans s77) (by decide))
      | 2, 8, _, _ => one_own i8 t8 s28 (fun z => by have z2 : C2 = C8 := z; rw [z2] at s28; exact absurd (s28.symm.trans s88) (by decide))
      | 3, 0, _, _ => one_own i0 t0 s30 (fun z => by have z2 : C3 = C0 := z; rw [z2] at s30; exact absurd (s30.symm.trans s00) (by decide))
      | 3, 1, _, _ => one_own i1 t1 s31 (fun z => by have z2 : C3 = C1 := z; rw [z2] at s31; exact absurd (s31.symm.trans s11) (by decide))
      | 3, 2, _, _ => one_own i2 t2 s32 (fun z => by have z2 : C3 = C2 := z; rw [z2] at s32; exact absurd (s32.symm.trans s22) (by decide))
      | 3, 3, _, _ => one_own i3 t3 s33 (fun z => rfl)
      | 3, 4, _, _ => one_own i4 t4 s34 (fun z => by have z2 : C3 = C4 := z; rw [z2] at s34; exact absurd (s34.symm.trans s44) (by decide))
      | 3, 5, _, _ => one_own i5 t5 s35 (fun z => by have z2 : C3 = C5 := z; rw [z2] at s35; exact absurd (s35.symm.trans s55) (by decide))
      | 3, 6, _, _ => one_own i6 t6 s36 (fun z => by have z2 : C3 = C6 := z; rw [z2] at s36; exact absurd (s36.symm.trans s66) (by decide))
      | 3, 7, _, _ => one_own i7 t7 s37 (fun z => by have z2 : C3 = C7 := z; rw [z2] at s37; exact absurd (s37.symm.trans s77) (by decide))
      | 3, 8, _, _ => one_own i8 t8 s38 (fun z => by have z2 : C3 = C8 := z; rw [z2] at s38; exact absurd (s38.symm.trans s88) (by decide))
      | 4, 0, _, _ => one_own i0 t0 s40 (fun z => by have z2 : C4 = C0 := z; rw [z2] at s40; exact absurd (s40.symm.trans s00) (by decide))
      | 4, 1, _, _ => one_own i1 t1 s41 (fun z => by have z2 : C4 = C1 := z; rw [z2] at s41; exact absurd (s41.symm.trans s11) (by decide))
      | 4, 2, _, _ => one_own i2 t2 s42 (fun z => by have z2 : C4 = C2 := z; rw [z2] at s42; exact absurd (s42.symm.trans s22) (by decide))
      | 4, 3, _, _ => one_own i3 t3 s43 (fun z => by have z2 : C4 = C3 := z; rw [z2] at s43; exact absurd (s43.symm.trans s33) (by decide))
      | 4, 4, _, _ => one_own i4 t4 s44 (fun z => rfl)
      | 4, 5, _, _ => one_own i5 t5 s45 (fun z => by have z2 : C4 = C5 := z; rw [z2] at s45; exact absurd (s45.symm.trans s55) (by decide))
      | 4, 6, _, _ => one_own i6 t6 s46 (fun z => by have z2 : C4 = C6 := z; rw [z2] at s46; exact absurd (s46.symm.trans s66) (by decide))
      | 4, 7, _, _ => one_own i7 t7 s47 (fun z => by have z2 : C4 = C7 := z; rw [z2] at s47; exact absurd (s47.symm.trans s77) (by decide))
      | 4, 8, _, _ => one_own i8 t8 s48 (fun z => by have z2 : C4 = C8 := z; rw [z2] at s48; exact absurd (s48.symm.trans s88) (by decide))
      | 5, 0, _, _ => one_own i0 t0 s50 (fun z => by have z2 : C5 = C0 := z; rw [z2] at s50; exact absurd (s50.symm.trans s00) (by decide))
      | 5, 1, _, _ => one_own i1 t1 s51 (fun z => by have z2 : C5 = C1 := z; rw [z2] at s51; exact absurd (s51.symm.trans s11) (by decide))
      | 5, 2, _, _ => one_own i2 t2 s52 (fun z => by have z2 : C5 = C2 := z; rw [z2] at s52; exact absurd (s52.symm.trans s22) (by decide))
      | 5, 3, _, _ => one_own i3 t3 s53 (fun z => by have z2 : C5 = C3 := z; rw [z2] at s53; exact absurd (s53.symm.trans s33) (by decide))
      | 5, 4, _, _ => one_own i4 t4 s54 (fun z => by have z2 : C5 = C4 := z; rw [z2] at s54; exact absurd (s54.symm.trans s44) (by decide))
      | 5, 5, _, _ => one_own i5 t5 s55 (fun z => rfl)
      | 5, 6, _, _ => one_own i6 t6 s56 (fun z => by have z2 : C5 = C6 := z; rw [z2] at s56; exact absurd (s56.symm.trans s66) (by decide))
      | 5, 7, _, _ => one_own i7 t7 s57 (fun z => by have z2 : C5 = C7 := z; rw [z2] at s57; exact absurd (s57.symm.trans s77) (by decide))
      | 5, 8, _, _ => one_own i8 t8 s58 (fun z => by have z2 : C5 = C8 := z; rw [z2] at s58; exact absurd (s58.symm.trans s88) (by decide))
      | 6, 0, _, _ => one_own i0 t0 s60 (fun z => by have z2 : C6 = C0 := z; rw [z2] at s60; exact absurd (s60.symm.trans s00) (by decide))
      | 6, 1, _, _ => one_own i1 t1 s61 (fun z => by have z2 : C6 = C1 := z; rw [z2] at s61; exact absurd (s61.symm.trans s11) (by decide))
      | 6, 2, _, _ => one_own i2 t2 s62 (fun z => by have z2 : C6 = C2 := z; rw [z2] at s62; exact absurd (s62.symm.trans s22) (by decide))
      | 6, 3, _, _ => one_own i3 t3 s63 (fun z => by have z2 : C6 = C3 := z; rw [z2] at s63; exact absurd (s63.symm.trans s33) (by decide))
      | 6, 4, _, _ => one_own i4 t4 s64 (fun z => by have z2 : C6 = C4 := z; rw [z2] at s64; exact absurd (s64.symm.trans s44) (by decide))
      | 6, 5, _, _ => one_own i5 t5 s65 (fun z => by have z2 : C6 = C5 := z; rw [z2] at s65; exact absurd (s65.symm.trans s55) (by decide))
      | 6, 6, _, _ => one_own i6 t6 s66 (fun z => rfl)
      | 6, 7, _, _ => one_own i7 t7 s67 (fun z => by have z2 : C6 = C7 := z; rw [z2] at s67; exact absurd (s67.symm.trans s77) (by decide))
      | 6, 8, _, _ => one_own i8 t8 s68 (fun z => by have z2 : C6 = C8 := z; rw [z2] at s68; exact absurd (s68.symm.trans s88) (by decide))
      | 7, 0, _, _ => one_own i0 t0 s70 (fun z => by have z2 : C7 = C0 := z; rw [z2] at s70; exact absurd (s70.symm.trans s00) (by decide))
      | 7, 1, _, _ => one_own i1 t1 s71 (fun z => by have z2 : C7 = C1 := z; rw [z2] at s71; exact absurd (s71.symm.trans s11) (by decide))
      | 7, 2, _, _ => one_own i2 t2 s72 (fun z => by have z2 : C7 = C2 := z; rw [z2] at s72; exact absurd (s72.symm.trans s22) (by decide))
      | 7, 3, _, _ => one_own i3 t3 s73 (fun z => by have z2 : C7 = C3 := z; rw [z2] at s73; exact absurd (s73.symm.trans s33) (by decide))
      | 7, 4, _, _ => one_own i4 t4 s74 (fun z => by have z2 : C7 = C4 := z; rw [z2] at s74; exact absurd (s74.symm.trans s44) (by decide))
      | 7, 5, _, _ => one_own i5 t5 s75 (fun z => by have z2 : C7 = C5 := z; rw [z2] at s75; exact absurd (s75.symm.trans s55) (by decide))
      | 7, 6, _, _ => one_own i6 t6 s76 (fun z => by have z2 : C7 = C6 := z; rw [z2] at s76; exact absurd (s76.symm.trans s66) (by decide))
      | 7, 7, _, _ => one_own i7 t7 s77 (fun z => rfl)
      | 7, 8, _, _ => one_own i8 t8 s78 (fun z => by have z2 : C7 = C8 := z; rw [z2] at s78; exact absurd (s78.symm.trans s88) (by decide))
      | 8, 0, _, _ => one_own i0 t0 s80 (fun z => by have z2 : C8 = C0 := z; rw [z2] at s80; exact absurd (s80.symm.trans s00) (by decide))
      | 8, 1, _, _ => one_own i1 t1 s81 (fun z => by have z2 : C8 = C1 := z; rw [z2] at s81; exact absurd (s81.symm.trans s11) (by decide))
      | 8, 2, _, _ => one_own i2 t2 s82 (fun z => by have z2 : C8 = C2 := z; rw [z2] at s82; exact absurd (s82.symm.trans s22) (by decide))
      | 8, 3, _, _ => one_own i3 t3 s83 (fun z => by have z2 : C8 = C3 := z; rw [z2] at s83; exact absurd (s83.symm.trans s33) (by decide))
      | 8, 4, _, _ => one_own i4 t4 s84 (fun z => by have z2 : C8 = C4 := z; rw [z2] at s84; exact absurd (s84.symm.trans s44) (by decide))
      | 8, 5, _, _ => one_own i5 t5 s85 (fun z => by have z2 : C8 = C5 := z; rw [z2] at s85; exact absurd (s85.symm.trans s55) (by decide))
      | 8, 6, _, _ => one_own i6 t6 s86 (fun z => by have z2 : C8 = C6 := z; rw [z2] at s86; exact absurd (s86.symm.trans s66) (by decide))
      | 8, 7, _, _ => one_own i7 t7 s87 (fun z => by have z2 : C8 = C7 := z; rw [z2] at s87; exact absurd (s87.symm.trans s77) (by decide))
      | 8, 8, _, _ => one_own i8 t8 s88 (fun z => rfl)
    isG := fun i hi => match i, hi with
      | 0, _ => one_own iG tG g0 (fun _ => rfl)
      | 1, _ => one_own iG tG g1 (fun _ => rfl)
      | 2, _ => one_own iG tG g2 (fun _ => rfl)
      | 3, _ => one_own iG tG g3 (fun _ => rfl)
      | 4, _ => one_own iG tG g4 (fun _ => rfl)
      | 5, _ => one_own iG tG g5 (fun _ => rfl)
      | 6, _ => one_own iG tG g6 (fun _ => rfl)
      | 7, _ => one_own iG tG g7 (fun _ => rfl)
      | 8, _ => one_own iG tG g8 (fun _ => rfl)
    isV := fun i hi => match i, hi with
      | 0, _ => one_ty (by decide +kernel) v0
      | 1, _ => one_ty (by decide +kernel) v1
      | 2, _ => one_ty (by decide +kernel) v2
      | 3, _ => one_ty (by decide +kernel) v3
      | 4, _ => one_ty (by decide +kernel) v4
      | 5, _ => one_ty (by decide +kernel) v5
      | 6, _ => one_ty (by decide +kernel) v6
      | 7, _ => one_ty (by decide +kernel) v7
      | 8, _ => one_ty (by decide +kernel) v8
    vG := ty_own iG tG vG
    gG := PySem.W.mg_of X G aG
    isi := PySem.W.mg_none_of X G b0
    int := PySem.W.mg_none_of X G b1
    en := PySem.W.mg_none_of X G b2
    rg := PySem.W.mg_none_of X G b3
    ve := PySem.W.mg_none_of X G b4 }
  have bL : ∀ (s : Shared) (v : Value), BindsTo s dL ⟨[v], []⟩ [("script", v)] := by
    obtain ⟨oc, od, kV, doc, pm, an, cdv, ct, osl, rfl, lk, hcd⟩ := FL.ex
    exact fun s v => .of_eq rfl
  refine ⟨dL, bL, fun base _ _ => ?_⟩
  have J : Ini l.prog w K mg base (fun i => [C0, C1, C2, C3, C4, C5, C6, C7, C8].getD i 0) (fun i => [f0, f1, f2, f3, f4, f5, f6, f7, f8].getD i 0) (fun i => [fd0, fd1, fd2, fd3, fd4, fd5, fd6, fd7, fd8].getD i default) := {
    FI := fun i hi => match i, hi with
      | 0, _ => ok_i0 F0 (T.cl 0 (by decide))
      | 1, _ => ok_i1 F1 (T.cl 1 (by decide))
      | 2, _ => ok_i2 F2 (T.cl 2 (by decide))
      | 3, _ => ok_i3 F3 (T.cl 3 (by decide))
      | 4, _ => ok_i4 F4 (T.cl 4 (by decide))
      | 5, _ => ok_i5 F5 (T.cl 5 (by decide))
      | 6, _ => ok_i6 F6 (T.cl 6 (by decide))
      | 7, _ => ok_i7 F7 (T.cl 7 (by decide))
    FU := ok_i8 F8 (T.cl 8 (by decide)) n9
    kp := fun i hi => match i, hi with
      | 0, _ => kp0 F0
      | 1, _ => kp1 F1
      | 2, _ => kp2 F2
      | 3, _ => kp3 F3
      | 4, _ => kp4 F4
      | 5, _ => kp5 F5
      | 6, _ => kp6 F6
      | 7, _ => kp7 F7
    kk := fun i hi => match i, hi with
      | 0, _ => kk0 F0
      | 1, _ => kk1 F1
      | 2, _ => kk2 F2
      | 3, _ => kk3 F3
      | 4, _ => kk4 F4
      | 5, _ => kk5 F5
      | 6, _ => kk6 F6
      | 7, _ => kk7 F7
    kpU := kp8 F8
    kkU := kk8 F8 }
  have bD := FD.binds (ps := ["well", "cap"]) fun _ _ _ _ _ _ us hl => match us, hl with | [_, _], _ => rfl
  have bT := FT.binds (ps := ["e"]) fun _ _ _ _ _ _ us hl => match us, hl with | [_], _ => rfl
  have bP := FP.binds (ps := ["x"]) fun _ _ _ _ _ _ us hl => match us, hl with | [_], _ => rfl
  have bN := FN.binds (ps := ["x"]) fun _ _ _ _ _ _ us hl => match us, hl with | [_], _ => rfl
  have bQ := FQ.binds (ps := ["some", "x"]) fun _ _ _ _ _ _ us hl => match us, hl with | [_, _], _ => rfl
  have bR := FR.binds (ps := ["well"]) fun _ _ _ _ _ _ us hl => match us, hl with | [_], _ => rfl
  have L : Cal l.prog w K mg base (fun i => [C0, C1, C2, C3, C4, C5, C6, C7, C8].getD i 0) fD fT fP fN fQ dD dT dP dN dQ := ⟨ok_draw FD, ok_taken FT T, ok_place FP T J, ok_name FN T J, ok_fields FQ T, bD, bT, bP, bN, bQ, PySem.W.mg_of X G aD, PySem.W.mg_of X G aT, PySem.W.mg_of X G aP, PySem.W.mg_of X G aN, PySem.W.mg_of X G aQ, FD.kp, FT.kp, FP.kp, FN.kp, FQ.kp⟩
  exact ok_law FL T (ok_right FR T L) bR (PySem.W.mg_of X G aR) FR.kp
end
theorem walk {l : PySem.W.OpenLaw} {q : Program} {loose : List Str} {XP : (Str → Option Value) → Heap → Prop} {YP : World → Heap → Prop} {d : DefRec} {K : Params → PySem.W.Frag} (hn : l.most = some 63) (hdf : d.params.defaults = [])
    (hY : ∀ (w : World) (h : Heap), YP w h → (K w.params).In h)
    (F : ∀ (w : World) (mg : Str → Option Value) (fa : Addr) (h : Heap), (K w.params).In h → h.Ns mainGlobals mg → mg d.name = some (.ref fa) →
      ∃ fd : FuncData, (∀ (s : Shared) (u : Value), BindsTo s fd ⟨[u], []⟩ [("script", u)]) ∧ ∀ base : Heap, (K w.params).In base → base.Ns mainGlobals mg → FnOk l.prog w (K w.params) mg base CX0 5 fa fd ["script"] (spLaw (K w.params))) :
    PySem.W.WalkO q loose XP YP l.row.toRowW d [] (fun f vs => PySem.call f vs) :=
  L2.walk_of (n := 63) (k := 5) (x := "script") (CX := fun _ => CX0) (sp := fun w => spLaw (K w.params)) hn (by decide) hdf ⟨rfl, by decide, by decide⟩ hY F (fun _ _ a ns hl _ hS => ⟨a, ns, rfl, hS, hl, fun _ => rfl⟩) fun _ _ _ _ _ z => z
end G16
open PySem PySem.W PyProof.Rows
set_option maxRecDepth 100000 in
set_option maxHeartbeats 0 in
theorem PySem.Challenge.cw_apartguards_k16_what_refusals_are_holds : PySem.Challenge.rw_apartguards_k16_what_refusals_are.Holds := by
  w_on; o_law; k_head; (case hw => w_witness2)
  k_fill
  refine G16.walk (l := PySem.Challenge.rw_apartguards_k16_what_refusals_are) rfl rfl (fun w h Y => PySem.W.kIn_of Y) ?F
  case F =>
    intro w mg fa h KX G hmg
    refine' G16.all_mk KX G hmg ?zqaC0 ?zqx0 ?zqn0 ?zqF0 ?zqi0 ?zqt0 ?zqv0 ?zqg0 ?zqaC1 ?zqx1 ?zqn1 ?zqF1 ?zqi1 ?zqt1 ?zqv1 ?zqg1 ?zqaC2 ?zqx2 ?zqn2 ?zqF2 ?zqi2 ?zqt2 ?zqv2 ?zqg2 ?zqaC3 ?zqx3 ?zqn3 ?zqF3 ?zqi3 ?zqt3 ?zqv3 ?zqg3 ?zqaC4 ?zqx4 ?zqn4 ?zqF4 ?zqi4 ?zqt4 ?zqv4 ?zqg4 ?zqaC5 ?zqx5 ?zqn5 ?zqF5 ?zqi5 ?zqt5 ?zqv5 ?zqg5 ?zqaC6 ?zqx6 ?zqn6 ?zqF6 ?zqi6 ?zqt6 ?zqv6 ?zqg6 ?zqaC7 ?zqx7 ?zqn7 ?zqF7 ?zqi7 ?zqt7 ?zqv7 ?zqg7 ?zqaC8 ?zqx8 ?zqn8 ?zqF8 ?zqi8 ?zqt8 ?zqv8 ?zqg8 ?zqn9 ?zqaG ?zqiG ?zqtG ?zqvG ?zqs00 ?zqs01 ?zqs02 ?zqs03 ?zqs04 ?zqs05 ?zqs06 ?zqs07 ?zqs08 ?zqs10 ?zqs11 ?zqs12 ?zqs13 ?zqs14 ?zqs15 ?zqs16 ?zqs17 ?zqs18 ?zqs20 ?zqs21 ?zqs22 ?zqs23 ?zqs24 ?zqs25 ?zqs26 ?zqs27 ?zqs28 ?zqs30 ?zqs31 ?zqs32 ?zqs33 ?zqs34 ?zqs35 ?zqs36 ?zqs37 ?zqs38 ?zqs40 ?zqs41 ?zqs42 ?zqs43 ?zqs44 ?zqs45 ?zqs46 ?zqs47 ?zqs48 ?zqs50 ?zqs51 ?zqs52 ?zqs53 ?zqs54 ?zqs55 ?zqs56 ?zqs57 ?zqs58 ?zqs60 ?zqs61 ?zqs62 ?zqs63 ?zqs64 ?zqs65 ?zqs66 ?zqs67 ?zqs68 ?zqs70 ?zqs71 ?zqs72 ?zqs73 ?zqs74 ?zqs75 ?zqs76 ?zqs77 ?zqs78 ?zqs80 ?zqs81 ?zqs82 ?zqs83 ?zqs84 ?zqs85 ?zqs86 ?zqs87 ?zqs88 ?zqb0 ?zqb1 ?zqb2 ?zqb3 ?zqb4 ?zqaD ?zqFD ?zqaT ?zqFT ?zqaP ?zqFP ?zqaN ?zqFN ?zqaQ ?zqFQ ?zqaR ?zqFR ?zqaL ?zqFL
    (case zqaC0 => k_is); (case zqaC1 => k_is); (case zqaC2 => k_is); (case zqaC3 => k_is); (case zqaC4 => k_is); (case zqaC5 => k_is); (case zqaC6 => k_is); (case zqaC7 => k_is); (case zqaC8 => k_is); (case zqaG => k_is)
    (case zqx0 => (refine' G16.xv_mk ?zqxL ?zqhb ?zqsa ?zqex ?zqty ?zqkC ?zqiC ?zqtI ?zqga ?zqgg ?zqhd ?zqhcl ?zqkl ?zqsp ?zqtk ?zqmo; (case zqxL => k_is); (case zqhb => decide +kernel); (case zqsa => k_is); (case zqex => k_is); (case zqty => k_is); (case zqkC => k_is); (case zqiC => k_is); (case zqtI => k_is); (case zqga => k_is); (case zqgg => k_is); (case zqhd => k_is); (case zqhcl => k_is); (case zqkl => k_is); (case zqsp => k_is); (case zqtk => k_is); (case zqmo => k_is)))
    (case zqF0 => (refine' L2.fun_mk (st := G16.sI 0) ?zql ?zqc ?zqk; (case zql => k_is); (case zqc => k_is); (case zqk => k_is)))
    (case zqn0 => k_is); (case zqi0 => k_is); (case zqt0 => k_is); (case zqv0 => k_is); (case zqg0 => k_is)
    (case zqx1 => (refine' G16.xv_mk ?zqxL ?zqhb ?zqsa ?zqex ?zqty ?zqkC ?zqiC ?zqtI ?zqga ?zqgg ?zqhd ?zqhcl ?zqkl ?zqsp ?zqtk ?zqmo; (case zqxL => k_is); (case zqhb => decide +kernel); (case zqsa => k_is); (case zqex => k_is); (case zqty => k_is); (case zqkC => k_is); (case zqiC => k_is); (case zqtI => k_is); (case zqga => k_is); (case zqgg => k_is); (case zqhd => k_is); (case zqhcl => k_is); (case zqkl => k_is); (case zqsp => k_is); (case zqtk => k_is); (case zqmo => k_is)))
    (case zqF1 => (refine' L2.fun_mk (st := G16.sI 1) ?zql ?zqc ?zqk; (case zql => k_is); (case zqc => k_is); (case zqk => k_is)))
    (case zqn1 => k_is); (case zqi1 => k_is); (case zqt1 => k_is); (case zqv1 => k_is); (case zqg1 => k_is)
    (case zqx2 => (refine' G16.xv_mk ?zqxL ?zqhb ?zqsa ?zqex ?zqty ?zqkC ?zqiC ?zqtI ?zqga ?zqgg ?zqhd ?zqhcl ?zqkl ?zqsp ?zqtk ?zqmo; (case zqxL => k_is); (case zqhb => decide +kernel); (case zqsa => k_is); (case zqex => k_is); (case zqty => k_is); (case zqkC => k_is); (case zqiC => k_is); (case zqtI => k_is); (case zqga => k_is); (case zqgg => k_is); (case zqhd => k_is); (case zqhcl => k_is); (case zqkl => k_is); (case zqsp => k_is); (case zqtk => k_is); (case zqmo => k_is)))
    (case zqF2 => (refine' L2.fun_mk (st := G16.sI 2) ?zql ?zqc ?zqk; (case zql => k_is); (case zqc => k_is); (case zqk => k_is)))
    (case zqn2 => k_is); (case zqi2 => k_is); (case zqt2 => k_is); (case zqv2 => k_is); (case zqg2 => k_is)
    (case zqx3 => (refine' G16.xv_mk ?zqxL ?zqhb ?zqsa ?zqex ?zqty ?zqkC ?zqiC ?zqtI ?zqga ?zqgg ?zqhd ?zqhcl ?zqkl ?zqsp ?zqtk ?zqmo; (case zqxL => k_is); (case zqhb => decide +kernel); (case zqsa => k_is); (case zqex => k_is); (case zqty => k_is); (case zqkC => k_is); (case zqiC => k_is); (case zqtI => k_is); (case zqga => k_is); (case zqgg => k_is); (case zqhd => k_is); (case zqhcl => k_is); (case zqkl => k_is); (case zqsp => k_is); (case zqtk => k_is); (case zqmo => k_is)))
    (case zqF3 => (refine' L2.fun_mk (st := G16.sI 3) ?zql ?zqc ?zqk; (case zql => k_is); (case zqc => k_is); (case zqk => k_is)))
    (case zqn3 => k_is); (case zqi3 => k_is); (case zqt3 => k_is); (case zqv3 => k_is); (case zqg3 => k_is)
    (case zqx4 => (refine' G16.xv_mk ?zqxL ?zqhb ?zqsa ?zqex ?zqty ?zqkC ?zqiC ?zqtI ?zqga ?zqgg ?zqhd ?zqhcl ?zqkl ?zqsp ?zqtk ?zqmo; (case zqxL => k_is); (case zqhb => decide +kernel); (case zqsa => k_is); (case zqex => k_is); (case zqty => k_is); (case zqkC => k_is); (case zqiC => k_is); (case zqtI => k_is); (case zqga => k_is); (case zqgg => k_is); (case zqhd => k_is); (case zqhcl => k_is); (case zqkl => k_is); (case zqsp => k_is); (case zqtk => k_is); (case zqmo => k_is)))
    (case zqF4 => (refine' L2.fun_mk (st := G16.sI 4) ?zql ?zqc ?zqk; (case zql => k_is); (case zqc => k_is); (case zqk => k_is)))
    (case zqn4 => k_is); (case zqi4 => k_is); (case zqt4 => k_is); (case zqv4 => k_is); (case zqg4 => k_is)
    (case zqx5 => (refine' G16.xv_mk ?zqxL ?zqhb ?zqsa ?zqex ?zqty ?zqkC ?zqiC ?zqtI ?zqga ?zqgg ?zqhd ?zqhcl ?zqkl ?zqsp ?zqtk ?zqmo; (case zqxL => k_is); (case zqhb => decide +kernel); (case zqsa => k_is); (case zqex => k_is); (case zqty => k_is); (case zqkC => k_is); (case zqiC => k_is); (case zqtI => k_is); (case zqga => k_is); (case zqgg => k_is); (case zqhd => k_is); (case zqhcl => k_is); (case zqkl => k_is); (case zqsp => k_is); (case zqtk => k_is); (case zqmo => k_is)))
    (case zqF5 => (refine' L2.fun_mk (st := G16.sI 5) ?zql ?zqc ?zqk; (case zql => k_is); (case zqc => k_is); (case zqk => k_is)))
    (case zqn5 => k_is); (case zqi5 => k_is); (case zqt5 => k_is); (case zqv5 => k_is); (case zqg5 => k_is)
    (case zqx6 => (refine' G16.xv_mk ?zqxL ?zqhb ?zqsa ?zqex ?zqty ?zqkC ?zqiC ?zqtI ?zqga ?zqgg ?zqhd ?zqhcl ?zqkl ?zqsp ?zqtk ?zqmo; (case zqxL => k_is); (case zqhb => decide +kernel); (case zqsa => k_is); (case zqex => k_is); (case zqty => k_is); (case zqkC => k_is); (case zqiC => k_is); (case zqtI => k_is); (case zqga => k_is); (case zqgg => k_is); (case zqhd => k_is); (case zqhcl => k_is); (case zqkl => k_is); (case zqsp => k_is); (case zqtk => k_is); (case zqmo => k_is)))
    (case zqF6 => (refine' L2.fun_mk (st := G16.sI 6) ?zql ?zqc ?zqk; (case zql => k_is); (case zqc => k_is); (case zqk => k_is)))
    (case zqn6 => k_is); (case zqi6 => k_is); (case zqt6 => k_is); (case zqv6 => k_is); (case zqg6 => k_is)
    (case zqx7 => (refine' G16.xv_mk ?zqxL ?zqhb ?zqsa ?zqex ?zqty ?zqkC ?zqiC ?zqtI ?zqga ?zqgg ?zqhd ?zqhcl ?zqkl ?zqsp ?zqtk ?zqmo; (case zqxL => k_is); (case zqhb => decide +kernel); (case zqsa => k_is); (case zqex => k_is); (case zqty => k_is); (case zqkC => k_is); (case zqiC => k_is); (case zqtI => k_is); (case zqga => k_is); (case zqgg => k_is); (case zqhd => k_is); (case zqhcl => k_is); (case zqkl => k_is); (case zqsp => k_is); (case zqtk => k_is); (case zqmo => k_is)))
    (case zqF7 => (refine' L2.fun_mk (st := G16.sI 7) ?zql ?zqc ?zqk; (case zql => k_is); (case zqc => k_is); (case zqk => k_is)))
    (case zqn7 => k_is); (case zqi7 => k_is); (case zqt7 => k_is); (case zqv7 => k_is); (case zqg7 => k_is)
    (case zqx8 => (refine' G16.xv_mk ?zqxL ?zqhb ?zqsa ?zqex ?zqty ?zqkC ?zqiC ?zqtI ?zqga ?zqgg ?zqhd ?zqhcl ?zqkl ?zqsp ?zqtk ?zqmo; (case zqxL => k_is); (case zqhb => decide +kernel); (case zqsa => k_is); (case zqex => k_is); (case zqty => k_is); (case zqkC => k_is); (case zqiC => k_is); (case zqtI => k_is); (case zqga => k_is); (case zqgg => k_is); (case zqhd => k_is); (case zqhcl => k_is); (case zqkl => k_is); (case zqsp => k_is); (case zqtk => k_is); (case zqmo => k_is)))
    (case zqF8 => (refine' L2.fun_mk (st := G16.sI 8) ?zql ?zqc ?zqk; (case zql => k_is); (case zqc => k_is); (case zqk => k_is)))
    (case zqn8 => k_is); (case zqi8 => k_is); (case zqt8 => k_is); (case zqv8 => k_is); (case zqg8 => k_is)
    (case zqn9 => k_is); (case zqiG => k_is); (case zqtG => k_is); (case zqvG => k_is)
    (case zqs00 => k_is); (case zqs01 => k_is); (case zqs02 => k_is); (case zqs03 => k_is); (case zqs04 => k_is); (case zqs05 => k_is); (case zqs06 => k_is); (case zqs07 => k_is); (case zqs08 => k_is)
    (case zqs10 => k_is); (case zqs11 => k_is); (case zqs12 => k_is); (case zqs13 => k_is); (case zqs14 => k_is); (case zqs15 => k_is); (case zqs16 => k_is); (case zqs17 => k_is); (case zqs18 => k_is)
    (case zqs20 => k_is); (case zqs21 => k_is); (case zqs22 => k_is); (case zqs23 => k_is); (case zqs24 => k_is); (case zqs25 => k_is); (case zqs26 => k_is); (case zqs27 => k_is); (case zqs28 => k_is)
    (case zqs30 => k_is); (case zqs31 => k_is); (case zqs32 => k_is); (case zqs33 => k_is); (case zqs34 => k_is); (case zqs35 => k_is); (case zqs36 => k_is); (case zqs37 => k_is); (case zqs38 => k_is)
    (case zqs40 => k_is); (case zqs41 => k_is); (case zqs42 => k_is); (case zqs43 => k_is); (case zqs44 => k_is); (case zqs45 => k_is); (case zqs46 => k_is); (case zqs47 => k_is); (case zqs48 => k_is)
    (case zqs50 => k_is); (case zqs51 => k_is); (case zqs52 => k_is); (case zqs53 => k_is); (case zqs54 => k_is); (case zqs55 => k_is); (case zqs56 => k_is); (case zqs57 => k_is); (case zqs58 => k_is)
    (case zqs60 => k_is); (case zqs61 => k_is); (case zqs62 => k_is); (case zqs63 => k_is); (case zqs64 => k_is); (case zqs65 => k_is); (case zqs66 => k_is); (case zqs67 => k_is); (case zqs68 => k_is)
    (case zqs70 => k_is); (case zqs71 => k_is); (case zqs72 => k_is); (case zqs73 => k_is); (case zqs74 => k_is); (case zqs75 => k_is); (case zqs76 => k_is); (case zqs77 => k_is); (case zqs78 => k_is)
    (case zqs80 => k_is); (case zqs81 => k_is); (case zqs82 => k_is); (case zqs83 => k_is); (case zqs84 => k_is); (case zqs85 => k_is); (case zqs86 => k_is); (case zqs87 => k_is); (case zqs88 => k_is)
    (case zqb0 => k_is); (case zqb1 => k_is); (case zqb2 => k_is); (case zqb3 => k_is); (case zqb4 => k_is)
    (case zqaD => k_is); (case zqFD => (refine' L2.fun_mk (st := G16.sDraw) ?zql ?zqc ?zqk; (case zql => k_is); (case zqc => k_is); (case zqk => k_is)))
    (case zqaT => k_is); (case zqFT => (refine' L2.fun_mk (st := G16.sTaken) ?zql ?zqc ?zqk; (case zql => k_is); (case zqc => k_is); (case zqk => k_is)))
    (case zqaP => k_is); (case zqFP => (refine' L2.fun_mk (st := G16.sPlace) ?zql ?zqc ?zqk; (case zql => k_is); (case zqc => k_is); (case zqk => k_is)))
    (case zqaN => k_is); (case zqFN => (refine' L2.fun_mk (st := G16.sName) ?zql ?zqc ?zqk; (case zql => k_is); (case zqc => k_is); (case zqk => k_is)))
    (case zqaQ => k_is); (case zqFQ => (refine' L2.fun_mk (st := G16.sFields) ?zql ?zqc ?zqk; (case zql => k_is); (case zqc => k_is); (case zqk => k_is)))
    (case zqaR => k_is); (case zqFR => (refine' L2.fun_mk (st := G16.sRight) ?zql ?zqc ?zqk; (case zql => k_is); (case zqc => k_is); (case zqk => k_is)))
    (case zqaL => k_is); (case zqFL => (refine' L2.fun_mk (st := G16.sLaw) ?zql ?zqc ?zqk; (case zql => k_is); (case zqc => k_is); (case zqk => k_is)))
