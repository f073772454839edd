import PyProof.Rows.All
import Wide.All
import OpenK.AllK
import Wide.FinOn
import HandS.ForMost
import HandS.Wide
import HandS.Defaults
import HandS.HeadHook2
import HandS.Head0
import HandS.Head1
import HandS.Head2
import HandS.HeadEnd
import HandS.ExcInit
import HandS.ExcIs
import HandS.ExcField
import HandS.MakeKw
import HandS.Words
import KE.KStateDown
import HandS.HeadHook4
import HandS.HeadWalk
import HandS.NestedK
import HandS.OwnEq
import HandS.Star
import HandS.SlotsOwn
import HandS.More
import HandS.IsInst
import HandS.Lambda
import HandS.TryMany
import KE.KDflt
import HandS.MakeKwOnly
import HandS.TupLe
import PySem.Challenge.RW_fillbehind_k04_converters_and_shown_rows
set_option Elab.async false
set_option linter.all false
set_option maxRecDepth 100000
set_option maxHeartbeats 4000000
/-! An own exception class over ValueError (at any depth), its object held as a value: made by place and by name. -/
namespace PySem.VX
open PySem PySem.Calls PyProof.Rows PySem.HandSPX
section
variable {M : Model} {A : Around} {E : Value → Shared → Prop} {h : Heap} {g : Array GenState} {d : Drawn} {t : Nat} {os : OsState}
variable {nm q : Str} {C N : Addr} {bs bm bmB : List Value} {hdct : Bool} {sn : List Str} {sub : List Value} {ab : Bool} {col : Option Bool} {dd : Option Addr} {k0 k1 k2 k3 k5 : Option Value} {B newId initId : String}

theorem look_new (F : ExcBaseFacts B newId initId bmB) (same : ∀ Y : String, bm.contains (.type Y) = bmB.contains (.type Y)) {ps : List Value} {kw : List (Str × Value)} {Q : Unit → Shared → Prop}
    (hC : h.get? C = some (excClassObj nm q C N bs bm hdct sn sub ab col dd k0 k1 k2 k3 k5 newId)) (go : Q () ⟨h, g, d, t, os⟩) :
    wpAny M A (checkBuiltinCall newId ⟨.ref C :: ps, kw⟩) Q E ⟨h, g, d, t, os⟩ := by
  have isB : (Value.ref C :: bm).contains (.type B) = true := by rw [List.contains_cons, same, F.hasB, Bool.or_true]
  have nost := F.noStar
  simp only [checkBuiltinCall, F.newKind, F.newSplit, F.newRow]
  repeat (first
    | refine wpAny_loadPart_at hC ?_
    | (refine wpAny_isSubtype_exc hC ?_; rw [isB])
    | refine wpAny_staticBase_exc hC ?_
    | refine wpAny_madeBy_exc hC ?_
    | simp only [bne_self_eq_false, Bool.false_eq_true, if_false]
    | wp_step)
  exact go
end

section
variable {prog : Program} {w : World} {A : Around} {E : Value → Shared → Prop} {R : Result → Shared → Prop} {h : Heap} {g : Array GenState} {d : Drawn} {t : Nat} {os : OsState}
variable {nm q : Str} {C N : Addr} {bs bm bmB : List Value} {hdct : Bool} {sn : List Str} {sub : List Value} {ab : Bool} {col : Option Bool} {dd : Option Addr} {k0 k1 k2 k3 k5 : Option Value} {B newId initId : String}
/-- the heap behind BaseException.__new__ -/
abbrev newH (h : Heap) (C : Addr) (ps : List Value) : Heap := (h.push (PySem.W.kdv_tup ps)).push (excO C h.objs.size)

theorem is_new (F : ExcBaseFacts B newId initId bmB) (same : ∀ Y : String, bm.contains (.type Y) = bmB.contains (.type Y)) {ps : List Value} {kw : List (Str × Value)}
    (hC : h.get? C = some (excClassObj nm q C N bs bm hdct sn sub ab col dd k0 k1 k2 k3 k5 newId)) (few : ps.length ≤ sizeLine)
    (go : R (.ok (.ret (.ref (h.objs.size + 1)))) ⟨newH h C ps, g, d, t, os⟩) :
    codeAny (model prog w) A (.builtin newId ⟨.ref C :: ps, kw⟩) R ⟨h, g, d, t, os⟩ := by
  have isB : (Value.ref C :: bm).contains (.type B) = true := by rw [List.contains_cons, same, F.hasB, Bool.or_true]
  have noA : (Value.ref C :: bm).contains (.type "AttributeError") = false := by rw [List.contains_cons, same, F.noAttr]; rfl
  have noN : (Value.ref C :: bm).contains (.type "NameError") = false := by rw [List.contains_cons, same, F.noName]; rfl
  have en := F.ends
  refine codeAny_builtinAt F.entry ?_
  unfold Builtin.«BaseException.__new__»
  refine wpAt_bind ?_
  show wpAt _ _ _ (stack >>= _) _ _ _
  refine wpAt_bind (wpAt_stack fun p under => wpAt_of_wpAny ?_)
  wp_walk
  refine wpAt_of_wpAny ?_
  rw [F.owner]
  repeat (first
    | with_reducible refine wpAny_madeHere_exc F.canon hC ?_
    | with_reducible refine wpAny_loadPart_at hC ?_
    | (with_reducible refine wpAny_isSubtype_exc hC ?_; first | rw [isB] | rw [noA] | rw [noN])
    | wp_step)
  show R _ _
  rw [Heap.size_push]
  exact go

theorem is_call (F : ExcBaseFacts B newId initId bmB) (same : ∀ Y : String, bm.contains (.type Y) = bmB.contains (.type Y)) {ps : List Value} {kw : List (Str × Value)} {fI : Addr} {Q : Fin → Shared → Prop}
    (hC : h.get? C = some (excClassObj nm q C N bs bm hdct sn sub ab col dd k0 k1 k2 k3 k5 newId)) (few : ps.length ≤ sizeLine)
    (ini : W.Looks (model prog w) h (typeLookup (.ref C) "__init__") (some (.ref fI))) (bnd : ∀ o, W.Looks (model prog w) h (bindSpecial (.ref fI) o) (.ref fI, [o]))
    (go : codeAny (model prog w) A (.call (.ref fI) ⟨.ref (h.objs.size + 1) :: ps, kw⟩)
      (fun r s' => match r with | .ok (.ret v) => v = .none ∧ Q (.done (.ret (.ref (h.objs.size + 1)))) s' | .ok _ => False | .error e => E e s') ⟨newH h C ps, g, d, t, os⟩) :
    wpAny (model prog w) A (Builtin.«type.__call__» ⟨.ref C :: ps, kw⟩) Q E ⟨h, g, d, t, os⟩ := by
  repeat (first
    | with_reducible refine wpAny_loadPart_at hC ?_
    | with_reducible refine wpAny_madeBy_exc hC ?_
    | wp_step)
  refine codeAny_call_builtin_code (Code.quiet_builtin _ F.quiet) (look_new F same hC ?_)
  refine is_new F same hC few ?_
  show wpAny _ _ _ _ _ _
  have keeps : ∀ b o, h.get? b = some o → (newH h C ps).get? b = some o := fun b o e => Heap.get?_push_of_some _ (Heap.get?_push_of_some _ e)
  have hC2 := keeps _ _ hC
  have at_e : (newH h C ps).get? (h.objs.size + 1) = some (excO C h.objs.size) := by heap_get
  have itself : (Value.ref C :: bm).contains (.ref C) = true := by simp
  have ini2 := ini.keeps keeps
  have bnd2 := (bnd (.ref (h.objs.size + 1))).keeps keeps
  unfold isInstance
  repeat (first
    | with_reducible refine wpAny_loadPart_at at_e ?_
    | (with_reducible refine wpAny_isSubtype_exc hC2 ?_; rw [itself])
    | wp_step)
  show wpAny _ _ (typeLookup (.ref C) _) _ _ _
  refine ini2.at ?_
  refine wpAny_holding (wpAny_bind (bnd2.at ?_))
  refine wpAny_bind (wpAny_call (codeAny_mono go fun r s' z => ?_))
  rcases r with e | (v | _ | _ | _) <;> first | exact z | exact z.elim | skip
  obtain ⟨rfl, z2⟩ := z
  first
    | exact wpAny_pure (wpAny_pure z2)
    | (wp_walk; exact z2)

theorem look_call {M : Model} {E : Value → Shared → Prop} {ps : List Value} {kw : List (Str × Value)} {Q : Unit → Shared → Prop} (hC : h.get? C = some (excClassObj nm q C N bs bm hdct sn sub ab col dd k0 k1 k2 k3 k5 newId)) (go : Q () ⟨h, g, d, t, os⟩) :
    wpAny M A (checkBuiltinCall "type.__call__" ⟨.ref C :: ps, kw⟩) Q E ⟨h, g, d, t, os⟩ := by
  have f := tc_sub
  have ty : (⟨h, g, d, t, os⟩ : Shared).TypeIs (.ref C) "type" := ⟨_, hC, rfl⟩
  simp only [checkBuiltinCall, tc_kind, tc_split]
  repeat (any_goals (first
    | assumption
    | with_reducible refine wpAny_loadPart_at hC ?_
    | with_reducible refine wpAny_onRaise ?_
    | with_reducible refine wpAny_map ?_
    | wp_step))

theorem call_it (F : ExcBaseFacts B newId initId bmB) (same : ∀ Y : String, bm.contains (.type Y) = bmB.contains (.type Y)) {ps : List Value} {kw : List (Str × Value)} {fI : Addr}
    (hC : h.get? C = some (excClassObj nm q C N bs bm hdct sn sub ab col dd k0 k1 k2 k3 k5 newId)) (few : ps.length ≤ sizeLine)
    (ini : W.Looks (model prog w) h (typeLookup (.ref C) "__init__") (some (.ref fI))) (bnd : ∀ o, W.Looks (model prog w) h (bindSpecial (.ref fI) o) (.ref fI, [o]))
    (go : codeAny (model prog w) (A.under (.builtin "type.__call__" ⟨.ref C :: ps, kw⟩)) (.call (.ref fI) ⟨.ref (h.objs.size + 1) :: ps, kw⟩) (W.InitBack (h.objs.size + 1) R) ⟨newH h C ps, g, d, t, os⟩) :
    codeAny (model prog w) A (.call (.ref C) ⟨ps, kw⟩) R ⟨h, g, d, t, os⟩ := by
  have f1 := tc_lookup
  have f2 := tc_bind (.ref C)
  have ty : (⟨h, g, d, t, os⟩ : Shared).TypeIs (.ref C) "type" := ⟨_, hC, rfl⟩
  refine codeAny_of_tree ?_
  show wpAny _ _ (callAny (.ref C) _) _ _ _
  repeat (any_goals (first
    | assumption
    | with_reducible refine wpAny_loadPart_at hC ?_
    | wp_step))
  refine ⟨rfl, ?_⟩
  refine codeAny_call_builtin_at (Code.quiet_builtin _ (by decide +kernel)) entry_typeCall (look_call hC (is_call F same hC few ini bnd ?_))
  refine codeAny_mono go fun r s' z => ?_
  rcases r with e | (v | _ | _ | _) <;> exact z
end
end PySem.VX

set_option maxRecDepth 100000
set_option maxHeartbeats 4000000
/-! isinstance of an own exception's object that has a dict, or none. -/
namespace PySem.W
open PySem PySem.Spec PySem.Calls PyProof.Rows
section
variable {prog : Program} {w : World} {A : Around} {E : Value → Shared → Prop} {s : Shared} {K : Frag} {x D : Addr} {ox : Obj} {od : Option Obj}
theorem vx_bound {C : Addr} {y : Str} {v gg : Value} (is : (clsIn K C).isSome = true) (f : findIn K (.ref C) y = some (some v)) (gt : specialIn K v "__get__" = some (some gg)) (tk : takesIn K v = some true) :
    findObj K C od y = some (.bind gg v) := by
  obtain ⟨cd, e⟩ := Option.isSome_iff_exists.mp is
  unfold findObj
  rw [e, Option.bind_some, f, Option.bind_some]
  simp [gt, tk]
theorem vx_class {Q : Option Value → Shared → Prop} (C : L2.ExcC K D) (X : K.In s.heap) (I : InstAt s.heap x ox D od) (go : Q (some (.ref D)) { s with toks := s.toks + 1 }) :
    wpAny (model prog w) A (getAttr? (.ref x) "__class__") Q E s := by
  have is : (clsIn K D).isSome = true := by
    obtain ⟨cd, hc, _⟩ := any_some C.hd
    rw [hc]; rfl
  have fo : findObj K D od "__class__" = some (.bind (.builtin "getset_descriptor.__get__") (.builtin "object.__class__")) := vx_bound is C.ha C.hn C.ht
  obtain ⟨hh, gs, dr, tk, os⟩ := s
  have T0 := I.type (M := model prog w)
  have T1 := looks_findIn (M := model prog w) X C.hg
  have T2 := looks_findIn (M := model prog w) X C.hk
  have T3 := looks_find (M := model prog w) X I fo
  have sub : Looks (model prog w) hh (isInstance (.ref x) (.type "BaseException")) true := T0.andThen (looks_subIn X C.hs)
  have n0 : (false && onTheHeap (Value.builtin "BaseException.__getattribute__")) = false := rfl
  have n2 : (Value.builtin "BaseException.__getattribute__" == Value.builtin "object.__getattribute__") = false := by decide +kernel
  have n1 : (onTheHeap (Value.ref D) && Value.builtin "BaseException.__getattribute__" == Value.builtin "object.__getattribute__") = false := by
    rw [n2]; rfl
  unfold getAttr? getAttrBy? getAttrBy
  refine wpAny_bind (wpAny_mkText (wpAny_bind (wpAny_attempt (wpAny_holding (wpAny_bind (T0.at (wpAny_bind (T1.at ?_))))))))
  show wpAny _ _ (if (onTheHeap (Value.ref D) && Value.builtin "BaseException.__getattribute__" == Value.builtin "object.__getattribute__") = true
    then _ else _) _ _ _
  rw [n1, if_neg Bool.false_ne_true]
  unfold getAttrByItsOwn hookBefore
  refine wpAny_bind ?_
  rw [if_pos (show onTheHeap (Value.ref D) = true from
    rfl)]
  refine T2.at ?_
  refine wpAny_bind (wpAny_attempt (wpAny_holding ?_))
  unfold callGetattribute
  rw [n0, if_neg Bool.false_ne_true]
  unfold boundAndCalled
  rw [PySem.F.excAttr_ValueError.ga.bind (Value.ref x)]
  refine wpAny_bind (wpAny_pure ?_)
  show wpAny _ _ (call (.builtin "BaseException.__getattribute__") [.ref x, .str "__class__" tk]) _ _ _
  refine wpAny_call (codeAny_call_builtin (PySem.F.excAttr_ValueError.ga.plain) PySem.F.entry_bexc_ga ?_)
  refine @check_slot (model prog w) _ _ ⟨hh, gs, dr, tk + 1, os⟩ "BaseException.__getattribute__" "BaseException" "__getattribute__" (.ref x) [.str "__class__" tk] [] _
    (by decide +kernel) (by decide +kernel) sub (PySem.F.args_bexc_ga (.ref x) (.str "__class__" tk)) ?_
  unfold Builtin.«object.__getattribute__»
  refine wpAny_bind (wpAny_of_eq (a := ((Value.ref x : Value), [Value.str "__class__" tk])) (by
    first | rfl | (simp only [slotArgs]; rfl)) ?_)
  refine wpAny_bind (wpAny_pure (wpAny_bind (T0.at (wpAny_bind (T3.at ?_)))))
  show wpAny _ _ (holding [Value.builtin "object.__class__"] (call (.builtin "getset_descriptor.__get__")
    [.builtin "object.__class__", .ref x, .ref D]) >>= ret) _ _ _
  refine wpAny_bind (wpAny_holding (wpAny_call (class_get (s := ⟨hh, gs, dr, tk + 1, os⟩) (ox := ox) (od := od) X I C.hm ?_)))
  refine wpAny_pure ?_
  show wpAny _ _ (handedOut (.ref D)) _ _ _
  rw [handedOut_of (v := Value.ref D) rfl]
  first
    | exact wpAny_pure (wpAny_pure go)
    | exact wpAny_pure go
theorem vx_kit (C : L2.ExcC K D) : KitX K (.ref x) (.ref D) (fun h => ∃ ox od, InstAt h x ox D od) where
  ty := fun _ _ _ ⟨_, _, I⟩ => I.type
  it := fun _ _ X _ => by
    obtain ⟨cd, hc, _⟩ := any_some C.hd
    unfold clsIn at hc
    split at hc
    · rename_i ho
      intro A' Q' E' s' k q
      unfold isType loadHead
      exact wpAny_bind (wpAny_loadPart (k _ _ (X _ _ ho))
        (wpAny_pure q))
    · cases hc
  ne := fun h tp dd its n sl X htp => by
    obtain ⟨cd, hc, _⟩ := any_some C.hd
    refine Bool.eq_false_iff.mpr fun same => ?_
    have e : D = tp := Value.ref.inj (beq_iff_eq.mp same)
    subst e
    unfold clsIn at hc
    split at hc
    · rename_i ho
      have z := (X _ _ ho).symm.trans htp
      cases z
    · cases hc
  ca := fun X ⟨_, _, I⟩ k => vx_class C X I k
end
end PySem.W

set_option maxRecDepth 100000
set_option maxHeartbeats 4000000
/-! An own exception's object as a value, over the layer: made, its fields read, asked for its class. -/
namespace L2
open PySem PySem.Spec PyProof.Rows

/-- at a: an exception of the class at C, these its fields -/
def IsEx (H : Hp) (a C : Addr) (fs : List (Str × V)) : Prop := (fs = [] ∧ H a = some (exo a C none)) ∨ ∃ dx, H a = some (exo a C (some dx)) ∧ H dx = some (exd dx fs)
theorem IsEx.same {H H' : Hp} {a C : Addr} {fs : List (Str × V)} (h : IsEx H a C fs) (e : Same H H') : IsEx H' a C fs := by
  rcases h with ⟨h1, h2⟩ | ⟨dx, h1, h2⟩
  · exact .inl ⟨h1, e _ _ h2⟩
  · exact .inr ⟨dx, e _ _ h1, e _ _ h2⟩
section
variable {X : Cx} {pins : List (Addr × Obj)} {σ : St} {H : Hp} {s : Shared} {a C : Addr} {fs : List (Str × V)}
theorem IsEx.inst (h : IsEx H a C fs) (I : Inv X pins σ H s) : ∃ ox od, PySem.W.InstAt s.heap a ox C od ∧ ∀ f v, fs.lookup f = some v → ∃ u o, od = some o ∧ PySem.W.lookIn f o = some (some u) ∧ RelV v u := by
  rcases h with ⟨rfl, h⟩ | ⟨dx, h, hd⟩
  · obtain ⟨t, e⟩ := exo_at I.hok h
    exact ⟨_, none, ⟨e, rfl, rfl, trivial⟩, fun f v z => by cases z⟩
  · obtain ⟨t, e⟩ := exo_at I.hok h
    obtain ⟨mA, ns, rel⟩ := exd_at I.hok hd
    obtain ⟨od, eo, lk⟩ := lookIn_ns ns
    refine ⟨_, some od, ⟨e, rfl, rfl, eo⟩, fun f v z => ?_⟩
    obtain ⟨u, eu, ru⟩ := RelO.some_of (v := v) (o := mA f) (by rw [← z]; exact rel f)
    exact ⟨u, od, rfl, by rw [lk, eu], ru⟩
/-- e.f -/
def tExF (K : PySem.W.Frag) (f : Str) (te : TE) : TE := fun σ H Q => te σ H fun x H1 => ∃ (a C : Addr) (fs : List (Str × V)) (v : V), x = .ref a ∧ XfC K C ∧ PySem.W.findIn K (.ref C) f = some none ∧ IsEx H1 a C fs ∧ fs.lookup f = some v ∧ Q v H1
theorem pe_exF {e : Expr} {te : TE} {pos : Pos} {f : Str} (he : PE X e te) (hb : attributeBase e f X.env (eval e X.env) = eval e X.env := by rfl) : PE X (.Attribute e f pos) (tExF X.K f te) := by
  refine ⟨fun pins s σ H Q I h => ?_⟩
  refine attr_of hb (thn (he.run pins s σ H _ I h) fun u s1 hh => ?_)
  obtain ⟨x, H1, I1, rx, a, C, fs, v, ex, T, no, is, l, q⟩ := hh
  subst ex
  obtain rfl : u = Value.ref a := rx
  obtain ⟨ox, od, J, look⟩ := is.inst I1
  obtain ⟨w', o, rfl, lo, rw'⟩ := look f v l
  exact HandSPX.exc_get I1.kIn J T.ga T.gg T.exC (PySem.W.findObj_own T.hdC no rfl lo) (handed_of rw') ⟨v, H1, I1.tok _, rw', q⟩
/-- isinstance(e, c) -/
def rIsX (K : PySem.W.Frag) : List V → Hp → VK → Prop := fun xs H Q => ∃ (a D : Addr) (fs : List (Str × V)) (c : V) (cv : Value) (b : Bool), xs = [.ref a, c] ∧ IsEx H a D fs ∧ ExcC K D ∧ (∀ u, RelV c u → u = cv) ∧ PySem.W.kitOne K (.ref D) cv = some b ∧ Q (.bl b) H
theorem call_isX : CallR X (.builtin "isinstance") (rIsX X.K) := by
  intro pins s σ H xs us Q I r h
  obtain ⟨a, D, fs, c, cv, b, rfl, is, C, hcv, e, q⟩ := h
  obtain ⟨u, v, rfl, ru, rv⟩ := vals2 r
  obtain rfl : u = Value.ref a := ru
  obtain rfl := hcv _ rv
  obtain ⟨ox, od, J, _⟩ := is.inst I
  exact PySem.W.kia_one (PySem.W.vx_kit C) I.kIn ⟨ox, od, J⟩ e (fun z => nomatch z) fun tk => ⟨.bl b, H, I.kept (t' := tk) fun _ _ z => z, rfl, q⟩

/-! ### made: C(e, .., k = v, ..), its own __init__ -/
def tMkX (C : Addr) (n m : Nat) (sp : Sp) (gV : List V → List V → List V) (E : XK) (t tk : TA) : TE := fun σ H Q => t σ H fun vs H1 => tk σ H1 fun zs H2 => vs.length = n ∧ zs.length = m ∧
  ∀ a, H2 a = none → sp (gV (.ref a :: vs) zs) (upd H2 a (exo a C none)) (fun v H3 => v = .non ∧ Q (.ref a) H3) E
/-- what the written part says of such a class -/
structure MkXC (K : PySem.W.Frag) (C fI : Addr) : Prop extends OexC K C where
  ini : PySem.W.findIn K (.ref C) "__init__" = some (some (.ref fI))
  tyI : PySem.W.typeIn K (.ref fI) = some (.type "function")
variable {CX : CXT} {k n : Nat} {fI : Addr} {fd : FuncData} {ps ks : List Str} {sp : Sp} {E : XK} {x : Str} {p pos : Pos} {e : Expr} {es : List Expr} {kws : List Keyword} {t tk : TA} {g : List Value → List Value → List Value} {gV : List V → List V → List V} {Q : VK} {us ws : List Value} {vs zs : List V}
theorem run_mkX (T : MkXC X.K C fI) (F : FnOk X.prog X.w X.K X.mg X.base CX k fI fd ps sp) (hr : Room (k + 1) X.A) (hb : KBn X.K fd ps (n + 1) ks g gV) (hx : Passes CX X E) (few : n ≤ 1000)
    (I : Inv X pins σ H s) (r : Vals vs us) (rz : Vals zs ws) (l1 : vs.length = n) (l2 : zs.length = ks.length)
    (h : ∀ a, H a = none → sp (gV (.ref a :: vs) zs) (upd H a (exo a C none)) (fun v H3 => v = .non ∧ Q (.ref a) H3) E) :
    wpAny (model X.prog X.w) X.A (call (.ref C) us (ks.zip ws)) (EP X pins σ Q) X.xe s := by
  obtain ⟨nm, q, N, bs, bm, sn, sub, ab, col, dd, k0, k1, k2, k3, k5, hC, hbm⟩ := T.cls
  obtain ⟨hp, gs, dr, tk, os⟩ := s
  have up : hp.objs.size ≤ hp.objs.size + 1 := Nat.le_succ _
  have hq := h (hp.objs.size + 1) (I.hok.fresh up)
  have len : us.length ≤ sizeLine := by
    rw [← Paired.length r, l1, sizeLine_eq]
    omega
  have keeps : ∀ b o, hp.get? b = some o → (PySem.VX.newH hp C us).get? b = some o := fun b o z => Heap.get?_push_of_some _ (Heap.get?_push_of_some _ z)
  have at_a : (PySem.VX.newH hp C us).get? (hp.objs.size + 1) = some (PySem.HandSPX.excO C hp.objs.size) := by heap_get
  have J : Inv X pins σ (upd H (hp.objs.size + 1) (exo (hp.objs.size + 1) C none)) ⟨PySem.VX.newH hp C us, gs, dr, tk, os⟩ :=
    I.laid (t' := tk) (a := hp.objs.size + 1) (o := exo (hp.objs.size + 1) C none) (h' := PySem.VX.newH hp C us) keeps up (exo_ok at_a)
  have r1 : Vals (V.ref (hp.objs.size + 1) :: vs) (Value.ref (hp.objs.size + 1) :: us) := .cons rfl r
  have r2 := hb.rel r1 rz
  have m1 : (Value.ref (hp.objs.size + 1) :: us).length = n + 1 := r1.length.symm.trans (congrArg Nat.succ l1)
  have m2 : ws.length = ks.length := rz.length.symm.trans l2
  refine wpAny_call (PySem.VX.call_it PySem.F.excBase_ValueError (fun Y => PySem.HandSPX.refsVE_contains Y bm hbm) (I.kIn _ _ hC) len (PySem.W.looks_findIn I.kIn T.ini) (fun o => PySem.W.bind_fn I.kIn o T.tyI)
    (codeAny_mono (F.run _ X.stack _ _ ⟨Value.ref (hp.objs.size + 1) :: us, ks.zip ws⟩ (g (Value.ref (hp.objs.size + 1) :: us) ws) _ _ E (hr.make C us (ks.zip ws)) (J.env0.make C us (ks.zip ws))
      (hb.to _ (Value.ref (hp.objs.size + 1) :: us) ws J.kIn m1 m2) r2 hq) fun r s' hq' => ?_))
  cases r with
  | error er => exact hx pins σ _ _ er s' J hq'
  | ok fl =>
    cases fl with
    | ret u =>
      obtain ⟨v, H', J2, rv, ev, q3⟩ := J.after hq'
      subst ev
      exact ⟨rv, ⟨V.ref (hp.objs.size + 1), H', J2, rfl, q3⟩⟩
    | next => exact hq'.elim
    | brk => exact hq'.elim
    | cont => exact hq'.elim
/-- C(e, ..) -/
theorem pe_mkX (T : MkXC X.K C fI) (F : FnOk X.prog X.w X.K X.mg X.base CX k fI fd ps sp) (hr : Room (k + 1) X.A) (hg : Gl X x) (hm : X.mg x = some (.ref C)) (hb : KBn X.K fd ps (n + 1) [] g gV) (few : n ≤ 1000) (hx : Passes CX X E)
    (ha : PA X (e :: es) t) (hdb : (x == ("__debug__" : Str)) = false := by decide) (he : starEach (e :: es) X.env = (false, eval e X.env) :: starEach es X.env := by rfl) (hpl : (backTo pos (starEach es X.env)).any (·.1) = false := by rfl) :
    PE X (.Call (.Name x p) (e :: es) [] pos) (tMkX C n 0 sp gV E t tNil) := by
  refine ⟨fun pins s σ H Q I h => ?_⟩
  refine wpAny_Call_Name_kw (ld_glob I hg hm ?_ hdb)
  refine PySem.W.callWith_K (h₀ := X.base) I.ok.mod.kin T.kC (thn (ha.run pos pins s σ H _ I h) fun us s1 hh => ?_) he hpl
  obtain ⟨vs, H1, I1, r, l1, l2, q⟩ := hh
  exact ⟨I1.kIn, run_mkX (ks := []) (zs := []) (ws := []) T F hr hb hx few I1 r .nil l1 rfl q⟩
/-- C() -/
theorem pe_mkX0 (T : MkXC X.K C fI) (F : FnOk X.prog X.w X.K X.mg X.base CX k fI fd ps sp) (hr : Room (k + 1) X.A) (hg : Gl X x) (hm : X.mg x = some (.ref C)) (hb : KBn X.K fd ps 1 [] g gV) (hx : Passes CX X E) (hdb : (x == ("__debug__" : Str)) = false := by decide) :
    PE X (.Call (.Name x p) [] [] pos) (tMkX C 0 0 sp gV E tNil tNil) := by
  refine ⟨fun pins s σ H Q I h => ?_⟩
  refine wpAny_Call_Name_kw (ld_glob I hg hm ?_ hdb)
  obtain ⟨l1, l2, q⟩ := h
  exact PySem.W.callWith_K0 I.kIn T.kC (run_mkX (n := 0) (ks := []) (us := []) (vs := []) (zs := []) (ws := []) T F hr hb hx (by decide) I .nil .nil rfl rfl q)
/-- C(k = v, ..) -/
theorem pe_mkXK (T : MkXC X.K C fI) (F : FnOk X.prog X.w X.K X.mg X.base CX k fI fd ps sp) (hr : Room (k + 1) X.A) (hg : Gl X x) (hm : X.mg x = some (.ref C)) (hb : KBn X.K fd ps 1 ks g gV) (hx : Passes CX X E)
    (hkw : PK X kws tk) (hall : (backToKw pos (keywordEach kws X.env)).all (·.1.isSome) = true := by rfl) (hks : (backToKw pos (keywordEach kws X.env)).filterMap (·.1) = ks := by rfl) (hdb : (x == ("__debug__" : Str)) = false := by decide)
    (hpl : ((backTo pos (starEach [] X.env)).any (·.1) || (backToKw pos (keywordEach kws X.env)).any (·.1.isNone)) = false := by rfl) :
    PE X (.Call (.Name x p) [] kws pos) (tMkX C 0 ks.length sp gV E tNil tk) := by
  refine ⟨fun pins s σ H Q I h => ?_⟩
  refine wpAny_Call_Name_kw (ld_glob I hg hm ?_ hdb)
  refine PySem.W.callWith_KW0 (h₀ := X.base) I.ok.mod.kin T.kC hall (thn (hkw.run pos pins s σ H _ I h) fun ws s2 hh => ?_) hpl
  obtain ⟨zs, H2, I2, rz, l1, l2, q2⟩ := hh
  refine ⟨I2.kIn, ?_⟩
  rw [hks]
  exact run_mkX (n := 0) (us := []) (vs := []) T F hr hb hx (by decide) I2 .nil rz rfl l2 q2
end
end L2

set_option maxRecDepth 100000
set_option maxHeartbeats 4000000
/-! The head's facts with one more Bool; own exception classes in it. -/
namespace VH
open PySem PySem.Spec PyProof.Rows L2 He
/-! ### the Hook -/
abbrev AlV : Type := AlD × Bool
def obsV (fa : List Fa) (fn : List DefD) (ex : PySem.W.Frag → Bool) (K : PySem.W.Frag) : AlV := (obsD fa fn K, ex K)
def obsVG (n : Nat) (fa : List Fa) (fn : List DefD) (ex : PySem.W.Frag → Bool) (g : Addr → Option Obj) : AlV := obsV fa fn ex (frG g (asD g n))
def SaysV (fa : List Fa) (fn : List DefD) (ex : PySem.W.Frag → Bool) (K : PySem.W.Frag) : Prop := SaysD fa fn K ∧ ex K = true
def hookV (n : Nat) (fa : List Fa) (fn : List DefD) (ex : PySem.W.Frag → Bool) : PySem.W.Hook where
  α := AlV
  obs := fun s => obsVG n fa fn ex s.heap.get?
  val := fun _ => (valD fn, true)
  says := fun _ h => ∃ K : PySem.W.Frag, K.In h ∧ SaysV fa fn ex K
  of := fun _ _ e => ⟨_, frG_in, congrArg (fun z : AlV => z.1) e, congrArg (fun z : AlV => z.2) e⟩
  keeps := fun _ _ _ ⟨K, hK, c⟩ k => ⟨K, PySem.W.Frag.In.keeps hK k, c⟩
theorem obsVG_eq {n : Nat} {fa : List Fa} {fn : List DefD} {ex : PySem.W.Frag → Bool} {g : Addr → Option Obj} {s : Shared} (h : ∀ a, g a = s.heap.get? a) : obsVG n fa fn ex g = (hookV n fa fn ex).obs s := by
  have e : g = s.heap.get? := funext h
  rw [e]; rfl
/-! ### an own exception class -/
/-- the class at C is over ValueError, perhaps over own ones between -/
def exB (K : PySem.W.Frag) (C : Addr) : Bool := match K.lookup C with
  | some ⟨.type t, _, .cls cd, sl⟩ => decide (t = "type") && (match cd.mro, sl.toList with
    | .ref D :: bm, [_, _, _, _, some (.builtin n), _] => decide (D = C) && (decide (n = "ValueError.__new__") && (!cd.hasDel && (cd.hasDict && PySem.HandSPX.refsVE bm)))
    | _, _ => false)
  | _ => false
theorem exB_ok {K : PySem.W.Frag} {C : Addr} (h : exB K C = true) : ∃ nm q N bs bm sn sub ab col dd k0 k1 k2 k3 k5, K.lookup C = some (excClassObj nm q C N bs bm true sn sub ab col dd k0 k1 k2 k3 k5 "ValueError.__new__") ∧ PySem.HandSPX.refsVE bm = true := by
  unfold exB at h
  split at h
  · rename_i t dd cd sl ho
    obtain ⟨y0, z0⟩ := ba h
    clear h
    have e0 : t = "type" := of_decide_eq_true y0
    split at z0
    · rename_i D bm k0 k1 k2 k3 n k5 hm hs
      obtain ⟨y1, z1⟩ := ba z0
      obtain ⟨y2, z2⟩ := ba z1
      obtain ⟨y3, z3⟩ := ba z2
      obtain ⟨y4, y5⟩ := ba z3
      have e1 : D = C := of_decide_eq_true y1
      have e2 : n = "ValueError.__new__" := of_decide_eq_true y2
      clear z0 z1 z2 z3 y0 y1 y2
      subst e0 e1 e2
      obtain ⟨nm, bs, mro, ns, qn, hd, sn, sub, ab, col, del⟩ := cd
      dsimp only at hm y3 y4
      subst hm y4
      have e3 : del = false := by
        cases del with
        | false => rfl
        | true => cases y3
      subst e3
      have e4 : sl = #[k0, k1, k2, k3, some (.builtin "ValueError.__new__"), k5] := by
        obtain ⟨l⟩ := sl
        simp only at hs
        rw [hs]
      subst e4
      exact ⟨nm, qn, ns, bs, bm, sn, sub, ab, col, dd, k0, k1, k2, k3, k5, ho, y5⟩
    · cases z0
  · cases h
def okO {α : Type} [DecidableEq α] (a b : Option α) : Bool := decide (a = b)
/-- all that an own exception class, with an __init__ of its own, must say; its fields' names -/
def clB (K : PySem.W.Frag) (x : Str) (fs : List Str) : Bool :=
  decide (PySem.W.nsIn K mainGlobals x = some (some (.ref (ga K x)))) && (exB K (ga K x) && (
  decide (PySem.W.findIn K (.ref (ga K x)) "__setattr__" = some (some (.builtin "object.__setattr__"))) && (
  decide (PySem.W.subIn K (.ref (ga K x)) (.type "BaseException") = some true) && (
  decide (PySem.W.typeIn K (.ref (ga K x)) = some (.type "type")) && (
  PySem.W.keepIn K (.ref (ga K x)) && (
  decide (PySem.W.findIn K (.ref (ga K x)) "__init__" = some (some (.ref (ma K (ga K x) "__init__")))) && (
  decide (PySem.W.typeIn K (.ref (ma K (ga K x) "__init__")) = some (.type "function")) && (
  decide (PySem.W.findIn K (.ref (ga K x)) "__getattribute__" = some (some (.builtin "BaseException.__getattribute__"))) && (
  decide (PySem.W.findIn K (.ref (ga K x)) "__getattr__" = some none) && (
  PySem.W.hasDictIn K (ga K x) && (
  decide (PySem.W.findIn K (.ref (ga K x)) "__class__" = some (some (.builtin "object.__class__"))) && (
  decide (PySem.W.mroIn K (ga K x) (.type "object") = some true) && (
  fs.all fun f => decide (PySem.W.findIn K (.ref (ga K x)) f = some none))))))))))))))
structure ClOk (K : PySem.W.Frag) (x : Str) (fs : List Str) : Prop where
  gl : PySem.W.nsIn K mainGlobals x = some (some (.ref (ga K x)))
  mkx : MkXC K (ga K x) (ma K (ga K x) "__init__")
  xf : XfC K (ga K x)
  ec : PySem.W.specialIn K (.builtin "object.__class__") "__get__" = some (some (.builtin "getset_descriptor.__get__")) → PySem.W.takesIn K (.builtin "object.__class__") = some true → ExcC K (ga K x)
  no : ∀ f ∈ fs, PySem.W.findIn K (.ref (ga K x)) f = some none
theorem clB_ok {K : PySem.W.Frag} {x : Str} {fs : List Str} (h : clB K x fs = true) : ClOk K x fs := by
  unfold clB at h
  obtain ⟨g0, h⟩ := ba h
  obtain ⟨g1, h⟩ := ba h
  obtain ⟨g2, h⟩ := ba h
  obtain ⟨g3, h⟩ := ba h
  obtain ⟨g4, h⟩ := ba h
  obtain ⟨g5, h⟩ := ba h
  obtain ⟨g6, h⟩ := ba h
  obtain ⟨g7, h⟩ := ba h
  obtain ⟨g8, h⟩ := ba h
  obtain ⟨g9, h⟩ := ba h
  obtain ⟨g10, h⟩ := ba h
  obtain ⟨g11, h⟩ := ba h
  obtain ⟨g12, h⟩ := ba h
  have d := fun {p : Prop} [Decidable p] (z : decide p = true) => of_decide_eq_true z
  exact ⟨of_decide_eq_true g0, ⟨⟨exB_ok g1, of_decide_eq_true g2, of_decide_eq_true g3, of_decide_eq_true g4, g5⟩, of_decide_eq_true g6, of_decide_eq_true g7⟩,
    ⟨of_decide_eq_true g8, of_decide_eq_true g9, of_decide_eq_true g3, g10⟩,
    fun a b => ⟨of_decide_eq_true g8, of_decide_eq_true g9, of_decide_eq_true g3, g10, of_decide_eq_true g11, a, b, of_decide_eq_true g12⟩,
    fun f hf => of_decide_eq_true (List.all_eq_true.mp h f hf)⟩
/-- what asks the descriptor __class__ -/
def dcB (K : PySem.W.Frag) : Bool := decide (PySem.W.specialIn K (.builtin "object.__class__") "__get__" = some (some (.builtin "getset_descriptor.__get__"))) && decide (PySem.W.takesIn K (.builtin "object.__class__") = some true)
end VH

set_option maxRecDepth 100000
set_option maxHeartbeats 4000000
/-! What every law's draws are made of: a list of three ints. -/
namespace L2
open PySem PySem.Spec PyProof.Rows
/-- two lists that are read, wherever they stand -/
def rCatR (K : PySem.W.Frag) : R2 := fun x y H Q => ∃ l b xs zs, x = .ref l ∧ y = .ref b ∧ SqL K H l xs ∧ SqL K H b zs ∧ xs.length + zs.length ≤ sizeLine ∧ ∀ p, H p = none → Q (.ref p) (upd H p (.lst (xs ++ zs)))
theorem op_catR {X : Cx} : OpR X (binaryOp .Add) (rCatR X.K) := by
  intro pins s σ H x y v u Q I rx ry h
  obtain ⟨l, b, xs, zs, rfl, rfl, a1, a2, few, q⟩ := h
  cases rx
  cases ry
  obtain ⟨i1, r1, ⟨⟨c1, d1, t1, s1⟩, n1, g1, p1, _, q1⟩, _⟩ := I.list a1
  obtain ⟨i2, r2, ⟨⟨c2, d2, t2, s2⟩, n2, g2, p2, _, q2⟩, _⟩ := I.list a2
  simp only at p1 q1 p2 q2
  subst p1 q1 p2 q2
  have ea : i1.toArray ++ i2.toArray = (i1 ++ i2).toArray := by simp
  refine PySem.concat_meets ⟨_, g1, rfl⟩ ⟨_, g2, rfl⟩ noFill_list_add seq_list_add PySem.F.slot_list_add PySem.F.entry_list_add (PySem.F.args_list_add_2 _ _)
    (list_addW l b i1.toArray i2.toArray n1 n2 d1 d2 s1 s2 (by rw [List.size_toArray, List.size_toArray, ← r1.length, ← r2.length]; omega)) ⟨g1, g2, ?_⟩
  rw [ea]
  exact ⟨.ref _, _, I.lnew (t' := s.toks) (r1.append r2) (by rw [List.length_append]; omega), rfl, q _ I.fresh⟩
/-- at a: a well -/
def Well (H : Hp) (a : Addr) : Prop := ∃ c b n : Int, H a = some (.lst [.int c, .int b, .int n])
/-- all but a is as it was -/
def But (a : Addr) (H H' : Hp) : Prop := ∀ b o, b ≠ a → H b = some o → H' b = some o
theorem But.same {a : Addr} {H H1 H' : Hp} (s : Same H H1) (h : But a H1 H') : But a H H' := fun b o n e => h b o n (s b o e)
theorem But.trans {a : Addr} {H H1 H' : Hp} (s : But a H H1) (h : But a H1 H') : But a H H' := fun b o n e => h b o n (s b o n e)
theorem But.upd {a : Addr} {H : Hp} {o : HO} : But a H (upd H a o) := fun b u n e => by rw [upd_ne n]; exact e
theorem But.of {a : Addr} {H H' : Hp} (s : Same H H') : But a H H' := fun b u _ e => s b u e
/-- the draw: an int below much -/
def spDraw : Sp := fun vs H Q _ => ∃ (a : Addr) (m : Int), vs = [.ref a, .int m] ∧ Well H a ∧ 0 < m ∧ m < 1073741824 ∧ ∀ (H' : Hp) (d : Int), 0 ≤ d → d < m → Well H' a → But a H H' → Q (.int d) H'
/-- the well of a number -/
def spWell (K : PySem.W.Frag) : Sp := fun vs H Q _ => ∃ (a : Addr) (ns : List Int) (k : Nat), vs = [.ref a, .int k] ∧ SqL K H a (ns.map V.int) ∧ ns.length ≤ 63 ∧ k ≤ 63 ∧ ∀ (H' : Hp) (p : Addr), H p = none → Well H' p → Same H H' → Q (.ref p) H'
/-- one of a list's items -/
def spOne (K : PySem.W.Frag) : Sp := fun vs H Q _ => ∃ (a l : Addr) (xs : List V), vs = [.ref a, .ref l] ∧ Well H a ∧ l ≠ a ∧ H l = some (.lst xs) ∧ 0 < xs.length ∧ xs.length < 1073741824 ∧ ∀ (H' : Hp) (x : V), x ∈ xs → Well H' a → But a H H' → Q x H'
theorem Same.new {H : Hp} {l : Addr} {o : HO} (n : H l = none) : Same H (upd H l o) := fun b u e => by
  rw [upd_ne (ne_of_none e n)]
  exact e
theorem Same.rd {H H' : Hp} {a : Addr} {u : HO} (e : Same H H') (r : Rd H a u) : Rd H' a u := by
  rcases r with r | ⟨o, r⟩
  · exact .inl (e _ _ r)
  · exact .inr ⟨o, e _ _ r⟩
theorem atI_some {α : Type} {xs : List α} {d : Int} (h0 : 0 ≤ d) (h1 : d < xs.length) : ∃ x, x ∈ xs ∧ atI xs d = some x := by
  obtain ⟨j, rfl⟩ : ∃ j : Nat, d = (j : Int) := ⟨d.toNat, by omega⟩
  have lt : j < xs.length := by omega
  exact ⟨xs[j], List.getElem_mem lt, atI_nat (List.getElem?_eq_getElem lt)⟩
end L2

set_option maxRecDepth 100000
set_option maxHeartbeats 0
namespace K04
open PySem PySem.Spec PyProof.Rows L2 He VH
def top (i : Nat) : Stmt := PySem.Challenge.pw_fillbehind_k04_converters_and_shown_rows.main.body.getD i (.Pass ⟨0, 0, 0, 0⟩)
/-- what the class Affine and the exceptions say beside the general facts -/
def eqB (K : PySem.W.Frag) (x : Str) : Bool :=
  decide (PySem.W.findIn K (.ref (ga K x)) "__ne__" = some (some (.builtin "object.__ne__"))) && (
  decide (PySem.W.subIn K (.ref (ga K x)) (.type "object") = some true) && (
  decide (PySem.W.kitOne K (.ref (ga K x)) (.ref (ga K x)) = some true) && (
  decide (PySem.W.findIn K (.ref (ga K x)) "__class__" = some (some (.builtin "object.__class__"))) && (
  decide (PySem.W.mroIn K (ga K x) (.type "object") = some true) && (
  PySem.W.fnIn K (ma K (ga K x) "__call__") && (
  (["tuple", "list", "dict", "int", "bool", "str", "NoneType"] : List String).all fun t => decide (PySem.W.kitOne K (.type t) (.ref (ga K x)) = some false) && decide (PySem.W.subIn K (.type t) (.ref (ga K x)) = some false)))))))
def ex (K : PySem.W.Frag) : Bool := dcB K && (clB K "NoRow" ["part"] && (clB K "NoNumber" ["part"] && (eqB K "Affine" && (
  (["NoRow", "NoNumber"] : List Str).all fun c => (["NoNumber", "NoRow", "FillError"] : List Str).all fun d => decide (PySem.W.exmOne K (.ref (ga K c)) (.ref (ga K d)) = some (d == c || d == "FillError"))))))
def names : List PySem.Str := ["FillError", "NoRow", "NoNumber", "is_integer", "is_row", "Affine", "shown", "_law_draw", "_law_well", "_law_one", "_law_said", "_law_integer", "_law_right"]
def fa : List He.Fa := [.glo "FillError", .glo "is_integer", .glo "is_row", .glo "Affine", .glo "shown", .glo "_law_draw", .glo "_law_well", .glo "_law_one", .glo "_law_said", .glo "_law_integer", .glo "_law_right", .glo "law",
  .free "len", .free "int", .free "range", .free "isinstance", .free "tuple", .free "bool",
  .cls "Affine", .noat "Affine" "scale", .noat "Affine" "shift", .meth "Affine" "__init__", .meth "Affine" "__call__", .meth "Affine" "__eq__", .mkr "Affine"]
def dd (i : Nat) (x : Str) : He.DefD := ⟨(x, none), x, x, defArgs (top i), defBody (top i), defScope (top i), [], []⟩
def dm (i : Nat) (x : Str) (j : Nat) (m q : Str) : He.DefD := ⟨(x, some m), m, q, defArgs (inClass (top i) j), defBody (inClass (top i) j), defScope (inClass (top i) j), [], []⟩
def fn : List He.DefD := [dd 5 "is_integer", dd 7 "is_row", dd 9 "shown", dd 11 "_law_draw", dd 12 "_law_well", dd 13 "_law_one", dd 14 "_law_said", dd 15 "_law_integer", dd 16 "_law_right", dd 17 "law",
  dm 2 "NoRow" 0 "__init__" "NoRow.__init__", dm 3 "NoNumber" 0 "__init__" "NoNumber.__init__", dm 8 "Affine" 0 "__init__" "Affine.__init__", dm 8 "Affine" 1 "__call__" "Affine.__call__", dm 8 "Affine" 2 "__eq__" "Affine.__eq__"]
abbrev R : PySem.W.OpenRow := PySem.W.OpenLaw.row PySem.Challenge.rw_fillbehind_k04_converters_and_shown_rows
/-- the def whose lambdas are made: its code object's table -/
def tf : List He.Defn := [("_law_right", none)]
abbrev hk : PySem.W.Hook := He.hookX 5 fa fn [] tf ex
def ob (s : PySem.W.SharedT) : He.AlX := He.obsX 5 fa fn [] tf ex (HandSHeadRun.getT s)
theorem ob_eq (s : PySem.W.SharedT) : ob s = hk.obs s.abs := He.obsX_eq (HandSHeadRun.getT_eq s)
theorem run (w : World) : HandSHeadRun.RunEq R (PySem.W.view R.prog [17]) hk ob 20000 names w := by
  intro os
  kernel_rfl
end K04

set_option maxRecDepth 100000
set_option maxHeartbeats 4000000
namespace K04
open PySem PySem.Spec PyProof.Rows L2 He VH
abbrev FnP (K : PySem.W.Frag) (x : Str) (st : Stmt) (f : Addr) (fd : FuncData) : Prop := FunD K x x (defArgs st) (defBody st) (defScope st) [] [] f fd
abbrev sDraw : Stmt := top 11
abbrev nDraw : List Str := ["_law_well_here", "_law_much", "_law_digit", "_law_blend"]
section
variable {P : Program} {w : World} {K : PySem.W.Frag} {mg : Str → Option Value} {base : Heap} {f : Addr} {fd : FuncData}
theorem scDraw : FnScope nDraw ["_law_well_here", "_law_much"] (defScope sDraw) := ⟨rfl, rfl, rfl, by decide +kernel, rfl, by decide +kernel, by decide +kernel⟩
theorem ok_draw (F : FnP K "_law_draw" sDraw f fd) (gI : mg "int" = none) : FnOk P w K mg base CX0 1 f fd ["_law_well_here", "_law_much"] spDraw := by
  refine F.ok scDraw (fun vs H Q E h => ?_) (fun cdv A outer s H vs Q E hr h => ?_)
  · obtain ⟨a, m, rfl, _⟩ := h
    rfl
  refine ⟨_, PSs.nox (pss_cons (ps_if (pt_cmpR op_gt (pe_ix ix_list (pv 0) pe_int (fun _ _ => rfl)) pe_int (nomark _))
      (pss_cons (ps_set (i := 2) scDraw.nd rfl (Or.inl rfl) (pe_op op_modN (pe_callTy call_int1 (by rfl) gI boot_int (pa_cons (pe_ix ix_list (pv 0) pe_int (fun _ _ => rfl)) pa_nil)) (pv 1)))
      (pss_cons (ps_asg (pe_op op_fdivN (pe_ix ix_list (pv 0) pe_int (fun _ _ => rfl)) (pv 1)) (pg_sub (pv 0) pe_int set_list))
      (pss_one (ps_ret (pv 2))))) pss_nil)
      (pss_cons (ps_asg (pe_op op_add (pe_ix ix_list (pv 0) pe_int (fun _ _ => rfl)) pe_int) (pg_sub (pv 0) pe_int set_list))
      (pss_cons (ps_set (i := 3) scDraw.nd rfl (Or.inl rfl) (pe_op op_modN (pe_callTy call_int1 (by rfl) gI boot_int (pa_cons (pe_op op_mul (pe_op op_add (pe_op op_add (pe_ix ix_list (pv 0) pe_int (fun _ _ => rfl)) (pe_op op_mul pe_int (pe_ix ix_list (pv 0) pe_int (fun _ _ => rfl)))) pe_int) pe_int) pa_nil)) pe_int))
      (pss_cons (ps_set (i := 3) scDraw.nd rfl (Or.inl rfl) (pe_op op_modN (pe_callTy call_int1 (by rfl) gI boot_int (pa_cons (pe_op op_mul (pv 3) (pe_op op_add (pe_op op_fdivN (pv 3) pe_int) pe_int)) pa_nil)) pe_int))
      (pss_one (ps_ret (pe_op op_modN (pe_callTy call_int1 (by rfl) gI boot_int (pa_cons (pe_op op_modN (pe_callTy call_int1 (by rfl) gI boot_int (pa_cons (pe_op op_mul (pv 3) (pe_op op_add (pe_op op_fdivN (pv 3) pe_int) pe_int)) pa_nil)) pe_int) pa_nil)) (pv 1)))))))), ?_⟩
  · obtain ⟨a, m, rfl, ⟨c, b, n, ha⟩, m0, m1, k⟩ := h
    have iL : ∀ {H' : Hp} {l : List V}, H' a = some (.lst l) → SqL K H' a l := fun h => SqL.of h
    refine ⟨_, rfl, a, _, 0, _, rfl, rfl, iL ha, by rfl, _, _, rfl, rfl, _, rfl, ?_⟩
    refine ite2 (fun _ => ?_) (fun _ => ?_)
    · refine ⟨_, rfl, a, _, 0, _, rfl, rfl, iL ha, by rfl, .inl ⟨_, rfl, ?_⟩⟩
      refine ⟨_, rfl, _, _, rfl, rfl, by omega, ?_⟩
      refine ⟨_, rfl, a, _, 0, _, rfl, rfl, iL ha, by rfl, _, rfl, _, _, rfl, rfl, ⟨by omega, by omega⟩, ?_⟩
      refine ⟨_, rfl, a, _, 0, _, rfl, rfl, ha, by rfl, _, rfl, ?_⟩
      refine k _ _ ?_ ?_ ⟨_, _, _, upd_same⟩ But.upd
      · exact Int.fmod_nonneg_of_pos _ m0
      · exact Int.fmod_lt_of_pos _ m0
    · refine ⟨_, rfl, a, _, 2, _, rfl, rfl, iL ha, by rfl, _, _, rfl, rfl, ?_⟩
      refine ⟨_, rfl, a, _, 2, _, rfl, rfl, ha, by rfl, ?_⟩
      have h2 : upd H a (.lst ([V.int c, V.int b, V.int n].set 2 (V.int (n + 1)))) a = some (.lst [V.int c, V.int b, V.int (n + 1)]) := upd_same
      refine ⟨_, rfl, a, _, 1, _, rfl, rfl, iL h2, by rfl, _, rfl, a, _, 2, _, rfl, rfl, iL h2, by rfl, 40087, _, rfl, rfl, .inl (by decide), ?_⟩
      refine ⟨_, _, rfl, rfl, _, _, rfl, rfl, _, 48271, rfl, rfl, .inr (by decide), .inl ⟨_, rfl, ?_⟩⟩
      refine ⟨_, 2147483647, rfl, rfl, (show (2147483647 : Int) ≠ 0 by decide), ?_⟩
      have l1 := Int.fmod_nonneg_of_pos ((b + 40087 * (n + 1) + 11) * 48271) (show (0 : Int) < 2147483647 by decide)
      have u1 := Int.fmod_lt_of_pos ((b + 40087 * (n + 1) + 11) * 48271) (show (0 : Int) < 2147483647 by decide)
      refine ⟨_, rfl, _, rfl, _, 1021, rfl, rfl, ⟨by decide, by decide⟩, _, 69691, rfl, rfl, _, _, rfl, rfl, .inl (by omega), .inl ⟨_, rfl, ?_⟩⟩
      refine ⟨_, 2147483587, rfl, rfl, (show (2147483587 : Int) ≠ 0 by decide), ?_⟩
      obtain ⟨v2, e2, l2, u2⟩ : ∃ v2 : Int, v2 = ((((b + 40087 * (n + 1) + 11) * 48271).fmod 2147483647) * ((((b + 40087 * (n + 1) + 11) * 48271).fmod 2147483647).fdiv 1021 + 69691)).fmod 2147483587 ∧ 0 ≤ v2 ∧ v2 < 2147483587 :=
        ⟨_, rfl, Int.fmod_nonneg_of_pos _ (by decide), Int.fmod_lt_of_pos _ (by decide)⟩
      have h3 : ∀ {i : Nat}, i = 3 → (List.set (List.set (start nDraw [V.ref a, V.int m]) 3 (some (V.int (((b + 40087 * (n + 1) + 11) * 48271).fmod 2147483647)))) 3 (some (V.int v2)))[i]? = some (some (V.int v2)) := fun e => by subst e; rfl
      subst e2
      refine ⟨_, h3 rfl, _, h3 rfl, _, 2017, rfl, rfl, ⟨by decide, by decide⟩, _, 40699, rfl, rfl, _, _, rfl, rfl, .inl ⟨by omega, by omega⟩, .inl ⟨_, rfl, ?_⟩⟩
      refine ⟨_, 2147483399, rfl, rfl, (show (2147483399 : Int) ≠ 0 by decide), .inl ⟨_, rfl, ?_⟩⟩
      refine ⟨_, rfl, _, _, rfl, rfl, (show m ≠ 0 by omega), ?_⟩
      exact k _ _ (Int.fmod_nonneg_of_pos _ m0) (Int.fmod_lt_of_pos _ m0) ⟨_, _, _, h2⟩ But.upd
end
end K04

set_option maxRecDepth 100000
set_option maxHeartbeats 4000000
namespace K04
open PySem PySem.Spec PyProof.Rows L2 He VH
abbrev sWell : Stmt := top 12
abbrev sOne : Stmt := top 13
theorem rep_ints (n : Nat) : (List.replicate n [V.int 0]).flatten = (List.replicate n (0 : Int)).map V.int := by
  induction n with
  | zero => rfl
  | succ n ih =>
    rw [List.replicate_succ, List.flatten_cons, ih, List.replicate_succ, List.map_cons]
    rfl
theorem cell_is {ns : List Int} {k : Nat} {m : Int} (hm : m = (k : Int) + 1) : ∃ c : Int, atI (ns.map V.int ++ (List.replicate m.toNat [V.int 0]).flatten) (k : Int) = some (V.int c) := by
  have e : m.toNat = k + 1 := by omega
  rw [e, rep_ints, ← List.map_append]
  have lt : k < (ns ++ List.replicate (k + 1) (0 : Int)).length := by
    rw [List.length_append, List.length_replicate]
    omega
  refine ⟨(ns ++ List.replicate (k + 1) (0 : Int))[k], atI_nat ?_⟩
  rw [List.getElem?_map, List.getElem?_eq_getElem lt]
  rfl
section
variable {P : Program} {w : World} {K : PySem.W.Frag} {mg : Str → Option Value} {base : Heap} {f fD : Addr} {fd fdD : FuncData}
theorem scWell : FnScope ["_law_script", "_law_at", "_law_cell"] ["_law_script", "_law_at"] (defScope sWell) := ⟨rfl, rfl, rfl, by decide +kernel, rfl, by decide +kernel, by decide +kernel⟩
theorem ok_well (F : FnP K "_law_well" sWell f fd) (gI : mg "int" = none) : FnOk P w K mg base CX0 1 f fd ["_law_script", "_law_at"] (spWell K) := by
  refine F.ok scWell (fun vs H Q E h => ?_) (fun cdv A outer s H vs Q E hr h => ?_)
  · obtain ⟨a, ns, k, rfl, _⟩ := h
    rfl
  refine ⟨_, PSs.nox (pss_cons (ps_set (i := 2) scWell.nd rfl (Or.inl rfl) (pe_ix ix_list (pe_op op_catR (pv 0) (pe_op op_rep (pe_lst (pa_cons pe_int pa_nil)) (pe_op op_add (pv 1) pe_int))) (pv 1) (fun _ _ => rfl)))
    (pss_one (ps_ret (pe_lst (pa_cons (pe_op op_mul (pv 2) (pe_callTy call_int1 (by rfl) gI boot_int (pa_cons (pe_cmpR op_ge (pv 2) (pe_op op_pow pe_int pe_int) (nomark _)) pa_nil)))
      (pa_cons (pe_op op_add (pe_op op_modN (pe_callTy call_int1 (by rfl) gI boot_int (pa_cons (pv 2) pa_nil)) pe_int) (pe_op op_mul pe_int (pv 1)))
      (pa_cons pe_int pa_nil))))))), ?_⟩
  obtain ⟨a, ns, k, rfl, ha, l1, l2, kk⟩ := h
  refine ⟨_, rfl, by decide, fun p hp => ?_⟩
  refine ⟨_, rfl, _, 1, rfl, rfl, p, _, _, rfl, rfl, upd_same, by omega, by omega, ?_, fun q hq => ?_⟩
  · show 1 * ((k : Int) + 1).toNat ≤ sizeLine
    rw [sizeLine_eq]
    omega
  obtain ⟨c, hc⟩ := cell_is (ns := ns) (k := k) (m := (k : Int) + 1) rfl
  have len2 : (ns.map V.int).length + (List.replicate ((k : Int) + 1).toNat [V.int 0]).flatten.length ≤ sizeLine := by
    rw [rep_ints, List.length_map, List.length_map, List.length_replicate, sizeLine_eq]
    omega
  refine ⟨a, q, _, _, rfl, rfl, ((Same.new hp).trans (Same.new hq)).seq ha, SqL.of upd_same, len2, fun r hr => ?_⟩
  refine ⟨_, rfl, r, _, k, _, rfl, rfl, SqL.of upd_same, hc, ?_⟩
  refine ⟨_, rfl, _, rfl, _, _, rfl, rfl, ⟨by decide, by decide, by decide⟩, _, _, rfl, rfl, .inr ⟨_, rfl, ?_⟩⟩
  refine ⟨_, _, rfl, rfl, .inr ?_, ?_⟩
  · split <;> decide
  refine ⟨_, rfl, .inl ⟨_, rfl, _, _, rfl, rfl, (show (2147483647 : Int) ≠ 0 by decide), ?_⟩⟩
  refine ⟨_, rfl, 7919, _, rfl, rfl, .inl (by decide), _, _, rfl, rfl, ?_⟩
  refine ⟨by show 3 ≤ sizeLine; decide, fun z hz => ?_⟩
  refine kk _ _ ?_ ⟨_, _, _, upd_same⟩ ((((Same.new hp).trans (Same.new hq)).trans (Same.new hr)).trans (Same.new hz))
  exact (((Same.new hp).trans (Same.new hq)).trans (Same.new hr)).free hz
theorem scOne : FnScope ["_law_well_here", "_law_some"] ["_law_well_here", "_law_some"] (defScope sOne) := ⟨rfl, rfl, rfl, by decide +kernel, rfl, by decide +kernel, by decide +kernel⟩
theorem ok_one (F : FnP K "_law_one" sOne f fd) (FD : FnP K "_law_draw" sDraw fD fdD) (gD : mg "_law_draw" = some (.ref fD)) (gI : mg "int" = none) (gL : mg "len" = none) :
    FnOk P w K mg base CX0 2 f fd ["_law_well_here", "_law_some"] (spOne K) := by
  have GD : FnOk P w K mg base CX0 1 fD fdD ["_law_well_here", "_law_much"] spDraw := ok_draw FD gI
  have bD : Binds K fdD ["_law_well_here", "_law_much"] [] := FD.bindsN fun _ _ _ _ _ _ us hl => match us, hl with | [_, _], _ => rfl
  refine F.ok scOne (fun vs H Q E h => ?_) (fun cdv A outer s H vs Q E hr h => ?_)
  · obtain ⟨a, l, xs, rfl, _⟩ := h
    rfl
  refine ⟨_, PSs.nox (pss_one (ps_ret (pe_ix ix_list (pv 1) (pe_call GD hr (by rfl) gD FD.kp bD .nil pass0 (pa_cons (pv 0) (pa_cons (pe_callB call_len_seq (by rfl) gL boot_len (pa_cons (pv 1) pa_nil)) pa_nil))) (fun _ _ => rfl)))), ?_⟩
  obtain ⟨a, l, xs, rfl, wl, ne, hl, x0, x1, k⟩ := h
  refine ⟨_, rfl, _, rfl, _, rfl, l, xs, rfl, .inl (SqL.of hl), ?_⟩
  refine ⟨a, (xs.length : Int), rfl, wl, by omega, by omega, fun H' d d0 d1 w2 bt => ?_⟩
  obtain ⟨x, hx, ex⟩ := atI_some (xs := xs) d0 d1
  exact ⟨l, xs, d, x, rfl, rfl, SqL.of (bt _ _ ne hl), ex, k H' x hx w2 bt⟩
end
end K04

set_option maxRecDepth 100000
set_option maxHeartbeats 4000000
/-! The promise of an own exception's __init__ that keeps its arguments as fields; making one. -/
namespace L2
open PySem PySem.Spec PyProof.Rows He
/-- .. new: its dict was not there in H -/
def IsExN (H H' : Hp) (a C : Addr) (fs : List (Str × V)) : Prop := (fs = [] ∧ H' a = some (exo a C none)) ∨ ∃ dx, H dx = none ∧ H' a = some (exo a C (some dx)) ∧ H' dx = some (exd dx fs)
theorem IsExN.is {H H' : Hp} {a C : Addr} {fs : List (Str × V)} (h : IsExN H H' a C fs) : IsEx H' a C fs := by
  rcases h with h | ⟨dx, _, h⟩
  · exact .inl h
  · exact .inr ⟨dx, h⟩
def spIni (K : PySem.W.Frag) (names : List Str) : Sp := fun vs H Q _ => ∃ (a C : Addr) (ws : List V), vs = .ref a :: ws ∧ ws.length = names.length ∧ OexC K C ∧ (∀ f ∈ names, PySem.W.findIn K (.ref C) f = some none) ∧
  H a = some (exo a C none) ∧ ∀ H', But a H H' → IsExN H H' a C (names.zip ws).reverse → Q .non H'
theorem ini1 {K : PySem.W.Frag} {f : Str} {vs : List V} {H : Hp} {Q : VK} {E : XK} (h : spIni K [f] vs H Q E) : ∃ (a C : Addr) (v : V), vs = [.ref a, v] ∧ OexC K C ∧ PySem.W.findIn K (.ref C) f = some none ∧ H a = some (exo a C none) ∧
    ∀ dx, H dx = none → dx ≠ a → Q .non (upd (upd H dx (exd dx [(f, v)])) a (exo a C (some dx))) := by
  obtain ⟨a, C, ws, rfl, l, T, no, ha, k⟩ := h
  match ws, l with
  | [v], _ =>
    refine ⟨a, C, v, rfl, T, no f (by simp), ha, fun dx n ne => k _ (fun b o hb e => ?_) (.inr ⟨dx, n, upd_same, ?_⟩)⟩
    · rw [upd_ne hb, upd_ne (ne_of_none e n)]
      exact e
    · rw [upd_ne ne]
      exact upd_same
theorem ini2 {K : PySem.W.Frag} {f g : Str} {vs : List V} {H : Hp} {Q : VK} {E : XK} (h : spIni K [f, g] vs H Q E) : ∃ (a C : Addr) (v u : V), vs = [.ref a, v, u] ∧ OexC K C ∧ PySem.W.findIn K (.ref C) f = some none ∧ PySem.W.findIn K (.ref C) g = some none ∧ H a = some (exo a C none) ∧
    ∀ dx, H dx = none → dx ≠ a → Q .non (upd (upd (upd H dx (exd dx [(f, v)])) a (exo a C (some dx))) dx (exd dx [(g, u), (f, v)])) := by
  obtain ⟨a, C, ws, rfl, l, T, no, ha, k⟩ := h
  match ws, l with
  | [v, u], _ =>
    refine ⟨a, C, v, u, rfl, T, no f (by simp), no g (by simp), ha, fun dx n ne => k _ (fun b o hb e => ?_) (.inr ⟨dx, n, ?_, upd_same⟩)⟩
    · rw [upd_ne (ne_of_none e n), upd_ne hb, upd_ne (ne_of_none e n)]
      exact e
    · rw [upd_ne (Ne.symm ne)]
      exact upd_same
theorem ini0 {K : PySem.W.Frag} {vs : List V} {H : Hp} {Q : VK} {E : XK} (h : spIni K [] vs H Q E) : ∃ a : Addr, vs = [.ref a] ∧ Q .non H := by
  obtain ⟨a, C, ws, rfl, l, T, no, ha, k⟩ := h
  match ws, l with
  | [], _ => exact ⟨a, rfl, k H (fun _ _ _ e => e) (.inl ⟨rfl, ha⟩)⟩
/-- how it binds by place -/
theorem KBn.of {K : PySem.W.Frag} {fd : FuncData} {ps : List Str} {n : Nat} (b : Binds K fd ps []) (l : ps.length = n) : KBn K fd ps n [] (fun us _ => us) (fun vs _ => vs) :=
  ⟨fun s us ws X l1 _ => by
    have h := b s us X (by rw [List.append_nil, l1, l])
    rw [List.append_nil] at h
    exact h, fun r _ => r⟩
/-- .. by name, without defaults -/
theorem FunD.byName {K : PySem.W.Frag} {x qual : Str} {params : Arguments} {body : List Stmt} {scope : Scope} {kws : List (Str × V)} {f : Addr} {fd : FuncData} {ps : List Str} (F : FunD K x qual params body scope [] kws f fd) (n : Nat) (ks : List Str) (g : {α : Type} → List α → List α → List α)
    (rel : ∀ {vs zs : List V} {us ws : List Value}, Vals vs us → Vals zs ws → Vals (g vs zs) (g us ws))
    (h : ∀ (kV doc pm : Value) (an : Option Addr) (cdv ct : Value) (us ws : List Value), us.length = n → ws.length = ks.length → bindArgs (PySem.W.fnOf x qual params body scope .none kV doc pm an cdv ct) ⟨us, ks.zip ws⟩ = pure (ps.zip (g us ws))) :
    KBn K fd ps n ks (fun us ws => g us ws) (fun vs zs => g vs zs) := by
  obtain ⟨oc, od, dV, kV, doc, pm, an, cdv, ct, osl, rfl, lk, hcd, hD, hK⟩ := F.ex
  rcases hD with ⟨_, rfl⟩ | ⟨e, _⟩
  · exact ⟨fun s us ws X l1 l2 => .of_eq (h kV doc pm an cdv ct us ws l1 l2), rel⟩
  · exact absurd rfl e
/-- the reading of C(..) -/
theorem read_mkX {K K' : PySem.W.Frag} {x : Str} {names : List Str} (T : VH.ClOk K x names) {H : Hp} {R : VK} {as : List V} {a : Addr} (ws : List V) (n : H a = none) (eK : K' = K) (l : ws.length = names.length) (hg : as = .ref a :: ws)
    (k : ∀ H', Same H H' → IsEx H' a (ga K x) (names.zip ws).reverse → R .non H') : spIni K' names as (upd H a (exo a (ga K x) none)) R E0 := by
  subst eK
  exact ⟨a, ga K' x, ws, hg, l, T.mkx.toOexC, T.no, upd_same, fun H' bt is => k H' (fun b o e => bt b o (ne_of_none e n) (by
    rw [upd_ne (ne_of_none e n)]
    exact e)) is.is⟩
/-- the reading of raise C(..): Q of the class, the dict, the heap with it -/
theorem read_raise {K K' : PySem.W.Frag} {x : Str} {names : List Str} (T : VH.ClOk K x names) {H : Hp} {Q : XK} {as : List V} {a : Addr} (ws : List V) (n : H a = none) (eK : K' = K) (l : ws.length = names.length) (ne : ws ≠ []) (hg : as = .ref a :: ws)
    (k : ∀ (d : Addr) (H' : Hp), H d = none → Same H H' → H' d = some (.xd (names.zip ws).reverse) → Q (.ref (ga K x)) (some d) H') :
    spIni K' names as (upd H a (exo a (ga K x) none)) (fun v H2 => v = .non ∧ ∃ (d : Addr) (fs : List (Str × V)), H2 a = some (exo a (ga K x) (some d)) ∧ H2 d = some (exd d fs) ∧ H d = none ∧ Q (.ref (ga K x)) (some d) (upd (del H2 a) d (.xd fs))) (fun _ _ _ => False) := by
  subst eK
  refine ⟨a, ga K' x, ws, hg, l, T.mkx.toOexC, T.no, upd_same, fun H' bt is => ⟨rfl, ?_⟩⟩
  rcases is with ⟨z, _⟩ | ⟨dx, nd, e1, e2⟩
  · exfalso
    match ws, names, l, ne with
    | w :: ws, f :: fs, _, _ => simp at z
    | w :: ws, [], l, _ => simp at l
    | [], _, _, ne => exact ne rfl
  · have da : dx ≠ a := fun z => by
      rw [z, upd_same] at nd
      cases nd
    have nd' : H dx = none := by
      rw [upd_ne da] at nd
      exact nd
    refine ⟨dx, _, e1, e2, nd', k dx _ nd' (fun b o e => ?_) upd_same⟩
    have ba' : b ≠ a := ne_of_none e n
    rw [upd_ne (ne_of_none e nd'), del_ne ba']
    exact bt b o ba' (by
      rw [upd_ne ba']
      exact e)
/-- a row of such objects: their classes' names, their fields -/
def ExL (K : PySem.W.Frag) (H : Hp) : List V → List (Str × List (Str × V)) → Prop
  | [], [] => True
  | v :: vs, c :: cs => (∃ a, v = .ref a ∧ IsEx H a (ga K c.1) c.2) ∧ ExL K H vs cs
  | _, _ => False
theorem ExL.same {K : PySem.W.Frag} {H H' : Hp} (e : Same H H') : ∀ {vs : List V} {cs : List (Str × List (Str × V))}, ExL K H vs cs → ExL K H' vs cs
  | [], [], _ => trivial
  | [], _ :: _, h => h.elim
  | _ :: _, [], h => h.elim
  | v :: vs, c :: cs, ⟨⟨a, z, is⟩, h⟩ => ⟨⟨a, z, is.same e⟩, ExL.same e h⟩
theorem ExL.snoc {K : PySem.W.Frag} {H H' : Hp} {a : Addr} {c : Str × List (Str × V)} (e : Same H H') (is : IsEx H' a (ga K c.1) c.2) : ∀ {vs : List V} {cs : List (Str × List (Str × V))}, ExL K H vs cs → ExL K H' (vs ++ [.ref a]) (cs ++ [c])
  | [], [], _ => ⟨⟨a, rfl, is⟩, trivial⟩
  | [], _ :: _, h => h.elim
  | _ :: _, [], h => h.elim
  | v :: vs, d :: cs, ⟨⟨b, z, is'⟩, h⟩ => ⟨⟨b, z, is'.same e⟩, ExL.snoc e is h⟩
theorem ExL.len {K : PySem.W.Frag} {H : Hp} : ∀ {vs : List V} {cs : List (Str × List (Str × V))}, ExL K H vs cs → vs.length = cs.length
  | [], [], _ => rfl
  | [], _ :: _, h => h.elim
  | _ :: _, [], h => h.elim
  | v :: vs, c :: cs, ⟨_, h⟩ => congrArg Nat.succ h.len
theorem ExL.at {K : PySem.W.Frag} {H : Hp} : ∀ {vs : List V} {cs : List (Str × List (Str × V))} {i : Nat} {c : Str × List (Str × V)}, ExL K H vs cs → cs[i]? = some c → ∃ a, vs[i]? = some (.ref a) ∧ IsEx H a (ga K c.1) c.2
  | [], [], _, _, _, e => by cases e
  | [], _ :: _, _, _, h, _ => h.elim
  | _ :: _, [], _, _, h, _ => h.elim
  | v :: vs, d :: cs, 0, c, ⟨⟨a, z, is⟩, _⟩, e => by
    have e' : d = c := Option.some.inj e
    rw [← e']
    exact ⟨a, congrArg some z, is⟩
  | v :: vs, d :: cs, i + 1, c, ⟨_, h⟩, e => ExL.at h (i := i) e
end L2

set_option maxRecDepth 100000
set_option maxHeartbeats 4000000
/-! A comparison by an own method, of an own instance with anything of a known type; whatever the method answers. -/
namespace L2
open PySem PySem.Spec PyProof.Rows
section
variable {X : Cx} {CX : CXT} {C g : Addr} {n : Nat} {sp : Sp} {E : XK} {op : CmpOp}
/-- x op y: x an instance of C, whose method for op has the promise sp; y's type is C, or known to be none below it -/
def rOwnA (K : PySem.W.Frag) (C : Addr) (sp : Sp) (E : XK) (X : Cx) : R2 := fun x y H Q =>
  ∃ (a : Addr) (t : Value), x = .ref a ∧ StX.InsC X H a C ∧ TyX K H y t ∧ PySem.W.notFirst K C t = true ∧ sp [x, y] H Q E
theorem op_ownA (hop : ∀ a b : Value, compareOp op a b = richCompare op a b)
    (hf : PySem.W.findIn X.K (.ref C) (cmpInfo op).2.1 = some (some (.ref g))) (fn : PySem.W.isFn X.K (.ref g) = true)
    (F : FnR X.prog X.w X.K X.mg X.base CX n g sp) (hr : Room n X.A) (hx : Passes CX X E) : OpR X (compareOp op) (rOwnA X.K C sp E X) := by
  intro pins s σ H x y v u Q I rx ry h
  obtain ⟨a, t, rfl, ia, ty, nf, q⟩ := h
  cases (show v = Value.ref a from rx)
  rw [hop]
  obtain ⟨ox, od, at_, _⟩ := StX.insC_at I ia
  obtain ⟨P, kx, hp, _⟩ := kit_of I ry ty
  obtain ⟨m, fr⟩ := I.fr
  have kin : X.K.In s.heap := PySem.W.Frag.In.keeps I.ok.mod.kin fr.keep
  have un : X.A.units < cLine := by
    have := hr.un
    omega
  refine PySem.W.cmp_K un fr I.ok.mod.kin at_ (kx.ty _ _ kin hp) nf hf fn (wpAny_call ?_)
  refine codeAny_mono (SlX.run_at F hr I.env0 hx I (.cons rx (.cons ry .nil)) q) fun r s' z => ?_
  split at z
  · obtain ⟨w', H', I', rw', q'⟩ := z
    exact SlX.cmpback rw' ⟨w', H', I', rw', q'⟩
  · exact z.elim
  · exact z
end
end L2

set_option maxRecDepth 100000
set_option maxHeartbeats 4000000
/-! != of an own instance whose class has an own __eq__ and object's __ne__, with anything of a known type. -/
namespace PySem.W
open PySem PySem.Spec PySem.Calls PyProof.Rows
section
variable {prog : Program} {w : World} {A : Around} {E : Value → Shared → Prop} {s : Shared} {K : Frag} {x C g : Addr} {ox : Obj} {od : Option Obj} {b : Value}
theorem ifBound_ne {Q : Option Value → Shared → Prop} (hu : A.units + 1 < cLine) (X : K.In s.heap) (I : InstAt s.heap x ox C od)
    (hn : findIn K (.ref C) "__ne__" = some (some (.builtin "object.__ne__"))) (ho : subIn K (.ref C) (.type "object") = some true)
    (he : findIn K (.ref C) "__eq__" = some (some (.ref g))) (fn : isFn K (.ref g) = true)
    (h : wpAny (model prog w) A.in1 (call (.ref g) [.ref x, b]) (fun v s' => ∃ c, v = .bool c ∧ Q (some (.bool !c)) s') E s) :
    wpAny (model prog w) A (callSpecialIfBound? (.ref x) "__ne__" [b]) Q E s := by
  have fin : wpAny (model prog w) A (call (.builtin "object.__ne__") ([.ref x] ++ [b]) >>= fun r => pure (some r)) Q E s := by
    refine wpAny_bind (wpAny_call (codeAny_call_builtin PySem.F.slot_object_ne.plain PySem.F.entry_object_ne ?_))
    have sub : Looks (model prog w) s.heap (isInstance (.ref x) (.type "object")) true := (I.type (M := model prog w)).andThen (looks_subIn X ho)
    refine check_slot (n := "__ne__") (owner := "object") (by decide +kernel) (by decide +kernel) sub (PySem.F.args_object_ne_2 (.ref x) b) ?_
    unfold Builtin.«object.__ne__»
    refine wpAny_bind (wpAny_of_eq (a := ((Value.ref x : Value), [b])) (by
      first | rfl | (simp only [slotArgs]; rfl)) ?_)
    refine wpAny_bind (wpAny_cRoomFor hu ?_)
    refine wpAny_bind (ifBound_K X I he fn (wpAny_mono h (fun v s' z => ?_) (fun _ _ z => z)))
    obtain ⟨c, rfl, q⟩ := z
    show wpAny _ _ (truthy (.bool c) >>= fun t => ret (.bool !t)) _ _ _
    refine wpAny_bind (wpAny_of_eq (a := c) (by rfl) ?_)
    exact wpAny_pure (wpAny_pure q)
  unfold callSpecialIfBound? bindSpecialIfBound? specialOf
  refine wpAny_holding (wpAny_bind (wpAny_bind (wpAny_bind ((I.type (M := model prog w)).here ((looks_findIn (M := model prog w) X hn).here ?_)))))
  refine wpAny_bind (wpAny_askSetting ?_)
  have bnd : bindSpecial (Value.builtin "object.__ne__") (.ref x) = pure (Value.builtin "object.__ne__", [.ref x]) := PySem.F.slot_object_ne.bind _
  show wpAny _ _ (if _ then _ else _) _ _ _
  rw [bnd]
  refine wpAny_ite ?_
  split
  · exact wpAny_bind (wpAny_pure (wpAny_pure fin))
  · exact wpAny_tryCatch (wpAny_bind (wpAny_pure (wpAny_pure fin)))
end
end PySem.W
namespace PySem.W
open PySem PySem.Spec PySem.Calls PyProof.Rows
section
variable {prog : Program} {w : World} {A : Around} {E : Value → Shared → Prop} {s : Shared} {K : Frag} {x C g : Addr} {ox : Obj} {od : Option Obj} {b tb : Value}
theorem cmp_ne {Q : Value → Shared → Prop} (hu : A.units + 1 < cLine) (X : K.In s.heap) (I : InstAt s.heap x ox C od)
    (hb : Looks (model prog w) s.heap (typeOf b) tb) (nf : notFirst K C tb = true)
    (hn : findIn K (.ref C) "__ne__" = some (some (.builtin "object.__ne__"))) (ho : subIn K (.ref C) (.type "object") = some true)
    (he : findIn K (.ref C) "__eq__" = some (some (.ref g))) (fn : isFn K (.ref g) = true)
    (h : wpAny (model prog w) A.in1 (call (.ref g) [.ref x, b]) (fun v s' => ∃ c, v = .bool c ∧ Q (.bool !c) s') E s) :
    wpAny (model prog w) A (richCompare .NotEq (.ref x) b) Q E s := by
  have one : wpAny (model prog w) A (tryCompare (.ref x) "__ne__" b) (fun r s' => ∃ v, r = some v ∧ Q v s') E s := by
    unfold tryCompare
    refine wpAny_bind (ifBound_ne hu X I hn ho he fn (wpAny_mono h (fun v s' z => ?_) (fun _ _ z => z)))
    obtain ⟨c, rfl, q⟩ := z
    exact ⟨c, rfl, wpAny_pure ⟨_, rfl, q⟩⟩
  unfold richCompare
  refine wpAny_holding (wpAny_bind (wpAny_cRoomFor (by omega) ?_))
  refine wpAny_bind ((I.type (M := model prog w)).here (wpAny_bind (hb.here ?_)))
  unfold notFirst at nf
  refine wpAny_ite ?_
  split
  · rename_i ne
    have sb : subIn K tb (.ref C) = some false := by
      rcases Bool.or_eq_true_iff.mp nf with q | q
      · have e : tb = .ref C := eq_of_beq q
        subst e
        simp at ne
      · exact eq_of_beq q
    refine wpAny_bind ((looks_subIn X sb).here ?_)
    show wpAny _ _ (tryCompare (.ref x) "__ne__" b >>= _) _ _ _
    exact wpAny_bind (wpAny_mono one (fun r s' z => by
      obtain ⟨v, rfl, q⟩ := z
      exact wpAny_pure q) (fun _ _ z => z))
  · refine wpAny_bind (wpAny_pure ?_)
    show wpAny _ _ (tryCompare (.ref x) "__ne__" b >>= _) _ _ _
    exact wpAny_bind (wpAny_mono one (fun r s' z => by
      obtain ⟨v, rfl, q⟩ := z
      exact wpAny_pure q) (fun _ _ z => z))
end
end PySem.W
namespace L2
open PySem PySem.Spec PyProof.Rows
section
variable {X : Cx} {CX : CXT} {C g : Addr} {n : Nat} {sp : Sp} {E : XK}
/-- x != y by C's own __eq__ -/
def rNeA (K : PySem.W.Frag) (C : Addr) (sp : Sp) (E : XK) (X : Cx) : R2 := fun x y H Q =>
  ∃ (a : Addr) (t : Value), x = .ref a ∧ StX.InsC X H a C ∧ TyX K H y t ∧ PySem.W.notFirst K C t = true ∧
    sp [x, y] H (fun z H' => ∃ c : Bool, z = .bl c ∧ Q (.bl !c) H') E
theorem op_neA (hn : PySem.W.findIn X.K (.ref C) "__ne__" = some (some (.builtin "object.__ne__"))) (ho : PySem.W.subIn X.K (.ref C) (.type "object") = some true)
    (he : PySem.W.findIn X.K (.ref C) "__eq__" = some (some (.ref g))) (fn : PySem.W.isFn X.K (.ref g) = true)
    (F : FnR X.prog X.w X.K X.mg X.base CX n g sp) (hr : Room (n + 1) X.A) (hx : Passes CX X E) : OpR X (compareOp .NotEq) (rNeA X.K C sp E X) := by
  intro pins s σ H x y v u Q I rx ry h
  obtain ⟨a, t, rfl, ia, ty, nf, q⟩ := h
  cases (show v = Value.ref a from rx)
  show wpAny _ _ (richCompare .NotEq _ _) _ _ _
  obtain ⟨ox, od, at_, _⟩ := StX.insC_at I ia
  obtain ⟨P, kx, hp, _⟩ := kit_of I ry ty
  obtain ⟨m, fr⟩ := I.fr
  have kin : X.K.In s.heap := PySem.W.Frag.In.keeps I.ok.mod.kin fr.keep
  have un : X.A.units + 1 < cLine := by
    have := hr.un
    omega
  have sub : Sub X n X.A.in1 := Sub.in1 ⟨hr, rfl⟩
  have en : Env0 X.prog X.w X.K X.mg X.base X.A.in1 X.stack s H := by
    have e := I.env0
    exact ⟨e.frames, e.mod, e.bs, e.bsz, e.funs, e.frf, e.hok, e.bare⟩
  refine PySem.W.cmp_ne un kin at_ (kx.ty _ _ kin hp) nf hn ho he fn (wpAny_call ?_)
  refine codeAny_mono (SlX.run_at F sub.room en hx I (.cons rx (.cons ry .nil)) q) fun r s' z => ?_
  split at z
  · obtain ⟨w', H', I', rw', c, rfl, q'⟩ := z
    exact ⟨c, rw', .bl !c, H', I', rfl, q'⟩
  · exact z.elim
  · exact z
end
end L2

set_option maxRecDepth 100000
set_option maxHeartbeats 4000000
namespace L2
open PySem PySem.Spec PyProof.Rows He
/-- the reading of raise C(..) -/
theorem read_rz {K K' : PySem.W.Frag} {x : Str} {names : List Str} (T : VH.ClOk K x names) {H : Hp} {R : VK} {as : List V} {a : Addr} (ws : List V) (n : H a = none) (eK : K' = K) (l : ws.length = names.length) (ne : ws ≠ []) (hg : as = .ref a :: ws)
    (k : ∀ (d : Addr) (H2 : Hp), H2 a = some (exo a (ga K x) (some d)) → H2 d = some (exd d (names.zip ws).reverse) → H d = none → Same H (upd (del H2 a) d (.xd (names.zip ws).reverse)) → R .non H2) :
    spIni K' names as (upd H a (exo a (ga K x) none)) R (fun _ _ _ => False) := by
  subst eK
  refine ⟨a, ga K' x, ws, hg, l, T.mkx.toOexC, T.no, upd_same, fun H' bt is => ?_⟩
  rcases is with ⟨z, _⟩ | ⟨dx, nd, e1, e2⟩
  · exfalso
    match ws, names, l, ne with
    | w :: ws, f :: fs, _, _ => simp at z
    | w :: ws, [], l, _ => simp at l
    | [], _, _, ne => exact ne rfl
  · have da : dx ≠ a := fun z => by
      rw [z, upd_same] at nd
      cases nd
    have nd' : H dx = none := by
      rw [upd_ne da] at nd
      exact nd
    refine k dx H' e1 e2 nd' (fun b o e => ?_)
    have ba' : b ≠ a := ne_of_none e n
    rw [upd_ne (ne_of_none e nd'), del_ne ba']
    exact bt b o ba' (by
      rw [upd_ne ba']
      exact e)
end L2

set_option maxRecDepth 100000
set_option maxHeartbeats 4000000
namespace K04
open PySem PySem.Spec PyProof.Rows L2 He VH
/-- what the written part says -/
structure Txt (K : PySem.W.Frag) (mg : Str → Option Value) : Prop where
  row : ClOk K "NoRow" ["part"]
  num : ClOk K "NoNumber" ["part"]
  mRow : mg "NoRow" = some (.ref (ga K "NoRow"))
  mNum : mg "NoNumber" = some (.ref (ga K "NoNumber"))
  aff : Cls K (ga K "Affine")
  mkA : Mk K (ga K "Affine") (ma K (ga K "Affine") "__init__")
  nSc : PySem.W.findIn K (.ref (ga K "Affine")) "scale" = some none
  nSh : PySem.W.findIn K (.ref (ga K "Affine")) "shift" = some none
  mCall : Meth K (ga K "Affine") "__call__" (ma K (ga K "Affine") "__call__")
  mEq : Meth K (ga K "Affine") "__eq__" (ma K (ga K "Affine") "__eq__")
  cFn : PySem.W.fnIn K (ma K (ga K "Affine") "__call__") = true
  ne : PySem.W.findIn K (.ref (ga K "Affine")) "__ne__" = some (some (.builtin "object.__ne__"))
  ob : PySem.W.subIn K (.ref (ga K "Affine")) (.type "object") = some true
  kk : PySem.W.kitOne K (.ref (ga K "Affine")) (.ref (ga K "Affine")) = some true
  cls : PySem.W.findIn K (.ref (ga K "Affine")) "__class__" = some (some (.builtin "object.__class__"))
  mro : PySem.W.mroIn K (ga K "Affine") (.type "object") = some true
  dc1 : PySem.W.specialIn K (.builtin "object.__class__") "__get__" = some (some (.builtin "getset_descriptor.__get__"))
  dc2 : PySem.W.takesIn K (.builtin "object.__class__") = some true
  kt : ∀ t ∈ (["tuple", "list", "dict", "int", "bool", "str", "NoneType"] : List String), PySem.W.kitOne K (.type t) (.ref (ga K "Affine")) = some false ∧ PySem.W.subIn K (.type t) (.ref (ga K "Affine")) = some false
  xm : ∀ c ∈ (["NoRow", "NoNumber"] : List Str), ∀ d ∈ (["NoNumber", "NoRow", "FillError"] : List Str), PySem.W.exmOne K (.ref (ga K c)) (.ref (ga K d)) = some (d == c || d == "FillError")
  mF : mg "FillError" = some (.ref (ga K "FillError"))
  mInt : mg "is_integer" = some (.ref (ga K "is_integer"))
  mIsR : mg "is_row" = some (.ref (ga K "is_row"))
  mAff : mg "Affine" = some (.ref (ga K "Affine"))
  mSho : mg "shown" = some (.ref (ga K "shown"))
  gL : mg "len" = none
  gI : mg "int" = none
  gR : mg "range" = none
  gS : mg "isinstance" = none
  gT : mg "tuple" = none
  gB : mg "bool" = none
theorem txt_of {K : PySem.W.Frag} {h : Heap} {mg : Str → Option Value} (X : K.In h) (G : h.Ns mainGlobals mg) (c : SaysV fa fn ex K) : Txt K mg := by
  obtain ⟨c, e⟩ := c
  unfold ex at e
  obtain ⟨e0, e⟩ := ba e
  obtain ⟨e1, e⟩ := ba e
  obtain ⟨e2, e⟩ := ba e
  obtain ⟨e3, e4⟩ := ba e
  unfold dcB at e0
  obtain ⟨d1, d2⟩ := ba e0
  unfold eqB at e3
  obtain ⟨q1, e3⟩ := ba e3
  obtain ⟨q2, e3⟩ := ba e3
  obtain ⟨q3, e3⟩ := ba e3
  obtain ⟨q4, e3⟩ := ba e3
  obtain ⟨q5, e3⟩ := ba e3
  obtain ⟨q6, q7⟩ := ba e3
  have r := clB_ok e1
  have n := clB_ok e2
  have d := fun {p : Prop} [Decidable p] (z : decide p = true) => of_decide_eq_true z
  exact ⟨r, n, PySem.W.mg_of X G r.gl, PySem.W.mg_of X G n.gl, cls_ok (c.fact 18), mkr_ok (c.fact 24), noat_ok (c.fact 19), noat_ok (c.fact 20), meth_ok (c.fact 22), meth_ok (c.fact 23), q6, d q1, d q2, d q3, d q4, d q5, d d1, d d2,
    fun t ht => ⟨d (ba (List.all_eq_true.mp q7 t ht)).1, d (ba (List.all_eq_true.mp q7 t ht)).2⟩,
    fun c hc x hx => d (List.all_eq_true.mp (List.all_eq_true.mp e4 c hc) x hx),
    glo_ok X G (c.fact 0), glo_ok X G (c.fact 1), glo_ok X G (c.fact 2), glo_ok X G (c.fact 3), glo_ok X G (c.fact 4), free_ok X G (c.fact 12), free_ok X G (c.fact 13), free_ok X G (c.fact 14), free_ok X G (c.fact 15), free_ok X G (c.fact 16), free_ok X G (c.fact 17)⟩
end K04

set_option maxRecDepth 100000
set_option maxHeartbeats 4000000
namespace K04
open PySem PySem.Spec PyProof.Rows L2 He VH
abbrev sInt : Stmt := top 5
abbrev FnM (K : PySem.W.Frag) (m q : Str) (i j : Nat) (f : Addr) (fd : FuncData) : Prop := FunD K m q (defArgs (inClass (top i) j)) (defBody (inClass (top i) j)) (defScope (inClass (top i) j)) [] [] f fd
/-- the known type of a value: is it an integer -/
def IntV (K : PySem.W.Frag) (H : Hp) (x : V) (b : Bool) : Prop := ∃ (t : Value) (b1 b2 : Bool), TyX K H x t ∧ PySem.W.kitOne K t (.type "int") = some b1 ∧ PySem.W.kitOne K t (.type "bool") = some b2 ∧ b = (b1 && !b2)
theorem IntV.int {K : PySem.W.Frag} {H : Hp} {i : Int} : IntV K H (.int i) true := ⟨_, true, false, .base (.int i), kit_ty (by decide +kernel), kit_ty (by decide +kernel), rfl⟩
theorem IntV.bl {K : PySem.W.Frag} {H : Hp} {i : Bool} : IntV K H (.bl i) false := ⟨_, true, true, .base (.bl i), kit_ty (by decide +kernel), kit_ty (by decide +kernel), rfl⟩
theorem IntV.str {K : PySem.W.Frag} {H : Hp} {i : Str} : IntV K H (.str i) false := ⟨_, false, false, .base (.str i), kit_ty (by decide +kernel), kit_ty (by decide +kernel), rfl⟩
theorem IntV.non {K : PySem.W.Frag} {H : Hp} : IntV K H .non false := ⟨_, false, false, .base .non, kit_ty (by decide +kernel), kit_ty (by decide +kernel), rfl⟩
theorem IntV.tup {K : PySem.W.Frag} {H : Hp} {a : Addr} {xs : List V} (h : H a = some (.tup xs)) : IntV K H (.ref a) false := ⟨_, false, false, .base (.tup h), kit_ty (by decide +kernel), kit_ty (by decide +kernel), rfl⟩
theorem IntV.lst {K : PySem.W.Frag} {H : Hp} {a : Addr} {xs : List V} (h : H a = some (.lst xs)) : IntV K H (.ref a) false := ⟨_, false, false, .base (.lst h), kit_ty (by decide +kernel), kit_ty (by decide +kernel), rfl⟩
theorem IntV.dct {K : PySem.W.Frag} {H : Hp} {a : Addr} {xs : List (Key × V)} (h : H a = some (.dK xs)) : IntV K H (.ref a) false := ⟨_, false, false, .base (.dK h), kit_ty (by decide +kernel), kit_ty (by decide +kernel), rfl⟩
def spInt (K : PySem.W.Frag) : Sp := fun vs H Q _ => ∃ (x : V) (b : Bool), vs = [x] ∧ IntV K H x b ∧ Q (.bl b) H
section
variable {P : Program} {w : World} {K : PySem.W.Frag} {mg : Str → Option Value} {base : Heap} {f fI : Addr} {fd fdI : FuncData}
theorem scInt : FnScope ["value"] ["value"] (defScope sInt) := ⟨rfl, rfl, rfl, by decide +kernel, rfl, by decide +kernel, by decide +kernel⟩
theorem ok_int {CX : CXT} (F : FnP K "is_integer" sInt f fd) (T : Txt K mg) : FnOk P w K mg base CX 1 f fd ["value"] (spInt K) := by
  refine F.ok scInt (fun vs H Q E h => ?_) (fun cdv A outer s H vs Q E hr h => ?_)
  · obtain ⟨x, b, rfl, _⟩ := h
    rfl
  refine ⟨_, pss_one (ps_ret (pe_and (pe_callB call_isi (by rfl) T.gS boot_isinstance (pa_cons (pv 0) (pa_cons (pe_bltn (v := .ty "int") (by rfl) T.gI boot_int rfl) pa_nil)))
    (pe_one (pe_not (pe_callB call_isi (by rfl) T.gS boot_isinstance (pa_cons (pv 0) (pa_cons (pe_bltn (v := .ty "bool") (by rfl) T.gB boot_bool rfl) pa_nil))))))), ?_⟩
  obtain ⟨x, b, rfl, ⟨t, b1, b2, ty, k1, k2, rfl⟩, q⟩ := h
  refine ⟨_, rfl, x, _, t, _, b1, rfl, .ty "int", ty, k1, b1, rfl, ?_⟩
  cases b1 with
  | false => exact iteF q
  | true => exact iteT ⟨_, rfl, x, _, t, _, b2, rfl, .ty "bool", ty, k2, b2, rfl, q⟩
end
end K04

set_option maxRecDepth 100000
set_option maxHeartbeats 4000000
namespace K04
open PySem PySem.Spec PyProof.Rows L2 He VH
section
variable {P : Program} {w : World} {K : PySem.W.Frag} {mg : Str → Option Value} {base : Heap} {f : Addr} {fd : FuncData}
theorem scRow : FnScope ["self", "part"] ["self", "part"] (defScope (inClass (top 2) 0)) := ⟨rfl, rfl, rfl, by decide +kernel, rfl, by decide +kernel, by decide +kernel⟩
theorem okRow (F : FnM K "__init__" "NoRow.__init__" 2 0 f fd) : FnOk P w K mg base CX0 1 f fd ["self", "part"] (spIni K ["part"]) := by
  refine F.ok scRow (fun vs H Q E h => ?_) (fun cdv A outer s H vs Q E hr h => ?_)
  · obtain ⟨a, C, v, rfl, _⟩ := ini1 h
    rfl
  refine ⟨_, PSs.nox (pss_one (ps_ost (pv 0) (pv 1))), ?_⟩
  obtain ⟨a, C, v, rfl, T, no, ha, k⟩ := ini1 h
  exact ⟨_, rfl, _, rfl, a, C, rfl, T, no, .inl ⟨ha, fun dx n ne => k dx n ne⟩⟩
theorem bRow (F : FnM K "__init__" "NoRow.__init__" 2 0 f fd) : Binds K fd ["self", "part"] [] := FunD.bindsN F fun _ _ _ _ _ _ us hl => match us, hl with | [_, _], _ => rfl
theorem scNum : FnScope ["self", "part"] ["self", "part"] (defScope (inClass (top 3) 0)) := ⟨rfl, rfl, rfl, by decide +kernel, rfl, by decide +kernel, by decide +kernel⟩
theorem okNum (F : FnM K "__init__" "NoNumber.__init__" 3 0 f fd) : FnOk P w K mg base CX0 1 f fd ["self", "part"] (spIni K ["part"]) := by
  refine F.ok scNum (fun vs H Q E h => ?_) (fun cdv A outer s H vs Q E hr h => ?_)
  · obtain ⟨a, C, v, rfl, _⟩ := ini1 h
    rfl
  refine ⟨_, PSs.nox (pss_one (ps_ost (pv 0) (pv 1))), ?_⟩
  obtain ⟨a, C, v, rfl, T, no, ha, k⟩ := ini1 h
  exact ⟨_, rfl, _, rfl, a, C, rfl, T, no, .inl ⟨ha, fun dx n ne => k dx n ne⟩⟩
theorem bNum (F : FnM K "__init__" "NoNumber.__init__" 3 0 f fd) : Binds K fd ["self", "part"] [] := FunD.bindsN F fun _ _ _ _ _ _ us hl => match us, hl with | [_, _], _ => rfl
end
end K04

set_option maxRecDepth 100000
set_option maxHeartbeats 4000000
namespace K04
open PySem PySem.Spec PyProof.Rows L2 He VH
/-- c(w) is raised out of H -/
def Rz (K : PySem.W.Frag) (E : XK) (H : Hp) (c w : Str) : Prop := ∀ (d : Addr) (H' : Hp), H d = none → Same H H' → H' d = some (.xd [("part", .str w)]) → E (.ref (ga K c)) (some d) H'
/-- an integer, or something else of a known type -/
def IsV (K : PySem.W.Frag) (H : Hp) (x : V) : Prop := (∃ i, x = .int i) ∨ IntV K H x false
theorem IntV.notI {K : PySem.W.Frag} {H : Hp} {i : Int} (h : IntV K H (.int i) false) : False := by
  obtain ⟨t, b1, b2, ty, k1, k2, e⟩ := h
  cases ty with
  | base b =>
    cases b
    rw [kit_ty (K := K) (r := true) (by decide +kernel)] at k1
    rw [kit_ty (K := K) (r := false) (by decide +kernel)] at k2
    cases k1
    cases k2
    cases e
/-- the two numbers of an Affine -/
def okA (x y : V) : Option Str := match x with
  | .int i => if i = 0 then some "scale" else match y with
    | .int _ => none
    | _ => some "shift"
  | _ => some "scale"
def spInit (K : PySem.W.Frag) : Sp := fun vs H Q E => ∃ (a C dx : Addr) (x y : V), vs = [.ref a, x, y] ∧ H a = some (.ins C dx []) ∧ Cls K C ∧ NoAttr K C "scale" ∧ NoAttr K C "shift" ∧
  IsV K H x ∧ IsV K H y ∧
  match okA x y with
  | some w => Rz K E H "NoNumber" w
  | none => ∀ H', But a H H' → H' a = some (.ins C dx [("scale", x), ("shift", y)]) → Q .non H'
abbrev FnInt (K : PySem.W.Frag) (fd : FuncData) : Prop := FnP K "is_integer" sInt (ga K "is_integer") fd
abbrev FnNum (K : PySem.W.Frag) (fd : FuncData) : Prop := FnM K "__init__" "NoNumber.__init__" 3 0 (ma K (ga K "NoNumber") "__init__") fd
abbrev FnRow (K : PySem.W.Frag) (fd : FuncData) : Prop := FnM K "__init__" "NoRow.__init__" 2 0 (ma K (ga K "NoRow") "__init__") fd
abbrev bodyM (i j : Nat) : List Stmt := defBody (inClass (top i) j)
abbrev scM (i j : Nat) : Scope := defScope (inClass (top i) j)
section
variable {P : Program} {w : World} {K : PySem.W.Frag} {mg : Str → Option Value} {base : Heap} {f : Addr} {fd fdI fdN fdR : FuncData}
theorem bInt (F : FnInt K fd) : Binds K fd ["value"] [] := FunD.bindsN F fun _ _ _ _ _ _ us hl => match us, hl with | [_], _ => rfl
theorem scInit : FnScope ["self", "scale", "shift"] ["self", "scale", "shift"] (scM 8 0) := ⟨rfl, rfl, rfl, by decide +kernel, rfl, by decide +kernel, by decide +kernel⟩
theorem ok_init (F : FnM K "__init__" "Affine.__init__" 8 0 f fd) (T : Txt K mg) (FI : FnInt K fdI) (FN : FnNum K fdN) : FnOk P w K mg base (L2.CX P w) 3 f fd ["self", "scale", "shift"] (spInit K) := by
  refine F.ok scInit (fun vs H Q E h => ?_) (fun cdv A outer s H vs Q E hr h => ?_)
  · obtain ⟨a, C, dx, x, y, rfl, _⟩ := h
    rfl
  have GI : FnOk P w K mg base CX0 1 (ga K "is_integer") fdI ["value"] (spInt K) := ok_int FI T
  refine ⟨_, pss_cons (ps_if (PW.pt (pw_or (pt_not (pt_val (pe_call GI (hr.mono (by decide)) (by rfl) T.mInt FI.kp (bInt FI) .nil pass0 (pa_cons (pv 1) pa_nil))))
      (pw_or1 (pt_cmpR op_eq (pv 1) pe_int (nomark _)))))
      (pss_one (ps_raise rfl (takes_of rfl rfl rfl rfl) (pmk_oex T.num.mkx.toOexC T.num.mkx.ini T.num.mkx.tyI (okNum FN) hr (bNum FN) .nil pass0 (by rfl) T.mNum (pa_cons pe_str pa_nil)))) pss_nil)
    (pss_cons (ps_if (pt_not (pt_val (pe_call GI (hr.mono (by decide)) (by rfl) T.mInt FI.kp (bInt FI) .nil pass0 (pa_cons (pv 2) pa_nil))))
      (pss_one (ps_raise rfl (takes_of rfl rfl rfl rfl) (pmk_oex T.num.mkx.toOexC T.num.mkx.ini T.num.mkx.tyI (okNum FN) hr (bNum FN) .nil pass0 (by rfl) T.mNum (pa_cons pe_str pa_nil)))) pss_nil)
    (pss_cons (ps_fld (pv 0) (pv 1) rfl) (pss_one (ps_fld (pv 0) (pv 2) rfl)))), ?_⟩
  obtain ⟨a, C, dx, x, y, rfl, ha, cl, n1, n2, hx, hy, way⟩ := h
  have rz : ∀ {z : Str}, Rz K E H "NoNumber" z → ∀ (p : Addr), H p = none → spIni K ["part"] [.ref p, .str z] (upd H p (exo p (ga K "NoNumber") none)) (fun v H2 => v = .non ∧ ∃ (d : Addr) (fs : List (Str × V)), H2 p = some (exo p (ga K "NoNumber") (some d)) ∧ H2 d = some (exd d fs) ∧ H d = none ∧ E (.ref (ga K "NoNumber")) (some d) (upd (del H2 p) d (.xd fs))) (fun _ _ _ => False) :=
    fun {z} k p n => read_raise T.num [.str z] n rfl rfl (by simp) rfl fun d H' nd s e => k d H' nd s e
  rcases hx with ⟨i, rfl⟩ | nx
  · refine ⟨_, rfl, _, true, rfl, IntV.int, true, rfl, iteF ?_⟩
    refine ⟨_, rfl, rfl, _, rfl, ?_⟩
    by_cases i0 : i = 0
    · subst i0
      refine iteT ⟨(show 1 ≤ 1000 by decide), fun p n => ?_⟩
      exact rz (z := "scale") way p n
    · have e0 : decide (V.int i = V.int 0) = false := decide_eq_false fun z => i0 (V.int.inj z)
      rw [e0]
      refine iteF ?_
      rcases hy with ⟨j, rfl⟩ | ny
      · have w2 : okA (.int i) (.int j) = none := if_neg i0
        rw [w2] at way
        refine ⟨_, rfl, _, true, rfl, IntV.int, true, rfl, iteF ?_⟩
        refine ⟨_, rfl, _, rfl, a, C, dx, _, rfl, ha, cl, n1, (show 0 < 1000 by decide), ?_⟩
        refine ⟨_, rfl, _, rfl, a, C, dx, _, rfl, upd_same, cl, n2, (show 1 < 1000 by decide), ?_⟩
        exact way _ (But.upd.trans But.upd) upd_same
      · have w2 : okA (.int i) y = some ("shift" : Str) := by
          cases y with
          | int j => exact ny.notI.elim
          | _ => exact if_neg i0
        rw [w2] at way
        refine ⟨_, rfl, _, false, rfl, ny, false, rfl, iteT ⟨(show 1 ≤ 1000 by decide), fun p n => ?_⟩⟩
        exact rz (z := "shift") way p n
  · have w2 : okA x y = some ("scale" : Str) := by
      cases x with
      | int j => exact nx.notI.elim
      | _ => rfl
    rw [w2] at way
    refine ⟨_, rfl, _, false, rfl, nx, false, rfl, iteT ⟨(show 1 ≤ 1000 by decide), fun p n => ?_⟩⟩
    exact rz (z := "scale") way p n
end
end K04

set_option maxRecDepth 100000
set_option maxHeartbeats 4000000
namespace K04
open PySem PySem.Spec PyProof.Rows L2 He VH
/-- an Affine of these numbers -/
def AffAt (K : PySem.W.Frag) (H : Hp) (a : Addr) (i j : Int) : Prop := ∃ dx, H a = some (.ins (ga K "Affine") dx [("scale", .int i), ("shift", .int j)])
def spCallA (K : PySem.W.Frag) : Sp := fun vs H Q E => ∃ (a : Addr) (i j : Int) (x : V), vs = [.ref a, x] ∧ AffAt K H a i j ∧
  ((∃ v, x = .int v ∧ CMulW i v ∧ Q (.int (i * v + j)) H) ∨ (IntV K H x false ∧ Rz K E H "NoNumber" "value"))
def spEqA (K : PySem.W.Frag) : Sp := fun vs H Q E => ∃ (a : Addr) (i j : Int) (y : V), vs = [.ref a, y] ∧ AffAt K H a i j ∧
  ((∃ b i' j', y = .ref b ∧ AffAt K H b i' j' ∧ Q (.bl (decide (i = i') && decide (j = j'))) H) ∨
   (∃ t, TyX K H y t ∧ PySem.W.kitOne K t (.ref (ga K "Affine")) = some false ∧ Q (.bl false) H))
section
variable {P : Program} {w : World} {K : PySem.W.Frag} {mg : Str → Option Value} {base : Heap} {f : Addr} {fd fdI fdN fdR : FuncData}
theorem AffAt.ty (T : Txt K mg) {H : Hp} {a : Addr} {i j : Int} (h : AffAt K H a i j) : TyX K H (.ref a) (.ref (ga K "Affine")) := by
  obtain ⟨dx, h⟩ := h
  exact .base (.ins h T.aff T.cls T.dc1 T.dc2 T.mro)
theorem scCall : FnScope ["self", "value"] ["self", "value"] (scM 8 1) := ⟨rfl, rfl, rfl, by decide +kernel, rfl, by decide +kernel, by decide +kernel⟩
theorem ok_call (F : FnM K "__call__" "Affine.__call__" 8 1 f fd) (T : Txt K mg) (FI : FnInt K fdI) (FN : FnNum K fdN) : FnOk P w K mg base (L2.CX P w) 3 f fd ["self", "value"] (spCallA K) := by
  refine F.ok scCall (fun vs H Q E h => ?_) (fun cdv A outer s H vs Q E hr h => ?_)
  · obtain ⟨a, i, j, x, rfl, _⟩ := h
    rfl
  have GI : FnOk P w K mg base CX0 1 (ga K "is_integer") fdI ["value"] (spInt K) := ok_int FI T
  refine ⟨_, pss_cons (ps_if (pt_not (pt_val (pe_call GI (hr.mono (by decide)) (by rfl) T.mInt FI.kp (bInt FI) .nil pass0 (pa_cons (pv 1) pa_nil))))
      (pss_one (ps_raise rfl (takes_of rfl rfl rfl rfl) (pmk_oex T.num.mkx.toOexC T.num.mkx.ini T.num.mkx.tyI (okNum FN) hr (bNum FN) .nil pass0 (by rfl) T.mNum (pa_cons pe_str pa_nil)))) pss_nil)
    (pss_one (ps_ret (pe_op op_add (pe_op op_mulW (pe_fld (pv 0) (by rfl)) (pv 1)) (pe_fld (pv 0) (by rfl))))), ?_⟩
  obtain ⟨a, i, j, x, rfl, ⟨dx, ha⟩, way⟩ := h
  rcases way with ⟨v, rfl, cm, q⟩ | ⟨nx, rz⟩
  · refine ⟨_, rfl, _, true, rfl, IntV.int, true, rfl, iteF ?_⟩
    refine ⟨_, rfl, a, _, dx, _, _, rfl, ha, T.aff, T.nSc, rfl, _, rfl, _, _, rfl, rfl, cm, ?_⟩
    exact ⟨_, rfl, a, _, dx, _, _, rfl, ha, T.aff, T.nSh, rfl, _, _, rfl, rfl, q⟩
  · refine ⟨_, rfl, _, false, rfl, nx, false, rfl, iteT ⟨(show 1 ≤ 1000 by decide), fun p n => ?_⟩⟩
    exact read_raise T.num [.str "value"] n rfl rfl (by simp) rfl fun d H' nd s e => rz d H' nd s e
theorem scEq : FnScope ["self", "other"] ["self", "other"] (scM 8 2) := ⟨rfl, rfl, rfl, by decide +kernel, rfl, by decide +kernel, by decide +kernel⟩
theorem ok_eq (F : FnM K "__eq__" "Affine.__eq__" 8 2 f fd) (T : Txt K mg) : FnOk P w K mg base CX0 1 f fd ["self", "other"] (spEqA K) := by
  refine F.ok scEq (fun vs H Q E h => ?_) (fun cdv A outer s H vs Q E hr h => ?_)
  · obtain ⟨a, i, j, x, rfl, _⟩ := h
    rfl
  refine ⟨_, pss_one (ps_ret (pe_and (pe_callB call_isi (by rfl) T.gS boot_isinstance (pa_cons (pv 1) (pa_cons (pe_glob (v := .ref (ga K "Affine")) (by rfl) T.mAff rfl) pa_nil)))
    (pe_and (pe_cmpR op_eq (pe_fld (pv 0) (by rfl)) (pe_fld (pv 1) (by rfl)) (nomark _)) (pe_one (pe_cmpR op_eq (pe_fld (pv 0) (by rfl)) (pe_fld (pv 1) (by rfl)) (nomark _)))))), ?_⟩
  obtain ⟨a, i, j, y, rfl, ⟨dx, ha⟩, way⟩ := h
  rcases way with ⟨b, i', j', rfl, hb, q⟩ | ⟨t, ty, k, q⟩
  · have ty := hb.ty T
    obtain ⟨dy, hb⟩ := hb
    refine ⟨_, rfl, _, _, _, _, true, rfl, .own (ga K "Affine"), ty, T.kk, true, rfl, iteT ?_⟩
    refine ⟨_, rfl, a, _, dx, _, _, rfl, ha, T.aff, T.nSc, rfl, _, rfl, b, _, dy, _, _, rfl, hb, T.aff, T.nSc, rfl, rfl, _, rfl, ?_⟩
    by_cases e : i = i'
    · subst e
      rw [show decide (V.int i = V.int i) = true from decide_eq_true rfl]
      refine iteT ⟨_, rfl, a, _, dx, _, _, rfl, ha, T.aff, T.nSh, rfl, _, rfl, b, _, dy, _, _, rfl, hb, T.aff, T.nSh, rfl, rfl, ?_⟩
      have e2 : decide (V.int j = V.int j') = (decide (i = i) && decide (j = j')) := by
        by_cases e : j = j'
        · subst e; simp
        · simp [e]
      rw [e2]
      exact q
    · rw [show decide (V.int i = V.int i') = false from decide_eq_false fun z => e (V.int.inj z)]
      rw [show (decide (i = i') && decide (j = j')) = false by simp [e]] at q
      exact iteF q
  · exact ⟨_, rfl, _, _, t, _, false, rfl, .own (ga K "Affine"), ty, k, false, rfl, iteF q⟩
end
end K04

set_option maxRecDepth 100000
set_option maxHeartbeats 4000000
namespace K04
open PySem PySem.Spec PyProof.Rows L2 He VH
abbrev sIsR : Stmt := top 7
abbrev sSho : Stmt := top 9
/-- is it a row -/
inductive RowV (K : PySem.W.Frag) (H : Hp) : V → Bool → Prop
  | no {x : V} {t : Value} (ty : TyX K H x t) (k : PySem.W.kitOne K t (.type "tuple") = some false) : RowV K H x false
  | len {p : Addr} {xs : List V} (h : H p = some (.tup xs)) (n : xs.length ≠ 2) : RowV K H (.ref p) false
  | old {p : Addr} {x y : V} (h : H p = some (.tup [x, y])) (n : IntV K H x false) : RowV K H (.ref p) false
  | src {p : Addr} {i : Int} {y : V} (h : H p = some (.tup [.int i, y])) (nn : y ≠ .non) (n : IntV K H y false) : RowV K H (.ref p) false
  | one {p : Addr} {i : Int} (h : H p = some (.tup [.int i, .non])) : RowV K H (.ref p) true
  | two {p : Addr} {i j : Int} (h : H p = some (.tup [.int i, .int j])) : RowV K H (.ref p) true
def spIsR (K : PySem.W.Frag) : Sp := fun vs H Q _ => ∃ (x : V) (b : Bool), vs = [x] ∧ RowV K H x b ∧ Q (.bl b) H
section
variable {P : Program} {w : World} {K : PySem.W.Frag} {mg : Str → Option Value} {base : Heap} {f : Addr} {fd fdI fdN fdR fdS fdC : FuncData}
theorem scIsR : FnScope ["value"] ["value"] (defScope sIsR) := ⟨rfl, rfl, rfl, by decide +kernel, rfl, by decide +kernel, by decide +kernel⟩
theorem ok_isr (F : FnP K "is_row" sIsR f fd) (T : Txt K mg) (FI : FnInt K fdI) : FnOk P w K mg base CX0 2 f fd ["value"] (spIsR K) := by
  refine F.ok scIsR (fun vs H Q E h => ?_) (fun cdv A outer s H vs Q E hr h => ?_)
  · obtain ⟨x, b, rfl, _⟩ := h
    rfl
  have GI : FnOk P w K mg base CX0 1 (ga K "is_integer") fdI ["value"] (spInt K) := ok_int FI T
  refine ⟨_, PSs.nox (pss_cons (ps_if (PW.pt (pw_or (pt_not (pt_val (pe_callB call_isi (by rfl) T.gS boot_isinstance (pa_cons (pv 0) (pa_cons (pe_bltn (v := .ty "tuple") (by rfl) T.gT boot_tuple rfl) pa_nil)))))
      (pw_or (pt_cmpR op_ne (pe_callB call_len_seq (by rfl) T.gL boot_len (pa_cons (pv 0) pa_nil)) pe_int (nomark _))
      (pw_or1 (pt_not (pt_val (pe_call GI hr (by rfl) T.mInt FI.kp (bInt FI) .nil pass0 (pa_cons (pe_ix ix_tup (pv 0) pe_int (fun _ _ => rfl)) pa_nil))))))))
      (pss_one (ps_ret pe_bl)) pss_nil)
    (pss_one (ps_ret (pe_or (pe_cmpR op_isN (pe_ix ix_tup (pv 0) pe_int (fun _ _ => rfl)) pe_non (nomark _)) (pe_one (pe_call GI hr (by rfl) T.mInt FI.kp (bInt FI) .nil pass0 (pa_cons (pe_ix ix_tup (pv 0) pe_int (fun _ _ => rfl)) pa_nil))))))), ?_⟩
  obtain ⟨x, b, rfl, rv, q⟩ := h
  have isT : ∀ {p : Addr} {xs : List V}, H p = some (.tup xs) → TyX K H (.ref p) (.type "tuple") ∧ PySem.W.kitOne K (.type "tuple") (.type "tuple") = some true := fun h => ⟨.base (.tup h), kit_ty (by decide +kernel)⟩
  cases rv with
  | no ty k => exact ⟨_, rfl, _, _, _, _, false, rfl, .ty "tuple", ty, k, false, rfl, iteT q⟩
  | len h n =>
    obtain ⟨ty, k⟩ := isT h
    refine ⟨_, rfl, _, _, _, _, true, rfl, .ty "tuple", ty, k, true, rfl, iteF ?_⟩
    refine ⟨_, rfl, _, _, rfl, .inr (SqT.of h), rfl, _, rfl, ?_⟩
    rename_i xs
    have e : decide (V.int (xs.length : Int) = V.int 2) = false := decide_eq_false fun z => n (by
      have := V.int.inj z
      omega)
    rw [e]
    exact iteT q
  | old h n =>
    obtain ⟨ty, k⟩ := isT h
    refine ⟨_, rfl, _, _, _, _, true, rfl, .ty "tuple", ty, k, true, rfl, iteF ?_⟩
    refine ⟨_, rfl, _, _, rfl, .inr (SqT.of h), rfl, _, rfl, iteF ?_⟩
    exact ⟨_, rfl, _, _, _, _, rfl, rfl, SqT.of h, rfl, _, false, rfl, n, false, rfl, iteT q⟩
  | src h nn n =>
    obtain ⟨ty, k⟩ := isT h
    refine ⟨_, rfl, _, _, _, _, true, rfl, .ty "tuple", ty, k, true, rfl, iteF ?_⟩
    refine ⟨_, rfl, _, _, rfl, .inr (SqT.of h), rfl, _, rfl, iteF ?_⟩
    refine ⟨_, rfl, _, _, _, _, rfl, rfl, SqT.of h, rfl, _, true, rfl, IntV.int, true, rfl, iteF ?_⟩
    refine ⟨_, rfl, _, _, _, _, rfl, rfl, SqT.of h, rfl, rfl, _, rfl, ?_⟩
    rw [decide_eq_false nn]
    exact iteF ⟨_, rfl, _, _, _, _, rfl, rfl, SqT.of h, rfl, _, false, rfl, n, q⟩
  | one h =>
    obtain ⟨ty, k⟩ := isT h
    refine ⟨_, rfl, _, _, _, _, true, rfl, .ty "tuple", ty, k, true, rfl, iteF ?_⟩
    refine ⟨_, rfl, _, _, rfl, .inr (SqT.of h), rfl, _, rfl, iteF ?_⟩
    refine ⟨_, rfl, _, _, _, _, rfl, rfl, SqT.of h, rfl, _, true, rfl, IntV.int, true, rfl, iteF ?_⟩
    exact ⟨_, rfl, _, _, _, _, rfl, rfl, SqT.of h, rfl, rfl, _, rfl, iteT q⟩
  | two h =>
    obtain ⟨ty, k⟩ := isT h
    refine ⟨_, rfl, _, _, _, _, true, rfl, .ty "tuple", ty, k, true, rfl, iteF ?_⟩
    refine ⟨_, rfl, _, _, rfl, .inr (SqT.of h), rfl, _, rfl, iteF ?_⟩
    refine ⟨_, rfl, _, _, _, _, rfl, rfl, SqT.of h, rfl, _, true, rfl, IntV.int, true, rfl, iteF ?_⟩
    exact ⟨_, rfl, _, _, _, _, rfl, rfl, SqT.of h, rfl, rfl, _, rfl, iteF ⟨_, rfl, _, _, _, _, rfl, rfl, SqT.of h, rfl, _, true, rfl, IntV.int, q⟩⟩
/-- what a converter gives of an integer -/
def spShoA (K : PySem.W.Frag) : Sp := fun vs H Q E => ∃ (x y : V), vs = [x, y] ∧
  ((x = .non ∧ Q .non H) ∨
   (RowV K H x false ∧ x ≠ .non ∧ Rz K E H "NoRow" "row") ∨
   (∃ p i, x = .ref p ∧ H p = some (.tup [.int i, .non]) ∧ ∀ q, H q = none → Q (.ref q) (upd H q (.tup [.int i, .non]))) ∨
   (∃ p i j c m n, x = .ref p ∧ H p = some (.tup [.int i, .int j]) ∧ y = .ref c ∧ AffAt K H c m n ∧ CMulW m j ∧ ∀ q, H q = none → Q (.ref q) (upd H q (.tup [.int i, .int (m * j + n)]))))
theorem passN {X : Cx} : Passes (L2.CX X.prog X.w) X (fun _ _ _ => False) := fun _ _ _ _ _ _ _ h => by
  obtain ⟨_, _, _, _, _, _, _, _, _, _, _, _, z⟩ := h
  exact z.elim
abbrev FnCal (K : PySem.W.Frag) (fd : FuncData) : Prop := FnM K "__call__" "Affine.__call__" 8 1 (ma K (ga K "Affine") "__call__") fd
abbrev FnIsR (K : PySem.W.Frag) (fd : FuncData) : Prop := FnP K "is_row" sIsR (ga K "is_row") fd
theorem bIsR (F : FnIsR K fd) : Binds K fd ["value"] [] := FunD.bindsN F fun _ _ _ _ _ _ us hl => match us, hl with | [_], _ => rfl
theorem bCal (F : FnCal K fd) : Binds K fd ["self", "value"] [] := FunD.bindsN F fun _ _ _ _ _ _ us hl => match us, hl with | [_, _], _ => rfl
theorem raw0 {CX : CXT} {k : Nat} {ps : List Str} {sp : Sp} (F : FnOk P w K mg base CX k f fd ps sp) (b : Binds K fd ps []) : FnR P w K mg base CX k f sp :=
  fun A o s H us vs Q E hr en va h => F.raw b .nil A o s H us vs Q E hr en va (by
    show sp (vs ++ []) H Q E
    rw [List.append_nil]
    exact h)
theorem Txt.callO (T : Txt K mg) : StX.CallO K (ga K "Affine") (ma K (ga K "Affine") "__call__") := ⟨T.mCall.at_, T.mCall.fn, T.cFn⟩
theorem scSho : FnScope ["row", "convert"] ["row", "convert"] (defScope sSho) := ⟨rfl, rfl, rfl, by decide +kernel, rfl, by decide +kernel, by decide +kernel⟩
theorem ok_shoA (F : FnP K "shown" sSho f fd) (T : Txt K mg) (FI : FnInt K fdI) (FN : FnNum K fdN) (FR : FnRow K fdR) (FS : FnIsR K fdS) (FC : FnCal K fdC) :
    FnOk P w K mg base (L2.CX P w) 4 f fd ["row", "convert"] (spShoA K) := by
  refine F.ok scSho (fun vs H Q E h => ?_) (fun cdv A outer s H vs Q E hr h => ?_)
  · obtain ⟨x, y, rfl, _⟩ := h
    rfl
  have GS : FnOk P w K mg base CX0 2 (ga K "is_row") fdS ["value"] (spIsR K) := ok_isr FS T FI
  have GC : FnOk P w K mg base (L2.CX P w) 3 (ma K (ga K "Affine") "__call__") fdC ["self", "value"] (spCallA K) := ok_call FC T FI FN
  refine ⟨_, pss_cons (ps_if (pt_cmpR op_isN (pv 0) pe_non (nomark _)) (pss_one (ps_ret pe_non)) pss_nil)
    (pss_cons (ps_if (pt_not (pt_val (pe_call GS (hr.mono (by decide)) (by rfl) T.mIsR FS.kp (bIsR FS) .nil pass0 (pa_cons (pv 0) pa_nil))))
      (pss_one (ps_raise rfl (takes_of rfl rfl rfl rfl) (pmk_oex T.row.mkx.toOexC T.row.mkx.ini T.row.mkx.tyI (okRow FR) (hr.mono (by decide)) (bRow FR) .nil pass0 (by rfl) T.mRow (pa_cons pe_str pa_nil)))) pss_nil)
    (pss_cons (ps_if (pt_cmpR op_isN (pe_ix ix_tup (pv 0) pe_int (fun _ _ => rfl)) pe_non (nomark _)) (pss_one (ps_ret (pe_tup (pa_cons (pe_ix ix_tup (pv 0) pe_int (fun _ _ => rfl)) (pa_cons pe_non pa_nil))))) pss_nil)
    (pss_one (ps_ret (pe_tup (pa_cons (pe_ix ix_tup (pv 0) pe_int (fun _ _ => rfl)) (pa_cons
      (StX.pe_callO (pv 1) (T.callO) (raw0 GC (bCal FC)) hr passN (pa_cons (pe_ix ix_tup (pv 0) pe_int (fun _ _ => rfl)) pa_nil)) pa_nil))))))), ?_⟩
  obtain ⟨x, y, rfl, way⟩ := h
  rcases way with ⟨rfl, q⟩ | ⟨rv, nn, rz⟩ | ⟨p, i, rfl, h, q⟩ | ⟨p, i, j, c, m, n, rfl, h, rfl, hc, cm, q⟩
  · exact ⟨_, rfl, rfl, _, rfl, iteT q⟩
  · refine ⟨_, rfl, rfl, _, rfl, ?_⟩
    rw [decide_eq_false nn]
    refine iteF ⟨_, rfl, _, false, rfl, rv, false, rfl, iteT ⟨(show 1 ≤ 1000 by decide), fun p n => ?_⟩⟩
    exact read_raise T.row [.str "row"] n rfl rfl (by simp) rfl fun d H' nd s e => rz d H' nd s e
  · refine ⟨_, rfl, rfl, _, rfl, iteF ?_⟩
    refine ⟨_, rfl, _, true, rfl, RowV.one h, true, rfl, iteF ?_⟩
    refine ⟨_, rfl, _, _, _, _, rfl, rfl, SqT.of h, rfl, rfl, _, rfl, iteT ?_⟩
    exact ⟨_, rfl, _, _, _, _, rfl, rfl, SqT.of h, rfl, (show 2 ≤ sizeLine by decide), fun r hr => q r hr⟩
  · refine ⟨_, rfl, rfl, _, rfl, iteF ?_⟩
    refine ⟨_, rfl, _, true, rfl, RowV.two h, true, rfl, iteF ?_⟩
    refine ⟨_, rfl, _, _, _, _, rfl, rfl, SqT.of h, rfl, rfl, _, rfl, iteF ?_⟩
    refine ⟨_, rfl, _, _, _, _, rfl, rfl, SqT.of h, rfl, _, rfl, c, rfl, _, rfl, _, _, _, _, rfl, rfl, SqT.of h, rfl, .inr ?_, c, m, n, _, rfl, hc, .inl ⟨j, rfl, cm, (show 2 ≤ sizeLine by decide), fun r hr => q r hr⟩⟩
    obtain ⟨dx, hc⟩ := hc
    exact ⟨dx, _, hc⟩
end
end K04

namespace L2
open PySem PySem.Spec PyProof.Rows
theorem But.rd {p a : Addr} {H H' : Hp} {u : HO} (e : But p H H') (ne : a ≠ p) (r : Rd H a u) : Rd H' a u := by
  rcases r with r | ⟨o, r⟩
  · exact .inl (e _ _ ne r)
  · exact .inr ⟨o, e _ _ ne r⟩
theorem But.sq {K : PySem.W.Frag} {p a : Addr} {H H' : Hp} {xs : List V} (e : But p H H') (w : ∃ o, H p = some (.lst o)) (ne : ∀ o, H a = some o → a ≠ p) (r : SqL K H a xs) : SqL K H' a xs := by
  rcases r with (r | ⟨o, r⟩) | r
  · exact .inl (.inl (e _ _ (ne _ r) r))
  · exact .inl (.inr ⟨o, e _ _ (ne _ r) r⟩)
  · exact .inr r
theorem Rd.ne {a p : Addr} {H : Hp} {u : HO} (r : Rd H a u) (n : H p = none) : a ≠ p := by
  rcases r with r | ⟨o, r⟩
  · exact ne_of_none r n
  · exact ne_of_none r n
theorem Well.same {H H' : Hp} {a : Addr} (w : Well H a) (e : Same H H') : Well H' a := by
  obtain ⟨c, b, n, h⟩ := w
  exact ⟨c, b, n, e _ _ h⟩
end L2

set_option maxRecDepth 100000
set_option maxHeartbeats 4000000
namespace K04
open PySem PySem.Spec PyProof.Rows L2 He VH
abbrev sGer : Stmt := top 15
/-- an integer of this law -/
def Ger (i : Int) : Prop := i.natAbs ≤ 10 ^ 60
def spGer : Sp := fun vs H Q _ => ∃ a : Addr, vs = [.ref a] ∧ Well H a ∧ ∀ (H' : Hp) (i : Int), Ger i → Well H' a → But a H H' → Q (.int i) H'
abbrev FnDraw (K : PySem.W.Frag) (fd : FuncData) : Prop := FnP K "_law_draw" sDraw (ga K "_law_draw") fd
abbrev FnOne (K : PySem.W.Frag) (fd : FuncData) : Prop := FnP K "_law_one" sOne (ga K "_law_one") fd
section
variable {P : Program} {w : World} {K : PySem.W.Frag} {mg : Str → Option Value} {base : Heap} {f : Addr} {fd fdD fdO : FuncData}
theorem scGer : FnScope ["_law_well_here"] ["_law_well_here"] (defScope sGer) := ⟨rfl, rfl, rfl, by decide +kernel, rfl, by decide +kernel, by decide +kernel⟩
theorem bDraw (F : FnDraw K fd) : Binds K fd ["_law_well_here", "_law_much"] [] := FunD.bindsN F fun _ _ _ _ _ _ us hl => match us, hl with | [_, _], _ => rfl
theorem bOne (F : FnOne K fd) : Binds K fd ["_law_well_here", "_law_some"] [] := FunD.bindsN F fun _ _ _ _ _ _ us hl => match us, hl with | [_, _], _ => rfl
theorem ok_ger (F : FnP K "_law_integer" sGer f fd) (T : Txt K mg) (mD : mg "_law_draw" = some (.ref (ga K "_law_draw"))) (mO : mg "_law_one" = some (.ref (ga K "_law_one"))) (FD : FnDraw K fdD) (FO : FnOne K fdO) :
    FnOk P w K mg base CX0 3 f fd ["_law_well_here"] spGer := by
  have GD : FnOk P w K mg base CX0 1 (ga K "_law_draw") fdD ["_law_well_here", "_law_much"] spDraw := ok_draw FD T.gI
  have GO : FnOk P w K mg base CX0 2 (ga K "_law_one") fdO ["_law_well_here", "_law_some"] (spOne K) := ok_one FO FD mD T.gI T.gL
  refine F.ok scGer (fun vs H Q E h => ?_) (fun cdv A outer s H vs Q E hr h => ?_)
  · obtain ⟨a, rfl, _⟩ := h
    rfl
  refine ⟨_, PSs.nox (pss_one (ps_ret (pe_call GO hr (by rfl) mO FO.kp (bOne FO) .nil pass0 (pa_cons (pv 0) (pa_cons (pe_lst
    (pa_cons pe_int (pa_cons pe_int (pa_cons (pe_un un_neg pe_int) (pa_cons pe_int (pa_cons (pe_op op_pow pe_int pe_int) (pa_cons (pe_op op_sub pe_int (pe_op op_pow pe_int pe_int))
    (pa_cons (pe_call GD (hr.mono (by decide)) (by rfl) mD FD.kp (bDraw FD) .nil pass0 (pa_cons (pv 0) (pa_cons pe_int pa_nil)))
    (pa_cons (pe_op op_sub pe_int (pe_call GD (hr.mono (by decide)) (by rfl) mD FD.kp (bDraw FD) .nil pass0 (pa_cons (pv 0) (pa_cons pe_int pa_nil)))) pa_nil))))))))) pa_nil))))), ?_⟩
  obtain ⟨a, rfl, wl, k⟩ := h
  refine ⟨_, rfl, ?_⟩
  refine ⟨_, rfl, ⟨10, 60, rfl, rfl, ⟨by decide, by decide, by decide⟩, ?_⟩⟩
  refine ⟨10, 60, rfl, rfl, ⟨by decide, by decide, by decide⟩, _, _, rfl, rfl, ?_⟩
  refine ⟨_, rfl, a, 1000, rfl, wl, by decide, by decide, fun H1 d1 l1 u1 w1 b1 => ?_⟩
  refine ⟨_, rfl, a, 1000, rfl, w1, by decide, by decide, fun H2 d2 l2 u2 w2 b2 => ?_⟩
  refine ⟨_, _, rfl, rfl, (show 8 ≤ sizeLine by decide), fun p hp => ?_⟩
  have bt : But a H H2 := b1.trans b2
  have pa : p ≠ a := fun e => by
    obtain ⟨_, _, _, z⟩ := w2
    rw [← e, hp] at z
    cases z
  refine ⟨a, p, _, rfl, w2.same (Same.new hp), pa, upd_same, (show 0 < 8 by decide), (show 8 < 1073741824 by decide), fun H' x hx w' b' => ?_⟩
  have go : ∀ i : Int, Ger i → x = .int i → Q x H' := fun i g e => by
    rw [e]
    exact k H' i g w' ((bt.trans (But.of (Same.new hp))).trans b')
  simp only [List.mem_cons, List.not_mem_nil, or_false] at hx
  rcases hx with e | e | e | e | e | e | e | e
  · exact go 0 (by unfold Ger; decide) e
  · exact go 1 (by unfold Ger; decide) e
  · exact go (-1) (by unfold Ger; decide) e
  · exact go 2 (by unfold Ger; decide) e
  · exact go _ (by unfold Ger; decide) e
  · exact go _ (by unfold Ger; decide) e
  · exact go _ (by unfold Ger; omega) e
  · exact go _ (by unfold Ger; omega) e
end
end K04

set_option maxRecDepth 100000
set_option maxHeartbeats 4000000
/-! try with several except clauses, each with a name or without. -/
namespace L2
open PySem PySem.Spec PyProof.Rows
/-- a clause: its class, the slot of its name, its suite's reading -/
abbrev Clause : Type := Value × Option Nat × (Addr → Value → Option Addr → TS)
def Ends.drop (D : Ends) (i : Nat) : Ends := { nx := fun σ H => D.nx (σ.set i none) H, rt := D.rt, bk := fun σ H => D.bk (σ.set i none) H, ct := fun σ H => D.ct (σ.set i none) H }
def Clause.go (q : Clause) (a : Addr) (cls : Value) (d : Option Addr) (D : Ends) (σ : St) (H : Hp) : Prop := match q.2.1 with
  | none => q.2.2 a cls d D σ H
  | some i => q.2.2 a cls d (D.drop i) (σ.set i (some (.ref a))) H
/-- what the clauses wish, one behind another -/
def wMix (K : PySem.W.Frag) (Wout : WX) (D : Ends) : List Clause → WX
  | [] => Wout
  | q :: r => fun cls d σ H => ∃ b, PySem.W.exmOne K cls q.1 = some b ∧ (b = true → ∀ a, H a = none → q.go a cls d D σ H) ∧ (b = false → wMix K Wout D r cls d σ H)
inductive MixOk (X : Cx) : List ExceptHandler → List Clause → Prop
  | nil : MixOk X [] []
  | bare {x : Str} {c : Value} {ts : Addr → Value → Option Addr → TS} {st : Stmt} {more : List Stmt} {p1 p2 : Pos} {hs : List ExceptHandler} {l : List Clause} (hc : Names X x c)
      (su : ∀ (a : Addr) (oe : Obj) (cls : Value) (d : Option Addr) (pn : List (Addr × Obj)), Zc cls d oe → (∃ vs, oe.data = .fields vs) → PSs (X.suite a ((a, oe) :: pn)) (st :: more) (ts a cls d)) (r : MixOk X hs l) :
      MixOk X (.ExceptHandler (some (.Name x p1)) none (st :: more) p2 :: hs) ((c, none, ts) :: l)
  | named {x n : Str} {i : Nat} {c : Value} {ts : Addr → Value → Option Addr → TS} {st : Stmt} {more : List Stmt} {p1 p2 : Pos} {hs : List ExceptHandler} {l : List Clause} (hN : X.N.Nodup) (hi : X.N[i]? = some n) (hl : X.env.kindOf n = some .local) (hc : Names X x c)
      (su : ∀ (a : Addr) (oe : Obj) (cls : Value) (d : Option Addr) (pn : List (Addr × Obj)), Zc cls d oe → (∃ vs, oe.data = .fields vs) → PSs (X.suite a ((a, oe) :: pn)) (st :: more) (ts a cls d)) (r : MixOk X hs l) :
      MixOk X (.ExceptHandler (some (.Name x p1)) (some n) (st :: more) p2 :: hs) ((c, some i, ts) :: l)
section
variable {X : Cx} {body : List Stmt} {k0 : ExceptHandler} {ks : List ExceptHandler} {l : List Clause} {pos : Pos} {tb : WX → TS} {Wout : WX}
theorem ps_try_mix (hst : X.stack = X.env :: X.outer) (hfr : X.env.frame = some X.env.locals) (tk : Takes X Wout)
    (hb : ∀ (W : WX) (pn : List (Addr × Obj)) (xe : Value → Shared → Prop), Takes (X.tr pn xe) W → PassesOwn (model X.prog X.w) X.A X.env xe → PSs (X.tr pn xe) body (tb W))
    (hk : MixOk X (k0 :: ks) l) : PS X (.Try body (k0 :: ks) [] [] pos) (fun D σ H => tb (wMix X.K Wout D l) D σ H) := by
  refine ⟨fun pins s σ H D I h => ?_⟩
  have good := I.ok
  have fr : X.A.frames = some (X.env :: X.outer) := by
    rw [good.frames, hst]
  refine wpAny_Try_except ?_
  refine wpAny_mono ((hb (wMix X.K Wout D l) (X.pn ++ pins) (fun e z1 => wpAny (model X.prog X.w) X.A (noteFrame e X.env) (fun _ z2 => wpAny (model X.prog X.w) X.A (setFlight e none)
    (fun _ z3 => wpAny (model X.prog X.w) X.A (handleBy e X.env (k0 :: ks)) (SP X pins D) X.xe z3) X.xe z2) X.xe z1) (fun u s' air => ?_) PassesOwn.looking).run [] s σ H D (I.toTry _) h)
    (fun f z hz => ?_) (fun e z hz => hz)
  · obtain ⟨a, B, sB, qs, ρ, G, cls, d, rfl, J0, inB, ups, sky, nG, eos, bare, wish⟩ := air
    have J : Inv X pins ρ G sB := J0.ofTry good
    have sk : Sky B (X.env :: X.outer) a (Zc cls d) X.env.locals s'.heap := by
      rw [← hst]
      exact sky
    show wpAny (model X.prog X.w) X.A (noteFrame (Value.ref a) X.env) _ _ _
    refine Sky.land Zc.steady fr hfr sk fun g3 fly up3 => ?_
    have J3 : Inv X pins ρ G { s' with heap := g3 } := J.landed inB fly.1 (ups.trans up3) eos bare
    obtain ⟨o3, v3, at3, z3, d3⟩ := fly.there
    have away : a ∉ frs (X.env :: X.outer) := fun hm => by
      obtain ⟨_, o', e', no⟩ := fly.2.2.1.mem hm
      rw [at3] at e'
      cases e'
      exact no _ d3
    have nL : a ≠ X.env.locals := fun z => away (List.mem_filterMap.mpr ⟨X.env, List.mem_cons_self, by
      rw [hfr, z]⟩)
    have nF : a ∉ X.fs := fun hm => by
      obtain ⟨e, he, q⟩ := List.mem_filterMap.mp hm
      exact away (List.mem_filterMap.mpr ⟨e, List.mem_cons_of_mem _ he, q⟩)
    have S3 := J3.suite at3 d3 nG nL nF
    have isC : PySem.W.Looks (model X.prog X.w) g3 (typeOf (.ref a)) cls := fun A Q E s k q => wpAny_typeOf_ref (k _ _ at3) (by
      rw [z3.1]
      exact q)
    have name : ∀ {x : Str} {c : Value} {p1 : Pos} {Q : Value → Shared → Prop} {E : Value → Shared → Prop}, Names X x c → Q c { s' with heap := g3 } → wpAny (model X.prog X.w) (X.A.mark (some (.ref a))) (eval (.Name x p1) X.env) Q E { s' with heap := g3 } := fun {x c p1 Q E} hc q => by
      obtain ⟨w1, w2, w3 | ⟨w3, w4, w5⟩⟩ := hc
      · exact ld_glob (X := X.suite a ((a, o3) :: (X.pn ++ pins))) S3 w1 w3 q w2
      · exact ld_blt (X := X.suite a ((a, o3) :: (X.pn ++ pins))) S3 w1 w3 w4 q w5 w2
    have go : ∀ {hs' : List ExceptHandler} {l' : List Clause}, MixOk X hs' l' → wMix X.K Wout D l' cls d ρ G → wpAny (model X.prog X.w) X.A (handleBy (.ref a) X.env hs') (SP X pins D) X.xe { s' with heap := g3 } := by
      intro hs' l' m
      induction m with
      | nil =>
        intro w
        refine wpAny_handleBy_nil ?_
        obtain ⟨_, _, _, oe, vs, tb', _, _, he, _, hd, h1, _⟩ := id fly
        unfold PySem.passOn
        refine wpAny_bind (wpAny_field he hd h1 ?_)
        rw [if_neg (show ¬ ((Value.ref tb' == Value.none) = true) by simp)]
        have out : wpAny (model X.prog X.w) X.A (setFlight (.ref a) X.env.frame) (fun _ z4 => wpAny (model X.prog X.w) X.A (throw (.ref a) : Sem Flow) (SP X pins D) X.xe z4) X.xe { s' with heap := g3 } := by
          rw [hfr]
          refine HandSPX.setFlight_upZ fly fun h4 held up4 => wpAny_throw (tk _ _ ?_)
          exact ⟨a, B, sB, pins, ρ, G, cls, d, rfl, J, inB, (ups.trans up3).trans up4, .inr (.inr (by
            rw [hst]
            exact held)), nG, eos, bare, w⟩
        first
          | exact wpAny_bind (wpAny_pure (wpAny_bind out))
          | exact wpAny_bind out
      | @bare x c ts st more p1 p2 hs2 l2 hc su r ih =>
        intro w
        obtain ⟨b, e1, yes, no⟩ := w
        refine wpAny_handleBy_cons (codeAny_handlers_test ?_) (by
          intro q
          cases q)
        refine name hc ((PySem.W.exm_one (M := model X.prog X.w) J3.kIn isC e1).here ?_)
        cases b with
        | true =>
          refine codeAny_handlers_suite ?_
          refine HandSPX.lands_againZ fly fun g4 fly4 up4 => ?_
          have J4 : Inv X pins ρ G { s' with heap := g4 } := J.landed inB fly4.1 ((ups.trans up3).trans up4) eos bare
          obtain ⟨o4, v4, at4, z4, d4⟩ := fly4.there
          refine wpAny_mono ((su a o4 cls d (X.pn ++ pins) z4 ⟨_, d4⟩).run [] _ _ G _ (J4.suite at4 d4 nG nL nF) (yes rfl a nG)) (fun f z6 hsp => ?_) (fun _ _ z => False.elim z)
          cases f with
          | ret u =>
            obtain ⟨v6, ρ6, G6, S6, r6, q6⟩ := hsp
            exact ⟨_, _, _, S6.unsuite good, r6, q6⟩
          | _ =>
            obtain ⟨ρ6, G6, S6, q6⟩ := hsp
            exact ⟨_, _, S6.unsuite good, q6⟩
        | false =>
          show wpAny _ X.A (handleBy (.ref a) X.env hs2) _ _ _
          exact ih (no rfl)
      | @named x n i c ts st more p1 p2 hs2 l2 hN hi hl hc su r ih =>
        intro w
        obtain ⟨b, e1, yes, no⟩ := w
        have loc : Loc X.env.scope n := .inl hl
        refine wpAny_handleBy_cons (codeAny_handlers_test ?_) (by
          intro q
          cases q)
        refine name hc ((PySem.W.exm_one (M := model X.prog X.w) J3.kIn isC e1).here ?_)
        cases b with
        | true =>
          refine codeAny_handlers_suite_as ?_
          refine HandSPX.lands_againZ fly fun g4 fly4 up4 => ?_
          have J4 : Inv X pins ρ G { s' with heap := g4 } := J.landed inB fly4.1 ((ups.trans up3).trans up4) eos bare
          obtain ⟨o4, v4, at4, z4, d4⟩ := fly4.there
          refine store_ok (X := X.suite a ((a, o4) :: (X.pn ++ pins))) (v := V.ref a) (J4.suite at4 d4 nG nL nF) hN hi loc rfl (fun z5 S5 => ?_) (.inr hl)
          refine wpAny_mono ((su a o4 cls d (X.pn ++ pins) z4 ⟨_, d4⟩).run [] z5 _ G _ S5 (yes rfl a nG)) (fun f z6 hsp => ?_) (fun _ _ z => False.elim z)
          have goes : ∀ {ρ6 : St} {G6 : Hp} {Q : Shared → Prop}, Inv (X.suite a ((a, o4) :: (X.pn ++ pins))) [] ρ6 G6 z6 → (∀ z7, Inv X pins (ρ6.set i none) G6 z7 → Q z7) →
              wpAny (model X.prog X.w) X.A (do bindName X.env n .none; unbindBehindTheSuite X.env n p2) (fun _ z7 => Q z7) X.xe z6 := fun S6 hq => gone_ok (S6.unsuite good) hN hi hl hq
          cases f with
          | ret u =>
            obtain ⟨v6, ρ6, G6, S6, r6, q6⟩ := hsp
            exact goes S6 fun z7 J7 => ⟨_, _, _, J7, r6, q6⟩
          | _ =>
            obtain ⟨ρ6, G6, S6, q6⟩ := hsp
            exact goes S6 fun z7 J7 => ⟨_, _, J7, q6⟩
        | false =>
          show wpAny _ X.A (handleBy (.ref a) X.env hs2) _ _ _
          exact ih (no rfl)
    exact go hk wish
  · cases f with
    | next =>
      obtain ⟨ρ, G, J0, q⟩ := hz
      exact wpAny_execs_nil ⟨ρ, G, J0.ofTry good, q⟩
    | ret u =>
      obtain ⟨v, ρ, G, J0, r, q⟩ := hz
      exact ⟨v, ρ, G, J0.ofTry good, r, q⟩
    | _ =>
      obtain ⟨ρ, G, J0, q⟩ := hz
      exact ⟨ρ, G, J0.ofTry good, q⟩
end
/-- isinstance(e, c) in a suite, e the exception that it holds, with a dict of its own -/
def rIsD (K : PySem.W.Frag) (a : Addr) (cls : Value) (d : Option Addr) : List V → Hp → VK → Prop := fun xs H Q => ∃ (D dd : Addr) (fs : List (Str × V)) (c : V) (cv : Value) (b : Bool), xs = [.ref a, c] ∧ cls = .ref D ∧ d = some dd ∧ H dd = some (.xd fs) ∧ ExcC K D ∧ (∀ u, RelV c u → u = cv) ∧
  PySem.W.kitOne K (.ref D) cv = some b ∧ Q (.bl b) H
theorem call_isD {X : Cx} {a : Addr} {oe : Obj} {cls : Value} {d : Option Addr} {pn : List (Addr × Obj)} (hz : Zc cls d oe) (hf : ∃ vs, oe.data = .fields vs) : CallR (X.suite a ((a, oe) :: pn)) (.builtin "isinstance") (rIsD X.K a cls d) := by
  intro pins s σ H xs us Q I r h
  obtain ⟨D, dd, fs, c, cv, b, rfl, rfl, rfl, hd, C, hcv, e, q⟩ := h
  obtain ⟨u, v, rfl, ru, rv⟩ := vals2 r
  obtain rfl : u = Value.ref a := ru
  obtain rfl := hcv _ rv
  obtain ⟨at_, _⟩ := I.pin (a, oe) (List.mem_append_left _ List.mem_cons_self)
  obtain ⟨vs, hv⟩ := hf
  obtain ⟨mA, ns, _⟩ := (show ObjOk X.prog X.w H s.heap dd (.xd fs) from I.hok dd _ hd)
  obtain ⟨od, eo, _⟩ := lookIn_ns ns
  have J : PySem.W.InstAt s.heap a oe D (some od) := by
    refine ⟨at_, hz.1, ?_, ?_⟩
    · unfold PySem.W.notCls
      rw [hv]
    · rw [hz.2]
      exact eo
  exact PySem.W.kia_one (PySem.W.vx_kit C) I.kIn ⟨oe, some od, J⟩ e (fun z => nomatch z) fun tk => ⟨.bl b, H, I.kept (t' := tk) fun _ _ z => z, rfl, q⟩
end L2

set_option maxRecDepth 100000
set_option maxHeartbeats 4000000
/-! A def that hands back a word and what its argument returns, or what its except clauses say: called with a lambda. -/
namespace LamX
open PySem PySem.Spec PyProof.Rows L2
theorem takes_len {X : Cx} {W : WX} (tk : Takes X W) : Takes X (fun cls d σ H => σ.length = X.N.length → W cls d σ H) := fun u s' h => by
  obtain ⟨a, B, sI, pins, σ, H, cls, d, e, I, k1, k2, k3, k4, k5, k6, k7⟩ := h
  exact tk u s' ⟨a, B, sI, pins, σ, H, cls, d, e, I, k1, k2, k3, k4, k5, k6, k7 I.len⟩
theorem takes_no {X : Cx} : Takes X (fun _ _ _ _ => False) := fun u s' h => by
  obtain ⟨_, _, _, _, _, _, _, _, _, _, _, _, _, _, _, _, z⟩ := h
  exact z.elim
/-- what is asked of the lambda -/
def TTmix (K : PySem.W.Frag) (n : Nat) (l : List Clause) (told : Str) : (XK → Hp → VK → Prop) → Hp → VK → Prop := fun tl H Q =>
  tl (fun cls d H' => ∀ σ' : L2.St, σ'.length = n → wMix K (fun _ _ _ _ => False) { nx := fun _ H' => Q V.non H', rt := Q } l cls d σ' H') H
    (fun v H1 => ([.str told, v] : List V).length ≤ sizeLine ∧ ∀ p, H1 p = none → Q (.ref p) (upd H1 p (.tup [.str told, v])))
theorem said_gives {X : Cx} {Ng : List Str} {x a q told : Str} {sg : Scope} {g : Addr} {cdg : Value} {j : Nat} {k0 : ExceptHandler} {ks : List ExceptHandler} {l : List Clause} {p1 p2 p3 p4 p5 p6 : Pos} {x1 : Nat}
    (hs : ∀ f : Addr, (L2.start Ng [V.ref f])[0]? = some (some (V.ref f)))
    (hk : ∀ (s : Shared) (H : Hp), MixOk (cxOf C8.CX0 X.prog X.w X.K X.mg X.base Ng x sg g cdg X.A X.stack s H C8.E0).nox (k0 :: ks) l) :
    GivesTo X Ng x sg g cdg [.Try [.Return (some (.Tuple [.Constant (.str told) j p1, .Call (.Name a p2) [] [] p3] x1 p4)) p5] (k0 :: ks) [] [] p6] a q (TTmix X.K Ng.length l told) := by
  intro f c' s H Q tl act hc tt
  refine ⟨_, pss_one (ps_try_mix (Wout := fun _ _ _ _ => False) (l := l) rfl rfl takes_no
    (fun W pn xe tk _ => pss_one (ps_ret (pe_tup (pa_cons pe_str (pa_cons (act (fun cls d σ H => σ.length = Ng.length → W cls d σ H) pn xe (fun cls d H' => ∀ σ' : L2.St, σ'.length = Ng.length → W cls d σ' H') p2 p3 (takes_len tk) (fun cls d σ' H' h e => h σ' e)) pa_nil)))))
    (hk s H)), ?_⟩
  exact ⟨hs f, hc, tt⟩
end LamX

set_option maxRecDepth 100000
set_option maxHeartbeats 4000000
namespace K04
open PySem PySem.Spec PyProof.Rows L2 He VH
abbrev sSaid : Stmt := top 14
abbrev nSaid : List Str := ["_law_ask", "e"]
theorem scSaid : FnScope nSaid ["_law_ask"] (defScope sSaid) := ⟨rfl, rfl, rfl, by decide +kernel, rfl, by decide +kernel, by decide +kernel⟩
/-- the clauses of _law_said -/
def clauses (K : PySem.W.Frag) : List Clause :=
  [(.ref (ga K "NoNumber"), some 1, fun a cls d => tRet (tTup (tCons (tC (.str "number")) (tCons (tXf a cls d (ga K "NoNumber") "part" (tVar 1)) tNil)))),
   (.ref (ga K "NoRow"), some 1, fun a cls d => tRet (tTup (tCons (tC (.str "row")) (tCons (tXf a cls d (ga K "NoRow") "part" (tVar 1)) tNil)))),
   (.ref (ga K "FillError"), none, fun _ _ _ => tRet (tTup (tCons (tC (.str "other")) (tCons (tC .non) tNil))))]
theorem gives {X : Cx} {g : Addr} {cdg : Value} {q : Str} (T : Txt X.K X.mg) :
    LamX.GivesTo X nSaid "_law_said" (defScope sSaid) g cdg (defBody sSaid) "_law_ask" q (LamX.TTmix X.K 2 (clauses X.K) "told") := by
  refine LamX.said_gives (l := clauses X.K) (fun f => rfl) (fun s H => .named (i := 1) scSaid.nd rfl rfl ⟨rfl, by decide, .inl T.mNum⟩ (fun a oe cls d pn hz hf => pss_one (ps_ret (pe_tup (pa_cons pe_str (pa_cons (pe_xf T.num.xf (T.num.no "part" (by simp)) hz hf (pv 1)) pa_nil)))))
    (.named (i := 1) scSaid.nd rfl rfl ⟨rfl, by decide, .inl T.mRow⟩ (fun a oe cls d pn hz hf => pss_one (ps_ret (pe_tup (pa_cons pe_str (pa_cons (pe_xf T.row.xf (T.row.no "part" (by simp)) hz hf (pv 1)) pa_nil)))))
    (.bare ⟨rfl, by decide, .inl T.mF⟩ (fun a oe cls d pn hz hf => pss_one (ps_ret (pe_tup (pa_cons pe_str (pa_cons pe_non pa_nil))))) .nil)))
/-- a raise of NoNumber(w) in the lambda is told as ("number", w), one of NoRow(w) as ("row", w) -/
theorem told_of {K : PySem.W.Frag} {mg : Str → Option Value} (T : Txt K mg) {c w u : Str} {Q : VK} {H : Hp} (hc : (c = "NoNumber" ∧ u = "number") ∨ (c = "NoRow" ∧ u = "row"))
    (k : ∀ (H' : Hp) (p : Addr), H p = none → Same H H' → H' p = some (.tup [.str u, .str w]) → Q (.ref p) H') :
    Rz K (fun cls d H' => ∀ σ' : L2.St, σ'.length = 2 → wMix K (fun _ _ _ _ => False) { nx := fun _ H' => Q V.non H', rt := Q } (clauses K) cls d σ' H') H c w := by
  intro d H' nd s e σ' l2
  match σ', l2 with
  | [v0, v1], _ =>
    rcases hc with ⟨rfl, rfl⟩ | ⟨rfl, rfl⟩
    · refine ⟨true, T.xm "NoNumber" (by simp) "NoNumber" (by simp), fun _ a ha => ?_, fun q => Bool.noConfusion q⟩
      exact ⟨_, rfl, rfl, rfl, d, _, .str w, rfl, e, rfl, (show 2 ≤ sizeLine by decide), fun p hp => k _ p (s.free hp) (s.trans (Same.new hp)) upd_same⟩
    · refine ⟨false, T.xm "NoRow" (by simp) "NoNumber" (by simp), fun q => Bool.noConfusion q, fun _ => ⟨true, T.xm "NoRow" (by simp) "NoRow" (by simp), fun _ a ha => ?_, fun q => Bool.noConfusion q⟩⟩
      exact ⟨_, rfl, rfl, rfl, d, _, .str w, rfl, e, rfl, (show 2 ≤ sizeLine by decide), fun p hp => k _ p (s.free hp) (s.trans (Same.new hp)) upd_same⟩
end K04

set_option maxRecDepth 100000
set_option maxHeartbeats 4000000
namespace K04
open PySem PySem.Spec PyProof.Rows L2 He VH
abbrev FnEq (K : PySem.W.Frag) (fd : FuncData) : Prop := FnM K "__eq__" "Affine.__eq__" 8 2 (ma K (ga K "Affine") "__eq__") fd
abbrev FnIni (K : PySem.W.Frag) (fd : FuncData) : Prop := FnM K "__init__" "Affine.__init__" 8 0 (ma K (ga K "Affine") "__init__") fd
section
variable {X : Cx} {fd : FuncData}
theorem bEq {K : PySem.W.Frag} (F : FnEq K fd) : Binds K fd ["self", "other"] [] := FunD.bindsN F fun _ _ _ _ _ _ us hl => match us, hl with | [_, _], _ => rfl
theorem bIni {K : PySem.W.Frag} (F : FnIni K fd) : Binds K fd ["self", "scale", "shift"] [] := FunD.bindsN F fun _ _ _ _ _ _ us hl => match us, hl with | [_, _, _], _ => rfl
theorem kIni {K : PySem.W.Frag} (F : FnIni K fd) : KBn K fd ["self", "scale", "shift"] 1 ["shift", "scale"] (fun us ws => us ++ ws.reverse) (fun vs zs => vs ++ zs.reverse) :=
  FunD.byName F 1 ["shift", "scale"] (fun us ws => us ++ ws.reverse) (fun a b => a.append (by
    induction b with
    | nil => exact .nil
    | cons h _ ih =>
      rw [List.reverse_cons, List.reverse_cons]
      exact ih.append (.cons h .nil))) fun _ _ _ _ _ _ us ws l1 l2 => match us, l1, ws, l2 with | [_], _, [_, _], _ => rfl
theorem eqR (T : Txt X.K X.mg) (F : FnEq X.K fd) : FnR X.prog X.w X.K X.mg X.base CX0 1 (ma X.K (ga X.K "Affine") "__eq__") (spEqA X.K) := raw0 (ok_eq F T) (bEq F)
theorem op_eqAff (T : Txt X.K X.mg) (F : FnEq X.K fd) (hr : Room 1 X.A) : OpR X (compareOp .Eq) (rOwnA X.K (ga X.K "Affine") (spEqA X.K) E0 X) :=
  op_ownA (fun _ _ => rfl) T.mEq.at_ T.mEq.fn (eqR T F) hr pass0
theorem op_neAff (T : Txt X.K X.mg) (F : FnEq X.K fd) (hr : Room 2 X.A) : OpR X (compareOp .NotEq) (rNeA X.K (ga X.K "Affine") (spEqA X.K) E0 X) :=
  op_neA T.ne T.ob T.mEq.at_ T.mEq.fn (eqR T F) hr pass0
/-- two Affines compared -/
theorem read_eq (T : Txt X.K X.mg) {H : Hp} {a b : Addr} {i j i' j' : Int} {Q : VK} (ha : AffAt X.K H a i j) (hb : AffAt X.K H b i' j') (q : Q (.bl (decide (i = i') && decide (j = j'))) H) :
    rOwnA X.K (ga X.K "Affine") (spEqA X.K) E0 X (.ref a) (.ref b) H Q := by
  refine ⟨a, _, rfl, .inr ?_, hb.ty T, ?_, a, i, j, _, rfl, ha, .inl ⟨b, i', j', rfl, hb, q⟩⟩
  · obtain ⟨dx, h⟩ := ha
    exact ⟨dx, _, h⟩
  · unfold PySem.W.notFirst
    simp
/-- an Affine and a tuple -/
theorem read_eqT (T : Txt X.K X.mg) {H : Hp} {a p : Addr} {xs : List V} {i j : Int} {Q : VK} (ha : AffAt X.K H a i j) (hp : H p = some (.tup xs)) (q : Q (.bl false) H) :
    rOwnA X.K (ga X.K "Affine") (spEqA X.K) E0 X (.ref a) (.ref p) H Q := by
  have k := T.kt "tuple" (by simp)
  refine ⟨a, _, rfl, .inr ?_, .base (.tup hp), ?_, a, i, j, _, rfl, ha, .inr ⟨_, .base (.tup hp), k.1, q⟩⟩
  · obtain ⟨dx, h⟩ := ha
    exact ⟨dx, _, h⟩
  · unfold PySem.W.notFirst
    rw [k.2]
    simp
/-- two Affines told apart -/
theorem read_ne (T : Txt X.K X.mg) {H : Hp} {a b : Addr} {i j i' j' : Int} {Q : VK} (ha : AffAt X.K H a i j) (hb : AffAt X.K H b i' j') (q : Q (.bl (!(decide (i = i') && decide (j = j')))) H) :
    rNeA X.K (ga X.K "Affine") (spEqA X.K) E0 X (.ref a) (.ref b) H Q := by
  refine ⟨a, _, rfl, .inr ?_, hb.ty T, ?_, a, i, j, _, rfl, ha, .inl ⟨b, i', j', rfl, hb, _, rfl, q⟩⟩
  · obtain ⟨dx, h⟩ := ha
    exact ⟨dx, _, h⟩
  · unfold PySem.W.notFirst
    simp
end
end K04

set_option maxRecDepth 100000
set_option maxHeartbeats 4000000
/-! An own instance called by keywords alone: o(k = v, ..). -/
namespace StX
open PySem PySem.Spec PyProof.Rows L2
theorem callO_ofK {M : Model} {A : Around} {E : Value → Shared → Prop} {s : Shared} {a : Addr} {pos : Pos} {Q : Value → Shared → Prop} {args : List (Bool × Sem Value)} {keywords : List (Option Str × Sem Value)}
    (hp : (args.any (·.1) || keywords.any (·.1.isNone)) = false)
    (h : wpAny M A (evalArgs (.ref a) true args keywords) (fun z s₁ => (∃ C ox od, PySem.W.InstAt s₁.heap a ox C od ∧ ox.data = .plain) ∧ wpAny M A (call (.ref a) z.pos z.kw) Q E s₁) E s) :
    wpAny M A (callWith pos (.ref a) [] args keywords) Q E s := by
  unfold callWith
  refine wpAny_bind (wpAny_holding (wpAny_mono h (fun z s₁ h₁ => wpAny_bind (wpAny_standAt ?_)) (fun _ _ y => y)))
  obtain ⟨⟨C, ox, od, J, hd⟩, h₁⟩ := h₁
  have L := PySem.W.kco_keeper (M := M) J hd
  rw [hp]
  refine wpAny_bind (L.here ?_)
  show wpAny M A (operate _ (call (.ref a) z.pos z.kw) >>= _) _ _ _
  exact wpAny_bind (wpAny_mono (wpAny_operateT h₁) (fun r s₂ hr => wpAny_bind (wpAny_holding (wpAny_point (wpAny_pure hr)))) (fun _ _ y => y))
end StX
namespace L2
open PySem PySem.Spec PyProof.Rows
section
variable {X : Cx} {CX : CXT} {C f : Addr} {k : Nat} {fd : FuncData} {ps ks : List Str} {sp : Sp} {E : XK} {fe : Expr} {kws : List Keyword} {tf : TE} {tk : TA} {pos : Pos} {g : List Value → List Value → List Value} {gV : List V → List V → List V}
/-- o(k = v, ..) -/
def tCallOK (X : Cx) (C : Addr) (sp : Sp) (gV : List V → List V → List V) (m : Nat) (E : XK) (tf : TE) (tk : TA) : TE := fun σ H Q =>
  tf σ H fun y H1 => ∃ a, y = .ref a ∧ tk σ H1 fun zs H2 => zs.length = m ∧ StX.InsC X H2 a C ∧ sp (gV [.ref a] zs) H2 Q E
theorem pe_callOK (hf : PE X fe tf) (c : StX.CallO X.K C f) (F : FnOk X.prog X.w X.K X.mg X.base CX k f fd ps sp) (hr : Room k X.A) (hb : KBn X.K fd ps 1 ks g gV) (hx : Passes CX X E) (hkw : PK X kws tk)
    (hev : eval (.Call fe [] kws pos) X.env = (do
      let v ← eval fe X.env
      callWith pos v [] (backTo pos (starEach [] X.env)) (backToKw pos (keywordEach kws X.env))) := by rfl)
    (hall : (backToKw pos (keywordEach kws X.env)).all (·.1.isSome) = true := by rfl) (hks : (backToKw pos (keywordEach kws X.env)).filterMap (·.1) = ks := by rfl)
    (hpl : ((backTo pos (starEach [] X.env)).any (·.1) || (backToKw pos (keywordEach kws X.env)).any (·.1.isNone)) = false := by rfl) :
    PE X (.Call fe [] kws pos) (tCallOK X C sp gV ks.length E tf tk) := by
  refine ⟨fun pins s σ H Q I h => ?_⟩
  rw [hev]
  refine wpAny_bind (wpAny_mono (hf.run pins s σ H _ I h) (fun u s1 z => ?_) (fun _ _ z => z))
  obtain ⟨v, H1, I1, rv, a, rfl, q⟩ := z
  cases (show u = Value.ref a from rv)
  refine StX.callO_ofK hpl (evalArgs_kw2_nil hall (wpAny_mono (hkw.run pos pins s1 σ H1 _ I1 q) (fun ws s2 z => ?_) (fun _ _ z => z)))
  obtain ⟨zs, H2, I2, rz, lz, ia, q2⟩ := z
  obtain ⟨ox, od, J, hd⟩ := StX.insC_at I2 ia
  refine ⟨⟨C, ox, od, J, hd⟩, ?_⟩
  rw [hks]
  refine wpAny_call (PySem.W.kco_code I2.kIn J hd c.at_ c.fn c.fi ?_)
  have r1 : Vals [V.ref a] [Value.ref a] := .cons rfl .nil
  have l2 : ws.length = ks.length := rz.length.symm.trans lz
  refine codeAny_mono (F.run _ X.stack _ _ ⟨[Value.ref a], ks.zip ws⟩ (g [Value.ref a] ws) _ _ E hr I2.env0 (hb.to _ [Value.ref a] ws I2.kIn rfl l2) (hb.rel r1 rz) q2) fun r s' hq' => ?_
  cases r with
  | error er => exact hx pins σ _ _ er s' I2 hq'
  | ok fl =>
    cases fl with
    | ret u =>
      obtain ⟨v, H', J2, rv, q3⟩ := I2.after hq'
      exact ⟨v, H', J2, rv, q3⟩
    | next => exact hq'.elim
    | brk => exact hq'.elim
    | cont => exact hq'.elim
end
end L2

set_option maxRecDepth 100000
set_option maxHeartbeats 4000000
namespace K04
open PySem PySem.Spec PyProof.Rows L2 He VH
section
variable {X : Cx} {fd fdI fdN : FuncData} {P : Program} {w : World} {K : PySem.W.Frag} {mg : Str → Option Value} {base : Heap}
theorem kCal (F : FnCal K fd) : KBn K fd ["self", "value"] 1 ["value"] (fun us ws => us ++ ws) (fun vs zs => vs ++ zs) :=
  FunD.byName F 1 ["value"] (fun us ws => us ++ ws) (fun a b => a.append b) fun _ _ _ _ _ _ us ws l1 l2 => match us, l1, ws, l2 with | [_], _, [_], _ => rfl
theorem pIni (F : FnIni K fd) : KBn K fd ["self", "scale", "shift"] 3 [] (fun us _ => us) (fun vs _ => vs) := KBn.of (bIni F) rfl
/-- Affine(i, j) made: what the promise of __init__ asks, of a new instance -/
theorem read_make (T : Txt K mg) {H : Hp} {E : XK} {Q : VK} {i j : Int} (ne : i ≠ 0) (k : ∀ (H' : Hp) (a : Addr), H a = none → Same H H' → AffAt K H' a i j → Q (.ref a) H') :
    ∀ a dx, H a = none → H dx = none → dx ≠ a → spInit K [.ref a, .int i, .int j] (upd (upd H dx (.own a)) a (.ins (ga K "Affine") dx [])) (fun v H2 => v = .non ∧ Q (.ref a) H2) E := by
  intro a dx na nd da
  refine ⟨a, _, dx, _, _, rfl, upd_same, T.aff, T.nSc, T.nSh, .inl ⟨i, rfl⟩, .inl ⟨j, rfl⟩, ?_⟩
  rw [show okA (.int i) (.int j) = none from if_neg ne]
  intro H' bt ha
  refine ⟨rfl, k H' a na (fun b o e => ?_) ⟨dx, ha⟩⟩
  have ba' : b ≠ a := ne_of_none e na
  exact bt b o ba' (by
    rw [upd_ne ba', upd_ne (ne_of_none e nd)]
    exact e)
/-- Affine(i, j) called with an integer -/
theorem read_call {H : Hp} {E : XK} {Q : VK} {a : Addr} {i j v : Int} (ha : AffAt K H a i j) (cm : CMulW i v) (q : Q (.int (i * v + j)) H) : spCallA K [.ref a, .int v] H Q E := ⟨a, i, j, _, rfl, ha, .inl ⟨v, rfl, cm, q⟩⟩
/-- .. with something else -/
theorem read_callNo {H : Hp} {E : XK} {Q : VK} {a : Addr} {i j : Int} {x : V} (ha : AffAt K H a i j) (nx : IntV K H x false) (q : Rz K E H "NoNumber" "value") : spCallA K [.ref a, x] H Q E := ⟨a, i, j, x, rfl, ha, .inr ⟨nx, q⟩⟩
/-- the integers of this law are multiplied -/
theorem Ger.mul {i j : Int} (hi : i.natAbs ≤ 10 ^ 60 + 1) (hj : j.natAbs ≤ 10 ^ 60 + 1) : CMulW i j := by
  have b : ∀ n : Nat, n ≤ 10 ^ 60 + 1 → n.log2 < 250 := fun n h => by
    by_cases z : n = 0
    · subst z; decide
    · exact (Nat.log2_lt z).mpr (Nat.lt_of_le_of_lt h (by decide))
  unfold CMulW
  have a1 := b _ hi
  have a2 := b _ hj
  omega
end
end K04

set_option maxRecDepth 100000
set_option maxHeartbeats 4000000
/-! A lambda with one parameter: its frame, and its call by what a parameter of another def holds. -/
namespace LamX
open PySem PySem.Spec PyProof.Rows L2
/-- captured names, globals and the one parameter q -/
structure Lam1 (q : Str) (sc scope : Scope) : Prop where
  kd : scope.kind = .function
  nc : scope.isCoroutine = false
  ng : scope.isGenerator = false
  cellfree : ∀ y ∈ scope.names, y.2 ≠ .cell
  only : ∀ y, scope.names.lookup y = some .local → y = q
  par : scope.names.lookup q = some .local
  up : ∀ y ∈ scope.names, y.2 = .free → sc.names.lookup y.1 = some .cell ∨ sc.names.lookup y.1 = some .free
def lam1B (q : Str) (sc scope : Scope) : Bool :=
  decide (scope.kind = .function) && (!scope.isCoroutine && (!scope.isGenerator && (decide (scope.names.lookup q = some .local) &&
    (scope.names.all fun y => !decide (y.2 = .cell) && ((!decide (y.2 = .local) || decide (y.1 = q)) && (!decide (y.2 = .free) || (decide (sc.names.lookup y.1 = some .cell) || decide (sc.names.lookup y.1 = some .free))))))))
theorem lam1_by {q : Str} {sc scope : Scope} (h : lam1B q sc scope = true) : Lam1 q sc scope := by
  simp only [lam1B, Bool.and_eq_true, Bool.or_eq_true, Bool.not_eq_true', decide_eq_true_eq, decide_eq_false_iff_not, List.all_eq_true] at h
  obtain ⟨a1, a2, a3, a4, a5⟩ := h
  refine ⟨a1, a2, a3, fun y hy => (a5 y hy).1, fun y e => ?_, a4, fun y hy e => ?_⟩
  · rcases (a5 _ (PySem.mem_of_lookup e)).2.1 with z | z
    · exact absurd rfl z
    · exact z
  · rcases (a5 y hy).2.2 with z | z
    · exact absurd e z
    · exact z
theorem Lam1.cells {q : Str} {X : Cx} {scope : Scope} (L : Lam1 q X.env.scope scope) (ok : X.Ok) (y : Str × NameKind) (hy : y ∈ scope.names) (e : y.2 = .free) : ∃ c, X.env.cells.lookup y.1 = some c :=
  (L.up y hy e).elim (fun k => ok.has _ (.inl k)) (fun k => ok.has _ (.inr k))
section
variable {X : Cx} {pins : List (Addr × Obj)} {σ : L2.St} {H HZ : Hp} {s s1 : Shared}
/-- the frame of the lambda, just entered -/
theorem lam1_start {A : Around} {outer : List Env} {E : XK} {scope : Scope} {f c' : Addr} {h₁ : Heap} {tk : Nat} {q : Str} {i : Nat} {x : V} {u : Value}
    (I : Inv X pins σ H s) (L : Lam1 q X.env.scope scope) (nd : X.N.Nodup) (hi : X.N[i]? = some q) (rx : L2.RelV x u) (e0 : Env0 X.prog X.w X.K X.mg X.base A outer s1 HZ)
    (hd : A.handled = none) (un : Un (frs X.stack) [] H HZ s.heap s1.heap) (hns : h₁.Ns s1.heap.objs.size fun y => ([(q, u)] : List (Str × Value)).reverse.lookup y)
    (kp : ∀ b o, s1.heap.get? b = some o → h₁.get? b = some o) : Inv (lamCx X A outer s1 HZ E scope f c') [] (σ.set i (some x)) HZ { s1 with heap := h₁, toks := tk } := by
  have own : ∀ {y : Str}, scope.names.lookup y = some .free → ∃ c, (cloFrom X.env.cells scope.names []).lookup y = some c := fun {y} hl =>
    mem_lookup (cloFrom_has (cells := X.env.cells) (acc := []) (show (y, NameKind.free) ∈ scope.names from PySem.mem_of_lookup hl))
  have src : ∀ {y : Str} {c : Addr}, (cloFrom X.env.cells scope.names []).lookup y = some c → X.env.cells.lookup y = some c := fun {y c} e => by
    rcases cloFrom_mem (PySem.mem_of_lookup e) with z | ⟨m, z⟩
    · cases z
    · obtain ⟨c1, z1⟩ := L.cells I.ok _ m rfl
      have z2 : X.env.cells.lookup y = some c1 := z1
      rw [z2] at z
      rw [z2, z]
      rfl
  have still : ∀ {c : Addr} {v : Option Value}, H c = none → s.heap.IsCell c v → h₁.IsCell c v := fun {c v} n z => by
    obtain ⟨o, ho, hv⟩ := z
    obtain ⟨sl, z2⟩ := un.any ho n (by simp)
    exact ⟨_, kp _ _ z2, hv⟩
  have nx : ∀ b : Addr, b ∉ (lamCx X A outer s1 HZ E scope f c').ex := fun b z => absurd (show b ∈ ([] : List Addr) from z) (by simp)
  have okL : (lamCx X A outer s1 HZ E scope f c').Ok := by
    refine ⟨e0.mod, L.kd, rfl, rfl, Nat.le_refl _, fun y z c a b => I.ok.inj y z c (src a) (src b), fun y hy => ?_, fun y c z _ => Bool.noConfusion (show false = true from z), fun _ => hd, Around.frames_deeper e0.frames,
      .inr ⟨rfl, rfl⟩, fun b z => absurd z (nx b), e0.bs, e0.bsz, fun b _ _ => nx b, fun b z => absurd z (nx b), e0.funs, e0.frf⟩
    rcases (show scope.names.lookup y = some .cell ∨ scope.names.lookup y = some .free from hy) with z | z
    · exact absurd rfl (L.cellfree _ (PySem.mem_of_lookup z))
    · exact own z
  refine ⟨okL, rfl, e0.bare, Un.kept kp, ⟨_, hns, fun j y v e1 e2 e3 => ?_⟩, fun y c e => ?_, e0.hok.fresh (Nat.le_refl _), fun y c e => ?_, fun p hp => absurd (show p ∈ ([] : List (Addr × Obj)) ++ [] from hp) (by simp),
    e0.hok.kept kp, by rw [List.length_set]; exact I.len⟩
  · rcases (show Vis scope y from e3) with k | k | k
    · have ey : y = q := L.only y k
      subst ey
      have ij : i = j := nodup_ix nd hi e1
      subst ij
      have lt : i < σ.length := by
        rw [I.len]
        exact (List.getElem?_eq_some_iff.mp hi).1
      rw [List.getElem?_set_self lt] at e2
      cases e2
      exact ⟨u, rx, .inl ⟨k, by simp⟩⟩
    · exact absurd rfl (L.cellfree _ (PySem.mem_of_lookup k))
    · have ne : i ≠ j := fun z => by
        subst z
        have e1' : X.N[i]? = some y := e1
        rw [hi] at e1'
        cases e1'
        rw [L.par] at k
        cases k
      rw [List.getElem?_set_ne ne] at e2
      obtain ⟨m, _, look⟩ := I.loc
      have kf := L.up _ (PySem.mem_of_lookup k) rfl
      obtain ⟨w', r, z⟩ := look j y v e1 e2 (kf.elim (fun a => .inr (.inl a)) (fun a => .inr (.inr a)))
      obtain ⟨c2, h2⟩ := own k
      refine ⟨w', r, .inr ⟨.inr k, c2, h2, ?_⟩⟩
      rcases z with ⟨a, _⟩ | ⟨_, c3, b, z⟩
      · have a' : X.env.scope.names.lookup y = some .local := a
        rcases kf with k2 | k2 <;> rw [show X.env.scope.names.lookup y = _ from k2] at a' <;> cases a'
      · have b2 := src h2
        rw [b] at b2
        cases b2
        exact still (I.freeC y _ b) z
  · obtain ⟨w', z⟩ := I.cell y c (src e)
    exact ⟨w', still (I.freeC y c (src e)) z⟩
  · obtain ⟨v, o, ho, _⟩ := I.cell y c (src e)
    exact un.free c o ho (I.freeC y c (src e)) (by simp)
/-- the object of a lambda with defaults dV -/
abbrev lamD (X : Cx) (params : Arguments) (body : Expr) (scope : Scope) (dV doc pm : Value) (c' : Addr) (ctv : Value) : Obj :=
  PySem.W.kdv_obj "<lambda>" (X.env.qual ++ "<lambda>") params (.expr body) scope (cloFrom X.env.cells scope.names []) dV doc pm c' ctv
abbrev lamDF (X : Cx) (params : Arguments) (body : Expr) (scope : Scope) (dV doc pm : Value) (c' : Addr) (ctv : Value) : FuncData :=
  PySem.W.kdv_fn "<lambda>" (X.env.qual ++ "<lambda>") params (.expr body) scope (cloFrom X.env.cells scope.names []) dV doc pm (.ref c') ctv
/-- it is called, in a frame entered from its home at s -/
theorem lam1_code {A : Around} {outer : List Env} {Q : VK} {E : XK} {scope : Scope} {f c' : Addr} {q : Str} {i k : Nat} {x : V} {u dV doc pm ctv : Value} {params : Arguments} {body : Expr} {tb : TE} {args : Args}
    (I : Inv X pins σ H s) (L : Lam1 q X.env.scope scope) (nd : X.N.Nodup) (hi : X.N[i]? = some q) (rx : L2.RelV x u) (e0 : Env0 X.prog X.w X.K X.mg X.base A outer s1 HZ) (hr : Room (k + 1) A)
    (un : Un (frs X.stack) [] H HZ s.heap s1.heap) (of : s1.heap.get? f = some (lamD X params body scope dV doc pm c' ctv)) (hc : HZ c' = some (CodeO c' (X.env.qual ++ "<lambda>"))) (lim : s1.heap.NoLimit)
    (hb : BindsTo s1 (lamDF X params body scope dV doc pm c' ctv) args [(q, u)])
    (hbody : Room k (A.deeper (lamEnv X scope s1.heap.objs.size f c')) → PE (lamCx X A outer s1 HZ E scope f c') body tb) (ht : tb (σ.set i (some x)) HZ Q) :
    codeAny (model X.prog X.w) A (.call (.ref f) args) (CR (L2.CX X.prog X.w) outer X.prog X.w HZ s1 Q E) s1 := by
  obtain ⟨⟨oc, vs, t, hoc, hdc, hvc⟩, _, _⟩ := e0.hok c' _ hc
  refine PySem.W.kla_callFunE hr.depth of rfl L.nc L.ng rfl ⟨c', oc, vs, t, rfl, hoc, hdc, hvc⟩ (hb _ _ _ _ ?_)
  refine wpAny_newFunctionEnv L.cellfree (fun y hy => ?_) (fun h₁ hns hsb => ⟨lim.fresh _ hsb, ?_⟩) L.kd
  · cases List.mem_singleton.mp hy
    exact L.par
  show codeAny _ _ (.expr body (lamEnv X scope s1.heap.objs.size f c')) _ _
  have kp : ∀ b o, s1.heap.get? b = some o → h₁.get? b = some o := fun b o e => hsb.extBut b o (Nat.ne_of_lt (Heap.lt_size e)) (Heap.get?_push_of_some _ e)
  have J := lam1_start (A := A) (outer := outer) (E := E) (f := f) (c' := c') (tk := s1.toks + ([(q, u)] : List (Str × Value)).length) I L nd hi rx e0 hr.hd un hns kp
  refine PySem.W.kla_codeExpr (wpAny_mono ((hbody (hr.deeper _)).run [] _ _ HZ Q J ht) (fun v s' z => ?_) fun e s' z => z)
  obtain ⟨w', H', J', rv, z⟩ := z
  exact ⟨w', H', J'.os, J'.bare, J'.base, J'.hok, rv, z⟩
end
end LamX


set_option maxRecDepth 100000
set_option maxHeartbeats 4000000
/-! A lambda made and kept: its function object as a pin. -/
namespace LamX
open PySem PySem.Spec PyProof.Rows L2
theorem inv_pin {X : Cx} {pins : List (Addr × Obj)} {σ : L2.St} {H : Hp} {s : Shared} (I : Inv X pins σ H s) {f : Addr} {o : Obj} (at_ : s.heap.get? f = some o) (n : H f = none) (nf : f ∉ frs X.stack) (nl : f ≠ X.env.locals)
    (nc : ∀ v : Option Value, o.data ≠ .cell v) : Inv X ((f, o) :: pins) σ H s := by
  refine ⟨I.ok, I.os, I.bare, I.base, I.loc, I.cell, I.free, I.freeC, fun p hp => ?_, I.hok, I.len⟩
  have go : p = (f, o) ∨ p ∈ X.pn ++ pins := by
    rcases List.mem_append.mp hp with h | h
    · exact .inr (List.mem_append.mpr (.inl h))
    · rcases List.mem_cons.mp h with h | h
      · exact .inl h
      · exact .inr (List.mem_append.mpr (.inr h))
  rcases go with rfl | h
  · refine ⟨at_, n, nl, fun h => nf ?_, nc⟩
    rcases I.ok.stk with e | ⟨e, _⟩
    · rw [e]; exact h
    · rw [e]
      obtain ⟨x, hx, q⟩ := List.mem_filterMap.mp h
      exact List.mem_filterMap.mpr ⟨x, List.mem_cons_of_mem _ hx, q⟩
  · exact I.pin p h
theorem not_locals {X : Cx} {pins : List (Addr × Obj)} {σ : L2.St} {H : Hp} {s : Shared} (I : Inv X pins σ H s) {f : Addr} {o : Obj} {fd : FuncData} (at_ : s.heap.get? f = some o) (d : o.data = .func fd) : f ≠ X.env.locals := by
  intro e
  subst e
  obtain ⟨m, ⟨o', es, ep, g, dd, _⟩, _⟩ := I.loc
  rw [at_] at g
  cases g
  rw [d] at dd
  cases dd
section
variable {X : Cx} {T : List (Addr × Str)} {c P : Addr} {params : Arguments} {body : Expr} {scope : Scope} {pos : Pos}
/-- the object of a lambda -/
abbrev lamO (X : Cx) (params : Arguments) (body : Expr) (scope : Scope) (pm : Value) (c' : Addr) (ctv : Value) : Obj :=
  PySem.W.kla_obj "<lambda>" (X.env.qual ++ "<lambda>") params body scope (cloFrom X.env.cells scope.names []) pm c' ctv
/-- a lambda without defaults, evaluated: a new pin -/
theorem lam_pin {pins : List (Addr × Obj)} {σ : L2.St} {H : Hp} {s : Shared} {E : Value → Shared → Prop} {Q : Value → Shared → Prop} (I : Inv X pins σ H s) (TB : TabB X.base X.mg c P) (hcode : X.env.code = .ref c)
    (hm : (P, X.env.qual ++ "<lambda>") ∈ T) (hu : ∀ p ∈ T, p.1 = P → p.2 = X.env.qual ++ "<lambda>") (t : Tabs T H) (hd : defaultsOf params X.env = ([], []))
    (hfree : ∀ y ∈ scope.names, y.2 = .free → ∃ c, X.env.cells.lookup y.1 = some c)
    (k : ∀ (f c' : Addr) (pm ctv : Value) (H1 : Hp) (s' : Shared), Inv X ((f, lamO X params body scope pm c' ctv) :: pins) σ H1 s' → ExtN H H1 → Tabs T H1 →
      H1 c' = some (CodeO c' (X.env.qual ++ "<lambda>")) → f ∉ frs X.stack → Q (.ref f) s') :
    wpAny (model X.prog X.w) X.A (eval (.Lambda params body scope pos) X.env) Q E s := by
  refine lam_make2 I TB hcode hm hu t hd hfree fun f c' pm ctv H1 s' I1 ex t1 at_ n nf hc => ?_
  exact k f c' pm ctv H1 s' (inv_pin I1 at_ n nf (not_locals I1 at_ rfl) (fun _ z => by cases z)) ex t1 hc nf
end
end LamX

set_option maxRecDepth 100000
set_option maxHeartbeats 4000000
/-! A lambda with one parameter, called in a def that got it: a() by its default, a(e) by a value. -/
namespace LamX
open PySem PySem.Spec PyProof.Rows L2
section
variable {X : Cx} {pins : List (Addr × Obj)} {σ : L2.St} {H : Hp} {s : Shared}
/-- the context of the def that got it -/
abbrev gotCx (X : Cx) (CXg : CXT) (Ng : List Str) (qg : Str) (sg : Scope) (g : Addr) (cdg : Value) (s : Shared) (H : Hp) (Eg : XK) (pn : List (Addr × Obj)) (xe : Value → Shared → Prop) : Cx :=
  (cxOf CXg X.prog X.w X.K X.mg X.base Ng qg sg g cdg X.A X.stack s H Eg).tr pn xe
theorem act_end {CXg : CXT} {Eg : XK} {Ng : List Str} {qg : Str} {sg : Scope} {g : Addr} {cdg : Value} {pn : List (Addr × Obj)} {xe : Value → Shared → Prop} {W : WX} {E : XK} {Q : VK} {pinsZ : List (Addr × Obj)} {σZ : L2.St} {H1 : Hp} {s1 : Shared} {f : Addr} {args : List Value}
    (tk : Takes (gotCx X CXg Ng qg sg g cdg s H Eg pn xe) W) (hW : ∀ cls d σ' H', E cls d H' → W cls d σ' H') (I1 : Inv (gotCx X CXg Ng qg sg g cdg s H Eg pn xe) pinsZ σZ H1 s1)
    (rc : codeAny (model X.prog X.w) (X.A.deeper (envOfC qg sg s.heap.objs.size g cdg)) (.call (.ref f) ⟨args, []⟩) (CR (L2.CX X.prog X.w) (envOfC qg sg s.heap.objs.size g cdg :: X.stack) X.prog X.w H1 s1 Q E) s1) :
    wpAny (model X.prog X.w) (X.A.deeper (envOfC qg sg s.heap.objs.size g cdg)) (call (.ref f) args) (EP (gotCx X CXg Ng qg sg g cdg s H Eg pn xe) pinsZ σZ Q) xe s1 := by
  have hx : Passes (L2.CX X.prog X.w) (gotCx X CXg Ng qg sg g cdg s H Eg pn xe) E := passes_call tk hW
  refine wpAny_call (codeAny_mono rc fun r s' z => ?_)
  cases r with
  | error e => exact hx pinsZ σZ H1 s1 e s' I1 z
  | ok fl =>
    cases fl with
    | ret u => exact I1.after z
    | next => exact False.elim z
    | brk => exact False.elim z
    | cont => exact False.elim z
/-- a() -/
theorem pe_act1d {CXg : CXT} {Eg : XK} {Ng : List Str} {qg : Str} {sg : Scope} {g f c' T : Addr} {cdg doc pm ctv : Value} {params : Arguments} {body : Expr} {scope : Scope} {k i : Nat} {a q : Str} {iq : Nat} {pn : List (Addr × Obj)} {xe : Value → Shared → Prop} {W : WX} {E : XK} {tb : TE} {p1 p2 : Pos} {x : V}
    (I : Inv X pins σ H s) (L : Lam1 q X.env.scope scope) (nd : X.N.Nodup) (hiq : X.N[iq]? = some q) (hf : s.heap.get? f = some (lamD X params body scope (.ref T) doc pm c' ctv)) (hfn : H f = none) (hfr : f ∉ frs X.stack) (hT : H T = some (.tup [x]))
    (hbind : ∀ (n : Str) (cl : List (Str × Addr)) (doc pm cv ctv : Value), ∃ kk : Option (Array Value) → Sem (List (Str × Value)), bindArgs (PySem.W.kdv_fn "<lambda>" n params (.expr body) scope cl (.ref T) doc pm cv ctv) ⟨[], []⟩ = seqItems? (.ref T) >>= kk ∧ ∀ u, kk (some #[u]) = pure [(q, u)])
    (tk : Takes (gotCx X CXg Ng qg sg g cdg s H Eg pn xe) W) (hW : ∀ cls d σ' H', E cls d H' → W cls d σ' H') (hr : Room (k + 1) (X.A.deeper (envOfC qg sg s.heap.objs.size g cdg)))
    (hbody : ∀ (A : Around) (outer : List Env) (s : Shared) (H : Hp), Room k (A.deeper (lamEnv X scope s.heap.objs.size f c')) → PE (lamCx X A outer s H E scope f c') body tb)
    (hN : Ng[i]? = some a) (hv : Vis sg a) (hd : (a == ("__debug__" : Str)) = false := by decide) (hcd : (a == ("__classdict__" : Str)) = false := by decide) :
    PE (gotCx X CXg Ng qg sg g cdg s H Eg pn xe) (.Call (.Name a p1) [] [] p2)
      (fun σZ HZ Q => σZ[i]? = some (some (.ref f)) ∧ HZ c' = some (CodeO c' (X.env.qual ++ "<lambda>")) ∧ tb (σ.set iq (some x)) HZ Q) := by
  refine ⟨fun pinsZ sZ σZ HZ Q IZ h => ?_⟩
  obtain ⟨hs, hc, ht⟩ := h
  refine wpAny_Call_Name_kw (thn ((pe_var (pos := p1) (i := i) hN hv hd hcd).run pinsZ sZ σZ HZ (fun v H1 => v = .ref f ∧ H1 = HZ) IZ ⟨.ref f, hs, rfl, rfl⟩) fun u s1 ⟨v, H1, I1, r1, q1⟩ => ?_)
  obtain ⟨rfl, rfl⟩ := q1
  obtain rfl : u = Value.ref f := r1
  have of1 : s1.heap.get? f = some (lamD X params body scope (.ref T) doc pm c' ctv) := I1.base.keep f _ hf hfn hfr (fun z => nomatch (show f ∈ ([] : List Addr) from z))
  refine PySem.W.callWith_F0 ⟨_, _, _, _, of1⟩ (act_end tk hW I1 ?_)
  have hT1 : H1 T = some (.tup [x]) := I1.base.tups T _ hT
  obtain ⟨_, its, rv, oT, eT, _, n, dT⟩ := I1.hok T _ hT1
  cases rv with
  | @cons _ ux _ _ rx rn =>
  cases rn
  obtain ⟨kk, hk1, hk2⟩ := hbind (X.env.qual ++ "<lambda>") (cloFrom X.env.cells scope.names []) doc pm (.ref c') ctv
  exact lam1_code I L nd hiq rx I1.env0 hr I1.base of1 hc I1.nolimit (PySem.BindsTo.of_defaults rfl eT dT hk1 (hk2 ux)) (fun h2 => hbody _ _ s1 H1 h2) ht
/-- a(e) -/
theorem pe_act1a {CXg : CXT} {Eg : XK} {Ng : List Str} {qg : Str} {sg : Scope} {g f c' : Addr} {cdg dV doc pm ctv : Value} {params : Arguments} {body e : Expr} {scope : Scope} {k i : Nat} {a q : Str} {iq : Nat} {pn : List (Addr × Obj)} {xe : Value → Shared → Prop} {W : WX} {E : XK} {tb te : TE} {p1 p2 : Pos}
    (I : Inv X pins σ H s) (L : Lam1 q X.env.scope scope) (nd : X.N.Nodup) (hiq : X.N[iq]? = some q) (hf : s.heap.get? f = some (lamD X params body scope dV doc pm c' ctv)) (hfn : H f = none) (hfr : f ∉ frs X.stack)
    (hbind : ∀ (n : Str) (cl : List (Str × Addr)) (doc pm cv ctv u : Value), bindArgs (PySem.W.kdv_fn "<lambda>" n params (.expr body) scope cl dV doc pm cv ctv) ⟨[u], []⟩ = pure [(q, u)])
    (tk : Takes (gotCx X CXg Ng qg sg g cdg s H Eg pn xe) W) (hW : ∀ cls d σ' H', E cls d H' → W cls d σ' H') (hr : Room (k + 1) (X.A.deeper (envOfC qg sg s.heap.objs.size g cdg)))
    (hbody : ∀ (A : Around) (outer : List Env) (s : Shared) (H : Hp), Room k (A.deeper (lamEnv X scope s.heap.objs.size f c')) → PE (lamCx X A outer s H E scope f c') body tb)
    (hN : Ng[i]? = some a) (hv : Vis sg a) (he : PE (gotCx X CXg Ng qg sg g cdg s H Eg pn xe) e te) (hd : (a == ("__debug__" : Str)) = false := by decide) (hcd : (a == ("__classdict__" : Str)) = false := by decide)
    (hst : starEach [e] (gotCx X CXg Ng qg sg g cdg s H Eg pn xe).env = (false, eval e (gotCx X CXg Ng qg sg g cdg s H Eg pn xe).env) :: starEach [] (gotCx X CXg Ng qg sg g cdg s H Eg pn xe).env := by rfl)
    (hpl : (backTo p2 (starEach [] (gotCx X CXg Ng qg sg g cdg s H Eg pn xe).env)).any (·.1) = false := by rfl) :
    PE (gotCx X CXg Ng qg sg g cdg s H Eg pn xe) (.Call (.Name a p1) [e] [] p2)
      (fun σZ HZ Q => σZ[i]? = some (some (.ref f)) ∧ tCons te tNil σZ HZ fun vs H1 => ∃ x, vs = [x] ∧ H1 c' = some (CodeO c' (X.env.qual ++ "<lambda>")) ∧ tb (σ.set iq (some x)) H1 Q) := by
  refine ⟨fun pinsZ sZ σZ HZ Q IZ h => ?_⟩
  obtain ⟨hs, h2⟩ := h
  refine wpAny_Call_Name_kw (thn ((pe_var (pos := p1) (i := i) hN hv hd hcd).run pinsZ sZ σZ HZ (fun v H1 => v = .ref f ∧ H1 = HZ) IZ ⟨.ref f, hs, rfl, rfl⟩) fun u s1 ⟨v, H1, I1, r1, q1⟩ => ?_)
  obtain ⟨rfl, rfl⟩ := q1
  obtain rfl : u = Value.ref f := r1
  have at_ : ∀ {s2 : Shared} {H2 : Hp}, Inv (gotCx X CXg Ng qg sg g cdg s H Eg pn xe) pinsZ σZ H2 s2 → s2.heap.get? f = some (lamD X params body scope dV doc pm c' ctv) := fun I2 => I2.base.keep f _ hf hfn hfr (fun z => nomatch (show f ∈ ([] : List Addr) from z))
  refine PySem.W.callWith_F ⟨_, _, _, _, at_ I1⟩ (thn ((pa_cons he pa_nil hst).run p2 pinsZ s1 σZ H1 _ I1 h2) fun us s2 hh => ?_) hst hpl
  obtain ⟨vs, H2, I2, r, x, rfl, hc, ht⟩ := hh
  refine ⟨⟨_, _, _, _, at_ I2⟩, ?_⟩
  cases r with
  | @cons _ ux _ _ rx rn =>
  cases rn
  exact act_end tk hW I2 (lam1_code I L nd hiq rx I2.env0 hr I2.base (at_ I2) hc I2.nolimit (fun M A E Q hq => by show wpAny M A (bindArgs _ ⟨[ux], []⟩) Q E _; rw [show bindArgs (lamDF X params body scope dV doc pm c' ctv) ⟨[ux], []⟩ = pure [(q, ux)] from hbind _ _ _ _ _ _ _]; exact wpAny_pure hq) (fun h4 => hbody _ _ s2 H2 h4) ht)
end
end LamX

set_option maxRecDepth 100000
set_option maxHeartbeats 4000000
/-! A lambda with one constant default, evaluated: its object a new pin, its defaults a known tuple. -/
namespace LamX
open PySem PySem.Spec PyProof.Rows L2
section
variable {X : Cx} {T : List (Addr × Str)} {c P : Addr} {params : Arguments} {body : Expr} {scope : Scope} {pos : Pos}
theorem frs_new {pins : List (Addr × Obj)} {σ : L2.St} {H : Hp} {s : Shared} (I : Inv X pins σ H s) {f : Addr} (hf : s.heap.objs.size ≤ f) : f ∉ frs X.stack := fun z => by
  rcases List.mem_cons.mp (I.stkSub _ z) with e | e
  · exact Nat.lt_irrefl _ (Nat.lt_of_lt_of_le (e ▸ I.lt) hf)
  · exact I.nofs hf e
theorem lam_tail {pins : List (Addr × Obj)} {σ : L2.St} {H : Hp} {s : Shared} {dV : Value} {E : Value → Shared → Prop} {Q : Value → Shared → Prop} (I : Inv X pins σ H s) (TB : TabB X.base X.mg c P) (hcode : X.env.code = .ref c)
    (hm : (P, X.env.qual ++ "<lambda>") ∈ T) (hu : ∀ p ∈ T, p.1 = P → p.2 = X.env.qual ++ "<lambda>") (t : Tabs T H)
    (hfree : ∀ y ∈ scope.names, y.2 = .free → ∃ c, X.env.cells.lookup y.1 = some c)
    (k : ∀ (f c' : Addr) (doc pm ctv : Value) (H1 : Hp) (s' : Shared), Inv X ((f, lamD X params body scope dV doc pm c' ctv) :: pins) σ H1 s' → ExtN H H1 → Tabs T H1 →
      H1 c' = some (CodeO c' (X.env.qual ++ "<lambda>")) → f ∉ frs X.stack → Q (.ref f) s') :
    wpAny (model X.prog X.w) X.A (makeTail "<lambda>" (X.env.qual ++ "<lambda>") params (.expr body) scope X.env dV .none none pos pos.line) Q E s := by
  obtain ⟨ps, hP, ht, ha⟩ := t _ hm
  have atP := I.hok P _ hP
  have bmP := TB.bm.keeps I.bk
  have pin : ∀ {H1 : Hp} {s' : Shared} {f c' : Addr} {doc pm ctv : Value}, Inv X pins σ H1 s' → s'.heap.get? f = some (lamD X params body scope dV doc pm c' ctv) → H1 f = none → f ∉ frs X.stack →
      Inv X ((f, lamD X params body scope dV doc pm c' ctv) :: pins) σ H1 s' := fun J at_ n nf => inv_pin J at_ n nf (not_locals J at_ rfl) (fun _ z => by cases z)
  cases hc : codeAmong pos ps.toList with
  | some cv =>
    obtain ⟨c', rfl, hco⟩ := ha pos cv hc
    refine PySem.W.kdv_makeTailHit (mg := X.mg) (c := c) (P := P) (ps := ps) (closure_ok hfree) I.ok.glob (I.mod.glob.keeps I.bk) hcode (TB.code.keeps I.bk) atP ht hc bmP fun ctv doc h' tk hx hz => ?_
    have J : Inv X pins σ H { s with heap := h'.push (lamD X params body scope dV doc ((X.mg "__name__").getD .none) c' ctv), toks := tk } := I.kept fun b o e => Heap.get?_push_of_some _ (hx b o e)
    exact k _ c' doc _ ctv H _ (pin J (Heap.get?_push_size _ rfl) (I.hok.fresh hz) (frs_new I hz)) (ExtN.refl H) t hco (frs_new I hz)
  | none =>
    refine PySem.W.kdv_makeTail (mg := X.mg) (c := c) (P := P) (ps := ps) (closure_ok hfree) I.ok.glob (I.mod.glob.keeps I.bk) hcode (TB.code.keeps I.bk) atP ht hc TB.gP bmP fun c' ctv doc h' tk hx hge hlt hrec htb => ?_
    obtain ⟨c2, oc, vs, tq, e2, hoc, hdc, hv⟩ := hrec
    cases e2
    have hz : s.heap.objs.size ≤ h'.objs.size := Nat.le_trans hge (Nat.le_of_lt hlt)
    have nC : H c' = none := I.hok.fresh hge
    have J := inv_table (t' := tk) (more := #[rawInt pos.line, rawInt pos.col, .ref c']) (h' := h'.push (lamD X params body scope dV doc ((X.mg "__name__").getD .none) c' ctv)) I hP
      (fun b o hb e => Heap.get?_push_of_some _ (hx b o hb e)) (Heap.get?_push_of_some _ htb) hge ⟨oc, vs, tq, Heap.get?_push_of_some _ hoc, hdc, hv⟩
    have ext : ExtN H (upd (upd H P (.tbl (ps ++ #[rawInt pos.line, rawInt pos.col, .ref c']))) c' (CodeO c' (X.env.qual ++ "<lambda>"))) := fun b o e n => by
      have n1 : b ≠ c' := ne_of_none e nC
      have n2 : b ≠ P := fun z => by subst z; rw [hP] at e; exact n ps (Option.some.inj e).symm
      rw [upd_ne n1, upd_ne n2]
      exact e
    have nf1 : h'.objs.size ≠ c' := Nat.ne_of_gt hlt
    have nf2 : h'.objs.size ≠ P := Nat.ne_of_gt (Nat.lt_of_lt_of_le (Heap.lt_size atP) hz)
    have hfn : (upd (upd H P (.tbl (ps ++ #[rawInt pos.line, rawInt pos.col, .ref c']))) c' (CodeO c' (X.env.qual ++ "<lambda>"))) h'.objs.size = none := by
      rw [upd_ne nf1, upd_ne nf2]
      exact I.hok.fresh hz
    refine k h'.objs.size c' doc _ ctv _ _ (pin J (Heap.get?_push_size _ rfl) hfn (frs_new I hz)) ext (fun p hp => ?_) upd_same (frs_new I hz)
    by_cases hb : p.1 = P
    · rw [hu p hp hb, hb]
      have eL : (ps ++ #[rawInt pos.line, rawInt pos.col, .ref c']).toList = ps.toList ++ [rawInt pos.line, rawInt pos.col, .ref c'] := by simp
      refine ⟨_, (upd_ne (ne_of_none hP nC)).trans upd_same, eL ▸ PySem.TriplesOk_snoc _ _ _ _ ht, fun p' cv z => ?_⟩
      rw [eL] at z
      rcases among_app _ ht z with z | z
      · obtain ⟨c0, z1, z2⟩ := ha p' cv z
        exact ⟨c0, z1, ext _ _ z2 codeO_ne⟩
      · exact ⟨c', z, upd_same⟩
    · obtain ⟨qs, a1, a2, a3⟩ := t p hp
      refine ⟨qs, ?_, a2, fun p' cv z => ?_⟩
      · rw [upd_ne (ne_of_none a1 nC), upd_ne hb]
        exact a1
      · obtain ⟨c0, z1, z2⟩ := a3 p' cv z
        exact ⟨c0, z1, ext _ _ z2 codeO_ne⟩
/-- lambda q=z: body -/
theorem lam_pin1 {pins : List (Addr × Obj)} {σ : L2.St} {H : Hp} {s : Shared} {E : Value → Shared → Prop} {Q : Value → Shared → Prop} {z : Int} {j : Nat} {dp : Pos} (I : Inv X pins σ H s) (TB : TabB X.base X.mg c P) (hcode : X.env.code = .ref c)
    (hm : (P, X.env.qual ++ "<lambda>") ∈ T) (hu : ∀ p ∈ T, p.1 = P → p.2 = X.env.qual ++ "<lambda>") (t : Tabs T H) (hd : params.defaults = [.Constant (.int z) j dp]) (hk : params.kw_defaults = [])
    (hfree : ∀ y ∈ scope.names, y.2 = .free → ∃ c, X.env.cells.lookup y.1 = some c) (hx : X.xe = E)
    (k : ∀ (f c' Td : Addr) (doc pm ctv : Value) (H1 : Hp) (s' : Shared), Inv X ((f, lamD X params body scope (.ref Td) doc pm c' ctv) :: pins) σ H1 s' → ExtN H H1 → Tabs T H1 →
      H1 c' = some (CodeO c' (X.env.qual ++ "<lambda>")) → H1 Td = some (.tup [.int z]) → f ∉ frs X.stack → Q (.ref f) s') :
    wpAny (model X.prog X.w) X.A (eval (.Lambda params body scope pos) X.env) Q E s := by
  subst hx
  refine PySem.W.kdv_lam (by rw [hd]; rfl) hk ?_
  rw [hd]
  refine PySem.W.kdv_all1 (thn ((pe_int (i := z) (j := j) (pos := dp)).run pins s σ H (fun v H1 => v = .int z ∧ H1 = H) I ⟨rfl, rfl⟩) fun u s1 hh => PySem.W.kdv_all0 ?_)
  obtain ⟨v, H1, I1, rv, rfl, rfl⟩ := hh
  rw [makeFunction_eq]
  simp only [List.zip_nil_right, List.filterMap_nil, List.isEmpty_nil, if_true, pure_bind, List.isEmpty_cons, Bool.false_eq_true, if_false]
  refine wpAny_bind (wpAny_newTextTuple ?_)
  have ln : H1 s1.heap.objs.size = none := I1.hok.fresh (Nat.le_refl _)
  have J : Inv X pins σ (upd H1 s1.heap.objs.size (.tup [.int z])) { s1 with heap := s1.heap.push { cls := .type "tuple", data := .seq ([u] : List Value).toArray } } := by
    refine I1.laid (t' := s1.toks) (fun b o e => Heap.get?_push_of_some _ e) (Nat.le_refl _) ⟨(show 1 ≤ sizeLine by decide), [u], .cons rv .nil, _, Heap.get?_push_size _ rfl, rfl, _, rfl⟩
  have ex : ∀ b o, H1 b = some o → (upd H1 s1.heap.objs.size (.tup [.int z])) b = some o := fun b o e => by rw [upd_ne (ne_of_none e ln)]; exact e
  refine lam_tail J TB hcode hm hu (t.ext ex) hfree fun f c' doc pm ctv H2 s' I2 e2 t2 hc nf => ?_
  exact k f c' _ doc pm ctv H2 s' I2 ((ExtN.of ex).trans e2) t2 hc (e2 _ _ upd_same (fun _ w => by cases w)) nf
end
end LamX

set_option maxRecDepth 100000
set_option maxHeartbeats 4000000
/-! A list comprehension whose element is told with what is known of the def around it. -/
namespace LamX
open PySem PySem.Spec PyProof.Rows L2
section
variable {X : Cx}
/-- what a block, begun at s, knows of the def around it -/
structure Home (X : Cx) (pins : List (Addr × Obj)) (σ : L2.St) (H : Hp) (s : Shared) (fp : List Addr) : Prop where
  inv : Inv X pins σ H s
  its : ∀ b ∈ fp, FpOk X pins H b ∧ b < s.heap.objs.size
/-- within the block: the def around it, as it is now -/
theorem Home.now {pins pinsB : List (Addr × Obj)} {σ σB : L2.St} {H HB : Hp} {s sB : Shared} {fp : List Addr} {scope : Scope} {cenv : Env} (h : Home X pins σ H s fp) (I : Inv (X.blk s H scope cenv fp) pinsB σB HB sB) : Inv X pins σ HB sB :=
  h.inv.call' (ch := fp) I.os I.base I.hok I.bare fun b hb =>
    let z := (h.its b hb).1.2
    ⟨z.2.2.1, z.1, z.2.2.2.1, z.2.2.2.2⟩
theorem lc_home {pins : List (Addr × Obj)} {s : Shared} {σ : L2.St} {H : Hp} {Q : VK} {elt tg iter : Expr} {scope : Scope} {own : List (Str × Nat)} {pos pos' : Pos} {wi : TI} {g : TG} {te : L2.St → TE} {use : Option (Value → Sem Unit)} {Qf : Value → Shared → Prop}
    (hc : X.calm = true) (hN : X.N.Nodup) (I : Inv X pins σ H s) (hi : PI X tg iter wi) (ok : BlkOk X.N X.env.scope scope own)
    (hg : ∀ (s : Shared) (H : Hp) (C : Addr) (cl : List (Str × Addr)) (fp : List Addr), PG (X.blk s H scope (compEnvC scope cl C X.env) fp) tg g)
    (he : ∀ (s : Shared) (H : Hp) (C : Addr) (cl : List (Str × Addr)) (fp : List Addr) (pins : List (Addr × Obj)) (σ : L2.St), Home X pins σ H s fp → PE (X.blk s H scope (compEnvC scope cl C X.env) fp) elt (te σ))
    (hs : ∀ x, foldedSetIterable iter X.env x = pure x) (h : tLc wi g tYes (te σ) (own.map (·.2)) σ H Q)
    (out : ∀ D C s' m H', Inv X pins σ H' s' → Q (.ref D) H' → s'.heap.Ns C m → FpOk X pins H' C → compPost (model X.prog X.w) X.A X.xe use Qf (.ref D) C (.ok .next) s') :
    wpAny (model X.prog X.w) X.A (comprehension (.ListComp elt [⟨tg, iter, [], 0⟩] scope pos) scope X.env pos' (newList []) false (eval iter X.env) use) Qf X.xe s := by
  have up : ∀ y ∈ scope.names, y.2 = .free → ∃ c, X.env.cells.lookup y.1 = some c := fun y hy e => (ok.free y hy e).elim (fun z => I.ok.has _ (.inl z)) (fun z => I.ok.has _ (.inr z))
  refine wpAny_comprehension_free (use := use) rfl hs (closure_ok up) ok.kind (fun y hy e => by rw [ok.uniq y hy, e]) (thn (hi.run pins s σ H _ I h) fun xv sa ha => thn ha fun itv sb hb => ?_)
  obtain ⟨it, fp, tn, J, Hb, rfl, Ib, T, stb, fpb, q⟩ := hb
  refine wpAny_newObj_type (newEnv_comp ?_) (Nat.zero_le _)
  have Dn : Hb sb.heap.objs.size = none := Ib.hok.fresh (Nat.le_refl _)
  obtain ⟨W, ⟨m0, w0⟩, turn⟩ := q _ Dn
  generalize eD : sb.heap.objs.size = D at Dn w0 turn ⊢
  generalize eH : upd Hb D (.lst []) = H3 at w0
  generalize es : ({ sb with heap := sb.heap.push { cls := .type "list", data := .seq ([] : List Value).toArray } } : Shared) = s3
  have hp3 : s3.heap = sb.heap.push { cls := .type "list", data := .seq ([] : List Value).toArray } := by rw [← es]
  have keep3 : ∀ b o, sb.heap.get? b = some o → s3.heap.get? b = some o := fun b o e => by rw [hp3]; exact Heap.get?_push_of_some _ e
  have I3 : Inv X pins σ H3 s3 := by
    rw [← es, ← eH]
    refine Ib.laid (t' := sb.toks) (fun b o e => Heap.get?_push_of_some _ e) (Nat.le_of_eq eD) ⟨Nat.zero_le _, [], 0, .nil, ?_⟩
    rw [← eD]
    exact Heap.get?_push_size _ rfl
  have small : ∀ b ∈ fp, b < sb.heap.objs.size := fun b hb => by
    obtain ⟨o, e, _⟩ := T.obj _ _ stb b hb
    exact Heap.lt_size e
  have home : Home X pins σ H3 s3 fp := by
    refine ⟨I3, fun b hb => ⟨⟨?_, (fpb b hb).2⟩, ?_⟩⟩
    · rw [← eH, upd_ne (by rw [← eD]; exact Nat.ne_of_lt (small b hb))]
      exact (fpb b hb).1
    · rw [hp3, Heap.size_push]
      exact Nat.lt_succ_of_lt (small b hb)
  have I4 := block_start I3 ok hN home.its
  generalize ec : compEnvC scope (cellsFrom (s3.heap.objs.size + 1) scope.names (cloFrom X.env.cells scope.names [])) s3.heap.objs.size X.env = ce at I4
  have pg : PG (X.blk s3 H3 scope ce fp) tg g := by rw [← ec]; exact hg ..
  have pe : PE (X.blk s3 H3 scope ce fp) elt (te σ) := by rw [← ec]; exact he _ _ _ _ _ pins σ home
  have cL : ce.locals = s3.heap.objs.size := by rw [← ec]; rfl
  generalize e4 : ({ s3 with heap := pushCells (s3.heap.push { cls := .type "dict", data := .dict #[] }) scope.names } : Shared) = s4 at I4
  have st4 : tn 0 s4.heap := T.keep _ _ _ stb fun b _ o e => by
    rw [← e4]
    exact pushCells_keeps _ _ _ _ (Heap.get?_push_of_some _ (keep3 b o e))
  have nfp : ∀ b ∈ fp, H3 b = none := fun b hb => (home.its b hb).1.1
  have stat : ∀ {σ' : L2.St} {H' : Hp} {s' : Shared}, Inv (X.blk s3 H3 scope ce fp) [] σ' H' s' → (∀ b ∈ fp, H' b = none) → ∀ b ∈ fp, FpOk (X.blk s3 H3 scope ce fp) [] H' b := fun {σ' H' s'} I' hn b hb =>
    ⟨hn b hb, (I'.ok.exf b hb).1, I'.ok.exfs b hb, .inl hb, fun x c e => (I'.ok.exf b hb).2 x c e, fun p hp => absurd (show p ∈ ([] : List (Addr × Obj)) ++ [] from hp) (by simp)⟩
  let R := compPost (model X.prog X.w) X.A X.xe use Qf (.ref D) s3.heap.objs.size
  have loop : codeAny (model X.prog X.w) X.A (.compLoop (.ListComp elt [⟨tg, iter, [], 0⟩] scope pos) 0 (.ref it) (.ref D) ce) R s4 := by
    refine compLoop_any (fun n s' => ∃ i H', Inv (X.blk s3 H3 scope ce fp) [] (wipe σ (own.map (·.2))) H' s' ∧ tn i s'.heap ∧ (∀ b ∈ fp, H' b = none) ∧ W i n H') ?_ m0 ⟨0, H3, I4, st4, nfp, w0⟩
    rintro n s5 ⟨i, H5, I5, st5, n5, w5⟩
    rcases turn i n H5 w5 with ⟨stop, qq⟩ | ⟨go, Nx, nxt, step⟩
    · refine thnF (T.done (X.blk s3 H3 scope ce fp) rfl rfl rfl hc i [] s5 _ H5 (fun _ _ => False) I5 (stat I5 n5) st5 stop) fun r s6 ⟨hr, I6⟩ => ?_
      subst hr
      have I7 := home.now I6
      obtain ⟨m, hn, _⟩ := I6.loc
      have nC : H5 s3.heap.objs.size = none := cL ▸ (show H5 ce.locals = none from I6.free)
      have hn : s6.heap.Ns s3.heap.objs.size m := cL ▸ (show s6.heap.Ns ce.locals m from hn)
      exact out D _ s6 m H5 I7 qq hn (I3.fpOk (Nat.le_refl _) nC)
    · refine thnF (T.item (X.blk s3 H3 scope ce fp) rfl rfl rfl hc i [] s5 _ H5 (fun _ _ => False) I5 (stat I5 n5) st5 go) fun r s6 ⟨u, hr, h6⟩ => ?_
      subst hr
      refine thnF h6 fun _ s7 ⟨x, H7, I7, r7, y7, st7, n7⟩ => ?_
      refine thnF (pg.run _ s7 _ H7 x u _ (I7.pinned (stat I7 n7) (T.obj _ _ st7)) r7 (step x H7 y7)) fun _ s8 ⟨σ8, H8, I8, hw8, q8⟩ => ?_
      refine thnF ((pts_nil (X := X.blk s3 H3 scope ce fp)).run _ s8 σ8 H8 _ I8 q8) fun b s9 ⟨H9, I9, q9⟩ => ?_
      have fin : ∀ {s' : Shared} {H' : Hp}, Inv (X.blk s3 H3 scope ce fp) ([] ++ pinsAt fp s7.heap) σ8 H' s' → Nx H' → ∃ m, m < n ∧ ∃ i H', Inv (X.blk s3 H3 scope ce fp) [] (wipe σ (own.map (·.2))) H' s' ∧ tn i s'.heap ∧ (∀ b ∈ fp, H' b = none) ∧ W i m H' := fun {s' H'} I' nx => by
        obtain ⟨m', hm, w'⟩ := nxt H' nx
        have at7 : ∀ b ∈ fp, ∀ o, s7.heap.get? b = some o → s'.heap.get? b = some o ∧ H' b = none := fun b hb o e =>
          have z := I'.pin (b, o) (List.mem_append_right _ (List.mem_append_right _ (mem_pinsAt hb e)))
          ⟨z.1, z.2.1⟩
        refine ⟨m', hm, i + 1, H', (I'.unpinned (pins := [])).weak (by rw [← hw8, wipe_length]) (fun j v e => ?_), T.keep _ _ _ st7 fun b hb o e => (at7 b hb o e).1, fun b hb => ?_, w'⟩
        · rw [← hw8] at e
          exact (wipe_some e).1
        · obtain ⟨o, e, _⟩ := T.obj _ _ st7 b hb
          exact (at7 b hb o e).2
      cases b with
      | false => exact fin I9 q9
      | true =>
        refine thnF (pe.run _ s9 σ8 H9 _ I9 q9) fun z s10 ⟨yv, H10, I10, r10, acc, hD10, hz10, nx⟩ => ?_
        exact app_ok (X := X.blk s3 H3 scope ce fp) I10 hD10 hz10 r10 fun s11 I11 => fin I11 nx
  have fin := codeAny_compStart_list loop (T.self X.A 0 _ _ _ st4 loop)
  rw [← ec] at fin
  exact fin
/-- as a value -/
theorem pe_lcH {elt tg iter : Expr} {scope : Scope} {own : List (Str × Nat)} {pos : Pos} {wi : TI} {g : TG} {te : L2.St → TE} (hc : X.calm = true) (hN : X.N.Nodup) (hi : PI X tg iter wi) (ok : BlkOk X.N X.env.scope scope own)
    (hg : ∀ (s : Shared) (H : Hp) (C : Addr) (cl : List (Str × Addr)) (fp : List Addr), PG (X.blk s H scope (compEnvC scope cl C X.env) fp) tg g)
    (he : ∀ (s : Shared) (H : Hp) (C : Addr) (cl : List (Str × Addr)) (fp : List Addr) (pins : List (Addr × Obj)) (σ : L2.St), Home X pins σ H s fp → PE (X.blk s H scope (compEnvC scope cl C X.env) fp) elt (te σ))
    (hs : ∀ x, foldedSetIterable iter X.env x = pure x := by intro _; rfl) :
    PE X (.ListComp elt [⟨tg, iter, [], 0⟩] scope pos) (fun σ H Q => tLc wi g tYes (te σ) (own.map (·.2)) σ H Q) := by
  refine ⟨fun pins s σ H Q I h => ?_⟩
  rw [eval_ListComp]
  refine lc_home hc hN I hi ok hg he hs h fun D C s' m H' I' q hn fpC => ⟨m, hn, fun h'' sb => ?_⟩
  obtain ⟨f0, f1, _, f3, f4, f5⟩ := fpC
  exact ⟨.ref D, H', I'.turned (t' := s'.toks) (fun b o hb e => (sb.2 b hb).trans e) f0 f1 f3 f4 f5, rfl, q⟩
/-- y = [..] on one line, y a plain local -/
theorem ps_setLcH {i : Nat} {y : Str} {py : Pos} {elt tg iter : Expr} {scope : Scope} {own : List (Str × Nat)} {pos spos : Pos} {wi : TI} {g : TG} {te : L2.St → TE} (hc : X.calm = true) (hN : X.N.Nodup) (hy : X.N[i]? = some y) (hyl : X.env.scope.names.lookup y = some .local)
    (hsw : swapsWith (.ListComp elt [⟨tg, iter, [], 0⟩] scope pos) (some (.Name y py)) spos.line X.env = pure true) (hi : PI X tg iter wi) (ok : BlkOk X.N X.env.scope scope own)
    (hg : ∀ (s : Shared) (H : Hp) (C : Addr) (cl : List (Str × Addr)) (fp : List Addr), PG (X.blk s H scope (compEnvC scope cl C X.env) fp) tg g)
    (he : ∀ (s : Shared) (H : Hp) (C : Addr) (cl : List (Str × Addr)) (fp : List Addr) (pins : List (Addr × Obj)) (σ : L2.St), Home X pins σ H s fp → PE (X.blk s H scope (compEnvC scope cl C X.env) fp) elt (te σ))
    (hs : ∀ x, foldedSetIterable iter X.env x = pure x := by intro _; rfl) :
    PS X (.Assign [.Name y py] (.ListComp elt [⟨tg, iter, [], 0⟩] scope pos) spos) (tAsg (fun σ H Q => tLc wi g tYes (te σ) (own.map (·.2)) σ H Q) (gName i)) := by
  refine ⟨fun pins s σ H D I h => ?_⟩
  have h2 : tLc wi g tYes (te σ) (own.map (·.2)) σ H (fun x H1 => gName i x σ H1 D.nx) := h
  rw [exec_Assign_Name_used _ _ _ _ hsw]
  refine wpAny_bind (wpAny_standAt (wpAny_bind (wpAny_bind (thn (lc_home (use := some (assign (.Name y py) X.env)) (Qf := fun _ s' => SP X pins D .next s') hc hN I hi ok hg he hs h2 fun L C s' m H' I' q hn fpC => ?_) fun _ s' hq => wpAny_pure (wpAny_pure hq)))))
  obtain ⟨f0, f1, _, f3, f4, f5⟩ := fpC
  refine wpAny_assign_Name (store_ok2 (v := V.ref L) I' hN hy (.inl hyl) rfl (fun s2 I2 hh => ?_) (.inr hyl))
  obtain ⟨a, sb, ha⟩ := hh
  have ne : C ≠ a := ha.elim (fun z => by rw [z]; exact f1) (fun z e => f4 y a z e.symm)
  exact ⟨m, hn.sameBut sb ne, fun h3 sb3 => ⟨_, H', I2.turned (t' := s2.toks) (fun b o hb e => (sb3.2 b hb).trans e) f0 f1 f3 f4 f5, q⟩⟩
end
end LamX

set_option maxRecDepth 100000
set_option maxHeartbeats 4000000
/-! In a comprehension: a def called with one of several lambdas that the def around keeps. -/
namespace LamX
open PySem PySem.Spec PyProof.Rows L2
/-- a lambda's text; with a default: the parameter, its slot, the number -/
structure LamJ where
  params : Arguments
  body : Expr
  scope : Scope
  dflt : Option (Str × Nat × Int)
/-- the slots as the lambda sees them -/
def LamJ.sl (j : LamJ) (σ : L2.St) : L2.St := match j.dflt with
  | none => σ
  | some (_, i, z) => σ.set i (some (.int z))
/-- it is kept at f -/
def LamJ.At (X : Cx) (j : LamJ) (f c' : Addr) (H : Hp) : Prop := f ∉ frs X.stack ∧ H c' = some (CodeO c' (X.env.qual ++ "<lambda>")) ∧ (match j.dflt with
  | none => ∃ pm ctv, (f, lamO X j.params j.body j.scope pm c' ctv) ∈ X.pn
  | some (_, _, z) => ∃ Td doc pm ctv, (f, lamD X j.params j.body j.scope (.ref Td) doc pm c' ctv) ∈ X.pn ∧ H Td = some (.tup [.int z]))
/-- what is asked of its text, and what its body does -/
structure LamJ.Ok (X : Cx) (k : Nat) (j : LamJ) (t : XK → TE) : Prop where
  fit : match j.dflt with
    | none => LamS X.env.scope j.scope ∧ ∀ (q : Str) (cl : List (Str × Addr)) (pm cv ctv : Value), bindArgs (PySem.W.kla_fn "<lambda>" q j.params j.body j.scope cl pm cv ctv) ⟨[], []⟩ = pure []
    | some (q, i, z) => Lam1 q X.env.scope j.scope ∧ X.N[i]? = some q ∧ ∀ (Td : Addr) (n : Str) (cl : List (Str × Addr)) (doc pm cv ctv : Value), ∃ kk : Option (Array Value) → Sem (List (Str × Value)),
        bindArgs (PySem.W.kdv_fn "<lambda>" n j.params (.expr j.body) j.scope cl (.ref Td) doc pm cv ctv) ⟨[], []⟩ = seqItems? (.ref Td) >>= kk ∧ ∀ u, kk (some #[u]) = pure [(q, u)]
  does : ∀ (A : Around) (outer : List Env) (s : Shared) (H : Hp) (E : XK) (f c' : Addr), Room k (A.deeper (lamEnv X j.scope s.heap.objs.size f c')) → PE (lamCx X A outer s H E j.scope f c') j.body (t E)
theorem LamJ.Ok.up {X : Cx} {k : Nat} {j : LamJ} {t : XK → TE} (o : LamJ.Ok X k j t) : ∀ y ∈ j.scope.names, y.2 = .free → X.env.scope.names.lookup y.1 = some .cell ∨ X.env.scope.names.lookup y.1 = some .free := by
  obtain ⟨params, body, scope, dflt⟩ := j
  obtain ⟨fit, _⟩ := o
  match dflt, fit with
  | none, fit => exact fit.1.free
  | some (_, _, _), fit => exact fit.1.up
theorem LamJ.acts {X : Cx} {k : Nat} {j : LamJ} {t : XK → TE} (o : LamJ.Ok X k j t) (nd : X.N.Nodup) {pins : List (Addr × Obj)} {σ : L2.St} {H : Hp} {s : Shared} (I : Inv X pins σ H s) {f c' : Addr} (at_ : j.At X f c' H)
    {Ng : List Str} {x a : Str} {sg : Scope} {g : Addr} {cdg : Value} (hN : Ng[0]? = some a) (hv : Vis sg a) (hd : (a == ("__debug__" : Str)) = false) (hcd : (a == ("__classdict__" : Str)) = false)
    (hr : Room (k + 1) (X.A.deeper (envOfC x sg s.heap.objs.size g cdg))) (W : WX) (pn : List (Addr × Obj)) (xe : Value → Shared → Prop) (E : XK) (p1 p2 : Pos)
    (tk : Takes ((cxOf C8.CX0 X.prog X.w X.K X.mg X.base Ng x sg g cdg X.A X.stack s H C8.E0).tr pn xe) W) (hW : ∀ cls d σ' H', E cls d H' → W cls d σ' H') :
    PE ((cxOf C8.CX0 X.prog X.w X.K X.mg X.base Ng x sg g cdg X.A X.stack s H C8.E0).tr pn xe) (.Call (.Name a p1) [] [] p2)
      (fun σZ HZ Q => σZ[0]? = some (some (.ref f)) ∧ HZ c' = some (CodeO c' (X.env.qual ++ "<lambda>")) ∧ t E (j.sl σ) HZ Q) := by
  obtain ⟨params, body, scope, dflt⟩ := j
  obtain ⟨fit, does⟩ := o
  obtain ⟨nf, hc, at_⟩ := at_
  match dflt, fit, at_ with
  | none, fit, at_ =>
    obtain ⟨pm, ctv, mem⟩ := at_
    obtain ⟨h1, h2, _⟩ := I.pin _ (List.mem_append.mpr (.inl mem))
    exact pe_act (i := 0) I fit.1 h1 h2 nf (fit.2 ..) tk hW hr (fun A outer s H h => does A outer s H E f c' h) hN hv hd hcd
  | some (q, i, z), fit, at_ =>
    obtain ⟨Td, doc, pm, ctv, mem, hT⟩ := at_
    obtain ⟨h1, h2, _⟩ := I.pin _ (List.mem_append.mpr (.inl mem))
    exact pe_act1d (i := 0) I fit.1 nd fit.2.1 h1 h2 nf hT (fit.2.2 Td) tk hW hr (fun A outer s H h => does A outer s H E f c' h) hN hv hd hcd
def tPinH (X : Cx) (l : Nat → LamJ) (n : Nat) (t : Nat → XK → TE) (TT : (XK → Hp → VK → Prop) → Hp → VK → Prop) (te : TE) (σ : L2.St) : TE := fun σB HB Q =>
  te σB HB fun v H1 => ∃ (j : Nat) (f c' : Addr), j < n ∧ v = .ref f ∧ (l j).At X f c' H1 ∧ TT (fun E H' Q' => t j E ((l j).sl σ) H' Q') H1 Q
theorem pe_pinH {X : Cx} {TT : (XK → Hp → VK → Prop) → Hp → VK → Prop} {x a : Str} {g : Addr} {k n : Nat} {pg : Arguments} {bg : List Stmt} {sg : Scope} {dV kV doc pm cdv ct oc : Value}
    {an od : Option Addr} {osl : Array (Option Value)} {Ng : List Str} {l : Nat → LamJ} {t : Nat → XK → TE} {e : Expr} {te : TE} {p pos : Pos}
    {pins : List (Addr × Obj)} {σ : L2.St} {s0 : Shared} {H0 : Hp} {fp : List Addr} {scope : Scope} {cenv : Env} (home : Home X pins σ H0 s0 fp) (nd : X.N.Nodup)
    (hg : Gl (X.blk s0 H0 scope cenv fp) x) (hm : X.mg x = some (.ref g)) (hk : PySem.W.keepIn X.K (.ref g) = true)
    (lk : X.K.lookup g = some ⟨oc, od, .func (PySem.W.fnOf x x pg bg sg dV kV doc pm an cdv ct), osl⟩) (hcg : PySem.W.codeIn X.K cdv x = true)
    (hb : L2.Binds X.K (PySem.W.fnOf x x pg bg sg dV kV doc pm an cdv ct) [a] []) (Sg : FnScope Ng [a] sg) (hNg : Ng[0]? = some a) (hva : Vis sg a)
    (hG : GivesTo X Ng x sg g cdv bg a (X.env.qual ++ "<lambda>") TT) (hr : Room (k + 2) X.A) (he : PE (X.blk s0 H0 scope cenv fp) e te)
    (L : ∀ j < n, LamJ.Ok X k (l j) (t j))
    (hdb : (x == ("__debug__" : Str)) = false := by decide) (hd : (a == ("__debug__" : Str)) = false := by decide) (hcd : (a == ("__classdict__" : Str)) = false := by decide)
    (hst : starEach [e] cenv = (false, eval e cenv) :: starEach [] cenv := by rfl) (hpl : (backTo pos (starEach [] cenv)).any (·.1) = false := by rfl) :
    PE (X.blk s0 H0 scope cenv fp) (.Call (.Name x p) [e] [] pos) (tPinH X l n t TT te σ) := by
  refine ⟨fun pinsB sB σB HB Q I h => ?_⟩
  refine wpAny_Call_Name_kw (ld_glob I hg hm ?_ hdb)
  have h2 : tCons te tNil σB HB (fun vs H1 => match vs with
      | [v] => ∃ (j : Nat) (f c' : Addr), j < n ∧ v = .ref f ∧ (l j).At X f c' H1 ∧ TT (fun E H' Q' => t j E ((l j).sl σ) H' Q') H1 Q
      | _ => False) := h
  refine PySem.W.callWith_K (h₀ := X.base) I.ok.mod.kin hk (thn ((pa_cons he pa_nil hst).run pos pinsB sB σB HB _ I h2) fun us s1 hh => ?_) hst hpl
  obtain ⟨vs, H1, I1, r, q⟩ := hh
  refine ⟨I1.kIn, ?_⟩
  match vs, r, q with
  | [v], r, q =>
    obtain ⟨j, f, c', lt, rfl, at_, tt⟩ := q
    have I2 := home.now I1
    cases r with
    | cons r0 r1 =>
    cases r1
    cases r0
    have rc := run_ofS lk hcg Sg hr I2.env0 (hb s1 [Value.ref f] I1.kIn rfl) (.cons rfl .nil) rfl (CX := C8.CX0) (Q := Q) (E := C8.E0) (vs := [V.ref f]) fun hr' => by
      obtain ⟨t', ht', hq'⟩ := hG f c' s1 H1 Q (fun E H' Q' => t j E ((l j).sl σ) H' Q') (fun W pn xe E p1 p2 tk hW => LamJ.acts (L j lt) nd I2 at_ hNg hva hd hcd hr' W pn xe E p1 p2 tk hW) at_.2.1 tt
      exact ⟨t', PSs.nox ht', hq'⟩
    refine wpAny_call (codeAny_mono rc fun r s2 hq => ?_)
    cases r with
    | error er => exact False.elim hq
    | ok fl =>
      cases fl with
      | ret u => exact I1.after hq
      | next => exact False.elim hq
      | brk => exact False.elim hq
      | cont => exact False.elim hq
end LamX

set_option maxRecDepth 100000
set_option maxHeartbeats 4000000
/-! x = [lambda .., ..] and x.append(lambda ..): the block behind them keeps the lambdas as pins. -/
namespace LamX
open PySem PySem.Spec PyProof.Rows L2
inductive All2 {α β : Type} (R : α → β → Prop) : List α → List β → Prop
  | nil : All2 R [] []
  | cons {a b l m} : R a b → All2 R l m → All2 R (a :: l) (b :: m)
theorem All2.imp {α β : Type} {R S : α → β → Prop} (h : ∀ a b, R a b → S a b) : ∀ {l : List α} {m : List β}, All2 R l m → All2 S l m
  | _, _, .nil => .nil
  | _, _, .cons a b => .cons (h _ _ a) (b.imp h)
theorem All2.len {α β : Type} {R : α → β → Prop} : ∀ {l : List α} {m : List β}, All2 R l m → l.length = m.length
  | _, _, .nil => rfl
  | _, _, .cons _ b => by simp [b.len]
/-- kept at f, among the pins M -/
def LamJ.In (X : Cx) (M : List (Addr × Obj)) (j : LamJ) (f c' : Addr) (H : Hp) : Prop := f ∉ frs X.stack ∧ H c' = some (CodeO c' (X.env.qual ++ "<lambda>")) ∧ (match j.dflt with
  | none => ∃ pm ctv, (f, lamO X j.params j.body j.scope pm c' ctv) ∈ M
  | some (_, _, z) => ∃ Td doc pm ctv, (f, lamD X j.params j.body j.scope (.ref Td) doc pm c' ctv) ∈ M ∧ H Td = some (.tup [.int z]))
theorem LamJ.In.mono {X : Cx} {M M' : List (Addr × Obj)} {j : LamJ} {f c' : Addr} {H H' : Hp} (h : j.In X M f c' H) (m : ∀ q ∈ M, q ∈ M') (e : ExtN H H') : j.In X M' f c' H' := by
  obtain ⟨params, body, scope, dflt⟩ := j
  obtain ⟨h1, h2, h3⟩ := h
  refine ⟨h1, e _ _ h2 codeO_ne, ?_⟩
  match dflt, h3 with
  | none, ⟨pm, ctv, z⟩ => exact ⟨pm, ctv, m _ z⟩
  | some (_, _, z), ⟨Td, doc, pm, ctv, z1, z2⟩ => exact ⟨Td, doc, pm, ctv, m _ z1, e _ _ z2 (fun _ w => by cases w)⟩
/-- the expression is this lambda -/
structure LamE (X : Cx) (e : Expr) (j : LamJ) : Prop where
  text : ∃ pos, e = .Lambda j.params j.body j.scope pos
  dflt : match j.dflt with
    | none => defaultsOf j.params X.env = ([], [])
    | some (_, _, z) => ∃ k p, j.params.defaults = [.Constant (.int z) k p] ∧ j.params.kw_defaults = []
  up : ∀ y ∈ j.scope.names, y.2 = .free → X.env.scope.names.lookup y.1 = some .cell ∨ X.env.scope.names.lookup y.1 = some .free
section
variable {X : Cx} {T : List (Addr × Str)} {c P : Addr}
theorem lam_any {pins : List (Addr × Obj)} {σ : L2.St} {H : Hp} {s : Shared} {e : Expr} {j : LamJ} {Q : Value → Shared → Prop} (L : LamE X e j) (I : Inv X pins σ H s) (TB : TabB X.base X.mg c P) (hcode : X.env.code = .ref c)
    (hm : (P, X.env.qual ++ "<lambda>") ∈ T) (hu : ∀ p ∈ T, p.1 = P → p.2 = X.env.qual ++ "<lambda>") (t : Tabs T H)
    (k : ∀ (f c' : Addr) (o : Obj) (H1 : Hp) (s' : Shared), Inv X ((f, o) :: pins) σ H1 s' → ExtN H H1 → Tabs T H1 → j.In X [(f, o)] f c' H1 → Q (.ref f) s') :
    wpAny (model X.prog X.w) X.A (eval e X.env) Q X.xe s := by
  obtain ⟨params, body, scope, dflt⟩ := j
  obtain ⟨⟨pos, rfl⟩, hd, up⟩ := L
  have up' : ∀ y ∈ scope.names, y.2 = .free → ∃ c, X.env.cells.lookup y.1 = some c := fun y hy e => (up y hy e).elim (fun z => I.ok.has _ (.inl z)) (fun z => I.ok.has _ (.inr z))
  match dflt, hd with
  | none, hd => exact lam_pin I TB hcode hm hu t hd up' fun f c' pm ctv H1 s' I1 ex t1 hc nf => k f c' _ H1 s' I1 ex t1 ⟨nf, hc, pm, ctv, List.mem_singleton.mpr rfl⟩
  | some (q, i, z), ⟨kk, p, hd1, hd2⟩ => exact lam_pin1 I TB hcode hm hu t hd1 hd2 up' rfl fun f c' Td doc pm ctv H1 s' I1 ex t1 hc hT nf => k f c' _ H1 s' I1 ex t1 ⟨nf, hc, Td, doc, pm, ctv, List.mem_singleton.mpr rfl, hT⟩
/-- several, kept one by one -/
def Kept (X : Cx) (M : List (Addr × Obj)) (H : Hp) (fs : List (Addr × Addr)) (js : List LamJ) : Prop := All2 (fun p (j : LamJ) => j.In X M p.1 p.2 H) fs js
theorem Kept.mono {M M' : List (Addr × Obj)} {H H' : Hp} {fs : List (Addr × Addr)} {js : List LamJ} (h : Kept X M H fs js) (m : ∀ q ∈ M, q ∈ M') (e : ExtN H H') : Kept X M' H' fs js := All2.imp (fun _ _ z => z.mono m e) h
theorem lam_list {E : List Expr} {js : List LamJ} (hE : All2 (LamE X) E js) (TB : TabB X.base X.mg c P) (hcode : X.env.code = .ref c) (hm : (P, X.env.qual ++ "<lambda>") ∈ T) (hu : ∀ p ∈ T, p.1 = P → p.2 = X.env.qual ++ "<lambda>") (pos : Pos) :
    ∀ {pins : List (Addr × Obj)} {σ : L2.St} {H : Hp} {s : Shared} {Q : List Value → Shared → Prop}, Inv X pins σ H s → Tabs T H →
    (∀ (fs : List (Addr × Addr)) (M : List (Addr × Obj)) (H1 : Hp) (s' : Shared), Inv X (M ++ pins) σ H1 s' → ExtN H H1 → Tabs T H1 → Kept X M H1 fs js → Q (fs.map fun p => .ref p.1) s') →
    wpAny (model X.prog X.w) X.A (spliced (backTo pos (starEach E X.env))) Q X.xe s := by
  induction hE with
  | nil =>
    intro pins σ H s Q I t k
    exact Calls.spliced_nil (k [] [] H s I (ExtN.refl H) t .nil)
  | @cons e j es js hj hjs ih =>
    intro pins σ H s Q I t k
    have st : starEach (e :: es) X.env = (false, eval e X.env) :: starEach es X.env := by
      obtain ⟨⟨p, rfl⟩, _, _⟩ := hj
      rfl
    rw [st]
    show wpAny _ _ (spliced ((false, eval e X.env) :: backTo pos (starEach es X.env))) _ _ s
    refine Calls.spliced_cons (lam_any hj I TB hcode hm hu t fun f c' o H1 s1 I1 ex t1 h1 => ?_)
    refine ih I1 t1 fun fs M H2 s2 I2 ex2 t2 h2 => ?_
    have eq : M ++ (f, o) :: pins = (M ++ [(f, o)]) ++ pins := by simp
    rw [eq] at I2
    exact k ((f, c') :: fs) (M ++ [(f, o)]) H2 s2 I2 (ex.trans ex2) t2 (.cons (h1.mono (fun q z => List.mem_append_right _ z) ex2) (h2.mono (fun q z => List.mem_append_left _ z) (ExtN.refl _)))
theorem inv_drop {pins more : List (Addr × Obj)} {σ : L2.St} {H : Hp} {s : Shared} (I : Inv X (more ++ pins) σ H s) : Inv X pins σ H s :=
  ⟨I.ok, I.os, I.bare, I.base, I.loc, I.cell, I.free, I.freeC, fun p hp => I.pin p (by
    rcases List.mem_append.mp hp with z | z
    · exact List.mem_append_left _ z
    · exact List.mem_append_right _ (List.mem_append_right _ z)), I.hok, I.len⟩
/-- what a block tells with the pins of before -/
theorem sp_drop {pins more : List (Addr × Obj)} {D : Ends} {xe : Value → Shared → Prop} {pn' : List (Addr × Obj)} {fl : Flow} {s' : Shared} (ok : X.Ok) (h : SP (X.tr (X.pn ++ (more ++ pins)) xe) pn' D fl s') : SP X pins D fl s' := by
  cases fl with
  | next => obtain ⟨σ', H', I, q⟩ := h; exact ⟨σ', H', inv_drop (I.ofTry ok), q⟩
  | brk => obtain ⟨σ', H', I, q⟩ := h; exact ⟨σ', H', inv_drop (I.ofTry ok), q⟩
  | cont => obtain ⟨σ', H', I, q⟩ := h; exact ⟨σ', H', inv_drop (I.ofTry ok), q⟩
  | ret u => obtain ⟨v, σ', H', I, r, q⟩ := h; exact ⟨v, σ', H', inv_drop (I.ofTry ok), r, q⟩
/-- x = [lambda .., ..] and the block behind it -/
def tLams (X : Cx) (T : List (Addr × Str)) (i : Nat) (js : List LamJ) (u : List (Addr × Obj) → TS) : TS := fun D σ H => Tabs T H ∧ ∀ (pn : List (Addr × Obj)) (fs : List (Addr × Addr)) (H1 : Hp), (∀ q ∈ X.pn, q ∈ pn) → ExtN H H1 → Tabs T H1 → Kept X pn H1 fs js →
  ∀ l, H1 l = none → u pn D (σ.set i (some (.ref l))) (upd H1 l (.lst (fs.map fun p => .ref p.1)))
theorem pss_lams {E : List Expr} {js : List LamJ} {i : Nat} {x : Str} {rest : List Stmt} {u : List (Addr × Obj) → TS} {px lp pos : Pos} (hE : All2 (LamE X) E js) (TB : TabB X.base X.mg c P) (hcode : X.env.code = .ref c)
    (hm : (P, X.env.qual ++ "<lambda>") ∈ T) (hu : ∀ p ∈ T, p.1 = P → p.2 = X.env.qual ++ "<lambda>") (nd : X.N.Nodup) (hi : X.N[i]? = some x) (hx : Loc X.env.scope x) (hz : E.length ≤ sizeLine)
    (hr : ∀ pn : List (Addr × Obj), PSs (X.tr pn X.xe) rest (u pn)) (hs : swapsWith (.List E lp) (some (.Name x px)) pos.line X.env = pure false := by rfl)
    (hf : X.fn x = true ∨ X.env.scope.names.lookup x = some .local := by first | exact .inl rfl | exact .inr rfl | assumption) :
    PSs X (.Assign [.Name x px] (.List E lp) pos :: rest) (tLams X T i js u) := by
  refine ⟨fun pins s σ H D I h => ?_⟩
  obtain ⟨t, h⟩ := h
  refine wpAny_execs_cons (wpAny_Assign_Name (wpAny_List_spliced (lam_list hE TB hcode hm hu lp I t fun fs M H1 s1 I1 ex t1 hk => ⟨?_, ?_⟩)) hs)
  · have e1 := All2.len hk
    have e2 := All2.len hE
    rw [List.length_map, e1, ← e2]
    exact hz
  have ln : H1 s1.heap.objs.size = none := I1.hok.fresh (Nat.le_refl _)
  have I2 : Inv X (M ++ pins) σ (upd H1 s1.heap.objs.size (.lst (fs.map fun p => V.ref p.1))) { s1 with heap := s1.heap.push { cls := .type "list", data := .seq (fs.map fun p => Value.ref p.1).toArray } } := by
    refine I1.laid (t' := s1.toks) (fun b v e => Heap.get?_push_of_some _ e) (Nat.le_refl _) ⟨?_, fs.map (fun p => Value.ref p.1), 0, ?_, Heap.get?_push_size _ rfl⟩
    · have e1 := All2.len hk
      have e2 := All2.len hE
      rw [List.length_map, e1, ← e2]
      exact hz
    · clear hk
      induction fs with
      | nil => exact .nil
      | cons p fs ih => exact .cons rfl ih
  refine store_ok (v := V.ref s1.heap.objs.size) I2 nd hi hx rfl (fun s2 I3 => ?_) hf
  have I4 := I3.toTry X.xe
  have run := (hr (X.pn ++ (M ++ pins))).run [] s2 _ _ D I4 (h _ fs H1 (fun q z => List.mem_append_left _ z) ex t1 (hk.mono (fun q z => List.mem_append_right _ (List.mem_append_left _ z)) (ExtN.refl _)) _ ln)
  exact wpAny_mono run (fun fl s3 z => sp_drop I.ok z) fun e s3 z => z
/-- x.append(lambda ..) and the block behind it -/
def tLamApp (X : Cx) (T : List (Addr × Str)) (i : Nat) (j : LamJ) (u : List (Addr × Obj) → TS) : TS := fun D σ H => ∃ l xs, σ[i]? = some (some (.ref l)) ∧ H l = some (.lst xs) ∧ xs.length < sizeLine ∧ Tabs T H ∧ ∀ (pn : List (Addr × Obj)) (f c' : Addr) (H1 : Hp), (∀ q ∈ X.pn, q ∈ pn) → ExtN H H1 → Tabs T H1 → j.In X pn f c' H1 →
  u pn D σ (upd H1 l (.lst (xs ++ [.ref f])))
theorem pss_lamApp {e : Expr} {j : LamJ} {i : Nat} {x : Str} {rest : List Stmt} {u : List (Addr × Obj) → TS} {px apos cpos epos : Pos} (hj : LamE X e j) (TB : TabB X.base X.mg c P) (hcode : X.env.code = .ref c)
    (hm : (P, X.env.qual ++ "<lambda>") ∈ T) (hu : ∀ p ∈ T, p.1 = P → p.2 = X.env.qual ++ "<lambda>") (hi : X.N[i]? = some x) (hv : Vis X.env.scope x)
    (hr : ∀ pn : List (Addr × Obj), PSs (X.tr pn X.xe) rest (u pn))
    (hst : starEach [e] X.env = (false, eval e X.env) :: starEach [] X.env := by rfl) (hd : (x == ("__debug__" : Str)) = false := by decide) (hcd : (x == ("__classdict__" : Str)) = false := by decide)
    (hbase : attributeBase (.Name x px) "append" X.env (eval (.Name x px) X.env) = eval (.Name x px) X.env := by rfl)
    (hfew : ((backTo cpos (starEach [e] X.env)).all (fun x => !x.1) && (backToKw cpos (keywordEach [] X.env)).all (fun x => x.1.isSome)
      && decide (([e] : List Expr).length + ([] : List Keyword).length + (if ([] : List Keyword).isEmpty then 0 else 1) < 30)) = true := by rfl)
    (hline : (apos.endLine == cpos.line) = true := by rfl) (hplain : (backTo cpos (starEach [] X.env)).any (·.1) = false := by rfl)
    (hsw : swapsWith (.Call (.Attribute (.Name x px) "append" apos) [e] [] cpos) none epos.line X.env = pure false := by rfl) :
    PSs X (.Expr (.Call (.Attribute (.Name x px) "append" apos) [e] [] cpos) epos :: rest) (tLamApp X T i j u) := by
  refine ⟨fun pins s σ H D I h => ?_⟩
  obtain ⟨l, xs, hs, hl, hz, t, h⟩ := h
  refine wpAny_execs_cons (wpAny_Expr_any (wpAny_Call_method_late hbase hfew hline rfl (thn ((pe_var (pos := px) (i := i) hi hv hd hcd).run pins s σ H (fun v H1 => v = .ref l ∧ H1 = H) I ⟨.ref l, hs, rfl, rfl⟩) fun v s1 hh => ?_)) I.quiet hsw)
  obtain ⟨x1, H1, I1, r1, rfl, rfl⟩ := hh
  obtain ⟨h1, h2⟩ := tyV_is (T := "list") I1 r1 (.inl ⟨rfl, xs, SqL.of hl⟩)
  refine ⟨"list", "list.append", PySem.F.plainAttrs_list, PySem.F.slot_list_append, PySem.F.type_list_append, h1, h2, ?_⟩
  rw [hst]
  refine Calls.callWith_builtin (by show (false || (backTo cpos (starEach [] X.env)).any (·.1)) = false; rw [hplain]; rfl) (Calls.evalArgs_plain ?_)
  refine Calls.spliced_cons (lam_any hj I1 TB hcode hm hu t fun f c' o H2 s2 I2 ex t2 h2' => ?_)
  refine Calls.spliced_nil ?_
  have hl2 : H2 l = some (.lst xs) := ex _ _ hl (fun _ z => by cases z)
  refine thn ((mt_append (X := X)) ((f, o) :: pins) s2 σ H2 (.ref l) [.ref f] v [.ref f] (fun _ H' => H' = upd H2 l (.lst (xs ++ [.ref f]))) I2 r1 (.cons rfl .nil) ⟨l, xs, .ref f, rfl, rfl, hl2, hz, rfl⟩) fun w s3 hw => ?_
  obtain ⟨x3, H3, I3, r3, rfl⟩ := hw
  have I4 := I3.toTry X.xe
  have mem : (f, o) ∈ X.pn ++ (f, o) :: pins := List.mem_append_right _ (List.mem_cons_self ..)
  have run := (hr (X.pn ++ ((f, o) :: pins))).run [] s3 _ _ D I4 (h _ f c' H2 (fun q z => List.mem_append_left _ z) ex t2 (h2'.mono (fun q z => by rw [List.mem_singleton.mp z]; exact mem) (ExtN.refl _)))
  exact wpAny_mono run (fun fl s4 z => sp_drop (more := [(f, o)]) I.ok z) fun e s4 z => z
end
end LamX

set_option maxRecDepth 100000
set_option maxHeartbeats 4000000
/-! x(e, lambda q: body): a def that calls its second parameter with a value, and raises nothing. -/
namespace LamX
open PySem PySem.Spec PyProof.Rows L2
/-- what the def makes of its first argument and of the lambda's reading -/
def Gives2 (X : Cx) (m : Nat) (Ng : List Str) (x : Str) (sg : Scope) (g : Addr) (cdg : Value) (bg : List Stmt) (a : Str) (q : Str) (TT : V → (V → Hp → VK → Prop) → Hp → VK → Prop) : Prop :=
  ∀ (f c' : Addr) (v : V) (s : Shared) (H : Hp) (Q : VK) (tl : V → Hp → VK → Prop), Room m (X.A.deeper (envOfC x sg s.heap.objs.size g cdg)) →
    (∀ (pn : List (Addr × Obj)) (xe : Value → Shared → Prop) (e : Expr) (te : TE) (p1 p2 : Pos), PE (gotCx X C8.CX0 Ng x sg g cdg s H C8.E0 pn xe) e te →
      (starEach [e] (gotCx X C8.CX0 Ng x sg g cdg s H C8.E0 pn xe).env = (false, eval e (gotCx X C8.CX0 Ng x sg g cdg s H C8.E0 pn xe).env) :: starEach [] (gotCx X C8.CX0 Ng x sg g cdg s H C8.E0 pn xe).env) →
      PE (gotCx X C8.CX0 Ng x sg g cdg s H C8.E0 pn xe) (.Call (.Name a p1) [e] [] p2) (fun σZ HZ Q => σZ[1]? = some (some (.ref f)) ∧ tCons te tNil σZ HZ fun vs H1 => ∃ y, vs = [y] ∧ H1 c' = some (CodeO c' q) ∧ tl y H1 Q)) →
    H c' = some (CodeO c' q) → TT v tl H Q →
    ∃ t, PSs (cxOf C8.CX0 X.prog X.w X.K X.mg X.base Ng x sg g cdg X.A X.stack s H C8.E0).nox bg t ∧ t { nx := fun _ H' => Q .non H', rt := Q } (L2.start Ng [v, .ref f]) H
def tLam2 (T : List (Addr × Str)) (iq : Nat) (TT : V → (V → Hp → VK → Prop) → Hp → VK → Prop) (te t : TE) : TE := fun σ H Q =>
  te σ H fun v H1 => Tabs T H1 ∧ ∀ H2, ExtN H1 H2 → Tabs T H2 → TT v (fun y H' Q' => t (σ.set iq (some y)) H' Q') H2 Q
theorem pe_call2lam {X : Cx} {T : List (Addr × Str)} {TT : V → (V → Hp → VK → Prop) → Hp → VK → Prop} {x a0 a q : Str} {g c P : Addr} {k iq : Nat} {pg : Arguments} {bg : List Stmt} {sg : Scope} {dV kV doc pm cdv ct oc : Value} {an od : Option Addr}
    {osl : Array (Option Value)} {Ng : List Str} {params : Arguments} {e body : Expr} {scope : Scope} {te t : TE} {p lpos pos : Pos} (hg : Gl X x) (hm : X.mg x = some (.ref g)) (hk : PySem.W.keepIn X.K (.ref g) = true)
    (lk : X.K.lookup g = some ⟨oc, od, .func (PySem.W.fnOf x x pg bg sg dV kV doc pm an cdv ct), osl⟩) (hcg : PySem.W.codeIn X.K cdv x = true) (hb : L2.Binds X.K (PySem.W.fnOf x x pg bg sg dV kV doc pm an cdv ct) [a0, a] [])
    (Sg : FnScope Ng [a0, a] sg) (hNg : Ng[1]? = some a) (hva : Vis sg a) (hG : Gives2 X (k + 1) Ng x sg g cdv bg a (X.env.qual ++ "<lambda>") TT)
    (TB : TabB X.base X.mg c P) (hcode : X.env.code = .ref c) (hmT : (P, X.env.qual ++ "<lambda>") ∈ T) (hu : ∀ p ∈ T, p.1 = P → p.2 = X.env.qual ++ "<lambda>") (hr : Room (k + 2) X.A)
    (L : Lam1 q X.env.scope scope) (nd : X.N.Nodup) (hiq : X.N[iq]? = some q) (hdef : defaultsOf params X.env = ([], []))
    (hbind : ∀ (n : Str) (cl : List (Str × Addr)) (doc pm cv ctv u : Value), bindArgs (PySem.W.kdv_fn "<lambda>" n params (.expr body) scope cl .none doc pm cv ctv) ⟨[u], []⟩ = pure [(q, u)])
    (he : PE X e te) (hbody : ∀ (A : Around) (outer : List Env) (s : Shared) (H : Hp) (E : XK) (f c' : Addr), Room k (A.deeper (lamEnv X scope s.heap.objs.size f c')) → PE (lamCx X A outer s H E scope f c') body t)
    (hst : starEach [e, .Lambda params body scope lpos] X.env = (false, eval e X.env) :: starEach [.Lambda params body scope lpos] X.env := by rfl)
    (hdb : (x == ("__debug__" : Str)) = false := by decide) (hd : (a == ("__debug__" : Str)) = false := by decide) (hcd : (a == ("__classdict__" : Str)) = false := by decide) :
    PE X (.Call (.Name x p) [e, .Lambda params body scope lpos] [] pos) (tLam2 T iq TT te t) := by
  refine ⟨fun pins s σ H Q I h => ?_⟩
  refine wpAny_Call_Name_kw (ld_glob I hg hm ?_ hdb)
  refine PySem.W.callWith_K (h₀ := X.base) I.ok.mod.kin hk ?_ hst (by rfl)
  rw [hst]
  show wpAny _ _ (spliced ((false, eval e X.env) :: (false, eval (.Lambda params body scope lpos) X.env) :: backTo pos (starEach [] X.env))) _ _ s
  refine Calls.spliced_cons (thn (he.run pins s σ H _ I h) fun u s1 hh => ?_)
  obtain ⟨v, H1, I1, r1, t1, h⟩ := hh
  refine Calls.spliced_cons (lam_pin I1 TB hcode hmT hu t1 hdef (L.cells I1.ok) fun f c' pm' ctv H2 s2 I2 ex t2 hc nf => ?_)
  refine Calls.spliced_nil ⟨I2.kIn, ?_⟩
  obtain ⟨at_, nH, _⟩ := I2.pin (f, _) (List.mem_append.mpr (.inr (List.mem_cons_self ..)))
  have I3 : Inv X pins σ H2 s2 := inv_drop (more := [_]) I2
  have rc := run_ofS lk hcg Sg hr I3.env0 (hb s2 [u, Value.ref f] I3.kIn rfl) (.cons r1 (.cons rfl .nil)) rfl (CX := C8.CX0) (Q := Q) (E := C8.E0) (vs := [v, V.ref f]) fun hr' => by
    obtain ⟨t', ht', hq'⟩ := hG f c' v s2 H2 Q (fun y H' Q' => t (σ.set iq (some y)) H' Q') hr'
      (fun pn xe e te p1 p2 he' hst' => pe_act1a (i := 1) (dV := .none) (doc := .none) (E := fun _ _ _ => False) I3 L nd hiq at_ nH nf hbind takes0 (fun _ _ _ _ z => z) hr' (fun A outer s H hr2 => hbody A outer s H _ f c' hr2) hNg hva he' hd hcd hst' rfl) hc (h H2 ex t2)
    exact ⟨t', PSs.nox ht', hq'⟩
  refine wpAny_call (codeAny_mono rc fun r s3 hq => ?_)
  cases r with
  | error er => exact False.elim hq
  | ok fl =>
    cases fl with
    | ret u => exact I3.after hq
    | next => exact False.elim hq
    | brk => exact False.elim hq
    | cont => exact False.elim hq
end LamX

set_option maxRecDepth 100000
set_option maxHeartbeats 4000000
/-! A def called by keywords alone: f(k = v, ..). -/
namespace L2
open PySem PySem.Spec PyProof.Rows
section
variable {X : Cx} {CX : CXT} {f : Addr} {k : Nat} {fd : FuncData} {x : Str} {ps ks : List Str} {sp : Sp} {E : XK} {kws : List Keyword} {tk : TA} {p pos : Pos} {g : List Value → List Value → List Value} {gV : List V → List V → List V}
def tCallN0 (m : Nat) (sp : Sp) (gV : List V → List V → List V) (E : XK) (tk : TA) : TE := fun σ H Q => tk σ H fun zs H2 => zs.length = m ∧ sp (gV [] zs) H2 Q E
theorem pe_callN0 (F : FnOk X.prog X.w X.K X.mg X.base CX k f fd ps sp) (hr : Room k X.A) (hg : Gl X x) (hm : X.mg x = some (.ref f)) (hk : PySem.W.keepIn X.K (.ref f) = true) (hb : KBn X.K fd ps 0 ks g gV) (hx : Passes CX X E) (hkw : PK X kws tk)
    (hall : (backToKw pos (keywordEach kws X.env)).all (·.1.isSome) = true := by rfl) (hks : (backToKw pos (keywordEach kws X.env)).filterMap (·.1) = ks := by rfl) (hdb : (x == ("__debug__" : Str)) = false := by decide)
    (hpl : ((backTo pos (starEach [] X.env)).any (·.1) || (backToKw pos (keywordEach kws X.env)).any (·.1.isNone)) = false := by rfl) :
    PE X (.Call (.Name x p) [] kws pos) (tCallN0 ks.length sp gV E tk) := by
  refine ⟨fun pins s σ H Q I h => ?_⟩
  refine wpAny_Call_Name_kw (ld_glob I hg hm ?_ hdb)
  refine PySem.W.callWith_KW0 (h₀ := X.base) I.ok.mod.kin hk hall (thn (hkw.run pos pins s σ H _ I h) fun ws s2 hh => ?_) hpl
  obtain ⟨zs, H2, I2, rz, l2, q2⟩ := hh
  refine ⟨I2.kIn, ?_⟩
  rw [hks]
  exact run_fnN (us := []) (vs := []) F hr hb hx I2 .nil rz rfl l2 q2
end
end L2

set_option maxRecDepth 100000
set_option maxHeartbeats 4000000
namespace K04
open PySem PySem.Spec PyProof.Rows L2 He VH
abbrev FnSho (K : PySem.W.Frag) (fd : FuncData) : Prop := FnP K "shown" sSho (ga K "shown") fd
section
variable {P : Program} {w : World} {K : PySem.W.Frag} {mg : Str → Option Value} {base : Heap} {fd fdI fdN fdR fdS fdC : FuncData}
theorem bSho (F : FnSho K fd) : Binds K fd ["row", "convert"] [] := FunD.bindsN F fun _ _ _ _ _ _ us hl => match us, hl with | [_, _], _ => rfl
/-- shown(convert=.., row=..) -/
theorem kSho (F : FnSho K fd) : KBn K fd ["row", "convert"] 0 ["convert", "row"] (fun us ws => us ++ ws.reverse) (fun vs zs => vs ++ zs.reverse) :=
  FunD.byName F 0 ["convert", "row"] (fun us ws => us ++ ws.reverse) (fun a b => a.append (by
    induction b with
    | nil => exact .nil
    | cons h _ ih =>
      rw [List.reverse_cons, List.reverse_cons]
      exact ih.append (.cons h .nil))) fun _ _ _ _ _ _ us ws l1 l2 => match us, l1, ws, l2 with | [], _, [_, _], _ => rfl
/-- what shown makes of a lambda -/
def TTsho : V → (V → Hp → VK → Prop) → Hp → VK → Prop := fun v tl H Q => ∃ p i, v = .ref p ∧
  ((H p = some (.tup [.int i, .non]) ∧ ∀ r, H r = none → Q (.ref r) (upd H r (.tup [.int i, .non]))) ∨
   ∃ j, H p = some (.tup [.int i, .int j]) ∧ tl (.int j) H fun y H' => ([.int i, y] : List V).length ≤ sizeLine ∧ ∀ r, H' r = none → Q (.ref r) (upd H' r (.tup [.int i, y])))
theorem gives_sho {X : Cx} {cdg : Value} {q : Str} (T : Txt X.K X.mg) (FI : FnInt X.K fdI) (FR : FnRow X.K fdR) (FS : FnIsR X.K fdS) :
    LamX.Gives2 X 3 ["row", "convert"] "shown" (defScope sSho) (ga X.K "shown") cdg (defBody sSho) "convert" q TTsho := by
  intro f c' v s H Q tl hr act hc h
  have GS : FnOk X.prog X.w X.K X.mg X.base CX0 2 (ga X.K "is_row") fdS ["value"] (spIsR X.K) := ok_isr FS T FI
  refine ⟨_, pss_cons (ps_if (pt_cmpR op_isN (pv 0) pe_non (nomark _)) (pss_one (ps_ret pe_non)) pss_nil)
    (pss_cons (ps_if (pt_not (pt_val (pe_call GS (hr.mono (by decide)) (by rfl) T.mIsR FS.kp (bIsR FS) .nil pass0 (pa_cons (pv 0) pa_nil))))
      (pss_one (ps_raise rfl LamX.takes0 (pmk_oex T.row.mkx.toOexC T.row.mkx.ini T.row.mkx.tyI (okRow FR) (hr.mono (by decide)) (bRow FR) .nil pass0 (by rfl) T.mRow (pa_cons pe_str pa_nil)))) pss_nil)
    (pss_cons (ps_if (pt_cmpR op_isN (pe_ix ix_tup (pv 0) pe_int (fun _ _ => rfl)) pe_non (nomark _)) (pss_one (ps_ret (pe_tup (pa_cons (pe_ix ix_tup (pv 0) pe_int (fun _ _ => rfl)) (pa_cons pe_non pa_nil))))) pss_nil)
    (pss_one (ps_ret (pe_tup (pa_cons (pe_ix ix_tup (pv 0) pe_int (fun _ _ => rfl)) (pa_cons
      (act [] (fun _ _ => False) _ _ _ _ (pe_ix ix_tup (pv 0) pe_int (fun _ _ => rfl)) (by rfl)) pa_nil))))))), ?_⟩
  obtain ⟨p, i, rfl, h⟩ := h
  rcases h with ⟨h, k⟩ | ⟨j, h, k⟩
  · refine ⟨_, rfl, rfl, _, rfl, iteF ?_⟩
    refine ⟨_, rfl, _, true, rfl, RowV.one h, true, rfl, iteF ?_⟩
    refine ⟨_, rfl, _, _, _, _, rfl, rfl, SqT.of h, rfl, rfl, _, rfl, iteT ?_⟩
    exact ⟨_, rfl, _, _, _, _, rfl, rfl, SqT.of h, rfl, (show 2 ≤ sizeLine by decide), k⟩
  · refine ⟨_, rfl, rfl, _, rfl, iteF ?_⟩
    refine ⟨_, rfl, _, true, rfl, RowV.two h, true, rfl, iteF ?_⟩
    refine ⟨_, rfl, _, _, _, _, rfl, rfl, SqT.of h, rfl, rfl, _, rfl, iteF ?_⟩
    refine ⟨_, rfl, _, _, _, _, rfl, rfl, SqT.of h, rfl, rfl, _, rfl, _, _, _, _, rfl, rfl, SqT.of h, rfl, _, rfl, hc, k⟩
end
end K04

set_option maxRecDepth 100000
set_option maxHeartbeats 4000000
namespace K04
open PySem PySem.Spec PyProof.Rows L2 He VH
abbrev sRig : Stmt := top 16
abbrev nRig : List Str := ["_law_well_here", "_law_many", "_law_more", "_law_old", "_law_odd", "_law_turn", "_law_due", "_law_source", "_law_fresh", "_law_asks", "_law_told", "_law_bad", "_law_ask", "_law_one_here", "_law_of", "_law_by"]
theorem scRig : FnScope nRig ["_law_well_here"] (defScope sRig) := ⟨rfl, rfl, rfl, by decide +kernel, rfl, by decide +kernel, by decide +kernel⟩
abbrev FnGer (K : PySem.W.Frag) (fd : FuncData) : Prop := FnP K "_law_integer" sGer (ga K "_law_integer") fd
abbrev FnSaid (K : PySem.W.Frag) (fd : FuncData) : Prop := FnP K "_law_said" sSaid (ga K "_law_said") fd
/-- the defs and methods that _law_right reaches -/
structure Defs (K : PySem.W.Frag) (mg : Str → Option Value) : Prop where
  T : Txt K mg
  FI : ∃ fd, FnInt K fd
  FN : ∃ fd, FnNum K fd
  FR : ∃ fd, FnRow K fd
  FS : ∃ fd, FnIsR K fd
  FC : ∃ fd, FnCal K fd
  FA : ∃ fd, FnIni K fd
  FE : ∃ fd, FnEq K fd
  FH : ∃ fd, FnSho K fd
  FG : ∃ fd, FnGer K fd
  FO : ∃ fd, FnOne K fd
  FD : ∃ fd, FnDraw K fd
  FY : ∃ fd, FnSaid K fd
  mG : mg "_law_integer" = some (.ref (ga K "_law_integer"))
  mO : mg "_law_one" = some (.ref (ga K "_law_one"))
  mD : mg "_law_draw" = some (.ref (ga K "_law_draw"))
  mY : mg "_law_said" = some (.ref (ga K "_law_said"))
theorem bGer {K : PySem.W.Frag} {fd : FuncData} (F : FnGer K fd) : Binds K fd ["_law_well_here"] [] := FunD.bindsN F fun _ _ _ _ _ _ us hl => match us, hl with | [_], _ => rfl
/-- the frame of _law_right -/
abbrev RigCx (P : Program) (w : World) (K : PySem.W.Frag) (mg : Str → Option Value) (base : Heap) (f : Addr) (cdv : Value) (A : Around) (outer : List Env) (s : Shared) (H : Hp) (E : XK) (pn : List (Addr × Obj)) (xe : Value → Shared → Prop) : Cx :=
  (cxOf CX0 P w K mg base nRig "_law_right" (defScope sRig) f cdv A outer s H E).tr pn xe
def rest1 : List Stmt := (defBody sRig).drop 4
section
variable {P : Program} {w : World} {K : PySem.W.Frag} {mg : Str → Option Value} {base : Heap} {f : Addr} {cdv : Value} {A : Around} {outer : List Env} {s : Shared} {H0 : Hp} {E : XK} {pn : List (Addr × Obj)} {xe : Value → Shared → Prop}
/-- nothing of a well and of tables -/
def Bx (a : Addr) (H H' : Hp) : Prop := ∀ b o, b ≠ a → H b = some o → (∀ ps, o ≠ .tbl ps) → H' b = some o
theorem Bx.refl {a : Addr} {H : Hp} : Bx a H H := fun _ _ _ h _ => h
theorem Bx.trans {a : Addr} {H H1 H2 : Hp} (x : Bx a H H1) (y : Bx a H1 H2) : Bx a H H2 := fun b o n h t => y b o n (x b o n h t) t
theorem Bx.but {a : Addr} {H H' : Hp} (h : But a H H') : Bx a H H' := fun b o n e _ => h b o n e
theorem Bx.same {a : Addr} {H H' : Hp} (h : Same H H') : Bx a H H' := fun b o _ e _ => h b o e
theorem Bx.ext {a : Addr} {H H' : Hp} (h : LamX.ExtN H H') : Bx a H H' := fun b o _ e t => h b o e t
theorem Bx.at {a b : Addr} {H H' : Hp} {o : HO} (h : Bx a H H') (w : Well H a) (e : H b = some o) (n : ∀ xs, o ≠ .lst xs) (t : ∀ ps, o ≠ .tbl ps) : H' b = some o := by
  refine h b o (fun z => ?_) e t
  obtain ⟨_, _, _, w⟩ := w
  rw [z, w] at e
  exact n _ (Option.some.inj e).symm
theorem tabs_but {a : Addr} {H H' : Hp} {Tt : List (Addr × Str)} (t : LamX.Tabs Tt H) (w : Well H a) (b : But a H H') : LamX.Tabs Tt H' := fun p hp => by
  obtain ⟨ps, h1, h2, h3⟩ := t p hp
  obtain ⟨_, _, _, w⟩ := w
  have n1 : p.1 ≠ a := fun z => by rw [z, w] at h1; cases h1
  refine ⟨ps, b _ _ n1 h1, h2, fun pos cv hc => ?_⟩
  obtain ⟨c, e1, e2⟩ := h3 pos cv hc
  refine ⟨c, e1, b _ _ (fun z => ?_) e2⟩
  rw [z, w] at e2
  unfold LamX.CodeO at e2
  cases e2
theorem AffAt.bx {a p : Addr} {H H' : Hp} {i j : Int} (h : AffAt K H p i j) (w : Well H a) (b : Bx a H H') : AffAt K H' p i j := by
  obtain ⟨dx, h⟩ := h
  exact ⟨dx, b.at w h (fun _ z => by cases z) (fun _ z => by cases z)⟩
/-- what is no integer here -/
inductive Odd (H : Hp) : V → Prop
  | non : Odd H .non
  | bl (b : Bool) : Odd H (.bl b)
  | str (x : Str) : Odd H (.str x)
  | tup {p : Addr} (h : H p = some (.tup [])) : Odd H (.ref p)
  | lst {p a : Addr} (n : p ≠ a) (w : Well H a) (h : H p = some (.lst [.int 1])) : Odd H (.ref p)
  | dct {p : Addr} (h : H p = some (.dK [])) : Odd H (.ref p)
theorem Odd.no {H : Hp} {x : V} (h : Odd H x) : IntV K H x false := by
  cases h with
  | non => exact .non
  | bl b => exact .bl
  | str x => exact .str
  | tup h => exact .tup h
  | lst n w h => exact .lst h
  | dct h => exact .dct h
theorem Odd.bx {a : Addr} {H H' : Hp} {x : V} (h : Odd H x) (w : Well H a) (w' : Well H' a) (b : Bx a H H') : Odd H' x := by
  cases h with
  | non => exact .non
  | bl b => exact .bl b
  | str x => exact .str x
  | tup h => exact .tup (b.at w h (fun _ z => by cases z) (fun _ z => by cases z))
  | @lst p a2 n w2 h =>
    have ne : p ≠ a := fun z => by
      obtain ⟨_, _, _, w⟩ := w
      rw [z, w] at h
      cases h
    exact .lst ne w' (b p _ ne h (fun _ z => by cases z))
  | dct h => exact .dct (b.at w h (fun _ z => by cases z) (fun _ z => by cases z))
/-- behind the draws -/
structure Mid1 (Tt : List (Addr × Str)) (a : Addr) (H : Hp) (m b o : Int) (odd : V) (H' : Hp) : Prop where
  gm : m.natAbs ≤ 10 ^ 60 + 1
  nz : m ≠ 0
  gb : Ger b
  go : Ger o
  od : Odd H' odd
  wl : Well H' a
  tb : LamX.Tabs Tt H'
  bx : Bx a H H'
set_option maxHeartbeats 4000000 in
theorem rig1 (D : Defs K mg) (hr : Room 6 (RigCx P w K mg base f cdv A outer s H0 E pn xe).A) {u : TS} (hu : PSs (RigCx P w K mg base f cdv A outer s H0 E pn xe) rest1 u) :
    ∃ t, PSs (RigCx P w K mg base f cdv A outer s H0 E pn xe) (defBody sRig) t ∧ ∀ (En : Ends) (Tt : List (Addr × Str)) (a : Addr) (H : Hp), Well H a → LamX.Tabs Tt H →
      (∀ (m b o : Int) (odd : V) (H' : Hp), Mid1 Tt a H m b o odd H' → u En [some (.ref a), some (.int m), some (.int b), some (.int o), some odd, none, none, none, none, none, none, none, none, none, none, none] H') → t En (L2.start nRig [.ref a]) H := by
  obtain ⟨T, _, _, _, _, _, _, _, _, ⟨fdG, FG⟩, ⟨fdO, FO⟩, ⟨fdD, FD⟩, _, mG, mO, mD, mY⟩ := D
  have GG : FnOk P w K mg base CX0 3 (ga K "_law_integer") fdG ["_law_well_here"] spGer := ok_ger FG T mD mO FD FO
  have GO : FnOk P w K mg base CX0 2 (ga K "_law_one") fdO ["_law_well_here", "_law_some"] (spOne K) := ok_one FO FD mD T.gI T.gL
  have pg : ∀ {p pos p2 : Pos}, PE (RigCx P w K mg base f cdv A outer s H0 E pn xe) (.Call (.Name "_law_integer" p) [.Name "_law_well_here" p2] [] pos) (tCall spGer [] C8.E0 (tCons (tVar 0) tNil)) := fun {p pos p2} =>
    pe_call (X := RigCx P w K mg base f cdv A outer s H0 E pn xe) GG (hr.mono (by decide)) (by rfl) mG FG.kp (bGer FG) .nil pass0 (pa_cons (pv 0) pa_nil)
  refine ⟨_, pss_cons (ps_par (X := RigCx P w K mg base f cdv A outer s H0 E pn xe) (i := 1) (j := 2) rfl scRig.nd rfl rfl (by decide) rfl rfl (pa_cons pg (pa_cons pg pa_nil)) (by rfl))
    (pss_cons (ps_set (i := 3) scRig.nd rfl (Or.inl rfl) pg)
    (pss_cons (ps_set (i := 4) scRig.nd rfl (Or.inr rfl) (pe_call GO (hr.mono (by decide)) (by rfl) mO FO.kp (bOne FO) .nil pass0 (pa_cons (pv 0) (pa_cons (pe_lst
      (pa_cons pe_non (pa_cons pe_bl (pa_cons pe_bl (pa_cons pe_str (pa_cons (pe_tup pa_nil) (pa_cons (pe_lst (pa_cons pe_int pa_nil)) (pa_cons pe_dnewK pa_nil)))))))) pa_nil))))
    (pss_cons (ps_set (i := 1) scRig.nd rfl (Or.inl rfl) (pe_op op_add (pv 1) (pe_callTy call_int1 (by rfl) T.gI boot_int (pa_cons (pe_cmpR op_eq (pv 1) pe_int (nomark _)) pa_nil))))
    hu))), fun En Tt a H wl tb k => ?_⟩
  refine ⟨_, rfl, a, rfl, wl, fun H1 m gm w1 b1 => ?_⟩
  refine ⟨_, rfl, a, rfl, w1, fun H2 b gb w2 b2 => ⟨_, _, rfl, ?_⟩⟩
  refine ⟨_, rfl, a, rfl, w2, fun H3 o go w3 b3 => ?_⟩
  refine ⟨_, rfl, (show 0 ≤ sizeLine by decide), fun t0 n0 => ⟨(show 1 ≤ sizeLine by decide), fun l0 nl0 => fun d0 nd0 => ⟨(show 7 ≤ sizeLine by decide), fun L nL => ?_⟩⟩⟩
  have S0 : Same H3 (upd H3 t0 (.tup [])) := Same.new n0
  have S1 := Same.new (o := .lst [.int 1]) nl0
  have S2 := Same.new (o := .dK []) nd0
  have S3 := Same.new (o := .lst [.non, .bl true, .bl false, .str "1", .ref t0, .ref l0, .ref d0]) nL
  have e0 : upd H3 t0 (.tup []) t0 = some (.tup []) := upd_same
  have e1 : upd (upd H3 t0 (.tup [])) l0 (.lst [.int 1]) l0 = some (.lst [.int 1]) := upd_same
  have e2 : upd (upd (upd H3 t0 (.tup [])) l0 (.lst [.int 1])) d0 (.dK []) d0 = some (.dK []) := upd_same
  have S := ((S0.trans S1).trans S2).trans S3
  have w4 := w3.same S
  have aL : a ≠ L := by
    obtain ⟨_, _, _, w3⟩ := w3
    exact ne_of_none (((S0.trans S1).trans S2) _ _ w3) nL
  have al : l0 ≠ a := by
    obtain ⟨_, _, _, w3⟩ := w3
    exact (ne_of_none (S0 _ _ w3) nl0).symm
  refine ⟨a, L, _, rfl, w4, aL.symm, upd_same, (show 0 < 7 by decide), (show 7 < 1073741824 by decide), fun H5 x hx w5 b5 => ?_⟩
  have od : Odd H5 x := by
    simp only [List.mem_cons, List.not_mem_nil, or_false] at hx
    rcases hx with h | h | h | h | h | h | h <;> subst h
    · exact .non
    · exact .bl _
    · exact .bl _
    · exact .str _
    · exact .tup ((Bx.but b5).at w4 (S3 _ _ (S2 _ _ (S1 _ _ e0))) (fun _ z => by cases z) (fun _ z => by cases z))
    · exact .lst al w5 (b5 _ _ al (S3 _ _ (S2 _ _ e1)))
    · exact .dct ((Bx.but b5).at w4 (S3 _ _ e2) (fun _ z => by cases z) (fun _ z => by cases z))
  have bt : But a H H5 := ((b1.trans b2).trans b3).trans ((But.of S).trans b5)
  refine ⟨_, rfl, _, rfl, rfl, .inr ⟨_, rfl, ?_⟩⟩
  unfold Ger at gm
  refine ⟨_, _, rfl, rfl, k _ b o x H5 ⟨?_, ?_, gb, go, od, w5, tabs_but tb wl bt, Bx.but bt⟩⟩
  · split <;> omega
  · rename_i z
    by_cases h : m = 0
    · subst h
      simp
    · simp [h]

end
end K04

set_option maxRecDepth 100000
set_option maxHeartbeats 4000000
namespace K04
open PySem PySem.Spec PyProof.Rows L2 He VH
def rest2 : List Stmt := (defBody sRig).drop 9
section
variable {P : Program} {w : World} {K : PySem.W.Frag} {mg : Str → Option Value} {base : Heap} {f : Addr} {cdv : Value} {A : Around} {outer : List Env} {s : Shared} {H0 : Hp} {E : XK} {pn : List (Addr × Obj)} {xe : Value → Shared → Prop}
/-- behind the tests of the converter -/
structure Mid2 (K : PySem.W.Frag) (Tt : List (Addr × Str)) (a : Addr) (H : Hp) (m b o : Int) (odd : V) (tu : Addr) (H' : Hp) : Prop where
  one : Mid1 Tt a H m b o odd H'
  af : AffAt K H' tu m b
theorem Mid1.step {Tt : List (Addr × Str)} {a : Addr} {H : Hp} {m b o : Int} {odd : V} {H1 H2 : Hp} (h : Mid1 Tt a H m b o odd H1) (w : Well H2 a) (bt : But a H1 H2) : Mid1 Tt a H m b o odd H2 :=
  ⟨h.gm, h.nz, h.gb, h.go, h.od.bx h.wl w (Bx.but bt), w, tabs_but h.tb h.wl bt, h.bx.trans (Bx.but bt)⟩
theorem Mid1.same {Tt : List (Addr × Str)} {a : Addr} {H : Hp} {m b o : Int} {odd : V} {H1 H2 : Hp} (h : Mid1 Tt a H m b o odd H1) (e : Same H1 H2) : Mid1 Tt a H m b o odd H2 := h.step (h.wl.same e) (But.of e)
theorem Mid2.same {K : PySem.W.Frag} {Tt : List (Addr × Str)} {a tu : Addr} {H : Hp} {m b o : Int} {odd : V} {H1 H2 : Hp} (h : Mid2 K Tt a H m b o odd tu H1) (e : Same H1 H2) : Mid2 K Tt a H m b o odd tu H2 :=
  ⟨h.one.same e, h.af.bx h.one.wl (Bx.same e)⟩
theorem dpI {K : PySem.W.Frag} {H : Hp} {p : Addr} (ns : List Int) (h : H p = some (.lst (ns.map V.int))) : Dp K H (.ref p) (.list (ns.map PyData.int)) :=
  .lst (SqL.of h) (by
    clear h
    induction ns with
    | nil => exact .nil
    | cons n ns ih => exact .cons (.int n) ih)
theorem read_mk (T : Txt K mg) {H : Hp} {E : XK} {R : VK} {i j : Int} (ne : i ≠ 0) (x dx : Addr) (nx : H x = none) (nd : H dx = none) (da : dx ≠ x) (k : ∀ H' : Hp, Same H H' → AffAt K H' x i j → R .non H') :
    spInit K [.ref x, .int i, .int j] (upd (upd H dx (.own x)) x (.ins (ga K "Affine") dx [])) R E := by
  refine ⟨x, _, dx, _, _, rfl, upd_same, T.aff, T.nSc, T.nSh, .inl ⟨i, rfl⟩, .inl ⟨j, rfl⟩, ?_⟩
  rw [show okA (.int i) (.int j) = none from if_neg ne]
  intro H' bt ha
  refine k H' (fun b o e => ?_) ⟨dx, ha⟩
  have ba' : b ≠ x := ne_of_none e nx
  exact bt b o ba' (by
    rw [upd_ne ba', upd_ne (ne_of_none e nd)]
    exact e)
theorem rig2 (D : Defs K mg) (hr : Room 6 (RigCx P w K mg base f cdv A outer s H0 E pn xe).A) {u : TS} (hu : PSs (RigCx P w K mg base f cdv A outer s H0 E pn xe) rest2 u) :
    ∃ t, PSs (RigCx P w K mg base f cdv A outer s H0 E pn xe) rest1 t ∧ ∀ (En : Ends) (Tt : List (Addr × Str)) (a : Addr) (H H1 : Hp) (m b o : Int) (odd : V), Mid1 Tt a H m b o odd H1 →
      (∀ (tu : Addr) (H' : Hp), Mid2 K Tt a H m b o odd tu H' → u En [some (.ref a), some (.int m), some (.int b), some (.int o), some odd, some (.ref tu), some (.int (m * o + b)), none, none, none, none, none, none, none, none, none] H') →
      t En [some (.ref a), some (.int m), some (.int b), some (.int o), some odd, none, none, none, none, none, none, none, none, none, none, none] H1 := by
  obtain ⟨T, ⟨fdI, FI⟩, ⟨fdN, FN⟩, _, _, ⟨fdC, FC⟩, ⟨fdA, FA⟩, ⟨fdE, FE⟩, _, _, _, _, _, _, _, _, _⟩ := D
  have GA : FnOk P w K mg base (L2.CX P w) 3 (ma K (ga K "Affine") "__init__") fdA ["self", "scale", "shift"] (spInit K) := ok_init FA T FI FN
  have GC : FnOk P w K mg base (L2.CX P w) 3 (ma K (ga K "Affine") "__call__") fdC ["self", "value"] (spCallA K) := ok_call FC T FI FN
  have hr4 : Room 4 (RigCx P w K mg base f cdv A outer s H0 E pn xe).A := hr.mono (by decide)
  have hr3 : Room 3 (RigCx P w K mg base f cdv A outer s H0 E pn xe).A := hr.mono (by decide)
  refine ⟨_, pss_cons (ps_set (X := RigCx P w K mg base f cdv A outer s H0 E pn xe) (i := 5) scRig.nd rfl (Or.inr rfl) (pe_make T.mkA GA hr4 (by rfl) T.mAff (bIni FA) .nil passN (pa_cons (pv 1) (pa_cons (pv 2) pa_nil))))
    (pss_cons (ps_set (i := 6) scRig.nd rfl (Or.inl rfl) (pe_op op_add (pe_op op_mulW (pv 1) (pv 3)) (pv 2)))
    (pss_cons (ps_if (pt_cmpR (op_neD hr.units) (pe_lst (pa_cons (pe_fld (pv 5) rfl) (pa_cons (pe_fld (pv 5) rfl) (pa_cons (StX.pe_callO (pv 5) T.callO (raw0 GC (bCal FC)) hr3 passN (pa_cons (pv 3) pa_nil))
        (pa_cons (pe_callOK (pv 5) T.callO GC hr3 (kCal FC) passN (pk_cons (pv 3) pk_nil)) pa_nil))))) (pe_lst (pa_cons (pv 1) (pa_cons (pv 2) (pa_cons (pv 6) (pa_cons (pv 6) pa_nil))))) (nomark _)) (pss_one (ps_ret pe_bl)) pss_nil)
    (pss_cons (ps_if (pt_cmpR (op_neAff T FE (hr.mono (by decide))) (pv 5) (pe_makeK0 T.mkA GA hr4 (by rfl) T.mAff (kIni FA) passN (pk_cons (pv 2) (pk_cons (pv 1) pk_nil))) (nomark _)) (pss_one (ps_ret pe_bl)) pss_nil)
    (pss_cons (ps_if (PW.pt (pw_or (pt_cmpR (op_eqAff T FE (hr.mono (by decide))) (pv 5) (pe_make T.mkA GA hr4 (by rfl) T.mAff (bIni FA) .nil passN (pa_cons (pv 1) (pa_cons (pe_op op_add (pv 2) pe_int) pa_nil))) (nomark _))
      (pw_or1 (pt_cmpR (op_eqAff T FE (hr.mono (by decide))) (pv 5) (pe_make T.mkA GA hr4 (by rfl) T.mAff (bIni FA) .nil passN (pa_cons (pe_op op_sub pe_int (pv 1)) (pa_cons (pv 2) pa_nil))) (nomark _))))) (pss_one (ps_ret pe_bl)) pss_nil)
    hu)))), fun En Tt a H H1 m b o odd M k => ?_⟩
  refine ⟨_, rfl, _, rfl, fun tu d0 ntu nd0 e0 => read_mk T M.nz tu d0 ntu nd0 e0 fun H2 S2 af => ⟨rfl, ?_⟩⟩
  have M2 : Mid2 K Tt a H m b o odd tu H2 := ⟨M.same S2, af⟩
  have mul : CMulW m o := Ger.mul M.gm (Nat.le_succ_of_le M.go)
  refine ⟨_, rfl, _, rfl, m, o, rfl, rfl, mul, _, rfl, m * o, b, rfl, rfl, ?_⟩
  obtain ⟨dx, ha⟩ := af
  have call : spCallA K [.ref tu, .int o] H2 = spCallA K [.ref tu, .int o] H2 := rfl
  refine ⟨_, rfl, tu, _, dx, _, _, rfl, ha, T.aff, T.nSc, rfl, ?_⟩
  refine ⟨_, rfl, tu, _, dx, _, _, rfl, ha, T.aff, T.nSh, rfl, ?_⟩
  refine ⟨_, rfl, tu, rfl, _, rfl, .inr ⟨dx, _, ha⟩, tu, m, b, _, rfl, ⟨dx, ha⟩, .inl ⟨o, rfl, mul, ?_⟩⟩
  refine ⟨_, rfl, tu, rfl, _, rfl, rfl, .inr ⟨dx, _, ha⟩, tu, m, b, _, rfl, ⟨dx, ha⟩, .inl ⟨o, rfl, mul, ?_⟩⟩
  refine ⟨(show 4 ≤ sizeLine by decide), fun p hp => ⟨_, rfl, _, rfl, _, rfl, _, rfl, (show 4 ≤ sizeLine by decide), fun p2 hp2 => ?_⟩⟩
  have S3 := (Same.new (o := .lst [.int m, .int b, .int (m * o + b), .int (m * o + b)]) hp)
  have S4 := (Same.new (o := .lst [.int m, .int b, .int (m * o + b), .int (m * o + b)]) hp2)
  have M4 : Mid2 K Tt a H m b o odd tu _ := (M2.same S3).same S4
  refine ⟨_, _, dpI [m, b, m * o + b, m * o + b] (S4 _ _ upd_same), dpI [m, b, m * o + b, m * o + b] upd_same, by rfl, by rfl, _, rfl, ?_⟩
  rw [show (!PyData.eqv (.list (([m, b, m * o + b, m * o + b] : List Int).map PyData.int)) (.list (([m, b, m * o + b, m * o + b] : List Int).map PyData.int))) = false by simp [PyData.eqv, PyData.eqvAll]]
  refine iteF ?_
  refine ⟨_, rfl, _, rfl, _, rfl, rfl, rfl, fun t1 d1 nt1 nd1 e1 => read_mk T M.nz t1 d1 nt1 nd1 e1 fun H5 S5 af5 => ⟨rfl, ?_⟩⟩
  have M5 := M4.same S5
  refine read_ne T M5.af af5 ⟨_, rfl, ?_⟩
  simp only [decide_true, Bool.and_self, Bool.not_true]
  refine iteF ?_
  refine ⟨_, rfl, _, rfl, _, rfl, b, 1, rfl, rfl, fun t2 d2 nt2 nd2 e2 => read_mk T M.nz t2 d2 nt2 nd2 e2 fun H6 S6 af6 => ⟨rfl, ?_⟩⟩
  have M6 := M5.same S6
  refine read_eq T M6.af af6 ⟨_, rfl, ?_⟩
  rw [show (decide (m = m) && decide (b = b + 1)) = false by simp; omega]
  refine ⟨_, rfl, _, rfl, 0, m, rfl, rfl, _, rfl, fun t3 d3 nt3 nd3 e3 => read_mk T (show (0 - m : Int) ≠ 0 by have := M.nz; omega) t3 d3 nt3 nd3 e3 fun H7 S7 af7 => ⟨rfl, ?_⟩⟩
  have M7 := M6.same S7
  refine read_eq T M7.af af7 ⟨_, rfl, ?_⟩
  rw [show (decide (m = 0 - m) && decide (b = b)) = false by have := M.nz; simp; omega]
  exact iteF (k tu H7 M7)
end
end K04

set_option maxRecDepth 100000
set_option maxHeartbeats 4000000
namespace K04
open PySem PySem.Spec PyProof.Rows L2 He VH
def rest3 : List Stmt := (defBody sRig).drop 14
section
variable {P : Program} {w : World} {K : PySem.W.Frag} {mg : Str → Option Value} {base : Heap} {f : Addr} {cdv : Value} {A : Around} {outer : List Env} {s : Shared} {H0 : Hp} {E : XK} {pn : List (Addr × Obj)} {xe : Value → Shared → Prop}
/-- the source and its converted value -/
def Src (m b : Int) (src fr : V) : Prop := (src = .non ∧ fr = .non) ∨ ∃ j, Ger j ∧ src = .int j ∧ fr = .int (m * j + b)
theorem dpT {K : PySem.W.Frag} {H : Hp} {p : Addr} {xs : List V} {ds : List PyData} (h : H p = some (.tup xs)) (d : DpAll K H xs ds) : Dp K H (.ref p) (.tuple ds) := .tup (SqT.of h) d
theorem dp2n {K : PySem.W.Frag} {H : Hp} {p : Addr} {i : Int} (h : H p = some (.tup [.int i, .non])) : Dp K H (.ref p) (.tuple [.int i, .none]) := dpT h (.cons (.int i) (.cons .non .nil))
theorem dp2i {K : PySem.W.Frag} {H : Hp} {p : Addr} {i j : Int} (h : H p = some (.tup [.int i, .int j])) : Dp K H (.ref p) (.tuple [.int i, .int j]) := dpT h (.cons (.int i) (.cons (.int j) .nil))
theorem rig3 (D : Defs K mg) (hr : Room 6 (RigCx P w K mg base f cdv A outer s H0 E pn xe).A) {u : TS} (hu : PSs (RigCx P w K mg base f cdv A outer s H0 E pn xe) rest3 u) :
    ∃ t, PSs (RigCx P w K mg base f cdv A outer s H0 E pn xe) rest2 t ∧ ∀ (En : Ends) (Tt : List (Addr × Str)) (a tu : Addr) (H H1 : Hp) (m b o due : Int) (odd : V), Mid2 K Tt a H m b o odd tu H1 →
      (∀ (src fr : V) (H' : Hp), Src m b src fr → Mid2 K Tt a H m b o odd tu H' → u En [some (.ref a), some (.int m), some (.int b), some (.int o), some odd, some (.ref tu), some (.int due), some src, some fr, none, none, none, none, none, none, none] H') →
      t En [some (.ref a), some (.int m), some (.int b), some (.int o), some odd, some (.ref tu), some (.int due), none, none, none, none, none, none, none, none, none] H1 := by
  obtain ⟨T, ⟨fdI, FI⟩, ⟨fdN, FN⟩, ⟨fdR, FR⟩, ⟨fdS, FS⟩, ⟨fdC, FC⟩, ⟨fdA, FA⟩, ⟨fdE, FE⟩, ⟨fdH, FH⟩, ⟨fdG, FG⟩, ⟨fdO, FO⟩, ⟨fdD, FD⟩, _, mG, mO, mD, _⟩ := D
  have GG : FnOk P w K mg base CX0 3 (ga K "_law_integer") fdG ["_law_well_here"] spGer := ok_ger FG T mD mO FD FO
  have GO : FnOk P w K mg base CX0 2 (ga K "_law_one") fdO ["_law_well_here", "_law_some"] (spOne K) := ok_one FO FD mD T.gI T.gL
  have GC : FnOk P w K mg base (L2.CX P w) 3 (ma K (ga K "Affine") "__call__") fdC ["self", "value"] (spCallA K) := ok_call FC T FI FN
  have GH : FnOk P w K mg base (L2.CX P w) 4 (ga K "shown") fdH ["row", "convert"] (spShoA K) := ok_shoA FH T FI FN FR FS FC
  have hr4 : Room 4 (RigCx P w K mg base f cdv A outer s H0 E pn xe).A := hr.mono (by decide)
  have hr3 : Room 3 (RigCx P w K mg base f cdv A outer s H0 E pn xe).A := hr.mono (by decide)
  refine ⟨_, pss_cons (ps_set (X := RigCx P w K mg base f cdv A outer s H0 E pn xe) (i := 7) scRig.nd rfl (Or.inl rfl) (pe_call GO (hr.mono (by decide)) (by rfl) mO FO.kp (bOne FO) .nil pass0 (pa_cons (pv 0) (pa_cons (pe_lst
      (pa_cons pe_non (pa_cons (pv 3) (pa_cons (pe_call GG (hr.mono (by decide)) (by rfl) mG FG.kp (bGer FG) .nil pass0 (pa_cons (pv 0) pa_nil)) pa_nil)))) pa_nil))))
    (pss_cons (ps_set (i := 8) scRig.nd rfl (Or.inl rfl) (pe_ifExp (pt_cmpR op_isN (pv 7) pe_non (nomark _)) pe_non (pe_op op_add (pe_op op_mulW (pv 1) (pv 7)) (pv 2))))
    (pss_cons (ps_if (pt_cmpR (op_neD hr.units) (pe_call GH hr4 (by rfl) T.mSho FH.kp (bSho FH) .nil passN (pa_cons (pe_tup (pa_cons (pv 3) (pa_cons (pv 7) pa_nil))) (pa_cons (pv 5) pa_nil)))
        (pe_tup (pa_cons (pv 3) (pa_cons (pv 8) pa_nil))) (nomark _)) (pss_one (ps_ret pe_bl)) pss_nil)
    (pss_cons (ps_if (pt_cmpR (op_neD hr.units) (pe_callN0 GH hr4 (by rfl) T.mSho FH.kp (kSho FH) passN (pk_cons (pv 5) (pk_cons (pe_tup (pa_cons (pv 3) (pa_cons (pv 7) pa_nil))) pk_nil)))
        (pe_tup (pa_cons (pv 3) (pa_cons (pv 8) pa_nil))) (nomark _)) (pss_one (ps_ret pe_bl)) pss_nil)
    (pss_cons (ps_if (PW.pt (pw_or (pt_cmpR op_ne (pe_cmpR op_eq (pv 7) (pv 3) (nomark _)) (pe_cmpR op_eq (pv 8) (StX.pe_callO (pv 5) T.callO (raw0 GC (bCal FC)) hr3 passN (pa_cons (pv 3) pa_nil)) (nomark _)) (nomark _))
      (pw_or1 (pt_cmpR op_notN (pe_call GH hr4 (by rfl) T.mSho FH.kp (bSho FH) .nil passN (pa_cons pe_non (pa_cons (pv 5) pa_nil))) pe_non (nomark _))))) (pss_one (ps_ret pe_bl)) pss_nil)
    hu)))), fun En Tt a tu H H1 m b o due odd M k => ?_⟩
  have wl := M.one.wl
  have mul : CMulW m o := Ger.mul M.one.gm (Nat.le_succ_of_le M.one.go)
  refine ⟨_, rfl, _, rfl, _, rfl, a, rfl, wl, fun H2 j gj w2 b2 => ⟨(show 3 ≤ sizeLine by decide), fun L nL => ?_⟩⟩
  have M2 : Mid2 K Tt a H m b o odd tu H2 := ⟨M.one.step w2 b2, M.af.bx wl (Bx.but b2)⟩
  have S2 := Same.new (o := .lst [.non, .int o, .int j]) nL
  have aL : a ≠ L := by
    obtain ⟨_, _, _, w2⟩ := w2
    exact ne_of_none w2 nL
  refine ⟨a, L, _, rfl, w2.same S2, aL.symm, upd_same, (show 0 < 3 by decide), (show 3 < 1073741824 by decide), fun H3 x hx w3 b3 => ?_⟩
  have M3 : Mid2 K Tt a H m b o odd tu H3 := ⟨(M2.same S2).one.step w3 b3, (M2.same S2).af.bx (w2.same S2) (Bx.but b3)⟩
  have way : x = .non ∨ ∃ j, Ger j ∧ x = .int j := by
    simp only [List.mem_cons, List.not_mem_nil, or_false] at hx
    rcases hx with h | h | h
    · exact .inl h
    · exact .inr ⟨o, M.one.go, h⟩
    · exact .inr ⟨j, gj, h⟩
  clear hx
  rcases way with rfl | ⟨q, gq, rfl⟩
  · refine ⟨_, rfl, rfl, _, rfl, iteT ?_⟩
    refine ⟨_, rfl, _, rfl, (show 2 ≤ sizeLine by decide), fun p hp => ⟨_, rfl, _, _, rfl, .inr (.inr (.inl ⟨p, o, rfl, upd_same, fun r hr => ?_⟩))⟩⟩
    have T1 := Same.new (o := .tup [.int o, .non]) hp
    have T2 := Same.new (o := .tup [.int o, .non]) hr
    refine ⟨_, rfl, _, rfl, (show 2 ≤ sizeLine by decide), fun p2 hp2 => ⟨_, _, dp2n (Same.new hp2 _ _ upd_same), dp2n upd_same, by rfl, by rfl, _, rfl, ?_⟩⟩
    have T3 := Same.new (o := .tup [.int o, .non]) hp2
    have M4 := ((M3.same T1).same T2).same T3
    clear T1 T2 T3
    rw [show (!PyData.eqv (.tuple [.int o, .none]) (.tuple [.int o, .none])) = false by simp [PyData.eqv, PyData.eqvAll]]
    refine iteF ?_
    generalize upd (upd (upd H3 p (.tup [.int o, .non])) r (.tup [.int o, .non])) p2 (.tup [.int o, .non]) = H4 at M4 ⊢
    refine ⟨_, rfl, _, rfl, _, rfl, (show 2 ≤ sizeLine by decide), fun p hp => ⟨rfl, _, _, rfl, .inr (.inr (.inl ⟨p, o, rfl, upd_same, fun r hr => ?_⟩))⟩⟩
    have T1 := Same.new (o := .tup [.int o, .non]) hp
    have T2 := Same.new (o := .tup [.int o, .non]) hr
    refine ⟨_, rfl, _, rfl, (show 2 ≤ sizeLine by decide), fun p2 hp2 => ⟨_, _, dp2n (Same.new hp2 _ _ upd_same), dp2n upd_same, by rfl, by rfl, _, rfl, ?_⟩⟩
    have T3 := Same.new (o := .tup [.int o, .non]) hp2
    have M5 := ((M4.same T1).same T2).same T3
    clear T1 T2 T3
    rw [show (!PyData.eqv (.tuple [.int o, .none]) (.tuple [.int o, .none])) = false by simp [PyData.eqv, PyData.eqvAll]]
    refine iteF ?_
    generalize upd (upd (upd H4 p (.tup [.int o, .non])) r (.tup [.int o, .non])) p2 (.tup [.int o, .non]) = H5 at M5 ⊢
    obtain ⟨dx, ha⟩ := M5.af
    refine ⟨_, rfl, _, rfl, rfl, _, rfl, _, rfl, tu, rfl, _, rfl, .inr ⟨dx, _, ha⟩, tu, m, b, _, rfl, ⟨dx, ha⟩, .inl ⟨o, rfl, mul, ?_⟩⟩
    refine ⟨rfl, rfl, _, rfl, ?_⟩
    rw [show (!decide (V.bl (decide (V.non = V.int o)) = V.bl (decide (V.non = V.int (m * o + b))))) = false by simp]
    refine ⟨_, rfl, _, _, rfl, .inl ⟨rfl, rfl, _, rfl, iteF (k .non .non H5 (.inl ⟨rfl, rfl⟩) M5)⟩⟩
  · have mulq : CMulW m q := Ger.mul M.one.gm (Nat.le_succ_of_le gq)
    refine ⟨_, rfl, rfl, _, rfl, iteF ?_⟩
    refine ⟨_, rfl, _, rfl, m, q, rfl, rfl, mulq, _, rfl, m * q, b, rfl, rfl, ?_⟩
    refine ⟨_, rfl, _, rfl, (show 2 ≤ sizeLine by decide), fun p hp => ⟨_, rfl, _, _, rfl, .inr (.inr (.inr ⟨p, o, q, tu, m, b, rfl, upd_same, rfl, M3.af.bx M3.one.wl (Bx.same (Same.new hp)), mulq, fun r hr => ?_⟩))⟩⟩
    have T1 := Same.new (o := .tup [.int o, .int q]) hp
    have T2 := Same.new (o := .tup [.int o, .int (m * q + b)]) hr
    refine ⟨_, rfl, _, rfl, (show 2 ≤ sizeLine by decide), fun p2 hp2 => ⟨_, _, dp2i (Same.new hp2 _ _ upd_same), dp2i upd_same, by rfl, by rfl, _, rfl, ?_⟩⟩
    have T3 := Same.new (o := .tup [.int o, .int (m * q + b)]) hp2
    have M4 := ((M3.same T1).same T2).same T3
    clear T1 T2 T3
    rw [show (!PyData.eqv (.tuple [.int o, .int (m * q + b)]) (.tuple [.int o, .int (m * q + b)])) = false by simp [PyData.eqv, PyData.eqvAll]]
    refine iteF ?_
    generalize upd (upd (upd H3 p (.tup [.int o, .int q])) r (.tup [.int o, .int (m * q + b)])) p2 (.tup [.int o, .int (m * q + b)]) = H4 at M4 ⊢
    refine ⟨_, rfl, _, rfl, _, rfl, (show 2 ≤ sizeLine by decide), fun p hp => ⟨rfl, _, _, rfl, .inr (.inr (.inr ⟨p, o, q, tu, m, b, rfl, upd_same, rfl, M4.af.bx M4.one.wl (Bx.same (Same.new hp)), mulq, fun r hr => ?_⟩))⟩⟩
    have T1 := Same.new (o := .tup [.int o, .int q]) hp
    have T2 := Same.new (o := .tup [.int o, .int (m * q + b)]) hr
    refine ⟨_, rfl, _, rfl, (show 2 ≤ sizeLine by decide), fun p2 hp2 => ⟨_, _, dp2i (Same.new hp2 _ _ upd_same), dp2i upd_same, by rfl, by rfl, _, rfl, ?_⟩⟩
    have T3 := Same.new (o := .tup [.int o, .int (m * q + b)]) hp2
    have M5 := ((M4.same T1).same T2).same T3
    clear T1 T2 T3
    rw [show (!PyData.eqv (.tuple [.int o, .int (m * q + b)]) (.tuple [.int o, .int (m * q + b)])) = false by simp [PyData.eqv, PyData.eqvAll]]
    refine iteF ?_
    generalize upd (upd (upd H4 p (.tup [.int o, .int q])) r (.tup [.int o, .int (m * q + b)])) p2 (.tup [.int o, .int (m * q + b)]) = H5 at M5 ⊢
    obtain ⟨dx, ha⟩ := M5.af
    refine ⟨_, rfl, _, rfl, rfl, _, rfl, _, rfl, tu, rfl, _, rfl, .inr ⟨dx, _, ha⟩, tu, m, b, _, rfl, ⟨dx, ha⟩, .inl ⟨o, rfl, mul, ?_⟩⟩
    refine ⟨rfl, rfl, _, rfl, ?_⟩
    rw [show (!decide (V.bl (decide (V.int q = V.int o)) = V.bl (decide (V.int (m * q + b) = V.int (m * o + b))))) = false by
      have nz := M.one.nz
      by_cases h : q = o
      · subst h
        simp
      · have h2 : m * q + b ≠ m * o + b := fun z => h (Int.eq_of_mul_eq_mul_left nz (by omega))
        simp [h, h2]]
    refine ⟨_, rfl, _, _, rfl, .inl ⟨rfl, rfl, _, rfl, iteF (k (.int q) (.int (m * q + b)) H5 (.inr ⟨q, gq, rfl, rfl⟩) M5)⟩⟩
end
end K04

set_option maxRecDepth 100000
set_option maxHeartbeats 4000000
namespace K04
open PySem PySem.Spec PyProof.Rows L2 He VH
def rest4 : List Stmt := (defBody sRig).drop 15
abbrev Tt4 (Pt : Addr) : List (Addr × Str) := [(Pt, ("_law_right" ++ ".<locals>.") ++ "<lambda>")]
section
variable {P : Program} {w : World} {K : PySem.W.Frag} {mg : Str → Option Value} {base : Heap} {f c Pt : Addr} {A : Around} {outer : List Env} {s : Shared} {H0 : Hp} {E : XK} {pn : List (Addr × Obj)} {xe : Value → Shared → Prop}
theorem Mid1.ext {Tt : List (Addr × Str)} {a : Addr} {H : Hp} {m b o : Int} {odd : V} {H1 H2 : Hp} (h : Mid1 Tt a H m b o odd H1) (e : LamX.ExtN H1 H2) (t : LamX.Tabs Tt H2) : Mid1 Tt a H m b o odd H2 := by
  have w : Well H2 a := by
    obtain ⟨c, b', n, w⟩ := h.wl
    exact ⟨c, b', n, e _ _ w (fun _ z => by cases z)⟩
  exact ⟨h.gm, h.nz, h.gb, h.go, h.od.bx h.wl w (Bx.ext e), w, t, h.bx.trans (Bx.ext e)⟩
theorem Mid2.ext {K : PySem.W.Frag} {Tt : List (Addr × Str)} {a tu : Addr} {H : Hp} {m b o : Int} {odd : V} {H1 H2 : Hp} (h : Mid2 K Tt a H m b o odd tu H1) (e : LamX.ExtN H1 H2) (t : LamX.Tabs Tt H2) : Mid2 K Tt a H m b o odd tu H2 :=
  ⟨h.one.ext e t, h.af.bx h.one.wl (Bx.ext e)⟩
theorem hu4 {q : Str} (e : q = ("_law_right" ++ ".<locals>.") ++ "<lambda>") : ∀ p ∈ Tt4 Pt, p.1 = Pt → p.2 = q := fun p hp _ => by
  rw [List.mem_singleton.mp hp, e]
theorem rig4 (D : Defs K mg) (TB : LamX.TabB base mg c Pt) (hr : Room 6 (RigCx P w K mg base f (.ref c) A outer s H0 E pn xe).A) {u : TS} (hu : PSs (RigCx P w K mg base f (.ref c) A outer s H0 E pn xe) rest4 u) :
    ∃ t, PSs (RigCx P w K mg base f (.ref c) A outer s H0 E pn xe) rest3 t ∧ ∀ (En : Ends) (a tu : Addr) (H H1 : Hp) (m b o due : Int) (odd src fr : V), Src m b src fr → Mid2 K (Tt4 Pt) a H m b o odd tu H1 →
      (∀ (H' : Hp), Mid2 K (Tt4 Pt) a H m b o odd tu H' → u En [some (.ref a), some (.int m), some (.int b), some (.int o), some odd, some (.ref tu), some (.int due), some src, some fr, none, none, none, none, none, none, none] H') →
      t En [some (.ref a), some (.int m), some (.int b), some (.int o), some odd, some (.ref tu), some (.int due), some src, some fr, none, none, none, none, none, none, none] H1 := by
  obtain ⟨T, ⟨fdI, FI⟩, _, ⟨fdR, FR⟩, ⟨fdS, FS⟩, _, _, _, ⟨fdH, FH⟩, _, _, _, _, _, _, _, _⟩ := D
  have FHk := FH.kp
  have b0 := bSho FH
  obtain ⟨oc, od, dV, kV, doc, pm, an, cdv, ct, osl, rfl, lk, hcd, _, _⟩ := FH.ex
  refine ⟨_, pss_cons (ps_if (pt_cmpR (op_neD hr.units) (LamX.pe_call2lam (X := RigCx P w K mg base f (.ref c) A outer s H0 E pn xe) (T := Tt4 Pt) (iq := 13) (k := 2) (by rfl) T.mSho FHk lk hcd b0 scSho rfl (.inl (by rfl))
        (gives_sho T FI FR FS) TB rfl (List.mem_singleton.mpr rfl) (hu4 rfl) (hr.mono (by decide)) (show LamX.Lam1 "_law_one_here" (defScope sRig) _ from LamX.lam1_by (by decide +kernel)) scRig.nd rfl rfl (fun _ _ _ _ _ _ _ => rfl)
        (pe_tup (pa_cons (pv 3) (pa_cons (pv 7) pa_nil))) (fun A outer s H E f c' hr => pe_op op_sub pe_int (pv 13)))
      (pe_tup (pa_cons (pv 3) (pa_cons (pe_ifExp (pt_cmpR op_isN (pv 7) pe_non (nomark _)) pe_non (pe_op op_sub pe_int (pv 7))) pa_nil))) (nomark _)) (pss_one (ps_ret pe_bl)) pss_nil)
    hu, fun En a tu H H1 m b o due odd src fr hs M k => ?_⟩
  rcases hs with ⟨rfl, rfl⟩ | ⟨q, gq, rfl, rfl⟩
  · refine ⟨_, rfl, _, rfl, (show 2 ≤ sizeLine by decide), fun p hp => ?_⟩
    have T1 := Same.new (o := .tup [.int o, .non]) hp
    have M1 := M.same T1
    refine ⟨M1.one.tb, fun H2 ex t2 => ⟨p, o, rfl, .inl ⟨ex _ _ upd_same (fun _ z => by cases z), fun r hr => ?_⟩⟩⟩
    have M2 := (M1.ext ex t2).same (Same.new (o := .tup [.int o, .non]) hr)
    refine ⟨_, rfl, _, rfl, rfl, _, rfl, iteT ⟨(show 2 ≤ sizeLine by decide), fun p2 hp2 => ⟨_, _, dp2n (Same.new hp2 _ _ upd_same), dp2n upd_same, by rfl, by rfl, _, rfl, ?_⟩⟩⟩
    rw [show (!PyData.eqv (.tuple [.int o, .none]) (.tuple [.int o, .none])) = false by simp [PyData.eqv, PyData.eqvAll]]
    exact iteF (k _ (M2.same (Same.new hp2)))
  · refine ⟨_, rfl, _, rfl, (show 2 ≤ sizeLine by decide), fun p hp => ?_⟩
    have T1 := Same.new (o := .tup [.int o, .int q]) hp
    have M1 := M.same T1
    refine ⟨M1.one.tb, fun H2 ex t2 => ⟨p, o, rfl, .inr ⟨q, ex _ _ upd_same (fun _ z => by cases z), ?_⟩⟩⟩
    refine ⟨_, rfl, 3, q, rfl, rfl, (show 2 ≤ sizeLine by decide), fun r hr => ?_⟩
    have M2 := (M1.ext ex t2).same (Same.new (o := .tup [.int o, .int (3 - q)]) hr)
    refine ⟨_, rfl, _, rfl, rfl, _, rfl, iteF ⟨_, rfl, 3, q, rfl, rfl, (show 2 ≤ sizeLine by decide), fun p2 hp2 => ⟨_, _, dp2i (Same.new hp2 _ _ upd_same), dp2i upd_same, by rfl, by rfl, _, rfl, ?_⟩⟩⟩
    rw [show (!PyData.eqv (.tuple [.int o, .int (3 - q)]) (.tuple [.int o, .int (3 - q)])) = false by simp [PyData.eqv, PyData.eqvAll]]
    exact iteF (k _ (M2.same (Same.new hp2)))
end
end K04

set_option maxRecDepth 100000
set_option maxHeartbeats 4000000
namespace K04
open PySem PySem.Spec PyProof.Rows L2 He VH
/-- the lambdas of _law_right, as they stand there -/
def lamOf (d : Option (Str × Nat × Int)) : Expr → LamX.LamJ
  | .Lambda p b s _ => ⟨p, b, s, d⟩
  | e => ⟨defArgs (top 0), e, defScope (top 0), d⟩
def rigList : List Expr := match (defBody sRig).getD 15 (.Pass ⟨0, 0, 0, 0⟩) with
  | .Assign _ (.List es _) _ => es
  | _ => []
def rigItem (i : Nat) : Expr := rigList.getD i (.Constant .none 0 ⟨0, 0, 0, 0⟩)
def rigApp : Expr := match (defBody sRig).getD 16 (.Pass ⟨0, 0, 0, 0⟩) with
  | .Expr (.Call _ (e :: _) _ _) _ => e
  | _ => .Constant .none 0 ⟨0, 0, 0, 0⟩
def jRig : Nat → LamX.LamJ
  | 0 => lamOf none (rigItem 0)
  | 1 => lamOf (some ("_law_of", 14, 0)) (rigItem 1)
  | 2 => lamOf (some ("_law_by", 15, 0)) (rigItem 2)
  | _ => lamOf none rigApp
section
variable {P : Program} {w : World} {K : PySem.W.Frag} {mg : Str → Option Value} {base : Heap} {f c Pt : Addr} {A : Around} {outer : List Env} {s : Shared} {H0 : Hp} {E : XK} {pn : List (Addr × Obj)} {xe : Value → Shared → Prop}
/-- what they do -/
def tRig (X : Cx) (i : Nat) (E : XK) : TE := match i with
  | 0 => tMake (ga X.K "Affine") (spInit X.K) [] E (tCons (tVar 4) (tCons (tVar 4) tNil))
  | 1 => tMake (ga X.K "Affine") (spInit X.K) [] E (tCons (tC (.int 0)) (tCons (tVar 4) tNil))
  | 2 => tMake (ga X.K "Affine") (spInit X.K) [] E (tCons (tC (.int 1)) (tCons (tVar 4) tNil))
  | _ => StX.tCallO X (ga X.K "Affine") (spCallA X.K) E (tVar 5) (tCons (tVar 4) tNil)
theorem lam_pass {X : Cx} {A : Around} {outer : List Env} {s : Shared} {H : Hp} {E : XK} {scope : Scope} {f c' : Addr} : Passes (L2.CX X.prog X.w) (LamX.lamCx X A outer s H E scope f c') E :=
  passes_call (takes_of rfl rfl rfl rfl) (fun _ _ _ _ h => h)
theorem mk0 {X : Cx} {k : Nat} {j : LamX.LamJ} {t : XK → TE} {p : Arguments} {e : Expr} {sc : Scope} (h : j = ⟨p, e, sc, none⟩) (L : LamX.LamS X.env.scope sc)
    (hb : ∀ (q : Str) (cl : List (Str × Addr)) (pm cv ctv : Value), bindArgs (PySem.W.kla_fn "<lambda>" q p e sc cl pm cv ctv) ⟨[], []⟩ = pure [])
    (d : ∀ (A : Around) (outer : List Env) (s : Shared) (H : Hp) (E : XK) (f c' : Addr), Room k (A.deeper (LamX.lamEnv X sc s.heap.objs.size f c')) → PE (LamX.lamCx X A outer s H E sc f c') e (t E)) : LamX.LamJ.Ok X k j t := by
  subst h
  exact ⟨⟨L, hb⟩, d⟩
theorem mk1 {X : Cx} {k : Nat} {j : LamX.LamJ} {t : XK → TE} {p : Arguments} {e : Expr} {sc : Scope} {q : Str} {i : Nat} {z : Int} (h : j = ⟨p, e, sc, some (q, i, z)⟩) (L : LamX.Lam1 q X.env.scope sc) (hi : X.N[i]? = some q)
    (hb : ∀ (Td : Addr) (n : Str) (cl : List (Str × Addr)) (doc pm cv ctv : Value), ∃ kk : Option (Array Value) → Sem (List (Str × Value)),
        bindArgs (PySem.W.kdv_fn "<lambda>" n p (.expr e) sc cl (.ref Td) doc pm cv ctv) ⟨[], []⟩ = seqItems? (.ref Td) >>= kk ∧ ∀ u, kk (some #[u]) = pure [(q, u)])
    (d : ∀ (A : Around) (outer : List Env) (s : Shared) (H : Hp) (E : XK) (f c' : Addr), Room k (A.deeper (LamX.lamEnv X sc s.heap.objs.size f c')) → PE (LamX.lamCx X A outer s H E sc f c') e (t E)) : LamX.LamJ.Ok X k j t := by
  subst h
  exact ⟨⟨L, hi, hb⟩, d⟩
theorem ok0 (D : Defs K mg) : LamX.LamJ.Ok (RigCx P w K mg base f (.ref c) A outer s H0 E pn xe) 4 (jRig 0) (tRig (RigCx P w K mg base f (.ref c) A outer s H0 E pn xe) 0) := by
  obtain ⟨T, ⟨fdI, FI⟩, ⟨fdN, FN⟩, _, _, ⟨fdC, FC⟩, ⟨fdA, FA⟩, _, _, _, _, _, _, _, _, _, _⟩ := D
  have GA : FnOk P w K mg base (L2.CX P w) 3 (ma K (ga K "Affine") "__init__") fdA ["self", "scale", "shift"] (spInit K) := ok_init FA T FI FN
  refine mk0 (by rfl) (show LamX.LamS (defScope sRig) _ from LamX.lamS_by (by decide +kernel)) (fun _ _ _ _ _ => rfl) (fun A outer s H E f c' hr => ?_)
  exact pe_make T.mkA GA hr (by rfl) T.mAff (bIni FA) .nil lam_pass (pa_cons (pv 4) (pa_cons (pv 4) pa_nil))
theorem ok1 (D : Defs K mg) : LamX.LamJ.Ok (RigCx P w K mg base f (.ref c) A outer s H0 E pn xe) 4 (jRig 1) (tRig (RigCx P w K mg base f (.ref c) A outer s H0 E pn xe) 1) := by
  obtain ⟨T, ⟨fdI, FI⟩, ⟨fdN, FN⟩, _, _, ⟨fdC, FC⟩, ⟨fdA, FA⟩, _, _, _, _, _, _, _, _, _, _⟩ := D
  have GA : FnOk P w K mg base (L2.CX P w) 3 (ma K (ga K "Affine") "__init__") fdA ["self", "scale", "shift"] (spInit K) := ok_init FA T FI FN
  refine mk1 (by rfl) (show LamX.Lam1 "_law_of" (defScope sRig) _ from LamX.lam1_by (by decide +kernel)) rfl (fun _ _ _ _ _ _ _ => ⟨_, rfl, fun u => rfl⟩) (fun A outer s H E f c' hr => ?_)
  exact pe_make T.mkA GA hr (by rfl) T.mAff (bIni FA) .nil lam_pass (pa_cons pe_int (pa_cons (pv 4) pa_nil))
theorem ok2 (D : Defs K mg) : LamX.LamJ.Ok (RigCx P w K mg base f (.ref c) A outer s H0 E pn xe) 4 (jRig 2) (tRig (RigCx P w K mg base f (.ref c) A outer s H0 E pn xe) 2) := by
  obtain ⟨T, ⟨fdI, FI⟩, ⟨fdN, FN⟩, _, _, ⟨fdC, FC⟩, ⟨fdA, FA⟩, _, _, _, _, _, _, _, _, _, _⟩ := D
  have GA : FnOk P w K mg base (L2.CX P w) 3 (ma K (ga K "Affine") "__init__") fdA ["self", "scale", "shift"] (spInit K) := ok_init FA T FI FN
  refine mk1 (by rfl) (show LamX.Lam1 "_law_by" (defScope sRig) _ from LamX.lam1_by (by decide +kernel)) rfl (fun _ _ _ _ _ _ _ => ⟨_, rfl, fun u => rfl⟩) (fun A outer s H E f c' hr => ?_)
  exact pe_make T.mkA GA hr (by rfl) T.mAff (bIni FA) .nil lam_pass (pa_cons pe_int (pa_cons (pv 4) pa_nil))
theorem ok3 (D : Defs K mg) : LamX.LamJ.Ok (RigCx P w K mg base f (.ref c) A outer s H0 E pn xe) 4 (jRig 3) (tRig (RigCx P w K mg base f (.ref c) A outer s H0 E pn xe) 3) := by
  obtain ⟨T, ⟨fdI, FI⟩, ⟨fdN, FN⟩, _, _, ⟨fdC, FC⟩, ⟨fdA, FA⟩, _, _, _, _, _, _, _, _, _, _⟩ := D
  have GC : FnOk P w K mg base (L2.CX P w) 3 (ma K (ga K "Affine") "__call__") fdC ["self", "value"] (spCallA K) := ok_call FC T FI FN
  refine mk0 (by rfl) (show LamX.LamS (defScope sRig) _ from LamX.lamS_by (by decide +kernel)) (fun _ _ _ _ _ => rfl) (fun A outer s H E f c' hr => ?_)
  exact StX.pe_callO (pv 5) T.callO (raw0 GC (bCal FC)) (hr.mono (by decide)) lam_pass (pa_cons (pv 4) pa_nil)
end
end K04

set_option maxRecDepth 100000
set_option maxHeartbeats 4000000
namespace K04
open PySem PySem.Spec PyProof.Rows L2 He VH
def rest5 : List Stmt := (defBody sRig).drop 19
theorem le0 {X : Cx} {e b : Expr} {j : LamX.LamJ} {p : Arguments} {sc : Scope} {pos : Pos} {k : Nat} {t : XK → TE} (h : j = ⟨p, b, sc, none⟩) (he : e = .Lambda p b sc pos) (hd : defaultsOf p X.env = ([], [])) (o : LamX.LamJ.Ok X k j t) : LamX.LamE X e j := by
  have u := o.up
  subst h he
  exact ⟨⟨_, rfl⟩, hd, u⟩
theorem le1 {X : Cx} {e b : Expr} {j : LamX.LamJ} {p : Arguments} {sc : Scope} {pos dp : Pos} {k jj i : Nat} {q : Str} {z : Int} {t : XK → TE} (h : j = ⟨p, b, sc, some (q, i, z)⟩) (he : e = .Lambda p b sc pos) (hd : p.defaults = [.Constant (.int z) jj dp]) (hk : p.kw_defaults = []) (o : LamX.LamJ.Ok X k j t) : LamX.LamE X e j := by
  have u := o.up
  subst h he
  exact ⟨⟨_, rfl⟩, ⟨_, _, hd, hk⟩, u⟩
theorem bSaid {K : PySem.W.Frag} {fd : FuncData} (F : FnSaid K fd) : Binds K fd ["_law_ask"] [] := FunD.bindsN F fun _ _ _ _ _ _ us hl => match us, hl with | [_], _ => rfl
section
variable {P : Program} {w : World} {K : PySem.W.Frag} {mg : Str → Option Value} {base : Heap} {f c Pt : Addr} {A : Around} {outer : List Env} {s : Shared} {H0 : Hp} {E : XK} {pn : List (Addr × Obj)} {xe : Value → Shared → Prop}
theorem okAll (D : Defs K mg) : ∀ j < 4, LamX.LamJ.Ok (RigCx P w K mg base f (.ref c) A outer s H0 E pn xe) 4 (jRig j) (tRig (RigCx P w K mg base f (.ref c) A outer s H0 E pn xe) j)
  | 0, _ => ok0 D
  | 1, _ => ok1 D
  | 2, _ => ok2 D
  | 3, _ => ok3 D
end
end K04

set_option maxRecDepth 100000
set_option maxHeartbeats 4000000
namespace K04
open PySem PySem.Spec PyProof.Rows L2 He VH
theorem sl0 (σ : L2.St) : (jRig 0).sl σ = σ := by rfl
theorem sl1 (σ : L2.St) : (jRig 1).sl σ = σ.set 14 (some (.int 0)) := by rfl
theorem sl2 (σ : L2.St) : (jRig 2).sl σ = σ.set 15 (some (.int 0)) := by rfl
theorem sl3 (σ : L2.St) : (jRig 3).sl σ = σ := by rfl
theorem okA_odd {H : Hp} {x y : V} (h : Odd H x) : okA x y = some "scale" := by cases h <;> rfl
theorem okA_odd1 {H : Hp} {x : V} (h : Odd H x) : okA (.int 1) x = some "shift" := by cases h <;> rfl
/-- the word that each of the four is told by -/
def word : Nat → Str
  | 0 => "scale"
  | 1 => "scale"
  | 2 => "shift"
  | _ => "value"
section
variable {K : PySem.W.Frag} {mg : Str → Option Value}
theorem same2 {H H' : Hp} {x dx : Addr} {o u : HO} (nx : H x = none) (nd : H dx = none) (s : Same (upd (upd H dx o) x u) H') : Same H H' := fun b v e =>
  s b v (by rw [upd_ne (ne_of_none e nx), upd_ne (ne_of_none e nd)]; exact e)
/-- a making that is refused, in a def that tells -/
theorem told_make (T : Txt K mg) {H : Hp} {Q : VK} {x y : V} {wd : Str} (ix : IsV K H x) (iy : IsV K H y) (e : okA x y = some wd)
    (k : ∀ (H' : Hp) (p : Addr), Same H H' → H' p = some (.tup [.str "number", .str wd]) → Q (.ref p) H') (R : VK) (vx dx : Addr) (nx : H vx = none) (nd : H dx = none) (ne : dx ≠ vx)
    (ix' : IsV K (upd (upd H dx (.own vx)) vx (.ins (ga K "Affine") dx [])) x) (iy' : IsV K (upd (upd H dx (.own vx)) vx (.ins (ga K "Affine") dx [])) y) :
    spInit K [.ref vx, x, y] (upd (upd H dx (.own vx)) vx (.ins (ga K "Affine") dx [])) R (fun cls d H' => ∀ σ' : L2.St, σ'.length = 2 → wMix K (fun _ _ _ _ => False) { nx := fun _ H' => Q V.non H', rt := Q } (clauses K) cls d σ' H') := by
  refine ⟨vx, _, dx, x, y, rfl, upd_same, T.aff, T.nSc, T.nSh, ix', iy', ?_⟩
  rw [e]
  exact told_of T (.inl ⟨rfl, rfl⟩) fun H' p _ s e' => k H' p (same2 nx nd s) e'
theorem Odd.isV {H : Hp} {x : V} (h : Odd H x) : IsV K H x := .inr h.no
end
section
variable {P : Program} {w : World} {K : PySem.W.Frag} {mg : Str → Option Value} {base : Heap} {f c Pt : Addr} {A : Around} {outer : List Env} {s : Shared} {H0 : Hp} {E : XK} {pn : List (Addr × Obj)} {xe : Value → Shared → Prop}
theorem turn (T : Txt K mg) {Tt : List (Addr × Str)} {a tu ak : Addr} {H H1 : Hp} {m b o due : Int} {odd src fr : V} (M : Mid2 K Tt a H m b o odd tu H1) {Q : VK} (j : Nat) (hj : j < 4)
    (k : ∀ (H' : Hp) (p : Addr), Same H1 H' → H' p = some (.tup [.str "number", .str (word j)]) → Q (.ref p) H') :
    LamX.TTmix K 2 (clauses K) "told" (fun E' H' Q' => tRig (RigCx P w K mg base f (.ref c) A outer s H0 E pn xe) j E' ((jRig j).sl [some (.ref a), some (.int m), some (.int b), some (.int o), some odd, some (.ref tu), some (.int due), some src, some fr, some (.ref ak), none, none, none, none, none, none]) H' Q') H1 Q := by
  have nl : ∀ {x d : Addr} {u v : HO}, H1 x = none → H1 d = none → Same H1 (upd (upd H1 d u) x v) := fun {x d u v} nx nd b' o' e => by
    rw [upd_ne (ne_of_none e nx), upd_ne (ne_of_none e nd)]
    exact e
  have od : ∀ {x d : Addr} {u v : HO}, H1 x = none → H1 d = none → Odd (upd (upd H1 d u) x v) odd := fun {x d u v} nx nd => M.one.od.bx M.one.wl (M.one.wl.same (nl nx nd)) (Bx.same (nl nx nd))
  match j, hj with
  | 0, _ =>
    rw [sl0]
    exact ⟨_, rfl, _, rfl, fun x dx nx nd ne => told_make T M.one.od.isV M.one.od.isV (okA_odd M.one.od) k _ x dx nx nd ne (od nx nd).isV (od nx nd).isV⟩
  | 1, _ =>
    rw [sl1]
    exact ⟨_, rfl, fun x dx nx nd ne => told_make T (.inl ⟨0, rfl⟩) M.one.od.isV rfl k _ x dx nx nd ne (.inl ⟨0, rfl⟩) (od nx nd).isV⟩
  | 2, _ =>
    rw [sl2]
    exact ⟨_, rfl, fun x dx nx nd ne => told_make T (.inl ⟨1, rfl⟩) M.one.od.isV (okA_odd1 M.one.od) k _ x dx nx nd ne (.inl ⟨1, rfl⟩) (od nx nd).isV⟩
  | 3, _ =>
    rw [sl3]
    obtain ⟨dx, ha⟩ := M.af
    exact ⟨_, rfl, tu, rfl, _, rfl, .inr ⟨dx, _, ha⟩, tu, m, b, _, rfl, ⟨dx, ha⟩, .inr ⟨M.one.od.no, told_of T (.inl ⟨rfl, rfl⟩) fun H' p _ s e' => k H' p s e'⟩⟩
end
end K04

set_option maxRecDepth 100000
set_option maxHeartbeats 4000000
namespace K04
open PySem PySem.Spec PyProof.Rows L2 He VH
section
variable {P : Program} {w : World} {K : PySem.W.Frag} {mg : Str → Option Value} {base : Heap} {f c Pt : Addr} {A : Around} {outer : List Env} {s : Shared} {H0 : Hp} {E : XK} {pn : List (Addr × Obj)} {xe : Value → Shared → Prop}
/-- the comprehension so far -/
structure Pv5 (K : PySem.W.Frag) (Tt : List (Addr × Str)) (X : Cx) (a tu l D : Addr) (H0 : Hp) (m b o : Int) (odd : V) (fs : List (Addr × Addr)) (i : Nat) (H : Hp) : Prop where
  mid : Mid2 K Tt a H0 m b o odd tu H
  kp : ∀ (j : Nat) (q : Addr × Addr), fs[j]? = some q → (jRig j).At X q.1 q.2 H
  hl : H l = some (.lst (fs.map fun q => .ref q.1))
  hd : H D = some (.lst ((List.range i).map fun j => .str (word j)))
  ne : D ≠ a ∧ l ≠ a ∧ D ≠ l
/-- all but tables, and lists -/
def Fx (H H' : Hp) : Prop := ∀ b o, H b = some o → (∀ ps, o ≠ .tbl ps) → (∀ xs, o ≠ .lst xs) → H' b = some o
theorem at_fx {X : Cx} {j : LamX.LamJ} {p c' : Addr} {G G' : Hp} (h : j.At X p c' G) (e : Fx G G') : j.At X p c' G' := by
  obtain ⟨params, body, scope, dflt⟩ := j
  obtain ⟨h1, h2, h3⟩ := h
  refine ⟨h1, e _ _ h2 LamX.codeO_ne (fun xs z => ?_), ?_⟩
  · unfold LamX.CodeO at z
    cases z
  match dflt, h3 with
  | none, h3 => exact h3
  | some (_, _, z), ⟨Td, doc, pm, ctv, z1, z2⟩ => exact ⟨Td, doc, pm, ctv, z1, e _ _ z2 (fun _ w => by cases w) (fun _ w => by cases w)⟩
/-- a list that is new behind G, and no Odd's, is written -/
theorem Mid2.put {Tt : List (Addr × Str)} {a tu l : Addr} {H G G' : Hp} {m b o : Int} {odd : V} {xs : List V} {u : HO} (M : Mid2 K Tt a H m b o odd tu G) (nl : G l = none) (M' : Mid2 K Tt a H m b o odd tu G') (hl : G' l = some (.lst xs)) (nx : xs ≠ [.int 1]) :
    Mid2 K Tt a H m b o odd tu (upd G' l u) ∧ l ≠ a := by
  have la : l ≠ a := fun z => by
    obtain ⟨_, _, _, w⟩ := M.one.wl
    rw [z, w] at nl
    cases nl
  have off : ∀ {q v}, G' q = some v → (∀ ys, v = .lst ys → ys ≠ xs) → upd G' l u q = some v := fun {q v} e n => by
    refine (upd_ne (fun z => ?_)).trans e
    rw [z, hl] at e
    exact n xs (Option.some.inj e).symm rfl
  have w' : Well (upd G' l u) a := by
    obtain ⟨x1, x2, x3, w⟩ := M'.one.wl
    exact ⟨x1, x2, x3, (upd_ne la.symm).trans w⟩
  refine ⟨⟨⟨M'.one.gm, M'.one.nz, M'.one.gb, M'.one.go, ?_, w', ?_, ?_⟩, ?_⟩, la⟩
  · cases M'.one.od with
    | non => exact .non
    | bl b => exact .bl b
    | str x => exact .str x
    | tup h => exact .tup (off h (fun _ z => by cases z))
    | @lst p0 a0 n w h =>
      have na : p0 ≠ a := fun z => by
        obtain ⟨_, _, _, w⟩ := M'.one.wl
        rw [z, w] at h
        cases h
      exact .lst na w' (off h (fun ys z => by cases z; exact nx.symm))
    | dct h => exact .dct (off h (fun _ z => by cases z))
  · intro p hp
    obtain ⟨ps, h1, h2, h3⟩ := M'.one.tb p hp
    refine ⟨ps, off h1 (fun _ z => by cases z), h2, fun pos cv hc => ?_⟩
    obtain ⟨c0, e1, e2⟩ := h3 pos cv hc
    exact ⟨c0, e1, off e2 (fun ys z => by unfold LamX.CodeO at z; cases z)⟩
  · intro q v n e t
    refine (upd_ne (fun z => ?_)).trans (M'.one.bx q v n e t)
    have := M.one.bx q v n e t
    rw [z, nl] at this
    cases this
  · obtain ⟨dx, ha⟩ := M'.af
    exact ⟨dx, off ha (fun _ z => by cases z)⟩
theorem rig5 (D : Defs K mg) (TB : LamX.TabB base mg c Pt) (hr : Room 6 (RigCx P w K mg base f (.ref c) A outer s H0 E pn xe).A) {u : TS} (hu : ∀ pn, PSs (RigCx P w K mg base f (.ref c) A outer s H0 E pn xe) rest5 u) :
    ∃ t, PSs (RigCx P w K mg base f (.ref c) A outer s H0 E pn xe) rest4 t ∧ ∀ (En : Ends) (a tu : Addr) (H H1 : Hp) (m b o due : Int) (odd src fr : V), Mid2 K (Tt4 Pt) a H m b o odd tu H1 →
      (∀ (ak tl : Addr) (H' : Hp), Mid2 K (Tt4 Pt) a H m b o odd tu H' → u En [some (.ref a), some (.int m), some (.int b), some (.int o), some odd, some (.ref tu), some (.int due), some src, some fr, some (.ref ak), some (.ref tl), none, none, none, none, none] H') →
      t En [some (.ref a), some (.int m), some (.int b), some (.int o), some odd, some (.ref tu), some (.int due), some src, some fr, none, none, none, none, none, none, none] H1 := by
  have DD := D
  obtain ⟨T, _, _, _, _, _, _, _, _, _, _, _, ⟨fdY, FY⟩, _, _, _, mY⟩ := DD
  have FYk := FY.kp
  have b0 := bSaid FY
  obtain ⟨oc, od, dV, kV, doc, pm, an, cdv, ct, osl, rfl, lk, hcd, _, _⟩ := FY.ex
  refine ⟨_, LamX.pss_lams (X := RigCx P w K mg base f (.ref c) A outer s H0 E pn xe) (T := Tt4 Pt) (i := 9) (js := [jRig 0, jRig 1, jRig 2])
    (.cons (le0 (by rfl) (by rfl) (by rfl) (ok0 D)) (.cons (le1 (by rfl) (by rfl) (by rfl) (by rfl) (ok1 D)) (.cons (le1 (by rfl) (by rfl) (by rfl) (by rfl) (ok2 D)) .nil)))
    TB rfl (List.mem_singleton.mpr rfl) (hu4 rfl) scRig.nd rfl (Or.inl rfl) (by decide) (fun pn1 =>
      LamX.pss_lamApp (X := RigCx P w K mg base f (.ref c) A outer s H0 E pn1 xe) (T := Tt4 Pt) (j := jRig 3) (i := 9) (le0 (by rfl) (by rfl) (by rfl) (ok3 D)) TB rfl (List.mem_singleton.mpr rfl) (hu4 rfl) rfl (.inl rfl) (fun pn2 =>
        pss_cons (LamX.ps_setLcH (X := RigCx P w K mg base f (.ref c) A outer s H0 E pn2 xe) (own := [("_law_ask", 12)]) (i := 10)
            (te := fun σ => tOp (rIxT K) (LamX.tPinH (RigCx P w K mg base f (.ref c) A outer s H0 E pn2 xe) jRig 4 (tRig (RigCx P w K mg base f (.ref c) A outer s H0 E pn2 xe)) (LamX.TTmix K 2 (clauses K) "told") (tVar 12) σ) (tC (.int 1))) rfl scRig.nd rfl rfl (sw_true rfl rfl rfl (by rfl)) (pi_list (pv 9)) (blkOk_by (N := nRig) (sc := defScope sRig) (by decide +kernel))
            (fun _ _ _ _ _ => pg_name (i := 12) scRig.nd rfl (Or.inl rfl))
            (fun s' H' C cl fp pins σ home => pe_ix ix_tup (LamX.pe_pinH home scRig.nd (by rfl) mY FYk lk hcd b0 scSaid rfl (Or.inl rfl) (gives T) hr (pv 12) (okAll (pn := pn2) D)) pe_int (fun _ _ => rfl)))
          (pss_cons (ps_if (pt_cmpR (op_neD hr.units) (pv 10) (pe_lst (pa_cons pe_str (pa_cons pe_str (pa_cons pe_str (pa_cons pe_str pa_nil))))) (nomark _)) (pss_one (ps_ret pe_bl)) pss_nil)
          (hu pn2)))), fun En a tu H H1 m b o due odd src fr M k => ?_⟩
  have M0 := M
  refine ⟨M.one.tb, fun pn1 fs H2 sub1 ex1 t1 hk l nl => ?_⟩
  have M1 := M.ext ex1 t1
  have S1 := Same.new (o := .lst (fs.map fun p => V.ref p.1)) nl
  have M2 := M1.same S1
  refine ⟨l, _, rfl, upd_same, ?_, M2.one.tb, fun pn2 f3 c3 H3 sub2 ex2 t2 in3 => ?_⟩
  · have := LamX.All2.len hk
    rw [List.length_map, this]
    decide
  have M3 := M2.ext ex2 t2
  match fs, hk with
  | [q0, q1, q2], .cons k0 (.cons k1 (.cons k2 .nil)) =>
  have hl3 : H3 l = some (.lst [.ref q0.1, .ref q1.1, .ref q2.1]) := ex2 _ _ upd_same (fun _ z => by cases z)
  obtain ⟨M4, la⟩ := M1.put (u := .lst (List.map (fun p => V.ref p.1) [q0, q1, q2] ++ [V.ref f3])) nl M3 hl3 (by simp)
  have fx3 : Fx H3 (upd H3 l (.lst (List.map (fun p => V.ref p.1) [q0, q1, q2] ++ [V.ref f3]))) := fun q v e _ n => (upd_ne (fun z => by rw [z, hl3] at e; exact n _ (Option.some.inj e).symm)).trans e
  have ex13 : LamX.ExtN H2 H3 := (LamX.ExtN.of fun b' o' e => S1 b' o' e).trans ex2
  have A0 : (jRig 0).At (RigCx P w K mg base f (.ref c) A outer s H0 E pn2 xe) q0.1 q0.2 _ := at_fx (X := RigCx P w K mg base f (.ref c) A outer s H0 E pn2 xe) (k0.mono sub2 ex13) fx3
  have A1 : (jRig 1).At (RigCx P w K mg base f (.ref c) A outer s H0 E pn2 xe) q1.1 q1.2 _ := at_fx (X := RigCx P w K mg base f (.ref c) A outer s H0 E pn2 xe) (k1.mono sub2 ex13) fx3
  have A2 : (jRig 2).At (RigCx P w K mg base f (.ref c) A outer s H0 E pn2 xe) q2.1 q2.2 _ := at_fx (X := RigCx P w K mg base f (.ref c) A outer s H0 E pn2 xe) (k2.mono sub2 ex13) fx3
  have A3 : (jRig 3).At (RigCx P w K mg base f (.ref c) A outer s H0 E pn2 xe) f3 c3 _ := at_fx (X := RigCx P w K mg base f (.ref c) A outer s H0 E pn2 xe) in3 fx3
  have hl4 : upd H3 l (.lst (List.map (fun p => V.ref p.1) [q0, q1, q2] ++ [V.ref f3])) l = some (.lst [.ref q0.1, .ref q1.1, .ref q2.1, .ref f3]) := upd_same
  clear fx3 hl3 ex13 k0 k1 k2 in3 ex2
  generalize upd H3 l (.lst (List.map (fun p => V.ref p.1) [q0, q1, q2] ++ [V.ref f3])) = H4 at *
  refine ⟨_, rfl, l, rfl, ⟨_, SqL.of hl4⟩, fun Dl nD => ?_⟩
  have S4 := Same.new (o := .lst []) nD
  refine lc_list (K := K) (xs := [.ref q0.1, .ref q1.1, .ref q2.1, .ref f3]) (fun i G => Pv5 K (Tt4 Pt) (RigCx P w K mg base f (.ref c) A outer s H0 E pn2 xe) a tu l Dl H m b o odd [q0, q1, q2, (f3, c3)] i G) ?_ (fun i G _ p => SqL.of p.hl) (fun i x G hx p => ?_) (fun G p => ?_)
  · refine ⟨M4.same S4, fun j q hq => ?_, S4 _ _ hl4, upd_same, ?_, la, ?_⟩
    · have fx : Fx H4 (upd H4 Dl (.lst [])) := fun q v e _ _ => S4 _ _ e
      match j, hq with
      | 0, hq => cases hq; exact at_fx A0 fx
      | 1, hq => cases hq; exact at_fx A1 fx
      | 2, hq => cases hq; exact at_fx A2 fx
      | 3, hq => cases hq; exact at_fx A3 fx
    · intro z
      obtain ⟨_, _, _, w⟩ := M4.one.wl
      rw [z, w] at nD
      cases nD
    · intro z
      rw [z, hl4] at nD
      cases nD
  · have key : ∃ q, ([q0, q1, q2, (f3, c3)] : List (Addr × Addr))[i]? = some q ∧ x = .ref q.1 ∧ i < 4 := by
      match i, hx with
      | 0, hx => cases hx; exact ⟨_, rfl, rfl, by decide⟩
      | 1, hx => cases hx; exact ⟨_, rfl, rfl, by decide⟩
      | 2, hx => cases hx; exact ⟨_, rfl, rfl, by decide⟩
      | 3, hx => cases hx; exact ⟨_, rfl, rfl, by decide⟩
    obtain ⟨q, hq, rfl, lt⟩ := key
    refine ⟨rfl, ?_⟩
    refine ⟨_, rfl, i, q.1, q.2, lt, rfl, p.kp i q hq, turn T p.mid i lt fun G1 r S e => ?_⟩
    have hD := S _ _ p.hd
    refine ⟨_, _, _, _, rfl, rfl, SqT.of e, rfl, _, hD, ?_, ?_⟩
    · rw [List.length_map, List.length_range]
      exact Nat.lt_of_lt_of_le lt (by decide)
    refine ⟨(M4.put nD (p.mid.same S) hD (fun z => ?_)).1, fun j q' hq' => at_fx (p.kp j q' hq') (fun q v e _ n => ?_), ?_, ?_, p.ne⟩
    · have : V.int 1 ∈ (List.range i).map fun j => V.str (word j) := by rw [z]; exact List.mem_singleton.mpr rfl
      obtain ⟨_, _, z2⟩ := List.mem_map.mp this
      cases z2
    · exact (upd_ne (fun z => by rw [z, p.hd] at e; exact n _ (Option.some.inj e).symm)).trans (S _ _ e)
    · exact (upd_ne p.ne.2.2.symm).trans (S _ _ p.hl)
    · rw [List.range_succ, List.map_append]
      exact upd_same
  · refine ⟨_, rfl, (show 4 ≤ sizeLine by decide), fun r nr => ?_⟩
    have S := Same.new (o := .lst [.str "scale", .str "scale", .str "shift", .str "value"]) nr
    have all : ∀ G' : Hp, DpAll K G' [.str "scale", .str "scale", .str "shift", .str "value"] [.str "scale", .str "scale", .str "shift", .str "value"] := fun _ => .cons (.str _) (.cons (.str _) (.cons (.str _) (.cons (.str _) .nil)))
    have hD : G Dl = some (.lst [.str "scale", .str "scale", .str "shift", .str "value"]) := p.hd
    refine ⟨_, _, .lst (SqL.of (S _ _ hD)) (all _), .lst (SqL.of upd_same) (all _), by decide +kernel, by decide +kernel, _, rfl, ?_⟩
    rw [show (!PyData.eqv (.list [.str "scale", .str "scale", .str "shift", .str "value"]) (.list [.str "scale", .str "scale", .str "shift", .str "value"])) = false by simp [PyData.eqv, PyData.eqvAll]]
    exact iteF (k l Dl _ (p.mid.same S))
end
end K04

set_option maxRecDepth 100000
set_option maxHeartbeats 4000000
namespace K04
open PySem PySem.Spec PyProof.Rows L2 He VH
theorem bSaid' {K : PySem.W.Frag} {fd : FuncData} (F : FnSaid K fd) : Binds K fd ["_law_ask"] [] := FunD.bindsN F fun _ _ _ _ _ _ us hl => match us, hl with | [_], _ => rfl
theorem lam_pass' {X : Cx} {A : Around} {outer : List Env} {s : Shared} {H : Hp} {E : XK} {scope : Scope} {f c' : Addr} : Passes (L2.CX X.prog X.w) (LamX.lamCx X A outer s H E scope f c') E :=
  passes_call (takes_of rfl rfl rfl rfl) (fun _ _ _ _ h => h)
/-- None, or no row -/
def Bad (K : PySem.W.Frag) (H : Hp) (x : V) : Prop := x = .non ∨ (RowV K H x false ∧ x ≠ .non)
theorem Odd.bad {K : PySem.W.Frag} {H : Hp} {x : V} (h : Odd H x) : Bad K H x := by
  cases h with
  | non => exact .inl rfl
  | bl b => exact .inr ⟨.no (.base (.bl b)) (kit_ty (by decide +kernel)), by simp⟩
  | str x => exact .inr ⟨.no (.base (.str x)) (kit_ty (by decide +kernel)), by simp⟩
  | tup h => exact .inr ⟨.len h (by decide), by simp⟩
  | lst n w h => exact .inr ⟨.no (.base (.lst h)) (kit_ty (by decide +kernel)), by simp⟩
  | dct h => exact .inr ⟨.no (.base (.dK h)) (kit_ty (by decide +kernel)), by simp⟩
/-- what is drawn as no row -/
inductive Bd (H : Hp) : V → Prop
  | odd {x : V} (h : Odd H x) : Bd H x
  | len {p : Addr} {xs : List V} (h : H p = some (.tup xs)) (n : xs.length ≠ 2) : Bd H (.ref p)
  | olb {p : Addr} {b : Bool} {y : V} (h : H p = some (.tup [.bl b, y])) : Bd H (.ref p)
  | ols {p : Addr} {b : Str} {y : V} (h : H p = some (.tup [.str b, y])) : Bd H (.ref p)
  | src {p : Addr} {i : Int} {b : Bool} (h : H p = some (.tup [.int i, .bl b])) : Bd H (.ref p)
theorem Bd.bad {K : PySem.W.Frag} {H : Hp} {x : V} (h : Bd H x) : Bad K H x := by
  cases h with
  | odd h => exact h.bad
  | len h n => exact .inr ⟨.len h n, by simp⟩
  | olb h => exact .inr ⟨.old h .bl, by simp⟩
  | ols h => exact .inr ⟨.old h .str, by simp⟩
  | src h => exact .inr ⟨.src h (by simp) .bl, by simp⟩
theorem Bd.bx {a : Addr} {H H' : Hp} {x : V} (h : Bd H x) (w : Well H a) (w' : Well H' a) (b : Bx a H H') : Bd H' x := by
  have t : ∀ {p xs}, H p = some (.tup xs) → H' p = some (.tup xs) := fun h => b.at w h (fun _ z => by cases z) (fun _ z => by cases z)
  cases h with
  | odd h => exact .odd (h.bx w w' b)
  | len h n => exact .len (t h) n
  | olb h => exact .olb (t h)
  | ols h => exact .ols (t h)
  | src h => exact .src (t h)
section
variable {P : Program} {w : World} {K : PySem.W.Frag} {mg : Str → Option Value} {base : Heap} {f c Pt : Addr} {A : Around} {outer : List Env} {s : Shared} {H0 : Hp} {E : XK} {pn : List (Addr × Obj)} {xe : Value → Shared → Prop}
theorem rig6 (D : Defs K mg) (TB : LamX.TabB base mg c Pt) (hr : Room 6 (RigCx P w K mg base f (.ref c) A outer s H0 E pn xe).A) :
    ∃ t, (∀ pn, PSs (RigCx P w K mg base f (.ref c) A outer s H0 E pn xe) ((defBody sRig).drop 19) t) ∧ ∀ (En : Ends) (a tu ak tl : Addr) (H H1 : Hp) (m b o due : Int) (odd src fr : V), Mid2 K (Tt4 Pt) a H m b o odd tu H1 →
      (∀ (H' : Hp), Mid2 K (Tt4 Pt) a H m b o odd tu H' → En.rt (.bl true) H') →
      t En [some (.ref a), some (.int m), some (.int b), some (.int o), some odd, some (.ref tu), some (.int due), some src, some fr, some (.ref ak), some (.ref tl), none, none, none, none, none] H1 := by
  obtain ⟨T, ⟨fdI, FI⟩, ⟨fdN, FN⟩, ⟨fdR, FR⟩, ⟨fdS, FS⟩, ⟨fdC, FC⟩, _, _, ⟨fdH, FH⟩, _, ⟨fdO, FO⟩, ⟨fdD, FD⟩, ⟨fdY, FY⟩, _, mO, mD, mY⟩ := D
  have GO : FnOk P w K mg base CX0 2 (ga K "_law_one") fdO ["_law_well_here", "_law_some"] (spOne K) := ok_one FO FD mD T.gI T.gL
  have GH : FnOk P w K mg base (L2.CX P w) 4 (ga K "shown") fdH ["row", "convert"] (spShoA K) := ok_shoA FH T FI FN FR FS FC
  have FYk := FY.kp
  have b0 := bSaid' FY
  obtain ⟨oc, od, dV, kV, doc, pm, an, cdv, ct, osl, rfl, lk, hcd, _, _⟩ := FY.ex
  refine ⟨_, fun pn => pss_cons (ps_set (X := RigCx P w K mg base f (.ref c) A outer s H0 E pn xe) (i := 11) scRig.nd rfl (Or.inr rfl) (pe_call GO (hr.mono (by decide)) (by rfl) mO FO.kp (bOne FO) .nil pass0 (pa_cons (pv 0) (pa_cons (pe_lst
      (pa_cons (pv 4) (pa_cons (pe_tup (pa_cons pe_int pa_nil)) (pa_cons (pe_tup (pa_cons pe_int (pa_cons pe_int (pa_cons pe_int pa_nil)))) (pa_cons (pe_lst (pa_cons pe_int (pa_cons pe_int pa_nil)))
      (pa_cons (pe_tup (pa_cons pe_bl (pa_cons pe_int pa_nil))) (pa_cons (pe_tup (pa_cons pe_int (pa_cons pe_bl pa_nil))) (pa_cons (pe_tup (pa_cons pe_str (pa_cons pe_non pa_nil))) pa_nil)))))))) pa_nil))))
    (pss_one (ps_ret (pe_or (pe_cmpR op_isN (pv 11) pe_non (nomark _)) (pe_one (pe_cmpR (show OpR (RigCx P w K mg base f (.ref c) A outer s H0 E pn xe) _ (rEqD K) from op_eqD hr.units)
      (LamX.pe_lamcall (X := RigCx P w K mg base f (.ref c) A outer s H0 E pn xe) (T := Tt4 Pt) (TT := LamX.TTmix K 2 (clauses K) "told") (k := 4) (t := fun E => tCall (spShoA K) [] E (tCons (tVar 11) (tCons (tVar 5) tNil))) (by rfl) mY FYk lk hcd b0 scSaid rfl (Or.inl rfl) (gives (X := RigCx P w K mg base f (.ref c) A outer s H0 E pn xe) T) TB rfl (List.mem_singleton.mpr rfl) (hu4 rfl) hr
        (show LamX.LamS (defScope sRig) _ from LamX.lamS_by (by decide +kernel)) rfl (fun _ _ _ _ _ => rfl)
        (fun A outer s H E f c' hr => pe_call GH hr (by rfl) T.mSho FH.kp (bSho FH) .nil lam_pass' (pa_cons (pv 11) (pa_cons (pv 5) pa_nil))))
      (pe_tup (pa_cons pe_str (pa_cons pe_str pa_nil))) (nomark _)))))), fun En a tu ak tl H H1 m b o due odd src fr M k => ?_⟩
  refine ⟨_, rfl, _, rfl, (show 1 ≤ sizeLine by decide), fun t1 n1 => ⟨(show 3 ≤ sizeLine by decide), fun t2 n2 => ⟨(show 2 ≤ sizeLine by decide), fun t3 n3 => ⟨(show 2 ≤ sizeLine by decide), fun t4 n4 => ⟨(show 2 ≤ sizeLine by decide), fun t5 n5 => ⟨(show 2 ≤ sizeLine by decide), fun t6 n6 => ⟨(show 7 ≤ sizeLine by decide), fun L nL => ?_⟩⟩⟩⟩⟩⟩⟩
  have S1 := Same.new (o := .tup [.int 1]) n1
  have S2 := Same.new (o := .tup [.int 1, .int 2, .int 3]) n2
  have S3 := Same.new (o := .lst [.int 1, .int 2]) n3
  have S4 := Same.new (o := .tup [.bl true, .int 1]) n4
  have S5 := Same.new (o := .tup [.int 1, .bl false]) n5
  have S6 := Same.new (o := .tup [.str "1", .non]) n6
  have S7 := Same.new (o := .lst [odd, .ref t1, .ref t2, .ref t3, .ref t4, .ref t5, .ref t6]) nL
  have S := (((((S1.trans S2).trans S3).trans S4).trans S5).trans S6)
  have ML := M.same (S.trans S7)
  have wl := ML.one.wl
  have e1 := S7 _ _ (S6 _ _ (S5 _ _ (S4 _ _ (S3 _ _ (S2 _ _ (upd_same (H := H1) (a := t1) (o := .tup [.int 1])))))))
  have e2 := S7 _ _ (S6 _ _ (S5 _ _ (S4 _ _ (S3 _ _ (upd_same (a := t2) (o := .tup [.int 1, .int 2, .int 3]))))))
  have e3 := S7 _ _ (S6 _ _ (S5 _ _ (S4 _ _ (upd_same (a := t3) (o := .lst [.int 1, .int 2])))))
  have e4 := S7 _ _ (S6 _ _ (S5 _ _ (upd_same (a := t4) (o := .tup [.bl true, .int 1]))))
  have e5 := S7 _ _ (S6 _ _ (upd_same (a := t5) (o := .tup [.int 1, .bl false])))
  have e6 := S7 _ _ (upd_same (a := t6) (o := .tup [.str "1", .non]))
  have La : L ≠ a := by
    obtain ⟨_, _, _, w⟩ := (M.same S).one.wl
    exact (ne_of_none w nL).symm
  have ta : t3 ≠ a := by
    obtain ⟨_, _, _, w⟩ := (M.same (S1.trans S2)).one.wl
    exact (ne_of_none w n3).symm
  clear S1 S2 S3 S4 S5 S6 S7
  refine ⟨a, L, _, rfl, wl, La, upd_same, (show 0 < 7 by decide), (show 7 < 1073741824 by decide), fun H5 x hx w5 b5 => ?_⟩
  have M5 : Mid2 K (Tt4 Pt) a H m b o odd tu H5 := ⟨ML.one.step w5 b5, ML.af.bx wl (Bx.but b5)⟩
  have bt : ∀ {p xs}, _ = some (HO.tup xs) → H5 p = some (.tup xs) := fun {p xs} h => (Bx.but b5).at (b := p) wl h (fun _ z => by cases z) (fun _ z => by cases z)
  have bad : Bd H5 x ∨ (RowV K H5 x false ∧ x ≠ .non ∧ ∃ p, x = .ref p ∧ p ≠ a ∧ H5 p = some (.lst [.int 1, .int 2])) := by
    simp only [List.mem_cons, List.not_mem_nil, or_false] at hx
    rcases hx with h | h | h | h | h | h | h <;> subst h
    · exact .inl (.odd M5.one.od)
    · exact .inl (.len (bt e1) (by decide))
    · exact .inl (.len (bt e2) (by decide))
    · exact .inr ⟨.no (.base (.lst (b5 _ _ ta e3))) (kit_ty (by decide +kernel)), by simp, t3, rfl, ta, b5 _ _ ta e3⟩
    · exact .inl (.olb (bt e4))
    · exact .inl (.src (bt e5))
    · exact .inl (.ols (bt e6))
  clear hx e1 e2 e3 e4 e5 e6 bt ML S
  have fin : ∀ {H6 : Hp}, LamX.ExtN H5 H6 → LamX.Tabs (Tt4 Pt) H6 → x = .non ∨ RowV K H6 x false := fun {H6} ex t6 => by
    have M6 := M5.ext ex t6
    rcases bad with h | ⟨_, _, p, rfl, na, h⟩
    · exact ((h.bx w5 M6.one.wl (Bx.ext ex)).bad (K := K)).imp id (·.1)
    · exact .inr (.no (.base (.lst (ex _ _ h (fun _ z => by cases z)))) (kit_ty (by decide +kernel)))
  refine ⟨_, rfl, rfl, _, rfl, ?_⟩
  by_cases nn : x = .non
  · subst nn
    exact iteT (k H5 M5)
  · rw [decide_eq_false nn]
    refine iteF ⟨M5.one.tb, fun H6 ex t6 => ?_⟩
    have M6 := M5.ext ex t6
    refine ⟨_, rfl, _, rfl, _, _, rfl, .inr (.inl ⟨(fin ex t6).resolve_left nn, nn, told_of T (.inr ⟨rfl, rfl⟩) fun H7 p _ S7 e7 => ?_⟩)⟩
    refine ⟨(show 2 ≤ sizeLine by decide), fun r nr => ⟨_, _, dpT ((Same.new nr) _ _ e7) (.cons (.str _) (.cons (.str _) .nil)), dpT upd_same (.cons (.str _) (.cons (.str _) .nil)), by decide +kernel, by decide +kernel, ?_⟩⟩
    rw [show PyData.eqv (.tuple [.str "row", .str "row"]) (.tuple [.str "row", .str "row"]) = true by simp [PyData.eqv, PyData.eqvAll]]
    exact k _ ((M6.same S7).same (Same.new nr))
end
end K04

set_option maxRecDepth 100000
set_option maxHeartbeats 4000000
namespace K04
open PySem PySem.Spec PyProof.Rows L2 He VH
/-- a def whose code object is known -/
theorem okC {P : Program} {w : World} {K : PySem.W.Frag} {mg : Str → Option Value} {base : Heap} {x qual : Str} {params : Arguments} {body : List Stmt} {scope : Scope} {dvs : List V} {kws : List (Str × V)} {p : He.Defn} {c : Addr} {fd : FuncData} {CX : CXT} {N ps : List Str} {k : Nat} {sp : Sp}
    (F : FunD K x qual params body scope dvs kws (He.fAd K p) fd) (hc : He.codeOf K p = c) (S : FnScope N ps scope) (len : ∀ vs H Q E, sp vs H Q E → vs.length = ps.length)
    (hbody : ∀ (A : Around) (outer : List Env) (s : Shared) (H : Hp) (vs : List V) (Q : VK) (E : XK), Room k (A.deeper (envOfC qual scope s.heap.objs.size (He.fAd K p) (.ref c))) → sp vs H Q E →
      ∃ t, PSs (cxOf CX P w K mg base N qual scope (He.fAd K p) (.ref c) A outer s H E) body t ∧ t { nx := fun _ H' => Q .non H', rt := Q } (L2.start N vs) H) : FnOk P w K mg base CX (k + 1) (He.fAd K p) fd ps sp := by
  obtain ⟨oc, od, dV, kV, doc, pm, an, cdv, ct, osl, rfl, lk, hcd, _, _⟩ := F.ex
  obtain ⟨c1, rfl⟩ := He.codeIn_ref hcd
  have e : He.codeOf K p = c1 := He.codeOf_eq lk rfl
  obtain rfl : c1 = c := e.symm.trans hc
  exact fn_of lk hcd S len fun A outer s H vs Q E hr hsp => hbody A outer s H vs Q E hr hsp
def spRig (Pt : Addr) : Sp := fun vs H Q _ => ∃ a : Addr, vs = [.ref a] ∧ Well H a ∧ LamX.Tabs (Tt4 Pt) H ∧ ∀ H' : Hp, Well H' a → LamX.Tabs (Tt4 Pt) H' → Bx a H H' → Q (.bl true) H'
abbrev FnRig (K : PySem.W.Frag) (fd : FuncData) : Prop := FnP K "_law_right" sRig (He.fAd K ("_law_right", none)) fd
section
variable {P : Program} {w : World} {K : PySem.W.Frag} {mg : Str → Option Value} {base : Heap} {f c Pt : Addr} {fd : FuncData}
theorem ok_rig (D : Defs K mg) (F : FnRig K fd) (hc : He.codeOf K ("_law_right", none) = c) (TB : LamX.TabB base mg c Pt) : FnOk P w K mg base CX0 7 (He.fAd K ("_law_right", none)) fd ["_law_well_here"] (spRig Pt) := by
  refine okC F hc scRig (fun vs H Q E h => ?_) (fun A outer s H vs Q E hr h => ?_)
  · obtain ⟨a, rfl, _⟩ := h
    rfl
  obtain ⟨a, rfl, wl, tb, k⟩ := h
  obtain ⟨t6, p6, r6⟩ := rig6 (P := P) (w := w) (f := He.fAd K ("_law_right", none)) (A := A) (outer := outer) (s := s) (H0 := H) (E := E) (xe := fun _ _ => False) (pn := []) D TB hr
  obtain ⟨t5, p5, r5⟩ := rig5 (P := P) (w := w) (f := He.fAd K ("_law_right", none)) (A := A) (outer := outer) (s := s) (H0 := H) (E := E) (xe := fun _ _ => False) (pn := []) D TB hr (u := t6) p6
  obtain ⟨t4, p4, r4⟩ := rig4 D TB hr p5
  obtain ⟨t3, p3, r3⟩ := rig3 D hr p4
  obtain ⟨t2, p2, r2⟩ := rig2 D hr p3
  obtain ⟨t1, p1, r1⟩ := rig1 D hr p2
  refine ⟨t1, PSs.nox p1, ?_⟩
  refine r1 _ _ a H wl tb fun m b o odd H1 M1 => ?_
  refine r2 _ _ a H H1 m b o odd M1 fun tu H2 M2 => ?_
  refine r3 _ _ a tu H H2 m b o _ odd M2 fun src fr H3 hs M3 => ?_
  refine r4 _ a tu H H3 m b o _ odd src fr hs M3 fun H4 M4 => ?_
  refine r5 _ a tu H H4 m b o _ odd src fr M4 fun ak tl H5 M5 => ?_
  refine r6 _ a tu ak tl H H5 m b o _ odd src fr M5 fun H6 M6 => ?_
  exact k H6 M6.one.wl M6.one.tb M6.one.bx
end
end K04

set_option maxRecDepth 100000
set_option maxHeartbeats 4000000
namespace K04
open PySem PySem.Spec PyProof.Rows L2 He VH
abbrev sLaw : Stmt := top 17
abbrev nLaw : List Str := ["_law_script", "_law_k", "_law_well_here", "_law_turn"]
theorem scLaw : FnScope nLaw ["_law_script"] (defScope sLaw) := ⟨rfl, rfl, rfl, by decide +kernel, rfl, by decide +kernel, by decide +kernel⟩
def spLaw (K : PySem.W.Frag) (Pt : Addr) : Sp := fun vs H Q _ => ∃ (a : Addr) (ns : List Int), vs = [.ref a] ∧ SqL K H a (ns.map V.int) ∧ ns.length ≤ 63 ∧ LamX.Tabs (Tt4 Pt) H ∧ ∀ H', Q (.bl true) H'
/-- the script's list, whatever becomes of what is at p -/
def Sq (K : PySem.W.Frag) (a p : Addr) (xs : List V) (H : Hp) : Prop := SqL K H a xs ∧ (a ≠ p ∨ ∀ G, SqL K G a xs)
theorem sq_new {K : PySem.W.Frag} {a p : Addr} {H H' : Hp} {xs : List V} (h : SqL K H a xs) (n : H p = none) (s : Same H H') : Sq K a p xs H' := by
  rcases h with (h | ⟨o, h⟩) | h
  · exact ⟨.inl (.inl (s _ _ h)), .inl (ne_of_none h n)⟩
  · exact ⟨.inl (.inr ⟨o, s _ _ h⟩), .inl (ne_of_none h n)⟩
  · exact ⟨.inr h, .inr fun _ => .inr h⟩
theorem sq_bx {K : PySem.W.Frag} {a p : Addr} {H H' : Hp} {xs : List V} (h : Sq K a p xs H) (b : Bx p H H') : Sq K a p xs H' := by
  obtain ⟨h, d⟩ := h
  rcases d with d | d
  · refine ⟨?_, .inl d⟩
    rcases h with (h | ⟨o, h⟩) | h
    · exact .inl (.inl (b _ _ d h (fun _ z => by cases z)))
    · exact .inl (.inr ⟨o, b _ _ d h (fun _ z => by cases z)⟩)
    · exact .inr h
  · exact ⟨d _, .inr d⟩
theorem tabs_same {Tt : List (Addr × Str)} {H H' : Hp} (t : LamX.Tabs Tt H) (s : Same H H') : LamX.Tabs Tt H' := t.ext s
abbrev FnWell (K : PySem.W.Frag) (fd : FuncData) : Prop := FnP K "_law_well" sWell (ga K "_law_well") fd
section
variable {P : Program} {w : World} {K : PySem.W.Frag} {mg : Str → Option Value} {base : Heap} {f c Pt : Addr} {fd fdR fdW : FuncData}
theorem ok_law (F : FnP K "law" sLaw f fd) (D : Defs K mg) (FR : FnRig K fdR) (FW : FnWell K fdW) (hc : He.codeOf K ("_law_right", none) = c) (TB : LamX.TabB base mg c Pt)
    (mR : mg "_law_right" = some (.ref (He.fAd K ("_law_right", none)))) (mW : mg "_law_well" = some (.ref (ga K "_law_well"))) : FnOk P w K mg base CX0 8 f fd ["_law_script"] (spLaw K Pt) := by
  have GR : FnOk P w K mg base CX0 7 (He.fAd K ("_law_right", none)) fdR ["_law_well_here"] (spRig Pt) := ok_rig D FR hc TB
  obtain ⟨T, ⟨fdI, FI⟩, ⟨fdN, FN⟩, ⟨fdO, FO⟩, ⟨fdS, FS⟩, ⟨fdC, FC⟩, ⟨fdA, FA⟩, ⟨fdE, FE⟩, ⟨fdH, FH⟩, _, _, _, _, _, _, _, _⟩ := D
  have GW : FnOk P w K mg base CX0 1 (ga K "_law_well") fdW ["_law_script", "_law_at"] (spWell K) := ok_well FW T.gI
  have GA : FnOk P w K mg base (L2.CX P w) 3 (ma K (ga K "Affine") "__init__") fdA ["self", "scale", "shift"] (spInit K) := ok_init FA T FI FN
  have GH : FnOk P w K mg base (L2.CX P w) 4 (ga K "shown") fdH ["row", "convert"] (spShoA K) := ok_shoA FH T FI FN FO FS FC
  have bR : Binds K fdR ["_law_well_here"] [] := FunD.bindsN FR fun _ _ _ _ _ _ us hl => match us, hl with | [_], _ => rfl
  have bW : Binds K fdW ["_law_script", "_law_at"] [] := FunD.bindsN FW fun _ _ _ _ _ _ us hl => match us, hl with | [_, _], _ => rfl
  refine F.ok scLaw (fun vs H Q E h => ?_) (fun cdv A outer s H vs Q E hr h => ?_)
  · obtain ⟨a, ns, rfl, _⟩ := h
    rfl
  have r4 : Room 4 _ := hr.mono (by decide)
  refine ⟨_, PSs.nox (pss_cons (ps_for PassesOwn.never rfl (pi_range1 (by rfl) T.gR (pa_cons (pe_op op_add (pe_callB call_len_seq (by rfl) T.gL boot_len (pa_cons (pv 0) pa_nil)) pe_int) pa_nil)) (pg_name (i := 1) scLaw.nd rfl (Or.inl rfl))
      (pss_cons (ps_set (i := 2) scLaw.nd rfl (Or.inl rfl) (pe_call GW (hr.mono (by decide)) (by rfl) mW FW.kp bW .nil pass0 (pa_cons (pv 0) (pa_cons (pv 1) pa_nil))))
      (pss_one (ps_for PassesOwn.never rfl (pi_range1 (by rfl) T.gR (pa_cons pe_int pa_nil)) (pg_name (i := 3) scLaw.nd rfl (Or.inl rfl))
        (pss_one (ps_if (pt_not (pt_val (pe_call GR hr (by rfl) mR FR.kp bR .nil pass0 (pa_cons (pv 2) pa_nil)))) (pss_one (ps_ret pe_bl)) pss_nil))))))
    (pss_one (ps_ret (pe_and (pe_cmpR (op_eqD hr.units) (pe_call GH r4 (by rfl) T.mSho FH.kp (bSho FH) .nil passN (pa_cons (pe_tup (pa_cons pe_int (pa_cons pe_int pa_nil))) (pa_cons (pe_make T.mkA GA r4 (by rfl) T.mAff (bIni FA) .nil passN (pa_cons pe_int (pa_cons pe_int pa_nil))) pa_nil)))
        (pe_tup (pa_cons pe_int (pa_cons pe_int pa_nil))) (nomark _))
      (pe_one (pe_cmpR op_is_bl (pe_cmpR (op_eqAff T FE (hr.mono (by decide))) (pe_make T.mkA GA r4 (by rfl) T.mAff (bIni FA) .nil passN (pa_cons pe_int (pa_cons pe_int pa_nil))) (pe_tup (pa_cons pe_int (pa_cons pe_int pa_nil))) (nomark _)) pe_bl (nomark _))))))), ?_⟩
  obtain ⟨a, ns, rfl, ha, few, tb, k⟩ := h
  refine ⟨_, rfl, a, _, rfl, .inl ha, _, _, rfl, rfl, _, rfl, ?_, ?_, ?_⟩
  · rw [List.length_map]
    omega
  · rw [List.length_map]
    omega
  rw [List.length_map]
  refine for_range (lo := 0) (n := ((ns.length : Int) + 1).toNat) (fun i σ G => ∃ v1 v2 v3 : Option V, σ = [some (.ref a), v1, v2, v3] ∧ SqL K G a (ns.map V.int) ∧ LamX.Tabs (Tt4 Pt) G)
    ⟨none, none, none, rfl, ha, tb⟩ (fun i σ G lt p => ?_) (fun σ G p => ?_)
  · obtain ⟨v1, v2, v3, rfl, hG, tG⟩ := p
    have lt' : i ≤ 63 := by omega
    refine ⟨_, rfl, _, rfl, a, ns, i, by rw [Int.zero_add]; rfl, hG, few, lt', fun H2 p n2 w2 s2 => ?_⟩
    refine ⟨6, rfl, by decide, by decide, ?_⟩
    refine for_range (lo := 0) (n := 6) (fun j σ G2 => ∃ v3 : Option V, σ = [some (.ref a), some (.int (0 + (i : Int))), some (.ref p), v3] ∧ Sq K a p (ns.map V.int) G2 ∧ LamX.Tabs (Tt4 Pt) G2 ∧ Well G2 p)
      ⟨_, rfl, sq_new hG n2 s2, tabs_same tG s2, w2⟩ (fun j σ G2 _ q => ?_) (fun σ G2 q => ?_)
    · obtain ⟨v3, rfl, sq, t2, wp⟩ := q
      refine ⟨_, rfl, p, rfl, wp, t2, fun H3 w3 t3 b3 => ⟨true, rfl, iteF ?_⟩⟩
      exact ⟨_, rfl, sq_bx sq b3, t3, w3⟩
    · obtain ⟨v3, rfl, sq, t2, wp⟩ := q
      exact ⟨_, _, _, rfl, sq.1, t2⟩
  · obtain ⟨v1, v2, v3, rfl, hG, tG⟩ := p
    refine ⟨(show 2 ≤ sizeLine by decide), fun p hp => fun tu dx ntu ndx ne => read_mk T (show (2 : Int) ≠ 0 by decide) tu dx ntu ndx ne fun H2 S2 af => ⟨rfl, ?_⟩⟩
    refine ⟨_, _, rfl, .inr (.inr (.inr ⟨p, 3, 5, tu, 2, 1, rfl, S2 _ _ upd_same, rfl, af, Ger.mul (by decide) (by decide), fun r hr => ?_⟩))⟩
    refine ⟨(show 2 ≤ sizeLine by decide), fun p2 hp2 => ⟨_, _, dp2i (Same.new hp2 _ _ upd_same), dp2i upd_same, by rfl, by rfl, ?_⟩⟩
    refine ⟨true, rfl, ?_⟩
    refine fun t3 d3 nt3 nd3 ne3 => read_mk T (show (2 : Int) ≠ 0 by decide) t3 d3 nt3 nd3 ne3 fun H4 S4 af4 => ⟨rfl, (show 2 ≤ sizeLine by decide), fun p3 hp3 => ?_⟩
    obtain ⟨dx4, h4⟩ := af4
    exact read_eqT T ⟨dx4, (Same.new hp3) _ _ h4⟩ upd_same ⟨false, false, rfl, rfl, k _⟩
end
end K04

set_option maxRecDepth 100000
set_option maxHeartbeats 0
namespace K04
open PySem PySem.Spec PyProof.Rows L2 He VH
theorem says {w : World} {h : Heap} {K : PySem.W.Frag} (c : He.SaysX fa fn [] tf ex w h K) : SaysV fa fn ex K := ⟨congrArg Prod.fst c.t, c.more⟩
theorem facts {w : World} {K : PySem.W.Frag} {h : Heap} {mg : Str → Option Value} {f : Addr} (X : K.In h) (G : h.Ns mainGlobals mg) (hfa : mg ("law" : Str) = some (.ref f)) (c : He.SaysX fa fn [] tf ex w h K) :
    LamX.LawAtS PySem.Challenge.rw_fillbehind_k04_converters_and_shown_rows w K L2.CX0 8 63 "_law_script" mg f h := by
  have cv := says c
  have T := txt_of X G cv
  have g := cv.1
  obtain ⟨d0, X0⟩ := g.def_ 0 (d := dd 5 "is_integer") rfl
  obtain ⟨d1, X1⟩ := g.def_ 1 (d := dd 7 "is_row") rfl
  obtain ⟨d2, X2⟩ := g.def_ 2 (d := dd 9 "shown") rfl
  obtain ⟨d3, X3⟩ := g.def_ 3 (d := dd 11 "_law_draw") rfl
  obtain ⟨d4, X4⟩ := g.def_ 4 (d := dd 12 "_law_well") rfl
  obtain ⟨d5, X5⟩ := g.def_ 5 (d := dd 13 "_law_one") rfl
  obtain ⟨d6, X6⟩ := g.def_ 6 (d := dd 14 "_law_said") rfl
  obtain ⟨d7, X7⟩ := g.def_ 7 (d := dd 15 "_law_integer") rfl
  obtain ⟨d8, X8⟩ := g.def_ 8 (d := dd 16 "_law_right") rfl
  obtain ⟨fd, F⟩ := g.def_ 9 (d := dd 17 "law") rfl
  obtain ⟨e0, Y0⟩ := g.def_ 10 (d := dm 2 "NoRow" 0 "__init__" "NoRow.__init__") rfl
  obtain ⟨e1, Y1⟩ := g.def_ 11 (d := dm 3 "NoNumber" 0 "__init__" "NoNumber.__init__") rfl
  obtain ⟨e2, Y2⟩ := g.def_ 12 (d := dm 8 "Affine" 0 "__init__" "Affine.__init__") rfl
  obtain ⟨e3, Y3⟩ := g.def_ 13 (d := dm 8 "Affine" 1 "__call__" "Affine.__call__") rfl
  obtain ⟨e4, Y4⟩ := g.def_ 14 (d := dm 8 "Affine" 2 "__eq__" "Affine.__eq__") rfl
  have e := hfa.symm.trans (glo_ok X G (g.fact 11 (f := .glo "law") rfl))
  cases e
  have D : Defs K mg := ⟨T, ⟨d0, X0⟩, ⟨e1, Y1⟩, ⟨e0, Y0⟩, ⟨d1, X1⟩, ⟨e3, Y3⟩, ⟨e2, Y2⟩, ⟨e4, Y4⟩, ⟨d2, X2⟩, ⟨d7, X7⟩, ⟨d5, X5⟩, ⟨d3, X3⟩, ⟨d6, X6⟩,
    glo_ok X G (g.fact 9 (f := .glo "_law_integer") rfl), glo_ok X G (g.fact 7 (f := .glo "_law_one") rfl), glo_ok X G (g.fact 5 (f := .glo "_law_draw") rfl), glo_ok X G (g.fact 8 (f := .glo "_law_said") rfl)⟩
  have b := FunD.bindsA (ps := ["_law_script"]) F fun _ _ _ _ _ _ us hl => match us, hl with | [_], _ => rfl
  have mem : (("_law_right", none) : He.Defn) ∈ tf := List.mem_singleton.mpr rfl
  refine ⟨fd, [He.cT K ("_law_right", none)], spLaw K (He.cT K ("_law_right", none)).2, fun p hp => ?_, fun p hp => ?_, fun p hp => ?_, fun s v => b s [v] rfl, fun H a ns hl _ hT hS => ?_, fun base hb hg hTB => ?_⟩
  · rw [List.mem_singleton.mp hp]
    exact c.empty _ mem
  · rw [List.mem_singleton.mp hp]
    exact c.out _ mem
  · rw [List.mem_singleton.mp hp]
    exact PySem.W.codeHd_of_K X (c.hd _ mem)
  · refine ⟨a, ns, rfl, hS, hl, fun p hp => ?_, fun _ => rfl⟩
    rw [List.mem_singleton.mp hp]
    exact LamX.TabS.nil (hT _ (List.mem_singleton.mpr rfl))
  · exact ok_law F D X8 X4 rfl (hTB _ (List.mem_singleton.mpr rfl)) (glo_ok X G (g.fact 10 (f := .glo "_law_right") rfl)) (glo_ok X G (g.fact 6 (f := .glo "_law_well") rfl))
end K04
open PySem PySem.W PySem.Calls PyProof.Rows
theorem PySem.Challenge.cw_fillbehind_k04_converters_and_shown_rows_holds : PySem.Challenge.rw_fillbehind_k04_converters_and_shown_rows.Holds := by
  w_on; o_law
  refine HandSHeadRun.head_any (r := OpenLaw.row PySem.Challenge.rw_fillbehind_k04_converters_and_shown_rows) (q := view (OpenLaw.row PySem.Challenge.rw_fillbehind_k04_converters_and_shown_rows).prog [17]) (H := K04.hk) (ob := K04.ob) (M := 20000) (loose := K04.names) (d := HandSHeadRun.topDef (OpenLaw.row PySem.Challenge.rw_fillbehind_k04_converters_and_shown_rows).prog 17) (kwd := []) K04.ob_eq
    (by kernel_rfl) (fun s => by kernel_rfl) K04.run (by kernel_rfl) (by kernel_rfl) (by kernel_rfl) (by rfl) (by first | assumption | decide +kernel) (by decide +kernel) ⟨rfl, rfl, rfl, rfl, rfl, by decide +kernel⟩ ?hw ?hc
  case hw => w_witness2
  case hc =>
    refine LamX.walk_ofTsE (l := PySem.Challenge.rw_fillbehind_k04_converters_and_shown_rows) (n := 63) (k := 8) (x := "_law_script") (CX := fun _ => L2.CX0) rfl (by decide) (by kernel_rfl) ⟨rfl, by decide, by decide⟩ ?F (fun _ _ _ _ _ z => z)
    intro w mg fa h Y G hmg0
    obtain ⟨K, KX, c⟩ := Y
    have hmg : mg ("law" : PySem.Str) = some (.ref fa) := by
      have e : (HandSHeadRun.topDef (OpenLaw.row PySem.Challenge.rw_fillbehind_k04_converters_and_shown_rows).prog 17).name = ("law" : PySem.Str) := by kernel_rfl
      rw [← e]
      exact hmg0
    exact ⟨K, KX, K04.facts KX G hmg c⟩
