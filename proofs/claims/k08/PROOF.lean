import PyProof.Rows.All
import Wide.All
import OpenK.AllK
import Wide.FinOn
import KE.KStateDown
import HandS.HeadHook2
import HandS.Head0
import HandS.Head1
import HandS.Head2
import HandS.HeadEnd
import HandS.ExcInit
import HandS.ExcIs
import HandS.ExcField
import HandS.MakeKw
import HandS.Words
import HandS.Defaults
import HandS.HeadHook4
import HandS.HeadWalk
import HandS.NestedK
import HandS.OwnEq
import HandS.Star
import HandS.SlotsOwn
import HandS.More
import HandS.IsInst
import HandS.ForMost
import HandS.Wide
import HandS.Walk
import HandS.Strs
import HandS.Text
import HandS.Conv
import HandS.Lambda
import HandS.TryMany
import KE.KDflt
import HandS.MakeKwOnly
import HandS.Style
import PySem.Challenge.RW_fillbehind_k08_phases
set_option Elab.async false
set_option linter.all false
set_option maxRecDepth 100000
set_option maxHeartbeats 4000000
/-! An own exception class over ValueError (at any depth), its object held as a value: made by place and by name. -/
namespace PySem.VX
open PySem PySem.Calls PyProof.Rows PySem.HandSPX
section
variable {M : Model} {A : Around} {E : Value → Shared → Prop} {h : Heap} {g : Array GenState} {d : Drawn} {t : Nat} {os : OsState}
variable {nm q : Str} {C N : Addr} {bs bm bmB : List Value} {hdct : Bool} {sn : List Str} {sub : List Value} {ab : Bool} {col : Option Bool} {dd : Option Addr} {k0 k1 k2 k3 k5 : Option Value} {B newId initId : String}

theorem look_new (F : ExcBaseFacts B newId initId bmB) (same : ∀ Y : String, bm.contains (.type Y) = bmB.contains (.type Y)) {ps : List Value} {kw : List (Str × Value)} {Q : Unit → Shared → Prop}
    (hC : h.get? C = some (excClassObj nm q C N bs bm hdct sn sub ab col dd k0 k1 k2 k3 k5 newId)) (go : Q () ⟨h, g, d, t, os⟩) :
    wpAny M A (checkBuiltinCall newId ⟨.ref C :: ps, kw⟩) Q E ⟨h, g, d, t, os⟩ := by
  have isB : (Value.ref C :: bm).contains (.type B) = true := by rw [List.contains_cons, same, F.hasB, Bool.or_true]
  have nost := F.noStar
  simp only [checkBuiltinCall, F.newKind, F.newSplit, F.newRow]
  repeat (first
    | refine wpAny_loadPart_at hC ?_
    | (refine wpAny_isSubtype_exc hC ?_; rw [isB])
    | refine wpAny_staticBase_exc hC ?_
    | refine wpAny_madeBy_exc hC ?_
    | simp only [bne_self_eq_false, Bool.false_eq_true, if_false]
    | wp_step)
  exact go
end

section
variable {prog : Program} {w : World} {A : Around} {E : Value → Shared → Prop} {R : Result → Shared → Prop} {h : Heap} {g : Array GenState} {d : Drawn} {t : Nat} {os : OsState}
variable {nm q : Str} {C N : Addr} {bs bm bmB : List Value} {hdct : Bool} {sn : List Str} {sub : List Value} {ab : Bool} {col : Option Bool} {dd : Option Addr} {k0 k1 k2 k3 k5 : Option Value} {B newId initId : String}
/-- the heap behind BaseException.__new__ -/
abbrev newH (h : Heap) (C : Addr) (ps : List Value) : Heap := (h.push (PySem.W.kdv_tup ps)).push (excO C h.objs.size)

theorem is_new (F : ExcBaseFacts B newId initId bmB) (same : ∀ Y : String, bm.contains (.type Y) = bmB.contains (.type Y)) {ps : List Value} {kw : List (Str × Value)}
    (hC : h.get? C = some (excClassObj nm q C N bs bm hdct sn sub ab col dd k0 k1 k2 k3 k5 newId)) (few : ps.length ≤ sizeLine)
    (go : R (.ok (.ret (.ref (h.objs.size + 1)))) ⟨newH h C ps, g, d, t, os⟩) :
    codeAny (model prog w) A (.builtin newId ⟨.ref C :: ps, kw⟩) R ⟨h, g, d, t, os⟩ := by
  have isB : (Value.ref C :: bm).contains (.type B) = true := by rw [List.contains_cons, same, F.hasB, Bool.or_true]
  have noA : (Value.ref C :: bm).contains (.type "AttributeError") = false := by rw [List.contains_cons, same, F.noAttr]; rfl
  have noN : (Value.ref C :: bm).contains (.type "NameError") = false := by rw [List.contains_cons, same, F.noName]; rfl
  have en := F.ends
  refine codeAny_builtinAt F.entry ?_
  unfold Builtin.«BaseException.__new__»
  refine wpAt_bind ?_
  show wpAt _ _ _ (stack >>= _) _ _ _
  refine wpAt_bind (wpAt_stack fun p under => wpAt_of_wpAny ?_)
  wp_walk
  refine wpAt_of_wpAny ?_
  rw [F.owner]
  repeat (first
    | with_reducible refine wpAny_madeHere_exc F.canon hC ?_
    | with_reducible refine wpAny_loadPart_at hC ?_
    | (with_reducible refine wpAny_isSubtype_exc hC ?_; first | rw [isB] | rw [noA] | rw [noN])
    | wp_step)
  show R _ _
  rw [Heap.size_push]
  exact go

theorem is_call (F : ExcBaseFacts B newId initId bmB) (same : ∀ Y : String, bm.contains (.type Y) = bmB.contains (.type Y)) {ps : List Value} {kw : List (Str × Value)} {fI : Addr} {Q : Fin → Shared → Prop}
    (hC : h.get? C = some (excClassObj nm q C N bs bm hdct sn sub ab col dd k0 k1 k2 k3 k5 newId)) (few : ps.length ≤ sizeLine)
    (ini : W.Looks (model prog w) h (typeLookup (.ref C) "__init__") (some (.ref fI))) (bnd : ∀ o, W.Looks (model prog w) h (bindSpecial (.ref fI) o) (.ref fI, [o]))
    (go : codeAny (model prog w) A (.call (.ref fI) ⟨.ref (h.objs.size + 1) :: ps, kw⟩)
      (fun r s' => match r with | .ok (.ret v) => v = .none ∧ Q (.done (.ret (.ref (h.objs.size + 1)))) s' | .ok _ => False | .error e => E e s') ⟨newH h C ps, g, d, t, os⟩) :
    wpAny (model prog w) A (Builtin.«type.__call__» ⟨.ref C :: ps, kw⟩) Q E ⟨h, g, d, t, os⟩ := by
  repeat (first
    | with_reducible refine wpAny_loadPart_at hC ?_
    | with_reducible refine wpAny_madeBy_exc hC ?_
    | wp_step)
  refine codeAny_call_builtin_code (Code.quiet_builtin _ F.quiet) (look_new F same hC ?_)
  refine is_new F same hC few ?_
  show wpAny _ _ _ _ _ _
  have keeps : ∀ b o, h.get? b = some o → (newH h C ps).get? b = some o := fun b o e => Heap.get?_push_of_some _ (Heap.get?_push_of_some _ e)
  have hC2 := keeps _ _ hC
  have at_e : (newH h C ps).get? (h.objs.size + 1) = some (excO C h.objs.size) := by heap_get
  have itself : (Value.ref C :: bm).contains (.ref C) = true := by simp
  have ini2 := ini.keeps keeps
  have bnd2 := (bnd (.ref (h.objs.size + 1))).keeps keeps
  unfold isInstance
  repeat (first
    | with_reducible refine wpAny_loadPart_at at_e ?_
    | (with_reducible refine wpAny_isSubtype_exc hC2 ?_; rw [itself])
    | wp_step)
  show wpAny _ _ (typeLookup (.ref C) _) _ _ _
  refine ini2.at ?_
  refine wpAny_holding (wpAny_bind (bnd2.at ?_))
  refine wpAny_bind (wpAny_call (codeAny_mono go fun r s' z => ?_))
  rcases r with e | (v | _ | _ | _) <;> first | exact z | exact z.elim | skip
  obtain ⟨rfl, z2⟩ := z
  first
    | exact wpAny_pure (wpAny_pure z2)
    | (wp_walk; exact z2)

theorem look_call {M : Model} {E : Value → Shared → Prop} {ps : List Value} {kw : List (Str × Value)} {Q : Unit → Shared → Prop} (hC : h.get? C = some (excClassObj nm q C N bs bm hdct sn sub ab col dd k0 k1 k2 k3 k5 newId)) (go : Q () ⟨h, g, d, t, os⟩) :
    wpAny M A (checkBuiltinCall "type.__call__" ⟨.ref C :: ps, kw⟩) Q E ⟨h, g, d, t, os⟩ := by
  have f := tc_sub
  have ty : (⟨h, g, d, t, os⟩ : Shared).TypeIs (.ref C) "type" := ⟨_, hC, rfl⟩
  simp only [checkBuiltinCall, tc_kind, tc_split]
  repeat (any_goals (first
    | assumption
    | with_reducible refine wpAny_loadPart_at hC ?_
    | with_reducible refine wpAny_onRaise ?_
    | with_reducible refine wpAny_map ?_
    | wp_step))

theorem call_it (F : ExcBaseFacts B newId initId bmB) (same : ∀ Y : String, bm.contains (.type Y) = bmB.contains (.type Y)) {ps : List Value} {kw : List (Str × Value)} {fI : Addr}
    (hC : h.get? C = some (excClassObj nm q C N bs bm hdct sn sub ab col dd k0 k1 k2 k3 k5 newId)) (few : ps.length ≤ sizeLine)
    (ini : W.Looks (model prog w) h (typeLookup (.ref C) "__init__") (some (.ref fI))) (bnd : ∀ o, W.Looks (model prog w) h (bindSpecial (.ref fI) o) (.ref fI, [o]))
    (go : codeAny (model prog w) (A.under (.builtin "type.__call__" ⟨.ref C :: ps, kw⟩)) (.call (.ref fI) ⟨.ref (h.objs.size + 1) :: ps, kw⟩) (W.InitBack (h.objs.size + 1) R) ⟨newH h C ps, g, d, t, os⟩) :
    codeAny (model prog w) A (.call (.ref C) ⟨ps, kw⟩) R ⟨h, g, d, t, os⟩ := by
  have f1 := tc_lookup
  have f2 := tc_bind (.ref C)
  have ty : (⟨h, g, d, t, os⟩ : Shared).TypeIs (.ref C) "type" := ⟨_, hC, rfl⟩
  refine codeAny_of_tree ?_
  show wpAny _ _ (callAny (.ref C) _) _ _ _
  repeat (any_goals (first
    | assumption
    | with_reducible refine wpAny_loadPart_at hC ?_
    | wp_step))
  refine ⟨rfl, ?_⟩
  refine codeAny_call_builtin_at (Code.quiet_builtin _ (by decide +kernel)) entry_typeCall (look_call hC (is_call F same hC few ini bnd ?_))
  refine codeAny_mono go fun r s' z => ?_
  rcases r with e | (v | _ | _ | _) <;> exact z
end
end PySem.VX

set_option maxRecDepth 100000
set_option maxHeartbeats 4000000
/-! isinstance of an own exception's object that has a dict, or none. -/
namespace PySem.W
open PySem PySem.Spec PySem.Calls PyProof.Rows
section
variable {prog : Program} {w : World} {A : Around} {E : Value → Shared → Prop} {s : Shared} {K : Frag} {x D : Addr} {ox : Obj} {od : Option Obj}
theorem vx_bound {C : Addr} {y : Str} {v gg : Value} (is : (clsIn K C).isSome = true) (f : findIn K (.ref C) y = some (some v)) (gt : specialIn K v "__get__" = some (some gg)) (tk : takesIn K v = some true) :
    findObj K C od y = some (.bind gg v) := by
  obtain ⟨cd, e⟩ := Option.isSome_iff_exists.mp is
  unfold findObj
  rw [e, Option.bind_some, f, Option.bind_some]
  simp [gt, tk]
theorem vx_class {Q : Option Value → Shared → Prop} (C : L2.ExcC K D) (X : K.In s.heap) (I : InstAt s.heap x ox D od) (go : Q (some (.ref D)) { s with toks := s.toks + 1 }) :
    wpAny (model prog w) A (getAttr? (.ref x) "__class__") Q E s := by
  have is : (clsIn K D).isSome = true := by
    obtain ⟨cd, hc, _⟩ := any_some C.hd
    rw [hc]; rfl
  have fo : findObj K D od "__class__" = some (.bind (.builtin "getset_descriptor.__get__") (.builtin "object.__class__")) := vx_bound is C.ha C.hn C.ht
  obtain ⟨hh, gs, dr, tk, os⟩ := s
  have T0 := I.type (M := model prog w)
  have T1 := looks_findIn (M := model prog w) X C.hg
  have T2 := looks_findIn (M := model prog w) X C.hk
  have T3 := looks_find (M := model prog w) X I fo
  have sub : Looks (model prog w) hh (isInstance (.ref x) (.type "BaseException")) true := T0.andThen (looks_subIn X C.hs)
  have n0 : (false && onTheHeap (Value.builtin "BaseException.__getattribute__")) = false := rfl
  have n2 : (Value.builtin "BaseException.__getattribute__" == Value.builtin "object.__getattribute__") = false := by decide +kernel
  have n1 : (onTheHeap (Value.ref D) && Value.builtin "BaseException.__getattribute__" == Value.builtin "object.__getattribute__") = false := by
    rw [n2]; rfl
  unfold getAttr? getAttrBy? getAttrBy
  refine wpAny_bind (wpAny_mkText (wpAny_bind (wpAny_attempt (wpAny_holding (wpAny_bind (T0.at (wpAny_bind (T1.at ?_))))))))
  show wpAny _ _ (if (onTheHeap (Value.ref D) && Value.builtin "BaseException.__getattribute__" == Value.builtin "object.__getattribute__") = true
    then _ else _) _ _ _
  rw [n1, if_neg Bool.false_ne_true]
  unfold getAttrByItsOwn hookBefore
  refine wpAny_bind ?_
  rw [if_pos (show onTheHeap (Value.ref D) = true from
    rfl)]
  refine T2.at ?_
  refine wpAny_bind (wpAny_attempt (wpAny_holding ?_))
  unfold callGetattribute
  rw [n0, if_neg Bool.false_ne_true]
  unfold boundAndCalled
  rw [PySem.F.excAttr_ValueError.ga.bind (Value.ref x)]
  refine wpAny_bind (wpAny_pure ?_)
  show wpAny _ _ (call (.builtin "BaseException.__getattribute__") [.ref x, .str "__class__" tk]) _ _ _
  refine wpAny_call (codeAny_call_builtin (PySem.F.excAttr_ValueError.ga.plain) PySem.F.entry_bexc_ga ?_)
  refine @check_slot (model prog w) _ _ ⟨hh, gs, dr, tk + 1, os⟩ "BaseException.__getattribute__" "BaseException" "__getattribute__" (.ref x) [.str "__class__" tk] [] _
    (by decide +kernel) (by decide +kernel) sub (PySem.F.args_bexc_ga (.ref x) (.str "__class__" tk)) ?_
  unfold Builtin.«object.__getattribute__»
  refine wpAny_bind (wpAny_of_eq (a := ((Value.ref x : Value), [Value.str "__class__" tk])) (by
    first | rfl | (simp only [slotArgs]; rfl)) ?_)
  refine wpAny_bind (wpAny_pure (wpAny_bind (T0.at (wpAny_bind (T3.at ?_)))))
  show wpAny _ _ (holding [Value.builtin "object.__class__"] (call (.builtin "getset_descriptor.__get__")
    [.builtin "object.__class__", .ref x, .ref D]) >>= ret) _ _ _
  refine wpAny_bind (wpAny_holding (wpAny_call (class_get (s := ⟨hh, gs, dr, tk + 1, os⟩) (ox := ox) (od := od) X I C.hm ?_)))
  refine wpAny_pure ?_
  show wpAny _ _ (handedOut (.ref D)) _ _ _
  rw [handedOut_of (v := Value.ref D) rfl]
  first
    | exact wpAny_pure (wpAny_pure go)
    | exact wpAny_pure go
theorem vx_kit (C : L2.ExcC K D) : KitX K (.ref x) (.ref D) (fun h => ∃ ox od, InstAt h x ox D od) where
  ty := fun _ _ _ ⟨_, _, I⟩ => I.type
  it := fun _ _ X _ => by
    obtain ⟨cd, hc, _⟩ := any_some C.hd
    unfold clsIn at hc
    split at hc
    · rename_i ho
      intro A' Q' E' s' k q
      unfold isType loadHead
      exact wpAny_bind (wpAny_loadPart (k _ _ (X _ _ ho))
        (wpAny_pure q))
    · cases hc
  ne := fun h tp dd its n sl X htp => by
    obtain ⟨cd, hc, _⟩ := any_some C.hd
    refine Bool.eq_false_iff.mpr fun same => ?_
    have e : D = tp := Value.ref.inj (beq_iff_eq.mp same)
    subst e
    unfold clsIn at hc
    split at hc
    · rename_i ho
      have z := (X _ _ ho).symm.trans htp
      cases z
    · cases hc
  ca := fun X ⟨_, _, I⟩ k => vx_class C X I k
end
end PySem.W

set_option maxRecDepth 100000
set_option maxHeartbeats 4000000
/-! An own exception's object as a value, over the layer: made, its fields read, asked for its class. -/
namespace L2
open PySem PySem.Spec PyProof.Rows

/-- at a: an exception of the class at C, these its fields -/
def IsEx (H : Hp) (a C : Addr) (fs : List (Str × V)) : Prop := (fs = [] ∧ H a = some (exo a C none)) ∨ ∃ dx, H a = some (exo a C (some dx)) ∧ H dx = some (exd dx fs)
theorem IsEx.same {H H' : Hp} {a C : Addr} {fs : List (Str × V)} (h : IsEx H a C fs) (e : Same H H') : IsEx H' a C fs := by
  rcases h with ⟨h1, h2⟩ | ⟨dx, h1, h2⟩
  · exact .inl ⟨h1, e _ _ h2⟩
  · exact .inr ⟨dx, e _ _ h1, e _ _ h2⟩
section
variable {X : Cx} {pins : List (Addr × Obj)} {σ : St} {H : Hp} {s : Shared} {a C : Addr} {fs : List (Str × V)}
theorem IsEx.inst (h : IsEx H a C fs) (I : Inv X pins σ H s) : ∃ ox od, PySem.W.InstAt s.heap a ox C od ∧ ∀ f v, fs.lookup f = some v → ∃ u o, od = some o ∧ PySem.W.lookIn f o = some (some u) ∧ RelV v u := by
  rcases h with ⟨rfl, h⟩ | ⟨dx, h, hd⟩
  · obtain ⟨t, e⟩ := exo_at I.hok h
    exact ⟨_, none, ⟨e, rfl, rfl, trivial⟩, fun f v z => by cases z⟩
  · obtain ⟨t, e⟩ := exo_at I.hok h
    obtain ⟨mA, ns, rel⟩ := exd_at I.hok hd
    obtain ⟨od, eo, lk⟩ := lookIn_ns ns
    refine ⟨_, some od, ⟨e, rfl, rfl, eo⟩, fun f v z => ?_⟩
    obtain ⟨u, eu, ru⟩ := RelO.some_of (v := v) (o := mA f) (by rw [← z]; exact rel f)
    exact ⟨u, od, rfl, by rw [lk, eu], ru⟩
/-- e.f -/
def tExF (K : PySem.W.Frag) (f : Str) (te : TE) : TE := fun σ H Q => te σ H fun x H1 => ∃ (a C : Addr) (fs : List (Str × V)) (v : V), x = .ref a ∧ XfC K C ∧ PySem.W.findIn K (.ref C) f = some none ∧ IsEx H1 a C fs ∧ fs.lookup f = some v ∧ Q v H1
theorem pe_exF {e : Expr} {te : TE} {pos : Pos} {f : Str} (he : PE X e te) (hb : attributeBase e f X.env (eval e X.env) = eval e X.env := by rfl) : PE X (.Attribute e f pos) (tExF X.K f te) := by
  refine ⟨fun pins s σ H Q I h => ?_⟩
  refine attr_of hb (thn (he.run pins s σ H _ I h) fun u s1 hh => ?_)
  obtain ⟨x, H1, I1, rx, a, C, fs, v, ex, T, no, is, l, q⟩ := hh
  subst ex
  obtain rfl : u = Value.ref a := rx
  obtain ⟨ox, od, J, look⟩ := is.inst I1
  obtain ⟨w', o, rfl, lo, rw'⟩ := look f v l
  exact HandSPX.exc_get I1.kIn J T.ga T.gg T.exC (PySem.W.findObj_own T.hdC no rfl lo) (handed_of rw') ⟨v, H1, I1.tok _, rw', q⟩
/-- isinstance(e, c) -/
def rIsX (K : PySem.W.Frag) : List V → Hp → VK → Prop := fun xs H Q => ∃ (a D : Addr) (fs : List (Str × V)) (c : V) (cv : Value) (b : Bool), xs = [.ref a, c] ∧ IsEx H a D fs ∧ ExcC K D ∧ (∀ u, RelV c u → u = cv) ∧ PySem.W.kitOne K (.ref D) cv = some b ∧ Q (.bl b) H
theorem call_isX : CallR X (.builtin "isinstance") (rIsX X.K) := by
  intro pins s σ H xs us Q I r h
  obtain ⟨a, D, fs, c, cv, b, rfl, is, C, hcv, e, q⟩ := h
  obtain ⟨u, v, rfl, ru, rv⟩ := vals2 r
  obtain rfl : u = Value.ref a := ru
  obtain rfl := hcv _ rv
  obtain ⟨ox, od, J, _⟩ := is.inst I
  exact PySem.W.kia_one (PySem.W.vx_kit C) I.kIn ⟨ox, od, J⟩ e (fun z => nomatch z) fun tk => ⟨.bl b, H, I.kept (t' := tk) fun _ _ z => z, rfl, q⟩

/-! ### made: C(e, .., k = v, ..), its own __init__ -/
def tMkX (C : Addr) (n m : Nat) (sp : Sp) (gV : List V → List V → List V) (E : XK) (t tk : TA) : TE := fun σ H Q => t σ H fun vs H1 => tk σ H1 fun zs H2 => vs.length = n ∧ zs.length = m ∧
  ∀ a, H2 a = none → sp (gV (.ref a :: vs) zs) (upd H2 a (exo a C none)) (fun v H3 => v = .non ∧ Q (.ref a) H3) E
/-- what the written part says of such a class -/
structure MkXC (K : PySem.W.Frag) (C fI : Addr) : Prop extends OexC K C where
  ini : PySem.W.findIn K (.ref C) "__init__" = some (some (.ref fI))
  tyI : PySem.W.typeIn K (.ref fI) = some (.type "function")
variable {CX : CXT} {k n : Nat} {fI : Addr} {fd : FuncData} {ps ks : List Str} {sp : Sp} {E : XK} {x : Str} {p pos : Pos} {e : Expr} {es : List Expr} {kws : List Keyword} {t tk : TA} {g : List Value → List Value → List Value} {gV : List V → List V → List V} {Q : VK} {us ws : List Value} {vs zs : List V}
theorem run_mkX (T : MkXC X.K C fI) (F : FnOk X.prog X.w X.K X.mg X.base CX k fI fd ps sp) (hr : Room (k + 1) X.A) (hb : KBn X.K fd ps (n + 1) ks g gV) (hx : Passes CX X E) (few : n ≤ 1000)
    (I : Inv X pins σ H s) (r : Vals vs us) (rz : Vals zs ws) (l1 : vs.length = n) (l2 : zs.length = ks.length)
    (h : ∀ a, H a = none → sp (gV (.ref a :: vs) zs) (upd H a (exo a C none)) (fun v H3 => v = .non ∧ Q (.ref a) H3) E) :
    wpAny (model X.prog X.w) X.A (call (.ref C) us (ks.zip ws)) (EP X pins σ Q) X.xe s := by
  obtain ⟨nm, q, N, bs, bm, sn, sub, ab, col, dd, k0, k1, k2, k3, k5, hC, hbm⟩ := T.cls
  obtain ⟨hp, gs, dr, tk, os⟩ := s
  have up : hp.objs.size ≤ hp.objs.size + 1 := Nat.le_succ _
  have hq := h (hp.objs.size + 1) (I.hok.fresh up)
  have len : us.length ≤ sizeLine := by
    rw [← Paired.length r, l1, sizeLine_eq]
    omega
  have keeps : ∀ b o, hp.get? b = some o → (PySem.VX.newH hp C us).get? b = some o := fun b o z => Heap.get?_push_of_some _ (Heap.get?_push_of_some _ z)
  have at_a : (PySem.VX.newH hp C us).get? (hp.objs.size + 1) = some (PySem.HandSPX.excO C hp.objs.size) := by heap_get
  have J : Inv X pins σ (upd H (hp.objs.size + 1) (exo (hp.objs.size + 1) C none)) ⟨PySem.VX.newH hp C us, gs, dr, tk, os⟩ :=
    I.laid (t' := tk) (a := hp.objs.size + 1) (o := exo (hp.objs.size + 1) C none) (h' := PySem.VX.newH hp C us) keeps up (exo_ok at_a)
  have r1 : Vals (V.ref (hp.objs.size + 1) :: vs) (Value.ref (hp.objs.size + 1) :: us) := .cons rfl r
  have r2 := hb.rel r1 rz
  have m1 : (Value.ref (hp.objs.size + 1) :: us).length = n + 1 := r1.length.symm.trans (congrArg Nat.succ l1)
  have m2 : ws.length = ks.length := rz.length.symm.trans l2
  refine wpAny_call (PySem.VX.call_it PySem.F.excBase_ValueError (fun Y => PySem.HandSPX.refsVE_contains Y bm hbm) (I.kIn _ _ hC) len (PySem.W.looks_findIn I.kIn T.ini) (fun o => PySem.W.bind_fn I.kIn o T.tyI)
    (codeAny_mono (F.run _ X.stack _ _ ⟨Value.ref (hp.objs.size + 1) :: us, ks.zip ws⟩ (g (Value.ref (hp.objs.size + 1) :: us) ws) _ _ E (hr.make C us (ks.zip ws)) (J.env0.make C us (ks.zip ws))
      (hb.to _ (Value.ref (hp.objs.size + 1) :: us) ws J.kIn m1 m2) r2 hq) fun r s' hq' => ?_))
  cases r with
  | error er => exact hx pins σ _ _ er s' J hq'
  | ok fl =>
    cases fl with
    | ret u =>
      obtain ⟨v, H', J2, rv, ev, q3⟩ := J.after hq'
      subst ev
      exact ⟨rv, ⟨V.ref (hp.objs.size + 1), H', J2, rfl, q3⟩⟩
    | next => exact hq'.elim
    | brk => exact hq'.elim
    | cont => exact hq'.elim
/-- C(e, ..) -/
theorem pe_mkX (T : MkXC X.K C fI) (F : FnOk X.prog X.w X.K X.mg X.base CX k fI fd ps sp) (hr : Room (k + 1) X.A) (hg : Gl X x) (hm : X.mg x = some (.ref C)) (hb : KBn X.K fd ps (n + 1) [] g gV) (few : n ≤ 1000) (hx : Passes CX X E)
    (ha : PA X (e :: es) t) (hdb : (x == ("__debug__" : Str)) = false := by decide) (he : starEach (e :: es) X.env = (false, eval e X.env) :: starEach es X.env := by rfl) (hpl : (backTo pos (starEach es X.env)).any (·.1) = false := by rfl) :
    PE X (.Call (.Name x p) (e :: es) [] pos) (tMkX C n 0 sp gV E t tNil) := by
  refine ⟨fun pins s σ H Q I h => ?_⟩
  refine wpAny_Call_Name_kw (ld_glob I hg hm ?_ hdb)
  refine PySem.W.callWith_K (h₀ := X.base) I.ok.mod.kin T.kC (thn (ha.run pos pins s σ H _ I h) fun us s1 hh => ?_) he hpl
  obtain ⟨vs, H1, I1, r, l1, l2, q⟩ := hh
  exact ⟨I1.kIn, run_mkX (ks := []) (zs := []) (ws := []) T F hr hb hx few I1 r .nil l1 rfl q⟩
/-- C() -/
theorem pe_mkX0 (T : MkXC X.K C fI) (F : FnOk X.prog X.w X.K X.mg X.base CX k fI fd ps sp) (hr : Room (k + 1) X.A) (hg : Gl X x) (hm : X.mg x = some (.ref C)) (hb : KBn X.K fd ps 1 [] g gV) (hx : Passes CX X E) (hdb : (x == ("__debug__" : Str)) = false := by decide) :
    PE X (.Call (.Name x p) [] [] pos) (tMkX C 0 0 sp gV E tNil tNil) := by
  refine ⟨fun pins s σ H Q I h => ?_⟩
  refine wpAny_Call_Name_kw (ld_glob I hg hm ?_ hdb)
  obtain ⟨l1, l2, q⟩ := h
  exact PySem.W.callWith_K0 I.kIn T.kC (run_mkX (n := 0) (ks := []) (us := []) (vs := []) (zs := []) (ws := []) T F hr hb hx (by decide) I .nil .nil rfl rfl q)
/-- C(k = v, ..) -/
theorem pe_mkXK (T : MkXC X.K C fI) (F : FnOk X.prog X.w X.K X.mg X.base CX k fI fd ps sp) (hr : Room (k + 1) X.A) (hg : Gl X x) (hm : X.mg x = some (.ref C)) (hb : KBn X.K fd ps 1 ks g gV) (hx : Passes CX X E)
    (hkw : PK X kws tk) (hall : (backToKw pos (keywordEach kws X.env)).all (·.1.isSome) = true := by rfl) (hks : (backToKw pos (keywordEach kws X.env)).filterMap (·.1) = ks := by rfl) (hdb : (x == ("__debug__" : Str)) = false := by decide)
    (hpl : ((backTo pos (starEach [] X.env)).any (·.1) || (backToKw pos (keywordEach kws X.env)).any (·.1.isNone)) = false := by rfl) :
    PE X (.Call (.Name x p) [] kws pos) (tMkX C 0 ks.length sp gV E tNil tk) := by
  refine ⟨fun pins s σ H Q I h => ?_⟩
  refine wpAny_Call_Name_kw (ld_glob I hg hm ?_ hdb)
  refine PySem.W.callWith_KW0 (h₀ := X.base) I.ok.mod.kin T.kC hall (thn (hkw.run pos pins s σ H _ I h) fun ws s2 hh => ?_) hpl
  obtain ⟨zs, H2, I2, rz, l1, l2, q2⟩ := hh
  refine ⟨I2.kIn, ?_⟩
  rw [hks]
  exact run_mkX (n := 0) (us := []) (vs := []) T F hr hb hx (by decide) I2 .nil rz rfl l2 q2
end
end L2

set_option maxRecDepth 100000
set_option maxHeartbeats 4000000
/-! The head's facts with one more Bool; own exception classes in it. -/
namespace VH
open PySem PySem.Spec PyProof.Rows L2 He
/-! ### the Hook -/
abbrev AlV : Type := AlD × Bool
def obsV (fa : List Fa) (fn : List DefD) (ex : PySem.W.Frag → Bool) (K : PySem.W.Frag) : AlV := (obsD fa fn K, ex K)
def obsVG (n : Nat) (fa : List Fa) (fn : List DefD) (ex : PySem.W.Frag → Bool) (g : Addr → Option Obj) : AlV := obsV fa fn ex (frG g (asD g n))
def SaysV (fa : List Fa) (fn : List DefD) (ex : PySem.W.Frag → Bool) (K : PySem.W.Frag) : Prop := SaysD fa fn K ∧ ex K = true
def hookV (n : Nat) (fa : List Fa) (fn : List DefD) (ex : PySem.W.Frag → Bool) : PySem.W.Hook where
  α := AlV
  obs := fun s => obsVG n fa fn ex s.heap.get?
  val := fun _ => (valD fn, true)
  says := fun _ h => ∃ K : PySem.W.Frag, K.In h ∧ SaysV fa fn ex K
  of := fun _ _ e => ⟨_, frG_in, congrArg (fun z : AlV => z.1) e, congrArg (fun z : AlV => z.2) e⟩
  keeps := fun _ _ _ ⟨K, hK, c⟩ k => ⟨K, PySem.W.Frag.In.keeps hK k, c⟩
theorem obsVG_eq {n : Nat} {fa : List Fa} {fn : List DefD} {ex : PySem.W.Frag → Bool} {g : Addr → Option Obj} {s : Shared} (h : ∀ a, g a = s.heap.get? a) : obsVG n fa fn ex g = (hookV n fa fn ex).obs s := by
  have e : g = s.heap.get? := funext h
  rw [e]; rfl
/-! ### an own exception class -/
/-- the class at C is over ValueError, perhaps over own ones between -/
def exB (K : PySem.W.Frag) (C : Addr) : Bool := match K.lookup C with
  | some ⟨.type t, _, .cls cd, sl⟩ => decide (t = "type") && (match cd.mro, sl.toList with
    | .ref D :: bm, [_, _, _, _, some (.builtin n), _] => decide (D = C) && (decide (n = "ValueError.__new__") && (!cd.hasDel && (cd.hasDict && PySem.HandSPX.refsVE bm)))
    | _, _ => false)
  | _ => false
theorem exB_ok {K : PySem.W.Frag} {C : Addr} (h : exB K C = true) : ∃ nm q N bs bm sn sub ab col dd k0 k1 k2 k3 k5, K.lookup C = some (excClassObj nm q C N bs bm true sn sub ab col dd k0 k1 k2 k3 k5 "ValueError.__new__") ∧ PySem.HandSPX.refsVE bm = true := by
  unfold exB at h
  split at h
  · rename_i t dd cd sl ho
    obtain ⟨y0, z0⟩ := ba h
    clear h
    have e0 : t = "type" := of_decide_eq_true y0
    split at z0
    · rename_i D bm k0 k1 k2 k3 n k5 hm hs
      obtain ⟨y1, z1⟩ := ba z0
      obtain ⟨y2, z2⟩ := ba z1
      obtain ⟨y3, z3⟩ := ba z2
      obtain ⟨y4, y5⟩ := ba z3
      have e1 : D = C := of_decide_eq_true y1
      have e2 : n = "ValueError.__new__" := of_decide_eq_true y2
      clear z0 z1 z2 z3 y0 y1 y2
      subst e0 e1 e2
      obtain ⟨nm, bs, mro, ns, qn, hd, sn, sub, ab, col, del⟩ := cd
      dsimp only at hm y3 y4
      subst hm y4
      have e3 : del = false := by
        cases del with
        | false => rfl
        | true => cases y3
      subst e3
      have e4 : sl = #[k0, k1, k2, k3, some (.builtin "ValueError.__new__"), k5] := by
        obtain ⟨l⟩ := sl
        simp only at hs
        rw [hs]
      subst e4
      exact ⟨nm, qn, ns, bs, bm, sn, sub, ab, col, dd, k0, k1, k2, k3, k5, ho, y5⟩
    · cases z0
  · cases h
def okO {α : Type} [DecidableEq α] (a b : Option α) : Bool := decide (a = b)
/-- all that an own exception class, with an __init__ of its own, must say; its fields' names -/
def clB (K : PySem.W.Frag) (x : Str) (fs : List Str) : Bool :=
  decide (PySem.W.nsIn K mainGlobals x = some (some (.ref (ga K x)))) && (exB K (ga K x) && (
  decide (PySem.W.findIn K (.ref (ga K x)) "__setattr__" = some (some (.builtin "object.__setattr__"))) && (
  decide (PySem.W.subIn K (.ref (ga K x)) (.type "BaseException") = some true) && (
  decide (PySem.W.typeIn K (.ref (ga K x)) = some (.type "type")) && (
  PySem.W.keepIn K (.ref (ga K x)) && (
  decide (PySem.W.findIn K (.ref (ga K x)) "__init__" = some (some (.ref (ma K (ga K x) "__init__")))) && (
  decide (PySem.W.typeIn K (.ref (ma K (ga K x) "__init__")) = some (.type "function")) && (
  decide (PySem.W.findIn K (.ref (ga K x)) "__getattribute__" = some (some (.builtin "BaseException.__getattribute__"))) && (
  decide (PySem.W.findIn K (.ref (ga K x)) "__getattr__" = some none) && (
  PySem.W.hasDictIn K (ga K x) && (
  decide (PySem.W.findIn K (.ref (ga K x)) "__class__" = some (some (.builtin "object.__class__"))) && (
  decide (PySem.W.mroIn K (ga K x) (.type "object") = some true) && (
  fs.all fun f => decide (PySem.W.findIn K (.ref (ga K x)) f = some none))))))))))))))
structure ClOk (K : PySem.W.Frag) (x : Str) (fs : List Str) : Prop where
  gl : PySem.W.nsIn K mainGlobals x = some (some (.ref (ga K x)))
  mkx : MkXC K (ga K x) (ma K (ga K x) "__init__")
  xf : XfC K (ga K x)
  ec : PySem.W.specialIn K (.builtin "object.__class__") "__get__" = some (some (.builtin "getset_descriptor.__get__")) → PySem.W.takesIn K (.builtin "object.__class__") = some true → ExcC K (ga K x)
  no : ∀ f ∈ fs, PySem.W.findIn K (.ref (ga K x)) f = some none
theorem clB_ok {K : PySem.W.Frag} {x : Str} {fs : List Str} (h : clB K x fs = true) : ClOk K x fs := by
  unfold clB at h
  obtain ⟨g0, h⟩ := ba h
  obtain ⟨g1, h⟩ := ba h
  obtain ⟨g2, h⟩ := ba h
  obtain ⟨g3, h⟩ := ba h
  obtain ⟨g4, h⟩ := ba h
  obtain ⟨g5, h⟩ := ba h
  obtain ⟨g6, h⟩ := ba h
  obtain ⟨g7, h⟩ := ba h
  obtain ⟨g8, h⟩ := ba h
  obtain ⟨g9, h⟩ := ba h
  obtain ⟨g10, h⟩ := ba h
  obtain ⟨g11, h⟩ := ba h
  obtain ⟨g12, h⟩ := ba h
  have d := fun {p : Prop} [Decidable p] (z : decide p = true) => of_decide_eq_true z
  exact ⟨of_decide_eq_true g0, ⟨⟨exB_ok g1, of_decide_eq_true g2, of_decide_eq_true g3, of_decide_eq_true g4, g5⟩, of_decide_eq_true g6, of_decide_eq_true g7⟩,
    ⟨of_decide_eq_true g8, of_decide_eq_true g9, of_decide_eq_true g3, g10⟩,
    fun a b => ⟨of_decide_eq_true g8, of_decide_eq_true g9, of_decide_eq_true g3, g10, of_decide_eq_true g11, a, b, of_decide_eq_true g12⟩,
    fun f hf => of_decide_eq_true (List.all_eq_true.mp h f hf)⟩
/-- what asks the descriptor __class__ -/
def dcB (K : PySem.W.Frag) : Bool := decide (PySem.W.specialIn K (.builtin "object.__class__") "__get__" = some (some (.builtin "getset_descriptor.__get__"))) && decide (PySem.W.takesIn K (.builtin "object.__class__") = some true)
end VH

set_option maxRecDepth 100000
set_option maxHeartbeats 4000000
/-! What a head's Bool says of the written part: tuples of texts, a dict of such, defaults that are objects, own classes with an own ==. -/
namespace VH
open PySem PySem.Spec PyProof.Rows L2 He
/-- written texts -/
def txsB : List Value → List Str → Bool
  | [], [] => true
  | .str x _ :: l, w :: ws => decide (x = w) && txsB l ws
  | _, _ => false
/-- at a: a written tuple of the texts ws -/
def tupB (K : PySem.W.Frag) (a : Addr) (ws : List Str) : Bool := match K.lookup a with
  | some ⟨.type c, _, .seq its _, _⟩ => decide (c = "tuple") && (txsB its.toList ws && decide (its.size ≤ 100))
  | _ => false
theorem txsB_ok : ∀ {l : List Value} {ws : List Str}, txsB l ws = true → Vals (ws.map V.str) l
  | [], [], _ => .nil
  | v :: l, w :: ws, h => by
    cases v with
    | str x t =>
      obtain ⟨h1, h2⟩ := ba (show (decide (x = w) && txsB l ws) = true from h)
      obtain rfl := of_decide_eq_true h1
      exact .cons ⟨t, rfl⟩ (txsB_ok h2)
    | _ => cases h
  | [], _ :: _, h => by cases h
  | v :: _, [], h => by cases v <;> cases h
theorem tupB_ok {K : PySem.W.Frag} {a : Addr} {ws : List Str} (h : tupB K a ws = true) (H : Hp) : SqT K H a (ws.map V.str) := by
  unfold tupB at h
  split at h
  · rename_i c d its n sl e
    obtain ⟨h1, h2⟩ := ba h
    obtain ⟨h2, h3⟩ := ba h2
    obtain rfl := of_decide_eq_true h1
    exact .inr ⟨_, its, _, e, rfl, rfl, Nat.le_trans (of_decide_eq_true h3) (by decide), txsB_ok h2⟩
  · cases h
def tupsB (K : PySem.W.Frag) : List Value → List (List Str) → Bool
  | [], [] => true
  | .ref p :: l, w :: ws => tupB K p w && tupsB K l ws
  | _, _ => false
/-- at a: a written tuple of such tuples -/
def tupTB (K : PySem.W.Frag) (a : Addr) (ws : List (List Str)) : Bool := match K.lookup a with
  | some ⟨.type c, _, .seq its _, _⟩ => decide (c = "tuple") && (tupsB K its.toList ws && decide (its.size ≤ 100))
  | _ => false
/-- the entry k of the written dict x: such a tuple -/
def entB (K : PySem.W.Frag) (x k : Str) (ws : List (List Str)) : Bool := match PySem.W.nsIn K (ga K x) k with
  | some (some (.ref p)) => tupTB K p ws
  | _ => false
theorem tupsB_ok {K : PySem.W.Frag} : ∀ {l : List Value} {ws : List (List Str)}, tupsB K l ws = true → ∃ ps : List Addr, Vals (ps.map V.ref) l ∧ ps.length = ws.length ∧ ∀ (i : Nat) (p : Addr) (w : List Str), ps[i]? = some p → ws[i]? = some w → ∀ H, SqT K H p (w.map V.str)
  | [], [], _ => ⟨[], .nil, rfl, fun i p w h => by simp at h⟩
  | v :: l, w :: ws, h => by
    cases v with
    | ref p =>
      obtain ⟨h1, h2⟩ := ba (show (tupB K p w && tupsB K l ws) = true from h)
      obtain ⟨ps, r1, r2, r3⟩ := tupsB_ok h2
      refine ⟨p :: ps, .cons rfl r1, by simp [r2], fun i q u e1 e2 H => ?_⟩
      match i, e1, e2 with
      | 0, e1, e2 =>
        cases e1
        cases e2
        exact tupB_ok h1 H
      | i + 1, e1, e2 => exact r3 i q u e1 e2 H
    | _ => cases h
  | [], _ :: _, h => by cases h
  | v :: _, [], h => by cases v <;> cases h
def Ent (K : PySem.W.Frag) (x k : Str) (ws : List (List Str)) : Prop := ∃ (p : Addr) (ps : List Addr), PySem.W.nsIn K (ga K x) k = some (some (.ref p)) ∧ (∀ H, SqT K H p (ps.map V.ref)) ∧ ps.length = ws.length ∧
  ∀ (i : Nat) (p : Addr) (w : List Str), ps[i]? = some p → ws[i]? = some w → ∀ H, SqT K H p (w.map V.str)
theorem entB_ok {K : PySem.W.Frag} {x k : Str} {ws : List (List Str)} (h : entB K x k ws = true) : Ent K x k ws := by
  unfold entB at h
  split at h
  · rename_i p e
    unfold tupTB at h
    split at h
    · rename_i c d its n sl e2
      obtain ⟨h1, h2⟩ := ba h
      obtain ⟨h2, h3⟩ := ba h2
      obtain rfl := of_decide_eq_true h1
      obtain ⟨ps, r1, r2, r3⟩ := tupsB_ok h2
      exact ⟨p, ps, e, fun H => .inr ⟨_, its, _, e2, rfl, rfl, Nat.le_trans (of_decide_eq_true h3) (by decide), r1⟩, r2, r3⟩
    · cases h
  · cases h
/-- the keyword default n of the def at f, if it is an object -/
def kwA (f : Str × Option Str) (n : Str) (K : PySem.W.Frag) : Addr := match K.lookup (fAd K f) with
  | some ⟨_, _, .func fd, _⟩ => (match fd.kwdefaults with
    | .ref D => (match PySem.W.nsIn K D n with
      | some (some (.ref a)) => a
      | _ => 0)
    | _ => 0)
  | _ => 0
/-- an own class with an own ==, none of its instances can be called -/
def ownB (K : PySem.W.Frag) (x : Str) : Bool :=
  decide (PySem.W.findIn K (.ref (ga K x)) "__ne__" = some (some (.builtin "object.__ne__"))) && (
  decide (PySem.W.subIn K (.ref (ga K x)) (.type "object") = some true) && (
  decide (PySem.W.kitOne K (.ref (ga K x)) (.ref (ga K x)) = some true) && (
  decide (PySem.W.findIn K (.ref (ga K x)) "__class__" = some (some (.builtin "object.__class__"))) && (
  decide (PySem.W.mroIn K (ga K x) (.type "object") = some true) && (
  (["tuple", "list", "dict", "int", "bool", "str", "NoneType"] : List String).all fun t => decide (PySem.W.kitOne K (.type t) (.ref (ga K x)) = some false) && decide (PySem.W.subIn K (.type t) (.ref (ga K x)) = some false))))))
structure OwnC (K : PySem.W.Frag) (x : Str) : Prop where
  ne : PySem.W.findIn K (.ref (ga K x)) "__ne__" = some (some (.builtin "object.__ne__"))
  ob : PySem.W.subIn K (.ref (ga K x)) (.type "object") = some true
  kk : PySem.W.kitOne K (.ref (ga K x)) (.ref (ga K x)) = some true
  cls : PySem.W.findIn K (.ref (ga K x)) "__class__" = some (some (.builtin "object.__class__"))
  mro : PySem.W.mroIn K (ga K x) (.type "object") = some true
  kt : ∀ t ∈ (["tuple", "list", "dict", "int", "bool", "str", "NoneType"] : List String), PySem.W.kitOne K (.type t) (.ref (ga K x)) = some false ∧ PySem.W.subIn K (.type t) (.ref (ga K x)) = some false
theorem ownB_ok {K : PySem.W.Frag} {x : Str} (h : ownB K x = true) : OwnC K x := by
  unfold ownB at h
  obtain ⟨q1, h⟩ := ba h
  obtain ⟨q2, h⟩ := ba h
  obtain ⟨q3, h⟩ := ba h
  obtain ⟨q4, h⟩ := ba h
  obtain ⟨q5, q6⟩ := ba h
  have d := fun {p : Prop} [Decidable p] (z : decide p = true) => of_decide_eq_true z
  exact ⟨d q1, d q2, d q3, d q4, d q5, fun t ht => ⟨d (ba (List.all_eq_true.mp q6 t ht)).1, d (ba (List.all_eq_true.mp q6 t ht)).2⟩⟩
end VH

set_option maxRecDepth 100000
set_option maxHeartbeats 0
namespace K08
open PySem PySem.Spec PyProof.Rows L2 He VH
def top (i : Nat) : Stmt := PySem.Challenge.pw_fillbehind_k08_phases.main.body.getD i (.Pass ⟨0, 0, 0, 0⟩)
def ex (K : PySem.W.Frag) : Bool := dcB K && (clB K "NoPhase" ["part"] && (tupB K (ga K "PROMISES") ["right", "mild", "kept", "once"] && (tupB K (ga K "WAITS") ["done", "drained"] && (ownB K "Phase" && (tupB K (kwA ("Phase", some "__init__") "writers" K) [] && (tupB K (kwA ("Phase", some "__init__") "promises" K) [] && (tupB K (kwA ("Phase", some "__init__") "waits" K) [] && ((["NoPhase"] : List Str).all fun c => (["NoPhase", "FillError"] : List Str).all fun d => decide (PySem.W.exmOne K (.ref (ga K c)) (.ref (ga K d)) = some (d == c || d == "FillError"))))))))))
def names : List PySem.Str := ["is_word", "are_words", "is_sequence", "is_name", "are_names", "_law_draw", "_law_well", "_law_one", "_law_said", "_law_part", "_law_parts", "_law_made", "_law_told", "PROMISES", "WAITS", "Phase", "NoPhase", "FillError", "LETTERS"]
def fa0 : List He.Fa := [.glo "FillError", .glo "is_word", .glo "are_words", .glo "is_sequence", .glo "is_name", .glo "are_names", .glo "_law_draw", .glo "_law_well", .glo "_law_one", .glo "_law_said", .glo "_law_part", .glo "_law_parts", .glo "_law_made", .glo "_law_told", .glo "law", .glo "PROMISES", .glo "WAITS", .glo "Phase", .free "len", .free "int", .free "range", .free "isinstance", .free "tuple", .free "bool"]
def fa1 : List He.Fa := [.free "str", .free "list", .free "all", .free "set", .free "ValueError", .str "LETTERS" "abcdefghijklmnopqrstuvwxyz", .cls "Phase", .noat "Phase" "fills", .noat "Phase" "name", .noat "Phase" "promises", .noat "Phase" "waits", .noat "Phase" "writers", .meth "Phase" "__init__", .meth "Phase" "__eq__", .mkr "Phase"]
def fa : List He.Fa := fa0 ++ (fa1)
def dd (i : Nat) (x : Str) : He.DefD := ⟨(x, none), x, x, defArgs (top i), defBody (top i), defScope (top i), [], []⟩
def dm (i : Nat) (x : Str) (j : Nat) (m q : Str) : He.DefD := ⟨(x, some m), m, q, defArgs (inClass (top i) j), defBody (inClass (top i) j), defScope (inClass (top i) j), [], []⟩
def fn : List He.DefD := [dd 5 "is_word", dd 6 "are_words", dd 7 "is_sequence", dd 8 "is_name", dd 9 "are_names", dd 15 "_law_draw", dd 16 "_law_well", dd 17 "_law_one", dd 18 "_law_said", dd 19 "_law_part", dd 20 "_law_parts", dd 21 "_law_made", dd 22 "_law_told", dd 23 "law", dm 2 "NoPhase" 0 "__init__" "NoPhase.__init__", ⟨("Phase", some "__init__"), "__init__", "Phase.__init__", defArgs (inClass (top 13) 0), defBody (inClass (top 13) 0), defScope (inClass (top 13) 0), [], [("writers", .adr (kwA ("Phase", some "__init__") "writers")), ("fills", .bl false), ("promises", .adr (kwA ("Phase", some "__init__") "promises")), ("waits", .adr (kwA ("Phase", some "__init__") "waits"))]⟩, dm 13 "Phase" 1 "__eq__" "Phase.__eq__"]
abbrev R : PySem.W.OpenRow := PySem.W.OpenLaw.row PySem.Challenge.rw_fillbehind_k08_phases
/-- the defs whose lambdas are made, the written dicts -/
def tf : List He.Defn := [("law", none)]
def ts : List He.Tab := []
abbrev hk : PySem.W.Hook := He.hookX 5 fa fn ts tf ex
def ob (s : PySem.W.SharedT) : He.AlX := He.obsX 5 fa fn ts tf ex (HandSHeadRun.getT s)
theorem ob_eq (s : PySem.W.SharedT) : ob s = hk.obs s.abs := He.obsX_eq (HandSHeadRun.getT_eq s)
theorem run (w : World) : HandSHeadRun.RunEq R (PySem.W.view R.prog [23]) hk ob 20000 names w := by
  intro os
  kernel_rfl
end K08

set_option maxRecDepth 100000
set_option maxHeartbeats 4000000
/-! What every law's draws are made of: a list of three ints. -/
namespace L2
open PySem PySem.Spec PyProof.Rows
/-- two lists that are read, wherever they stand -/
def rCatR (K : PySem.W.Frag) : R2 := fun x y H Q => ∃ l b xs zs, x = .ref l ∧ y = .ref b ∧ SqL K H l xs ∧ SqL K H b zs ∧ xs.length + zs.length ≤ sizeLine ∧ ∀ p, H p = none → Q (.ref p) (upd H p (.lst (xs ++ zs)))
theorem op_catR {X : Cx} : OpR X (binaryOp .Add) (rCatR X.K) := by
  intro pins s σ H x y v u Q I rx ry h
  obtain ⟨l, b, xs, zs, rfl, rfl, a1, a2, few, q⟩ := h
  cases rx
  cases ry
  obtain ⟨i1, r1, ⟨⟨c1, d1, t1, s1⟩, n1, g1, p1, _, q1⟩, _⟩ := I.list a1
  obtain ⟨i2, r2, ⟨⟨c2, d2, t2, s2⟩, n2, g2, p2, _, q2⟩, _⟩ := I.list a2
  simp only at p1 q1 p2 q2
  subst p1 q1 p2 q2
  have ea : i1.toArray ++ i2.toArray = (i1 ++ i2).toArray := by simp
  refine PySem.concat_meets ⟨_, g1, rfl⟩ ⟨_, g2, rfl⟩ noFill_list_add seq_list_add PySem.F.slot_list_add PySem.F.entry_list_add (PySem.F.args_list_add_2 _ _)
    (list_addW l b i1.toArray i2.toArray n1 n2 d1 d2 s1 s2 (by rw [List.size_toArray, List.size_toArray, ← r1.length, ← r2.length]; omega)) ⟨g1, g2, ?_⟩
  rw [ea]
  exact ⟨.ref _, _, I.lnew (t' := s.toks) (r1.append r2) (by rw [List.length_append]; omega), rfl, q _ I.fresh⟩
/-- at a: a well -/
def Well (H : Hp) (a : Addr) : Prop := ∃ c b n : Int, H a = some (.lst [.int c, .int b, .int n])
/-- all but a is as it was -/
def But (a : Addr) (H H' : Hp) : Prop := ∀ b o, b ≠ a → H b = some o → H' b = some o
theorem But.same {a : Addr} {H H1 H' : Hp} (s : Same H H1) (h : But a H1 H') : But a H H' := fun b o n e => h b o n (s b o e)
theorem But.trans {a : Addr} {H H1 H' : Hp} (s : But a H H1) (h : But a H1 H') : But a H H' := fun b o n e => h b o n (s b o n e)
theorem But.upd {a : Addr} {H : Hp} {o : HO} : But a H (upd H a o) := fun b u n e => by rw [upd_ne n]; exact e
theorem But.of {a : Addr} {H H' : Hp} (s : Same H H') : But a H H' := fun b u _ e => s b u e
/-- the draw: an int below much -/
def spDraw : Sp := fun vs H Q _ => ∃ (a : Addr) (m : Int), vs = [.ref a, .int m] ∧ Well H a ∧ 0 < m ∧ m < 1073741824 ∧ ∀ (H' : Hp) (d : Int), 0 ≤ d → d < m → Well H' a → But a H H' → Q (.int d) H'
/-- the well of a number -/
def spWell (K : PySem.W.Frag) : Sp := fun vs H Q _ => ∃ (a : Addr) (ns : List Int) (k : Nat), vs = [.ref a, .int k] ∧ SqL K H a (ns.map V.int) ∧ ns.length ≤ 63 ∧ k ≤ 63 ∧ ∀ (H' : Hp) (p : Addr), H p = none → Well H' p → Same H H' → Q (.ref p) H'
/-- one of a list's items -/
def spOne (K : PySem.W.Frag) : Sp := fun vs H Q _ => ∃ (a l : Addr) (xs : List V), vs = [.ref a, .ref l] ∧ Well H a ∧ l ≠ a ∧ H l = some (.lst xs) ∧ 0 < xs.length ∧ xs.length < 1073741824 ∧ ∀ (H' : Hp) (x : V), x ∈ xs → Well H' a → But a H H' → Q x H'
theorem Same.new {H : Hp} {l : Addr} {o : HO} (n : H l = none) : Same H (upd H l o) := fun b u e => by
  rw [upd_ne (ne_of_none e n)]
  exact e
theorem Same.rd {H H' : Hp} {a : Addr} {u : HO} (e : Same H H') (r : Rd H a u) : Rd H' a u := by
  rcases r with r | ⟨o, r⟩
  · exact .inl (e _ _ r)
  · exact .inr ⟨o, e _ _ r⟩
theorem atI_some {α : Type} {xs : List α} {d : Int} (h0 : 0 ≤ d) (h1 : d < xs.length) : ∃ x, x ∈ xs ∧ atI xs d = some x := by
  obtain ⟨j, rfl⟩ : ∃ j : Nat, d = (j : Int) := ⟨d.toNat, by omega⟩
  have lt : j < xs.length := by omega
  exact ⟨xs[j], List.getElem_mem lt, atI_nat (List.getElem?_eq_getElem lt)⟩
end L2

set_option maxRecDepth 100000
set_option maxHeartbeats 4000000
/-! The promise of an own exception's __init__ that keeps its arguments as fields; making one. -/
namespace L2
open PySem PySem.Spec PyProof.Rows He
/-- .. new: its dict was not there in H -/
def IsExN (H H' : Hp) (a C : Addr) (fs : List (Str × V)) : Prop := (fs = [] ∧ H' a = some (exo a C none)) ∨ ∃ dx, H dx = none ∧ H' a = some (exo a C (some dx)) ∧ H' dx = some (exd dx fs)
theorem IsExN.is {H H' : Hp} {a C : Addr} {fs : List (Str × V)} (h : IsExN H H' a C fs) : IsEx H' a C fs := by
  rcases h with h | ⟨dx, _, h⟩
  · exact .inl h
  · exact .inr ⟨dx, h⟩
def spIni (K : PySem.W.Frag) (names : List Str) : Sp := fun vs H Q _ => ∃ (a C : Addr) (ws : List V), vs = .ref a :: ws ∧ ws.length = names.length ∧ OexC K C ∧ (∀ f ∈ names, PySem.W.findIn K (.ref C) f = some none) ∧
  H a = some (exo a C none) ∧ ∀ H', But a H H' → IsExN H H' a C (names.zip ws).reverse → Q .non H'
theorem ini1 {K : PySem.W.Frag} {f : Str} {vs : List V} {H : Hp} {Q : VK} {E : XK} (h : spIni K [f] vs H Q E) : ∃ (a C : Addr) (v : V), vs = [.ref a, v] ∧ OexC K C ∧ PySem.W.findIn K (.ref C) f = some none ∧ H a = some (exo a C none) ∧
    ∀ dx, H dx = none → dx ≠ a → Q .non (upd (upd H dx (exd dx [(f, v)])) a (exo a C (some dx))) := by
  obtain ⟨a, C, ws, rfl, l, T, no, ha, k⟩ := h
  match ws, l with
  | [v], _ =>
    refine ⟨a, C, v, rfl, T, no f (by simp), ha, fun dx n ne => k _ (fun b o hb e => ?_) (.inr ⟨dx, n, upd_same, ?_⟩)⟩
    · rw [upd_ne hb, upd_ne (ne_of_none e n)]
      exact e
    · rw [upd_ne ne]
      exact upd_same
theorem ini2 {K : PySem.W.Frag} {f g : Str} {vs : List V} {H : Hp} {Q : VK} {E : XK} (h : spIni K [f, g] vs H Q E) : ∃ (a C : Addr) (v u : V), vs = [.ref a, v, u] ∧ OexC K C ∧ PySem.W.findIn K (.ref C) f = some none ∧ PySem.W.findIn K (.ref C) g = some none ∧ H a = some (exo a C none) ∧
    ∀ dx, H dx = none → dx ≠ a → Q .non (upd (upd (upd H dx (exd dx [(f, v)])) a (exo a C (some dx))) dx (exd dx [(g, u), (f, v)])) := by
  obtain ⟨a, C, ws, rfl, l, T, no, ha, k⟩ := h
  match ws, l with
  | [v, u], _ =>
    refine ⟨a, C, v, u, rfl, T, no f (by simp), no g (by simp), ha, fun dx n ne => k _ (fun b o hb e => ?_) (.inr ⟨dx, n, ?_, upd_same⟩)⟩
    · rw [upd_ne (ne_of_none e n), upd_ne hb, upd_ne (ne_of_none e n)]
      exact e
    · rw [upd_ne (Ne.symm ne)]
      exact upd_same
theorem ini0 {K : PySem.W.Frag} {vs : List V} {H : Hp} {Q : VK} {E : XK} (h : spIni K [] vs H Q E) : ∃ a : Addr, vs = [.ref a] ∧ Q .non H := by
  obtain ⟨a, C, ws, rfl, l, T, no, ha, k⟩ := h
  match ws, l with
  | [], _ => exact ⟨a, rfl, k H (fun _ _ _ e => e) (.inl ⟨rfl, ha⟩)⟩
/-- how it binds by place -/
theorem KBn.of {K : PySem.W.Frag} {fd : FuncData} {ps : List Str} {n : Nat} (b : Binds K fd ps []) (l : ps.length = n) : KBn K fd ps n [] (fun us _ => us) (fun vs _ => vs) :=
  ⟨fun s us ws X l1 _ => by
    have h := b s us X (by rw [List.append_nil, l1, l])
    rw [List.append_nil] at h
    exact h, fun r _ => r⟩
/-- .. by name, without defaults -/
theorem FunD.byName {K : PySem.W.Frag} {x qual : Str} {params : Arguments} {body : List Stmt} {scope : Scope} {kws : List (Str × V)} {f : Addr} {fd : FuncData} {ps : List Str} (F : FunD K x qual params body scope [] kws f fd) (n : Nat) (ks : List Str) (g : {α : Type} → List α → List α → List α)
    (rel : ∀ {vs zs : List V} {us ws : List Value}, Vals vs us → Vals zs ws → Vals (g vs zs) (g us ws))
    (h : ∀ (kV doc pm : Value) (an : Option Addr) (cdv ct : Value) (us ws : List Value), us.length = n → ws.length = ks.length → bindArgs (PySem.W.fnOf x qual params body scope .none kV doc pm an cdv ct) ⟨us, ks.zip ws⟩ = pure (ps.zip (g us ws))) :
    KBn K fd ps n ks (fun us ws => g us ws) (fun vs zs => g vs zs) := by
  obtain ⟨oc, od, dV, kV, doc, pm, an, cdv, ct, osl, rfl, lk, hcd, hD, hK⟩ := F.ex
  rcases hD with ⟨_, rfl⟩ | ⟨e, _⟩
  · exact ⟨fun s us ws X l1 l2 => .of_eq (h kV doc pm an cdv ct us ws l1 l2), rel⟩
  · exact absurd rfl e
/-- the reading of C(..) -/
theorem read_mkX {K K' : PySem.W.Frag} {x : Str} {names : List Str} (T : VH.ClOk K x names) {H : Hp} {R : VK} {as : List V} {a : Addr} (ws : List V) (n : H a = none) (eK : K' = K) (l : ws.length = names.length) (hg : as = .ref a :: ws)
    (k : ∀ H', Same H H' → IsEx H' a (ga K x) (names.zip ws).reverse → R .non H') : spIni K' names as (upd H a (exo a (ga K x) none)) R E0 := by
  subst eK
  exact ⟨a, ga K' x, ws, hg, l, T.mkx.toOexC, T.no, upd_same, fun H' bt is => k H' (fun b o e => bt b o (ne_of_none e n) (by
    rw [upd_ne (ne_of_none e n)]
    exact e)) is.is⟩
/-- the reading of raise C(..): Q of the class, the dict, the heap with it -/
theorem read_raise {K K' : PySem.W.Frag} {x : Str} {names : List Str} (T : VH.ClOk K x names) {H : Hp} {Q : XK} {as : List V} {a : Addr} (ws : List V) (n : H a = none) (eK : K' = K) (l : ws.length = names.length) (ne : ws ≠ []) (hg : as = .ref a :: ws)
    (k : ∀ (d : Addr) (H' : Hp), H d = none → Same H H' → H' d = some (.xd (names.zip ws).reverse) → Q (.ref (ga K x)) (some d) H') :
    spIni K' names as (upd H a (exo a (ga K x) none)) (fun v H2 => v = .non ∧ ∃ (d : Addr) (fs : List (Str × V)), H2 a = some (exo a (ga K x) (some d)) ∧ H2 d = some (exd d fs) ∧ H d = none ∧ Q (.ref (ga K x)) (some d) (upd (del H2 a) d (.xd fs))) (fun _ _ _ => False) := by
  subst eK
  refine ⟨a, ga K' x, ws, hg, l, T.mkx.toOexC, T.no, upd_same, fun H' bt is => ⟨rfl, ?_⟩⟩
  rcases is with ⟨z, _⟩ | ⟨dx, nd, e1, e2⟩
  · exfalso
    match ws, names, l, ne with
    | w :: ws, f :: fs, _, _ => simp at z
    | w :: ws, [], l, _ => simp at l
    | [], _, _, ne => exact ne rfl
  · have da : dx ≠ a := fun z => by
      rw [z, upd_same] at nd
      cases nd
    have nd' : H dx = none := by
      rw [upd_ne da] at nd
      exact nd
    refine ⟨dx, _, e1, e2, nd', k dx _ nd' (fun b o e => ?_) upd_same⟩
    have ba' : b ≠ a := ne_of_none e n
    rw [upd_ne (ne_of_none e nd'), del_ne ba']
    exact bt b o ba' (by
      rw [upd_ne ba']
      exact e)
/-- a row of such objects: their classes' names, their fields -/
def ExL (K : PySem.W.Frag) (H : Hp) : List V → List (Str × List (Str × V)) → Prop
  | [], [] => True
  | v :: vs, c :: cs => (∃ a, v = .ref a ∧ IsEx H a (ga K c.1) c.2) ∧ ExL K H vs cs
  | _, _ => False
theorem ExL.same {K : PySem.W.Frag} {H H' : Hp} (e : Same H H') : ∀ {vs : List V} {cs : List (Str × List (Str × V))}, ExL K H vs cs → ExL K H' vs cs
  | [], [], _ => trivial
  | [], _ :: _, h => h.elim
  | _ :: _, [], h => h.elim
  | v :: vs, c :: cs, ⟨⟨a, z, is⟩, h⟩ => ⟨⟨a, z, is.same e⟩, ExL.same e h⟩
theorem ExL.snoc {K : PySem.W.Frag} {H H' : Hp} {a : Addr} {c : Str × List (Str × V)} (e : Same H H') (is : IsEx H' a (ga K c.1) c.2) : ∀ {vs : List V} {cs : List (Str × List (Str × V))}, ExL K H vs cs → ExL K H' (vs ++ [.ref a]) (cs ++ [c])
  | [], [], _ => ⟨⟨a, rfl, is⟩, trivial⟩
  | [], _ :: _, h => h.elim
  | _ :: _, [], h => h.elim
  | v :: vs, d :: cs, ⟨⟨b, z, is'⟩, h⟩ => ⟨⟨b, z, is'.same e⟩, ExL.snoc e is h⟩
theorem ExL.len {K : PySem.W.Frag} {H : Hp} : ∀ {vs : List V} {cs : List (Str × List (Str × V))}, ExL K H vs cs → vs.length = cs.length
  | [], [], _ => rfl
  | [], _ :: _, h => h.elim
  | _ :: _, [], h => h.elim
  | v :: vs, c :: cs, ⟨_, h⟩ => congrArg Nat.succ h.len
theorem ExL.at {K : PySem.W.Frag} {H : Hp} : ∀ {vs : List V} {cs : List (Str × List (Str × V))} {i : Nat} {c : Str × List (Str × V)}, ExL K H vs cs → cs[i]? = some c → ∃ a, vs[i]? = some (.ref a) ∧ IsEx H a (ga K c.1) c.2
  | [], [], _, _, _, e => by cases e
  | [], _ :: _, _, _, h, _ => h.elim
  | _ :: _, [], _, _, h, _ => h.elim
  | v :: vs, d :: cs, 0, c, ⟨⟨a, z, is⟩, _⟩, e => by
    have e' : d = c := Option.some.inj e
    rw [← e']
    exact ⟨a, congrArg some z, is⟩
  | v :: vs, d :: cs, i + 1, c, ⟨_, h⟩, e => ExL.at h (i := i) e
end L2

set_option maxRecDepth 100000
set_option maxHeartbeats 4000000
/-! A comparison by an own method, of an own instance with anything of a known type; whatever the method answers. -/
namespace L2
open PySem PySem.Spec PyProof.Rows
section
variable {X : Cx} {CX : CXT} {C g : Addr} {n : Nat} {sp : Sp} {E : XK} {op : CmpOp}
/-- x op y: x an instance of C, whose method for op has the promise sp; y's type is C, or known to be none below it -/
def rOwnA (K : PySem.W.Frag) (C : Addr) (sp : Sp) (E : XK) (X : Cx) : R2 := fun x y H Q =>
  ∃ (a : Addr) (t : Value), x = .ref a ∧ StX.InsC X H a C ∧ TyX K H y t ∧ PySem.W.notFirst K C t = true ∧ sp [x, y] H Q E
theorem op_ownA (hop : ∀ a b : Value, compareOp op a b = richCompare op a b)
    (hf : PySem.W.findIn X.K (.ref C) (cmpInfo op).2.1 = some (some (.ref g))) (fn : PySem.W.isFn X.K (.ref g) = true)
    (F : FnR X.prog X.w X.K X.mg X.base CX n g sp) (hr : Room n X.A) (hx : Passes CX X E) : OpR X (compareOp op) (rOwnA X.K C sp E X) := by
  intro pins s σ H x y v u Q I rx ry h
  obtain ⟨a, t, rfl, ia, ty, nf, q⟩ := h
  cases (show v = Value.ref a from rx)
  rw [hop]
  obtain ⟨ox, od, at_, _⟩ := StX.insC_at I ia
  obtain ⟨P, kx, hp, _⟩ := kit_of I ry ty
  obtain ⟨m, fr⟩ := I.fr
  have kin : X.K.In s.heap := PySem.W.Frag.In.keeps I.ok.mod.kin fr.keep
  have un : X.A.units < cLine := by
    have := hr.un
    omega
  refine PySem.W.cmp_K un fr I.ok.mod.kin at_ (kx.ty _ _ kin hp) nf hf fn (wpAny_call ?_)
  refine codeAny_mono (SlX.run_at F hr I.env0 hx I (.cons rx (.cons ry .nil)) q) fun r s' z => ?_
  split at z
  · obtain ⟨w', H', I', rw', q'⟩ := z
    exact SlX.cmpback rw' ⟨w', H', I', rw', q'⟩
  · exact z.elim
  · exact z
end
end L2

set_option maxRecDepth 100000
set_option maxHeartbeats 4000000
/-! != of an own instance whose class has an own __eq__ and object's __ne__, with anything of a known type. -/
namespace PySem.W
open PySem PySem.Spec PySem.Calls PyProof.Rows
section
variable {prog : Program} {w : World} {A : Around} {E : Value → Shared → Prop} {s : Shared} {K : Frag} {x C g : Addr} {ox : Obj} {od : Option Obj} {b : Value}
theorem ifBound_ne {Q : Option Value → Shared → Prop} (hu : A.units + 1 < cLine) (X : K.In s.heap) (I : InstAt s.heap x ox C od)
    (hn : findIn K (.ref C) "__ne__" = some (some (.builtin "object.__ne__"))) (ho : subIn K (.ref C) (.type "object") = some true)
    (he : findIn K (.ref C) "__eq__" = some (some (.ref g))) (fn : isFn K (.ref g) = true)
    (h : wpAny (model prog w) A.in1 (call (.ref g) [.ref x, b]) (fun v s' => ∃ c, v = .bool c ∧ Q (some (.bool !c)) s') E s) :
    wpAny (model prog w) A (callSpecialIfBound? (.ref x) "__ne__" [b]) Q E s := by
  have fin : wpAny (model prog w) A (call (.builtin "object.__ne__") ([.ref x] ++ [b]) >>= fun r => pure (some r)) Q E s := by
    refine wpAny_bind (wpAny_call (codeAny_call_builtin PySem.F.slot_object_ne.plain PySem.F.entry_object_ne ?_))
    have sub : Looks (model prog w) s.heap (isInstance (.ref x) (.type "object")) true := (I.type (M := model prog w)).andThen (looks_subIn X ho)
    refine check_slot (n := "__ne__") (owner := "object") (by decide +kernel) (by decide +kernel) sub (PySem.F.args_object_ne_2 (.ref x) b) ?_
    unfold Builtin.«object.__ne__»
    refine wpAny_bind (wpAny_of_eq (a := ((Value.ref x : Value), [b])) (by
      first | rfl | (simp only [slotArgs]; rfl)) ?_)
    refine wpAny_bind (wpAny_cRoomFor hu ?_)
    refine wpAny_bind (ifBound_K X I he fn (wpAny_mono h (fun v s' z => ?_) (fun _ _ z => z)))
    obtain ⟨c, rfl, q⟩ := z
    show wpAny _ _ (truthy (.bool c) >>= fun t => ret (.bool !t)) _ _ _
    refine wpAny_bind (wpAny_of_eq (a := c) (by rfl) ?_)
    exact wpAny_pure (wpAny_pure q)
  unfold callSpecialIfBound? bindSpecialIfBound? specialOf
  refine wpAny_holding (wpAny_bind (wpAny_bind (wpAny_bind ((I.type (M := model prog w)).here ((looks_findIn (M := model prog w) X hn).here ?_)))))
  refine wpAny_bind (wpAny_askSetting ?_)
  have bnd : bindSpecial (Value.builtin "object.__ne__") (.ref x) = pure (Value.builtin "object.__ne__", [.ref x]) := PySem.F.slot_object_ne.bind _
  show wpAny _ _ (if _ then _ else _) _ _ _
  rw [bnd]
  refine wpAny_ite ?_
  split
  · exact wpAny_bind (wpAny_pure (wpAny_pure fin))
  · exact wpAny_tryCatch (wpAny_bind (wpAny_pure (wpAny_pure fin)))
end
end PySem.W
namespace PySem.W
open PySem PySem.Spec PySem.Calls PyProof.Rows
section
variable {prog : Program} {w : World} {A : Around} {E : Value → Shared → Prop} {s : Shared} {K : Frag} {x C g : Addr} {ox : Obj} {od : Option Obj} {b tb : Value}
theorem cmp_ne {Q : Value → Shared → Prop} (hu : A.units + 1 < cLine) (X : K.In s.heap) (I : InstAt s.heap x ox C od)
    (hb : Looks (model prog w) s.heap (typeOf b) tb) (nf : notFirst K C tb = true)
    (hn : findIn K (.ref C) "__ne__" = some (some (.builtin "object.__ne__"))) (ho : subIn K (.ref C) (.type "object") = some true)
    (he : findIn K (.ref C) "__eq__" = some (some (.ref g))) (fn : isFn K (.ref g) = true)
    (h : wpAny (model prog w) A.in1 (call (.ref g) [.ref x, b]) (fun v s' => ∃ c, v = .bool c ∧ Q (.bool !c) s') E s) :
    wpAny (model prog w) A (richCompare .NotEq (.ref x) b) Q E s := by
  have one : wpAny (model prog w) A (tryCompare (.ref x) "__ne__" b) (fun r s' => ∃ v, r = some v ∧ Q v s') E s := by
    unfold tryCompare
    refine wpAny_bind (ifBound_ne hu X I hn ho he fn (wpAny_mono h (fun v s' z => ?_) (fun _ _ z => z)))
    obtain ⟨c, rfl, q⟩ := z
    exact ⟨c, rfl, wpAny_pure ⟨_, rfl, q⟩⟩
  unfold richCompare
  refine wpAny_holding (wpAny_bind (wpAny_cRoomFor (by omega) ?_))
  refine wpAny_bind ((I.type (M := model prog w)).here (wpAny_bind (hb.here ?_)))
  unfold notFirst at nf
  refine wpAny_ite ?_
  split
  · rename_i ne
    have sb : subIn K tb (.ref C) = some false := by
      rcases Bool.or_eq_true_iff.mp nf with q | q
      · have e : tb = .ref C := eq_of_beq q
        subst e
        simp at ne
      · exact eq_of_beq q
    refine wpAny_bind ((looks_subIn X sb).here ?_)
    show wpAny _ _ (tryCompare (.ref x) "__ne__" b >>= _) _ _ _
    exact wpAny_bind (wpAny_mono one (fun r s' z => by
      obtain ⟨v, rfl, q⟩ := z
      exact wpAny_pure q) (fun _ _ z => z))
  · refine wpAny_bind (wpAny_pure ?_)
    show wpAny _ _ (tryCompare (.ref x) "__ne__" b >>= _) _ _ _
    exact wpAny_bind (wpAny_mono one (fun r s' z => by
      obtain ⟨v, rfl, q⟩ := z
      exact wpAny_pure q) (fun _ _ z => z))
end
end PySem.W
namespace L2
open PySem PySem.Spec PyProof.Rows
section
variable {X : Cx} {CX : CXT} {C g : Addr} {n : Nat} {sp : Sp} {E : XK}
/-- x != y by C's own __eq__ -/
def rNeA (K : PySem.W.Frag) (C : Addr) (sp : Sp) (E : XK) (X : Cx) : R2 := fun x y H Q =>
  ∃ (a : Addr) (t : Value), x = .ref a ∧ StX.InsC X H a C ∧ TyX K H y t ∧ PySem.W.notFirst K C t = true ∧
    sp [x, y] H (fun z H' => ∃ c : Bool, z = .bl c ∧ Q (.bl !c) H') E
theorem op_neA (hn : PySem.W.findIn X.K (.ref C) "__ne__" = some (some (.builtin "object.__ne__"))) (ho : PySem.W.subIn X.K (.ref C) (.type "object") = some true)
    (he : PySem.W.findIn X.K (.ref C) "__eq__" = some (some (.ref g))) (fn : PySem.W.isFn X.K (.ref g) = true)
    (F : FnR X.prog X.w X.K X.mg X.base CX n g sp) (hr : Room (n + 1) X.A) (hx : Passes CX X E) : OpR X (compareOp .NotEq) (rNeA X.K C sp E X) := by
  intro pins s σ H x y v u Q I rx ry h
  obtain ⟨a, t, rfl, ia, ty, nf, q⟩ := h
  cases (show v = Value.ref a from rx)
  show wpAny _ _ (richCompare .NotEq _ _) _ _ _
  obtain ⟨ox, od, at_, _⟩ := StX.insC_at I ia
  obtain ⟨P, kx, hp, _⟩ := kit_of I ry ty
  obtain ⟨m, fr⟩ := I.fr
  have kin : X.K.In s.heap := PySem.W.Frag.In.keeps I.ok.mod.kin fr.keep
  have un : X.A.units + 1 < cLine := by
    have := hr.un
    omega
  have sub : Sub X n X.A.in1 := Sub.in1 ⟨hr, rfl⟩
  have en : Env0 X.prog X.w X.K X.mg X.base X.A.in1 X.stack s H := by
    have e := I.env0
    exact ⟨e.frames, e.mod, e.bs, e.bsz, e.funs, e.frf, e.hok, e.bare⟩
  refine PySem.W.cmp_ne un kin at_ (kx.ty _ _ kin hp) nf hn ho he fn (wpAny_call ?_)
  refine codeAny_mono (SlX.run_at F sub.room en hx I (.cons rx (.cons ry .nil)) q) fun r s' z => ?_
  split at z
  · obtain ⟨w', H', I', rw', c, rfl, q'⟩ := z
    exact ⟨c, rw', .bl !c, H', I', rfl, q'⟩
  · exact z.elim
  · exact z
end
end L2

set_option maxRecDepth 100000
set_option maxHeartbeats 4000000
namespace L2
open PySem PySem.Spec PyProof.Rows He
/-- the reading of raise C(..) -/
theorem read_rz {K K' : PySem.W.Frag} {x : Str} {names : List Str} (T : VH.ClOk K x names) {H : Hp} {R : VK} {as : List V} {a : Addr} (ws : List V) (n : H a = none) (eK : K' = K) (l : ws.length = names.length) (ne : ws ≠ []) (hg : as = .ref a :: ws)
    (k : ∀ (d : Addr) (H2 : Hp), H2 a = some (exo a (ga K x) (some d)) → H2 d = some (exd d (names.zip ws).reverse) → H d = none → Same H (upd (del H2 a) d (.xd (names.zip ws).reverse)) → R .non H2) :
    spIni K' names as (upd H a (exo a (ga K x) none)) R (fun _ _ _ => False) := by
  subst eK
  refine ⟨a, ga K' x, ws, hg, l, T.mkx.toOexC, T.no, upd_same, fun H' bt is => ?_⟩
  rcases is with ⟨z, _⟩ | ⟨dx, nd, e1, e2⟩
  · exfalso
    match ws, names, l, ne with
    | w :: ws, f :: fs, _, _ => simp at z
    | w :: ws, [], l, _ => simp at l
    | [], _, _, ne => exact ne rfl
  · have da : dx ≠ a := fun z => by
      rw [z, upd_same] at nd
      cases nd
    have nd' : H dx = none := by
      rw [upd_ne da] at nd
      exact nd
    refine k dx H' e1 e2 nd' (fun b o e => ?_)
    have ba' : b ≠ a := ne_of_none e n
    rw [upd_ne (ne_of_none e nd'), del_ne ba']
    exact bt b o ba' (by
      rw [upd_ne ba']
      exact e)
end L2

set_option maxRecDepth 100000
set_option maxHeartbeats 4000000
namespace K08
open PySem PySem.Spec PyProof.Rows L2 He VH
abbrev FnP (K : PySem.W.Frag) (x : Str) (st : Stmt) (f : Addr) (fd : FuncData) : Prop := FunD K x x (defArgs st) (defBody st) (defScope st) [] [] f fd
abbrev FnM (K : PySem.W.Frag) (m q : Str) (i j : Nat) (f : Addr) (fd : FuncData) : Prop := FunD K m q (defArgs (inClass (top i) j)) (defBody (inClass (top i) j)) (defScope (inClass (top i) j)) [] [] f fd
/-- what the written part says -/
structure Txt (K : PySem.W.Frag) (mg : Str → Option Value) (w : World) : Prop where
  x_NoPhase : ClOk K "NoPhase" ["part"]
  m_NoPhase : mg "NoPhase" = some (.ref (ga K "NoPhase"))
  t_PROMISES : ∀ H, SqT K H (ga K "PROMISES") ((["right", "mild", "kept", "once"] : List Str).map V.str)
  t_WAITS : ∀ H, SqT K H (ga K "WAITS") ((["done", "drained"] : List Str).map V.str)
  o_Phase : OwnC K "Phase"
  k_Phase_writers : ∀ H, SqT K H (kwA ("Phase", some "__init__") "writers" K) []
  k_Phase_promises : ∀ H, SqT K H (kwA ("Phase", some "__init__") "promises" K) []
  k_Phase_waits : ∀ H, SqT K H (kwA ("Phase", some "__init__") "waits" K) []
  xm : ∀ c ∈ (["NoPhase"] : List Str), ∀ d ∈ (["NoPhase", "FillError"] : List Str), PySem.W.exmOne K (.ref (ga K c)) (.ref (ga K d)) = some (d == c || d == "FillError")
  dc1 : PySem.W.specialIn K (.builtin "object.__class__") "__get__" = some (some (.builtin "getset_descriptor.__get__"))
  dc2 : PySem.W.takesIn K (.builtin "object.__class__") = some true
  m_FillError : mg "FillError" = some (.ref (ga K "FillError"))
  m_is_word : mg "is_word" = some (.ref (ga K "is_word"))
  m_are_words : mg "are_words" = some (.ref (ga K "are_words"))
  m_is_sequence : mg "is_sequence" = some (.ref (ga K "is_sequence"))
  m_is_name : mg "is_name" = some (.ref (ga K "is_name"))
  m_are_names : mg "are_names" = some (.ref (ga K "are_names"))
  m_l_draw : mg "_law_draw" = some (.ref (ga K "_law_draw"))
  m_l_well : mg "_law_well" = some (.ref (ga K "_law_well"))
  m_l_one : mg "_law_one" = some (.ref (ga K "_law_one"))
  m_l_said : mg "_law_said" = some (.ref (ga K "_law_said"))
  m_l_part : mg "_law_part" = some (.ref (ga K "_law_part"))
  m_l_parts : mg "_law_parts" = some (.ref (ga K "_law_parts"))
  m_l_made : mg "_law_made" = some (.ref (ga K "_law_made"))
  m_l_told : mg "_law_told" = some (.ref (ga K "_law_told"))
  m_law : mg "law" = some (.ref (ga K "law"))
  m_PROMISES : mg "PROMISES" = some (.ref (ga K "PROMISES"))
  m_WAITS : mg "WAITS" = some (.ref (ga K "WAITS"))
  m_Phase : mg "Phase" = some (.ref (ga K "Phase"))
  g_len : mg "len" = none
  g_int : mg "int" = none
  g_range : mg "range" = none
  g_isinstance : mg "isinstance" = none
  g_tuple : mg "tuple" = none
  g_bool : mg "bool" = none
  g_str : mg "str" = none
  g_list : mg "list" = none
  g_all : mg "all" = none
  g_set : mg "set" = none
  g_ValueError : mg "ValueError" = none
  s_LETTERS : ∃ t, mg "LETTERS" = some (.str "abcdefghijklmnopqrstuvwxyz" t)
  c_Phase : Cls K (ga K "Phase")
  n_Phase_fills : PySem.W.findIn K (.ref (ga K "Phase")) "fills" = some none
  n_Phase_name : PySem.W.findIn K (.ref (ga K "Phase")) "name" = some none
  n_Phase_promises : PySem.W.findIn K (.ref (ga K "Phase")) "promises" = some none
  n_Phase_waits : PySem.W.findIn K (.ref (ga K "Phase")) "waits" = some none
  n_Phase_writers : PySem.W.findIn K (.ref (ga K "Phase")) "writers" = some none
  h_Phase_init : Meth K (ga K "Phase") "__init__" (ma K (ga K "Phase") "__init__")
  h_Phase_eq : Meth K (ga K "Phase") "__eq__" (ma K (ga K "Phase") "__eq__")
  mk_Phase : Mk K (ga K "Phase") (ma K (ga K "Phase") "__init__")
theorem txt_of {w : World} {K : PySem.W.Frag} {h : Heap} {mg : Str → Option Value} (X : K.In h) (G : h.Ns mainGlobals mg) (cx : He.SaysX fa fn ts tf ex w h K) : Txt K mg w := by
  have g : SaysD fa fn K := cx.t.d
  have e := cx.more
  unfold ex at e
  obtain ⟨e0, z0⟩ := ba e
  obtain ⟨e1, z1⟩ := ba z0
  obtain ⟨e2, z2⟩ := ba z1
  obtain ⟨e3, z3⟩ := ba z2
  obtain ⟨e4, z4⟩ := ba z3
  obtain ⟨e5, z5⟩ := ba z4
  obtain ⟨e6, z6⟩ := ba z5
  obtain ⟨e7, z7⟩ := ba z6
  unfold dcB at e0
  obtain ⟨q1, q2⟩ := ba e0
  exact { x_NoPhase := clB_ok e1, m_NoPhase := PySem.W.mg_of X G (clB_ok e1).gl, t_PROMISES := tupB_ok e2, t_WAITS := tupB_ok e3, o_Phase := ownB_ok e4, k_Phase_writers := tupB_ok (ws := []) e5, k_Phase_promises := tupB_ok (ws := []) e6, k_Phase_waits := tupB_ok (ws := []) e7, xm := fun c hc x hx => of_decide_eq_true (List.all_eq_true.mp (List.all_eq_true.mp z7 c hc) x hx), dc1 := of_decide_eq_true q1, dc2 := of_decide_eq_true q2, m_FillError := glo_ok X G (g.fact 0 (f := .glo "FillError") rfl), m_is_word := glo_ok X G (g.fact 1 (f := .glo "is_word") rfl), m_are_words := glo_ok X G (g.fact 2 (f := .glo "are_words") rfl), m_is_sequence := glo_ok X G (g.fact 3 (f := .glo "is_sequence") rfl), m_is_name := glo_ok X G (g.fact 4 (f := .glo "is_name") rfl), m_are_names := glo_ok X G (g.fact 5 (f := .glo "are_names") rfl), m_l_draw := glo_ok X G (g.fact 6 (f := .glo "_law_draw") rfl), m_l_well := glo_ok X G (g.fact 7 (f := .glo "_law_well") rfl), m_l_one := glo_ok X G (g.fact 8 (f := .glo "_law_one") rfl), m_l_said := glo_ok X G (g.fact 9 (f := .glo "_law_said") rfl), m_l_part := glo_ok X G (g.fact 10 (f := .glo "_law_part") rfl), m_l_parts := glo_ok X G (g.fact 11 (f := .glo "_law_parts") rfl), m_l_made := glo_ok X G (g.fact 12 (f := .glo "_law_made") rfl), m_l_told := glo_ok X G (g.fact 13 (f := .glo "_law_told") rfl), m_law := glo_ok X G (g.fact 14 (f := .glo "law") rfl), m_PROMISES := glo_ok X G (g.fact 15 (f := .glo "PROMISES") rfl), m_WAITS := glo_ok X G (g.fact 16 (f := .glo "WAITS") rfl), m_Phase := glo_ok X G (g.fact 17 (f := .glo "Phase") rfl), g_len := free_ok X G (g.fact 18 (f := .free "len") rfl), g_int := free_ok X G (g.fact 19 (f := .free "int") rfl), g_range := free_ok X G (g.fact 20 (f := .free "range") rfl), g_isinstance := free_ok X G (g.fact 21 (f := .free "isinstance") rfl), g_tuple := free_ok X G (g.fact 22 (f := .free "tuple") rfl), g_bool := free_ok X G (g.fact 23 (f := .free "bool") rfl), g_str := free_ok X G (g.fact 24 (f := .free "str") rfl), g_list := free_ok X G (g.fact 25 (f := .free "list") rfl), g_all := free_ok X G (g.fact 26 (f := .free "all") rfl), g_set := free_ok X G (g.fact 27 (f := .free "set") rfl), g_ValueError := free_ok X G (g.fact 28 (f := .free "ValueError") rfl), s_LETTERS := str_ok X G (g.fact 29 (f := .str "LETTERS" "abcdefghijklmnopqrstuvwxyz") rfl), c_Phase := cls_ok (g.fact 30 (f := .cls "Phase") rfl), n_Phase_fills := noat_ok (g.fact 31 (f := .noat "Phase" "fills") rfl), n_Phase_name := noat_ok (g.fact 32 (f := .noat "Phase" "name") rfl), n_Phase_promises := noat_ok (g.fact 33 (f := .noat "Phase" "promises") rfl), n_Phase_waits := noat_ok (g.fact 34 (f := .noat "Phase" "waits") rfl), n_Phase_writers := noat_ok (g.fact 35 (f := .noat "Phase" "writers") rfl), h_Phase_init := meth_ok (g.fact 36 (f := .meth "Phase" "__init__") rfl), h_Phase_eq := meth_ok (g.fact 37 (f := .meth "Phase" "__eq__") rfl), mk_Phase := mkr_ok (g.fact 38 (f := .mkr "Phase") rfl) }
/-- all defs and methods -/
structure Fns (K : PySem.W.Frag) : Prop where
  f_is_word : ∃ fd, FnP K "is_word" (top 5) (ga K "is_word") fd
  f_are_words : ∃ fd, FnP K "are_words" (top 6) (ga K "are_words") fd
  f_is_sequence : ∃ fd, FnP K "is_sequence" (top 7) (ga K "is_sequence") fd
  f_is_name : ∃ fd, FnP K "is_name" (top 8) (ga K "is_name") fd
  f_are_names : ∃ fd, FnP K "are_names" (top 9) (ga K "are_names") fd
  f_l_draw : ∃ fd, FnP K "_law_draw" (top 15) (ga K "_law_draw") fd
  f_l_well : ∃ fd, FnP K "_law_well" (top 16) (ga K "_law_well") fd
  f_l_one : ∃ fd, FnP K "_law_one" (top 17) (ga K "_law_one") fd
  f_l_said : ∃ fd, FnP K "_law_said" (top 18) (ga K "_law_said") fd
  f_l_part : ∃ fd, FnP K "_law_part" (top 19) (ga K "_law_part") fd
  f_l_parts : ∃ fd, FnP K "_law_parts" (top 20) (ga K "_law_parts") fd
  f_l_made : ∃ fd, FnP K "_law_made" (top 21) (ga K "_law_made") fd
  f_l_told : ∃ fd, FnP K "_law_told" (top 22) (ga K "_law_told") fd
  f_law : ∃ fd, FnP K "law" (top 23) (ga K "law") fd
  f_NoPhase_init : ∃ fd, FnM K "__init__" "NoPhase.__init__" 2 0 (ma K (ga K "NoPhase") "__init__") fd
  f_Phase_init : ∃ fd, FunD K "__init__" "Phase.__init__" (defArgs (inClass (top 13) 0)) (defBody (inClass (top 13) 0)) (defScope (inClass (top 13) 0)) (([] : List He.Dv).map (He.Dv.v K)) (([("writers", .adr (kwA ("Phase", some "__init__") "writers")), ("fills", .bl false), ("promises", .adr (kwA ("Phase", some "__init__") "promises")), ("waits", .adr (kwA ("Phase", some "__init__") "waits"))] : List (Str × He.Dv)).map fun q => (q.1, He.Dv.v K q.2)) (ma K (ga K "Phase") "__init__") fd
  f_Phase_eq : ∃ fd, FnM K "__eq__" "Phase.__eq__" 13 1 (ma K (ga K "Phase") "__eq__") fd
theorem fns_of {K : PySem.W.Frag} (g : SaysD fa fn K) : Fns K := by
  have a0 := g.def_ 0 (d := dd 5 "is_word") rfl
  have a1 := g.def_ 1 (d := dd 6 "are_words") rfl
  have a2 := g.def_ 2 (d := dd 7 "is_sequence") rfl
  have a3 := g.def_ 3 (d := dd 8 "is_name") rfl
  have a4 := g.def_ 4 (d := dd 9 "are_names") rfl
  have a5 := g.def_ 5 (d := dd 15 "_law_draw") rfl
  have a6 := g.def_ 6 (d := dd 16 "_law_well") rfl
  have a7 := g.def_ 7 (d := dd 17 "_law_one") rfl
  have a8 := g.def_ 8 (d := dd 18 "_law_said") rfl
  have a9 := g.def_ 9 (d := dd 19 "_law_part") rfl
  have a10 := g.def_ 10 (d := dd 20 "_law_parts") rfl
  have a11 := g.def_ 11 (d := dd 21 "_law_made") rfl
  have a12 := g.def_ 12 (d := dd 22 "_law_told") rfl
  have a13 := g.def_ 13 (d := dd 23 "law") rfl
  have a14 := g.def_ 14 (d := dm 2 "NoPhase" 0 "__init__" "NoPhase.__init__") rfl
  have a15 := g.def_ 15 (d := ⟨("Phase", some "__init__"), "__init__", "Phase.__init__", defArgs (inClass (top 13) 0), defBody (inClass (top 13) 0), defScope (inClass (top 13) 0), [], [("writers", .adr (kwA ("Phase", some "__init__") "writers")), ("fills", .bl false), ("promises", .adr (kwA ("Phase", some "__init__") "promises")), ("waits", .adr (kwA ("Phase", some "__init__") "waits"))]⟩) rfl
  have a16 := g.def_ 16 (d := dm 13 "Phase" 1 "__eq__" "Phase.__eq__") rfl
  exact ⟨a0, a1, a2, a3, a4, a5, a6, a7, a8, a9, a10, a11, a12, a13, a14, a15, a16⟩
end K08

set_option maxRecDepth 100000
set_option maxHeartbeats 4000000
/-! What is walked may be a list or a tuple; texts told among values. -/
namespace L2
open PySem PySem.Spec PyProof.Rows
/-- two ways to read what is walked -/
def iOr (a b : TI) : TI := fun σ H R => a σ H R ∨ b σ H R
theorem pi_or {X : Cx} {tg e : Expr} {a b : TI} (ha : PI X tg e a) (hb : PI X tg e b) : PI X tg e (iOr a b) := ⟨fun pins s σ H R I h => h.elim (ha.run pins s σ H R I) (hb.run pins s σ H R I)⟩
/-- a list, or a tuple -/
def SqV (K : PySem.W.Frag) (H : Hp) (a : Addr) (xs : List V) : Prop := SqL K H a xs ∨ SqT K H a xs
theorem SqL.same {K : PySem.W.Frag} {H H' : Hp} {a : Addr} {xs : List V} (h : SqL K H a xs) (s : Same H H') : SqL K H' a xs := by
  rcases h with (h | ⟨o, h⟩) | h
  · exact .inl (.inl (s _ _ h))
  · exact .inl (.inr ⟨o, s _ _ h⟩)
  · exact .inr h
theorem SqT.same {K : PySem.W.Frag} {H H' : Hp} {a : Addr} {xs : List V} (h : SqT K H a xs) (s : Same H H') : SqT K H' a xs := by
  rcases h with (h | ⟨o, h⟩) | h
  · exact .inl (.inl (s _ _ h))
  · exact .inl (.inr ⟨o, s _ _ h⟩)
  · exact .inr h
theorem SqV.same {K : PySem.W.Frag} {H H' : Hp} {a : Addr} {xs : List V} (h : SqV K H a xs) (s : Same H H') : SqV K H' a xs := h.imp (·.same s) (·.same s)
/-- no text, whatever is made besides -/
def NoTx (K : PySem.W.Frag) (H : Hp) (x : V) : Prop := ∀ H', Same H H' → ∃ t, TyX K H' x t ∧ PySem.W.kitOne K t (.type "str") = some false
/-- no list and no tuple -/
def NoSq (K : PySem.W.Frag) (H : Hp) (x : V) : Prop := ∀ H', Same H H' → ∃ t, TyX K H' x t ∧ PySem.W.kitOne K t (.type "list") = some false ∧ PySem.W.kitOne K t (.type "tuple") = some false
theorem NoTx.same {K : PySem.W.Frag} {H H' : Hp} {x : V} (h : NoTx K H x) (s : Same H H') : NoTx K H' x := fun H2 s2 => h H2 (s.trans s2)
theorem NoSq.same {K : PySem.W.Frag} {H H' : Hp} {x : V} (h : NoSq K H x) (s : Same H H') : NoSq K H' x := fun H2 s2 => h H2 (s.trans s2)
/-- each is a text, or no text -/
def Told (K : PySem.W.Frag) (H : Hp) (xs : List V) : Prop := ∀ x ∈ xs, (∃ z : Str, x = .str z ∧ z.length ≤ 1000 ∧ PyData.canLay0 (.str z) = true) ∨ NoTx K H x
theorem Told.same {K : PySem.W.Frag} {H H' : Hp} {xs : List V} (h : Told K H xs) (s : Same H H') : Told K H' xs := fun x hx => (h x hx).imp id (·.same s)
/-- the texts, if all are -/
def txs? : List V → Option (List Str)
  | [] => some []
  | .str z :: l => (txs? l).map (z :: ·)
  | _ :: _ => none
theorem txs_map : ∀ ws : List Str, txs? (ws.map V.str) = some ws
  | [] => rfl
  | w :: ws => by
    show (txs? (ws.map V.str)).map (w :: ·) = _
    rw [txs_map ws]
    rfl
theorem txs_some : ∀ {xs : List V} {ws : List Str}, txs? xs = some ws → xs = ws.map V.str
  | [], ws, h => by cases h; rfl
  | .str z :: l, ws, h => by
    have h : (txs? l).map (z :: ·) = some ws := h
    obtain ⟨u, hu, rfl⟩ := Option.map_eq_some_iff.mp h
    rw [txs_some hu]
    rfl
  | .non :: _, _, h => by cases h
  | .bl _ :: _, _, h => by cases h
  | .int _ :: _, _, h => by cases h
  | .ref _ :: _, _, h => by cases h
  | .ty _ :: _, _, h => by cases h
  | .byt _ :: _, _, h => by cases h
  | .flt _ :: _, _, h => by cases h
/-- a comprehension over a list or a tuple that stays: what is told of it besides may change -/
theorem lc_sqv {K : PySem.W.Frag} {a : Addr} {xs : List V} {g : TG} {tt : TT} {te : TE} {vs : List Nat} {σ : St} {H : Hp} {Q : VK} {j : Nat} (hj : σ[j]? = some (some (.ref a))) (hv : SqV K H a xs) (Pv : Addr → Nat → Hp → Prop) (hk : ∀ D i G, Pv D i G → Same H G)
    (h0 : ∀ D, H D = none → Pv D 0 (upd H D (.lst [])))
    (hs : ∀ D i x G, H D = none → xs[i]? = some x → Pv D i G → g x (wipe σ vs) G fun σ2 H2 => wipe σ2 vs = wipe σ vs ∧ tt σ2 H2 fun b H3 =>
      if b = true then te σ2 H3 fun y H4 => ∃ acc, H4 D = some (.lst acc) ∧ acc.length < sizeLine ∧ Pv D (i + 1) (upd H4 D (.lst (acc ++ [y]))) else Pv D (i + 1) H3) (hd : ∀ D G, Pv D xs.length G → Q (.ref D) G) :
    tLc (iOr (iList K (tVar j)) (iTup K (tVar j))) g tt te vs σ H Q := by
  rcases hv with hv | hv
  · exact .inl ⟨_, hj, a, rfl, ⟨_, hv⟩, fun D nD => lc_list (K := K) (xs := xs) (Pv D) (h0 D nD) (fun i G _ p => SqL.same hv (hk D i G p)) (fun i x G hx p => hs D i x G nD hx p) (hd D)⟩
  · exact .inr ⟨_, hj, a, rfl, ⟨_, hv⟩, fun D nD => lc_tup (K := K) (xs := xs) (Pv D) (h0 D nD) (fun i G _ p => SqT.same hv (hk D i G p)) (fun i x G hx p => hs D i x G nD hx p) (hd D)⟩
theorem rd_notall {wi : TI} {g : TG} {tt : TT} {te : TE} {vs : List Nat} {σ : St} {H : Hp} {r : List V → Hp → VK → Prop} {Q : Bool → Hp → Prop} (h : tLc wi g tt te vs σ H fun x H1 => r [x] H1 fun v H2 => ∃ k, v = .bl k ∧ Q (!k) H2) :
    tNot (tB (tCB r (tCons (tLc wi g tt te vs) tNil))) σ H Q := h
theorem rd_call1 {wi : TI} {g : TG} {tt : TT} {te : TE} {vs : List Nat} {σ : St} {H : Hp} {r : List V → Hp → VK → Prop} {Q : VK} (h : tLc wi g tt te vs σ H fun x H1 => r [x] H1 Q) : tCB r (tCons (tLc wi g tt te vs) tNil) σ H Q := h
theorem rd_seq {t u : TS} {D : Ends} {σ : St} {H : Hp} (h : t { D with nx := u D } σ H) : tSeq t u D σ H := h
theorem rd_if {c : TT} {t u : TS} {D : Ends} {σ : St} {H : Hp} (h : c σ H fun b H1 => if b = true then t D σ H1 else u D σ H1) : tIfS c t u D σ H := h
theorem rd_ret {t : TE} {D : Ends} {σ : St} {H : Hp} (h : t σ H D.rt) : tRet t D σ H := h
theorem rd_asg {t : TE} {g : TG} {D : Ends} {σ : St} {H : Hp} (h : t σ H fun x H1 => g x σ H1 D.nx) : tAsg t g D σ H := h
/-- tuple(x), x a list or a tuple -/
def rTupS (K : PySem.W.Frag) : List V → Hp → VK → Prop := fun xs H Q => ∃ (a : Addr) (ys : List V), xs = [.ref a] ∧ SqV K H a ys ∧ ∀ (t : Addr) (G : Hp), Same H G → SqT K G t ys → Q (.ref t) G
theorem call_tupS {X : Cx} : CallR X (.type "tuple") (rTupS X.K) := by
  intro pins s σ H xs us Q I r h
  obtain ⟨a, ys, rfl, hv, k⟩ := h
  refine call_tuple_of pins s σ H _ us Q I r ⟨a, ys, rfl, ?_⟩
  rcases hv with hv | hv
  · exact .inl ⟨hv, fun l nl => k l _ (fun b o e => by rw [upd_ne (ne_of_none e nl)]; exact e) (SqT.of upd_same)⟩
  · exact .inr ⟨hv, k a H (fun _ _ e => e) hv⟩
/-- all but what is at a -/
theorem SqL.off {K : PySem.W.Frag} {H H' : Hp} {a b : Addr} {xs : List V} (h : SqL K H b xs) (n : ∀ o ys, H a ≠ some (.frz o (.lst ys)) ∧ H a ≠ some (.lst ys)) (e : ∀ c u, c ≠ a → H c = some u → H' c = some u) : SqL K H' b xs := by
  rcases h with (h | ⟨o, h⟩) | h
  · exact .inl (.inl (e _ _ (fun z => (n default xs).2 (z ▸ h)) h))
  · exact .inl (.inr ⟨o, e _ _ (fun z => (n o xs).1 (z ▸ h)) h⟩)
  · exact .inr h
theorem SqT.off {K : PySem.W.Frag} {H H' : Hp} {a b : Addr} {xs : List V} (h : SqT K H b xs) (n : ∀ o ys, H a ≠ some (.frz o (.tup ys)) ∧ H a ≠ some (.tup ys)) (e : ∀ c u, c ≠ a → H c = some u → H' c = some u) : SqT K H' b xs := by
  rcases h with (h | ⟨o, h⟩) | h
  · exact .inl (.inl (e _ _ (fun z => (n default xs).2 (z ▸ h)) h))
  · exact .inl (.inr ⟨o, e _ _ (fun z => (n o xs).1 (z ▸ h)) h⟩)
  · exact .inr h
/-- an own instance's fields are stored: sequences stand -/
theorem SqV.ins {K : PySem.W.Frag} {H H' : Hp} {a b C dx : Addr} {fs : List (Str × V)} {xs : List V} (h : SqV K H b xs) (ha : H a = some (.ins C dx fs)) (e : ∀ c u, c ≠ a → H c = some u → H' c = some u) : SqV K H' b xs :=
  h.imp (fun h => h.off (fun o ys => ⟨(fun z => by rw [ha] at z; cases z), (fun z => by rw [ha] at z; cases z)⟩) e) (fun h => h.off (fun o ys => ⟨(fun z => by rw [ha] at z; cases z), (fun z => by rw [ha] at z; cases z)⟩) e)
theorem SqT.ins {K : PySem.W.Frag} {H H' : Hp} {a b C dx : Addr} {fs : List (Str × V)} {xs : List V} (h : SqT K H b xs) (ha : H a = some (.ins C dx fs)) (e : ∀ c u, c ≠ a → H c = some u → H' c = some u) : SqT K H' b xs :=
  h.off (fun o ys => ⟨(fun z => by rw [ha] at z; cases z), (fun z => by rw [ha] at z; cases z)⟩) e
end L2

set_option maxRecDepth 100000
set_option maxHeartbeats 4000000
/-! set(xs) of a list or tuple of texts, however many and alike: how many it has. -/
namespace STX
open PySem PySem.Spec PyProof.Rows L2 SS
/-- how many unlike ones the first i have -/
def cnt (xs : List Str) : Nat → Nat
  | 0 => 0
  | i + 1 => if (xs.take i).any (· == xs.getD i Str.empty) then cnt xs i else cnt xs i + 1
theorem cnt_le (xs : List Str) : ∀ i, cnt xs i ≤ i
  | 0 => Nat.le_refl _
  | i + 1 => by
    have := cnt_le xs i
    unfold cnt
    split <;> omega
theorem cnt_all {xs : List Str} : ∀ i, i ≤ xs.length → (cnt xs i = i ↔ (xs.take i).Nodup)
  | 0, _ => by simp [cnt]
  | i + 1, h => by
    have lt : i < xs.length := h
    have ih := cnt_all (xs := xs) i (Nat.le_of_lt lt)
    have le := cnt_le xs i
    have eg : xs.getD i Str.empty = xs[i] := by rw [List.getD_eq_getElem?_getD, List.getElem?_eq_getElem lt]; rfl
    have et : xs.take (i + 1) = xs.take i ++ [xs[i]] := by rw [List.take_add_one, List.getElem?_eq_getElem lt]; rfl
    rw [et, List.nodup_append]
    unfold cnt
    rw [eg]
    by_cases m : xs[i] ∈ xs.take i
    · have hb : (xs.take i).any (· == xs[i]) = true := List.any_eq_true.mpr ⟨_, m, beq_self_eq_true _⟩
      rw [if_pos hb]
      refine ⟨fun e => absurd e (by omega), fun e => absurd rfl (e.2.2 _ m _ (List.mem_singleton.mpr rfl))⟩
    · have na : (xs.take i).any (· == xs[i]) = false := by
        cases hb : (xs.take i).any (· == xs[i]) with
        | false => rfl
        | true =>
          obtain ⟨y, hy, e⟩ := List.any_eq_true.mp hb
          rw [eq_of_beq e] at hy
          exact absurd hy m
      rw [na, if_neg (by simp)]
      refine ⟨fun e => ⟨ih.mp (by omega), by simp, fun y hy z hz q => ?_⟩, fun e => ?_⟩
      · rw [List.mem_singleton.mp hz] at q
        exact m (q ▸ hy)
      · have := ih.mpr e.1
        omega
section
variable {prog : Program} {w : World} {A : Around} {R : Result → Shared → Prop} {I S : Addr} {fp wr : List Addr} {G : Array GenState → Array GenState → Prop} {n : Nat} {P : Nat → Value → Prop} {St : Nat → Shared → Prop}
/-- the set at S, the first i of xs in it -/
abbrev Has (prog : Program) (w : World) (S : Addr) (xs : List Str) (i : Nat) (h : Heap) : Prop := h.SetOf (strKind prog w) S (fun k => (xs.take i).any (· == k)) (cnt xs i)
theorem Has.kept {xs : List Str} {i : Nat} {h h' : Heap} (q : Has prog w S xs i h) (k : ∀ o, h.get? S = some o → h'.get? S = some o) : Has prog w S xs i h' := by
  obtain ⟨o, es, ep, t, a, r⟩ := q
  exact ⟨o, es, ep, t, k o a, r⟩
theorem fills (W : WalksS prog w A.in1 I fp wr G n P St) (nf : S ∉ fp) (xs : List Str) (ln : xs.length = n) (few : n < 4000) (val : ∀ i v, P i v → ∃ t, v = .str (xs.getD i Str.empty) t) (d : Nat) :
    ∀ (i : Nat) (s : Shared), n = i + d → St i s → Has prog w S xs i s.heap → (∀ s', Moved (S :: wr) G s s' → Has prog w S xs n s'.heap → R (.ok (.ret .none)) s') →
      codeAny (model prog w) A (.builtin "set.update.loop" ⟨[.ref S, .ref I], []⟩) R s := by
  have nw : S ∉ wr := fun z => nf (W.sub _ z)
  have up : ∀ b ∈ wr, b ∈ S :: wr := fun b z => List.mem_cons_of_mem _ z
  induction d with
  | zero =>
    intro i s e at_ has k
    obtain rfl : n = i := e
    refine codeAny_builtin F.entry_set_update_loop ?_
    rw [Around.under_plainId F.plain_set_update_loop _]
    refine wpAny_bind (W.done s _ _ at_ fun s' mv => ?_)
    exact wpAny_pure (k s' (mv.mono up) (has.kept fun o z => mv.heap S _ nw z))
  | succ d ih =>
    intro i s e at_ has k
    have lt : i < n := by omega
    refine codeAny_builtin F.entry_set_update_loop ?_
    rw [Around.under_plainId F.plain_set_update_loop _]
    refine wpAny_bind (W.item i s _ _ lt at_ fun v s1 pv at1 mv => ?_)
    obtain ⟨t, rfl⟩ := val i v pv
    have has1 := has.kept (h' := s1.heap) fun o z => mv.heap S _ nw z
    have cl := cnt_le xs i
    refine wpAny_bind (wpAny_holding ?_)
    unfold setAdd
    refine wpAny_holding (wpAny_bind ((strKind prog w).pyHash (k := xs.getD i Str.empty) (strKind_is _ _ _ _) ?_))
    refine wpAny_setAddHashed_of (knd := strKind prog w) (s := { s1 with toks := s1.toks + 1 }) (strKind_is _ _ _ _) rfl has1 (by unfold scanBound; omega) fun h2 sb has2 => ?_
    have lx : i < xs.length := by omega
    have eg : xs.getD i Str.empty = xs[i] := by rw [List.getD_eq_getElem?_getD, List.getElem?_eq_getElem lx]; rfl
    have has3 : Has prog w S xs (i + 1) h2 := by
      refine SetOf_congr has2 (fun k => ?_) rfl
      show ((xs.take i).any (· == k) || decide (k = xs.getD i Str.empty)) = (xs.take (i + 1)).any (· == k)
      rw [eg, List.take_add_one, List.getElem?_eq_getElem lx, List.any_append]
      congr 1
      show decide (k = xs[i]) = ((xs[i] == k) || false)
      rw [Bool.or_false]
      by_cases q : k = xs[i]
      · rw [q]
        simp
      · rw [decide_eq_false q]
        exact (beq_eq_false_iff_ne.mpr fun z => q z.symm).symm
    have off : ∀ b o, b ≠ S → s1.heap.get? b = some o → h2.get? b = some o := fun b o nb z => by rw [sb.2 b nb]; exact z
    refine wpAny_pure ⟨plainId_quiet F.plain_set_update_loop _, ih (i + 1) _ (by omega) (W.frame _ s1 _ _ at1 (Nat.le_succ _) fun b hb o z => off b o (fun q => nf (q ▸ hb)) z) has3 fun s3 mv3 has4 => ?_⟩
    exact k s3 (Moved.trans W.gtrans ((mv.mono up).then_heap (Nat.le_succ _) fun b o hb z => off b o (fun q => hb (q ▸ List.mem_cons_self)) z) mv3) has4
end
section
variable {prog : Program} {w : World} {A : Around} {E : Value → Shared → Prop} {s : Shared}
/-- behind an empty set was made -/
abbrev sMade (s : Shared) (led : Bool) : Shared := { s with heap := s.heap.push { cls := .type "set", dict := none, data := .set #[] 0 (.fresh 0 0 led) } }
/-- what set(xs) leaves: the set at the heap's end, all else as it was -/
def Left (prog : Program) (w : World) (s : Shared) (xs : List Str) (n : Nat) (h' : Heap) : Prop := Has prog w s.heap.objs.size xs n h' ∧ ∀ b o, b < s.heap.objs.size → s.heap.get? b = some o → h'.get? b = some o
/-- a list, or a tuple -/
def SeqO (h : Heap) (l : Addr) (items : Array Value) : Prop := h.IsList l items ∨ h.IsTuple l items
theorem begun {xs : List Str} {h : Heap} {S : Addr} (led : Bool) (g : h.get? S = some { cls := .type "set", dict := none, data := .set #[] 0 (.fresh 0 0 led) }) : Has prog w S xs 0 h :=
  SetOf_congr ((setObjOf_fresh (knd := strKind prog w) led).setOf g (by unfold scanBound; omega)) (fun _ => rfl) rfl
theorem far {o : Obj} {l : Addr} (lt : l < s.heap.objs.size) : l ≠ (s.heap.push o).objs.size := fun z => by
  rw [z, Heap.size_push] at lt
  exact Nat.lt_irrefl _ (Nat.lt_trans (Nat.lt_succ_self _) lt)
theorem away {o : Obj} {l : Addr} (lt : l < s.heap.objs.size) : s.heap.objs.size ∉ [(s.heap.push o).objs.size, l] := fun z => by
  rcases List.mem_cons.mp z with z | z
  · rw [Heap.size_push] at z
    exact absurd z (Nat.ne_of_lt (Nat.lt_succ_self _))
  · rw [List.mem_singleton.mp z] at lt
    exact Nat.lt_irrefl _ lt
theorem ends {o o2 : Obj} {s' : Shared} {tk : Nat} {xs : List Str} {n : Nat} {Q : Value → Shared → Prop} (mv : Moved (s.heap.objs.size :: [(s.heap.push o).objs.size]) (fun a b => b = a) { s with heap := (s.heap.push o).push o2, toks := tk } s') (has : Has prog w s.heap.objs.size xs n s'.heap)
    (k : ∀ h' tk', Left prog w s xs n h' → Q Value.none { s with heap := h', toks := tk' }) : Q Value.none s' := by
  obtain ⟨h', g', d', tk', os'⟩ := s'
  obtain ⟨m1, m2, m3, m4, _⟩ := mv
  have e1 : g' = s.gens := m2
  have e2 : d' = s.drawn := m3
  have e3 : os' = s.os := m4
  subst e1 e2 e3
  refine k h' tk' ⟨has, fun b u lt g => m1 b u (fun z => ?_) (Heap.get?_push_of_some _ (Heap.get?_push_of_some _ g))⟩
  rcases List.mem_cons.mp z with z | z
  · rw [z] at lt
    exact Nat.lt_irrefl _ lt
  · exact far lt (List.mem_singleton.mp z)
theorem call_set {l : Addr} {items : Array Value} {xs : List Str} {Q : Value → Shared → Prop} (hd : A.handled = none) (sq : SeqO s.heap l items) (tx : StrsAre items.toList xs) (few : xs.length < 4000)
    (k : ∀ (h' : Heap) (tk : Nat), Left prog w s xs items.size h' → Q (.ref s.heap.objs.size) { s with heap := h', toks := tk }) : wpAny (model prog w) A (call (.type "set") [.ref l]) Q E s := by
  have m1 := PySem.F.called_set.made
  have m2 := PySem.F.called_set.sub
  obtain ⟨c, tl, m3⟩ := PySem.F.called_set.mro
  refine wpAny_call (codeAny_of_tree ?_)
  show wpAny _ _ (callAny (.type "set") _) _ _ _
  refine wpAny_pure ⟨Code.quiet_builtin _ (by decide +kernel), codeAny_builtin PySem.F.entry_type_call ?_⟩
  rw [Around.under_plain (weight_type_call_type "set" [.ref l] []) rfl]
  have n1 := PySem.F.called_set.notType
  have n2 := PySem.F.called_set.canCreate
  have n3 := PySem.F.typeCall_set_1 (.ref l)
  repeat (any_goals (first | assumption | wp_step))
  refine codeAny_mono (code_set_new_1 (.ref l) (E := E) (Q₁ := fun u z => ∃ led : Bool, u = .ref s.heap.objs.size ∧ z = sMade s led) fun led => ⟨led, rfl, rfl⟩) fun r z hr => ?_
  cases r with
  | error e => exact hr
  | ok fl =>
  cases fl with
  | next => exact hr.elim
  | brk => exact hr.elim
  | cont => exact hr.elim
  | ret u =>
  obtain ⟨led, rfl, rfl⟩ := hr
  have gS : (sMade s led).heap.get? s.heap.objs.size = some { cls := .type "set", dict := none, data := .set #[] 0 (.fresh 0 0 led) } := Heap.get?_push_size _ rfl
  have tS : Shared.TypeIs (sMade s led) (.ref s.heap.objs.size) "set" := ⟨_, gS, rfl⟩
  have n4 := PySem.F.called_set.init.lookup
  have n5 := PySem.F.called_set.init.bind (.ref s.heap.objs.size)
  repeat (any_goals (first | assumption | wp_step))
  refine codeAny_mono (codeAny_call_builtin (R := wants (fun r z => r = .none ∧ ∃ h' tk, z = { s with heap := h', toks := tk } ∧ Left prog w s xs items.size h') E) PySem.F.called_set.init.plain PySem.F.entry_set_init (check_set_init_1 tS ?_)) fun r z hz => ?_
  · have len : xs.length = items.size := by rw [← StrsAre.len_eq tx, Array.length_toList]
    have val : ∀ (i : Nat) (v : Value), items[i]? = some v → ∃ t, v = .str (xs.getD i Str.empty) t := fun i v hv => strs_at tx i v (by rw [Array.getElem?_toList]; exact hv)
    rcases sq with sq | sq
    · obtain ⟨⟨oc, od, dt, sl⟩, ho, hc, nl, hdt⟩ := sq
      simp only at hc hdt
      subst hc hdt
      have lS : l < s.heap.objs.size := Heap.lt_size ho
      have ho2 : (s.heap.push { cls := .type "set", dict := none, data := .set #[] 0 (.fresh 0 0 led) }).get? l = some { cls := .type "list", dict := od, data := .seq items nl, slots := sl } := Heap.get?_push_of_some _ ho
      have z1 := PySem.F.sub_list_set
      have z2 := PySem.F.sub_list_frozenset
      have z3 : (Value.type "list" == Value.type "dict") = false := by decide
      have is1 : (s.heap.push { cls := .type "set", dict := none, data := .set #[] 0 (.fresh 0 0 led) }).IsList l items := ⟨_, ho2, rfl, nl, rfl⟩
      unfold Builtin.«set.__init__» noKeywords Builtin.Frozenset.updateFrom
      generalize hP : pyIter = PI
      wp_walk
      subst hP
      refine wpAny_pyIter_list is1 (wpAny_bind (wpAny_runValue ?_))
      have nI : l ≠ (s.heap.push { cls := .type "set", dict := none, data := .set #[] 0 (.fresh 0 0 led) }).objs.size := far lS
      exact fills ((Walks.list (by simp [hd]) _ l nI items).toS) (away lS) xs len (by omega) val items.size 0 _ (by omega) ⟨⟨_, Heap.get?_push_size _ rfl, rfl, rfl⟩, is1.push _⟩
        (begun led (Heap.get?_push_of_some _ gS)) fun s' mv has => by
          show wpAny _ _ _ _ _ _
          refine wpAny_pure ?_
          show wpAny _ _ (ret Value.none) _ _ _
          exact wpAny_pure (ends (Q := fun r z => r = .none ∧ ∃ h' tk, z = { s with heap := h', toks := tk } ∧ Left prog w s xs items.size h') mv has fun h' tk' lf => ⟨rfl, h', tk', rfl, lf⟩)
    · obtain ⟨⟨oc, od, dt, sl⟩, ho, hc, nl, hdt⟩ := sq
      simp only at hc hdt
      subst hc hdt
      have lS : l < s.heap.objs.size := Heap.lt_size ho
      have ho2 : (s.heap.push { cls := .type "set", dict := none, data := .set #[] 0 (.fresh 0 0 led) }).get? l = some { cls := .type "tuple", dict := od, data := .seq items nl, slots := sl } := Heap.get?_push_of_some _ ho
      have z1 := PySem.F.sub_tuple_set
      have z2 := PySem.F.sub_tuple_frozenset
      have z3 : (Value.type "tuple" == Value.type "dict") = false := by decide
      have is1 : (s.heap.push { cls := .type "set", dict := none, data := .set #[] 0 (.fresh 0 0 led) }).IsTuple l items := ⟨_, ho2, rfl, nl, rfl⟩
      unfold Builtin.«set.__init__» noKeywords Builtin.Frozenset.updateFrom
      generalize hP : pyIter = PI
      wp_walk
      subst hP
      refine wpAny_pyIter_tuple is1 (wpAny_bind (wpAny_runValue ?_))
      have nI : l ≠ (s.heap.push { cls := .type "set", dict := none, data := .set #[] 0 (.fresh 0 0 led) }).objs.size := far lS
      exact fills ((Walks.tuple (by simp [hd]) _ l nI items).toS) (away lS) xs len (by omega) val items.size 0 _ (by omega) ⟨⟨_, Heap.get?_push_size _ rfl, rfl, rfl⟩, is1.push _⟩
        (begun led (Heap.get?_push_of_some _ gS)) fun s' mv has => by
          show wpAny _ _ _ _ _ _
          refine wpAny_pure ?_
          show wpAny _ _ (ret Value.none) _ _ _
          exact wpAny_pure (ends (Q := fun r z => r = .none ∧ ∃ h' tk, z = { s with heap := h', toks := tk } ∧ Left prog w s xs items.size h') mv has fun h' tk' lf => ⟨rfl, h', tk', rfl, lf⟩)
  · cases r with
    | error e => exact hz
    | ok fl =>
    cases fl with
    | next => exact hz.elim
    | brk => exact hz.elim
    | cont => exact hz.elim
    | ret u =>
    obtain ⟨rfl, h', tk, rfl, lf⟩ := hz
    repeat (any_goals (first | assumption | wp_step))
    exact k _ _ lf
end
end STX
namespace L2
open PySem PySem.Spec PyProof.Rows
section
variable {X : Cx}
/-- len(set(xs)): how many unlike texts -/
def tLenTx (K : PySem.W.Frag) (ta : TE) : TE := fun σ H Q => ta σ H fun x H1 => ∃ (l : Addr) (xs : List Str), x = .ref l ∧ (SqL K H1 l (xs.map V.str) ∨ SqT K H1 l (xs.map V.str)) ∧ xs.length < 4000 ∧ Q (.int (STX.cnt xs xs.length)) H1
theorem pe_lenTx {a : Expr} {ta : TE} {p p2 q pos : Pos} (hc : X.calm = true) (g1 : Gl X "len") (m1 : X.mg "len" = none) (g2 : Gl X "set") (m2 : X.mg "set" = none) (ha : PE X a ta)
    (na : starEach [a] X.env = (false, eval a X.env) :: starEach [] X.env := by rfl) : PE X (.Call (.Name "len" p) [.Call (.Name "set" p2) [a] [] q] [] pos) (tLenTx X.K ta) := by
  refine ⟨fun pins s σ H Q I h => ?_⟩
  refine Call_ (ld_blt I g1 m1 boot_len (callWith_builtin1 (args_cons ?_ rfl) rfl rfl))
  refine Call_ (ld_blt I g2 m2 boot_set (callWith_type1 (args_cons (thn (ha.run pins s σ H _ I h) fun v s1 ⟨x, H1, I1, r1, q1⟩ => args_nil ?_) na) na rfl))
  obtain ⟨l, xs, rfl, sq, few, q1⟩ := q1
  cases r1
  have both : ∃ its : List Value, Vals (xs.map V.str) its ∧ STX.SeqO s1.heap l its.toArray := by
    rcases sq with sq | sq
    · obtain ⟨its, r, pl, _⟩ := I1.list sq
      exact ⟨its, r, .inl pl.isList⟩
    · obtain ⟨its, r, pl, _⟩ := I1.tuple sq
      exact ⟨its, r, .inr pl⟩
  obtain ⟨its, r, so⟩ := both
  refine STX.call_set (I1.ok.hd hc) so (by simpa using strsAre_of r) few fun h' tk lf => args_nil ?_
  have ln : its.toArray.size = xs.length := by rw [List.size_toArray, ← r.length, List.length_map]
  obtain ⟨has, kept⟩ := lf
  rw [ln] at has
  obtain ⟨o, es, ep, t, ho, ex, dt, _, _, _, fit, n⟩ := has
  have I2 : Inv X pins σ H1 { s1 with heap := h', toks := tk } := I1.kept fun b o e => kept b o (Heap.lt_size e) e
  have := STX.cnt_le xs xs.length
  exact call_len_set ho ex dt fit (by rw [n]; omega) ⟨.int (STX.cnt xs xs.length), H1, I2.tok _, ⟨_, by rw [n]⟩, q1⟩
end
end L2

set_option maxRecDepth 100000
set_option maxHeartbeats 4000000
/-! list(s) of a text: its signs; the joining of signs. -/
namespace L2
open PySem PySem.Spec PyProof.Rows TL
/-- the sign of a code -/
abbrev sgn (c : Nat) : Str := ⟨#[c]⟩
/-- the signs of a text -/
def sgns (x : Str) : List Str := x.cps.toList.map sgn
theorem sgns_len (x : Str) : (sgns x).length = x.length := by
  unfold sgns
  rw [List.length_map, Array.length_toList]
  rfl
theorem vals_at : ∀ {xs : List V} {us : List Value}, us.length = xs.length → (∀ (j : Nat) (u : Value), us[j]? = some u → ∃ y, xs[j]? = some y ∧ RelV y u) → Vals xs us
  | [], [], _, _ => .nil
  | [], _ :: _, h, _ => by simp at h
  | _ :: _, [], h, _ => by simp at h
  | x :: xs, u :: us, h, k => by
    obtain ⟨y, e, r⟩ := k 0 u rfl
    obtain rfl : x = y := Option.some.inj e
    exact .cons r (vals_at (Nat.succ.inj h) fun j v hj => k (j + 1) v hj)
def rListTx : List V → Hp → VK → Prop := fun xs H Q => ∃ z : Str, xs = [.str z] ∧ z.length ≤ 1000 ∧ ∀ l, H l = none → Q (.ref l) (upd H l (.lst ((sgns z).map V.str)))
theorem call_list_tx {X : Cx} (hc : X.calm = true) : CallR X (.type "list") rListTx := by
  intro pins s σ H xs us Q I r h
  obtain ⟨z, rfl, few, k⟩ := h
  obtain ⟨u, rfl, t, rfl⟩ := vals1 r
  have big : 1000 < sizeLine := by decide
  have few2 : z.cps.size ≤ 1000 := few
  refine call_list_str (I.ok.hd hc) z t (fun h' tk acc c kept new items => ?_) (by omega)
  obtain ⟨n, each⟩ := items
  refine ⟨.ref s.heap.objs.size, _, I.laid (t' := tk) kept (Nat.le_refl _) ?_, rfl, k _ (I.hok.fresh (Nat.le_refl _))⟩
  have ls : acc.toList.length = ((sgns z).map V.str).length := by
    rw [List.length_map, sgns_len, Array.length_toList, n]
    rfl
  refine ⟨by rw [List.length_map, sgns_len]; omega, acc.toList, c, vals_at ls fun j v hj => ?_, by simpa using new⟩
  obtain ⟨cd, tk2, e1, rfl⟩ := each j v (by rw [← Array.getElem?_toList]; exact hj)
  refine ⟨.str (sgn cd), ?_, tk2, rfl⟩
  unfold sgns
  rw [List.map_map, List.getElem?_map, Array.getElem?_toList, e1]
  rfl
theorem tl_join_sgns (cs : List Nat) : (Txt.join (Str.ofString "") (cs.map sgn)).cps.toList = cs := by
  rw [join_eq]
  show tl (Str.join (Str.ofString "") (cs.map sgn)) = cs
  rw [tl_join]
  have e : ∀ cs : List Nat, joinL (tl (Str.ofString "")) ((cs.map sgn).map tl) = cs := fun cs => by
    induction cs with
    | nil => rfl
    | cons c cs ih =>
      cases cs with
      | nil => rfl
      | cons d cs =>
        show [c] ++ ([] ++ joinL (tl (Str.ofString "")) (((d :: cs).map sgn).map tl)) = _
        rw [ih]
        rfl
  exact e cs
end L2

set_option maxRecDepth 100000
set_option maxHeartbeats 4000000
namespace K08
open PySem PySem.Spec PyProof.Rows L2 He VH
/-! names, words, lists of them -/
abbrev sWrd : Stmt := top 5
abbrev sWds : Stmt := top 6
abbrev sSeq : Stmt := top 7
abbrev sNam : Stmt := top 8
abbrev sNms : Stmt := top 9
abbrev FnWrd (K : PySem.W.Frag) (fd : FuncData) : Prop := FnP K "is_word" sWrd (ga K "is_word") fd
abbrev FnWds (K : PySem.W.Frag) (fd : FuncData) : Prop := FnP K "are_words" sWds (ga K "are_words") fd
abbrev FnSeq (K : PySem.W.Frag) (fd : FuncData) : Prop := FnP K "is_sequence" sSeq (ga K "is_sequence") fd
abbrev FnNam (K : PySem.W.Frag) (fd : FuncData) : Prop := FnP K "is_name" sNam (ga K "is_name") fd
abbrev FnNms (K : PySem.W.Frag) (fd : FuncData) : Prop := FnP K "are_names" sNms (ga K "are_names") fd
theorem bWrd {K : PySem.W.Frag} {fd : FuncData} (F : FnWrd K fd) : Binds K fd ["value", "words"] [] := FunD.bindsN F fun _ _ _ _ _ _ us hl => match us, hl with | [_, _], _ => rfl
theorem bWds {K : PySem.W.Frag} {fd : FuncData} (F : FnWds K fd) : Binds K fd ["values", "words"] [] := FunD.bindsN F fun _ _ _ _ _ _ us hl => match us, hl with | [_, _], _ => rfl
theorem bSeq {K : PySem.W.Frag} {fd : FuncData} (F : FnSeq K fd) : Binds K fd ["value"] [] := FunD.bindsN F fun _ _ _ _ _ _ us hl => match us, hl with | [_], _ => rfl
theorem bNam {K : PySem.W.Frag} {fd : FuncData} (F : FnNam K fd) : Binds K fd ["value"] [] := FunD.bindsN F fun _ _ _ _ _ _ us hl => match us, hl with | [_], _ => rfl
theorem bNms {K : PySem.W.Frag} {fd : FuncData} (F : FnNms K fd) : Binds K fd ["value"] [] := FunD.bindsN F fun _ _ _ _ _ _ us hl => match us, hl with | [_], _ => rfl
theorem inV_strs {z : Str} {ws : List Str} : inV (.str z) (ws.map V.str) = ws.contains z := by
  induction ws with
  | nil => rfl
  | cons w ws ih =>
    rw [List.map_cons, List.contains_cons]
    show (eqV (.str w) (.str z) || inV (.str z) (ws.map V.str)) = _
    rw [ih]
    congr 1
    show decide (w = z) = (z == w)
    by_cases h : w = z
    · subst h
      simp
    · rw [decide_eq_false h]
      exact (beq_eq_false_iff_ne.mpr fun e => h e.symm).symm
theorem flat_strs {ws : List Str} : (ws.map V.str).all flatV = true := by
  rw [List.all_map]
  exact List.all_eq_true.mpr fun _ _ => rfl
theorem same_put {H G : Hp} {D : Addr} {u : HO} (s : Same H G) (n : H D = none) : Same H (upd G D u) := fun b o e => by
  rw [upd_ne (ne_of_none e n)]
  exact s b o e
def spWrd (K : PySem.W.Frag) : Sp := fun vs H Q _ => ∃ (x : V) (p : Addr) (ws : List Str), vs = [x, .ref p] ∧ SqT K H p (ws.map V.str) ∧
  ((∃ z, x = .str z ∧ Q (.bl (ws.contains z)) H) ∨ (NoTx K H x ∧ Q (.bl false) H))
def spSeq (K : PySem.W.Frag) : Sp := fun vs H Q _ => ∃ x : V, vs = [x] ∧ ((∃ (a : Addr) (xs : List V), x = .ref a ∧ SqV K H a xs ∧ ∀ H', Same H H' → Q (.bl true) H') ∨ (NoSq K H x ∧ ∀ H', Same H H' → Q (.bl false) H'))
section
variable {P : Program} {w : World} {K : PySem.W.Frag} {mg : Str → Option Value} {base : Heap} {f : Addr} {fd fdW fdS fdN : FuncData}
theorem scWrd : FnScope ["value", "words"] ["value", "words"] (defScope sWrd) := ⟨rfl, rfl, rfl, by decide +kernel, rfl, by decide +kernel, by decide +kernel⟩
theorem ok_wrd (F : FnP K "is_word" sWrd f fd) (T : Txt K mg w) : FnOk P w K mg base CX0 1 f fd ["value", "words"] (spWrd K) := by
  refine F.ok scWrd (fun vs H Q E h => ?_) (fun cdv A outer s H vs Q E hr h => ?_)
  · obtain ⟨x, p, ws, rfl, _⟩ := h
    rfl
  refine ⟨_, PSs.nox (pss_one (ps_ret (pe_and (pe_callB call_isi (by rfl) T.g_isinstance boot_isinstance (pa_cons (pv 0) (pa_cons (pe_bltn (v := .ty "str") (by rfl) T.g_str boot_str rfl) pa_nil))) (pe_one (pe_cmpR op_in_seq (pv 0) (pv 1) (by rfl)))))), ?_⟩
  obtain ⟨x, p, ws, rfl, hp, h⟩ := h
  rcases h with ⟨z, rfl, q⟩ | ⟨no, q⟩
  · refine ⟨_, rfl, _, _, _, _, true, rfl, .ty "str", .base (.str z), kit_ty (by decide +kernel), true, rfl, iteT ?_⟩
    refine ⟨_, rfl, _, rfl, p, _, rfl, .inr hp, rfl, flat_strs, ?_⟩
    rw [inV_strs]
    exact q
  · obtain ⟨t, ty, k⟩ := no H (Same.refl H)
    exact ⟨_, rfl, _, _, _, _, false, rfl, .ty "str", ty, k, false, rfl, iteF q⟩
theorem scSeq : FnScope ["value"] ["value"] (defScope sSeq) := ⟨rfl, rfl, rfl, by decide +kernel, rfl, by decide +kernel, by decide +kernel⟩
theorem sqv_ty {K : PySem.W.Frag} {H : Hp} {a : Addr} {xs : List V} (h : SqV K H a xs) : (∃ t : String, (t = "list" ∨ t = "tuple") ∧ TyX K H (.ref a) (.type t)) := by
  rcases h with ((h | ⟨o, h⟩) | ⟨o, its, n, h1, h2, _⟩) | ((h | ⟨o, h⟩) | ⟨o, its, n, h1, h2, _⟩)
  · exact ⟨"list", .inl rfl, .base (.lst h)⟩
  · exact ⟨"list", .inl rfl, .base (.frz h)⟩
  · exact ⟨"list", .inl rfl, .kList h1 h2⟩
  · exact ⟨"tuple", .inr rfl, .base (.tup h)⟩
  · exact ⟨"tuple", .inr rfl, .fTuple h⟩
  · exact ⟨"tuple", .inr rfl, .kTuple h1 h2⟩
theorem ok_seq (F : FnP K "is_sequence" sSeq f fd) (T : Txt K mg w) : FnOk P w K mg base CX0 1 f fd ["value"] (spSeq K) := by
  refine F.ok scSeq (fun vs H Q E h => ?_) (fun cdv A outer s H vs Q E hr h => ?_)
  · obtain ⟨x, rfl, _⟩ := h
    rfl
  refine ⟨_, PSs.nox (pss_one (ps_ret (pe_callB call_isiT (by rfl) T.g_isinstance boot_isinstance (pa_cons (pv 0) (pa_cons (pe_tup (pa_cons (pe_bltn (v := .ty "list") (by rfl) T.g_list boot_list rfl) (pa_cons (pe_bltn (v := .ty "tuple") (by rfl) T.g_tuple boot_tuple rfl) pa_nil))) pa_nil))))), ?_⟩
  obtain ⟨x, rfl, h⟩ := h
  refine ⟨_, rfl, (show 2 ≤ sizeLine by decide), fun tp np => ?_⟩
  have S := Same.new (o := .tup [.ty "list", .ty "tuple"]) np
  rcases h with ⟨a, xs, rfl, hv, k⟩ | ⟨no, k⟩
  · obtain ⟨t, ht, ty⟩ := sqv_ty (hv.same S)
    refine ⟨_, tp, _, _, _, true, rfl, upd_same, .cons (.ty _) (.cons (.ty _) .nil), ty, ?_, k _ S⟩
    rcases ht with rfl | rfl
    · exact kitAny_cons (b := true) (kit_ty (by decide +kernel)) (fun e => Bool.noConfusion e) (fun _ => rfl)
    · exact kitAny_cons (b := false) (kit_ty (by decide +kernel)) (fun _ => kitAny_cons (b := true) (kit_ty (by decide +kernel)) (fun e => Bool.noConfusion e) (fun _ => rfl)) (fun e => Bool.noConfusion e)
  · obtain ⟨t, ty, k1, k2⟩ := no _ S
    exact ⟨_, tp, _, _, _, false, rfl, upd_same, .cons (.ty _) (.cons (.ty _) .nil), ty, kitAny_cons (b := false) k1 (fun _ => kitAny_cons (b := false) k2 (fun _ => kitAny_nil) (fun e => Bool.noConfusion e)) (fun e => Bool.noConfusion e), k _ S⟩
abbrev LET : Str := "abcdefghijklmnopqrstuvwxyz"
/-- a name: 1 to 12 small letters -/
def nameB (z : Str) : Bool := decide (1 ≤ (z.length : Int)) && (decide ((z.length : Int) ≤ 12) && z.cps.toList.all fun c => decide (c ∈ LET.cps.toList))
def spNam (K : PySem.W.Frag) : Sp := fun vs H Q _ => ∃ x : V, vs = [x] ∧ ((∃ z : Str, x = .str z ∧ z.length ≤ 1000 ∧ ∀ H', Same H H' → Q (.bl (nameB z)) H') ∨ (NoTx K H x ∧ ∀ H', Same H H' → Q (.bl false) H'))
theorem scNam : FnScope ["value", "letter"] ["value"] (defScope sNam) := ⟨rfl, rfl, rfl, by decide +kernel, rfl, by decide +kernel, by decide +kernel⟩
theorem ok_nam (F : FnP K "is_name" sNam f fd) (T : Txt K mg w) : FnOk P w K mg base CX0 1 f fd ["value"] (spNam K) := by
  obtain ⟨tl, hL⟩ := T.s_LETTERS
  refine F.ok scNam (fun vs H Q E h => ?_) (fun cdv A outer s H vs Q E hr h => ?_)
  · obtain ⟨x, rfl, _⟩ := h
    rfl
  refine ⟨_, PSs.nox (pss_one (ps_ret (pe_and (pe_callB call_isi (by rfl) T.g_isinstance boot_isinstance (pa_cons (pv 0) (pa_cons (pe_bltn (v := .ty "str") (by rfl) T.g_str boot_str rfl) pa_nil)))
    (pe_and (pe_chain op_le op_le pe_int (pe_callB call_len_str (by rfl) T.g_len boot_len (pa_cons (pv 0) pa_nil)) pe_int)
    (pe_one (pe_callB (cr_all rfl) (by rfl) T.g_all boot_all (pa_cons (pe_lc (own := [("letter", 1)]) (g := gName 1) (tt := tYes) rfl scNam.nd (pi_str (pv 0)) (blkOk_by (N := ["value", "letter"]) (sc := defScope sNam) (by decide +kernel))
      (fun _ _ _ _ _ => pg_name (i := 1) scNam.nd rfl (Or.inl rfl)) (fun _ _ _ _ _ => pts_nil) (fun _ _ _ _ _ => pe_cmpR op_in_sign (pv 1) (pe_glob (v := .str LET) (by rfl) hL ⟨_, rfl⟩) (by rfl))) pa_nil))))))), ?_⟩
  obtain ⟨x, rfl, h⟩ := h
  rcases h with ⟨z, rfl, few, k⟩ | ⟨no, k⟩
  · unfold nameB at k
    have big : 1000 < sizeLine := by decide
    refine ⟨_, rfl, _, _, _, _, true, rfl, .ty "str", .base (.str z), kit_ty (by decide +kernel), true, rfl, iteT ?_⟩
    refine ⟨_, rfl, z, rfl, by omega, _, _, rfl, rfl, ?_⟩
    refine ⟨_, rfl, ?_⟩
    cases l1 : decide (1 ≤ (z.length : Int)) with
    | false =>
      rw [l1] at k
      exact iteF ⟨_, rfl, iteF (k H (Same.refl H))⟩
    | true =>
      rw [l1] at k
      refine iteT ⟨_, _, rfl, rfl, _, rfl, ?_⟩
      cases l2 : decide ((z.length : Int) ≤ 12) with
      | false =>
        rw [l2] at k
        exact iteF (k H (Same.refl H))
      | true =>
        rw [l2] at k
        refine iteT ⟨_, rfl, z, rfl, fun D nD => ?_⟩
        refine lc_it walk_str (fun i G => Same H G ∧ G D = some (.lst (((z.cps.toList.take i).map fun c => decide (c ∈ LET.cps.toList)).map V.bl))) ⟨Same.new nD, upd_same⟩ (fun _ _ _ _ => trivial) (fun i x G G' li g y => ?_) (fun G g => ?_)
        · obtain ⟨rfl, c, hc, rfl⟩ := y
          obtain ⟨sG, hD⟩ := g
          have li2 : i < z.length := li
          refine ⟨rfl, _, rfl, c, LET, rfl, rfl, _, hD, ?_, same_put sG nD, ?_⟩
          · rw [List.length_map, List.length_map, List.length_take]
            omega
          · have hc2 : z.cps.toList[i]? = some c := by rw [Array.getElem?_toList]; exact hc
            rw [upd_same, List.take_succ, hc2]
            simp
        · obtain ⟨sG, hD⟩ := g
          have e : z.cps.toList.take z.cps.size = z.cps.toList := by rw [← Array.length_toList, List.take_length]
          rw [e] at hD
          refine ⟨D, _, rfl, SqL.of hD, ?_⟩
          rw [List.all_map]
          exact k G sG
  · obtain ⟨t, ty, kk⟩ := no H (Same.refl H)
    exact ⟨_, rfl, _, _, _, _, false, rfl, .ty "str", ty, kk, false, rfl, iteF (k H (Same.refl H))⟩
def itN : V → Bool
  | .str z => nameB z
  | _ => false
/-- a list or tuple of different names -/
def nmsB (xs : List V) : Bool := match txs? xs with
  | some cs => cs.all nameB && decide cs.Nodup
  | none => false
theorem all_itN : ∀ {xs : List V}, xs.all itN = true → ∃ cs, txs? xs = some cs ∧ cs.all nameB = true
  | [], _ => ⟨[], rfl, rfl⟩
  | x :: l, h => by
    rw [List.all_cons, Bool.and_eq_true] at h
    obtain ⟨cs, e, a⟩ := all_itN h.2
    cases x with
    | str z => exact ⟨z :: cs, by show (txs? l).map (z :: ·) = _; rw [e]; rfl, by rw [List.all_cons, a, Bool.and_true]; exact h.1⟩
    | _ => exact absurd h.1 (by simp [itN])
theorem itN_map {cs : List Str} : (cs.map V.str).all itN = cs.all nameB := by rw [List.all_map]; rfl
theorem nmsB_no {xs : List V} (h : xs.all itN = false) : nmsB xs = false := by
  unfold nmsB
  split
  · rename_i cs e
    rw [txs_some e, itN_map] at h
    rw [h]
    rfl
  · rfl
def spNms (K : PySem.W.Frag) : Sp := fun vs H Q _ => ∃ x : V, vs = [x] ∧ ((∃ (a : Addr) (xs : List V), x = .ref a ∧ SqV K H a xs ∧ Told K H xs ∧ xs.length ≤ 1000 ∧ ∀ H', Same H H' → Q (.bl (nmsB xs)) H') ∨ (NoSq K H x ∧ ∀ H', Same H H' → Q (.bl false) H'))
theorem scNms : FnScope ["value", "name"] ["value"] (defScope sNms) := ⟨rfl, rfl, rfl, by decide +kernel, rfl, by decide +kernel, by decide +kernel⟩
theorem ok_nms (F : FnP K "are_names" sNms f fd) (T : Txt K mg w) (FS : FnSeq K fdS) (FN : FnNam K fdN) : FnOk P w K mg base CX0 2 f fd ["value"] (spNms K) := by
  have GS : FnOk P w K mg base CX0 1 (ga K "is_sequence") fdS ["value"] (spSeq K) := ok_seq FS T
  have GN : FnOk P w K mg base CX0 1 (ga K "is_name") fdN ["value"] (spNam K) := ok_nam FN T
  refine F.ok scNms (fun vs H Q E h => ?_) (fun cdv A outer s H vs Q E hr h => ?_)
  · obtain ⟨x, rfl, _⟩ := h
    rfl
  refine ⟨_, PSs.nox (pss_cons (ps_if (PW.pt (pw_or (pt_not (pt_val (pe_call GS hr (by rfl) T.m_is_sequence FS.kp (bSeq FS) .nil pass0 (pa_cons (pv 0) pa_nil))))
      (pw_or1 (pt_not (pt_val (pe_callB (cr_all rfl) (by rfl) T.g_all boot_all (pa_cons (pe_lc (own := [("name", 1)]) (g := gName 1) (tt := tYes) rfl scNms.nd (pi_or (pi_list (pv 0)) (pi_tup (pv 0))) (blkOk_by (N := ["value", "name"]) (sc := defScope sNms) (by decide +kernel))
        (fun _ _ _ _ _ => pg_name (i := 1) scNms.nd rfl (Or.inl rfl)) (fun _ _ _ _ _ => pts_nil) (fun _ _ _ _ _ => pe_call GN hr (by rfl) T.m_is_name FN.kp (bNam FN) .nil pass0 (pa_cons (pv 1) pa_nil))) pa_nil))))))) (pss_one (ps_ret pe_bl)) pss_nil)
    (pss_one (ps_ret (pe_cmpR op_eq (pe_lenTx rfl (by rfl) T.g_len (by rfl) T.g_set (pv 0)) (pe_callB call_len_seq (by rfl) T.g_len boot_len (pa_cons (pv 0) pa_nil)) (nomark _))))), ?_⟩
  obtain ⟨x, rfl, h⟩ := h
  rcases h with ⟨a, xs, rfl, hv, td, few, k⟩ | ⟨no, k⟩
  · have big : 1000 < sizeLine := by decide
    refine ⟨_, rfl, _, rfl, .inl ⟨a, xs, rfl, hv, fun H1 S1 => ⟨true, rfl, iteF ?_⟩⟩⟩
    refine rd_notall (lc_sqv (j := 0) (xs := xs) (by rfl) (hv.same S1) (fun D i G => Same H1 G ∧ G D = some (.lst (((xs.take i).map itN).map V.bl))) (fun D i G p => p.1) (fun D nD => ⟨Same.new nD, upd_same⟩) (fun D i x G nD hx p => ?_) (fun D G p => ?_))
    · obtain ⟨sG, hD⟩ := p
      have li := (List.getElem?_eq_some_iff.mp hx).1
      have fin : ∀ (b : Bool) (G' : Hp), b = itN x → Same G G' → ∃ acc, G' D = some (.lst acc) ∧ acc.length < sizeLine ∧ Same H1 (upd G' D (.lst (acc ++ [.bl b]))) ∧ upd G' D (.lst (acc ++ [.bl b])) D = some (.lst (((xs.take (i + 1)).map itN).map V.bl)) := fun b G' e S => by
        refine ⟨_, S _ _ hD, ?_, same_put (sG.trans S) nD, ?_⟩
        · rw [List.length_map, List.length_map, List.length_take]
          omega
        · rw [upd_same, List.take_succ, hx, e]
          simp
      refine ⟨rfl, _, rfl, x, rfl, ?_⟩
      rcases td x (List.mem_of_getElem? hx) with ⟨z, rfl, lz, _⟩ | no
      · exact .inl ⟨z, rfl, lz, fun G' S => fin _ G' rfl S⟩
      · refine .inr ⟨(no.same S1).same sG, fun G' S => fin _ G' ?_ S⟩
        cases x with
        | str z =>
          obtain ⟨t, ty, kk⟩ := no H (Same.refl H)
          cases ty with
          | base b =>
            cases b
            rw [kit_ty (K := K) (r := true) (by decide +kernel)] at kk
            cases kk
        | _ => rfl
    · obtain ⟨sG, hD⟩ := p
      rw [List.take_length] at hD
      refine ⟨D, _, rfl, SqL.of hD, ?_⟩
      rw [List.all_map]
      show ∃ c, V.bl (xs.all itN) = .bl c ∧ _
      refine ⟨_, rfl, ?_⟩
      cases ha : xs.all itN with
      | false =>
        have := k G (S1.trans sG)
        rw [nmsB_no ha] at this
        exact iteT this
      | true =>
        obtain ⟨cs, ec, ac⟩ := all_itN ha
        obtain rfl := txs_some ec
        have hv2 : SqV K G a (cs.map V.str) := (hv.same S1).same sG
        have lc : cs.length ≤ 1000 := by rw [List.length_map] at few; exact few
        refine iteF ⟨_, rfl, a, cs, rfl, hv2, by omega, _, rfl, a, _, rfl, hv2, rfl, ?_⟩
        have e : decide (V.int (STX.cnt cs cs.length : Nat) = V.int ((cs.map V.str).length : Nat)) = nmsB (cs.map V.str) := by
          unfold nmsB
          rw [ec]
          show _ = (cs.all nameB && decide cs.Nodup)
          rw [ac, Bool.true_and, List.length_map]
          have q := STX.cnt_all (xs := cs) cs.length (Nat.le_refl _)
          rw [List.take_length] at q
          by_cases nd : cs.Nodup
          · rw [decide_eq_true nd, q.mpr nd]
            simp
          · rw [decide_eq_false nd]
            refine decide_eq_false fun z => nd (q.mp ?_)
            have := V.int.inj z
            omega
        rw [e]
        exact k G (S1.trans sG)
  · exact ⟨_, rfl, _, rfl, .inr ⟨no, fun H1 S1 => ⟨false, rfl, iteT (k H1 S1)⟩⟩⟩
end
end K08

set_option maxRecDepth 100000
set_option maxHeartbeats 4000000
namespace K08
open PySem PySem.Spec PyProof.Rows L2 He VH
/-! lists of words -/
theorem dpS {K : PySem.W.Frag} {H : Hp} : ∀ ws : List Str, DpAll K H (ws.map V.str) (ws.map PyData.str)
  | [] => .nil
  | w :: ws => .cons (.str w) (dpS ws)
theorem eqvS : ∀ as bs : List Str, PyData.eqvAll (as.map PyData.str) (bs.map PyData.str) = decide (as = bs)
  | [], [] => rfl
  | [], _ :: _ => rfl
  | _ :: _, [] => rfl
  | a :: as, b :: bs => by
    show (PyData.eqv (.str a) (.str b) && PyData.eqvAll (as.map PyData.str) (bs.map PyData.str)) = _
    rw [eqvS as bs]
    show ((a == b) && decide (as = bs)) = _
    by_cases h : a = b
    · subst h
      by_cases h2 : as = bs <;> simp [h2]
    · simp [h]
theorem shpAll : ∀ ws : List Str, (∀ z ∈ ws, PyData.canLay0 (.str z) = true) → PyData.canLayAll0 (ws.map PyData.str) = true ∧ PyData.depthAll (ws.map PyData.str) = 0
  | [], _ => ⟨rfl, rfl⟩
  | w :: ws, h => by
    obtain ⟨h1, h2⟩ := shpAll ws fun z hz => h z (List.mem_cons_of_mem _ hz)
    refine ⟨?_, ?_⟩
    · show (PyData.canLay0 (.str w) && PyData.canLayAll0 (ws.map PyData.str)) = true
      rw [h1, h w (List.mem_cons_self ..)]
      rfl
    · show max (PyData.depth (.str w)) (PyData.depthAll (ws.map PyData.str)) = 0
      rw [h2]
      rfl
theorem shpL {ws : List Str} (h : ∀ z ∈ ws, PyData.canLay0 (.str z) = true) : SeqAt.shaped (.list (ws.map PyData.str)) = true := by
  have z := shpAll ws h
  unfold SeqAt.shaped PyData.canLay0 PyData.depth
  rw [z.1, z.2]
  rfl
/-- whether these words stand among those, in their order -/
def wdsOk (cs ws : List Str) : Bool := cs.all ws.contains && decide (cs = ws.filter cs.contains)
def wdsB (xs : List V) (ws : List Str) : Bool := match txs? xs with
  | some cs => wdsOk cs ws
  | none => false
def itW (ws : List Str) : V → Bool
  | .str z => ws.contains z
  | _ => false
theorem all_itW {ws : List Str} : ∀ {xs : List V}, xs.all (itW ws) = true → ∃ cs, txs? xs = some cs ∧ cs.all ws.contains = true
  | [], _ => ⟨[], rfl, rfl⟩
  | x :: l, h => by
    rw [List.all_cons, Bool.and_eq_true] at h
    obtain ⟨cs, e, a⟩ := all_itW h.2
    cases x with
    | str z => exact ⟨z :: cs, by show (txs? l).map (z :: ·) = _; rw [e]; rfl, by rw [List.all_cons, a, Bool.and_true]; exact h.1⟩
    | _ => exact absurd h.1 (by simp [itW])
theorem itW_map {ws cs : List Str} : (cs.map V.str).all (itW ws) = cs.all ws.contains := by rw [List.all_map]; rfl
theorem wdsB_no {xs : List V} {ws : List Str} (h : xs.all (itW ws) = false) : wdsB xs ws = false := by
  unfold wdsB
  split
  · rename_i cs e
    rw [txs_some e, itW_map] at h
    unfold wdsOk
    rw [h]
    rfl
  · rfl
def spWds (K : PySem.W.Frag) : Sp := fun vs H Q _ => ∃ (a p : Addr) (xs : List V) (ws : List Str), vs = [.ref a, .ref p] ∧ SqV K H a xs ∧ Told K H xs ∧ xs.length ≤ 1000 ∧ (∀ H, SqT K H p (ws.map V.str)) ∧ ws.length ≤ 1000 ∧
  (∀ z ∈ ws, PyData.canLay0 (.str z) = true) ∧ ∀ H', Same H H' → Q (.bl (wdsB xs ws)) H'
section
variable {P : Program} {w : World} {K : PySem.W.Frag} {mg : Str → Option Value} {base : Heap} {f : Addr} {fd fdW : FuncData}
abbrev nWds : List Str := ["values", "words", "value", "word"]
theorem scWds : FnScope nWds ["values", "words"] (defScope sWds) := ⟨rfl, rfl, rfl, by decide +kernel, rfl, by decide +kernel, by decide +kernel⟩
theorem notx_str {K : PySem.W.Frag} {H : Hp} {z : Str} (no : NoTx K H (.str z)) : False := by
  obtain ⟨t, ty, kk⟩ := no H (Same.refl H)
  cases ty with
  | base b =>
    cases b
    rw [kit_ty (K := K) (r := true) (by decide +kernel)] at kk
    cases kk
theorem ok_wds (F : FnP K "are_words" sWds f fd) (T : Txt K mg w) (FW : FnWrd K fdW) : FnOk P w K mg base CX0 2 f fd ["values", "words"] (spWds K) := by
  have GW : FnOk P w K mg base CX0 1 (ga K "is_word") fdW ["value", "words"] (spWrd K) := ok_wrd FW T
  refine F.ok scWds (fun vs H Q E h => ?_) (fun cdv A outer s H vs Q E hr h => ?_)
  · obtain ⟨_, _, _, _, rfl, _⟩ := h
    rfl
  refine ⟨_, PSs.nox (pss_cons (ps_if (pt_not (pt_val (pe_callB (cr_all rfl) (by rfl) T.g_all boot_all (pa_cons (pe_lc (own := [("value", 2)]) (g := gName 2) (tt := tYes) rfl scWds.nd (pi_or (pi_list (pv 0)) (pi_tup (pv 0))) (blkOk_by (N := nWds) (sc := defScope sWds) (by decide +kernel))
        (fun _ _ _ _ _ => pg_name (i := 2) scWds.nd rfl (Or.inl rfl)) (fun _ _ _ _ _ => pts_nil) (fun _ _ _ _ _ => pe_call GW hr (by rfl) T.m_is_word FW.kp (bWrd FW) .nil pass0 (pa_cons (pv 2) (pa_cons (pv 1) pa_nil)))) pa_nil)))) (pss_one (ps_ret pe_bl)) pss_nil)
    (pss_one (ps_ret (pe_cmpR (op_eqD hr.units) (pe_callTy call_list_of (by rfl) T.g_list boot_list (pa_cons (pv 0) pa_nil))
      (pe_lc (own := [("word", 3)]) (g := gName 3) (tt := tTest (tOp (rIn K false) (tVar 3) (tVar 0))) (te := tVar 3) rfl scWds.nd (pi_tup (pv 1)) (blkOk_by (N := nWds) (sc := defScope sWds) (by decide +kernel))
        (fun _ _ _ _ _ => pg_name (i := 3) scWds.nd rfl (Or.inl rfl)) (fun _ _ _ _ _ => pts_one (pt_cmpR op_in_seq (pv 3) (pv 0) (by rfl))) (fun _ _ _ _ _ => pv 3)) (nomark _))))), ?_⟩
  obtain ⟨a, p, xs, ws, rfl, hv, td, few, hp, lw, lays, k⟩ := h
  have big : 1000 < sizeLine := by decide
  refine rd_seq (rd_if (rd_notall (lc_sqv (j := 0) (xs := xs) (by rfl) hv (fun D i G => Same H G ∧ G D = some (.lst (((xs.take i).map (itW ws)).map V.bl))) (fun D i G p => p.1) (fun D nD => ⟨Same.new nD, upd_same⟩) (fun D i x G nD hx p => ?_) (fun D G p => ?_))))
  · obtain ⟨sG, hD⟩ := p
    have li := (List.getElem?_eq_some_iff.mp hx).1
    have fin : ∀ b : Bool, b = itW ws x → ∃ acc, G D = some (.lst acc) ∧ acc.length < sizeLine ∧ Same H (upd G D (.lst (acc ++ [.bl b]))) ∧ upd G D (.lst (acc ++ [.bl b])) D = some (.lst (((xs.take (i + 1)).map (itW ws)).map V.bl)) := fun b e => by
      refine ⟨_, hD, ?_, same_put sG nD, ?_⟩
      · rw [List.length_map, List.length_map, List.length_take]
        omega
      · rw [upd_same, List.take_succ, hx, e]
        simp
    refine ⟨rfl, _, rfl, _, rfl, x, _, ws, rfl, hp _, ?_⟩
    rcases td x (List.mem_of_getElem? hx) with ⟨z, rfl, lz, _⟩ | no
    · exact .inl ⟨z, rfl, fin _ rfl⟩
    · refine .inr ⟨no.same sG, fin _ ?_⟩
      cases x with
      | str z => exact (notx_str no).elim
      | _ => rfl
  · obtain ⟨sG, hD⟩ := p
    rw [List.take_length] at hD
    refine ⟨D, _, rfl, SqL.of hD, ?_⟩
    rw [List.all_map]
    show ∃ c, V.bl (xs.all (itW ws)) = .bl c ∧ _
    refine ⟨_, rfl, ?_⟩
    cases ha : xs.all (itW ws) with
    | false =>
      have := k G sG
      rw [wdsB_no ha] at this
      exact iteT this
    | true =>
      obtain ⟨cs, ec, ac⟩ := all_itW ha
      obtain rfl := txs_some ec
      have hv2 : SqV K G a (cs.map V.str) := hv.same sG
      have lc : cs.length ≤ 1000 := by rw [List.length_map] at few; exact few
      have k := fun H' S => k H' S
      have ek : wdsB (cs.map V.str) ws = decide (cs = ws.filter cs.contains) := by
        unfold wdsB wdsOk
        rw [ec]
        show (cs.all ws.contains && _) = _
        rw [ac, Bool.true_and]
      rw [ek] at k
      refine iteF ⟨_, rfl, a, _, rfl, hv2, fun l nl => ?_⟩
      have sL := sG.trans (Same.new (o := .lst (cs.map V.str)) nl)
      have hl : upd G l (.lst (cs.map V.str)) l = some (.lst (cs.map V.str)) := upd_same
      generalize upd G l (.lst (cs.map V.str)) = G1 at sL hl ⊢
      refine ⟨_, rfl, p, rfl, ⟨_, hp _⟩, fun D2 hD2 => ?_⟩
      refine lc_tup (K := K) (xs := ws.map V.str) (fun i G2 => Same G1 G2 ∧ G2 D2 = some (.lst (((ws.take i).filter cs.contains).map V.str))) ⟨Same.new hD2, upd_same⟩ (fun i G2 _ g => hp _) (fun i x G2 hx g => ?_) (fun G2 g => ?_)
      · obtain ⟨s2, h2⟩ := g
        rw [List.getElem?_map] at hx
        obtain ⟨c, hc, rfl⟩ := Option.map_eq_some_iff.mp hx
        have lt := (List.getElem?_eq_some_iff.mp hc).1
        refine ⟨rfl, _, rfl, _, rfl, a, _, rfl, (hv.same sL).same s2, rfl, flat_strs, _, rfl, ?_⟩
        rw [inV_strs]
        cases hin : cs.contains c with
        | true =>
          refine iteT ⟨_, rfl, _, h2, ?_, same_put s2 hD2, ?_⟩
          · rw [List.length_map]
            have := List.length_filter_le cs.contains (ws.take i)
            rw [List.length_take] at this
            omega
          · rw [upd_same, List.take_succ, hc]
            simp only [Option.toList, List.filter_append, List.filter_cons, hin, if_true, List.filter_nil, List.map_append]
            rfl
        | false =>
          refine iteF ⟨s2, ?_⟩
          rw [h2, List.take_succ, hc]
          simp only [Option.toList, List.filter_append, List.filter_cons, hin, Bool.false_eq_true, if_false, List.filter_nil, List.append_nil]
      · obtain ⟨s2, h2⟩ := g
        rw [List.length_map, List.take_length] at h2
        have lay1 : ∀ z ∈ cs, PyData.canLay0 (.str z) = true := fun z hz => lays z (List.contains_iff_mem.mp (List.all_eq_true.mp ac z hz))
        have lay2 : ∀ z ∈ ws.filter cs.contains, PyData.canLay0 (.str z) = true := fun z hz => lays z (List.mem_filter.mp hz).1
        refine ⟨_, _, .lst (SqL.of (s2 _ _ hl)) (dpS cs), .lst (SqL.of h2) (dpS _), shpL lay1, shpL lay2, ?_⟩
        show Q (.bl (PyData.eqvAll (cs.map PyData.str) ((ws.filter cs.contains).map PyData.str))) G2
        rw [eqvS]
        exact k G2 (sL.trans s2)
end
end K08

set_option maxRecDepth 100000
set_option maxHeartbeats 4000000
/-! raise C() of an own exception class whose __init__ takes nothing and sets nothing. -/
namespace L2
open PySem PySem.Spec PyProof.Rows
section
variable {X : Cx} {pins : List (Addr × Obj)} {σ : St}
theorem mk_none {H1 H2 : Hp} {Q : XK} {hp hp2 h2 : Heap} {g1 g2 : Array GenState} {d1 d2 : Drawn} {t1 t2 : Nat} {os1 os2 : OsState} {a C : Addr} (T : Raises X (.ref C)) (I1 : Inv X pins σ H1 ⟨hp, g1, d1, t1, os1⟩)
    (ha : hp.objs.size ≤ a) (k : ∀ b o, hp.get? b = some o → hp2.get? b = some o) (un : Un (frs X.stack) [] (upd H1 a (exo a C none)) H2 hp2 h2) (hok : HOk X.prog X.w H2 h2) (ho : os2 = os1) (hb : AllBare g2)
    (ea : H2 a = some (exo a C none)) (q : Q (.ref C) none (del H2 a)) : MkP X pins σ Q (.ref a) ⟨h2, g2, d2, t2, os2⟩ := by
  obtain ⟨t0, at_a⟩ := exo_at hok ea
  have new : H1 a = none := I1.hok.fresh ha
  obtain ⟨G, keepG, outG⟩ := restrict h2 fun b => decide (b ≠ a)
  have same : ∀ b, b ≠ a → G.get? b = h2.get? b := fun b n => keepG b (decide_eq_true n)
  have gone : G.get? a = none := outG a (by simp)
  have old : ∀ {b : Addr} {o : Obj}, hp.get? b = some o → b ≠ a := fun {b o} z => Nat.ne_of_lt (Nat.lt_of_lt_of_le (Heap.lt_size z) ha)
  have un1 : ∀ {b : Addr}, b ≠ a → H1 b = none → upd H1 a (exo a C none) b = none := fun {b} n z => (upd_ne n).trans z
  have U : Un (frs X.stack) [] H1 (del H2 a) hp G :=
    ⟨fun b o z n f x => (same b (old z)).trans (un.keep b o (k b o z) (un1 (old z) n) f x),
     fun b o z n f x => by
      obtain ⟨sl, e⟩ := un.slot b o (k b o z) (un1 (old z) n) f x
      exact ⟨sl, (same b (old z)).trans e⟩,
     fun b o z n x => (del_ne (old z)).trans (un.free b o (k b o z) (un1 (old z) n) x),
     fun b o z x => by
      obtain ⟨o', e⟩ := un.there b o (k b o z) x
      exact ⟨o', (same b (old z)).trans e⟩,
     fun b xs z => (del_ne (ne_of_none z new)).trans (un.tups b xs ((upd_ne (ne_of_none z new)).trans z)),
     fun b o v z => (del_ne (ne_of_none z new)).trans (un.frzs b o v ((upd_ne (ne_of_none z new)).trans z)),
     fun b ps z => by
      obtain ⟨more, e⟩ := un.tbls b ps ((upd_ne (ne_of_none z new)).trans z)
      exact ⟨more, (del_ne (ne_of_none z new)).trans e⟩⟩
  have okG : HOk X.prog X.w (del H2 a) G := fun b o z => by
    have n : b ≠ a := fun e => by
      rw [e, del_same] at z
      cases z
    rw [del_ne n] at z
    have noa : ∀ {c : Addr}, H2 c = some (.own b) → c ≠ a := fun {c} hc => at_ne ea hc exo_own
    exact (hok b o z).stay (fun c v hc y => (same c (hc.elim (fun e => e ▸ n) noa)).trans y) (fun c hc => (del_ne (noa hc)).trans hc) (fun c xs hc => (del_ne (at_ne ea hc exo_tup)).trans hc)
  have J : Inv X pins σ (del H2 a) ⟨G, g2, d2, t2, os2⟩ := I1.call' (ch := []) ho U okG hb (fun b z => absurd z (by simp))
  refine ⟨a, _, _, ⟨G, g2, d2, t2, os2⟩, _, .ref C, none, rfl, J, fun b o z => ?_, gone, at_a, ⟨rfl, rfl⟩, rfl, rfl, del_same, rfl, hb, T, q⟩
  by_cases n : b = a
  · rw [n, gone] at z
    cases z
  · exact (same b n).symm.trans z
/-- C() -/
def tMkN (C : Addr) (sp : Sp) : St → Hp → XK → Prop := fun _ H Q => ∀ a, H a = none → sp [.ref a] (upd H a (exo a C none)) (fun v H2 => v = .non ∧ H2 a = some (exo a C none) ∧ Q (.ref C) none (del H2 a)) fun _ _ _ => False
theorem pmk_oexN {CX : CXT} {x : Str} {C fI : Addr} {k : Nat} {fd : FuncData} {sp : Sp} {p pos : Pos} {s0 : Str} (T : OexC X.K C) (iC : PySem.W.findIn X.K (.ref C) "__init__" = some (some (.ref fI))) (tI : PySem.W.typeIn X.K (.ref fI) = some (.type "function"))
    (F1 : FnOk X.prog X.w X.K X.mg X.base CX k fI fd [s0] sp) (hr : Room (k + 1) X.A) (hb : Binds X.K fd [s0] []) (hx : Passes CX X (fun _ _ _ => False)) (hg : Gl X x) (hm : X.mg x = some (.ref C))
    (hdb : (x == ("__debug__" : Str)) = false := by decide) : PMk X (.Call (.Name x p) [] [] pos) (tMkN C sp) := by
  intro pins s σ H Q I h
  obtain ⟨nm, q, N, bs, bm, sn, sub, ab, col, dd, k0, k1, k2, k3, k5, hC, hbm⟩ := T.cls
  refine wpAny_Call_Name_kw (ld_glob I hg hm ?_ hdb)
  refine PySem.W.callWith_K0 I.kIn T.kC ?_
  show wpAny _ _ (call (.ref C) []) _ _ _
  obtain ⟨hp, g, dr, tk, os⟩ := s
  have up1 : hp.objs.size ≤ hp.objs.size + 1 := Nat.le_succ _
  have hq := h (hp.objs.size + 1) (I.hok.fresh up1)
  have kk : ∀ b o, hp.get? b = some o → ((hp.push (PySem.W.kdv_tup [])).push (PySem.HandSPX.excO C hp.objs.size)).get? b = some o := fun b o e => Heap.get?_push_of_some _ (Heap.get?_push_of_some _ e)
  have hget : ((hp.push (PySem.W.kdv_tup [])).push (PySem.HandSPX.excO C hp.objs.size)).get? (hp.objs.size + 1) = some (PySem.HandSPX.excO C hp.objs.size) := by heap_get
  have I2 : Inv X pins σ (upd H (hp.objs.size + 1) (exo (hp.objs.size + 1) C none)) ⟨(hp.push (PySem.W.kdv_tup [])).push (PySem.HandSPX.excO C hp.objs.size), g, dr, tk, os⟩ := I.laid (t' := tk) kk up1 (exo_ok hget)
  refine wpAny_call (PySem.HandSPX.call_own F.excBase_ValueError (fun Y => PySem.HandSPX.refsVE_contains Y bm hbm) (I.kIn _ _ hC) (PySem.W.looks_findIn I.kIn iC) (fun self => PySem.W.bind_fn I.kIn self tI) (Nat.zero_le _)
    (codeAny_mono (F1.run _ X.stack _ _ ⟨[Value.ref (hp.objs.size + 1)], []⟩ [Value.ref (hp.objs.size + 1)] _ _ (fun _ _ _ => False) (hr.make C [] []) (I2.env0.make C [] []) (hb _ [Value.ref (hp.objs.size + 1)] I2.kIn rfl) (show Vals [V.ref (hp.objs.size + 1)] [Value.ref (hp.objs.size + 1)] from .cons rfl .nil) hq) fun r s' hq' => ?_))
  cases r with
  | error er => exact hx pins σ _ _ er s' I2 hq'
  | ok fl =>
    cases fl with
    | ret u =>
      obtain ⟨v, H2, os2, bare2, un2, hok2, rv, ev, ea, q2⟩ := hq'
      subst ev
      obtain ⟨h2, g2, d2, t2, os'⟩ := s'
      exact ⟨rv, mk_none (raises_own T.exC T.tyC) I up1 kk un2 hok2 os2 bare2 ea q2⟩
    | next => exact False.elim hq'
    | brk => exact False.elim hq'
    | cont => exact False.elim hq'
end
end L2

set_option maxRecDepth 100000
set_option maxHeartbeats 4000000
namespace K08
open PySem PySem.Spec PyProof.Rows L2 He VH
/-! a Phase made -/
abbrev sNoP : Stmt := inClass (top 2) 0
abbrev sPhI : Stmt := inClass (top 13) 0
abbrev FnNoP (K : PySem.W.Frag) (fd : FuncData) : Prop := FnM K "__init__" "NoPhase.__init__" 2 0 (ma K (ga K "NoPhase") "__init__") fd
/-- c(w) is raised out of H -/
def Rz (K : PySem.W.Frag) (E : XK) (H : Hp) (c w : Str) : Prop := ∀ (d : Addr) (H' : Hp), H d = none → Same H H' → H' d = some (.xd [("part", .str w)]) → E (.ref (ga K c)) (some d) H'
theorem Rz.same {K : PySem.W.Frag} {E : XK} {H H' : Hp} {c w : Str} (h : Rz K E H c w) (s : Same H H') : Rz K E H' c w := fun d H2 n s2 e => h d H2 (s.free n) (s.trans s2) e
/-- no truth -/
def NoBl (K : PySem.W.Frag) (H : Hp) (x : V) : Prop := ∀ H', Same H H' → ∃ t, TyX K H' x t ∧ PySem.W.kitOne K t (.type "bool") = some false
theorem NoBl.same {K : PySem.W.Frag} {H H' : Hp} {x : V} (h : NoBl K H x) (s : Same H H') : NoBl K H' x := fun H2 s2 => h H2 (s.trans s2)
def isN (K : PySem.W.Frag) (H : Hp) (x : V) (r : Option Str) : Prop := (∃ z : Str, x = .str z ∧ z.length ≤ 1000 ∧ r = if nameB z = true then some z else none) ∨ (NoTx K H x ∧ r = none)
def isL (K : PySem.W.Frag) (H : Hp) (ok : List V → Bool) (x : V) (r : Option (List V)) : Prop := (∃ (a : Addr) (xs : List V), x = .ref a ∧ SqV K H a xs ∧ Told K H xs ∧ xs.length ≤ 1000 ∧ r = if ok xs = true then some xs else none) ∨ (NoSq K H x ∧ r = none)
def isB (K : PySem.W.Frag) (H : Hp) (x : V) (r : Option Bool) : Prop := (∃ b, x = .bl b ∧ r = some b) ∨ (NoBl K H x ∧ r = none)
theorem isN.same {K : PySem.W.Frag} {H H' : Hp} {x : V} {r : Option Str} (h : isN K H x r) (s : Same H H') : isN K H' x r := h.imp id fun h => ⟨h.1.same s, h.2⟩
theorem isL.same {K : PySem.W.Frag} {H H' : Hp} {ok : List V → Bool} {x : V} {r : Option (List V)} (h : isL K H ok x r) (s : Same H H') : isL K H' ok x r :=
  h.imp (fun ⟨a, xs, e, v, t, l, q⟩ => ⟨a, xs, e, v.same s, t.same s, l, q⟩) fun h => ⟨h.1.same s, h.2⟩
theorem isB.same {K : PySem.W.Frag} {H H' : Hp} {x : V} {r : Option Bool} (h : isB K H x r) (s : Same H H') : isB K H' x r := h.imp id fun h => ⟨h.1.same s, h.2⟩
abbrev prW : List Str := ["right", "mild", "kept", "once"]
abbrev waW : List Str := ["done", "drained"]
/-- the part that is refused first -/
def wrong (r0 : Option Str) (r1 : Option (List V)) (r2 : Option Bool) (r3 r4 : Option (List V)) : Option Str :=
  if r0 = none then some "name" else if r1 = none then some "writers" else if r2 = none then some "fills" else if r3 = none then some "promises" else if r4 = none then some "waits" else none
/-- a Phase at a -/
def PhAt (K : PySem.W.Frag) (H : Hp) (a : Addr) (z : Str) (ws : List V) (b : Bool) (ps qs : List V) : Prop := ∃ dx t1 t2 t3 : Addr, H a = some (.ins (ga K "Phase") dx [("name", .str z), ("writers", .ref t1), ("fills", .bl b), ("promises", .ref t2), ("waits", .ref t3)]) ∧
  SqT K H t1 ws ∧ SqT K H t2 ps ∧ SqT K H t3 qs
def spPhI (K : PySem.W.Frag) : Sp := fun vs H Q E => ∃ (a dx : Addr) (x0 x1 x2 x3 x4 : V) (r0 : Option Str) (r1 : Option (List V)) (r2 : Option Bool) (r3 r4 : Option (List V)), vs = [.ref a, x0, x1, x2, x3, x4] ∧ H a = some (.ins (ga K "Phase") dx []) ∧
  isN K H x0 r0 ∧ isL K H nmsB x1 r1 ∧ isB K H x2 r2 ∧ isL K H (fun xs => wdsB xs prW) x3 r3 ∧ isL K H (fun xs => wdsB xs waW) x4 r4 ∧
  (∀ u, wrong r0 r1 r2 r3 r4 = some u → Rz K E H "NoPhase" u) ∧
  (∀ z ws b ps qs, r0 = some z → r1 = some ws → r2 = some b → r3 = some ps → r4 = some qs → ∀ H', But a H H' → PhAt K H' a z ws b ps qs → Q .non H')
section
variable {P : Program} {w : World} {K : PySem.W.Frag} {mg : Str → Option Value} {base : Heap} {f : Addr} {fd : FuncData}
theorem scNoP : FnScope ["self", "part"] ["self", "part"] (defScope sNoP) := ⟨rfl, rfl, rfl, by decide +kernel, rfl, by decide +kernel, by decide +kernel⟩
theorem okNoP (F : FnM K "__init__" "NoPhase.__init__" 2 0 f fd) : FnOk P w K mg base CX0 1 f fd ["self", "part"] (spIni K ["part"]) := by
  refine F.ok scNoP (fun vs H Q E h => ?_) (fun cdv A outer s H vs Q E hr h => ?_)
  · obtain ⟨a, C, v, rfl, _⟩ := ini1 h
    rfl
  refine ⟨_, PSs.nox (pss_one (ps_ost (pv 0) (pv 1))), ?_⟩
  obtain ⟨a, C, v, rfl, T, no, ha, k⟩ := ini1 h
  exact ⟨_, rfl, _, rfl, a, C, rfl, T, no, .inl ⟨ha, fun dx n ne => k dx n ne⟩⟩
theorem bNoP (F : FnM K "__init__" "NoPhase.__init__" 2 0 f fd) : Binds K fd ["self", "part"] [] := FunD.bindsN F fun _ _ _ _ _ _ us hl => match us, hl with | [_, _], _ => rfl
abbrev kwP (K : PySem.W.Frag) : List (Str × V) := [("writers", .ref (kwA ("Phase", some "__init__") "writers" K)), ("fills", .bl false), ("promises", .ref (kwA ("Phase", some "__init__") "promises" K)), ("waits", .ref (kwA ("Phase", some "__init__") "waits" K))]
abbrev FnPhI (K : PySem.W.Frag) (fd : FuncData) : Prop := FunD K "__init__" "Phase.__init__" (defArgs sPhI) (defBody sPhI) (defScope sPhI) [] (kwP K) (ma K (ga K "Phase") "__init__") fd
abbrev nPhI : List Str := ["self", "name", "writers", "fills", "promises", "waits"]
theorem scPhI : FnScope nPhI nPhI (defScope sPhI) := ⟨rfl, rfl, rfl, by decide +kernel, rfl, by decide +kernel, by decide +kernel⟩
theorem ok_phI (F : FnPhI K fd) (T : Txt K mg w) (fns : Fns K) : FnOk P w K mg base (L2.CX P w) 3 (ma K (ga K "Phase") "__init__") fd nPhI (spPhI K) := by
  obtain ⟨dW, FW⟩ := fns.f_is_word
  obtain ⟨dS, FS⟩ := fns.f_are_words
  obtain ⟨dQ, FQ⟩ := fns.f_is_sequence
  obtain ⟨dN, FN⟩ := fns.f_is_name
  obtain ⟨dM, FM⟩ := fns.f_are_names
  obtain ⟨dX, FX⟩ := fns.f_NoPhase_init
  have GS : FnOk P w K mg base CX0 2 (ga K "are_words") dS ["values", "words"] (spWds K) := ok_wds FS T FW
  have GQ : FnOk P w K mg base CX0 1 (ga K "is_sequence") dQ ["value"] (spSeq K) := ok_seq FQ T
  have GN : FnOk P w K mg base CX0 1 (ga K "is_name") dN ["value"] (spNam K) := ok_nam FN T
  have GM : FnOk P w K mg base CX0 2 (ga K "are_names") dM ["value"] (spNms K) := ok_nms FM T FQ FN
  refine F.ok scPhI (fun vs H Q E h => ?_) (fun cdv A outer s H vs Q E hr h => ?_)
  · obtain ⟨_, _, _, _, _, _, _, _, _, _, _, _, rfl, _⟩ := h
    rfl
  have raise : ∀ {p1 p2 p3 p4 : Pos} {j : Nat} {wd : Str}, PS (cxOf (L2.CX P w) P w K mg base nPhI "Phase.__init__" (defScope sPhI) (ma K (ga K "Phase") "__init__") cdv A outer s H E) (.Raise (some (.Call (.Name "NoPhase" p1) [.Constant (.str wd) j p2] [] p3)) none p4) _ := fun {p1 p2 p3 p4 j wd} =>
    ps_raise rfl (takes_of rfl rfl rfl rfl) (pmk_oex T.x_NoPhase.mkx.toOexC T.x_NoPhase.mkx.ini T.x_NoPhase.mkx.tyI (okNoP FX) (hr.mono (by decide)) (bNoP FX) .nil pass0 (by rfl) T.m_NoPhase (pa_cons pe_str pa_nil))
  refine ⟨_, pss_cons (ps_if (pt_not (pt_val (pe_call GN (hr.mono (by decide)) (by rfl) T.m_is_name FN.kp (bNam FN) .nil pass0 (pa_cons (pv 1) pa_nil)))) (pss_one raise) pss_nil)
    (pss_cons (ps_if (pt_not (pt_val (pe_call GM hr (by rfl) T.m_are_names FM.kp (bNms FM) .nil pass0 (pa_cons (pv 2) pa_nil)))) (pss_one raise) pss_nil)
    (pss_cons (ps_if (pt_not (pt_val (pe_callB call_isi (by rfl) T.g_isinstance boot_isinstance (pa_cons (pv 3) (pa_cons (pe_bltn (v := .ty "bool") (by rfl) T.g_bool boot_bool rfl) pa_nil))))) (pss_one raise) pss_nil)
    (pss_cons (ps_if (PW.pt (pw_or (pt_not (pt_val (pe_call GQ (hr.mono (by decide)) (by rfl) T.m_is_sequence FQ.kp (bSeq FQ) .nil pass0 (pa_cons (pv 4) pa_nil)))) (pw_or1 (pt_not (pt_val (pe_call GS hr (by rfl) T.m_are_words FS.kp (bWds FS) .nil pass0 (pa_cons (pv 4) (pa_cons (pe_glob (v := .ref (ga K "PROMISES")) (by rfl) T.m_PROMISES rfl) pa_nil)))))))) (pss_one raise) pss_nil)
    (pss_cons (ps_if (PW.pt (pw_or (pt_not (pt_val (pe_call GQ (hr.mono (by decide)) (by rfl) T.m_is_sequence FQ.kp (bSeq FQ) .nil pass0 (pa_cons (pv 5) pa_nil)))) (pw_or1 (pt_not (pt_val (pe_call GS hr (by rfl) T.m_are_words FS.kp (bWds FS) .nil pass0 (pa_cons (pv 5) (pa_cons (pe_glob (v := .ref (ga K "WAITS")) (by rfl) T.m_WAITS rfl) pa_nil)))))))) (pss_one raise) pss_nil)
    (pss_cons (ps_fld (pv 0) (pv 1) rfl)
    (pss_cons (ps_fld (pv 0) (pe_callTy call_tupS (by rfl) T.g_tuple boot_tuple (pa_cons (pv 2) pa_nil)) rfl)
    (pss_cons (ps_fld (pv 0) (pv 3) rfl)
    (pss_cons (ps_fld (pv 0) (pe_callTy call_tupS (by rfl) T.g_tuple boot_tuple (pa_cons (pv 4) pa_nil)) rfl)
    (pss_one (ps_fld (pv 0) (pe_callTy call_tupS (by rfl) T.g_tuple boot_tuple (pa_cons (pv 5) pa_nil)) rfl)))))))))), ?_⟩
  obtain ⟨a, dx, x0, x1, x2, x3, x4, r0, r1, r2, r3, r4, rfl, ha, h0, h1, h2, h3, h4, rz, k⟩ := h
  have go : ∀ {G : Hp} {wd : Str}, Rz K E G "NoPhase" wd → ([V.str wd].length ≤ 1000 ∧ ∀ p, G p = none → spIni K ["part"] [.ref p, .str wd] (upd G p (exo p (ga K "NoPhase") none)) (fun v H2 => v = .non ∧ ∃ (d : Addr) (fs : List (Str × V)), H2 p = some (exo p (ga K "NoPhase") (some d)) ∧ H2 d = some (exd d fs) ∧ G d = none ∧ E (.ref (ga K "NoPhase")) (some d) (upd (del H2 p) d (.xd fs))) (fun _ _ _ => False)) :=
    fun {G wd} z => ⟨(show 1 ≤ 1000 by decide), fun p n => read_raise T.x_NoPhase [.str wd] n rfl rfl (by simp) rfl fun d H' nd s e => z d H' nd s e⟩
  have rw_ : ∀ {G : Hp} {u : Str}, Same H G → wrong r0 r1 r2 r3 r4 = some u → Rz K E G "NoPhase" u := fun S e => (rz _ e).same S
  -- name
  rcases h0 with ⟨z, rfl, lz, e0⟩ | ⟨no, e0⟩
  case inr => exact ⟨_, rfl, _, rfl, .inr ⟨no, fun H1 S1 => ⟨false, rfl, iteT (go (rw_ S1 (by unfold wrong; rw [if_pos e0])))⟩⟩⟩
  cases nb : nameB z
  case false =>
    rw [nb] at e0
    have e0 : r0 = none := e0
    exact ⟨_, rfl, _, rfl, .inl ⟨z, rfl, lz, fun H1 S1 => ⟨nameB z, rfl, by rw [nb]; exact iteT (go (rw_ S1 (by unfold wrong; rw [if_pos e0])))⟩⟩⟩
  rw [nb] at e0
  have e0 : r0 = some z := e0
  have n0 : ¬ r0 = none := by rw [e0]; simp
  refine ⟨_, rfl, _, rfl, .inl ⟨z, rfl, lz, fun H1 S1 => ⟨nameB z, rfl, ?_⟩⟩⟩
  rw [nb]
  refine iteF ?_
  -- writers
  rcases h1 with ⟨a1, ws, rfl, v1, t1, l1, e1⟩ | ⟨no, e1⟩
  case inr => exact ⟨_, rfl, _, rfl, .inr ⟨no.same S1, fun H2 S2 => ⟨false, rfl, iteT (go (rw_ (S1.trans S2) (by unfold wrong; rw [if_neg n0, if_pos e1])))⟩⟩⟩
  cases mb : nmsB ws
  case false =>
    rw [mb] at e1
    have e1 : r1 = none := e1
    exact ⟨_, rfl, _, rfl, .inl ⟨a1, ws, rfl, v1.same S1, t1.same S1, l1, fun H2 S2 => ⟨nmsB ws, rfl, by rw [mb]; exact iteT (go (rw_ (S1.trans S2) (by unfold wrong; rw [if_neg n0, if_pos e1])))⟩⟩⟩
  rw [mb] at e1
  have e1 : r1 = some ws := e1
  have n1 : ¬ r1 = none := by rw [e1]; simp
  refine ⟨_, rfl, _, rfl, .inl ⟨a1, ws, rfl, v1.same S1, t1.same S1, l1, fun H2 S2 => ⟨nmsB ws, rfl, ?_⟩⟩⟩
  rw [mb]
  refine iteF ?_
  have S02 := S1.trans S2
  -- fills
  rcases h2 with ⟨b, rfl, e2⟩ | ⟨no, e2⟩
  case inr =>
    obtain ⟨t, ty, kk⟩ := no H2 S02
    exact ⟨_, rfl, _, _, _, _, false, rfl, .ty "bool", ty, kk, false, rfl, iteT (go (rw_ S02 (by unfold wrong; rw [if_neg n0, if_neg n1, if_pos e2])))⟩
  have n2 : ¬ r2 = none := by rw [e2]; simp
  refine ⟨_, rfl, _, _, _, _, true, rfl, .ty "bool", .base (.bl b), kit_ty (by decide +kernel), true, rfl, iteF ?_⟩
  -- promises
  rcases h3 with ⟨a3, ps, rfl, v3, t3, l3, e3⟩ | ⟨no, e3⟩
  case inr => exact ⟨_, rfl, _, rfl, .inr ⟨no.same S02, fun H3 S3 => ⟨false, rfl, iteT (go (rw_ (S02.trans S3) (by unfold wrong; rw [if_neg n0, if_neg n1, if_neg n2, if_pos e3])))⟩⟩⟩
  refine ⟨_, rfl, _, rfl, .inl ⟨a3, ps, rfl, v3.same S02, fun H3 S3 => ⟨true, rfl, iteF ?_⟩⟩⟩
  have S03 := S02.trans S3
  cases pb : wdsB ps prW
  case false =>
    have e3 : r3 = none := by rw [e3]; simp only [pb]; rfl
    exact ⟨_, rfl, a3, _, ps, prW, rfl, v3.same S03, t3.same S03, l3, T.t_PROMISES, by decide, by decide +kernel, fun H4 S4 => ⟨wdsB ps prW, rfl, by rw [pb]; exact iteT (go (rw_ (S03.trans S4) (by unfold wrong; rw [if_neg n0, if_neg n1, if_neg n2, if_pos e3])))⟩⟩
  have e3 : r3 = some ps := by rw [e3]; simp only [pb]; rfl
  have n3 : ¬ r3 = none := by rw [e3]; simp
  refine ⟨_, rfl, a3, _, ps, prW, rfl, v3.same S03, t3.same S03, l3, T.t_PROMISES, by decide, by decide +kernel, fun H4 S4 => ⟨wdsB ps prW, rfl, ?_⟩⟩
  rw [pb]
  refine iteF ?_
  have S04 := S03.trans S4
  -- waits
  rcases h4 with ⟨a4, qs, rfl, v4, t4, l4, e4⟩ | ⟨no, e4⟩
  case inr => exact ⟨_, rfl, _, rfl, .inr ⟨no.same S04, fun H5 S5 => ⟨false, rfl, iteT (go (rw_ (S04.trans S5) (by unfold wrong; rw [if_neg n0, if_neg n1, if_neg n2, if_neg n3, if_pos e4])))⟩⟩⟩
  refine ⟨_, rfl, _, rfl, .inl ⟨a4, qs, rfl, v4.same S04, fun H5 S5 => ⟨true, rfl, iteF ?_⟩⟩⟩
  have S05 := S04.trans S5
  cases qb : wdsB qs waW
  case false =>
    have e4 : r4 = none := by rw [e4]; simp only [qb]; rfl
    exact ⟨_, rfl, a4, _, qs, waW, rfl, v4.same S05, t4.same S05, l4, T.t_WAITS, by decide, by decide +kernel, fun H6 S6 => ⟨wdsB qs waW, rfl, by rw [qb]; exact iteT (go (rw_ (S05.trans S6) (by unfold wrong; rw [if_neg n0, if_neg n1, if_neg n2, if_neg n3, if_pos e4])))⟩⟩
  have e4 : r4 = some qs := by rw [e4]; simp only [qb]; rfl
  refine ⟨_, rfl, a4, _, qs, waW, rfl, v4.same S05, t4.same S05, l4, T.t_WAITS, by decide, by decide +kernel, fun H6 S6 => ⟨wdsB qs waW, rfl, ?_⟩⟩
  rw [qb]
  refine iteF ?_
  have S06 := S05.trans S6
  have ha6 := S06 _ _ ha
  have u1 := v1.same S06
  have u3 := v3.same S06
  have u4 := v4.same S06
  have B6 : But a H H6 := But.of S06
  clear go rw_ rz t1 t3 t4 nb mb pb qb S05 S04 S03 S02 S1 S2 S3 S4 S5 S6 v1 v3 v4
  -- the fields
  refine ⟨_, rfl, _, rfl, a, _, dx, _, rfl, ha6, T.c_Phase, T.n_Phase_name, (show 0 < 1000 by decide), ?_⟩
  have off : ∀ {G : Hp} {o : HO} (c : Addr) (u : HO), c ≠ a → G c = some u → upd G a o c = some u := fun c u n e => (upd_ne n).trans e
  have B7 := B6.trans (But.upd (a := a) (H := H6) (o := .ins (ga K "Phase") dx [("name", .str z)]))
  have w1 := u1.ins (H' := upd H6 a (.ins (ga K "Phase") dx [("name", .str z)])) ha6 off
  have w3 := u3.ins (H' := upd H6 a (.ins (ga K "Phase") dx [("name", .str z)])) ha6 off
  have w4 := u4.ins (H' := upd H6 a (.ins (ga K "Phase") dx [("name", .str z)])) ha6 off
  have ha7 : upd H6 a (.ins (ga K "Phase") dx [("name", .str z)]) a = some (.ins (ga K "Phase") dx [("name", .str z)]) := upd_same
  clear B6 u1 u3 u4 ha6
  refine ⟨_, rfl, a1, ws, rfl, w1, fun t1 G1 T1 h1 => ?_⟩
  have ha8 := T1 _ _ ha7
  refine ⟨_, rfl, a, _, dx, _, rfl, ha8, T.c_Phase, T.n_Phase_writers, (show 1 < 1000 by decide), ?_⟩
  have B9 := (B7.trans (But.of T1)).trans (But.upd (a := a) (H := G1) (o := .ins (ga K "Phase") dx [("name", .str z), ("writers", .ref t1)]))
  have x3 := (w3.same T1).ins (H' := upd G1 a (.ins (ga K "Phase") dx [("name", .str z), ("writers", .ref t1)])) ha8 off
  have x4 := (w4.same T1).ins (H' := upd G1 a (.ins (ga K "Phase") dx [("name", .str z), ("writers", .ref t1)])) ha8 off
  have y1 := h1.ins (H' := upd G1 a (.ins (ga K "Phase") dx [("name", .str z), ("writers", .ref t1)])) ha8 off
  have ha9 : upd G1 a (.ins (ga K "Phase") dx [("name", .str z), ("writers", .ref t1)]) a = some (.ins (ga K "Phase") dx [("name", .str z), ("writers", .ref t1)]) := upd_same
  clear B7 w1 w3 w4 ha7 ha8 T1 h1
  refine ⟨_, rfl, _, rfl, a, _, dx, _, rfl, ha9, T.c_Phase, T.n_Phase_fills, (show 2 < 1000 by decide), ?_⟩
  have B10 := B9.trans (But.upd (a := a) (H := upd G1 a (.ins (ga K "Phase") dx [("name", .str z), ("writers", .ref t1)])) (o := .ins (ga K "Phase") dx [("name", .str z), ("writers", .ref t1), ("fills", .bl b)]))
  have w3 := x3.ins (H' := upd (upd G1 a (.ins (ga K "Phase") dx [("name", .str z), ("writers", .ref t1)])) a (.ins (ga K "Phase") dx [("name", .str z), ("writers", .ref t1), ("fills", .bl b)])) ha9 off
  have w4 := x4.ins (H' := upd (upd G1 a (.ins (ga K "Phase") dx [("name", .str z), ("writers", .ref t1)])) a (.ins (ga K "Phase") dx [("name", .str z), ("writers", .ref t1), ("fills", .bl b)])) ha9 off
  have y1 := y1.ins (H' := upd (upd G1 a (.ins (ga K "Phase") dx [("name", .str z), ("writers", .ref t1)])) a (.ins (ga K "Phase") dx [("name", .str z), ("writers", .ref t1), ("fills", .bl b)])) ha9 off
  have ha10 : upd (upd G1 a (.ins (ga K "Phase") dx [("name", .str z), ("writers", .ref t1)])) a (.ins (ga K "Phase") dx [("name", .str z), ("writers", .ref t1), ("fills", .bl b)]) a = some (.ins (ga K "Phase") dx [("name", .str z), ("writers", .ref t1), ("fills", .bl b)]) := upd_same
  clear B9 x3 x4 ha9
  refine ⟨_, rfl, a3, ps, rfl, w3, fun t2 G2 T2 h2 => ?_⟩
  have ha11 := T2 _ _ ha10
  refine ⟨_, rfl, a, _, dx, _, rfl, ha11, T.c_Phase, T.n_Phase_promises, (show 3 < 1000 by decide), ?_⟩
  have B12 := (B10.trans (But.of T2)).trans (But.upd (a := a) (H := G2) (o := .ins (ga K "Phase") dx [("name", .str z), ("writers", .ref t1), ("fills", .bl b), ("promises", .ref t2)]))
  have x4 := (w4.same T2).ins (H' := upd G2 a (.ins (ga K "Phase") dx [("name", .str z), ("writers", .ref t1), ("fills", .bl b), ("promises", .ref t2)])) ha11 off
  have y1 := (y1.same T2).ins (H' := upd G2 a (.ins (ga K "Phase") dx [("name", .str z), ("writers", .ref t1), ("fills", .bl b), ("promises", .ref t2)])) ha11 off
  have y2 := h2.ins (H' := upd G2 a (.ins (ga K "Phase") dx [("name", .str z), ("writers", .ref t1), ("fills", .bl b), ("promises", .ref t2)])) ha11 off
  have ha12 : upd G2 a (.ins (ga K "Phase") dx [("name", .str z), ("writers", .ref t1), ("fills", .bl b), ("promises", .ref t2)]) a = some (.ins (ga K "Phase") dx [("name", .str z), ("writers", .ref t1), ("fills", .bl b), ("promises", .ref t2)]) := upd_same
  clear B10 w3 w4 ha10 ha11 T2 h2
  refine ⟨_, rfl, a4, qs, rfl, x4, fun t3 G3 T3 h3 => ?_⟩
  have ha13 := T3 _ _ ha12
  refine ⟨_, rfl, a, _, dx, _, rfl, ha13, T.c_Phase, T.n_Phase_waits, (show 4 < 1000 by decide), ?_⟩
  exact k z ws b ps qs e0 e1 e2 e3 e4 _ ((B12.trans (But.of T3)).trans But.upd) ⟨dx, t1, t2, t3, upd_same, (y1.same T3).ins ha13 off, (y2.same T3).ins ha13 off, h3.ins ha13 off⟩
end
end K08

set_option maxRecDepth 100000
set_option maxHeartbeats 4000000
namespace K08
open PySem PySem.Spec PyProof.Rows L2 He VH
/-! two Phases compared -/
structure Ph where
  z : Str
  ws : List Str
  b : Bool
  ps : List Str
  qs : List Str
  deriving DecidableEq
/-- texts that can stand in data -/
def Lay (ws : List Str) : Prop := ∀ z ∈ ws, PyData.canLay0 (.str z) = true
structure Ph.Ok (d : Ph) : Prop where
  w : Lay d.ws
  p : Lay d.ps
  q : Lay d.qs
def PhS (K : PySem.W.Frag) (H : Hp) (a : Addr) (d : Ph) : Prop := PhAt K H a d.z (d.ws.map V.str) d.b (d.ps.map V.str) (d.qs.map V.str)
theorem shpT {ws : List Str} (h : Lay ws) : SeqAt.shaped (.tuple (ws.map PyData.str)) = true := by
  have z := shpAll ws h
  unfold SeqAt.shaped PyData.canLay0 PyData.depth
  rw [z.1, z.2]
  rfl
theorem dpT {K : PySem.W.Frag} {H : Hp} {p : Addr} {ws : List Str} (h : SqT K H p (ws.map V.str)) : Dp K H (.ref p) (.tuple (ws.map PyData.str)) := .tup h (dpS ws)
theorem PhAt.ty {K : PySem.W.Frag} {mg : Str → Option Value} {w : World} (T : Txt K mg w) {H : Hp} {a : Addr} {z : Str} {ws ps qs : List V} {b : Bool} (h : PhAt K H a z ws b ps qs) : TyX K H (.ref a) (.ref (ga K "Phase")) := by
  obtain ⟨dx, _, _, _, h, _⟩ := h
  exact .base (.ins h T.c_Phase T.o_Phase.cls T.dc1 T.dc2 T.o_Phase.mro)
abbrev sPhE : Stmt := inClass (top 13) 1
abbrev FnPhE (K : PySem.W.Frag) (fd : FuncData) : Prop := FnM K "__eq__" "Phase.__eq__" 13 1 (ma K (ga K "Phase") "__eq__") fd
theorem bPhE {K : PySem.W.Frag} {fd : FuncData} (F : FnPhE K fd) : Binds K fd ["self", "other"] [] := FunD.bindsN F fun _ _ _ _ _ _ us hl => match us, hl with | [_, _], _ => rfl
def spPhE (K : PySem.W.Frag) : Sp := fun vs H Q _ => ∃ (a : Addr) (d : Ph) (y : V), vs = [.ref a, y] ∧ PhS K H a d ∧ d.Ok ∧
  ((∃ (b : Addr) (d' : Ph), y = .ref b ∧ PhS K H b d' ∧ d'.Ok ∧ Q (.bl (decide (d = d'))) H) ∨ (∃ t, TyX K H y t ∧ PySem.W.kitOne K t (.ref (ga K "Phase")) = some false ∧ Q (.bl false) H))
section
variable {P : Program} {w : World} {K : PySem.W.Frag} {mg : Str → Option Value} {base : Heap} {f : Addr} {fd : FuncData}
theorem scPhE : FnScope ["self", "other"] ["self", "other"] (defScope sPhE) := ⟨rfl, rfl, rfl, by decide +kernel, rfl, by decide +kernel, by decide +kernel⟩
theorem ok_phE (F : FnM K "__eq__" "Phase.__eq__" 13 1 f fd) (T : Txt K mg w) : FnOk P w K mg base CX0 1 f fd ["self", "other"] (spPhE K) := by
  refine F.ok scPhE (fun vs H Q E h => ?_) (fun cdv A outer s H vs Q E hr h => ?_)
  · obtain ⟨_, _, _, rfl, _⟩ := h
    rfl
  refine ⟨_, PSs.nox (pss_one (ps_ret (pe_and (pe_callB call_isi (by rfl) T.g_isinstance boot_isinstance (pa_cons (pv 1) (pa_cons (pe_glob (v := .ref (ga K "Phase")) (by rfl) T.m_Phase rfl) pa_nil)))
    (pe_and (pe_cmpR op_eq (pe_fld (pv 0) (by rfl)) (pe_fld (pv 1) (by rfl)) (nomark _))
    (pe_and (pe_cmpR (op_eqD hr.units) (pe_fld (pv 0) (by rfl)) (pe_fld (pv 1) (by rfl)) (nomark _))
    (pe_and (pe_cmpR op_eq (pe_fld (pv 0) (by rfl)) (pe_fld (pv 1) (by rfl)) (nomark _))
    (pe_and (pe_cmpR (op_eqD hr.units) (pe_fld (pv 0) (by rfl)) (pe_fld (pv 1) (by rfl)) (nomark _))
    (pe_one (pe_cmpR (op_eqD hr.units) (pe_fld (pv 0) (by rfl)) (pe_fld (pv 1) (by rfl)) (nomark _)))))))))), ?_⟩
  obtain ⟨a, d, y, rfl, ha, oka, way⟩ := h
  rcases way with ⟨b, d', rfl, hb, okb, q⟩ | ⟨t, ty, k, q⟩
  case inr => exact ⟨_, rfl, _, _, t, _, false, rfl, .own (ga K "Phase"), ty, k, false, rfl, iteF q⟩
  have ty := PhAt.ty T hb
  obtain ⟨dx, t1, t2, t3, ha, a1, a2, a3⟩ := ha
  obtain ⟨dy, u1, u2, u3, hb, b1, b2, b3⟩ := hb
  obtain ⟨z, ws, b0, ps, qs⟩ := d
  obtain ⟨z', ws', b0', ps', qs'⟩ := d'
  simp only at ha hb a1 a2 a3 b1 b2 b3
  have eq : decide ((⟨z, ws, b0, ps, qs⟩ : Ph) = ⟨z', ws', b0', ps', qs'⟩) = (decide (z = z') && (decide (ws = ws') && (decide (b0 = b0') && (decide (ps = ps') && decide (qs = qs'))))) := by
    by_cases h1 : z = z' <;> by_cases h2 : ws = ws' <;> by_cases h3 : b0 = b0' <;> by_cases h4 : ps = ps' <;> by_cases h5 : qs = qs' <;> simp [h1, h2, h3, h4, h5]
  rw [eq] at q
  refine ⟨_, rfl, _, _, _, _, true, rfl, .own (ga K "Phase"), ty, T.o_Phase.kk, true, rfl, iteT ?_⟩
  refine ⟨_, rfl, a, _, dx, _, _, rfl, ha, T.c_Phase, T.n_Phase_name, rfl, _, rfl, b, _, dy, _, _, rfl, hb, T.c_Phase, T.n_Phase_name, rfl, rfl, _, rfl, ?_⟩
  by_cases e1 : z = z'
  case neg =>
    rw [show decide (V.str z = V.str z') = false by simp [e1]]
    rw [decide_eq_false e1] at q
    exact iteF q
  rw [show decide (V.str z = V.str z') = true by simp [e1]]
  rw [decide_eq_true e1, Bool.true_and] at q
  refine iteT ⟨_, rfl, a, _, dx, _, _, rfl, ha, T.c_Phase, T.n_Phase_writers, rfl, _, rfl, b, _, dy, _, _, rfl, hb, T.c_Phase, T.n_Phase_writers, rfl, ?_⟩
  refine ⟨_, _, dpT a1, dpT b1, shpT oka.w, shpT okb.w, _, rfl, ?_⟩
  rw [show PyData.eqv (.tuple (ws.map PyData.str)) (.tuple (ws'.map PyData.str)) = decide (ws = ws') from eqvS ws ws']
  cases e2 : decide (ws = ws')
  case false =>
    rw [e2] at q
    exact iteF q
  rw [e2, Bool.true_and] at q
  refine iteT ⟨_, rfl, a, _, dx, _, _, rfl, ha, T.c_Phase, T.n_Phase_fills, rfl, _, rfl, b, _, dy, _, _, rfl, hb, T.c_Phase, T.n_Phase_fills, rfl, rfl, _, rfl, ?_⟩
  by_cases e3 : b0 = b0'
  case neg =>
    rw [show decide (V.bl b0 = V.bl b0') = false by simp [e3]]
    rw [decide_eq_false e3] at q
    exact iteF q
  rw [show decide (V.bl b0 = V.bl b0') = true by simp [e3]]
  rw [decide_eq_true e3, Bool.true_and] at q
  refine iteT ⟨_, rfl, a, _, dx, _, _, rfl, ha, T.c_Phase, T.n_Phase_promises, rfl, _, rfl, b, _, dy, _, _, rfl, hb, T.c_Phase, T.n_Phase_promises, rfl, ?_⟩
  refine ⟨_, _, dpT a2, dpT b2, shpT oka.p, shpT okb.p, _, rfl, ?_⟩
  rw [show PyData.eqv (.tuple (ps.map PyData.str)) (.tuple (ps'.map PyData.str)) = decide (ps = ps') from eqvS ps ps']
  cases e4 : decide (ps = ps')
  case false =>
    rw [e4] at q
    exact iteF q
  rw [e4, Bool.true_and] at q
  refine iteT ⟨_, rfl, a, _, dx, _, _, rfl, ha, T.c_Phase, T.n_Phase_waits, rfl, _, rfl, b, _, dy, _, _, rfl, hb, T.c_Phase, T.n_Phase_waits, rfl, ?_⟩
  refine ⟨_, _, dpT a3, dpT b3, shpT oka.q, shpT okb.q, ?_⟩
  rw [show PyData.eqv (.tuple (qs.map PyData.str)) (.tuple (qs'.map PyData.str)) = decide (qs = qs') from eqvS qs qs']
  exact q
end
section
variable {P : Program} {w : World} {K : PySem.W.Frag} {mg : Str → Option Value} {base : Heap} {f : Addr} {fd : FuncData}
theorem raw0 {CX : CXT} {k : Nat} {ps : List Str} {sp : Sp} (F : FnOk P w K mg base CX k f fd ps sp) (b : Binds K fd ps []) : FnR P w K mg base CX k f sp :=
  fun A o s H us vs Q E hr en va h => F.raw b .nil A o s H us vs Q E hr en va (by
    show sp (vs ++ []) H Q E
    rw [List.append_nil]
    exact h)
end
section
variable {X : Cx} {fd : FuncData}
theorem op_eqPh (T : Txt X.K X.mg X.w) (F : FnPhE X.K fd) (hr : Room 1 X.A) : OpR X (compareOp .Eq) (rOwnA X.K (ga X.K "Phase") (spPhE X.K) E0 X) :=
  op_ownA (fun _ _ => rfl) T.h_Phase_eq.at_ T.h_Phase_eq.fn (raw0 (ok_phE F T) (bPhE F)) hr pass0
theorem read_eqP (T : Txt X.K X.mg X.w) {H : Hp} {a b : Addr} {d d' : Ph} {Q : VK} (ha : PhS X.K H a d) (oa : d.Ok) (hb : PhS X.K H b d') (ob : d'.Ok) (q : Q (.bl (decide (d = d'))) H) : rOwnA X.K (ga X.K "Phase") (spPhE X.K) E0 X (.ref a) (.ref b) H Q := by
  have ty := PhAt.ty T hb
  refine ⟨a, _, rfl, .inr ?_, ty, ?_, a, d, _, rfl, ha, oa, .inl ⟨b, d', rfl, hb, ob, q⟩⟩
  · obtain ⟨dx, _, _, _, h, _⟩ := ha
    exact ⟨dx, _, h⟩
  · unfold PySem.W.notFirst
    simp
theorem read_eqPs (T : Txt X.K X.mg X.w) {H : Hp} {a : Addr} {d : Ph} {z : Str} {Q : VK} (ha : PhS X.K H a d) (oa : d.Ok) (q : Q (.bl false) H) : rOwnA X.K (ga X.K "Phase") (spPhE X.K) E0 X (.ref a) (.str z) H Q := by
  have k := T.o_Phase.kt "str" (by simp)
  refine ⟨a, _, rfl, .inr ?_, .base (.str z), ?_, a, d, _, rfl, ha, oa, .inr ⟨_, .base (.str z), k.1, q⟩⟩
  · obtain ⟨dx, _, _, _, h, _⟩ := ha
    exact ⟨dx, _, h⟩
  · unfold PySem.W.notFirst
    rw [k.2]
    simp
end
end K08

set_option maxRecDepth 100000
set_option maxHeartbeats 4000000
namespace K08
open PySem PySem.Spec PyProof.Rows L2 He VH
abbrev sDraw : Stmt := top 15
abbrev nDraw : List Str := ["_law_well_here", "_law_much", "_law_digit", "_law_blend"]
section
variable {P : Program} {w : World} {K : PySem.W.Frag} {mg : Str → Option Value} {base : Heap} {f : Addr} {fd : FuncData}
theorem scDraw : FnScope nDraw ["_law_well_here", "_law_much"] (defScope sDraw) := ⟨rfl, rfl, rfl, by decide +kernel, rfl, by decide +kernel, by decide +kernel⟩
theorem ok_draw (F : FnP K "_law_draw" sDraw f fd) (gI : mg "int" = none) : FnOk P w K mg base CX0 1 f fd ["_law_well_here", "_law_much"] spDraw := by
  refine F.ok scDraw (fun vs H Q E h => ?_) (fun cdv A outer s H vs Q E hr h => ?_)
  · obtain ⟨a, m, rfl, _⟩ := h
    rfl
  refine ⟨_, PSs.nox (pss_cons (ps_if (pt_cmpR op_gt (pe_ix ix_list (pv 0) pe_int (fun _ _ => rfl)) pe_int (nomark _))
      (pss_cons (ps_set (i := 2) scDraw.nd rfl (Or.inl rfl) (pe_op op_modN (pe_callTy call_int1 (by rfl) gI boot_int (pa_cons (pe_ix ix_list (pv 0) pe_int (fun _ _ => rfl)) pa_nil)) (pv 1)))
      (pss_cons (ps_asg (pe_op op_fdivN (pe_ix ix_list (pv 0) pe_int (fun _ _ => rfl)) (pv 1)) (pg_sub (pv 0) pe_int set_list))
      (pss_one (ps_ret (pv 2))))) pss_nil)
      (pss_cons (ps_asg (pe_op op_add (pe_ix ix_list (pv 0) pe_int (fun _ _ => rfl)) pe_int) (pg_sub (pv 0) pe_int set_list))
      (pss_cons (ps_set (i := 3) scDraw.nd rfl (Or.inl rfl) (pe_op op_modN (pe_callTy call_int1 (by rfl) gI boot_int (pa_cons (pe_op op_mul (pe_op op_add (pe_op op_add (pe_ix ix_list (pv 0) pe_int (fun _ _ => rfl)) (pe_op op_mul pe_int (pe_ix ix_list (pv 0) pe_int (fun _ _ => rfl)))) pe_int) pe_int) pa_nil)) pe_int))
      (pss_cons (ps_set (i := 3) scDraw.nd rfl (Or.inl rfl) (pe_op op_modN (pe_callTy call_int1 (by rfl) gI boot_int (pa_cons (pe_op op_mul (pv 3) (pe_op op_add (pe_op op_fdivN (pv 3) pe_int) pe_int)) pa_nil)) pe_int))
      (pss_one (ps_ret (pe_op op_modN (pe_callTy call_int1 (by rfl) gI boot_int (pa_cons (pe_op op_modN (pe_callTy call_int1 (by rfl) gI boot_int (pa_cons (pe_op op_mul (pv 3) (pe_op op_add (pe_op op_fdivN (pv 3) pe_int) pe_int)) pa_nil)) pe_int) pa_nil)) (pv 1)))))))), ?_⟩
  · obtain ⟨a, m, rfl, ⟨c, b, n, ha⟩, m0, m1, k⟩ := h
    have iL : ∀ {H' : Hp} {l : List V}, H' a = some (.lst l) → SqL K H' a l := fun h => SqL.of h
    refine ⟨_, rfl, a, _, 0, _, rfl, rfl, iL ha, by rfl, _, _, rfl, rfl, _, rfl, ?_⟩
    refine ite2 (fun _ => ?_) (fun _ => ?_)
    · refine ⟨_, rfl, a, _, 0, _, rfl, rfl, iL ha, by rfl, .inl ⟨_, rfl, ?_⟩⟩
      refine ⟨_, rfl, _, _, rfl, rfl, by omega, ?_⟩
      refine ⟨_, rfl, a, _, 0, _, rfl, rfl, iL ha, by rfl, _, rfl, _, _, rfl, rfl, ⟨by omega, by omega⟩, ?_⟩
      refine ⟨_, rfl, a, _, 0, _, rfl, rfl, ha, by rfl, _, rfl, ?_⟩
      refine k _ _ ?_ ?_ ⟨_, _, _, upd_same⟩ But.upd
      · exact Int.fmod_nonneg_of_pos _ m0
      · exact Int.fmod_lt_of_pos _ m0
    · refine ⟨_, rfl, a, _, 2, _, rfl, rfl, iL ha, by rfl, _, _, rfl, rfl, ?_⟩
      refine ⟨_, rfl, a, _, 2, _, rfl, rfl, ha, by rfl, ?_⟩
      have h2 : upd H a (.lst ([V.int c, V.int b, V.int n].set 2 (V.int (n + 1)))) a = some (.lst [V.int c, V.int b, V.int (n + 1)]) := upd_same
      refine ⟨_, rfl, a, _, 1, _, rfl, rfl, iL h2, by rfl, _, rfl, a, _, 2, _, rfl, rfl, iL h2, by rfl, 40087, _, rfl, rfl, .inl (by decide), ?_⟩
      refine ⟨_, _, rfl, rfl, _, _, rfl, rfl, _, 48271, rfl, rfl, .inr (by decide), .inl ⟨_, rfl, ?_⟩⟩
      refine ⟨_, 2147483647, rfl, rfl, (show (2147483647 : Int) ≠ 0 by decide), ?_⟩
      have l1 := Int.fmod_nonneg_of_pos ((b + 40087 * (n + 1) + 11) * 48271) (show (0 : Int) < 2147483647 by decide)
      have u1 := Int.fmod_lt_of_pos ((b + 40087 * (n + 1) + 11) * 48271) (show (0 : Int) < 2147483647 by decide)
      refine ⟨_, rfl, _, rfl, _, 1021, rfl, rfl, ⟨by decide, by decide⟩, _, 69691, rfl, rfl, _, _, rfl, rfl, .inl (by omega), .inl ⟨_, rfl, ?_⟩⟩
      refine ⟨_, 2147483587, rfl, rfl, (show (2147483587 : Int) ≠ 0 by decide), ?_⟩
      obtain ⟨v2, e2, l2, u2⟩ : ∃ v2 : Int, v2 = ((((b + 40087 * (n + 1) + 11) * 48271).fmod 2147483647) * ((((b + 40087 * (n + 1) + 11) * 48271).fmod 2147483647).fdiv 1021 + 69691)).fmod 2147483587 ∧ 0 ≤ v2 ∧ v2 < 2147483587 :=
        ⟨_, rfl, Int.fmod_nonneg_of_pos _ (by decide), Int.fmod_lt_of_pos _ (by decide)⟩
      have h3 : ∀ {i : Nat}, i = 3 → (List.set (List.set (start nDraw [V.ref a, V.int m]) 3 (some (V.int (((b + 40087 * (n + 1) + 11) * 48271).fmod 2147483647)))) 3 (some (V.int v2)))[i]? = some (some (V.int v2)) := fun e => by subst e; rfl
      subst e2
      refine ⟨_, h3 rfl, _, h3 rfl, _, 2017, rfl, rfl, ⟨by decide, by decide⟩, _, 40699, rfl, rfl, _, _, rfl, rfl, .inl ⟨by omega, by omega⟩, .inl ⟨_, rfl, ?_⟩⟩
      refine ⟨_, 2147483399, rfl, rfl, (show (2147483399 : Int) ≠ 0 by decide), .inl ⟨_, rfl, ?_⟩⟩
      refine ⟨_, rfl, _, _, rfl, rfl, (show m ≠ 0 by omega), ?_⟩
      exact k _ _ (Int.fmod_nonneg_of_pos _ m0) (Int.fmod_lt_of_pos _ m0) ⟨_, _, _, h2⟩ But.upd
end
end K08

set_option maxRecDepth 100000
set_option maxHeartbeats 4000000
namespace K08
open PySem PySem.Spec PyProof.Rows L2 He VH
abbrev sWell : Stmt := top 16
abbrev sOne : Stmt := top 17
theorem rep_ints (n : Nat) : (List.replicate n [V.int 0]).flatten = (List.replicate n (0 : Int)).map V.int := by
  induction n with
  | zero => rfl
  | succ n ih =>
    rw [List.replicate_succ, List.flatten_cons, ih, List.replicate_succ, List.map_cons]
    rfl
theorem cell_is {ns : List Int} {k : Nat} {m : Int} (hm : m = (k : Int) + 1) : ∃ c : Int, atI (ns.map V.int ++ (List.replicate m.toNat [V.int 0]).flatten) (k : Int) = some (V.int c) := by
  have e : m.toNat = k + 1 := by omega
  rw [e, rep_ints, ← List.map_append]
  have lt : k < (ns ++ List.replicate (k + 1) (0 : Int)).length := by
    rw [List.length_append, List.length_replicate]
    omega
  refine ⟨(ns ++ List.replicate (k + 1) (0 : Int))[k], atI_nat ?_⟩
  rw [List.getElem?_map, List.getElem?_eq_getElem lt]
  rfl
section
variable {P : Program} {w : World} {K : PySem.W.Frag} {mg : Str → Option Value} {base : Heap} {f fD : Addr} {fd fdD : FuncData}
theorem scWell : FnScope ["_law_script", "_law_at", "_law_cell"] ["_law_script", "_law_at"] (defScope sWell) := ⟨rfl, rfl, rfl, by decide +kernel, rfl, by decide +kernel, by decide +kernel⟩
theorem ok_well (F : FnP K "_law_well" sWell f fd) (gI : mg "int" = none) : FnOk P w K mg base CX0 1 f fd ["_law_script", "_law_at"] (spWell K) := by
  refine F.ok scWell (fun vs H Q E h => ?_) (fun cdv A outer s H vs Q E hr h => ?_)
  · obtain ⟨a, ns, k, rfl, _⟩ := h
    rfl
  refine ⟨_, PSs.nox (pss_cons (ps_set (i := 2) scWell.nd rfl (Or.inl rfl) (pe_ix ix_list (pe_op op_catR (pv 0) (pe_op op_rep (pe_lst (pa_cons pe_int pa_nil)) (pe_op op_add (pv 1) pe_int))) (pv 1) (fun _ _ => rfl)))
    (pss_one (ps_ret (pe_lst (pa_cons (pe_op op_mul (pv 2) (pe_callTy call_int1 (by rfl) gI boot_int (pa_cons (pe_cmpR op_ge (pv 2) (pe_op op_pow pe_int pe_int) (nomark _)) pa_nil)))
      (pa_cons (pe_op op_add (pe_op op_modN (pe_callTy call_int1 (by rfl) gI boot_int (pa_cons (pv 2) pa_nil)) pe_int) (pe_op op_mul pe_int (pv 1)))
      (pa_cons pe_int pa_nil))))))), ?_⟩
  obtain ⟨a, ns, k, rfl, ha, l1, l2, kk⟩ := h
  refine ⟨_, rfl, by decide, fun p hp => ?_⟩
  refine ⟨_, rfl, _, 1, rfl, rfl, p, _, _, rfl, rfl, upd_same, by omega, by omega, ?_, fun q hq => ?_⟩
  · show 1 * ((k : Int) + 1).toNat ≤ sizeLine
    rw [sizeLine_eq]
    omega
  obtain ⟨c, hc⟩ := cell_is (ns := ns) (k := k) (m := (k : Int) + 1) rfl
  have len2 : (ns.map V.int).length + (List.replicate ((k : Int) + 1).toNat [V.int 0]).flatten.length ≤ sizeLine := by
    rw [rep_ints, List.length_map, List.length_map, List.length_replicate, sizeLine_eq]
    omega
  refine ⟨a, q, _, _, rfl, rfl, ((Same.new hp).trans (Same.new hq)).seq ha, SqL.of upd_same, len2, fun r hr => ?_⟩
  refine ⟨_, rfl, r, _, k, _, rfl, rfl, SqL.of upd_same, hc, ?_⟩
  refine ⟨_, rfl, _, rfl, _, _, rfl, rfl, ⟨by decide, by decide, by decide⟩, _, _, rfl, rfl, .inr ⟨_, rfl, ?_⟩⟩
  refine ⟨_, _, rfl, rfl, .inr ?_, ?_⟩
  · split <;> decide
  refine ⟨_, rfl, .inl ⟨_, rfl, _, _, rfl, rfl, (show (2147483647 : Int) ≠ 0 by decide), ?_⟩⟩
  refine ⟨_, rfl, 7919, _, rfl, rfl, .inl (by decide), _, _, rfl, rfl, ?_⟩
  refine ⟨by show 3 ≤ sizeLine; decide, fun z hz => ?_⟩
  refine kk _ _ ?_ ⟨_, _, _, upd_same⟩ ((((Same.new hp).trans (Same.new hq)).trans (Same.new hr)).trans (Same.new hz))
  exact (((Same.new hp).trans (Same.new hq)).trans (Same.new hr)).free hz
theorem scOne : FnScope ["_law_well_here", "_law_some"] ["_law_well_here", "_law_some"] (defScope sOne) := ⟨rfl, rfl, rfl, by decide +kernel, rfl, by decide +kernel, by decide +kernel⟩
theorem ok_one (F : FnP K "_law_one" sOne f fd) (FD : FnP K "_law_draw" sDraw fD fdD) (gD : mg "_law_draw" = some (.ref fD)) (gI : mg "int" = none) (gL : mg "len" = none) :
    FnOk P w K mg base CX0 2 f fd ["_law_well_here", "_law_some"] (spOne K) := by
  have GD : FnOk P w K mg base CX0 1 fD fdD ["_law_well_here", "_law_much"] spDraw := ok_draw FD gI
  have bD : Binds K fdD ["_law_well_here", "_law_much"] [] := FD.bindsN fun _ _ _ _ _ _ us hl => match us, hl with | [_, _], _ => rfl
  refine F.ok scOne (fun vs H Q E h => ?_) (fun cdv A outer s H vs Q E hr h => ?_)
  · obtain ⟨a, l, xs, rfl, _⟩ := h
    rfl
  refine ⟨_, PSs.nox (pss_one (ps_ret (pe_ix ix_list (pv 1) (pe_call GD hr (by rfl) gD FD.kp bD .nil pass0 (pa_cons (pv 0) (pa_cons (pe_callB call_len_seq (by rfl) gL boot_len (pa_cons (pv 1) pa_nil)) pa_nil))) (fun _ _ => rfl)))), ?_⟩
  obtain ⟨a, l, xs, rfl, wl, ne, hl, x0, x1, k⟩ := h
  refine ⟨_, rfl, _, rfl, _, rfl, l, xs, rfl, .inl (SqL.of hl), ?_⟩
  refine ⟨a, (xs.length : Int), rfl, wl, by omega, by omega, fun H' d d0 d1 w2 bt => ?_⟩
  obtain ⟨x, hx, ex⟩ := atI_some (xs := xs) d0 d1
  exact ⟨l, xs, d, x, rfl, rfl, SqL.of (bt _ _ ne hl), ex, k H' x hx w2 bt⟩
end
end K08

set_option maxRecDepth 100000
set_option maxHeartbeats 4000000
/-! try with several except clauses, each with a name or without. -/
namespace L2
open PySem PySem.Spec PyProof.Rows
/-- a clause: its class, the slot of its name, its suite's reading -/
abbrev Clause : Type := Value × Option Nat × (Addr → Value → Option Addr → TS)
def Ends.drop (D : Ends) (i : Nat) : Ends := { nx := fun σ H => D.nx (σ.set i none) H, rt := D.rt, bk := fun σ H => D.bk (σ.set i none) H, ct := fun σ H => D.ct (σ.set i none) H }
def Clause.go (q : Clause) (a : Addr) (cls : Value) (d : Option Addr) (D : Ends) (σ : St) (H : Hp) : Prop := match q.2.1 with
  | none => q.2.2 a cls d D σ H
  | some i => q.2.2 a cls d (D.drop i) (σ.set i (some (.ref a))) H
/-- what the clauses wish, one behind another -/
def wMix (K : PySem.W.Frag) (Wout : WX) (D : Ends) : List Clause → WX
  | [] => Wout
  | q :: r => fun cls d σ H => ∃ b, PySem.W.exmOne K cls q.1 = some b ∧ (b = true → ∀ a, H a = none → q.go a cls d D σ H) ∧ (b = false → wMix K Wout D r cls d σ H)
inductive MixOk (X : Cx) : List ExceptHandler → List Clause → Prop
  | nil : MixOk X [] []
  | bare {x : Str} {c : Value} {ts : Addr → Value → Option Addr → TS} {st : Stmt} {more : List Stmt} {p1 p2 : Pos} {hs : List ExceptHandler} {l : List Clause} (hc : Names X x c)
      (su : ∀ (a : Addr) (oe : Obj) (cls : Value) (d : Option Addr) (pn : List (Addr × Obj)), Zc cls d oe → (∃ vs, oe.data = .fields vs) → PSs (X.suite a ((a, oe) :: pn)) (st :: more) (ts a cls d)) (r : MixOk X hs l) :
      MixOk X (.ExceptHandler (some (.Name x p1)) none (st :: more) p2 :: hs) ((c, none, ts) :: l)
  | named {x n : Str} {i : Nat} {c : Value} {ts : Addr → Value → Option Addr → TS} {st : Stmt} {more : List Stmt} {p1 p2 : Pos} {hs : List ExceptHandler} {l : List Clause} (hN : X.N.Nodup) (hi : X.N[i]? = some n) (hl : X.env.kindOf n = some .local) (hc : Names X x c)
      (su : ∀ (a : Addr) (oe : Obj) (cls : Value) (d : Option Addr) (pn : List (Addr × Obj)), Zc cls d oe → (∃ vs, oe.data = .fields vs) → PSs (X.suite a ((a, oe) :: pn)) (st :: more) (ts a cls d)) (r : MixOk X hs l) :
      MixOk X (.ExceptHandler (some (.Name x p1)) (some n) (st :: more) p2 :: hs) ((c, some i, ts) :: l)
section
variable {X : Cx} {body : List Stmt} {k0 : ExceptHandler} {ks : List ExceptHandler} {l : List Clause} {pos : Pos} {tb : WX → TS} {Wout : WX}
theorem ps_try_mix (hst : X.stack = X.env :: X.outer) (hfr : X.env.frame = some X.env.locals) (tk : Takes X Wout)
    (hb : ∀ (W : WX) (pn : List (Addr × Obj)) (xe : Value → Shared → Prop), Takes (X.tr pn xe) W → PassesOwn (model X.prog X.w) X.A X.env xe → PSs (X.tr pn xe) body (tb W))
    (hk : MixOk X (k0 :: ks) l) : PS X (.Try body (k0 :: ks) [] [] pos) (fun D σ H => tb (wMix X.K Wout D l) D σ H) := by
  refine ⟨fun pins s σ H D I h => ?_⟩
  have good := I.ok
  have fr : X.A.frames = some (X.env :: X.outer) := by
    rw [good.frames, hst]
  refine wpAny_Try_except ?_
  refine wpAny_mono ((hb (wMix X.K Wout D l) (X.pn ++ pins) (fun e z1 => wpAny (model X.prog X.w) X.A (noteFrame e X.env) (fun _ z2 => wpAny (model X.prog X.w) X.A (setFlight e none)
    (fun _ z3 => wpAny (model X.prog X.w) X.A (handleBy e X.env (k0 :: ks)) (SP X pins D) X.xe z3) X.xe z2) X.xe z1) (fun u s' air => ?_) PassesOwn.looking).run [] s σ H D (I.toTry _) h)
    (fun f z hz => ?_) (fun e z hz => hz)
  · obtain ⟨a, B, sB, qs, ρ, G, cls, d, rfl, J0, inB, ups, sky, nG, eos, bare, wish⟩ := air
    have J : Inv X pins ρ G sB := J0.ofTry good
    have sk : Sky B (X.env :: X.outer) a (Zc cls d) X.env.locals s'.heap := by
      rw [← hst]
      exact sky
    show wpAny (model X.prog X.w) X.A (noteFrame (Value.ref a) X.env) _ _ _
    refine Sky.land Zc.steady fr hfr sk fun g3 fly up3 => ?_
    have J3 : Inv X pins ρ G { s' with heap := g3 } := J.landed inB fly.1 (ups.trans up3) eos bare
    obtain ⟨o3, v3, at3, z3, d3⟩ := fly.there
    have away : a ∉ frs (X.env :: X.outer) := fun hm => by
      obtain ⟨_, o', e', no⟩ := fly.2.2.1.mem hm
      rw [at3] at e'
      cases e'
      exact no _ d3
    have nL : a ≠ X.env.locals := fun z => away (List.mem_filterMap.mpr ⟨X.env, List.mem_cons_self, by
      rw [hfr, z]⟩)
    have nF : a ∉ X.fs := fun hm => by
      obtain ⟨e, he, q⟩ := List.mem_filterMap.mp hm
      exact away (List.mem_filterMap.mpr ⟨e, List.mem_cons_of_mem _ he, q⟩)
    have S3 := J3.suite at3 d3 nG nL nF
    have isC : PySem.W.Looks (model X.prog X.w) g3 (typeOf (.ref a)) cls := fun A Q E s k q => wpAny_typeOf_ref (k _ _ at3) (by
      rw [z3.1]
      exact q)
    have name : ∀ {x : Str} {c : Value} {p1 : Pos} {Q : Value → Shared → Prop} {E : Value → Shared → Prop}, Names X x c → Q c { s' with heap := g3 } → wpAny (model X.prog X.w) (X.A.mark (some (.ref a))) (eval (.Name x p1) X.env) Q E { s' with heap := g3 } := fun {x c p1 Q E} hc q => by
      obtain ⟨w1, w2, w3 | ⟨w3, w4, w5⟩⟩ := hc
      · exact ld_glob (X := X.suite a ((a, o3) :: (X.pn ++ pins))) S3 w1 w3 q w2
      · exact ld_blt (X := X.suite a ((a, o3) :: (X.pn ++ pins))) S3 w1 w3 w4 q w5 w2
    have go : ∀ {hs' : List ExceptHandler} {l' : List Clause}, MixOk X hs' l' → wMix X.K Wout D l' cls d ρ G → wpAny (model X.prog X.w) X.A (handleBy (.ref a) X.env hs') (SP X pins D) X.xe { s' with heap := g3 } := by
      intro hs' l' m
      induction m with
      | nil =>
        intro w
        refine wpAny_handleBy_nil ?_
        obtain ⟨_, _, _, oe, vs, tb', _, _, he, _, hd, h1, _⟩ := id fly
        unfold PySem.passOn
        refine wpAny_bind (wpAny_field he hd h1 ?_)
        rw [if_neg (show ¬ ((Value.ref tb' == Value.none) = true) by simp)]
        have out : wpAny (model X.prog X.w) X.A (setFlight (.ref a) X.env.frame) (fun _ z4 => wpAny (model X.prog X.w) X.A (throw (.ref a) : Sem Flow) (SP X pins D) X.xe z4) X.xe { s' with heap := g3 } := by
          rw [hfr]
          refine HandSPX.setFlight_upZ fly fun h4 held up4 => wpAny_throw (tk _ _ ?_)
          exact ⟨a, B, sB, pins, ρ, G, cls, d, rfl, J, inB, (ups.trans up3).trans up4, .inr (.inr (by
            rw [hst]
            exact held)), nG, eos, bare, w⟩
        first
          | exact wpAny_bind (wpAny_pure (wpAny_bind out))
          | exact wpAny_bind out
      | @bare x c ts st more p1 p2 hs2 l2 hc su r ih =>
        intro w
        obtain ⟨b, e1, yes, no⟩ := w
        refine wpAny_handleBy_cons (codeAny_handlers_test ?_) (by
          intro q
          cases q)
        refine name hc ((PySem.W.exm_one (M := model X.prog X.w) J3.kIn isC e1).here ?_)
        cases b with
        | true =>
          refine codeAny_handlers_suite ?_
          refine HandSPX.lands_againZ fly fun g4 fly4 up4 => ?_
          have J4 : Inv X pins ρ G { s' with heap := g4 } := J.landed inB fly4.1 ((ups.trans up3).trans up4) eos bare
          obtain ⟨o4, v4, at4, z4, d4⟩ := fly4.there
          refine wpAny_mono ((su a o4 cls d (X.pn ++ pins) z4 ⟨_, d4⟩).run [] _ _ G _ (J4.suite at4 d4 nG nL nF) (yes rfl a nG)) (fun f z6 hsp => ?_) (fun _ _ z => False.elim z)
          cases f with
          | ret u =>
            obtain ⟨v6, ρ6, G6, S6, r6, q6⟩ := hsp
            exact ⟨_, _, _, S6.unsuite good, r6, q6⟩
          | _ =>
            obtain ⟨ρ6, G6, S6, q6⟩ := hsp
            exact ⟨_, _, S6.unsuite good, q6⟩
        | false =>
          show wpAny _ X.A (handleBy (.ref a) X.env hs2) _ _ _
          exact ih (no rfl)
      | @named x n i c ts st more p1 p2 hs2 l2 hN hi hl hc su r ih =>
        intro w
        obtain ⟨b, e1, yes, no⟩ := w
        have loc : Loc X.env.scope n := .inl hl
        refine wpAny_handleBy_cons (codeAny_handlers_test ?_) (by
          intro q
          cases q)
        refine name hc ((PySem.W.exm_one (M := model X.prog X.w) J3.kIn isC e1).here ?_)
        cases b with
        | true =>
          refine codeAny_handlers_suite_as ?_
          refine HandSPX.lands_againZ fly fun g4 fly4 up4 => ?_
          have J4 : Inv X pins ρ G { s' with heap := g4 } := J.landed inB fly4.1 ((ups.trans up3).trans up4) eos bare
          obtain ⟨o4, v4, at4, z4, d4⟩ := fly4.there
          refine store_ok (X := X.suite a ((a, o4) :: (X.pn ++ pins))) (v := V.ref a) (J4.suite at4 d4 nG nL nF) hN hi loc rfl (fun z5 S5 => ?_) (.inr hl)
          refine wpAny_mono ((su a o4 cls d (X.pn ++ pins) z4 ⟨_, d4⟩).run [] z5 _ G _ S5 (yes rfl a nG)) (fun f z6 hsp => ?_) (fun _ _ z => False.elim z)
          have goes : ∀ {ρ6 : St} {G6 : Hp} {Q : Shared → Prop}, Inv (X.suite a ((a, o4) :: (X.pn ++ pins))) [] ρ6 G6 z6 → (∀ z7, Inv X pins (ρ6.set i none) G6 z7 → Q z7) →
              wpAny (model X.prog X.w) X.A (do bindName X.env n .none; unbindBehindTheSuite X.env n p2) (fun _ z7 => Q z7) X.xe z6 := fun S6 hq => gone_ok (S6.unsuite good) hN hi hl hq
          cases f with
          | ret u =>
            obtain ⟨v6, ρ6, G6, S6, r6, q6⟩ := hsp
            exact goes S6 fun z7 J7 => ⟨_, _, _, J7, r6, q6⟩
          | _ =>
            obtain ⟨ρ6, G6, S6, q6⟩ := hsp
            exact goes S6 fun z7 J7 => ⟨_, _, J7, q6⟩
        | false =>
          show wpAny _ X.A (handleBy (.ref a) X.env hs2) _ _ _
          exact ih (no rfl)
    exact go hk wish
  · cases f with
    | next =>
      obtain ⟨ρ, G, J0, q⟩ := hz
      exact wpAny_execs_nil ⟨ρ, G, J0.ofTry good, q⟩
    | ret u =>
      obtain ⟨v, ρ, G, J0, r, q⟩ := hz
      exact ⟨v, ρ, G, J0.ofTry good, r, q⟩
    | _ =>
      obtain ⟨ρ, G, J0, q⟩ := hz
      exact ⟨ρ, G, J0.ofTry good, q⟩
end
/-- isinstance(e, c) in a suite, e the exception that it holds, with a dict of its own -/
def rIsD (K : PySem.W.Frag) (a : Addr) (cls : Value) (d : Option Addr) : List V → Hp → VK → Prop := fun xs H Q => ∃ (D dd : Addr) (fs : List (Str × V)) (c : V) (cv : Value) (b : Bool), xs = [.ref a, c] ∧ cls = .ref D ∧ d = some dd ∧ H dd = some (.xd fs) ∧ ExcC K D ∧ (∀ u, RelV c u → u = cv) ∧
  PySem.W.kitOne K (.ref D) cv = some b ∧ Q (.bl b) H
theorem call_isD {X : Cx} {a : Addr} {oe : Obj} {cls : Value} {d : Option Addr} {pn : List (Addr × Obj)} (hz : Zc cls d oe) (hf : ∃ vs, oe.data = .fields vs) : CallR (X.suite a ((a, oe) :: pn)) (.builtin "isinstance") (rIsD X.K a cls d) := by
  intro pins s σ H xs us Q I r h
  obtain ⟨D, dd, fs, c, cv, b, rfl, rfl, rfl, hd, C, hcv, e, q⟩ := h
  obtain ⟨u, v, rfl, ru, rv⟩ := vals2 r
  obtain rfl : u = Value.ref a := ru
  obtain rfl := hcv _ rv
  obtain ⟨at_, _⟩ := I.pin (a, oe) (List.mem_append_left _ List.mem_cons_self)
  obtain ⟨vs, hv⟩ := hf
  obtain ⟨mA, ns, _⟩ := (show ObjOk X.prog X.w H s.heap dd (.xd fs) from I.hok dd _ hd)
  obtain ⟨od, eo, _⟩ := lookIn_ns ns
  have J : PySem.W.InstAt s.heap a oe D (some od) := by
    refine ⟨at_, hz.1, ?_, ?_⟩
    · unfold PySem.W.notCls
      rw [hv]
    · rw [hz.2]
      exact eo
  exact PySem.W.kia_one (PySem.W.vx_kit C) I.kIn ⟨oe, some od, J⟩ e (fun z => nomatch z) fun tk => ⟨.bl b, H, I.kept (t' := tk) fun _ _ z => z, rfl, q⟩
end L2

set_option maxRecDepth 100000
set_option maxHeartbeats 4000000
/-! A def that hands back a word and what its argument returns, or what its except clauses say: called with a lambda. -/
namespace LamX
open PySem PySem.Spec PyProof.Rows L2
theorem takes_len {X : Cx} {W : WX} (tk : Takes X W) : Takes X (fun cls d σ H => σ.length = X.N.length → W cls d σ H) := fun u s' h => by
  obtain ⟨a, B, sI, pins, σ, H, cls, d, e, I, k1, k2, k3, k4, k5, k6, k7⟩ := h
  exact tk u s' ⟨a, B, sI, pins, σ, H, cls, d, e, I, k1, k2, k3, k4, k5, k6, k7 I.len⟩
theorem takes_no {X : Cx} : Takes X (fun _ _ _ _ => False) := fun u s' h => by
  obtain ⟨_, _, _, _, _, _, _, _, _, _, _, _, _, _, _, _, z⟩ := h
  exact z.elim
/-- what is asked of the lambda -/
def TTmix (K : PySem.W.Frag) (n : Nat) (l : List Clause) (told : Str) : (XK → Hp → VK → Prop) → Hp → VK → Prop := fun tl H Q =>
  tl (fun cls d H' => ∀ σ' : L2.St, σ'.length = n → wMix K (fun _ _ _ _ => False) { nx := fun _ H' => Q V.non H', rt := Q } l cls d σ' H') H
    (fun v H1 => ([.str told, v] : List V).length ≤ sizeLine ∧ ∀ p, H1 p = none → Q (.ref p) (upd H1 p (.tup [.str told, v])))
theorem said_gives {X : Cx} {Ng : List Str} {x a q told : Str} {sg : Scope} {g : Addr} {cdg : Value} {j : Nat} {k0 : ExceptHandler} {ks : List ExceptHandler} {l : List Clause} {p1 p2 p3 p4 p5 p6 : Pos} {x1 : Nat}
    (hs : ∀ f : Addr, (L2.start Ng [V.ref f])[0]? = some (some (V.ref f)))
    (hk : ∀ (s : Shared) (H : Hp), MixOk (cxOf C8.CX0 X.prog X.w X.K X.mg X.base Ng x sg g cdg X.A X.stack s H C8.E0).nox (k0 :: ks) l) :
    GivesTo X Ng x sg g cdg [.Try [.Return (some (.Tuple [.Constant (.str told) j p1, .Call (.Name a p2) [] [] p3] x1 p4)) p5] (k0 :: ks) [] [] p6] a q (TTmix X.K Ng.length l told) := by
  intro f c' s H Q tl act hc tt
  refine ⟨_, pss_one (ps_try_mix (Wout := fun _ _ _ _ => False) (l := l) rfl rfl takes_no
    (fun W pn xe tk _ => pss_one (ps_ret (pe_tup (pa_cons pe_str (pa_cons (act (fun cls d σ H => σ.length = Ng.length → W cls d σ H) pn xe (fun cls d H' => ∀ σ' : L2.St, σ'.length = Ng.length → W cls d σ' H') p2 p3 (takes_len tk) (fun cls d σ' H' h e => h σ' e)) pa_nil)))))
    (hk s H)), ?_⟩
  exact ⟨hs f, hc, tt⟩
end LamX

set_option maxRecDepth 100000
set_option maxHeartbeats 4000000
/-! A lambda with one parameter: its frame, and its call by what a parameter of another def holds. -/
namespace LamX
open PySem PySem.Spec PyProof.Rows L2
/-- captured names, globals and the one parameter q -/
structure Lam1 (q : Str) (sc scope : Scope) : Prop where
  kd : scope.kind = .function
  nc : scope.isCoroutine = false
  ng : scope.isGenerator = false
  cellfree : ∀ y ∈ scope.names, y.2 ≠ .cell
  only : ∀ y, scope.names.lookup y = some .local → y = q
  par : scope.names.lookup q = some .local
  up : ∀ y ∈ scope.names, y.2 = .free → sc.names.lookup y.1 = some .cell ∨ sc.names.lookup y.1 = some .free
def lam1B (q : Str) (sc scope : Scope) : Bool :=
  decide (scope.kind = .function) && (!scope.isCoroutine && (!scope.isGenerator && (decide (scope.names.lookup q = some .local) &&
    (scope.names.all fun y => !decide (y.2 = .cell) && ((!decide (y.2 = .local) || decide (y.1 = q)) && (!decide (y.2 = .free) || (decide (sc.names.lookup y.1 = some .cell) || decide (sc.names.lookup y.1 = some .free))))))))
theorem lam1_by {q : Str} {sc scope : Scope} (h : lam1B q sc scope = true) : Lam1 q sc scope := by
  simp only [lam1B, Bool.and_eq_true, Bool.or_eq_true, Bool.not_eq_true', decide_eq_true_eq, decide_eq_false_iff_not, List.all_eq_true] at h
  obtain ⟨a1, a2, a3, a4, a5⟩ := h
  refine ⟨a1, a2, a3, fun y hy => (a5 y hy).1, fun y e => ?_, a4, fun y hy e => ?_⟩
  · rcases (a5 _ (PySem.mem_of_lookup e)).2.1 with z | z
    · exact absurd rfl z
    · exact z
  · rcases (a5 y hy).2.2 with z | z
    · exact absurd e z
    · exact z
theorem Lam1.cells {q : Str} {X : Cx} {scope : Scope} (L : Lam1 q X.env.scope scope) (ok : X.Ok) (y : Str × NameKind) (hy : y ∈ scope.names) (e : y.2 = .free) : ∃ c, X.env.cells.lookup y.1 = some c :=
  (L.up y hy e).elim (fun k => ok.has _ (.inl k)) (fun k => ok.has _ (.inr k))
section
variable {X : Cx} {pins : List (Addr × Obj)} {σ : L2.St} {H HZ : Hp} {s s1 : Shared}
/-- the frame of the lambda, just entered -/
theorem lam1_start {A : Around} {outer : List Env} {E : XK} {scope : Scope} {f c' : Addr} {h₁ : Heap} {tk : Nat} {q : Str} {i : Nat} {x : V} {u : Value}
    (I : Inv X pins σ H s) (L : Lam1 q X.env.scope scope) (nd : X.N.Nodup) (hi : X.N[i]? = some q) (rx : L2.RelV x u) (e0 : Env0 X.prog X.w X.K X.mg X.base A outer s1 HZ)
    (hd : A.handled = none) (un : Un (frs X.stack) [] H HZ s.heap s1.heap) (hns : h₁.Ns s1.heap.objs.size fun y => ([(q, u)] : List (Str × Value)).reverse.lookup y)
    (kp : ∀ b o, s1.heap.get? b = some o → h₁.get? b = some o) : Inv (lamCx X A outer s1 HZ E scope f c') [] (σ.set i (some x)) HZ { s1 with heap := h₁, toks := tk } := by
  have own : ∀ {y : Str}, scope.names.lookup y = some .free → ∃ c, (cloFrom X.env.cells scope.names []).lookup y = some c := fun {y} hl =>
    mem_lookup (cloFrom_has (cells := X.env.cells) (acc := []) (show (y, NameKind.free) ∈ scope.names from PySem.mem_of_lookup hl))
  have src : ∀ {y : Str} {c : Addr}, (cloFrom X.env.cells scope.names []).lookup y = some c → X.env.cells.lookup y = some c := fun {y c} e => by
    rcases cloFrom_mem (PySem.mem_of_lookup e) with z | ⟨m, z⟩
    · cases z
    · obtain ⟨c1, z1⟩ := L.cells I.ok _ m rfl
      have z2 : X.env.cells.lookup y = some c1 := z1
      rw [z2] at z
      rw [z2, z]
      rfl
  have still : ∀ {c : Addr} {v : Option Value}, H c = none → s.heap.IsCell c v → h₁.IsCell c v := fun {c v} n z => by
    obtain ⟨o, ho, hv⟩ := z
    obtain ⟨sl, z2⟩ := un.any ho n (by simp)
    exact ⟨_, kp _ _ z2, hv⟩
  have nx : ∀ b : Addr, b ∉ (lamCx X A outer s1 HZ E scope f c').ex := fun b z => absurd (show b ∈ ([] : List Addr) from z) (by simp)
  have okL : (lamCx X A outer s1 HZ E scope f c').Ok := by
    refine ⟨e0.mod, L.kd, rfl, rfl, Nat.le_refl _, fun y z c a b => I.ok.inj y z c (src a) (src b), fun y hy => ?_, fun y c z _ => Bool.noConfusion (show false = true from z), fun _ => hd, Around.frames_deeper e0.frames,
      .inr ⟨rfl, rfl⟩, fun b z => absurd z (nx b), e0.bs, e0.bsz, fun b _ _ => nx b, fun b z => absurd z (nx b), e0.funs, e0.frf⟩
    rcases (show scope.names.lookup y = some .cell ∨ scope.names.lookup y = some .free from hy) with z | z
    · exact absurd rfl (L.cellfree _ (PySem.mem_of_lookup z))
    · exact own z
  refine ⟨okL, rfl, e0.bare, Un.kept kp, ⟨_, hns, fun j y v e1 e2 e3 => ?_⟩, fun y c e => ?_, e0.hok.fresh (Nat.le_refl _), fun y c e => ?_, fun p hp => absurd (show p ∈ ([] : List (Addr × Obj)) ++ [] from hp) (by simp),
    e0.hok.kept kp, by rw [List.length_set]; exact I.len⟩
  · rcases (show Vis scope y from e3) with k | k | k
    · have ey : y = q := L.only y k
      subst ey
      have ij : i = j := nodup_ix nd hi e1
      subst ij
      have lt : i < σ.length := by
        rw [I.len]
        exact (List.getElem?_eq_some_iff.mp hi).1
      rw [List.getElem?_set_self lt] at e2
      cases e2
      exact ⟨u, rx, .inl ⟨k, by simp⟩⟩
    · exact absurd rfl (L.cellfree _ (PySem.mem_of_lookup k))
    · have ne : i ≠ j := fun z => by
        subst z
        have e1' : X.N[i]? = some y := e1
        rw [hi] at e1'
        cases e1'
        rw [L.par] at k
        cases k
      rw [List.getElem?_set_ne ne] at e2
      obtain ⟨m, _, look⟩ := I.loc
      have kf := L.up _ (PySem.mem_of_lookup k) rfl
      obtain ⟨w', r, z⟩ := look j y v e1 e2 (kf.elim (fun a => .inr (.inl a)) (fun a => .inr (.inr a)))
      obtain ⟨c2, h2⟩ := own k
      refine ⟨w', r, .inr ⟨.inr k, c2, h2, ?_⟩⟩
      rcases z with ⟨a, _⟩ | ⟨_, c3, b, z⟩
      · have a' : X.env.scope.names.lookup y = some .local := a
        rcases kf with k2 | k2 <;> rw [show X.env.scope.names.lookup y = _ from k2] at a' <;> cases a'
      · have b2 := src h2
        rw [b] at b2
        cases b2
        exact still (I.freeC y _ b) z
  · obtain ⟨w', z⟩ := I.cell y c (src e)
    exact ⟨w', still (I.freeC y c (src e)) z⟩
  · obtain ⟨v, o, ho, _⟩ := I.cell y c (src e)
    exact un.free c o ho (I.freeC y c (src e)) (by simp)
/-- the object of a lambda with defaults dV -/
abbrev lamD (X : Cx) (params : Arguments) (body : Expr) (scope : Scope) (dV doc pm : Value) (c' : Addr) (ctv : Value) : Obj :=
  PySem.W.kdv_obj "<lambda>" (X.env.qual ++ "<lambda>") params (.expr body) scope (cloFrom X.env.cells scope.names []) dV doc pm c' ctv
abbrev lamDF (X : Cx) (params : Arguments) (body : Expr) (scope : Scope) (dV doc pm : Value) (c' : Addr) (ctv : Value) : FuncData :=
  PySem.W.kdv_fn "<lambda>" (X.env.qual ++ "<lambda>") params (.expr body) scope (cloFrom X.env.cells scope.names []) dV doc pm (.ref c') ctv
/-- it is called, in a frame entered from its home at s -/
theorem lam1_code {A : Around} {outer : List Env} {Q : VK} {E : XK} {scope : Scope} {f c' : Addr} {q : Str} {i k : Nat} {x : V} {u dV doc pm ctv : Value} {params : Arguments} {body : Expr} {tb : TE} {args : Args}
    (I : Inv X pins σ H s) (L : Lam1 q X.env.scope scope) (nd : X.N.Nodup) (hi : X.N[i]? = some q) (rx : L2.RelV x u) (e0 : Env0 X.prog X.w X.K X.mg X.base A outer s1 HZ) (hr : Room (k + 1) A)
    (un : Un (frs X.stack) [] H HZ s.heap s1.heap) (of : s1.heap.get? f = some (lamD X params body scope dV doc pm c' ctv)) (hc : HZ c' = some (CodeO c' (X.env.qual ++ "<lambda>"))) (lim : s1.heap.NoLimit)
    (hb : BindsTo s1 (lamDF X params body scope dV doc pm c' ctv) args [(q, u)])
    (hbody : Room k (A.deeper (lamEnv X scope s1.heap.objs.size f c')) → PE (lamCx X A outer s1 HZ E scope f c') body tb) (ht : tb (σ.set i (some x)) HZ Q) :
    codeAny (model X.prog X.w) A (.call (.ref f) args) (CR (L2.CX X.prog X.w) outer X.prog X.w HZ s1 Q E) s1 := by
  obtain ⟨⟨oc, vs, t, hoc, hdc, hvc⟩, _, _⟩ := e0.hok c' _ hc
  refine PySem.W.kla_callFunE hr.depth of rfl L.nc L.ng rfl ⟨c', oc, vs, t, rfl, hoc, hdc, hvc⟩ (hb _ _ _ _ ?_)
  refine wpAny_newFunctionEnv L.cellfree (fun y hy => ?_) (fun h₁ hns hsb => ⟨lim.fresh _ hsb, ?_⟩) L.kd
  · cases List.mem_singleton.mp hy
    exact L.par
  show codeAny _ _ (.expr body (lamEnv X scope s1.heap.objs.size f c')) _ _
  have kp : ∀ b o, s1.heap.get? b = some o → h₁.get? b = some o := fun b o e => hsb.extBut b o (Nat.ne_of_lt (Heap.lt_size e)) (Heap.get?_push_of_some _ e)
  have J := lam1_start (A := A) (outer := outer) (E := E) (f := f) (c' := c') (tk := s1.toks + ([(q, u)] : List (Str × Value)).length) I L nd hi rx e0 hr.hd un hns kp
  refine PySem.W.kla_codeExpr (wpAny_mono ((hbody (hr.deeper _)).run [] _ _ HZ Q J ht) (fun v s' z => ?_) fun e s' z => z)
  obtain ⟨w', H', J', rv, z⟩ := z
  exact ⟨w', H', J'.os, J'.bare, J'.base, J'.hok, rv, z⟩
end
end LamX

set_option maxRecDepth 100000
set_option maxHeartbeats 4000000
namespace K08
open PySem PySem.Spec PyProof.Rows L2 He VH
/-! what is told of a refusal; what stands whatever becomes of the well -/
abbrev sSaid : Stmt := top 18
abbrev nSaid : List Str := ["_law_ask", "e"]
abbrev FnSaid (K : PySem.W.Frag) (fd : FuncData) : Prop := FnP K "_law_said" sSaid (ga K "_law_said") fd
theorem bSaid {K : PySem.W.Frag} {fd : FuncData} (F : FnSaid K fd) : Binds K fd ["_law_ask"] [] := FunD.bindsN F fun _ _ _ _ _ _ us hl => match us, hl with | [_], _ => rfl
theorem scSaid : FnScope nSaid ["_law_ask"] (defScope sSaid) := ⟨rfl, rfl, rfl, by decide +kernel, rfl, by decide +kernel, by decide +kernel⟩
/-- the clauses of _law_said -/
def clauses (K : PySem.W.Frag) : List Clause :=
  [(.ref (ga K "NoPhase"), some 1, fun a cls d => tRet (tTup (tCons (tC (.str "no")) (tCons (tXf a cls d (ga K "NoPhase") "part" (tVar 1)) tNil)))),
   (.ref (ga K "FillError"), none, fun _ _ _ => tRet (tTup (tCons (tC (.str "other")) (tCons (tC .non) tNil))))]
theorem gives {X : Cx} {g : Addr} {cdg : Value} {q : Str} (T : Txt X.K X.mg X.w) :
    LamX.GivesTo X nSaid "_law_said" (defScope sSaid) g cdg (defBody sSaid) "_law_ask" q (LamX.TTmix X.K 2 (clauses X.K) "told") := by
  refine LamX.said_gives (l := clauses X.K) (fun f => rfl) (fun s H => .named (i := 1) scSaid.nd rfl rfl ⟨rfl, by decide, .inl T.m_NoPhase⟩ (fun a oe cls d pn hz hf => pss_one (ps_ret (pe_tup (pa_cons pe_str (pa_cons (pe_xf T.x_NoPhase.xf (T.x_NoPhase.no "part" (by simp)) hz hf (pv 1)) pa_nil)))))
    (.bare ⟨rfl, by decide, .inl T.m_FillError⟩ (fun a oe cls d pn hz hf => pss_one (ps_ret (pe_tup (pa_cons pe_str (pa_cons pe_non pa_nil))))) .nil))
/-- the wish of _law_said -/
def Wsh (K : PySem.W.Frag) (Q : VK) : XK := fun cls d H' => ∀ σ' : L2.St, σ'.length = 2 → wMix K (fun _ _ _ _ => False) { nx := fun _ H' => Q V.non H', rt := Q } (clauses K) cls d σ' H'
theorem told_no {K : PySem.W.Frag} {mg : Str → Option Value} {w : World} (T : Txt K mg w) {u : Str} {Q : VK} {H : Hp} (k : ∀ (H' : Hp) (p : Addr), H p = none → Same H H' → H' p = some (.tup [.str "no", .str u]) → Q (.ref p) H') : Rz K (Wsh K Q) H "NoPhase" u := by
  intro d H' nd s e σ' l2
  match σ', l2 with
  | [v0, v1], _ =>
    refine ⟨true, T.xm "NoPhase" (by simp) "NoPhase" (by simp), fun _ a ha => ?_, fun q => Bool.noConfusion q⟩
    exact ⟨_, rfl, rfl, rfl, d, _, .str u, rfl, e, rfl, (show 2 ≤ sizeLine by decide), fun p hp => k _ p (s.free hp) (s.trans (Same.new hp)) upd_same⟩
/-- nothing of a well and of tables -/
def Bx (a : Addr) (H H' : Hp) : Prop := ∀ b o, b ≠ a → H b = some o → (∀ ps, o ≠ .tbl ps) → H' b = some o
theorem Bx.refl {a : Addr} {H : Hp} : Bx a H H := fun _ _ _ h _ => h
theorem Bx.trans {a : Addr} {H H1 H2 : Hp} (x : Bx a H H1) (y : Bx a H1 H2) : Bx a H H2 := fun b o n h t => y b o n (x b o n h t) t
theorem Bx.but {a : Addr} {H H' : Hp} (h : But a H H') : Bx a H H' := fun b o n e _ => h b o n e
theorem Bx.same {a : Addr} {H H' : Hp} (h : Same H H') : Bx a H H' := fun b o _ e _ => h b o e
theorem Bx.ext {a : Addr} {H H' : Hp} (h : LamX.ExtN H H') : Bx a H H' := fun b o _ e t => h b o e t
theorem Bx.at {a b : Addr} {H H' : Hp} {o : HO} (h : Bx a H H') (w : Well H a) (e : H b = some o) (n : ∀ xs, o ≠ .lst xs) (t : ∀ ps, o ≠ .tbl ps) : H' b = some o := by
  refine h b o (fun z => ?_) e t
  obtain ⟨_, _, _, w⟩ := w
  rw [z, w] at e
  exact n _ (Option.some.inj e).symm
theorem Bx.tup {a b : Addr} {H H' : Hp} {xs : List V} (h : Bx a H H') (w : Well H a) (e : H b = some (.tup xs)) : H' b = some (.tup xs) := h.at w e (fun _ z => by cases z) (fun _ z => by cases z)
theorem Bx.lst {a b : Addr} {H H' : Hp} {xs : List V} (h : Bx a H H') (n : b ≠ a) (e : H b = some (.lst xs)) : H' b = some (.lst xs) := h b _ n e (fun _ z => by cases z)
theorem Bx.dct {a b : Addr} {H H' : Hp} {xs : List (Key × V)} (h : Bx a H H') (w : Well H a) (e : H b = some (.dK xs)) : H' b = some (.dK xs) := h.at w e (fun _ z => by cases z) (fun _ z => by cases z)
theorem _root_.L2.Well.same {a : Addr} {H H' : Hp} (w : Well H a) (s : Same H H') : Well H' a := by
  obtain ⟨c, b, n, w⟩ := w
  exact ⟨c, b, n, s _ _ w⟩
theorem _root_.L2.Well.new {a t : Addr} {H : Hp} (w : Well H a) (n : H t = none) : t ≠ a := fun z => by
  obtain ⟨_, _, _, w⟩ := w
  rw [z, w] at n
  cases n
/-- so, whatever becomes of the well and of tables -/
def Rb (a : Addr) (H : Hp) (P : Hp → Prop) : Prop := ∀ G, Bx a H G → P G
theorem Rb.bx {a : Addr} {H H' : Hp} {P : Hp → Prop} (h : Rb a H P) (b : Bx a H H') : Rb a H' P := fun G g => h G (b.trans g)
theorem Rb.now {a : Addr} {H : Hp} {P : Hp → Prop} (h : Rb a H P) : P H := h H Bx.refl
end K08

set_option maxRecDepth 100000
set_option maxHeartbeats 4000000
namespace K08
open PySem PySem.Spec PyProof.Rows L2 He VH
/-! some words in their order -/
abbrev sPart : Stmt := top 19
theorem _root_.L2.SqT.bx {K : PySem.W.Frag} {a b : Addr} {H H' : Hp} {xs : List V} (h : SqT K H b xs) (w : Well H a) (x : Bx a H H') : SqT K H' b xs := by
  rcases h with (h | ⟨o, h⟩) | h
  · exact .inl (.inl (x.tup w h))
  · exact .inl (.inr ⟨o, x.at w h (fun _ z => by cases z) (fun _ z => by cases z)⟩)
  · exact .inr h
/-- at r: a list that is new behind H, or a tuple -/
def LoT (K : PySem.W.Frag) (H H' : Hp) (r : Addr) (xs : List V) : Prop := (H r = none ∧ H' r = some (.lst xs)) ∨ SqT K H' r xs
def spPart (K : PySem.W.Frag) : Sp := fun vs H Q _ => ∃ (a l : Addr) (ws : List Str), vs = [.ref a, .ref l] ∧ Well H a ∧ l ≠ a ∧ H l = some (.lst (ws.map V.str)) ∧ ws.length ≤ 1000 ∧
  ∀ (H' : Hp) (r : Addr) (cs : List Str), cs.Sublist ws → LoT K H H' r (cs.map V.str) → Well H' a → But a H H' → Q (.ref r) H'
abbrev nPart : List Str := ["_law_well_here", "_law_words", "_law_found", "_law_word"]
section
variable {P : Program} {w : World} {K : PySem.W.Frag} {mg : Str → Option Value} {base : Heap} {f : Addr} {fd fdO fdD : FuncData}
theorem scPart : FnScope nPart ["_law_well_here", "_law_words"] (defScope sPart) := ⟨rfl, rfl, rfl, by decide +kernel, rfl, by decide +kernel, by decide +kernel⟩
theorem bPart (F : FnP K "_law_part" sPart f fd) : Binds K fd ["_law_well_here", "_law_words"] [] := FunD.bindsN F fun _ _ _ _ _ _ us hl => match us, hl with | [_, _], _ => rfl
theorem bOne (F : FnP K "_law_one" sOne f fd) : Binds K fd ["_law_well_here", "_law_some"] [] := FunD.bindsN F fun _ _ _ _ _ _ us hl => match us, hl with | [_, _], _ => rfl
theorem bDraw (F : FnP K "_law_draw" sDraw f fd) : Binds K fd ["_law_well_here", "_law_much"] [] := FunD.bindsN F fun _ _ _ _ _ _ us hl => match us, hl with | [_, _], _ => rfl
theorem ok_part (F : FnP K "_law_part" sPart f fd) (T : Txt K mg w) (FO : FnP K "_law_one" sOne (ga K "_law_one") fdO) (FD : FnP K "_law_draw" sDraw (ga K "_law_draw") fdD) : FnOk P w K mg base CX0 3 f fd ["_law_well_here", "_law_words"] (spPart K) := by
  have GO : FnOk P w K mg base CX0 2 (ga K "_law_one") fdO ["_law_well_here", "_law_some"] (spOne K) := ok_one FO FD T.m_l_draw T.g_int T.g_len
  have GD : FnOk P w K mg base CX0 1 (ga K "_law_draw") fdD ["_law_well_here", "_law_much"] spDraw := ok_draw FD T.g_int
  refine F.ok scPart (fun vs H Q E h => ?_) (fun cdv A outer s H vs Q E hr h => ?_)
  · obtain ⟨_, _, _, rfl, _⟩ := h
    rfl
  refine ⟨_, PSs.nox (pss_cons (ps_setLc (i := 2) (own := [("_law_word", 3)]) (g := gName 3) (te := tVar 3) rfl scPart.nd rfl rfl (sw_true rfl rfl rfl (by decide +kernel)) (pi_list (pv 1)) (blkOk_by (N := nPart) (sc := defScope sPart) (by decide +kernel))
        (fun _ _ _ _ _ => pg_name (i := 3) scPart.nd rfl (Or.inl rfl)) (fun _ _ _ _ _ => pts_one (pt_cmpR op_eq (pe_call GD (hr.mono (by decide)) (by rfl) T.m_l_draw FD.kp (bDraw FD) .nil pass0 (pa_cons (pv 0) (pa_cons pe_int pa_nil))) pe_int (nomark _))) (fun _ _ _ _ _ => pv 3))
    (pss_one (ps_ret (pe_call GO hr (by rfl) T.m_l_one FO.kp (bOne FO) .nil pass0 (pa_cons (pv 0) (pa_cons (pe_lst (pa_cons (pv 2) (pa_cons (pe_callTy call_tupS (by rfl) T.g_tuple boot_tuple (pa_cons (pv 2) pa_nil)) pa_nil))) pa_nil)))))), ?_⟩
  obtain ⟨a, l, ws, rfl, wl, ne, hl, few, k⟩ := h
  have big : 1000 < sizeLine := by decide
  refine ⟨_, rfl, l, rfl, ⟨_, SqL.of hl⟩, fun D nD => ?_⟩
  have Da : D ≠ a := wl.new nD
  have off : ∀ {G : Hp} {o : HO}, But a H G → But a H (upd G D o) := fun b c u n e => by
    rw [upd_ne (ne_of_none e nD)]
    exact b c u n e
  refine lc_list (K := K) (xs := ws.map V.str) (fun i G => Well G a ∧ But a H G ∧ ∃ cs : List Str, cs.Sublist (ws.take i) ∧ G D = some (.lst (cs.map V.str))) ⟨wl.same (Same.new nD), But.of (Same.new nD), [], List.nil_sublist _, upd_same⟩ (fun i G _ p => SqL.of (p.2.1 _ _ ne hl)) (fun i x G hx p => ?_) (fun G p => ?_)
  · obtain ⟨wG, bG, cs, sub, hD⟩ := p
    rw [List.getElem?_map] at hx
    obtain ⟨z, hz, rfl⟩ := Option.map_eq_some_iff.mp hx
    have tk : ws.take (i + 1) = ws.take i ++ [z] := by rw [List.take_succ, hz]; rfl
    have ln : cs.length ≤ ws.length := (sub.trans (List.take_sublist _ _)).length_le
    refine ⟨rfl, _, rfl, a, 2, rfl, wG, by decide, by decide, fun G2 d d0 d1 w2 b2 => ?_⟩
    have hD2 := b2 _ _ Da hD
    refine ⟨rfl, _, rfl, ?_⟩
    cases decide (V.int d = V.int 0) with
    | true =>
      refine iteT ⟨_, rfl, _, hD2, ?_, ?_, off (bG.trans b2), cs ++ [z], ?_, ?_⟩
      · rw [List.length_map]
        omega
      · obtain ⟨c, b, n, w2⟩ := w2
        exact ⟨c, b, n, by rw [upd_ne (Ne.symm Da)]; exact w2⟩
      · rw [tk]
        exact sub.append (List.Sublist.refl _)
      · rw [upd_same, List.map_append]
        rfl
    | false =>
      refine iteF ⟨w2, bG.trans b2, cs, ?_, hD2⟩
      rw [tk]
      exact sub.trans (List.sublist_append_left _ _)
  · obtain ⟨wG, bG, cs, sub, hD⟩ := p
    rw [List.length_map, List.take_length] at sub
    refine ⟨_, rfl, _, rfl, _, rfl, D, _, rfl, .inl (SqL.of hD), fun t G1 S1 ht => ⟨(show 2 ≤ sizeLine by decide), fun r nr => ?_⟩⟩
    have S2 := Same.new (o := .lst [.ref D, .ref t]) nr
    have w2 := (wG.same S1).same S2
    refine ⟨a, r, _, rfl, w2, (wG.same S1).new nr, upd_same, (show 0 < 2 by decide), (show 2 < 1073741824 by decide), fun H3 y hy w3 b3 => ?_⟩
    have B : But a H H3 := ((bG.trans (But.of S1)).trans (But.of S2)).trans b3
    simp only [List.mem_cons, List.not_mem_nil, or_false] at hy
    rcases hy with rfl | rfl
    · exact k H3 D cs sub (.inl ⟨nD, b3 _ _ Da (S2 _ _ (S1 _ _ hD))⟩) w3 B
    · exact k H3 t cs sub (.inr ((ht.same S2).bx w2 (Bx.but b3))) w3 B
end
end K08

set_option maxRecDepth 100000
set_option maxHeartbeats 4000000
namespace K08
open PySem PySem.Spec PyProof.Rows L2 He VH
/-! parts that are none -/
section
variable {K : PySem.W.Frag} {H : Hp} {t : Addr} {xs : List V}
theorem tB {x : V} {s : String} (h : ∀ H', Same H H' → TyX K H' x (.type s)) (k : PySem.W.kitOne K (.type s) (.type "str") = some false) : NoTx K H x := fun H' S => ⟨_, h H' S, k⟩
theorem nTx_lst (h : H t = some (.lst xs)) : NoTx K H (.ref t) := fun H' s => ⟨_, .base (.lst (s _ _ h)), kit_ty (by decide +kernel)⟩
theorem nTx_tup (h : H t = some (.tup xs)) : NoTx K H (.ref t) := fun H' s => ⟨_, .base (.tup (s _ _ h)), kit_ty (by decide +kernel)⟩
theorem nTx_dct {es : List (Key × V)} (h : H t = some (.dK es)) : NoTx K H (.ref t) := fun H' s => ⟨_, .base (.dK (s _ _ h)), kit_ty (by decide +kernel)⟩
theorem nTx_non : NoTx K H .non := fun H' s => ⟨_, .base .non, kit_ty (by decide +kernel)⟩
theorem nTx_int {i : Int} : NoTx K H (.int i) := fun H' s => ⟨_, .base (.int i), kit_ty (by decide +kernel)⟩
theorem nSq_dct {es : List (Key × V)} (h : H t = some (.dK es)) : NoSq K H (.ref t) := fun H' s => ⟨_, .base (.dK (s _ _ h)), kit_ty (by decide +kernel), kit_ty (by decide +kernel)⟩
theorem nSq_non : NoSq K H .non := fun H' s => ⟨_, .base .non, kit_ty (by decide +kernel), kit_ty (by decide +kernel)⟩
theorem nSq_str {z : Str} : NoSq K H (.str z) := fun H' s => ⟨_, .base (.str z), kit_ty (by decide +kernel), kit_ty (by decide +kernel)⟩
theorem nBl_non : NoBl K H .non := fun H' s => ⟨_, .base .non, kit_ty (by decide +kernel)⟩
theorem nBl_int {i : Int} : NoBl K H (.int i) := fun H' s => ⟨_, .base (.int i), kit_ty (by decide +kernel)⟩
theorem nBl_str {z : Str} : NoBl K H (.str z) := fun H' s => ⟨_, .base (.str z), kit_ty (by decide +kernel)⟩
theorem nBl_lst (h : H t = some (.lst xs)) : NoBl K H (.ref t) := fun H' s => ⟨_, .base (.lst (s _ _ h)), kit_ty (by decide +kernel)⟩
theorem td_nil : Told K H [] := fun x hx => absurd hx (by simp)
theorem td_cons {x : V} {l : List V} (h : (∃ z : Str, x = .str z ∧ z.length ≤ 1000 ∧ PyData.canLay0 (.str z) = true) ∨ NoTx K H x) (hl : Told K H l) : Told K H (x :: l) := fun y hy => by
  rcases List.mem_cons.mp hy with rfl | hy
  · exact h
  · exact hl y hy
theorem isL_l {ok : List V → Bool} (h : H t = some (.lst xs)) (td : Told K H xs) (l : xs.length ≤ 1000) (no : ok xs = false) : isL K H ok (.ref t) none := .inl ⟨t, xs, rfl, .inl (SqL.of h), td, l, by rw [no]; rfl⟩
theorem isL_t {ok : List V → Bool} (h : H t = some (.tup xs)) (td : Told K H xs) (l : xs.length ≤ 1000) (no : ok xs = false) : isL K H ok (.ref t) none := .inl ⟨t, xs, rfl, .inr (SqT.of h), td, l, by rw [no]; rfl⟩
end
/-- of this kind, and none -/
def isK (K : PySem.W.Frag) : Nat → Hp → V → Prop
  | 0 => fun H y => isN K H y none
  | 1 => fun H y => isL K H nmsB y none
  | 2 => fun H y => isB K H y none
  | 3 => fun H y => isL K H (fun xs => wdsB xs prW) y none
  | _ => fun H y => isL K H (fun xs => wdsB xs waW) y none
/-- all but three lists is as it was -/
def Kp (a g d : Addr) (H G : Hp) : Prop := ∀ b o, b ≠ a → b ≠ g → b ≠ d → H b = some o → G b = some o
theorem Kp.refl {a g d : Addr} {H : Hp} : Kp a g d H H := fun _ _ _ _ _ h => h
theorem Kp.trans {a g d : Addr} {H G G' : Hp} (x : Kp a g d H G) (y : Kp a g d G G') : Kp a g d H G' := fun b o n m l h => y b o n m l (x b o n m l h)
theorem Kp.same {a g d : Addr} {H G : Hp} (h : Same H G) : Kp a g d H G := fun b o _ _ _ e => h b o e
theorem Kp.but {a g d : Addr} {H G : Hp} (h : But a H G) : Kp a g d H G := fun b o n _ _ e => h b o n e
theorem Kp.gut {a g d : Addr} {H G : Hp} (h : But g H G) : Kp a g d H G := fun b o _ n _ e => h b o n e
theorem Kp.dut {a g d : Addr} {H G : Hp} (h : But d H G) : Kp a g d H G := fun b o _ _ n e => h b o n e
/-- so, but for tables -/
def Kn (a g d : Addr) (H G : Hp) : Prop := ∀ b o, b ≠ a → b ≠ g → b ≠ d → H b = some o → (∀ ps, o ≠ .tbl ps) → G b = some o
theorem Kn.of {a g d : Addr} {H G : Hp} (k : Kp a g d H G) : Kn a g d H G := fun b o n m l h _ => k b o n m l h
theorem Kn.trans {a g d : Addr} {H G G' : Hp} (x : Kn a g d H G) (y : Kn a g d G G') : Kn a g d H G' := fun b o n m l h t => y b o n m l (x b o n m l h t) t
theorem Kn.ext {a g d : Addr} {H G : Hp} (x : LamX.ExtN H G) : Kn a g d H G := fun b o _ _ _ h t => x b o h t
/-- the three lists -/
structure Exm (H : Hp) (a g d : Addr) : Prop where
  wl : Well H a
  hg : ∃ xs, H g = some (.lst xs) ∧ 3 < xs.length
  hd : ∃ (p q : Addr) (l : List V), H d = some (.lst (.ref p :: .ref q :: l))
def small : List V → Bool
  | [] => true
  | [_] => true
  | [.str _, _] => true
  | _ => false
section
variable {a g d t : Addr} {H G : Hp} {o : HO}
theorem Kn.at (k : Kn a g d H G) (x : Exm H a g d) (h : H t = some o) (no : ∀ xs, o = .lst xs → small xs = true) (nt : ∀ ps, o ≠ .tbl ps) : G t = some o := by
  obtain ⟨⟨c, b, n, w⟩, ⟨xs, hg, l3⟩, ⟨p, q, l, hd⟩⟩ := x
  refine k t o (fun z => ?_) (fun z => ?_) (fun z => ?_) h nt
  · rw [z, w] at h
    exact absurd (no _ (Option.some.inj h).symm) (by simp [small])
  · rw [z, hg] at h
    have := no _ (Option.some.inj h).symm
    match xs, l3 with
    | _ :: _ :: _ :: _ :: _, _ => exact absurd this (by simp [small])
  · rw [z, hd] at h
    have := no _ (Option.some.inj h).symm
    cases l with
    | nil => exact absurd this (by simp [small])
    | cons _ _ => exact absurd this (by simp [small])
theorem Kn.li {xs : List V} (k : Kn a g d H G) (x : Exm H a g d) (h : H t = some (.lst xs)) (s : small xs = true) : G t = some (.lst xs) := k.at x h (fun ys e => by cases e; exact s) (fun _ z => by cases z)
theorem Kn.tu {xs : List V} (k : Kn a g d H G) (x : Exm H a g d) (h : H t = some (.tup xs)) : G t = some (.tup xs) := k.at x h (fun ys e => by cases e) (fun _ z => by cases z)
theorem Kn.dc {es : List (Key × V)} (k : Kn a g d H G) (x : Exm H a g d) (h : H t = some (.dK es)) : G t = some (.dK es) := k.at x h (fun ys e => by cases e) (fun _ z => by cases z)
end
/-- each is none of its kind, whatever becomes of the three lists -/
def Kd (K : PySem.W.Frag) (a g d : Addr) (H : Hp) (j : Nat) (ls : List V) : Prop := ∀ G, Kn a g d H G → ∀ y ∈ ls, isK K j G y
theorem Kd.kp {K : PySem.W.Frag} {a g d : Addr} {H G : Hp} {j : Nat} {ls : List V} (h : Kd K a g d H j ls) (k : Kp a g d H G) : Kd K a g d G j ls := fun G' k' => h G' ((Kn.of k).trans k')
section
variable {K : PySem.W.Frag} {a g d : Addr} {H : Hp} {t1 t2 t3 t4 t5 t6 t7 t8 t9 : Addr}
theorem kd0 (X : Exm H a g d) (h1 : H t1 = some (.lst [.str "a"])) : Kd K a g d H 0 [.str "", .str "A", .str "a1", .str "abcdefghijklm", .non, .int 7, .ref t1] := fun G k y hy => by
  have h1 := k.li X h1 rfl
  simp only [List.mem_cons, List.not_mem_nil, or_false] at hy
  rcases hy with rfl | rfl | rfl | rfl | rfl | rfl | rfl
  · exact .inl ⟨_, rfl, by decide, by decide +kernel⟩
  · exact .inl ⟨_, rfl, by decide, by decide +kernel⟩
  · exact .inl ⟨_, rfl, by decide, by decide +kernel⟩
  · exact .inl ⟨_, rfl, by decide, by decide +kernel⟩
  · exact .inr ⟨nTx_non, rfl⟩
  · exact .inr ⟨nTx_int, rfl⟩
  · exact .inr ⟨nTx_lst h1, rfl⟩
theorem kd1 (X : Exm H a g d) (h1 : H t1 = some (.lst [.str "ann", .str "ann"])) (h2 : H t2 = some (.tup [.str "A"])) (h3 : H t3 = some (.dK [])) (h4 : H t4 = some (.lst [])) (h5 : H t5 = some (.lst [.ref t4])) (h6 : H t6 = some (.tup [.int 1])) :
    Kd K a g d H 1 [.ref t1, .str "ann", .ref t2, .non, .ref t3, .ref t5, .ref t6] := fun G k y hy => by
  have h1 := k.li X h1 rfl
  have h2 := k.tu X h2
  have h3 := k.dc X h3
  have h4 := k.li X h4 rfl
  have h5 := k.li X h5 rfl
  have h6 := k.tu X h6
  simp only [List.mem_cons, List.not_mem_nil, or_false] at hy
  rcases hy with rfl | rfl | rfl | rfl | rfl | rfl | rfl
  · exact isL_l h1 (td_cons (.inl ⟨_, rfl, by decide, by decide +kernel⟩) (td_cons (.inl ⟨_, rfl, by decide, by decide +kernel⟩) td_nil)) (by decide) (by decide +kernel)
  · exact .inr ⟨nSq_str, rfl⟩
  · exact isL_t h2 (td_cons (.inl ⟨_, rfl, by decide, by decide +kernel⟩) td_nil) (by decide) (by decide +kernel)
  · exact .inr ⟨nSq_non, rfl⟩
  · exact .inr ⟨nSq_dct h3, rfl⟩
  · exact isL_l h5 (td_cons (.inr (nTx_lst h4)) td_nil) (by simp) rfl
  · exact isL_t h6 (td_cons (.inr nTx_int) td_nil) (by decide) rfl
theorem kd2 (X : Exm H a g d) (h1 : H t1 = some (.lst [])) : Kd K a g d H 2 [.int 0, .int 1, .non, .str "", .str "False", .ref t1] := fun G k y hy => by
  have h1 := k.li X h1 rfl
  simp only [List.mem_cons, List.not_mem_nil, or_false] at hy
  rcases hy with rfl | rfl | rfl | rfl | rfl | rfl
  · exact .inr ⟨nBl_int, rfl⟩
  · exact .inr ⟨nBl_int, rfl⟩
  · exact .inr ⟨nBl_non, rfl⟩
  · exact .inr ⟨nBl_str, rfl⟩
  · exact .inr ⟨nBl_str, rfl⟩
  · exact .inr ⟨nBl_lst h1, rfl⟩
theorem kd3 (X : Exm H a g d) (h1 : H t1 = some (.lst [.str "mild", .str "right"])) (h2 : H t2 = some (.tup [.str "right", .str "right"])) (h3 : H t3 = some (.lst [.str "Right"])) (h4 : H t4 = some (.dK [])) (h5 : H t5 = some (.tup [.str "right"])) (h6 : H t6 = some (.lst [.ref t5]))
    (h7 : H t7 = some (.tup [.str "done"])) (h8 : H t8 = some (.lst [])) (h9 : H t9 = some (.lst [.ref t8])) :
    Kd K a g d H 3 [.ref t1, .ref t2, .str "right", .ref t3, .non, .ref t4, .ref t6, .ref t7, .ref t9] := fun G k y hy => by
  have h1 := k.li X h1 rfl
  have h2 := k.tu X h2
  have h3 := k.li X h3 rfl
  have h4 := k.dc X h4
  have h5 := k.tu X h5
  have h6 := k.li X h6 rfl
  have h7 := k.tu X h7
  have h8 := k.li X h8 rfl
  have h9 := k.li X h9 rfl
  simp only [List.mem_cons, List.not_mem_nil, or_false] at hy
  rcases hy with rfl | rfl | rfl | rfl | rfl | rfl | rfl | rfl | rfl
  · exact isL_l h1 (td_cons (.inl ⟨_, rfl, by decide, by decide +kernel⟩) (td_cons (.inl ⟨_, rfl, by decide, by decide +kernel⟩) td_nil)) (by decide) (by decide +kernel)
  · exact isL_t h2 (td_cons (.inl ⟨_, rfl, by decide, by decide +kernel⟩) (td_cons (.inl ⟨_, rfl, by decide, by decide +kernel⟩) td_nil)) (by decide) (by decide +kernel)
  · exact .inr ⟨nSq_str, rfl⟩
  · exact isL_l h3 (td_cons (.inl ⟨_, rfl, by decide, by decide +kernel⟩) td_nil) (by decide) (by decide +kernel)
  · exact .inr ⟨nSq_non, rfl⟩
  · exact .inr ⟨nSq_dct h4, rfl⟩
  · exact isL_l h6 (td_cons (.inr (nTx_tup h5)) td_nil) (by simp) rfl
  · exact isL_t h7 (td_cons (.inl ⟨_, rfl, by decide, by decide +kernel⟩) td_nil) (by decide) (by decide +kernel)
  · exact isL_l h9 (td_cons (.inr (nTx_lst h8)) td_nil) (by simp) rfl
theorem kd4 {es : List (Key × V)} (X : Exm H a g d) (h1 : H t1 = some (.tup [.str "drained", .str "done"])) (h2 : H t2 = some (.lst [.str "done", .str "done"])) (h3 : H t3 = some (.tup [.str "right"])) (h4 : H t4 = some (.lst [.non])) (h5 : H t5 = some (.dK es)) :
    Kd K a g d H 4 [.ref t1, .ref t2, .str "done", .ref t3, .non, .ref t4, .ref t5] := fun G k y hy => by
  have h1 := k.tu X h1
  have h2 := k.li X h2 rfl
  have h3 := k.tu X h3
  have h4 := k.li X h4 rfl
  have h5 := k.dc X h5
  simp only [List.mem_cons, List.not_mem_nil, or_false] at hy
  rcases hy with rfl | rfl | rfl | rfl | rfl | rfl | rfl
  · exact isL_t h1 (td_cons (.inl ⟨_, rfl, by decide, by decide +kernel⟩) (td_cons (.inl ⟨_, rfl, by decide, by decide +kernel⟩) td_nil)) (by decide) (by decide +kernel)
  · exact isL_l h2 (td_cons (.inl ⟨_, rfl, by decide, by decide +kernel⟩) (td_cons (.inl ⟨_, rfl, by decide, by decide +kernel⟩) td_nil)) (by decide) (by decide +kernel)
  · exact .inr ⟨nSq_str, rfl⟩
  · exact isL_t h3 (td_cons (.inl ⟨_, rfl, by decide, by decide +kernel⟩) td_nil) (by decide) (by decide +kernel)
  · exact .inr ⟨nSq_non, rfl⟩
  · exact isL_l h4 (td_cons (.inr nTx_non) td_nil) (by decide) rfl
  · exact .inr ⟨nSq_dct h5, rfl⟩
end
end K08

set_option maxRecDepth 100000
set_option maxHeartbeats 4000000
namespace K08
open PySem PySem.Spec PyProof.Rows L2 He VH
/-! names and words that are right -/
theorem sub_filter {ws : List Str} : ∀ {cs : List Str}, cs.Sublist ws → ws.Nodup → cs.all ws.contains = true ∧ cs = ws.filter cs.contains := by
  induction ws with
  | nil =>
    intro cs s _
    obtain rfl := List.sublist_nil.mp s
    exact ⟨rfl, rfl⟩
  | cons x ws ih =>
    intro cs s nd
    obtain ⟨nx, nd⟩ := List.nodup_cons.mp nd
    refine ⟨List.all_eq_true.mpr fun y hy => List.contains_iff_mem.mpr (s.subset hy), ?_⟩
    cases s with
    | cons _ s =>
      have nc : cs.contains x = false := by
        cases h : cs.contains x with
        | false => rfl
        | true => exact absurd (s.subset (List.contains_iff_mem.mp h)) nx
      rw [List.filter_cons, nc]
      exact (ih s nd).2
    | @cons_cons cs' _ _ s =>
      have e : ws.filter (x :: cs').contains = ws.filter cs'.contains := List.filter_congr fun y hy => by
        have : y ≠ x := fun z => nx (z ▸ hy)
        simp [this]
      rw [List.filter_cons, show (x :: cs').contains x = true by simp, if_pos rfl, e, ← (ih s nd).2]
theorem wds_sub {cs ws : List Str} (s : cs.Sublist ws) (nd : ws.Nodup) : wdsB (cs.map V.str) ws = true := by
  have h := sub_filter s nd
  unfold wdsB
  rw [txs_map]
  show wdsOk cs ws = true
  unfold wdsOk
  rw [h.1, decide_eq_true h.2]
  rfl
theorem nms_sub {cs ws : List Str} (s : cs.Sublist ws) (nd : ws.Nodup) (nm : ∀ z ∈ ws, nameB z = true) : nmsB (cs.map V.str) = true := by
  unfold nmsB
  rw [txs_map]
  show (cs.all nameB && decide cs.Nodup) = true
  rw [List.all_eq_true.mpr fun z hz => nm z (s.subset hz), decide_eq_true (s.nodup nd)]
  rfl
theorem let_ok : ∀ c ∈ LET.cps.toList, c < 128 := by decide +kernel
theorem name_lay {z : Str} (h : nameB z = true) : PyData.canLay0 (.str z) = true := by
  unfold nameB at h
  rw [Bool.and_eq_true, Bool.and_eq_true] at h
  obtain ⟨_, l, a⟩ := h
  have l := of_decide_eq_true l
  unfold PyData.canLay0 PyData.strOk
  rw [← Array.all_toList]
  exact List.all_eq_true.mpr fun c hc => decide_eq_true (Nat.lt_trans (let_ok c (of_decide_eq_true (List.all_eq_true.mp a c hc))) (by decide))
theorem name_len {z : Str} (h : nameB z = true) : z.length ≤ 12 := by
  unfold nameB at h
  rw [Bool.and_eq_true, Bool.and_eq_true] at h
  have l := of_decide_eq_true h.2.1
  omega
/-- a text of letters -/
theorem name_of {z : Str} {cs : List Nat} (e : z.cps.toList = cs) (l1 : 1 ≤ cs.length) (l2 : cs.length ≤ 12) (a : ∀ c ∈ cs, c ∈ LET.cps.toList) : nameB z = true := by
  have ln : z.length = cs.length := by
    rw [← e, Array.length_toList]
    rfl
  unfold nameB
  rw [ln, e, decide_eq_true (by omega), decide_eq_true (by omega), List.all_eq_true.mpr fun c hc => decide_eq_true (a c hc)]
  rfl
theorem mem_sgns {x : V} {z : Str} (h : x ∈ (sgns z).map V.str) : ∃ c, c ∈ z.cps.toList ∧ x = .str (sgn c) := by
  obtain ⟨y, hy, rfl⟩ := List.mem_map.mp h
  obtain ⟨c, hc, rfl⟩ := List.mem_map.mp hy
  exact ⟨c, hc, rfl⟩
abbrev oth : List Str := ["ann", "bo", "abcdefghijkl"]
theorem oth_names : ∀ z ∈ oth, nameB z = true := by decide +kernel
/-- what may write -/
def wrs (z : Str) : List Str := if oth.contains z = true then oth else oth ++ [z]
theorem wrs_nd (z : Str) : (wrs z).Nodup := by
  unfold wrs
  split
  · decide +kernel
  · rename_i h
    refine List.nodup_append.mpr ⟨by decide +kernel, by simp, fun x hx y hy e => ?_⟩
    rw [List.mem_singleton.mp hy] at e
    exact h (List.contains_iff_mem.mpr (e ▸ hx))
theorem wrs_names {z : Str} (hz : nameB z = true) : ∀ y ∈ wrs z, nameB y = true := fun y hy => by
  unfold wrs at hy
  split at hy
  · exact oth_names y hy
  · rcases List.mem_append.mp hy with h | h
    · exact oth_names y h
    · rw [List.mem_singleton.mp h]
      exact hz
theorem wrs_len (z : Str) : (wrs z).length ≤ 4 := by
  unfold wrs
  split <;> simp
/-- five parts that are right -/
structure Nice (z : Str) (c1 c3 c4 : List Str) : Prop where
  z : nameB z = true
  n1 : nmsB (c1.map V.str) = true
  l1 : Lay c1
  k1 : c1.length ≤ 4
  s1 : ∀ y ∈ c1, y.length ≤ 12
  n3 : wdsB (c3.map V.str) prW = true
  l3 : Lay c3
  k3 : c3.length ≤ 4
  s3 : ∀ y ∈ c3, y.length ≤ 12
  n4 : wdsB (c4.map V.str) waW = true
  l4 : Lay c4
  k4 : c4.length ≤ 4
  s4 : ∀ y ∈ c4, y.length ≤ 12
theorem nice {z : Str} {c1 c3 c4 : List Str} (hz : nameB z = true) (s1 : c1.Sublist (wrs z)) (s3 : c3.Sublist prW) (s4 : c4.Sublist waW) : Nice z c1 c3 c4 where
  z := hz
  n1 := nms_sub s1 (wrs_nd z) (wrs_names hz)
  l1 := fun y hy => name_lay (wrs_names hz y (s1.subset hy))
  k1 := Nat.le_trans s1.length_le (wrs_len z)
  s1 := fun y hy => name_len (wrs_names hz y (s1.subset hy))
  n3 := wds_sub s3 (by decide +kernel)
  l3 := fun y hy => (show ∀ y ∈ prW, PyData.canLay0 (.str y) = true by decide +kernel) y (s3.subset hy)
  k3 := s3.length_le
  s3 := fun y hy => (show ∀ y ∈ prW, y.length ≤ 12 by decide +kernel) y (s3.subset hy)
  n4 := wds_sub s4 (by decide +kernel)
  l4 := fun y hy => (show ∀ y ∈ waW, PyData.canLay0 (.str y) = true by decide +kernel) y (s4.subset hy)
  k4 := Nat.le_trans s4.length_le (by decide)
  s4 := fun y hy => (show ∀ y ∈ waW, y.length ≤ 12 by decide +kernel) y (s4.subset hy)
end K08

set_option maxRecDepth 100000
set_option maxHeartbeats 4000000
namespace K08
open PySem PySem.Spec PyProof.Rows L2 He VH
/-! the five parts of a Phase -/
abbrev sPs : Stmt := top 20
abbrev nPs : List Str := ["_law_well_here", "_law_letters", "_law_title", "_law_others", "_law_some", "_law_good", "_law_odd", "_law_titles", "_law_wrong", "_law_at", "_law_turn"]
/-- at t: a list that is new behind H and none of these, or a tuple -/
def LX (K : PySem.W.Frag) (ex : List Addr) (H G : Hp) (t : Addr) (xs : List V) : Prop := (H t = none ∧ t ∉ ex ∧ G t = some (.lst xs)) ∨ SqT K G t xs
section
variable {K : PySem.W.Frag} {ex : List Addr} {H G G' : Hp} {t p : Addr} {xs : List V}
theorem LX.of (h : LoT K H G t xs) (n : ∀ p ∈ ex, ∃ o, H p = some o ∨ ∀ zs, G t = some (.lst zs) → t ≠ p) : LX K ex H G t xs := h.imp (fun h => ⟨h.1, fun m => by
  obtain ⟨o, n | n⟩ := n _ m
  · rw [h.1] at n
    cases n
  · exact n _ h.2 rfl, h.2⟩) id
theorem LX.same (h : LX K ex H G t xs) (s : Same G G') : LX K ex H G' t xs := h.imp (fun h => ⟨h.1, h.2.1, s _ _ h.2.2⟩) (·.same s)
theorem LX.new (h : LX K ex H G t xs) (n : G p = none) : LX K (p :: ex) H G t xs := h.imp (fun h => ⟨h.1, fun m => by
  rcases List.mem_cons.mp m with rfl | m
  · rw [h.2.2] at n
    cases n
  · exact h.2.1 m, h.2.2⟩) id
theorem LX.but (h : LX K ex H G t xs) (m : p ∈ ex) (hp : ∃ ys, G p = some (.lst ys)) (b : But p G G') : LX K ex H G' t xs := by
  obtain ⟨ys, hp⟩ := hp
  rcases h with h | h
  · exact .inl ⟨h.1, h.2.1, b _ _ (fun z => h.2.1 (z ▸ m)) h.2.2⟩
  · refine .inr ?_
    rcases h with (h | ⟨o, h⟩) | h
    · exact .inl (.inl (b _ _ (fun z => by rw [z, hp] at h; cases h) h))
    · exact .inl (.inr ⟨o, b _ _ (fun z => by rw [z, hp] at h; cases h) h⟩)
    · exact .inr h
theorem LX.lo (h : LX K ex H G t xs) : LoT K H G t xs := h.imp (fun h => ⟨h.1, h.2.2⟩) id
theorem _root_.L2.Well.ls {a : Addr} {H : Hp} (w : Well H a) : ∃ ys, H a = some (.lst ys) := by
  obtain ⟨_, _, _, w⟩ := w
  exact ⟨_, w⟩
end
/-- an odd list, laid -/
structure OL (K : PySem.W.Frag) (a g d : Addr) (H : Hp) (j : Nat) (l : Addr) (ls : List V) : Prop where
  na : l ≠ a
  ng : l ≠ g
  nd : l ≠ d
  at_ : H l = some (.lst ls)
  kd : Kd K a g d H j ls
theorem OL.kp {K : PySem.W.Frag} {a g d : Addr} {H G : Hp} {j : Nat} {l : Addr} {ls : List V} (h : OL K a g d H j l ls) (k : Kp a g d H G) : OL K a g d G j l ls := ⟨h.na, h.ng, h.nd, k _ _ h.na h.ng h.nd h.at_, h.kd.kp k⟩
/-- five parts that are right, laid -/
def Five (K : PySem.W.Frag) (H H' : Hp) (ys : List V) (z : Str) (c1 : List Str) (b : Bool) (c3 c4 : List Str) : Prop := ∃ r1 r3 r4 : Addr, ys = [.str z, .ref r1, .bl b, .ref r3, .ref r4] ∧ LoT K H H' r1 (c1.map V.str) ∧ LoT K H H' r3 (c3.map V.str) ∧ LoT K H H' r4 (c4.map V.str)
/-- what is told of five parts -/
def Drawn (K : PySem.W.Frag) (H H' : Hp) (ys : List V) (wr : V) : Prop := (wr = .non ∧ ∃ z c1 b c3 c4, Nice z c1 c3 c4 ∧ Five K H H' ys z c1 b c3 c4) ∨
  (∃ (u : Str) (y0 y1 y2 y3 y4 : V) (r0 : Option Str) (r1 : Option (List V)) (r2 : Option Bool) (r3 r4 : Option (List V)), wr = .str u ∧ ys = [y0, y1, y2, y3, y4] ∧ isN K H' y0 r0 ∧ isL K H' nmsB y1 r1 ∧ isB K H' y2 r2 ∧ isL K H' (fun xs => wdsB xs prW) y3 r3 ∧ isL K H' (fun xs => wdsB xs waW) y4 r4 ∧ wrong r0 r1 r2 r3 r4 = some u)
theorem LX.kp {K : PySem.W.Frag} {ex : List Addr} {H G G' : Hp} {a g t : Addr} {xs : List V} (h : LX K ex H G t xs) (ma : a ∈ ex) (mg : g ∈ ex) (ha : ∃ ys, G a = some (.lst ys)) (hg : ∃ ys, G g = some (.lst ys)) (k : Kn a g g G G') : LX K ex H G' t xs := by
  obtain ⟨_, ha⟩ := ha
  obtain ⟨_, hg⟩ := hg
  have go : ∀ o, (∀ zs, o ≠ .lst zs) → (∀ zs, o ≠ .tbl zs) → G t = some o → G' t = some o := fun o n nt e => by
    have n1 : t ≠ a := fun z => by rw [z, ha] at e; exact n _ (Option.some.inj e).symm
    have n2 : t ≠ g := fun z => by rw [z, hg] at e; exact n _ (Option.some.inj e).symm
    exact k _ _ n1 n2 n2 e nt
  rcases h with h | h
  · have n1 : t ≠ a := fun z => h.2.1 (z ▸ ma)
    have n2 : t ≠ g := fun z => h.2.1 (z ▸ mg)
    exact .inl ⟨h.1, h.2.1, k _ _ n1 n2 n2 h.2.2 (fun _ z => by cases z)⟩
  · refine .inr ?_
    rcases h with (h | ⟨o, h⟩) | h
    · exact .inl (.inl (go _ (fun _ z => by cases z) (fun _ z => by cases z) h))
    · exact .inl (.inr ⟨o, go _ (fun _ z => by cases z) (fun _ z => by cases z) h⟩)
    · exact .inr h
theorem isL_o {K : PySem.W.Frag} {ex : List Addr} {H G : Hp} {t : Addr} {c : List Str} {ok : List V → Bool} (h : LX K ex H G t (c.map V.str)) (l : Lay c) (s : ∀ y ∈ c, y.length ≤ 12) (k : c.length ≤ 4) (y : ok (c.map V.str) = true) : isL K G ok (.ref t) (some (c.map V.str)) := by
  refine .inl ⟨t, c.map V.str, rfl, ?_, fun x hx => ?_, by rw [List.length_map]; omega, by rw [y]; rfl⟩
  · rcases h with h | h
    · exact .inl (SqL.of h.2.2)
    · exact .inr h
  · obtain ⟨z, hz, rfl⟩ := List.mem_map.mp hx
    exact .inl ⟨z, rfl, by have := s z hz; omega, l z hz⟩
def nmAt : Nat → Str
  | 0 => "name"
  | 1 => "writers"
  | 2 => "fills"
  | 3 => "promises"
  | _ => "waits"
/-- the first of i flags that is up, by its name -/
def wrV (fl : Nat → Bool) : Nat → V
  | 0 => .non
  | i + 1 => if wrV fl i = .non then (if fl i = true then .str (nmAt i) else .non) else wrV fl i
theorem wrV_congr {fl fl' : Nat → Bool} : ∀ {i : Nat}, (∀ j, j < i → fl j = fl' j) → wrV fl i = wrV fl' i
  | 0, _ => rfl
  | i + 1, h => by
    show (if wrV fl i = .non then (if fl i = true then V.str (nmAt i) else .non) else wrV fl i) = (if wrV fl' i = .non then (if fl' i = true then V.str (nmAt i) else .non) else wrV fl' i)
    rw [wrV_congr fun j hj => h j (Nat.lt_succ_of_lt hj), h i (Nat.lt_succ_self i)]
theorem wrV_no {fl : Nat → Bool} {i : Nat} (h : fl i = false) : wrV fl (i + 1) = wrV fl i := by
  show (if wrV fl i = .non then (if fl i = true then V.str (nmAt i) else .non) else wrV fl i) = wrV fl i
  rw [h]
  split
  · rename_i e
    rw [e]
    rfl
  · rfl
def up (fl : Nat → Bool) (i : Nat) : Nat → Bool := fun j => if j = i then true else fl j
theorem wrV_up {fl : Nat → Bool} {i : Nat} : wrV (up fl i) (i + 1) = if wrV fl i = .non then .str (nmAt i) else wrV fl i := by
  have e : wrV (up fl i) i = wrV fl i := wrV_congr fun j h => by
    unfold up
    rw [if_neg (by omega)]
  show (if wrV (up fl i) i = .non then (if up fl i i = true then V.str (nmAt i) else .non) else wrV (up fl i) i) = _
  rw [e, show up fl i i = true by unfold up; rw [if_pos rfl], if_pos rfl]
theorem it_up {os ys : List V} {fl : Nat → Bool} {i : Nat} {y : V} {Z : Nat → V → Prop} (hz : Z i y) (lt : i < ys.length) (it : ∀ j x, ys[j]? = some x → (fl j = false ∧ os[j]? = some x) ∨ (fl j = true ∧ Z j x)) :
    ∀ j x, (ys.set i y)[j]? = some x → (up fl i j = false ∧ os[j]? = some x) ∨ (up fl i j = true ∧ Z j x) := fun j x h => by
  by_cases e : j = i
  · subst e
    rw [List.getElem?_set_self lt] at h
    obtain rfl := Option.some.inj h
    exact .inr ⟨by unfold up; rw [if_pos rfl], hz⟩
  · rw [List.getElem?_set_ne (Ne.symm e)] at h
    unfold up
    rw [if_neg e]
    exact it j x h
theorem wrV5 (fl : Nat → Bool) : wrV fl 5 = if fl 0 = true then .str "name" else if fl 1 = true then .str "writers" else if fl 2 = true then .str "fills" else if fl 3 = true then .str "promises" else if fl 4 = true then .str "waits" else .non := by
  simp only [wrV, nmAt]
  cases fl 0 <;> cases fl 1 <;> cases fl 2 <;> cases fl 3 <;> cases fl 4 <;> simp
theorem drawn {K : PySem.W.Frag} {ex : List Addr} {H G : Hp} {ys : List V} {fl : Nat → Bool} {z : Str} {c1 c3 c4 : List Str} {b : Bool} {t1 t3 t4 : Addr} (nc : Nice z c1 c3 c4) (x1 : LX K ex H G t1 (c1.map V.str)) (x3 : LX K ex H G t3 (c3.map V.str)) (x4 : LX K ex H G t4 (c4.map V.str)) (ln : ys.length = 5)
    (it : ∀ j y, ys[j]? = some y → (fl j = false ∧ [V.str z, .ref t1, .bl b, .ref t3, .ref t4][j]? = some y) ∨ (fl j = true ∧ isK K j G y)) : Drawn K H G ys (wrV fl 5) := by
  match ys, ln with
  | [y0, y1, y2, y3, y4], _ =>
    have i0 := it 0 y0 rfl
    have i1 := it 1 y1 rfl
    have i2 := it 2 y2 rfl
    have i3 := it 3 y3 rfl
    have i4 := it 4 y4 rfl
    rw [wrV5]
    by_cases all : fl 0 = false ∧ fl 1 = false ∧ fl 2 = false ∧ fl 3 = false ∧ fl 4 = false
    · obtain ⟨e0, e1, e2, e3, e4⟩ := all
      rw [e0] at i0 ⊢
      rw [e1] at i1 ⊢
      rw [e2] at i2 ⊢
      rw [e3] at i3 ⊢
      rw [e4] at i4 ⊢
      obtain rfl : V.str z = y0 := by simpa using i0
      obtain rfl : V.ref t1 = y1 := by simpa using i1
      obtain rfl : V.bl b = y2 := by simpa using i2
      obtain rfl : V.ref t3 = y3 := by simpa using i3
      obtain rfl : V.ref t4 = y4 := by simpa using i4
      exact .inl ⟨by simp, z, c1, b, c3, c4, nc, t1, t3, t4, rfl, x1.lo, x3.lo, x4.lo⟩
    · have r0 : isN K G y0 (if fl 0 = true then none else some z) := by
        rcases i0 with ⟨e, h⟩ | ⟨e, h⟩
        · obtain rfl := Option.some.inj h
          rw [e]
          exact .inl ⟨z, rfl, by have := name_len nc.z; omega, by rw [nc.z]; rfl⟩
        · rw [e]
          exact h
      have r1 : isL K G nmsB y1 (if fl 1 = true then none else some (c1.map V.str)) := by
        rcases i1 with ⟨e, h⟩ | ⟨e, h⟩
        · obtain rfl := Option.some.inj h
          rw [e]
          exact isL_o x1 nc.l1 nc.s1 nc.k1 nc.n1
        · rw [e]
          exact h
      have r2 : isB K G y2 (if fl 2 = true then none else some b) := by
        rcases i2 with ⟨e, h⟩ | ⟨e, h⟩
        · obtain rfl := Option.some.inj h
          rw [e]
          exact .inl ⟨b, rfl, rfl⟩
        · rw [e]
          exact h
      have r3 : isL K G (fun xs => wdsB xs prW) y3 (if fl 3 = true then none else some (c3.map V.str)) := by
        rcases i3 with ⟨e, h⟩ | ⟨e, h⟩
        · obtain rfl := Option.some.inj h
          rw [e]
          exact isL_o x3 nc.l3 nc.s3 nc.k3 nc.n3
        · rw [e]
          exact h
      have r4 : isL K G (fun xs => wdsB xs waW) y4 (if fl 4 = true then none else some (c4.map V.str)) := by
        rcases i4 with ⟨e, h⟩ | ⟨e, h⟩
        · obtain rfl := Option.some.inj h
          rw [e]
          exact isL_o x4 nc.l4 nc.s4 nc.k4 nc.n4
        · rw [e]
          exact h
      have un : ∃ u : Str, (if fl 0 = true then V.str "name" else if fl 1 = true then .str "writers" else if fl 2 = true then .str "fills" else if fl 3 = true then .str "promises" else if fl 4 = true then .str "waits" else .non) = .str u ∧
          wrong (if fl 0 = true then none else some z) (if fl 1 = true then none else some (c1.map V.str)) (if fl 2 = true then none else some b) (if fl 3 = true then none else some (c3.map V.str)) (if fl 4 = true then none else some (c4.map V.str)) = some u := by
        clear r0 r1 r2 r3 r4 i0 i1 i2 i3 i4 it
        unfold wrong
        cases e0 : fl 0
        case true => exact ⟨_, rfl, rfl⟩
        cases e1 : fl 1
        case true => exact ⟨_, rfl, rfl⟩
        cases e2 : fl 2
        case true => exact ⟨_, rfl, rfl⟩
        cases e3 : fl 3
        case true => exact ⟨_, rfl, rfl⟩
        cases e4 : fl 4
        case true => exact ⟨_, rfl, rfl⟩
        exact absurd ⟨e0, e1, e2, e3, e4⟩ all
      obtain ⟨u, e1, e2⟩ := un
      exact .inr ⟨u, y0, y1, y2, y3, y4, _, _, _, _, _, e1, rfl, r0, r1, r2, r3, r4, e2⟩
def spPs (K : PySem.W.Frag) : Sp := fun vs H Q _ => ∃ (a : Addr), vs = [.ref a] ∧ Well H a ∧ ∀ (H' : Hp) (p g : Addr) (ys : List V) (wr : V), H g = none → H' p = some (.tup [.ref g, wr]) → H' g = some (.lst ys) → Well H' a → But a H H' → (∀ G, LamX.ExtN H' G → Drawn K H G ys wr) → Q (.ref p) H'
theorem len_sgns : ∀ cs : List Nat, ((cs.map sgn).map fun x => x.length).sum = cs.length
  | [] => rfl
  | c :: cs => by
    rw [List.map_cons, List.map_cons, List.sum_cons, len_sgns cs, List.length_cons]
    show 1 + cs.length = _
    omega
theorem _root_.L2.But.none {a : Addr} {H G : Hp} {b : Addr} (h : But a H G) (n : G b = none) (ne : b ≠ a) : H b = none := by
  cases e : H b with
  | none => rfl
  | some o => rw [h b o ne e] at n; cases n
section
variable {P : Program} {w : World} {K : PySem.W.Frag} {mg : Str → Option Value} {base : Heap} {f : Addr} {fd fdO fdD fdP : FuncData}
theorem scPs : FnScope nPs ["_law_well_here"] (defScope sPs) := ⟨rfl, rfl, rfl, by decide +kernel, rfl, by decide +kernel, by decide +kernel⟩
theorem ok_ps (F : FnP K "_law_parts" sPs f fd) (T : Txt K mg w) (FO : FnP K "_law_one" sOne (ga K "_law_one") fdO) (FD : FnP K "_law_draw" sDraw (ga K "_law_draw") fdD) (FP : FnP K "_law_part" sPart (ga K "_law_part") fdP) : FnOk P w K mg base CX0 4 f fd ["_law_well_here"] (spPs K) := by
  have GO : FnOk P w K mg base CX0 2 (ga K "_law_one") fdO ["_law_well_here", "_law_some"] (spOne K) := ok_one FO FD T.m_l_draw T.g_int T.g_len
  have GD : FnOk P w K mg base CX0 1 (ga K "_law_draw") fdD ["_law_well_here", "_law_much"] spDraw := ok_draw FD T.g_int
  have GP : FnOk P w K mg base CX0 3 (ga K "_law_part") fdP ["_law_well_here", "_law_words"] (spPart K) := ok_part FP T FO FD
  refine F.ok scPs (fun vs H Q E h => ?_) (fun cdv A outer s H vs Q E hr h => ?_)
  · obtain ⟨_, rfl, _⟩ := h
    rfl
  have big : 1000 < sizeLine := by decide
  have r2 : Room 2 (cxOf CX0 P w K mg base nPs "_law_parts" (defScope sPs) f cdv A outer s H E).A := hr.mono (by decide)
  have r1 : Room 1 (cxOf CX0 P w K mg base nPs "_law_parts" (defScope sPs) f cdv A outer s H E).A := hr.mono (by decide)
  refine ⟨_, PSs.nox (pss_cons (ps_set (i := 1) scPs.nd rfl (Or.inr rfl) pe_str)
    (pss_cons (ps_set (i := 2) scPs.nd rfl (Or.inl rfl) (pe_join pe_str (pe_lc (own := [("_law_turn", 10)]) (g := gName 10) (tt := tYes) rfl scPs.nd (pi_range1 (by rfl) T.g_range (pa_cons (pe_op op_add pe_int (pe_call GD (hr.mono (by decide)) (by rfl) T.m_l_draw FD.kp (bDraw FD) .nil pass0 (pa_cons (pv 0) (pa_cons pe_int pa_nil)))) pa_nil)) (blkOk_by (N := nPs) (sc := defScope sPs) (by decide +kernel))
        (fun _ _ _ _ _ => pg_name (i := 10) scPs.nd rfl (Or.inl rfl)) (fun _ _ _ _ _ => pts_nil) (fun _ _ _ _ _ => pe_call GO (hr.mono (by decide)) (by rfl) T.m_l_one FO.kp (bOne FO) .nil pass0 (pa_cons (pv 0) (pa_cons (pe_callTy (call_list_tx rfl) (by rfl) T.g_list boot_list (pa_cons (pv 1) pa_nil)) pa_nil))))))
    (pss_cons (ps_set (i := 3) scPs.nd rfl (Or.inl rfl) (pe_lst (pa_cons pe_str (pa_cons pe_str (pa_cons pe_str pa_nil)))))
    (pss_cons (ps_set (i := 4) scPs.nd rfl (Or.inl rfl) (pe_call GP hr (by rfl) T.m_l_part FP.kp (bPart FP) .nil pass0 (pa_cons (pv 0) (pa_cons (pe_op op_catR (pv 3) (pe_op op_rep (pe_lst (pa_cons (pv 2) pa_nil)) (pe_callTy call_int1 (by rfl) T.g_int boot_int (pa_cons (pe_cmpR op_notIn_seq (pv 2) (pv 3) (by rfl)) pa_nil)))) pa_nil))))
    (pss_cons (ps_set (i := 5) scPs.nd rfl (Or.inl rfl) (pe_lst (pa_cons (pv 2) (pa_cons (pv 4) (pa_cons (pe_cmpR op_eq (pe_call GD (hr.mono (by decide)) (by rfl) T.m_l_draw FD.kp (bDraw FD) .nil pass0 (pa_cons (pv 0) (pa_cons pe_int pa_nil))) pe_int (nomark _))
        (pa_cons (pe_call GP hr (by rfl) T.m_l_part FP.kp (bPart FP) .nil pass0 (pa_cons (pv 0) (pa_cons (pe_lst (pa_cons pe_str (pa_cons pe_str (pa_cons pe_str (pa_cons pe_str pa_nil))))) pa_nil))) pa_nil))))))
    (pss_cons (ps_expr (pe_bm PySem.F.plainAttrs_list PySem.F.slot_list_append PySem.F.type_list_append mt_append (pv 5) (pa_cons (pe_call GP hr (by rfl) T.m_l_part FP.kp (bPart FP) .nil pass0 (pa_cons (pv 0) (pa_cons (pe_lst (pa_cons pe_str (pa_cons pe_str pa_nil))) pa_nil))) pa_nil)))
    (pss_cons (ps_set (i := 6) scPs.nd rfl (Or.inl rfl) (pe_lst (pa_cons (pe_lst (pa_cons pe_str (pa_cons pe_str (pa_cons pe_str (pa_cons pe_str (pa_cons pe_non (pa_cons pe_int (pa_cons (pe_lst (pa_cons pe_str pa_nil)) pa_nil))))))))
        (pa_cons (pe_lst (pa_cons (pe_lst (pa_cons pe_str (pa_cons pe_str pa_nil))) (pa_cons pe_str (pa_cons (pe_tup (pa_cons pe_str pa_nil)) (pa_cons pe_non (pa_cons pe_dnewK (pa_cons (pe_lst (pa_cons (pe_lst pa_nil) pa_nil)) (pa_cons (pe_tup (pa_cons pe_int pa_nil)) pa_nil)))))))) pa_nil))))
    (pss_cons (ps_expr (pe_bm PySem.F.plainAttrs_list PySem.F.slot_list_append PySem.F.type_list_append mt_append (pv 6) (pa_cons (pe_lst (pa_cons pe_int (pa_cons pe_int (pa_cons pe_non (pa_cons pe_str (pa_cons pe_str (pa_cons (pe_lst pa_nil) pa_nil))))))) pa_nil)))
    (pss_cons (ps_expr (pe_bm PySem.F.plainAttrs_list PySem.F.slot_list_append PySem.F.type_list_append mt_append (pv 6) (pa_cons (pe_lst (pa_cons (pe_lst (pa_cons pe_str (pa_cons pe_str pa_nil))) (pa_cons (pe_tup (pa_cons pe_str (pa_cons pe_str pa_nil))) (pa_cons pe_str (pa_cons (pe_lst (pa_cons pe_str pa_nil)) (pa_cons pe_non (pa_cons pe_dnewK
        (pa_cons (pe_lst (pa_cons (pe_tup (pa_cons pe_str pa_nil)) pa_nil)) (pa_cons (pe_tup (pa_cons pe_str pa_nil)) (pa_cons (pe_lst (pa_cons (pe_lst pa_nil) pa_nil)) pa_nil)))))))))) pa_nil)))
    (pss_cons (ps_expr (pe_bm PySem.F.plainAttrs_list PySem.F.slot_list_append PySem.F.type_list_append mt_append (pv 6) (pa_cons (pe_lst (pa_cons (pe_tup (pa_cons pe_str (pa_cons pe_str pa_nil))) (pa_cons (pe_lst (pa_cons pe_str (pa_cons pe_str pa_nil))) (pa_cons pe_str (pa_cons (pe_tup (pa_cons pe_str pa_nil)) (pa_cons pe_non (pa_cons (pe_lst (pa_cons pe_non pa_nil))
        (pa_cons (pe_disp (pps_cons pe_str pe_int pps_nil) (by rfl) (by rfl) (fun z => by cases z) (by decide)) pa_nil)))))))) pa_nil)))
    (pss_cons (ps_par (i := 7) (j := 8) (by rfl) scPs.nd rfl rfl (by decide) rfl rfl (pa_cons (pe_lst (pa_cons pe_str (pa_cons pe_str (pa_cons pe_str (pa_cons pe_str (pa_cons pe_str pa_nil)))))) (pa_cons pe_non pa_nil)) (by rfl))
    (pss_cons (ps_for PassesOwn.never rfl (pi_range1 (by rfl) T.g_range (pa_cons pe_int pa_nil)) (pg_name (i := 9) scPs.nd rfl (Or.inl rfl))
      (pss_one (ps_if (pt_cmpR op_eq (pe_call GD (hr.mono (by decide)) (by rfl) T.m_l_draw FD.kp (bDraw FD) .nil pass0 (pa_cons (pv 0) (pa_cons pe_int pa_nil))) pe_int (nomark _))
        (pss_cons (ps_asg (pe_call GO (hr.mono (by decide)) (by rfl) T.m_l_one FO.kp (bOne FO) .nil pass0 (pa_cons (pv 0) (pa_cons (pe_ix ix_list (pv 6) (pv 9) (fun _ _ => rfl)) pa_nil))) (pg_sub (pv 5) (pv 9) set_list))
        (pss_one (ps_set (i := 8) scPs.nd rfl (Or.inl rfl) (pe_ifExp (pt_cmpR op_isN (pv 8) pe_non (nomark _)) (pe_ix ix_list (pv 7) (pv 9) (fun _ _ => rfl)) (pv 8))))) pss_nil)))
    (pss_one (ps_ret (pe_tup (pa_cons (pv 5) (pa_cons (pv 8) pa_nil))))))))))))))))), ?_⟩
  obtain ⟨a, rfl, wl, k⟩ := h
  -- the title
  refine ⟨⟨_, rfl⟩, _, rfl, a, 12, rfl, wl, by decide, by decide, fun H1 d d0 d1 w1 b1 => ?_⟩
  refine ⟨_, _, rfl, rfl, 1 + d, rfl, by omega, by omega, fun D nD => ?_⟩
  have Da : D ≠ a := w1.new nD
  have off : ∀ {G : Hp} {o : HO}, But a H1 G → But a H1 (upd G D o) := fun b c u n e => by
    rw [upd_ne (ne_of_none e nD)]
    exact b c u n e
  refine lc_range (lo := 0) (n := (1 + d).toNat) (fun i G => Well G a ∧ But a H1 G ∧ ∃ cs : List Nat, cs.length = i ∧ (∀ c ∈ cs, c ∈ LET.cps.toList) ∧ G D = some (.lst ((cs.map sgn).map V.str))) ⟨w1.same (Same.new nD), But.of (Same.new nD), [], rfl, fun c hc => absurd hc (by simp), upd_same⟩ (fun i G lt p => ?_) (fun G p => ?_)
  · obtain ⟨wG, bG, cs, ln, al, hD⟩ := p
    refine ⟨rfl, _, rfl, _, rfl, LET, rfl, by decide, fun l nl => ?_⟩
    have S := Same.new (o := .lst ((sgns LET).map V.str)) nl
    refine ⟨a, l, _, rfl, wG.same S, wG.new nl, upd_same, by decide +kernel, by decide +kernel, fun G2 y hy w2 b2 => ?_⟩
    obtain ⟨c, hc, rfl⟩ := mem_sgns hy
    have hD2 := b2 _ _ Da (S _ _ hD)
    refine ⟨_, hD2, ?_, ?_, off ((bG.trans (But.of S)).trans b2), cs ++ [c], ?_, ?_, ?_⟩
    · rw [List.length_map, List.length_map]
      omega
    · obtain ⟨c, b, n, w2⟩ := w2
      exact ⟨c, b, n, by rw [upd_ne (Ne.symm Da)]; exact w2⟩
    · rw [List.length_append, ln]
      rfl
    · intro x hx
      rcases List.mem_append.mp hx with hx | hx
      · exact al x hx
      · rw [List.mem_singleton.mp hx]
        exact hc
    · rw [upd_same, List.map_append, List.map_append]
      rfl
  obtain ⟨wG, bG, cs, ln, al, hD⟩ := p
  refine ⟨_, D, cs.map sgn, rfl, rfl, .inl (SqL.of hD), ?_, ?_⟩
  · rw [len_sgns]
    show cs.length + (cs.map sgn).length * 0 ≤ 16777216
    omega
  have hz : nameB (Txt.join "" (cs.map sgn)) = true := name_of (tl_join_sgns cs) (by omega) (by omega) al
  generalize Txt.join "" (cs.map sgn) = z at hz ⊢
  have B0 : But a H G := b1.trans bG
  clear off Da nD hD al ln d0 d1 b1 w1 bG
  -- some words
  refine ⟨(show 3 ≤ sizeLine by decide), fun o no => ?_⟩
  have S1 := Same.new (o := .lst [.str "ann", .str "bo", .str "abcdefghijkl"]) no
  have ho : upd G o (.lst [.str "ann", .str "bo", .str "abcdefghijkl"]) o = some (.lst (oth.map V.str)) := upd_same
  have w1 := wG.same S1
  have B1 := B0.trans (But.of S1)
  generalize upd G o (.lst [.str "ann", .str "bo", .str "abcdefghijkl"]) = G1 at S1 ho w1 B1 ⊢
  refine ⟨_, rfl, _, rfl, _, rfl, (show 1 ≤ sizeLine by decide), fun q nq => ?_⟩
  have S2 := Same.new (o := .lst [.str z]) nq
  have hq : upd G1 q (.lst [.str z]) q = some (.lst [.str z]) := upd_same
  have ho2 := S2 _ _ ho
  have w2 := w1.same S2
  have B2 := B1.trans (But.of S2)
  generalize upd G1 q (.lst [.str z]) = G2 at S2 hq ho2 w2 B2 ⊢
  refine ⟨_, rfl, _, rfl, o, oth.map V.str, rfl, .inl (SqL.of ho2), rfl, flat_strs, ?_⟩
  rw [inV_strs]
  obtain ⟨m, hm, em⟩ : ∃ m : Int, (if (!oth.contains z) = true then (1 : Int) else 0) = m ∧ ((m = 0 ∧ oth.contains z = true) ∨ (m = 1 ∧ oth.contains z = false)) := by
    cases oth.contains z with
    | true => exact ⟨0, rfl, .inl ⟨rfl, rfl⟩⟩
    | false => exact ⟨1, rfl, .inr ⟨rfl, rfl⟩⟩
  refine .inr ⟨_, rfl, ?_⟩
  rw [show (if (if true = true then !oth.contains z else oth.contains z) = true then (1 : Int) else 0) = m from hm]
  have m0 : 0 ≤ m ∧ m ≤ 1 := by omega
  have ew : oth.map V.str ++ (List.replicate m.toNat [V.str z]).flatten = (wrs z).map V.str := by
    unfold wrs
    rcases em with ⟨rfl, e⟩ | ⟨rfl, e⟩
    · rw [if_pos e]
      rfl
    · rw [if_neg (by rw [e]; simp)]
      rfl
  refine ⟨q, m, _, rfl, rfl, hq, by omega, by omega, ?_, fun q2 nq2 => ?_⟩
  · show 1 * m.toNat ≤ sizeLine
    omega
  have S3 := Same.new (o := .lst (List.replicate m.toNat [V.str z]).flatten) nq2
  have hq2 : upd G2 q2 (.lst (List.replicate m.toNat [V.str z]).flatten) q2 = some (.lst (List.replicate m.toNat [V.str z]).flatten) := upd_same
  have ho3 := S3 _ _ ho2
  have w3 := w2.same S3
  have B3 := B2.trans (But.of S3)
  generalize upd G2 q2 (.lst (List.replicate m.toNat [V.str z]).flatten) = G3 at S3 hq2 ho3 w3 B3 ⊢
  refine ⟨o, q2, _, _, rfl, rfl, SqL.of ho3, SqL.of hq2, ?_, fun q3 nq3 => ?_⟩
  · have e := congrArg List.length ew
    rw [List.length_append, List.length_map (as := wrs z)] at e
    have := wrs_len z
    omega
  rw [ew]
  have S4 := Same.new (o := .lst ((wrs z).map V.str)) nq3
  have hq3 : upd G3 q3 (.lst ((wrs z).map V.str)) q3 = some (.lst ((wrs z).map V.str)) := upd_same
  have w4 := w3.same S4
  have B4 := B3.trans (But.of S4)
  have ne4 := w3.new nq3
  generalize upd G3 q3 (.lst ((wrs z).map V.str)) = G4 at S4 hq3 w4 B4 ⊢
  refine ⟨a, q3, wrs z, rfl, w4, ne4, hq3, by have := wrs_len z; omega, fun G5 t1 c1 s1 at1 w5 b5 => ?_⟩
  have B5 := B4.trans b5
  have at1 : LoT K H G5 t1 (c1.map V.str) := at1.imp (fun h => ⟨B4.none h.1 (w4.new h.1), h.2⟩) id
  clear S1 S2 S3 S4 hq hq2 hq3 ho ho2 ho3 w1 w2 w3 w4 B0 B1 B2 B3 B4 b5 ew em m0 hm ne4
  -- the list of five
  refine ⟨_, rfl, _, rfl, _, rfl, a, 2, rfl, w5, by decide, by decide, fun G6 d2 _ _ w6 b6 => ⟨rfl, ?_⟩⟩
  refine ⟨_, rfl, (show 4 ≤ sizeLine by decide), fun l4 nl4 => ?_⟩
  have S7 := Same.new (o := .lst [.str "right", .str "mild", .str "kept", .str "once"]) nl4
  have B6 := (B5.trans b6).trans (But.of S7)
  have at1 : LX K [a] H G5 t1 (c1.map V.str) := LX.of at1 fun p hp => by
    obtain ⟨o, h⟩ := wl.ls
    exact ⟨_, .inl (List.mem_singleton.mp hp ▸ h)⟩
  have at1 := (at1.but (List.mem_singleton.mpr rfl) w5.ls b6).same S7
  refine ⟨a, l4, prW, rfl, w6.same S7, w6.new nl4, upd_same, by decide, fun G8 t3 c3 s3 at3 w8 b8 => ⟨(show 4 ≤ sizeLine by decide), fun g ng => ?_⟩⟩
  have at1 := at1.but (List.mem_singleton.mpr rfl) (w6.same S7).ls b8
  have at3 : LoT K H G8 t3 (c3.map V.str) := at3.imp (fun h => ⟨B6.none h.1 ((w6.same S7).new h.1), h.2⟩) id
  have at3 : LX K [a] H G8 t3 (c3.map V.str) := LX.of at3 fun p hp => by
    obtain ⟨o, h⟩ := wl.ls
    exact ⟨_, .inl (List.mem_singleton.mp hp ▸ h)⟩
  have B8 := B6.trans b8
  have ga := w8.new ng
  have Hg := B8.none ng ga
  generalize decide (V.int d2 = V.int 0) = bf
  have S9 := Same.new (o := .lst [.str z, .ref t1, .bl bf, .ref t3]) ng
  have hg : upd G8 g (.lst [.str z, .ref t1, .bl bf, .ref t3]) g = some (.lst [.str z, .ref t1, .bl bf, .ref t3]) := upd_same
  have at1 := (at1.new ng).same S9
  have at3 := (at3.new ng).same S9
  have w9 := w8.same S9
  have B9 := B8.trans (But.of S9)
  generalize upd G8 g (.lst [.str z, .ref t1, .bl bf, .ref t3]) = G9 at S9 hg at1 at3 w9 B9 ⊢
  clear S7 b6 b8 B5 B6 B8 w5 w6 w8
  -- the fifth
  refine ⟨_, rfl, .inl ⟨rfl, _, SqL.of hg⟩, _, rfl, (show 2 ≤ sizeLine by decide), fun l5 nl5 => ?_⟩
  have S10 := Same.new (o := .lst [.str "done", .str "drained"]) nl5
  refine ⟨a, l5, waW, rfl, w9.same S10, w9.new nl5, upd_same, by decide, fun G11 t4 c4 s4 at4 w11 b11 => ?_⟩
  have hg11 := b11 _ _ ga (S10 _ _ hg)
  have ma : a ∈ [g, a] := by simp
  have mg' : g ∈ [g, a] := by simp
  have at1 := ((at1.same S10).but ma (w9.same S10).ls b11)
  have at3 := ((at3.same S10).but ma (w9.same S10).ls b11)
  have B11 := (B9.trans (But.of S10)).trans b11
  have at4 : LX K [g, a] H G11 t4 (c4.map V.str) := at4.imp (fun h => ⟨(B9.trans (But.of S10)).none h.1 ((w9.same S10).new h.1), fun m => by
    rcases List.mem_cons.mp m with e | m
    · have := S10 _ _ hg
      rw [← e, h.1] at this
      cases this
    · exact (w9.same S10).new h.1 (List.mem_singleton.mp m), h.2⟩) id
  refine ⟨g, _, _, rfl, rfl, hg11, (show 4 < sizeLine by decide), ?_⟩
  have at1 := at1.but mg' ⟨_, hg11⟩ (But.upd (o := .lst ([.str z, .ref t1, .bl bf, .ref t3] ++ [.ref t4])))
  have at3 := at3.but mg' ⟨_, hg11⟩ (But.upd (o := .lst ([.str z, .ref t1, .bl bf, .ref t3] ++ [.ref t4])))
  have at4 := at4.but mg' ⟨_, hg11⟩ (But.upd (o := .lst ([.str z, .ref t1, .bl bf, .ref t3] ++ [.ref t4])))
  have w12 : Well (upd G11 g (.lst ([.str z, .ref t1, .bl bf, .ref t3] ++ [.ref t4]))) a := by
    obtain ⟨c, b, n, h⟩ := w11
    exact ⟨c, b, n, (upd_ne (Ne.symm ga)).trans h⟩
  have B12 : But a H (upd G11 g (.lst ([.str z, .ref t1, .bl bf, .ref t3] ++ [.ref t4]))) := fun b o n e => (upd_ne (ne_of_none e Hg)).trans (B11 b o n e)
  have hg : upd G11 g (.lst ([.str z, .ref t1, .bl bf, .ref t3] ++ [.ref t4])) g = some (.lst [.str z, .ref t1, .bl bf, .ref t3, .ref t4]) := upd_same
  generalize upd G11 g (.lst ([.str z, .ref t1, .bl bf, .ref t3] ++ [.ref t4])) = G12 at at1 at3 at4 w12 B12 hg ⊢
  clear S9 S10 hg11 w9 w11 B9 B11 b11
  have ok5 := nice hz s1 s3 s4
  -- odd names and writers
  have S := Same.refl G12
  refine ⟨(show 1 ≤ sizeLine by decide), fun p1 n_p1 => ?_⟩
  have T_ := Same.new (o := .lst [.str "a"]) n_p1
  have h_p1 : upd G12 p1 (.lst [.str "a"]) p1 = some (.lst [.str "a"]) := upd_same
  generalize upd G12 p1 (.lst [.str "a"]) = K_p1 at T_ h_p1 ⊢
  have S := S.trans T_
  clear T_ n_p1
  refine ⟨(show 7 ≤ sizeLine by decide), fun l0 n_l0 => ?_⟩
  have na_l0 := (w12.same S).new n_l0
  have ng_l0 := (ne_of_none (S _ _ hg) n_l0).symm
  have T_ := Same.new (o := .lst [.str "", .str "A", .str "a1", .str "abcdefghijklm", .non, .int 7, .ref p1]) n_l0
  have h_l0 : upd K_p1 l0 (.lst [.str "", .str "A", .str "a1", .str "abcdefghijklm", .non, .int 7, .ref p1]) l0 = some (.lst [.str "", .str "A", .str "a1", .str "abcdefghijklm", .non, .int 7, .ref p1]) := upd_same
  generalize upd K_p1 l0 (.lst [.str "", .str "A", .str "a1", .str "abcdefghijklm", .non, .int 7, .ref p1]) = K_l0 at T_ h_l0 ⊢
  have h_p1 := T_ _ _ h_p1
  have S := S.trans T_
  clear T_ n_l0
  refine ⟨(show 2 ≤ sizeLine by decide), fun q1 n_q1 => ?_⟩
  have T_ := Same.new (o := .lst [.str "ann", .str "ann"]) n_q1
  have h_q1 : upd K_l0 q1 (.lst [.str "ann", .str "ann"]) q1 = some (.lst [.str "ann", .str "ann"]) := upd_same
  generalize upd K_l0 q1 (.lst [.str "ann", .str "ann"]) = K_q1 at T_ h_q1 ⊢
  have h_p1 := T_ _ _ h_p1
  have h_l0 := T_ _ _ h_l0
  have S := S.trans T_
  clear T_ n_q1
  refine ⟨(show 1 ≤ sizeLine by decide), fun q2 n_q2 => ?_⟩
  have T_ := Same.new (o := .tup [.str "A"]) n_q2
  have h_q2 : upd K_q1 q2 (.tup [.str "A"]) q2 = some (.tup [.str "A"]) := upd_same
  generalize upd K_q1 q2 (.tup [.str "A"]) = K_q2 at T_ h_q2 ⊢
  have h_p1 := T_ _ _ h_p1
  have h_l0 := T_ _ _ h_l0
  have h_q1 := T_ _ _ h_q1
  have S := S.trans T_
  clear T_ n_q2
  refine fun q3 n_q3 => ?_
  have T_ := Same.new (o := .dK []) n_q3
  have h_q3 : upd K_q2 q3 (.dK []) q3 = some (.dK []) := upd_same
  generalize upd K_q2 q3 (.dK []) = K_q3 at T_ h_q3 ⊢
  have h_p1 := T_ _ _ h_p1
  have h_l0 := T_ _ _ h_l0
  have h_q1 := T_ _ _ h_q1
  have h_q2 := T_ _ _ h_q2
  have S := S.trans T_
  clear T_ n_q3
  refine ⟨(show 0 ≤ sizeLine by decide), fun q4 n_q4 => ?_⟩
  have T_ := Same.new (o := .lst []) n_q4
  have h_q4 : upd K_q3 q4 (.lst []) q4 = some (.lst []) := upd_same
  generalize upd K_q3 q4 (.lst []) = K_q4 at T_ h_q4 ⊢
  have h_p1 := T_ _ _ h_p1
  have h_l0 := T_ _ _ h_l0
  have h_q1 := T_ _ _ h_q1
  have h_q2 := T_ _ _ h_q2
  have h_q3 := T_ _ _ h_q3
  have S := S.trans T_
  clear T_ n_q4
  refine ⟨(show 1 ≤ sizeLine by decide), fun q5 n_q5 => ?_⟩
  have T_ := Same.new (o := .lst [.ref q4]) n_q5
  have h_q5 : upd K_q4 q5 (.lst [.ref q4]) q5 = some (.lst [.ref q4]) := upd_same
  generalize upd K_q4 q5 (.lst [.ref q4]) = K_q5 at T_ h_q5 ⊢
  have h_p1 := T_ _ _ h_p1
  have h_l0 := T_ _ _ h_l0
  have h_q1 := T_ _ _ h_q1
  have h_q2 := T_ _ _ h_q2
  have h_q3 := T_ _ _ h_q3
  have h_q4 := T_ _ _ h_q4
  have S := S.trans T_
  clear T_ n_q5
  refine ⟨(show 1 ≤ sizeLine by decide), fun q6 n_q6 => ?_⟩
  have T_ := Same.new (o := .tup [.int 1]) n_q6
  have h_q6 : upd K_q5 q6 (.tup [.int 1]) q6 = some (.tup [.int 1]) := upd_same
  generalize upd K_q5 q6 (.tup [.int 1]) = K_q6 at T_ h_q6 ⊢
  have h_p1 := T_ _ _ h_p1
  have h_l0 := T_ _ _ h_l0
  have h_q1 := T_ _ _ h_q1
  have h_q2 := T_ _ _ h_q2
  have h_q3 := T_ _ _ h_q3
  have h_q4 := T_ _ _ h_q4
  have h_q5 := T_ _ _ h_q5
  have S := S.trans T_
  clear T_ n_q6
  refine ⟨(show 7 ≤ sizeLine by decide), fun l1 n_l1 => ?_⟩
  have na_l1 := (w12.same S).new n_l1
  have ng_l1 := (ne_of_none (S _ _ hg) n_l1).symm
  have T_ := Same.new (o := .lst [.ref q1, .str "ann", .ref q2, .non, .ref q3, .ref q5, .ref q6]) n_l1
  have h_l1 : upd K_q6 l1 (.lst [.ref q1, .str "ann", .ref q2, .non, .ref q3, .ref q5, .ref q6]) l1 = some (.lst [.ref q1, .str "ann", .ref q2, .non, .ref q3, .ref q5, .ref q6]) := upd_same
  generalize upd K_q6 l1 (.lst [.ref q1, .str "ann", .ref q2, .non, .ref q3, .ref q5, .ref q6]) = K_l1 at T_ h_l1 ⊢
  have h_p1 := T_ _ _ h_p1
  have h_l0 := T_ _ _ h_l0
  have h_q1 := T_ _ _ h_q1
  have h_q2 := T_ _ _ h_q2
  have h_q3 := T_ _ _ h_q3
  have h_q4 := T_ _ _ h_q4
  have h_q5 := T_ _ _ h_q5
  have h_q6 := T_ _ _ h_q6
  have S := S.trans T_
  clear T_ n_l1
  have w12 := w12.same S
  have hg := S _ _ hg
  have at1 := at1.same S
  have at3 := at3.same S
  have at4 := at4.same S
  have B12 := B12.trans (But.of S)
  clear S
  refine ⟨(show 2 ≤ sizeLine by decide), fun od nod => ?_⟩
  have at1 := at1.new nod
  have at3 := at3.new nod
  have at4 := at4.new nod
  have nd_l0 := ne_of_none h_l0 nod
  have nd_l1 := ne_of_none h_l1 nod
  have Hd := B12.none nod (w12.new nod)
  have da := w12.new nod
  have dg := (ne_of_none hg nod).symm
  have S := Same.new (o := .lst [.ref l0, .ref l1]) nod
  have hd : upd K_l1 od (.lst [.ref l0, .ref l1]) od = some (.lst [.ref l0, .ref l1]) := upd_same
  generalize upd K_l1 od (.lst [.ref l0, .ref l1]) = K1 at S hd ⊢
  have h_p1 := S _ _ h_p1
  have h_l0 := S _ _ h_l0
  have h_q1 := S _ _ h_q1
  have h_q2 := S _ _ h_q2
  have h_q3 := S _ _ h_q3
  have h_q4 := S _ _ h_q4
  have h_q5 := S _ _ h_q5
  have h_q6 := S _ _ h_q6
  have h_l1 := S _ _ h_l1
  have w12 := w12.same S
  have hg := S _ _ hg
  have at1 := at1.same S
  have at3 := at3.same S
  have at4 := at4.same S
  have B12 := B12.trans (But.of S)
  clear S nod
  have X : Exm K1 a g od := ⟨w12, ⟨_, hg, (show 3 < 5 by decide)⟩, l0, l1, [], hd⟩
  have o0 : OL K a g od K1 0 l0 _ := ⟨na_l0, ng_l0, nd_l0, h_l0, kd0 X h_p1⟩
  have o1 : OL K a g od K1 1 l1 _ := ⟨na_l1, ng_l1, nd_l1, h_l1, kd1 X h_q1 h_q2 h_q3 h_q4 h_q5 h_q6⟩
  clear X h_p1 h_l0 h_q1 h_q2 h_q3 h_q4 h_q5 h_q6 h_l1 na_l0 ng_l0 nd_l0 na_l1 ng_l1 nd_l1
  have md : od ∈ [od, g, a] := by simp
  -- odd flags
  refine ⟨_, rfl, .inl ⟨rfl, _, SqL.of hd⟩, ?_⟩
  have S := Same.refl K1
  refine ⟨(show 0 ≤ sizeLine by decide), fun f1 n_f1 => ?_⟩
  have T_ := Same.new (o := .lst []) n_f1
  have h_f1 : upd K1 f1 (.lst []) f1 = some (.lst []) := upd_same
  generalize upd K1 f1 (.lst []) = K_f1 at T_ h_f1 ⊢
  have S := S.trans T_
  clear T_ n_f1
  refine ⟨(show 6 ≤ sizeLine by decide), fun l2 n_l2 => ?_⟩
  have na_l2 := (w12.same S).new n_l2
  have nd_l2 := (ne_of_none (S _ _ hd) n_l2).symm
  have ng_l2 := (ne_of_none (S _ _ hg) n_l2).symm
  have T_ := Same.new (o := .lst [.int 0, .int 1, .non, .str "", .str "False", .ref f1]) n_l2
  have h_l2 : upd K_f1 l2 (.lst [.int 0, .int 1, .non, .str "", .str "False", .ref f1]) l2 = some (.lst [.int 0, .int 1, .non, .str "", .str "False", .ref f1]) := upd_same
  generalize upd K_f1 l2 (.lst [.int 0, .int 1, .non, .str "", .str "False", .ref f1]) = K_l2 at T_ h_l2 ⊢
  have h_f1 := T_ _ _ h_f1
  have S := S.trans T_
  clear T_ n_l2
  have w12 := w12.same S
  have hg := S _ _ hg
  have hd := S _ _ hd
  have at1 := at1.same S
  have at3 := at3.same S
  have at4 := at4.same S
  have B12 := B12.trans (But.of S)
  have o0 := o0.kp (Kp.same S)
  have o1 := o1.kp (Kp.same S)
  have X : Exm K_l2 a g od := ⟨w12, ⟨_, hg, (show 3 < 5 by decide)⟩, l0, l1, [], hd⟩
  have o2 : OL K a g od K_l2 2 l2 _ := ⟨na_l2, ng_l2, nd_l2, h_l2, kd2 X h_f1⟩
  clear X S h_f1 h_l2 na_l2 ng_l2 nd_l2
  refine ⟨od, _, _, rfl, rfl, hd, (show 2 < sizeLine by decide), ?_⟩
  have U : But od K_l2 (upd K_l2 od (.lst ([.ref l0, .ref l1] ++ [.ref l2]))) := But.upd
  have at1 := at1.but md ⟨_, hd⟩ U
  have at3 := at3.but md ⟨_, hd⟩ U
  have at4 := at4.but md ⟨_, hd⟩ U
  have o0 := o0.kp (Kp.dut U)
  have o1 := o1.kp (Kp.dut U)
  have o2 := o2.kp (Kp.dut U)
  have w12 : Well (upd K_l2 od (.lst ([.ref l0, .ref l1] ++ [.ref l2]))) a := by
    obtain ⟨c, b, n, h⟩ := w12
    exact ⟨c, b, n, (upd_ne (Ne.symm da)).trans h⟩
  have hg := (upd_ne (H := K_l2) (o := .lst ([.ref l0, .ref l1] ++ [.ref l2])) (Ne.symm dg)).trans hg
  have B12 : But a H (upd K_l2 od (.lst ([.ref l0, .ref l1] ++ [.ref l2]))) := fun b o n e => (upd_ne (ne_of_none e Hd)).trans (B12 b o n e)
  have hd : upd K_l2 od (.lst ([.ref l0, .ref l1] ++ [.ref l2])) od = some (.lst [.ref l0, .ref l1, .ref l2]) := upd_same
  clear U
  generalize upd K_l2 od (.lst ([.ref l0, .ref l1] ++ [.ref l2])) = K2 at hd hg B12 w12 at1 at3 at4 o0 o1 o2 ⊢
  -- odd promises
  refine ⟨_, rfl, .inl ⟨rfl, _, SqL.of hd⟩, ?_⟩
  have S := Same.refl K2
  refine ⟨(show 2 ≤ sizeLine by decide), fun e1 n_e1 => ?_⟩
  have T_ := Same.new (o := .lst [.str "mild", .str "right"]) n_e1
  have h_e1 : upd K2 e1 (.lst [.str "mild", .str "right"]) e1 = some (.lst [.str "mild", .str "right"]) := upd_same
  generalize upd K2 e1 (.lst [.str "mild", .str "right"]) = K_e1 at T_ h_e1 ⊢
  have S := S.trans T_
  clear T_ n_e1
  refine ⟨(show 2 ≤ sizeLine by decide), fun e2 n_e2 => ?_⟩
  have T_ := Same.new (o := .tup [.str "right", .str "right"]) n_e2
  have h_e2 : upd K_e1 e2 (.tup [.str "right", .str "right"]) e2 = some (.tup [.str "right", .str "right"]) := upd_same
  generalize upd K_e1 e2 (.tup [.str "right", .str "right"]) = K_e2 at T_ h_e2 ⊢
  have h_e1 := T_ _ _ h_e1
  have S := S.trans T_
  clear T_ n_e2
  refine ⟨(show 1 ≤ sizeLine by decide), fun e3 n_e3 => ?_⟩
  have T_ := Same.new (o := .lst [.str "Right"]) n_e3
  have h_e3 : upd K_e2 e3 (.lst [.str "Right"]) e3 = some (.lst [.str "Right"]) := upd_same
  generalize upd K_e2 e3 (.lst [.str "Right"]) = K_e3 at T_ h_e3 ⊢
  have h_e1 := T_ _ _ h_e1
  have h_e2 := T_ _ _ h_e2
  have S := S.trans T_
  clear T_ n_e3
  refine fun e4 n_e4 => ?_
  have T_ := Same.new (o := .dK []) n_e4
  have h_e4 : upd K_e3 e4 (.dK []) e4 = some (.dK []) := upd_same
  generalize upd K_e3 e4 (.dK []) = K_e4 at T_ h_e4 ⊢
  have h_e1 := T_ _ _ h_e1
  have h_e2 := T_ _ _ h_e2
  have h_e3 := T_ _ _ h_e3
  have S := S.trans T_
  clear T_ n_e4
  refine ⟨(show 1 ≤ sizeLine by decide), fun e5 n_e5 => ?_⟩
  have T_ := Same.new (o := .tup [.str "right"]) n_e5
  have h_e5 : upd K_e4 e5 (.tup [.str "right"]) e5 = some (.tup [.str "right"]) := upd_same
  generalize upd K_e4 e5 (.tup [.str "right"]) = K_e5 at T_ h_e5 ⊢
  have h_e1 := T_ _ _ h_e1
  have h_e2 := T_ _ _ h_e2
  have h_e3 := T_ _ _ h_e3
  have h_e4 := T_ _ _ h_e4
  have S := S.trans T_
  clear T_ n_e5
  refine ⟨(show 1 ≤ sizeLine by decide), fun e6 n_e6 => ?_⟩
  have T_ := Same.new (o := .lst [.ref e5]) n_e6
  have h_e6 : upd K_e5 e6 (.lst [.ref e5]) e6 = some (.lst [.ref e5]) := upd_same
  generalize upd K_e5 e6 (.lst [.ref e5]) = K_e6 at T_ h_e6 ⊢
  have h_e1 := T_ _ _ h_e1
  have h_e2 := T_ _ _ h_e2
  have h_e3 := T_ _ _ h_e3
  have h_e4 := T_ _ _ h_e4
  have h_e5 := T_ _ _ h_e5
  have S := S.trans T_
  clear T_ n_e6
  refine ⟨(show 1 ≤ sizeLine by decide), fun e7 n_e7 => ?_⟩
  have T_ := Same.new (o := .tup [.str "done"]) n_e7
  have h_e7 : upd K_e6 e7 (.tup [.str "done"]) e7 = some (.tup [.str "done"]) := upd_same
  generalize upd K_e6 e7 (.tup [.str "done"]) = K_e7 at T_ h_e7 ⊢
  have h_e1 := T_ _ _ h_e1
  have h_e2 := T_ _ _ h_e2
  have h_e3 := T_ _ _ h_e3
  have h_e4 := T_ _ _ h_e4
  have h_e5 := T_ _ _ h_e5
  have h_e6 := T_ _ _ h_e6
  have S := S.trans T_
  clear T_ n_e7
  refine ⟨(show 0 ≤ sizeLine by decide), fun e8 n_e8 => ?_⟩
  have T_ := Same.new (o := .lst []) n_e8
  have h_e8 : upd K_e7 e8 (.lst []) e8 = some (.lst []) := upd_same
  generalize upd K_e7 e8 (.lst []) = K_e8 at T_ h_e8 ⊢
  have h_e1 := T_ _ _ h_e1
  have h_e2 := T_ _ _ h_e2
  have h_e3 := T_ _ _ h_e3
  have h_e4 := T_ _ _ h_e4
  have h_e5 := T_ _ _ h_e5
  have h_e6 := T_ _ _ h_e6
  have h_e7 := T_ _ _ h_e7
  have S := S.trans T_
  clear T_ n_e8
  refine ⟨(show 1 ≤ sizeLine by decide), fun e9 n_e9 => ?_⟩
  have T_ := Same.new (o := .lst [.ref e8]) n_e9
  have h_e9 : upd K_e8 e9 (.lst [.ref e8]) e9 = some (.lst [.ref e8]) := upd_same
  generalize upd K_e8 e9 (.lst [.ref e8]) = K_e9 at T_ h_e9 ⊢
  have h_e1 := T_ _ _ h_e1
  have h_e2 := T_ _ _ h_e2
  have h_e3 := T_ _ _ h_e3
  have h_e4 := T_ _ _ h_e4
  have h_e5 := T_ _ _ h_e5
  have h_e6 := T_ _ _ h_e6
  have h_e7 := T_ _ _ h_e7
  have h_e8 := T_ _ _ h_e8
  have S := S.trans T_
  clear T_ n_e9
  refine ⟨(show 9 ≤ sizeLine by decide), fun l3 n_l3 => ?_⟩
  have na_l3 := (w12.same S).new n_l3
  have nd_l3 := (ne_of_none (S _ _ hd) n_l3).symm
  have ng_l3 := (ne_of_none (S _ _ hg) n_l3).symm
  have T_ := Same.new (o := .lst [.ref e1, .ref e2, .str "right", .ref e3, .non, .ref e4, .ref e6, .ref e7, .ref e9]) n_l3
  have h_l3 : upd K_e9 l3 (.lst [.ref e1, .ref e2, .str "right", .ref e3, .non, .ref e4, .ref e6, .ref e7, .ref e9]) l3 = some (.lst [.ref e1, .ref e2, .str "right", .ref e3, .non, .ref e4, .ref e6, .ref e7, .ref e9]) := upd_same
  generalize upd K_e9 l3 (.lst [.ref e1, .ref e2, .str "right", .ref e3, .non, .ref e4, .ref e6, .ref e7, .ref e9]) = K_l3 at T_ h_l3 ⊢
  have h_e1 := T_ _ _ h_e1
  have h_e2 := T_ _ _ h_e2
  have h_e3 := T_ _ _ h_e3
  have h_e4 := T_ _ _ h_e4
  have h_e5 := T_ _ _ h_e5
  have h_e6 := T_ _ _ h_e6
  have h_e7 := T_ _ _ h_e7
  have h_e8 := T_ _ _ h_e8
  have h_e9 := T_ _ _ h_e9
  have S := S.trans T_
  clear T_ n_l3
  have w12 := w12.same S
  have hg := S _ _ hg
  have hd := S _ _ hd
  have at1 := at1.same S
  have at3 := at3.same S
  have at4 := at4.same S
  have B12 := B12.trans (But.of S)
  have o0 := o0.kp (Kp.same S)
  have o1 := o1.kp (Kp.same S)
  have o2 := o2.kp (Kp.same S)
  have X : Exm K_l3 a g od := ⟨w12, ⟨_, hg, (show 3 < 5 by decide)⟩, l0, l1, [.ref l2], hd⟩
  have o3 : OL K a g od K_l3 3 l3 _ := ⟨na_l3, ng_l3, nd_l3, h_l3, kd3 X h_e1 h_e2 h_e3 h_e4 h_e5 h_e6 h_e7 h_e8 h_e9⟩
  clear X S h_e1 h_e2 h_e3 h_e4 h_e5 h_e6 h_e7 h_e8 h_e9 h_l3 na_l3 ng_l3 nd_l3
  refine ⟨od, _, _, rfl, rfl, hd, (show 3 < sizeLine by decide), ?_⟩
  have U : But od K_l3 (upd K_l3 od (.lst ([.ref l0, .ref l1, .ref l2] ++ [.ref l3]))) := But.upd
  have at1 := at1.but md ⟨_, hd⟩ U
  have at3 := at3.but md ⟨_, hd⟩ U
  have at4 := at4.but md ⟨_, hd⟩ U
  have o0 := o0.kp (Kp.dut U)
  have o1 := o1.kp (Kp.dut U)
  have o2 := o2.kp (Kp.dut U)
  have o3 := o3.kp (Kp.dut U)
  have w12 : Well (upd K_l3 od (.lst ([.ref l0, .ref l1, .ref l2] ++ [.ref l3]))) a := by
    obtain ⟨c, b, n, h⟩ := w12
    exact ⟨c, b, n, (upd_ne (Ne.symm da)).trans h⟩
  have hg := (upd_ne (H := K_l3) (o := .lst ([.ref l0, .ref l1, .ref l2] ++ [.ref l3])) (Ne.symm dg)).trans hg
  have B12 : But a H (upd K_l3 od (.lst ([.ref l0, .ref l1, .ref l2] ++ [.ref l3]))) := fun b o n e => (upd_ne (ne_of_none e Hd)).trans (B12 b o n e)
  have hd : upd K_l3 od (.lst ([.ref l0, .ref l1, .ref l2] ++ [.ref l3])) od = some (.lst [.ref l0, .ref l1, .ref l2, .ref l3]) := upd_same
  clear U
  generalize upd K_l3 od (.lst ([.ref l0, .ref l1, .ref l2] ++ [.ref l3])) = K3 at hd hg B12 w12 at1 at3 at4 o0 o1 o2 o3 ⊢
  -- odd waits
  refine ⟨_, rfl, .inl ⟨rfl, _, SqL.of hd⟩, ?_⟩
  have S := Same.refl K3
  refine ⟨(show 2 ≤ sizeLine by decide), fun i1 n_i1 => ?_⟩
  have T_ := Same.new (o := .tup [.str "drained", .str "done"]) n_i1
  have h_i1 : upd K3 i1 (.tup [.str "drained", .str "done"]) i1 = some (.tup [.str "drained", .str "done"]) := upd_same
  generalize upd K3 i1 (.tup [.str "drained", .str "done"]) = K_i1 at T_ h_i1 ⊢
  have S := S.trans T_
  clear T_ n_i1
  refine ⟨(show 2 ≤ sizeLine by decide), fun i2 n_i2 => ?_⟩
  have T_ := Same.new (o := .lst [.str "done", .str "done"]) n_i2
  have h_i2 : upd K_i1 i2 (.lst [.str "done", .str "done"]) i2 = some (.lst [.str "done", .str "done"]) := upd_same
  generalize upd K_i1 i2 (.lst [.str "done", .str "done"]) = K_i2 at T_ h_i2 ⊢
  have h_i1 := T_ _ _ h_i1
  have S := S.trans T_
  clear T_ n_i2
  refine ⟨(show 1 ≤ sizeLine by decide), fun i3 n_i3 => ?_⟩
  have T_ := Same.new (o := .tup [.str "right"]) n_i3
  have h_i3 : upd K_i2 i3 (.tup [.str "right"]) i3 = some (.tup [.str "right"]) := upd_same
  generalize upd K_i2 i3 (.tup [.str "right"]) = K_i3 at T_ h_i3 ⊢
  have h_i1 := T_ _ _ h_i1
  have h_i2 := T_ _ _ h_i2
  have S := S.trans T_
  clear T_ n_i3
  refine ⟨(show 1 ≤ sizeLine by decide), fun i4 n_i4 => ?_⟩
  have T_ := Same.new (o := .lst [.non]) n_i4
  have h_i4 : upd K_i3 i4 (.lst [.non]) i4 = some (.lst [.non]) := upd_same
  generalize upd K_i3 i4 (.lst [.non]) = K_i4 at T_ h_i4 ⊢
  have h_i1 := T_ _ _ h_i1
  have h_i2 := T_ _ _ h_i2
  have h_i3 := T_ _ _ h_i3
  have S := S.trans T_
  clear T_ n_i4
  refine fun i5 n_i5 => ⟨upd_same, [(.inr "done", .int 1)], rfl, by simp, ?_⟩
  have T_ : Same K_i4 (upd (upd K_i4 i5 (.dK [])) i5 (.dK (mergeK [] [(.inr "done", .int 1)]))) := fun b u h => by
    have ne := ne_of_none h n_i5
    rw [upd_ne ne, upd_ne ne]
    exact h
  have h_i5 : upd (upd K_i4 i5 (.dK [])) i5 (.dK (mergeK [] [(.inr "done", .int 1)])) i5 = some (.dK (mergeK [] [(.inr "done", .int 1)])) := upd_same
  generalize upd (upd K_i4 i5 (.dK [])) i5 (.dK (mergeK [] [(.inr "done", .int 1)])) = K_i5 at T_ h_i5 ⊢
  have h_i1 := T_ _ _ h_i1
  have h_i2 := T_ _ _ h_i2
  have h_i3 := T_ _ _ h_i3
  have h_i4 := T_ _ _ h_i4
  have S := S.trans T_
  clear T_ n_i5
  refine ⟨(show 7 ≤ sizeLine by decide), fun l4o n_l4o => ?_⟩
  have na_l4o := (w12.same S).new n_l4o
  have nd_l4o := (ne_of_none (S _ _ hd) n_l4o).symm
  have ng_l4o := (ne_of_none (S _ _ hg) n_l4o).symm
  have T_ := Same.new (o := .lst [.ref i1, .ref i2, .str "done", .ref i3, .non, .ref i4, .ref i5]) n_l4o
  have h_l4o : upd K_i5 l4o (.lst [.ref i1, .ref i2, .str "done", .ref i3, .non, .ref i4, .ref i5]) l4o = some (.lst [.ref i1, .ref i2, .str "done", .ref i3, .non, .ref i4, .ref i5]) := upd_same
  generalize upd K_i5 l4o (.lst [.ref i1, .ref i2, .str "done", .ref i3, .non, .ref i4, .ref i5]) = K_l4o at T_ h_l4o ⊢
  have h_i1 := T_ _ _ h_i1
  have h_i2 := T_ _ _ h_i2
  have h_i3 := T_ _ _ h_i3
  have h_i4 := T_ _ _ h_i4
  have h_i5 := T_ _ _ h_i5
  have S := S.trans T_
  clear T_ n_l4o
  have w12 := w12.same S
  have hg := S _ _ hg
  have hd := S _ _ hd
  have at1 := at1.same S
  have at3 := at3.same S
  have at4 := at4.same S
  have B12 := B12.trans (But.of S)
  have o0 := o0.kp (Kp.same S)
  have o1 := o1.kp (Kp.same S)
  have o2 := o2.kp (Kp.same S)
  have o3 := o3.kp (Kp.same S)
  have X : Exm K_l4o a g od := ⟨w12, ⟨_, hg, (show 3 < 5 by decide)⟩, l0, l1, [.ref l2, .ref l3], hd⟩
  have o4 : OL K a g od K_l4o 4 l4o _ := ⟨na_l4o, ng_l4o, nd_l4o, h_l4o, kd4 X h_i1 h_i2 h_i3 h_i4 h_i5⟩
  clear X S h_i1 h_i2 h_i3 h_i4 h_i5 h_l4o na_l4o ng_l4o nd_l4o
  refine ⟨od, _, _, rfl, rfl, hd, (show 4 < sizeLine by decide), ?_⟩
  have U : But od K_l4o (upd K_l4o od (.lst ([.ref l0, .ref l1, .ref l2, .ref l3] ++ [.ref l4o]))) := But.upd
  have at1 := at1.but md ⟨_, hd⟩ U
  have at3 := at3.but md ⟨_, hd⟩ U
  have at4 := at4.but md ⟨_, hd⟩ U
  have o0 := o0.kp (Kp.dut U)
  have o1 := o1.kp (Kp.dut U)
  have o2 := o2.kp (Kp.dut U)
  have o3 := o3.kp (Kp.dut U)
  have o4 := o4.kp (Kp.dut U)
  have w12 : Well (upd K_l4o od (.lst ([.ref l0, .ref l1, .ref l2, .ref l3] ++ [.ref l4o]))) a := by
    obtain ⟨c, b, n, h⟩ := w12
    exact ⟨c, b, n, (upd_ne (Ne.symm da)).trans h⟩
  have hg := (upd_ne (H := K_l4o) (o := .lst ([.ref l0, .ref l1, .ref l2, .ref l3] ++ [.ref l4o])) (Ne.symm dg)).trans hg
  have B12 : But a H (upd K_l4o od (.lst ([.ref l0, .ref l1, .ref l2, .ref l3] ++ [.ref l4o]))) := fun b o n e => (upd_ne (ne_of_none e Hd)).trans (B12 b o n e)
  have hd : upd K_l4o od (.lst ([.ref l0, .ref l1, .ref l2, .ref l3] ++ [.ref l4o])) od = some (.lst [.ref l0, .ref l1, .ref l2, .ref l3, .ref l4o]) := upd_same
  clear U
  generalize upd K_l4o od (.lst ([.ref l0, .ref l1, .ref l2, .ref l3] ++ [.ref l4o])) = K4 at hd hg B12 w12 at1 at3 at4 o0 o1 o2 o3 o4 ⊢
  -- the titles
  refine ⟨(show 5 ≤ sizeLine by decide), fun tt ntt => ⟨_, _, rfl, ?_⟩⟩
  have ta := w12.new ntt
  have tg := (ne_of_none hg ntt).symm
  have S := Same.new (o := .lst [.str "name", .str "writers", .str "fills", .str "promises", .str "waits"]) ntt
  have ht : upd K4 tt (.lst [.str "name", .str "writers", .str "fills", .str "promises", .str "waits"]) tt = some (.lst [.str "name", .str "writers", .str "fills", .str "promises", .str "waits"]) := upd_same
  have w12 := w12.same S
  have hg := S _ _ hg
  have hd := S _ _ hd
  have at1 := at1.same S
  have at3 := at3.same S
  have at4 := at4.same S
  have B12 := B12.trans (But.of S)
  have o0 := o0.kp (Kp.same S)
  have o1 := o1.kp (Kp.same S)
  have o2 := o2.kp (Kp.same S)
  have o3 := o3.kp (Kp.same S)
  have o4 := o4.kp (Kp.same S)
  clear S ntt
  generalize upd K4 tt (.lst [.str "name", .str "writers", .str "fills", .str "promises", .str "waits"]) = K5 at w12 hg hd at1 at3 at4 B12 o0 o1 o2 o3 o4 ht ⊢
  have odd : ∀ i, i < 5 → ∃ (l : Addr) (ls : List V), [V.ref l0, .ref l1, .ref l2, .ref l3, .ref l4o][i]? = some (.ref l) ∧ OL K a g od K5 i l ls ∧ 0 < ls.length ∧ ls.length < 1073741824 := fun i h => by
    match i, h with
    | 0, _ => exact ⟨l0, _, rfl, o0, by simp, by simp⟩
    | 1, _ => exact ⟨l1, _, rfl, o1, by simp, by simp⟩
    | 2, _ => exact ⟨l2, _, rfl, o2, by simp, by simp⟩
    | 3, _ => exact ⟨l3, _, rfl, o3, by simp, by simp⟩
    | 4, _ => exact ⟨l4o, _, rfl, o4, by simp, by simp⟩
  have ttl : ∀ i, i < 5 → [V.str "name", .str "writers", .str "fills", .str "promises", .str "waits"][i]? = some (.str (nmAt i)) := fun i h => by
    match i, h with
    | 0, _ => rfl
    | 1, _ => rfl
    | 2, _ => rfl
    | 3, _ => rfl
    | 4, _ => rfl
  refine ⟨5, rfl, by decide, by decide, ?_⟩
  refine for_range (lo := 0) (n := 5) (fun i σ G => ∃ (v9 : Option V) (ys : List V) (fl : Nat → Bool), σ = [some (.ref a), some (.str LET), some (.str z), some (.ref o), some (.ref t1), some (.ref g), some (.ref od), some (.ref tt), some (wrV fl i), v9, none] ∧
      Well G a ∧ Kp a g g K5 G ∧ G g = some (.lst ys) ∧ ys.length = 5 ∧ (∀ j, i ≤ j → fl j = false) ∧ (∀ j y, ys[j]? = some y → (fl j = false ∧ [V.str z, .ref t1, .bl bf, .ref t3, .ref t4][j]? = some y) ∨ (fl j = true ∧ ∀ G', Kn a g od K5 G' → isK K j G' y)))
    ⟨none, _, fun _ => false, rfl, w12, Kp.refl, hg, rfl, fun _ _ => rfl, fun j y h => .inl ⟨rfl, h⟩⟩ (fun i σ G lt p => ?_) (fun σ G p => ?_)
  · obtain ⟨v9, ys, fl, rfl, wG, kG, gG, ln, lo, it⟩ := p
    have kd' : ∀ {G' : Hp}, Kp a g g K5 G' → Kp a g od K5 G' := fun k b o n m _ h => k b o n m m h
    refine ⟨_, rfl, a, 9, rfl, wG, by decide, by decide, fun G1 d _ _ w1 b1 => ⟨rfl, _, rfl, ?_⟩⟩
    have k1 : Kp a g g K5 G1 := kG.trans (Kp.but b1)
    have g1 := b1 _ _ ga gG
    cases decide (V.int d = V.int 0) with
    | false =>
      exact iteF ⟨some (.int (0 + (i : Int))), ys, fl, by rw [wrV_no (lo i (Nat.le_refl _))]; rfl, w1, k1, g1, ln, fun j h => lo j (by omega), it⟩
    | true =>
      obtain ⟨l, ls, el, ol, pos, le⟩ := odd i lt
      have e0 : (0 : Int) + (i : Int) = (i : Int) := Int.zero_add _
      refine iteT ⟨_, rfl, _, rfl, _, rfl, od, _, _, _, rfl, rfl, SqL.of (k1 _ _ da dg dg hd), by rw [e0]; exact atI_nat el, ?_⟩
      refine ⟨a, l, ls, rfl, w1, ol.na, k1 _ _ ol.na ol.ng ol.ng ol.at_, pos, le, fun G2 y hy w2 b2 => ?_⟩
      have g2 := b2 _ _ ga g1
      refine ⟨_, rfl, _, rfl, g, ys, _, i, rfl, rfl, g2, by rw [e0, ln]; unfold ixN; rw [if_pos (by omega), if_pos (by omega)]; rfl, ?_⟩
      have k3 : Kp a g g K5 (upd G2 g (.lst (ys.set i y))) := (k1.trans (Kp.but b2)).trans (Kp.gut But.upd)
      have w3 : Well (upd G2 g (.lst (ys.set i y))) a := by
        obtain ⟨c, b, n, h⟩ := w2
        exact ⟨c, b, n, (upd_ne (Ne.symm ga)).trans h⟩
      have g3 : upd G2 g (.lst (ys.set i y)) g = some (.lst (ys.set i y)) := upd_same
      have it3 := it_up (os := [V.str z, .ref t1, .bl bf, .ref t3, .ref t4]) (fun G' k => ol.kd G' k y hy) (by omega) it
      have lo3 : ∀ j, i + 1 ≤ j → up fl i j = false := fun j h => by
        unfold up
        rw [if_neg (by omega)]
        exact lo j (by omega)
      generalize upd G2 g (.lst (ys.set i y)) = G3 at k3 w3 g3 ⊢
      refine ⟨_, rfl, rfl, _, rfl, ?_⟩
      by_cases ew : wrV fl i = .non
      · rw [decide_eq_true ew]
        refine iteT ⟨_, rfl, _, rfl, tt, _, _, _, rfl, rfl, SqL.of (k3 _ _ ta tg tg ht), by rw [e0]; exact atI_nat (ttl i lt), some (.int (0 + (i : Int))), ys.set i y, up fl i, ?_, w3, k3, g3, by rw [List.length_set]; exact ln, lo3, it3⟩
        rw [wrV_up, if_pos ew]
        rfl
      · rw [decide_eq_false ew]
        refine iteF ⟨_, rfl, some (.int (0 + (i : Int))), ys.set i y, up fl i, ?_, w3, k3, g3, by rw [List.length_set]; exact ln, lo3, it3⟩
        rw [wrV_up, if_neg ew]
        rfl
  · obtain ⟨v9, ys, fl, rfl, wG, kG, gG, ln, lo, it⟩ := p
    have ma' : a ∈ [od, g, a] := by simp
    have mg2 : g ∈ [od, g, a] := by simp
    refine ⟨_, rfl, _, rfl, (show 2 ≤ sizeLine by decide), fun p np => ?_⟩
    have S := Same.new (o := .tup [.ref g, wrV fl 5]) np
    have kS : Kp a g g K5 (upd G p (.tup [.ref g, wrV fl 5])) := kG.trans (Kp.same S)
    have B : But a H (upd G p (.tup [.ref g, wrV fl 5])) := fun b o n e => kS b o n (ne_of_none e Hg) (ne_of_none e Hg) (B12 b o n e)
    refine k _ p g ys (wrV fl 5) Hg upd_same (S _ _ gG) (wG.same S) B fun G' ext => ?_
    have kE : Kn a g g K5 G' := (Kn.of kS).trans (Kn.ext ext)
    exact drawn ok5 (at1.kp ma' mg2 w12.ls ⟨_, hg⟩ kE) (at3.kp ma' mg2 w12.ls ⟨_, hg⟩ kE) (at4.kp ma' mg2 w12.ls ⟨_, hg⟩ kE) ln fun j y h => (it j y h).imp id fun h => ⟨h.1, h.2 _ fun b o n m _ e t => kE b o n m m e t⟩
end
end K08

set_option maxRecDepth 100000
set_option maxHeartbeats 4000000
namespace K08
open PySem PySem.Spec PyProof.Rows L2 He VH
/-! Phase(..), by its arguments -/
section
variable {K : PySem.W.Frag} {fd : FuncData}
theorem kPhA (F : FnPhI K fd) : ∃ mv : List Value, KBn K fd nPhI 2 ["writers", "fills", "promises", "waits"] (fun us ws => us ++ (mv ++ ws)) (fun vs zs => vs ++ (((([] : List (Str × V)).map (·.2)) ++ zs))) :=
  FunD.kbinds0 F 2 ["writers", "fills", "promises", "waits"] [] (fun us its ws => us ++ (its ++ ws)) (by simp [kwP]) (by simp) (fun a d b => a.append (d.append b))
    fun D doc pm an cdv ct us mv ws l1 l2 l3 => match us, mv, ws, l1, l2, l3 with
      | [_, _], [], [_, _, _, _], _, _, _ => rfl
theorem kPhB (F : FnPhI K fd) : ∃ mv : List Value, KBn K fd nPhI 1 ["waits", "name"] (fun us ws => us ++ (ws.drop 1 ++ (mv ++ ws.take 1))) (fun vs zs => vs ++ (zs.drop 1 ++ (((kwP K).take 3).map (·.2) ++ zs.take 1))) :=
  FunD.kbinds0 F 1 ["waits", "name"] ((kwP K).take 3) (fun us its ws => us ++ (ws.drop 1 ++ (its ++ ws.take 1))) (by simp [kwP]) (fun q hq => List.mem_of_mem_take hq) (fun a d b => a.append ((b.drop 1).append (d.append (b.take 1))))
    fun D doc pm an cdv ct us mv ws l1 l2 l3 => match us, mv, ws, l1, l2, l3 with
      | [_], [_, _, _], [_, _], _, _, _ => ⟨_, _, _, _, _, _, rfl, rfl, _, _, _, _, _, _, rfl, rfl, _, _, _, _, _, _, rfl, rfl, rfl⟩
theorem kPhC (F : FnPhI K fd) : ∃ mv : List Value, KBn K fd nPhI 2 [] (fun us ws => us ++ (mv ++ ws)) (fun vs zs => vs ++ ((kwP K).map (·.2) ++ zs)) :=
  FunD.kbinds0 F 2 [] (kwP K) (fun us its ws => us ++ (its ++ ws)) (by simp [kwP]) (fun q hq => hq) (fun a d b => a.append (d.append b))
    fun D doc pm an cdv ct us mv ws l1 l2 l3 => match us, mv, ws, l1, l2, l3 with
      | [_, _], [_, _, _, _], [], _, _, _ => ⟨_, _, _, _, _, _, rfl, rfl, _, _, _, _, _, _, rfl, rfl, _, _, _, _, _, _, rfl, rfl, _, _, _, _, _, _, rfl, rfl, rfl⟩
end
end K08

set_option maxRecDepth 100000
set_option maxHeartbeats 4000000
namespace K08
open PySem PySem.Spec PyProof.Rows L2 He VH
/-! the Phase of five parts; its attributes -/
abbrev sMade : Stmt := top 21
abbrev sTold : Stmt := top 22
abbrev nMade : List Str := ["_law_parts_here"]
abbrev nTold : List Str := ["_law_made_here"]
def spMade (K : PySem.W.Frag) : Sp := fun vs H Q E => ∃ (g : Addr) (y0 y1 y2 y3 y4 : V) (r0 : Option Str) (r1 : Option (List V)) (r2 : Option Bool) (r3 r4 : Option (List V)), vs = [.ref g] ∧ H g = some (.lst [y0, y1, y2, y3, y4]) ∧
  isN K H y0 r0 ∧ isL K H nmsB y1 r1 ∧ isB K H y2 r2 ∧ isL K H (fun xs => wdsB xs prW) y3 r3 ∧ isL K H (fun xs => wdsB xs waW) y4 r4 ∧
  (∀ u, wrong r0 r1 r2 r3 r4 = some u → Rz K E H "NoPhase" u) ∧
  (∀ z ws b ps qs, r0 = some z → r1 = some ws → r2 = some b → r3 = some ps → r4 = some qs → ∀ (H' : Hp) (p : Addr), H p = none → Same H H' → PhAt K H' p z ws b ps qs → Q (.ref p) H')
def spTold (K : PySem.W.Frag) : Sp := fun vs H Q _ => ∃ (p : Addr) (z : Str) (ws : List V) (b : Bool) (ps qs : List V), vs = [.ref p] ∧ PhAt K H p z ws b ps qs ∧
  ∀ (l t1 t2 t3 : Addr), H l = none → SqT K H t1 ws → SqT K H t2 ps → SqT K H t3 qs → Q (.ref l) (upd H l (.lst [.str z, .ref t1, .bl b, .ref t2, .ref t3]))
theorem same_ins {H : Hp} {x dx : Addr} {o o' : HO} (nx : H x = none) (nd : H dx = none) (ne : dx ≠ x) : Same H (upd (upd H dx o) x o') := fun b u h => by
  rw [upd_ne (ne_of_none h nx), upd_ne (ne_of_none h nd)]
  exact h
theorem same_but {H G H' : Hp} {x : Addr} (s : Same H G) (nx : H x = none) (b : But x G H') : Same H H' := fun c u h => b c u (ne_of_none h nx) (s _ _ h)
section
variable {P : Program} {w : World} {K : PySem.W.Frag} {mg : Str → Option Value} {base : Heap} {f : Addr} {fd fdP : FuncData}
theorem scMade : FnScope nMade ["_law_parts_here"] (defScope sMade) := ⟨rfl, rfl, rfl, by decide +kernel, rfl, by decide +kernel, by decide +kernel⟩
theorem scTold : FnScope nTold ["_law_made_here"] (defScope sTold) := ⟨rfl, rfl, rfl, by decide +kernel, rfl, by decide +kernel, by decide +kernel⟩
theorem bMade (F : FnP K "_law_made" sMade f fd) : Binds K fd ["_law_parts_here"] [] := FunD.bindsN F fun _ _ _ _ _ _ us hl => match us, hl with | [_], _ => rfl
theorem bTold (F : FnP K "_law_told" sTold f fd) : Binds K fd ["_law_made_here"] [] := FunD.bindsN F fun _ _ _ _ _ _ us hl => match us, hl with | [_], _ => rfl
theorem ok_told (F : FnP K "_law_told" sTold f fd) (T : Txt K mg w) : FnOk P w K mg base CX0 1 f fd ["_law_made_here"] (spTold K) := by
  refine F.ok scTold (fun vs H Q E h => ?_) (fun cdv A outer s H vs Q E hr h => ?_)
  · obtain ⟨_, _, _, _, _, _, rfl, _⟩ := h
    rfl
  refine ⟨_, PSs.nox (pss_one (ps_ret (pe_lst (pa_cons (pe_fld (pv 0) (by rfl)) (pa_cons (pe_fld (pv 0) (by rfl)) (pa_cons (pe_fld (pv 0) (by rfl)) (pa_cons (pe_fld (pv 0) (by rfl)) (pa_cons (pe_fld (pv 0) (by rfl)) pa_nil)))))))), ?_⟩
  obtain ⟨p, z, ws, b, ps, qs, rfl, ⟨dx, t1, t2, t3, hp, a1, a2, a3⟩, k⟩ := h
  refine ⟨_, rfl, p, _, dx, _, _, rfl, hp, T.c_Phase, T.n_Phase_name, rfl, ?_⟩
  refine ⟨_, rfl, p, _, dx, _, _, rfl, hp, T.c_Phase, T.n_Phase_writers, rfl, ?_⟩
  refine ⟨_, rfl, p, _, dx, _, _, rfl, hp, T.c_Phase, T.n_Phase_fills, rfl, ?_⟩
  refine ⟨_, rfl, p, _, dx, _, _, rfl, hp, T.c_Phase, T.n_Phase_promises, rfl, ?_⟩
  refine ⟨_, rfl, p, _, dx, _, _, rfl, hp, T.c_Phase, T.n_Phase_waits, rfl, ?_⟩
  exact ⟨(show 5 ≤ sizeLine by decide), fun l nl => k l t1 t2 t3 nl a1 a2 a3⟩
theorem at4L {H : Hp} {g : Addr} {y0 y1 y2 y3 y4 : V} : atI [y0, y1, y2, y3, y4] 4 = some y4 := rfl
theorem ok_made (F : FnP K "_law_made" sMade f fd) (T : Txt K mg w) (fns : Fns K) : FnOk P w K mg base (L2.CX P w) 5 f fd ["_law_parts_here"] (spMade K) := by
  obtain ⟨fdI, FI⟩ := fns.f_Phase_init
  obtain ⟨mv, kb⟩ := kPhA FI
  have GI : FnOk P w K mg base (L2.CX P w) 3 (ma K (ga K "Phase") "__init__") fdI nPhI (spPhI K) := ok_phI FI T fns
  refine F.ok scMade (fun vs H Q E h => ?_) (fun cdv A outer s H vs Q E hr h => ?_)
  · obtain ⟨_, _, _, _, _, _, _, _, _, _, _, rfl, _⟩ := h
    rfl
  refine ⟨_, pss_one (ps_ret (pe_makeK (n := 1) (ks := ["writers", "fills", "promises", "waits"]) T.mk_Phase GI hr (by rfl) T.m_Phase kb (passes_call (takes_of rfl rfl rfl rfl) (fun _ _ _ _ h => h)) (pa_cons (pe_ix ix_list (pv 0) pe_int (fun _ _ => rfl)) pa_nil)
    (pk_cons (pe_ix ix_list (pv 0) pe_int (fun _ _ => rfl)) (pk_cons (pe_ix ix_list (pv 0) pe_int (fun _ _ => rfl)) (pk_cons (pe_ix ix_list (pv 0) pe_int (fun _ _ => rfl)) (pk_cons (pe_ix ix_list (pv 0) pe_int (fun _ _ => rfl)) pk_nil)))))), ?_⟩
  obtain ⟨g, y0, y1, y2, y3, y4, r0, r1, r2, r3, r4, rfl, hg, h0, h1, h2, h3, h4, rz, k⟩ := h
  refine ⟨_, rfl, g, _, 0, _, rfl, rfl, SqL.of hg, rfl, ?_⟩
  refine ⟨_, rfl, g, _, 1, _, rfl, rfl, SqL.of hg, rfl, ?_⟩
  refine ⟨_, rfl, g, _, 2, _, rfl, rfl, SqL.of hg, rfl, ?_⟩
  refine ⟨_, rfl, g, _, 3, _, rfl, rfl, SqL.of hg, rfl, ?_⟩
  refine ⟨_, rfl, g, _, 4, _, rfl, rfl, SqL.of hg, rfl, ?_⟩
  refine ⟨rfl, rfl, fun x dx nx nd ne => ?_⟩
  have S : Same H (upd (upd H dx (.own x)) x (.ins (ga K "Phase") dx [])) := same_ins nx nd ne
  exact ⟨x, dx, y0, y1, y2, y3, y4, r0, r1, r2, r3, r4, rfl, upd_same, h0.same S, h1.same S, h2.same S, h3.same S, h4.same S, fun u e => (rz u e).same S,
    fun z ws b ps qs e0 e1 e2 e3 e4 H' bt at_ => ⟨rfl, k z ws b ps qs e0 e1 e2 e3 e4 H' x nx (same_but S nx bt) at_⟩⟩
end
end K08

set_option maxRecDepth 100000
set_option maxHeartbeats 4000000
namespace K08
open PySem PySem.Spec PyProof.Rows L2 He VH
/-! what is kept of Phases -/
/-- at p: a list -/
def Ls (H : Hp) (p : Addr) : Prop := ∃ ys, H p = some (.lst ys)
section
variable {K : PySem.W.Frag} {p t : Addr} {H H' : Hp} {xs : List V}
theorem bx_at {o : HO} (b : Bx p H H') (l : Ls H p) (e : H t = some o) (n : ∀ xs, o ≠ .lst xs) (m : ∀ ps, o ≠ .tbl ps) : H' t = some o := by
  refine b t o (fun z => ?_) e m
  obtain ⟨_, l⟩ := l
  rw [z, l] at e
  exact n _ (Option.some.inj e).symm
theorem sqt_bx (h : SqT K H t xs) (l : Ls H p) (b : Bx p H H') : SqT K H' t xs := by
  rcases h with (h | ⟨o, h⟩) | h
  · exact .inl (.inl (bx_at b l h (fun _ z => by cases z) (fun _ z => by cases z)))
  · exact .inl (.inr ⟨o, bx_at b l h (fun _ z => by cases z) (fun _ z => by cases z)⟩)
  · exact .inr h
theorem ty_sqt (h : SqT K H t xs) : TyX K H (.ref t) (.type "tuple") := by
  rcases h with (h | ⟨o, h⟩) | ⟨o, its, n, lk, c, d⟩
  · exact .base (.tup h)
  · exact .fTuple h
  · exact .kTuple lk c
theorem tabs_bx {Tt : List (Addr × Str)} (t : LamX.Tabs Tt H) (l : Ls H p) (b : But p H H') : LamX.Tabs Tt H' := fun q hp => by
  obtain ⟨ps, h1, h2, h3⟩ := t q hp
  obtain ⟨_, w⟩ := l
  have n1 : q.1 ≠ p := fun z => by rw [z, w] at h1; cases h1
  refine ⟨ps, b _ _ n1 h1, h2, fun pos cv hc => ?_⟩
  obtain ⟨c, e1, e2⟩ := h3 pos cv hc
  refine ⟨c, e1, b _ _ (fun z => ?_) e2⟩
  rw [z, w] at e2
  unfold LamX.CodeO at e2
  cases e2
end
theorem PhS.bx {K : PySem.W.Frag} {p t : Addr} {H H' : Hp} {d : Ph} (h : PhS K H t d) (l : Ls H p) (b : Bx p H H') : PhS K H' t d := by
  obtain ⟨dx, t1, t2, t3, h, a1, a2, a3⟩ := h
  exact ⟨dx, t1, t2, t3, bx_at b l h (fun _ z => by cases z) (fun _ z => by cases z), sqt_bx a1 l b, sqt_bx a2 l b, sqt_bx a3 l b⟩
/-- what is due of a Phase -/
def Due (K : PySem.W.Frag) (H : Hp) (l : Addr) (d : Ph) : Prop := ∃ t1 t2 t3 : Addr, H l = some (.lst [.str d.z, .ref t1, .bl d.b, .ref t2, .ref t3]) ∧ SqT K H t1 (d.ws.map V.str) ∧ SqT K H t2 (d.ps.map V.str) ∧ SqT K H t3 (d.qs.map V.str)
section
variable {K : PySem.W.Frag} {t : Addr} {H : Hp}
theorem due_ne {l : Addr} {d : Ph} {c : List Str} (h : Due K H l d) (e : H t = some (.lst (c.map V.str))) : l ≠ t := fun z => by
  obtain ⟨t1, t2, t3, h, _⟩ := h
  rw [z, e] at h
  match c, h with
  | [], h => cases h
  | [_], h => cases h
  | _ :: _ :: _, h => cases h
end
theorem Due.bx {K : PySem.W.Frag} {p l : Addr} {H H' : Hp} {d : Ph} (h : Due K H l d) (n : l ≠ p) (w : Ls H p) (b : Bx p H H') : Due K H' l d := by
  obtain ⟨t1, t2, t3, h, a1, a2, a3⟩ := h
  exact ⟨t1, t2, t3, b _ _ n h (fun _ z => by cases z), sqt_bx a1 w b, sqt_bx a2 w b, sqt_bx a3 w b⟩
def dat (d : Ph) : PyData := .list [.str d.z, .tuple (d.ws.map PyData.str), .bool d.b, .tuple (d.ps.map PyData.str), .tuple (d.qs.map PyData.str)]
theorem Due.dp {K : PySem.W.Frag} {H : Hp} {l : Addr} {d : Ph} (h : Due K H l d) : Dp K H (.ref l) (dat d) := by
  obtain ⟨t1, t2, t3, h, a1, a2, a3⟩ := h
  exact .lst (SqL.of h) (.cons (.str _) (.cons (dpT a1) (.cons (.bl _) (.cons (dpT a2) (.cons (dpT a3) .nil)))))
theorem dat_eqv (d e : Ph) : PyData.eqv (dat d) (dat e) = decide (d = e) := by
  obtain ⟨z, ws, b, ps, qs⟩ := d
  obtain ⟨z', ws', b', ps', qs'⟩ := e
  show ((z == z') && (PyData.eqvAll (ws.map PyData.str) (ws'.map PyData.str) && (PyData.eqv (.bool b) (.bool b') && (PyData.eqvAll (ps.map PyData.str) (ps'.map PyData.str) && (PyData.eqvAll (qs.map PyData.str) (qs'.map PyData.str) && true))))) = _
  rw [eqvS, eqvS, eqvS, Bool.and_true]
  have eb : PyData.eqv (.bool b) (.bool b') = decide (b = b') := by cases b <;> cases b' <;> rfl
  rw [eb]
  by_cases h1 : z = z' <;> by_cases h2 : ws = ws' <;> by_cases h3 : b = b' <;> by_cases h4 : ps = ps' <;> by_cases h5 : qs = qs' <;> simp [h1, h2, h3, h4, h5]
structure Ph.Kk (d : Ph) : Prop where
  ok : d.Ok
  z : PyData.canLay0 (.str d.z) = true
theorem dat_shp {d : Ph} (h : d.Kk) : SeqAt.shaped (dat d) = true := by
  have a := shpAll _ h.ok.w
  have b := shpAll _ h.ok.p
  have c := shpAll _ h.ok.q
  have s : PyData.canLay0 (dat d) = true := by
    show (PyData.canLay0 (.str d.z) && (PyData.canLayAll0 (d.ws.map PyData.str) && (true && (PyData.canLayAll0 (d.ps.map PyData.str) && (PyData.canLayAll0 (d.qs.map PyData.str) && true))))) = true
    rw [h.z, a.1, b.1, c.1]
    rfl
  have e : PyData.depth (dat d) = 2 := by
    show max 0 (max (PyData.depthAll (d.ws.map PyData.str) + 1) (max 0 (max (PyData.depthAll (d.ps.map PyData.str) + 1) (max (PyData.depthAll (d.qs.map PyData.str) + 1) 0)))) + 1 = 2
    rw [a.2, b.2, c.2]
    rfl
  unfold SeqAt.shaped
  rw [s, e]
  rfl
/-- one that is kept -/
structure Kp1 (K : PySem.W.Frag) (H : Hp) (e : V) (d : Ph) (a kl : Addr) : Prop where
  at_ : ∃ t p l : Addr, e = .ref t ∧ H t = some (.tup [.ref p, .ref l]) ∧ PhS K H p d ∧ Due K H l d ∧ l ≠ a ∧ l ≠ kl
  ok : d.Kk
theorem Kp1.bx {K : PySem.W.Frag} {p a kl : Addr} {H H' : Hp} {e : V} {d : Ph} (h : Kp1 K H e d a kl) (w : Ls H p) (n : p = a ∨ p = kl ∨ ∀ l, Due K H l d → l ≠ p) (b : Bx p H H') : Kp1 K H' e d a kl := by
  obtain ⟨⟨t, q, l, e1, h1, h2, h3, n1, n2⟩, ok⟩ := h
  have nl : l ≠ p := by
    rcases n with n | n | n
    · rw [n]; exact n1
    · rw [n]; exact n2
    · exact n l h3
  exact ⟨⟨t, q, l, e1, bx_at b w h1 (fun _ z => by cases z) (fun _ z => by cases z), h2.bx w b, h3.bx nl w b, n1, n2⟩, ok⟩
/-- all that is kept -/
structure Kept (K : PySem.W.Frag) (H : Hp) (a kl : Addr) (ds : List Ph) (n : Nat) : Prop where
  na : kl ≠ a
  at_ : ∃ es : List V, H kl = some (.lst es) ∧ es.length = ds.length ∧ ∀ (i : Nat) e d, es[i]? = some e → ds[i]? = some d → Kp1 K H e d a kl
  le : ds.length ≤ n
theorem Kept.bx {K : PySem.W.Frag} {p a kl : Addr} {H H' : Hp} {ds : List Ph} {n : Nat} (h : Kept K H a kl ds n) (w : Ls H p) (np : p ≠ kl) (x : p = a ∨ ∀ (l : Addr) d, Due K H l d → l ≠ p) (b : Bx p H H') : Kept K H' a kl ds n := by
  obtain ⟨na, ⟨es, e1, e2, e3⟩, le⟩ := h
  exact ⟨na, ⟨es, b _ _ (Ne.symm np) e1 (fun _ z => by cases z), e2, fun i e d he hd => (e3 i e d he hd).bx w (x.imp id fun x => .inr fun l => x l d) b⟩, le⟩
theorem Kept.same {K : PySem.W.Frag} {a kl : Addr} {H H' : Hp} {ds : List Ph} {n : Nat} (h : Kept K H a kl ds n) (w : Ls H a) (s : Same H H') : Kept K H' a kl ds n := h.bx w (Ne.symm h.na) (.inl rfl) (Bx.same s)
theorem Kept.ls {K : PySem.W.Frag} {a kl : Addr} {H : Hp} {ds : List Ph} {n : Nat} (h : Kept K H a kl ds n) : Ls H kl := by
  obtain ⟨_, ⟨es, e, _⟩, _⟩ := h
  exact ⟨es, e⟩
theorem sql_ne {K : PySem.W.Frag} {sc p : Addr} {H : Hp} {xs : List V} (h : SqL K H sc xs) (n : H p = none) : sc ≠ p ∨ ∀ G, SqL K G sc xs := by
  rcases h with (h | ⟨o, h⟩) | h
  · exact .inl (ne_of_none h n)
  · exact .inl (ne_of_none h n)
  · exact .inr fun _ => .inr h
theorem sql_bx {K : PySem.W.Frag} {sc p : Addr} {H H' : Hp} {xs : List V} (h : SqL K H sc xs) (d : sc ≠ p ∨ ∀ G, SqL K G sc xs) (b : Bx p H H') : SqL K H' sc xs := by
  rcases d with d | d
  · rcases h with (h | ⟨o, h⟩) | h
    · exact .inl (.inl (b _ _ d h (fun _ z => by cases z)))
    · exact .inl (.inr ⟨o, b _ _ d h (fun _ z => by cases z)⟩)
    · exact .inr h
  · exact d _
/-- what holds within a turn -/
structure In (K : PySem.W.Frag) (Tt : List (Addr × Str)) (sc a kl : Addr) (xs : List V) (ds : List Ph) (n : Nat) (G : Hp) : Prop where
  sq : SqL K G sc xs
  da : sc ≠ a ∨ ∀ G, SqL K G sc xs
  dk : sc ≠ kl ∨ ∀ G, SqL K G sc xs
  wl : Well G a
  tb : LamX.Tabs Tt G
  kp : Kept K G a kl ds n
section
variable {K : PySem.W.Frag} {Tt : List (Addr × Str)} {sc a kl : Addr} {xs : List V} {ds : List Ph} {n : Nat} {G G' : Hp}
theorem In.bxa (M : In K Tt sc a kl xs ds n G) (b : Bx a G G') (w : Well G' a) (t : LamX.Tabs Tt G') : In K Tt sc a kl xs ds n G' :=
  ⟨sql_bx M.sq M.da b, M.da, M.dk, w, t, M.kp.bx M.wl.ls (Ne.symm M.kp.na) (.inl rfl) b⟩
theorem In.same (M : In K Tt sc a kl xs ds n G) (s : Same G G') : In K Tt sc a kl xs ds n G' := M.bxa (Bx.same s) (M.wl.same s) (M.tb.ext s)
theorem In.but (M : In K Tt sc a kl xs ds n G) (b : But a G G') (w : Well G' a) : In K Tt sc a kl xs ds n G' := M.bxa (Bx.but b) w (tabs_bx M.tb M.wl.ls b)
theorem In.ext (M : In K Tt sc a kl xs ds n G) (e : LamX.ExtN G G') (t : LamX.Tabs Tt G') : In K Tt sc a kl xs ds n G' := M.bxa (Bx.ext e) (by
  obtain ⟨c, b, n, w⟩ := M.wl
  exact ⟨c, b, n, e _ _ w (fun _ z => by cases z)⟩) t
theorem In.up (M : In K Tt sc a kl xs ds n G) : In K Tt sc a kl xs ds (n + 1) G := ⟨M.sq, M.da, M.dk, M.wl, M.tb, M.kp.na, M.kp.at_, Nat.le_succ_of_le M.kp.le⟩
/-- another list changes -/
theorem In.off (M : In K Tt sc a kl xs ds n G) {r : Addr} {o : HO} (l : Ls G r) (ra : r ≠ a) (rk : r ≠ kl) (ds' : sc ≠ r ∨ ∀ G, SqL K G sc xs) (nd : ∀ (l : Addr) d, Due K G l d → l ≠ r) : In K Tt sc a kl xs ds n (upd G r o) := by
  have b : But r G (upd G r o) := But.upd
  refine ⟨sql_bx M.sq ds' (Bx.but b), M.da, M.dk, ?_, tabs_bx M.tb l b, M.kp.bx l rk (.inr nd) (Bx.but b)⟩
  obtain ⟨c, b, n, w⟩ := M.wl
  exact ⟨c, b, n, (upd_ne (Ne.symm ra)).trans w⟩
theorem In.more (M : In K Tt sc a kl xs ds n G) {es : List V} {e : V} {d : Ph} (h : G kl = some (.lst es)) (k : Kp1 K G e d a kl) : In K Tt sc a kl xs (ds ++ [d]) (n + 1) (upd G kl (.lst (es ++ [e]))) := by
  have l : Ls G kl := ⟨_, h⟩
  have b : But kl G (upd G kl (.lst (es ++ [e]))) := But.upd
  refine ⟨sql_bx M.sq M.dk (Bx.but b), M.da, M.dk, ?_, tabs_bx M.tb l b, M.kp.na, ⟨es ++ [e], upd_same, ?_, fun i x y hx hy => ?_⟩, ?_⟩
  · obtain ⟨c, b, n, w⟩ := M.wl
    exact ⟨c, b, n, (upd_ne (Ne.symm M.kp.na)).trans w⟩
  · obtain ⟨es', h', ln, _⟩ := M.kp.at_
    obtain rfl : es' = es := HO.lst.inj (Option.some.inj (h'.symm.trans h))
    rw [List.length_append, List.length_append, ln]
    rfl
  · obtain ⟨es', h', ln, all⟩ := M.kp.at_
    obtain rfl : es' = es := HO.lst.inj (Option.some.inj (h'.symm.trans h))
    by_cases lt : i < es'.length
    · rw [List.getElem?_append_left lt] at hx
      rw [List.getElem?_append_left (by omega)] at hy
      exact (all i x y hx hy).bx l (.inr (.inl rfl)) (Bx.but b)
    · rw [List.getElem?_append_right (by omega)] at hx
      rw [List.getElem?_append_right (by omega)] at hy
      have e0 : i - es'.length = 0 := by
        have := (List.getElem?_eq_some_iff.mp hx).1
        simp at this
        omega
      rw [e0] at hx
      rw [← ln, e0] at hy
      obtain rfl := Option.some.inj hx
      obtain rfl := Option.some.inj hy
      exact k.bx l (.inr (.inl rfl)) (Bx.but b)
  · rw [List.length_append]
    have := M.kp.le
    simp
    exact this
end
theorem dpBs {K : PySem.W.Frag} {H : Hp} : ∀ bs : List Bool, DpAll K H (bs.map V.bl) (bs.map PyData.bool)
  | [] => .nil
  | b :: bs => .cons (.bl b) (dpBs bs)
theorem eqvBs : ∀ bs : List Bool, PyData.eqvAll (bs.map PyData.bool) (bs.map PyData.bool) = true
  | [] => rfl
  | b :: bs => by
    show (PyData.eqv (.bool b) (.bool b) && PyData.eqvAll (bs.map PyData.bool) (bs.map PyData.bool)) = true
    rw [eqvBs bs]
    cases b <;> rfl
theorem shpBs : ∀ bs : List Bool, PyData.canLayAll0 (bs.map PyData.bool) = true ∧ PyData.depthAll (bs.map PyData.bool) = 0
  | [] => ⟨rfl, rfl⟩
  | b :: bs => by
    obtain ⟨h1, h2⟩ := shpBs bs
    refine ⟨?_, ?_⟩
    · show (PyData.canLay0 (.bool b) && PyData.canLayAll0 (bs.map PyData.bool)) = true
      rw [h1]
      rfl
    · show max (PyData.depth (.bool b)) (PyData.depthAll (bs.map PyData.bool)) = 0
      rw [h2]
      rfl
theorem shpB {bs : List Bool} : SeqAt.shaped (.list (bs.map PyData.bool)) = true := by
  have z := shpBs bs
  unfold SeqAt.shaped PyData.canLay0 PyData.depth
  rw [z.1, z.2]
  rfl
theorem wrong_lay {r0 : Option Str} {r1 : Option (List V)} {r2 : Option Bool} {r3 r4 : Option (List V)} {u : Str} (h : wrong r0 r1 r2 r3 r4 = some u) : PyData.canLay0 (.str u) = true := by
  unfold wrong at h
  split at h
  · cases h; decide +kernel
  split at h
  · cases h; decide +kernel
  split at h
  · cases h; decide +kernel
  split at h
  · cases h; decide +kernel
  split at h
  · cases h; decide +kernel
  · cases h
theorem no_eqv {u : Str} : PyData.eqv (.tuple [.str "no", .str u]) (.tuple [.str "no", .str u]) = true := by
  show ((("no" : Str) == "no") && ((u == u) && true)) = true
  simp
theorem no_shp {u : Str} (h : PyData.canLay0 (.str u) = true) : SeqAt.shaped (.tuple [.str "no", .str u]) = true := by
  have s : PyData.canLay0 (.tuple [.str "no", .str u]) = true := by
    show (PyData.canLay0 (.str "no") && (PyData.canLay0 (.str u) && true)) = true
    rw [h]
    decide +kernel
  unfold SeqAt.shaped
  rw [s]
  rfl
end K08

set_option maxRecDepth 100000
set_option maxHeartbeats 4000000
namespace K08
open PySem PySem.Spec PyProof.Rows L2 He VH
/-! the law -/
abbrev sLaw : Stmt := top 23
abbrev nLaw : List Str := ["_law_script", "_law_k", "_law_well_here", "_law_kept", "_law_turn", "_law_parts_here", "_law_wrong", "_law_told_here", "_law_due", "_law_other", "_law_its"]
theorem scLaw : FnScope nLaw ["_law_script"] (defScope sLaw) := ⟨rfl, rfl, rfl, by decide +kernel, rfl, by decide +kernel, by decide +kernel⟩
abbrev LwCx (P : Program) (w : World) (K : PySem.W.Frag) (mg : Str → Option Value) (base : Heap) (f : Addr) (cdv : Value) (A : Around) (outer : List Env) (s : Shared) (H : Hp) (E : XK) (pn : List (Addr × Obj)) (xe : Value → Shared → Prop) : Cx :=
  (cxOf CX0 P w K mg base nLaw "law" (defScope sLaw) f cdv A outer s H E).tr pn xe
abbrev Tt3 (Pt : Addr) : List (Addr × Str) := [(Pt, ("law" ++ ".<locals>.") ++ "<lambda>")]
theorem hu3 {Pt : Addr} {q : Str} (e : q = ("law" ++ ".<locals>.") ++ "<lambda>") : ∀ p ∈ Tt3 Pt, p.1 = Pt → p.2 = q := fun p hp _ => by
  rw [List.mem_singleton.mp hp, e]
theorem lam_pass {X : Cx} {A : Around} {outer : List Env} {s : Shared} {H : Hp} {E : XK} {scope : Scope} {f c' : Addr} : Passes (L2.CX X.prog X.w) (LamX.lamCx X A outer s H E scope f c') E :=
  passes_call (takes_of rfl rfl rfl rfl) (fun _ _ _ _ h => h)
theorem passN {X : Cx} : Passes (L2.CX X.prog X.w) X (fun _ _ _ => False) := fun _ _ _ _ _ _ _ h => by
  obtain ⟨_, _, _, _, _, _, _, _, _, _, _, _, z⟩ := h
  exact z.elim
/-- a def whose code object is known -/
theorem okC {P : Program} {w : World} {K : PySem.W.Frag} {mg : Str → Option Value} {base : Heap} {x qual : Str} {params : Arguments} {body : List Stmt} {scope : Scope} {dvs : List V} {kws : List (Str × V)} {p : He.Defn} {c : Addr} {fd : FuncData} {CX : CXT} {N ps : List Str} {k : Nat} {sp : Sp}
    (F : FunD K x qual params body scope dvs kws (He.fAd K p) fd) (hc : He.codeOf K p = c) (S : FnScope N ps scope) (len : ∀ vs H Q E, sp vs H Q E → vs.length = ps.length)
    (hbody : ∀ (A : Around) (outer : List Env) (s : Shared) (H : Hp) (vs : List V) (Q : VK) (E : XK), Room k (A.deeper (envOfC qual scope s.heap.objs.size (He.fAd K p) (.ref c))) → sp vs H Q E →
      ∃ t, PSs (cxOf CX P w K mg base N qual scope (He.fAd K p) (.ref c) A outer s H E) body t ∧ t { nx := fun _ H' => Q .non H', rt := Q } (L2.start N vs) H) : FnOk P w K mg base CX (k + 1) (He.fAd K p) fd ps sp := by
  obtain ⟨oc, od, dV, kV, doc, pm, an, cdv, ct, osl, rfl, lk, hcd, _, _⟩ := F.ex
  obtain ⟨c1, rfl⟩ := He.codeIn_ref hcd
  have e : He.codeOf K p = c1 := He.codeOf_eq lk rfl
  obtain rfl : c1 = c := e.symm.trans hc
  exact fn_of lk hcd S len fun A outer s H vs Q E hr hsp => hbody A outer s H vs Q E hr hsp
def rPhS (K : PySem.W.Frag) : R2 := fun x y H Q => ∃ (a : Addr) (d : Ph), x = .ref a ∧ PhS K H a d ∧ d.Ok ∧ ((∃ (b : Addr) (d' : Ph), y = .ref b ∧ PhS K H b d' ∧ d'.Ok ∧ Q (.bl (decide (d = d'))) H) ∨ (∃ z : Str, y = .str z ∧ Q (.bl false) H))
theorem op_phS {X : Cx} {fd : FuncData} (T : Txt X.K X.mg X.w) (F : FnPhE X.K fd) (hr : Room 1 X.A) : OpR X (compareOp .Eq) (rPhS X.K) := fun pins s σ H x y v u Q I rx ry h => op_eqPh T F hr pins s σ H x y v u Q I rx ry (by
  obtain ⟨a, d, rfl, ha, oa, h⟩ := h
  rcases h with ⟨b, d', rfl, hb, ob, q⟩ | ⟨z, rfl, q⟩
  · exact read_eqP T ha oa hb ob q
  · exact read_eqPs T ha oa q)
theorem isL_e {K : PySem.W.Frag} {H : Hp} {ok : List V → Bool} {p : Addr} (h : ∀ H, SqT K H p []) (y : ok [] = true) : isL K H ok (.ref p) (some []) := .inl ⟨p, [], rfl, .inr (h _), td_nil, by decide, by rw [y]; rfl⟩
theorem lay0 : Lay [] := fun z hz => absurd hz (by simp)
def spLaw (K : PySem.W.Frag) (Pt : Addr) : Sp := fun vs H Q _ => ∃ (a : Addr) (ns : List Int), vs = [.ref a] ∧ SqL K H a (ns.map V.int) ∧ ns.length ≤ 63 ∧ LamX.Tabs (Tt3 Pt) H ∧ ∀ H', Q (.bl true) H'
section
variable {P : Program} {w : World} {K : PySem.W.Frag} {mg : Str → Option Value} {base : Heap} {f c Pt : Addr} {fd : FuncData}
theorem bWell (F : FnP K "_law_well" sWell f fd) : Binds K fd ["_law_script", "_law_at"] [] := FunD.bindsN F fun _ _ _ _ _ _ us hl => match us, hl with | [_, _], _ => rfl
theorem bPs (F : FnP K "_law_parts" sPs f fd) : Binds K fd ["_law_well_here"] [] := FunD.bindsN F fun _ _ _ _ _ _ us hl => match us, hl with | [_], _ => rfl
theorem ok_law (F : FnP K "law" sLaw (He.fAd K ("law", none)) fd) (T : Txt K mg w) (fns : Fns K) (hc : He.codeOf K ("law", none) = c) (TB : LamX.TabB base mg c Pt) : FnOk P w K mg base CX0 8 (He.fAd K ("law", none)) fd ["_law_script"] (spLaw K Pt) := by
  obtain ⟨fdD, FD⟩ := fns.f_l_draw
  obtain ⟨fdO, FO⟩ := fns.f_l_one
  obtain ⟨fdW, FW⟩ := fns.f_l_well
  obtain ⟨fdP, FP⟩ := fns.f_l_part
  obtain ⟨fdS, FS⟩ := fns.f_l_parts
  obtain ⟨fdM, FM⟩ := fns.f_l_made
  obtain ⟨fdT, FT⟩ := fns.f_l_told
  obtain ⟨fdY, FY⟩ := fns.f_l_said
  obtain ⟨fdI, FI⟩ := fns.f_Phase_init
  obtain ⟨fdE, FE⟩ := fns.f_Phase_eq
  obtain ⟨mvB, kB⟩ := kPhB FI
  obtain ⟨mvC, kC⟩ := kPhC FI
  have GW : FnOk P w K mg base CX0 1 (ga K "_law_well") fdW ["_law_script", "_law_at"] (spWell K) := ok_well FW T.g_int
  have GS : FnOk P w K mg base CX0 4 (ga K "_law_parts") fdS ["_law_well_here"] (spPs K) := ok_ps FS T FO FD FP
  have GM : FnOk P w K mg base (L2.CX P w) 5 (ga K "_law_made") fdM ["_law_parts_here"] (spMade K) := ok_made FM T fns
  have GT : FnOk P w K mg base CX0 1 (ga K "_law_told") fdT ["_law_made_here"] (spTold K) := ok_told FT T
  have GI : FnOk P w K mg base (L2.CX P w) 3 (ma K (ga K "Phase") "__init__") fdI nPhI (spPhI K) := ok_phI FI T fns
  have big : 1000 < sizeLine := by decide
  have FYk := FY.kp
  have b0 := bSaid FY
  obtain ⟨oc, od, dV, kV, doc, pm, an, cdv, ct, osl, rfl, lk, hcd, _, _⟩ := FY.ex
  refine okC F hc scLaw (fun vs H Q E h => ?_) (fun A outer s H vs Q E hr h => ?_)
  · obtain ⟨a, ns, rfl, _⟩ := h
    rfl
  have r1 : Room 1 (A.deeper (envOfC "law" (defScope sLaw) s.heap.objs.size (He.fAd K ("law", none)) (.ref c))) := hr.mono (by decide)
  have u64 : (A.deeper (envOfC "law" (defScope sLaw) s.heap.objs.size (He.fAd K ("law", none)) (.ref c))).units + 64 < cLine := hr.units
  refine ⟨_, PSs.nox (pss_cons (ps_for (X := LwCx P w K mg base (He.fAd K ("law", none)) (.ref c) A outer s H E [] (fun _ _ => False)) PassesOwn.never rfl (pi_range1 (by rfl) T.g_range (pa_cons (pe_op op_add (pe_callB call_len_seq (by rfl) T.g_len boot_len (pa_cons (pv 0) pa_nil)) pe_int) pa_nil)) (pg_name (i := 1) scLaw.nd rfl (Or.inl rfl))
      (pss_cons (ps_set (i := 2) scLaw.nd rfl (Or.inl rfl) (pe_call GW (hr.mono (by decide)) (by rfl) T.m_l_well FW.kp (bWell FW) .nil pass0 (pa_cons (pv 0) (pa_cons (pv 1) pa_nil))))
      (pss_cons (ps_set (i := 3) scLaw.nd rfl (Or.inl rfl) (pe_lst pa_nil))
      (pss_one (ps_for PassesOwn.never rfl (pi_range1 (by rfl) T.g_range (pa_cons pe_int pa_nil)) (pg_name (i := 4) scLaw.nd rfl (Or.inl rfl))
        (pss_cons (ps_asg (pe_call GS (hr.mono (by decide)) (by rfl) T.m_l_parts FS.kp (bPs FS) .nil pass0 (pa_cons (pv 2) pa_nil)) (pg_tup (by rfl) (pgs_cons (pg_name (i := 5) scLaw.nd rfl (Or.inr rfl)) (pgs_cons (pg_name (i := 6) scLaw.nd rfl (Or.inl rfl)) pgs_nil))))
        (pss_cons (ps_set (i := 7) scLaw.nd rfl (Or.inr rfl) (LamX.pe_lamcall (X := LwCx P w K mg base (He.fAd K ("law", none)) (.ref c) A outer s H E [] (fun _ _ => False)) (T := Tt3 Pt) (TT := LamX.TTmix K 2 (clauses K) "told") (k := 5) (t := fun E => tCall (spMade K) [] E (tCons (tVar 5) tNil)) (by rfl) T.m_l_said FYk lk hcd b0 scSaid rfl (Or.inl rfl)
          (gives (X := LwCx P w K mg base (He.fAd K ("law", none)) (.ref c) A outer s H E [] (fun _ _ => False)) T) TB rfl (List.mem_singleton.mpr rfl) (hu3 rfl) hr
          (show LamX.LamS (defScope sLaw) _ from LamX.lamS_by (by decide +kernel)) rfl (fun _ _ _ _ _ => rfl)
          (fun A outer s H E f c' hr => pe_call GM hr (by rfl) T.m_l_made FM.kp (bMade FM) .nil lam_pass (pa_cons (pv 5) pa_nil))))
        (pss_cons (ps_if (pt_cmpR op_notN (pv 6) pe_non (nomark _)) (pss_cons (ps_if (pt_cmpR (op_neD hr.units) (pv 7) (pe_tup (pa_cons pe_str (pa_cons (pv 6) pa_nil))) (nomark _)) (pss_one (ps_ret pe_bl)) pss_nil) (pss_one ps_continue)) pss_nil)
        (pss_cons (ps_set (i := 8) scLaw.nd rfl (Or.inr rfl) (pe_lst (pa_cons (pe_ix ix_list (pv 5) pe_int (fun _ _ => rfl)) (pa_cons (pe_callTy call_tupS (by rfl) T.g_tuple boot_tuple (pa_cons (pe_ix ix_list (pv 5) pe_int (fun _ _ => rfl)) pa_nil)) (pa_cons (pe_ix ix_list (pv 5) pe_int (fun _ _ => rfl))
          (pa_cons (pe_callTy call_tupS (by rfl) T.g_tuple boot_tuple (pa_cons (pe_ix ix_list (pv 5) pe_int (fun _ _ => rfl)) pa_nil)) (pa_cons (pe_callTy call_tupS (by rfl) T.g_tuple boot_tuple (pa_cons (pe_ix ix_list (pv 5) pe_int (fun _ _ => rfl)) pa_nil)) pa_nil)))))))
        (pss_cons (ps_if (pt_val (pe_callB call_isi (by rfl) T.g_isinstance boot_isinstance (pa_cons (pe_ix ix_list (pv 5) pe_int (fun _ _ => rfl)) (pa_cons (pe_bltn (v := .ty "list") (by rfl) T.g_list boot_list rfl) pa_nil)))) (pss_one (ps_expr (pe_bm PySem.F.plainAttrs_list PySem.F.slot_list_append PySem.F.type_list_append mt_append (pe_ix ix_list (pv 5) pe_int (fun _ _ => rfl)) (pa_cons pe_str pa_nil)))) pss_nil)
        (pss_cons (ps_if (PW.pt (pw_or (pt_cmpR op_ne (pe_ix ix_tup (pv 7) pe_int (fun _ _ => rfl)) pe_str (nomark _)) (pw_or1 (pt_cmpR (op_neD hr.units) (pe_call GT (hr.mono (by decide)) (by rfl) T.m_l_told FT.kp (bTold FT) .nil pass0 (pa_cons (pe_ix ix_tup (pv 7) pe_int (fun _ _ => rfl)) pa_nil)) (pv 8) (nomark _))))) (pss_one (ps_ret pe_bl)) pss_nil)
        (pss_cons (ps_if (pt_cmpR (op_neD hr.units)
            (pe_lc (own := [("_law_other", 9), ("_law_its", 10)]) (g := gTup K 2 (gCons (gName 9) (gCons (gName 10) gNil))) (tt := tYes) (te := tOp (rPhS K) (tVar 9) (tOp (rIxT K) (tVar 7) (tC (.int 1)))) rfl scLaw.nd (pi_list (pv 3)) (blkOk_by (N := nLaw) (sc := defScope sLaw) (by decide +kernel)) (fun _ _ _ _ _ => pg_tup (by rfl) (pgs_cons (pg_name (i := 9) scLaw.nd rfl (Or.inl rfl)) (pgs_cons (pg_name (i := 10) scLaw.nd rfl (Or.inl rfl)) pgs_nil))) (fun _ _ _ _ _ => pts_nil)
              (fun _ _ _ _ _ => pe_cmpR (op_phS T FE r1) (pv 9) (pe_ix ix_tup (pv 7) pe_int (fun _ _ => rfl)) (nomark _)))
            (pe_lc (own := [("_law_other", 9), ("_law_its", 10)]) (g := gTup K 2 (gCons (gName 9) (gCons (gName 10) gNil))) (tt := tYes) (te := tOp (rEqD K) (tVar 10) (tVar 8)) rfl scLaw.nd (pi_list (pv 3)) (blkOk_by (N := nLaw) (sc := defScope sLaw) (by decide +kernel)) (fun _ _ _ _ _ => pg_tup (by rfl) (pgs_cons (pg_name (i := 9) scLaw.nd rfl (Or.inl rfl)) (pgs_cons (pg_name (i := 10) scLaw.nd rfl (Or.inl rfl)) pgs_nil))) (fun _ _ _ _ _ => pts_nil)
              (fun _ _ _ _ _ => pe_cmpR (op_eqD u64) (pv 10) (pv 8) (nomark _))) (nomark _)) (pss_one (ps_ret pe_bl)) pss_nil)
        (pss_cons (ps_expr (pe_bm PySem.F.plainAttrs_list PySem.F.slot_list_append PySem.F.type_list_append mt_append (pv 3) (pa_cons (pe_tup (pa_cons (pe_ix ix_tup (pv 7) pe_int (fun _ _ => rfl)) (pa_cons (pv 8) pa_nil))) pa_nil)))
        (pss_one (ps_if (pt_cmpR (op_neD hr.units) (pe_call GT (hr.mono (by decide)) (by rfl) T.m_l_told FT.kp (bTold FT) .nil pass0 (pa_cons (pe_makeK0 (ks := ["waits", "name"]) T.mk_Phase GI (hr.mono (by decide)) (by rfl) T.m_Phase kB passN (pk_cons (pe_ix ix_list (pv 8) pe_int (fun _ _ => rfl)) (pk_cons (pe_ix ix_list (pv 8) pe_int (fun _ _ => rfl)) pk_nil))) pa_nil))
            (pe_lst (pa_cons (pe_ix ix_list (pv 8) pe_int (fun _ _ => rfl)) (pa_cons (pe_tup pa_nil) (pa_cons pe_bl (pa_cons (pe_tup pa_nil) (pa_cons (pe_ix ix_list (pv 8) pe_int (fun _ _ => rfl)) pa_nil)))))) (nomark _)) (pss_one (ps_ret pe_bl)) pss_nil)))))))))))))))
    (pss_one (ps_ret (pe_and (pe_cmpR op_isBl (pe_cmpR (op_phS T FE r1) (pe_makeK (n := 1) (ks := []) T.mk_Phase GI (hr.mono (by decide)) (by rfl) T.m_Phase kC passN (pa_cons pe_str pa_nil) pk_nil) pe_str (nomark _)) pe_bl (nomark _))
      (pe_one (pe_cmpR (op_eqD hr.units) (pe_call GT (hr.mono (by decide)) (by rfl) T.m_l_told FT.kp (bTold FT) .nil pass0 (pa_cons (pe_makeK (n := 1) (ks := []) T.mk_Phase GI (hr.mono (by decide)) (by rfl) T.m_Phase kC passN (pa_cons pe_str pa_nil) pk_nil) pa_nil))
        (pe_lst (pa_cons pe_str (pa_cons (pe_tup pa_nil) (pa_cons pe_bl (pa_cons (pe_tup pa_nil) (pa_cons (pe_tup pa_nil) pa_nil)))))) (nomark _))))))), ?_⟩
  obtain ⟨sc, ns, rfl, ha, few, tb, k⟩ := h
  refine ⟨_, rfl, sc, _, rfl, .inl ha, _, _, rfl, rfl, _, rfl, ?_, ?_, ?_⟩
  · rw [List.length_map]
    omega
  · rw [List.length_map]
    omega
  rw [List.length_map]
  refine for_range (lo := 0) (n := ((ns.length : Int) + 1).toNat) (fun i σ G => ∃ v1 v2 v3 v4 v5 v6 v7 v8 v9 v10 : Option V, σ = [some (.ref sc), v1, v2, v3, v4, v5, v6, v7, v8, v9, v10] ∧ SqL K G sc (ns.map V.int) ∧ LamX.Tabs (Tt3 Pt) G)
    ⟨none, none, none, none, none, none, none, none, none, none, rfl, ha, tb⟩ (fun i σ G lt p => ?_) (fun σ G p => ?_)
  · obtain ⟨v1, v2, v3, v4, v5, v6, v7, v8, v9, v10, rfl, hG, tG⟩ := p
    have lt' : i ≤ 63 := by omega
    refine ⟨_, rfl, _, rfl, sc, ns, i, by rw [Int.zero_add]; rfl, hG, few, lt', fun H2 a n2 w2 s2 => ?_⟩
    refine ⟨(show 0 ≤ sizeLine by decide), fun kl nkl => ?_⟩
    have M0 : In K (Tt3 Pt) sc a kl (ns.map V.int) [] 0 (upd H2 kl (.lst [])) := by
      have S := Same.new (o := .lst []) nkl
      refine ⟨(hG.same s2).same S, sql_ne hG n2, sql_ne (hG.same s2) nkl, w2.same S, (tG.ext s2).ext S, w2.new nkl, ⟨[], upd_same, rfl, fun i e d h => absurd h (by simp)⟩, Nat.le_refl _⟩
    refine ⟨8, rfl, by decide, by decide, ?_⟩
    refine for_range (lo := 0) (n := 8) (fun j σ G => ∃ (v4 v5 v6 v7 v8 v9 v10 : Option V) (ds : List Ph), σ = [some (.ref sc), some (.int (0 + (i : Int))), some (.ref a), some (.ref kl), v4, v5, v6, v7, v8, v9, v10] ∧ In K (Tt3 Pt) sc a kl (ns.map V.int) ds j G)
      ⟨v4, v5, v6, v7, v8, v9, v10, [], rfl, M0⟩ (fun j σ G ltj p => ?_) (fun σ G p => ?_)
    · clear M0 w2 s2 n2 nkl hG tG
      obtain ⟨v4, v5, v6, v7, v8, v9, v10, ds, rfl, M⟩ := p
      refine ⟨_, rfl, a, rfl, M.wl, fun H1 p g ys wr Hg hp hg w1 b1 dr => ?_⟩
      have ltd : ds.length ≤ 8 := by have := M.kp.le; omega
      refine ⟨p, _, rfl, SqT.of hp, rfl, _, _, rfl, _, _, rfl, rfl, ?_⟩
      have M1 := M.but b1 w1
      refine ⟨M1.tb, fun H2 ex t2 => ?_⟩
      have M2 := M1.ext ex t2
      have hg2 := ex _ _ hg (fun _ z => by cases z)
      rcases dr H2 ex with ⟨rfl, z, c1, b, c3, c4, nc, r1', r3', r4', rfl, lo1, lo3, lo4⟩ | ⟨u, y0, y1, y2, y3, y4, r0, r1', r2, r3, r4, rfl, rfl, i0, i1, i2, i3, i4, wu⟩
      case inr =>
        refine ⟨_, rfl, g, y0, y1, y2, y3, y4, r0, r1', r2, r3, r4, rfl, hg2, i0, i1, i2, i3, i4, fun u' e => ?_, fun z ws b ps qs e0 e1 e2 e3 e4 => ?_⟩
        case refine_2 =>
          rw [e0, e1, e2, e3, e4] at wu
          exact absurd wu (by simp [wrong])
        obtain rfl : u = u' := Option.some.inj (wu.symm.trans e)
        refine told_no T (fun H3 p3 n3 s3 e3 => ?_)
        have M3 := M2.same s3
        refine ⟨_, rfl, rfl, _, rfl, ?_⟩
        rw [show (!decide (V.str u = V.non)) = true by simp]
        refine iteT ⟨_, rfl, _, rfl, (show 2 ≤ sizeLine by decide), fun q nq => ?_⟩
        have S := Same.new (o := .tup [.str "no", .str u]) nq
        have ly := wrong_lay wu
        refine ⟨_, _, .tup (SqT.of (S _ _ e3)) (.cons (.str _) (.cons (.str _) .nil)), .tup (SqT.of upd_same) (.cons (.str _) (.cons (.str _) .nil)), no_shp ly, no_shp ly, _, rfl, ?_⟩
        rw [no_eqv]
        exact iteF ⟨_, _, _, _, _, _, _, ds, rfl, (M3.same S).up⟩
      have G0n : ∀ {r : Addr} {ys : List V}, LoT K G H2 r ys → (G r = none ∧ H2 r = some (.lst ys)) ∨ SqT K H2 r ys := fun h => h
      have x1 : LX K [] G H2 r1' (c1.map V.str) := LX.of lo1 (by simp)
      have x3 : LX K [] G H2 r3' (c3.map V.str) := LX.of lo3 (by simp)
      have x4 : LX K [] G H2 r4' (c4.map V.str) := LX.of lo4 (by simp)
      refine ⟨_, rfl, g, _, _, _, _, _, some z, some (c1.map V.str), some b, some (c3.map V.str), some (c4.map V.str), rfl, hg2, .inl ⟨z, rfl, by have := name_len nc.z; omega, by rw [nc.z]; rfl⟩, isL_o x1 nc.l1 nc.s1 nc.k1 nc.n1, .inl ⟨b, rfl, rfl⟩, isL_o x3 nc.l3 nc.s3 nc.k3 nc.n3, isL_o x4 nc.l4 nc.s4 nc.k4 nc.n4,
        fun u e => absurd e (by simp [wrong]), fun z' ws' b' ps' qs' e0 e1 e2 e3 e4 H3 ph nph S3 at_ => ?_⟩
      obtain rfl := Option.some.inj e0
      obtain rfl := Option.some.inj e1
      obtain rfl := Option.some.inj e2
      obtain rfl := Option.some.inj e3
      obtain rfl := Option.some.inj e4
      have ln1 : (c1.map V.str).length ≤ 1000 := by rw [List.length_map]; have := nc.k1; omega
      refine ⟨(show 2 ≤ sizeLine by decide), fun tp ntp => ?_⟩
      have S4 := Same.new (o := .tup [.str "told", .ref ph]) ntp
      have htp : upd H3 tp (.tup [.str "told", .ref ph]) tp = some (.tup [.str "told", .ref ph]) := upd_same
      have M4 := (M2.same S3).same S4
      have hg4 := S4 _ _ (S3 _ _ hg2)
      have S34 := S3.trans S4
      have v1 : SqV K H2 r1' (c1.map V.str) := lo1.imp (fun h => SqL.of h.2) id
      have v3 : SqV K H2 r3' (c3.map V.str) := lo3.imp (fun h => SqL.of h.2) id
      have v4' : SqV K H2 r4' (c4.map V.str) := lo4.imp (fun h => SqL.of h.2) id
      have v1 := v1.same S34
      have v3 := v3.same S34
      have v4' := v4'.same S34
      have ltn : LoT K G H2 r3' (c3.map V.str) := lo3
      have lo3 : (G r3' = none ∧ upd H3 tp (.tup [.str "told", .ref ph]) r3' = some (.lst (c3.map V.str))) ∨ SqT K (upd H3 tp (.tup [.str "told", .ref ph])) r3' (c3.map V.str) := ltn.imp (fun h => ⟨h.1, S34 _ _ h.2⟩) (fun h => h.same S34)
      have kk : (⟨z, c1, b, c3, c4⟩ : Ph).Kk := ⟨⟨nc.l1, nc.l3, nc.l4⟩, name_lay nc.z⟩
      have hph : PhS K (upd H3 tp (.tup [.str "told", .ref ph])) ph ⟨z, c1, b, c3, c4⟩ := by
        obtain ⟨dx, t1, t2, t3, q1, q2, q3, q4⟩ := at_
        exact ⟨dx, t1, t2, t3, S4 _ _ q1, q2.same S4, q3.same S4, q4.same S4⟩
      have gk : g ≠ kl := (fun z => by
        obtain ⟨es, e1, _⟩ := M.kp.at_
        rw [z, e1] at Hg
        cases Hg)
      generalize upd H3 tp (.tup [.str "told", .ref ph]) = H4 at htp M4 hg4 v1 v3 v4' lo3 hph ⊢
      clear S3 S4 S34 ntp at_ ltn lo1 lo4 x1 x3 x4 e0 e1 e2 e3 e4 nph M1 M2 hg2 hg G0n dr hp ex t2
      refine ⟨_, rfl, rfl, _, rfl, iteF ?_⟩
      -- what is due
      refine ⟨_, rfl, g, _, 0, _, rfl, rfl, SqL.of hg4, rfl, ?_⟩
      refine ⟨_, rfl, g, _, 1, _, rfl, rfl, SqL.of hg4, rfl, r1', _, rfl, v1, fun t1 G1 S1 ht1 => ?_⟩
      have hg5 := S1 _ _ hg4
      refine ⟨_, rfl, g, _, 2, _, rfl, rfl, SqL.of hg5, rfl, ?_⟩
      refine ⟨_, rfl, g, _, 3, _, rfl, rfl, SqL.of hg5, rfl, r3', _, rfl, v3.same S1, fun t2 G2 S2 ht2 => ?_⟩
      have hg6 := S2 _ _ hg5
      refine ⟨_, rfl, g, _, 4, _, rfl, rfl, SqL.of hg6, rfl, r4', _, rfl, (v4'.same S1).same S2, fun t3 G3 S3 ht3 => ?_⟩
      have hg7 := S3 _ _ hg6
      refine ⟨(show 5 ≤ sizeLine by decide), fun dl ndl => ?_⟩
      have S5 := Same.new (o := .lst [.str z, .ref t1, .bl b, .ref t2, .ref t3]) ndl
      have S := ((S1.trans S2).trans S3).trans S5
      have hdu : Due K (upd G3 dl (.lst [.str z, .ref t1, .bl b, .ref t2, .ref t3])) dl ⟨z, c1, b, c3, c4⟩ := ⟨t1, t2, t3, upd_same, ((ht1.same S2).same S3).same S5, (ht2.same S3).same S5, ht3.same S5⟩
      have M3' := M4.same ((S1.trans S2).trans S3)
      have da : dl ≠ a := M3'.wl.new ndl
      have dk : dl ≠ kl := (fun z => by
        obtain ⟨es, e1⟩ := M3'.kp.ls
        rw [z, e1] at ndl
        cases ndl)
      have M5 := M4.same S
      have hg8 := S5 _ _ hg7
      have htp := S _ _ htp
      have hph := (hph.bx M4.wl.ls (Bx.same S))
      have lo3 : (G r3' = none ∧ dl ≠ r3' ∧ upd G3 dl (.lst [.str z, .ref t1, .bl b, .ref t2, .ref t3]) r3' = some (.lst (c3.map V.str))) ∨ SqT K (upd G3 dl (.lst [.str z, .ref t1, .bl b, .ref t2, .ref t3])) r3' (c3.map V.str) :=
        lo3.imp (fun h => ⟨h.1, (ne_of_none (S3 _ _ (S2 _ _ (S1 _ _ h.2))) ndl).symm, S _ _ h.2⟩) (fun h => h.same S)
      generalize upd G3 dl (.lst [.str z, .ref t1, .bl b, .ref t2, .ref t3]) = H5 at hdu M5 hg8 htp hph lo3 ⊢
      clear S1 S2 S3 S5 S ht1 ht2 ht3 ndl M3' M4 hg4 hg5 hg6 hg7 v1 v3 v4'
      rcases lo3 with ⟨n3, d3, h3⟩ | h3
      refine ⟨_, rfl, g, _, 3, _, rfl, rfl, SqL.of hg8, rfl, _, _, _, _, true, rfl, .ty "list", .base (.lst h3), kit_ty (by decide +kernel), true, rfl, iteT ?_⟩
      have ln3 : (c3.map V.str).length < sizeLine := by rw [List.length_map]; have := nc.k3; have : 1000 < sizeLine := by decide
                                                        omega
      refine ⟨_, rfl, g, _, 3, _, rfl, rfl, SqL.of hg8, rfl, .inl ⟨rfl, _, SqL.of h3⟩, r3', _, _, rfl, rfl, h3, ln3, ?_⟩
      have rk : r3' ≠ kl := fun z => by
        obtain ⟨es, e1⟩ := M.kp.ls
        rw [← z, n3] at e1
        cases e1
      have M6 := M5.off (o := .lst (c3.map V.str ++ [.str "once"])) ⟨_, h3⟩ (M.wl.new n3) rk (sql_ne M.sq n3) (fun l d h => due_ne h h3)
      have B6 : Bx r3' H5 (upd H5 r3' (.lst (c3.map V.str ++ [.str "once"]))) := Bx.but But.upd
      have hdu := hdu.bx d3 ⟨_, h3⟩ B6
      have hph := hph.bx ⟨_, h3⟩ B6
      have htp := bx_at B6 ⟨_, h3⟩ htp (fun _ z => by cases z) (fun _ z => by cases z)
      clear M5 hg8 B6 ln3
      generalize upd H5 r3' (.lst (c3.map V.str ++ [.str "once"])) = H5 at M6 hdu hph htp ⊢
      clear h3 d3 n3
      rotate_left
      refine ⟨_, rfl, g, _, 3, _, rfl, rfl, SqL.of hg8, rfl, _, _, _, _, false, rfl, .ty "list", ty_sqt h3, kit_ty (by decide +kernel), false, rfl, iteF ?_⟩
      have M6 := M5
      clear M5 hg8 h3
      all_goals
        -- the word, the attributes
        refine ⟨_, rfl, tp, _, 0, _, rfl, rfl, SqT.of htp, rfl, rfl, _, rfl, ?_⟩
        rw [show (!decide (V.str "told" = V.str "told")) = false by simp]
        refine iteF ⟨_, rfl, tp, _, 1, _, rfl, rfl, SqT.of htp, rfl, ph, z, _, b, _, _, rfl, hph, fun l q1 q2 q3 nl a1 a2 a3 => ?_⟩
        have S := Same.new (o := .lst [.str z, .ref q1, .bl b, .ref q2, .ref q3]) nl
        have hdq : Due K (upd H5 l (.lst [.str z, .ref q1, .bl b, .ref q2, .ref q3])) l ⟨z, c1, b, c3, c4⟩ := ⟨q1, q2, q3, upd_same, a1.same S, a2.same S, a3.same S⟩
        have hdu := hdu.bx da M6.wl.ls (Bx.same S)
        have hph := hph.bx M6.wl.ls (Bx.same S)
        have htp := S _ _ htp
        have M7 := M6.same S
        generalize upd H5 l (.lst [.str z, .ref q1, .bl b, .ref q2, .ref q3]) = H7 at hdq hdu hph htp M7 ⊢
        clear S a1 a2 a3 nl M6
        refine ⟨_, rfl, _, _, hdq.dp, hdu.dp, dat_shp kk, dat_shp kk, _, rfl, ?_⟩
        rw [dat_eqv, decide_eq_true rfl]
        refine iteF ?_
        clear hdq
        -- those that are kept
        have M7' := M7.kp
        obtain ⟨_, ⟨es, hes, les, kes⟩, _⟩ := M7'
        refine ⟨_, rfl, kl, rfl, ⟨_, SqL.of hes⟩, fun D1 nD1 => ?_⟩
        refine lc_list (K := K) (xs := es) (fun i G' => Same H7 G' ∧ G' D1 = some (.lst (((ds.take i).map fun e => decide (e = (⟨z, c1, b, c3, c4⟩ : Ph))).map V.bl))) ⟨Same.new nD1, upd_same⟩ (fun i G' _ q => SqL.of (q.1 _ _ hes)) (fun i x G' hx q => ?_) (fun G' q => ?_)
        · obtain ⟨sG, hD⟩ := q
          have lt := (List.getElem?_eq_some_iff.mp hx).1
          obtain ⟨e, he⟩ : ∃ e, ds[i]? = some e := ⟨ds[i]'(by omega), List.getElem?_eq_getElem (by omega)⟩
          obtain ⟨⟨t, q, l, rfl, k1, k2, k3, _, _⟩, ok⟩ := kes i x e hx he
          refine ⟨t, _, rfl, SqT.of (sG _ _ k1), rfl, _, _, rfl, _, _, rfl, rfl, rfl, _, rfl, _, rfl, tp, _, 1, _, rfl, rfl, SqT.of (sG _ _ htp), rfl, q, e, rfl, k2.bx M7.wl.ls (Bx.same sG), ok.ok, .inl ⟨ph, _, rfl, hph.bx M7.wl.ls (Bx.same sG), kk.ok, _, hD, ?_, same_put sG nD1, ?_⟩⟩
          · rw [List.length_map, List.length_map, List.length_take]
            omega
          · rw [upd_same, List.take_succ, he]
            simp
        · obtain ⟨sG, hD1⟩ := q
          rw [les, List.take_length] at hD1
          have hdu := hdu.bx da M7.wl.ls (Bx.same sG)
          have hph := hph.bx M7.wl.ls (Bx.same sG)
          have htp := sG _ _ htp
          have M8 := M7.same sG
          clear sG kes les hes nD1 M7
          have M8' := M8.kp
          obtain ⟨_, ⟨es, hes, les, kes⟩, _⟩ := M8'
          refine ⟨_, rfl, kl, rfl, ⟨_, SqL.of hes⟩, fun D2 nD2 => ?_⟩
          refine lc_list (K := K) (xs := es) (fun i G2 => Same G' G2 ∧ G2 D2 = some (.lst (((ds.take i).map fun e => decide (e = (⟨z, c1, b, c3, c4⟩ : Ph))).map V.bl))) ⟨Same.new nD2, upd_same⟩ (fun i G2 _ q => SqL.of (q.1 _ _ hes)) (fun i x G2 hx q => ?_) (fun G2 q => ?_)
          · obtain ⟨sG, hD⟩ := q
            have lt := (List.getElem?_eq_some_iff.mp hx).1
            obtain ⟨e, he⟩ : ∃ e, ds[i]? = some e := ⟨ds[i]'(by omega), List.getElem?_eq_getElem (by omega)⟩
            obtain ⟨⟨t, q, l, rfl, k1, k2, k3, n1, _⟩, ok⟩ := kes i x e hx he
            refine ⟨t, _, rfl, SqT.of (sG _ _ k1), rfl, _, _, rfl, _, _, rfl, rfl, rfl, _, rfl, _, rfl, _, _, (k3.bx n1 M8.wl.ls (Bx.same sG)).dp, (hdu.bx da M8.wl.ls (Bx.same sG)).dp, dat_shp ok, dat_shp kk, _, hD, ?_, same_put sG nD2, ?_⟩
            · rw [List.length_map, List.length_map, List.length_take]
              omega
            · rw [upd_same, List.take_succ, he, dat_eqv]
              simp
          · obtain ⟨sG, hD2⟩ := q
            rw [les, List.take_length] at hD2
            have hdu := hdu.bx da M8.wl.ls (Bx.same sG)
            have hph := hph.bx M8.wl.ls (Bx.same sG)
            have htp := sG _ _ htp
            have hD1 := sG _ _ hD1
            have M9 := M8.same sG
            have hes := sG _ _ hes
            clear sG kes nD2 M8
            refine ⟨_, _, .lst (SqL.of hD1) (dpBs _), .lst (SqL.of hD2) (dpBs _), shpB, shpB, _, rfl, ?_⟩
            rw [show ∀ bs : List Bool, PyData.eqv (.list (bs.map PyData.bool)) (.list (bs.map PyData.bool)) = true from eqvBs]
            refine iteF ?_
            clear hD1 hD2
            -- one more is kept
            refine ⟨_, rfl, .inl ⟨rfl, _, SqL.of hes⟩, _, rfl, tp, _, 1, _, rfl, rfl, SqT.of htp, rfl, _, rfl, (show 2 ≤ sizeLine by decide), fun ep nep => ?_⟩
            have S := Same.new (o := .tup [.ref ph, .ref dl]) nep
            have hes2 := S _ _ hes
            have hdu := hdu.bx da M9.wl.ls (Bx.same S)
            have hph := hph.bx M9.wl.ls (Bx.same S)
            have M10 := M9.same S
            have k1 : Kp1 K (upd G2 ep (.tup [.ref ph, .ref dl])) (.ref ep) ⟨z, c1, b, c3, c4⟩ a kl := ⟨⟨ep, ph, dl, rfl, upd_same, hph, hdu, da, dk⟩, kk⟩
            refine ⟨kl, _, _, rfl, rfl, hes2, by omega, ?_⟩
            have M11 := M10.more hes2 k1
            have hdu := hdu.bx dk ⟨_, hes2⟩ (Bx.but (But.upd (o := .lst (es ++ [.ref ep]))))
            generalize upd (upd G2 ep (.tup [.ref ph, .ref dl])) kl (.lst (es ++ [.ref ep])) = H11 at M11 hdu ⊢
            clear k1 M10 S M9 hes2 hes nep hph htp
            -- by name, with the defaults
            have ok0 : (⟨z, [], false, [], c4⟩ : Ph).Kk := ⟨⟨lay0, lay0, nc.l4⟩, name_lay nc.z⟩
            have hdl := hdu
            obtain ⟨e1, e2, e3, hl, _, _, b3⟩ := hdl
            refine ⟨_, rfl, dl, _, 4, _, rfl, rfl, SqL.of hl, rfl, _, rfl, dl, _, 0, _, rfl, rfl, SqL.of hl, rfl, rfl, rfl, fun x dx nx ndx ne => ?_⟩
            have S := same_ins (o := .own x) (o' := .ins (ga K "Phase") dx []) nx ndx ne
            refine ⟨x, dx, .str z, .ref (kwA ("Phase", some "__init__") "writers" K), .bl false, .ref (kwA ("Phase", some "__init__") "promises" K), .ref e3, some z, some [], some false, some [], some (c4.map V.str), rfl, upd_same,
              .inl ⟨z, rfl, by have := name_len nc.z; omega, by rw [nc.z]; rfl⟩, isL_e T.k_Phase_writers rfl, .inl ⟨false, rfl, rfl⟩, isL_e T.k_Phase_promises rfl, isL_o (ex := []) (H := H11) (.inr (b3.same S)) nc.l4 nc.s4 nc.k4 nc.n4,
              fun u e => absurd e (by simp [wrong]), fun z' ws' b' ps' qs' f0 f1 f2 f3 f4 H' bt at_ => ⟨rfl, ?_⟩⟩
            obtain rfl := Option.some.inj f0
            obtain rfl := Option.some.inj f1
            obtain rfl := Option.some.inj f2
            obtain rfl := Option.some.inj f3
            obtain rfl := Option.some.inj f4
            have SS := same_but S nx bt
            have M12 := M11.same SS
            have hl := SS _ _ hl
            have b3 := b3.same SS
            clear S SS bt M11 hdu nx ndx ne f0 f1 f2 f3 f4
            refine ⟨x, z, [], false, [], _, rfl, at_, fun l q1 q2 q3 nl a1 a2 a3 => ?_⟩
            have S := Same.new (o := .lst [.str z, .ref q1, .bl false, .ref q2, .ref q3]) nl
            have hdq : Due K (upd H' l (.lst [.str z, .ref q1, .bl false, .ref q2, .ref q3])) l ⟨z, [], false, [], c4⟩ := ⟨q1, q2, q3, upd_same, a1.same S, a2.same S, a3.same S⟩
            have hl := S _ _ hl
            have b3 := b3.same S
            have M13 := M12.same S
            have la := M12.wl.new nl
            generalize upd H' l (.lst [.str z, .ref q1, .bl false, .ref q2, .ref q3]) = H13 at hdq hl b3 M13 ⊢
            clear S a1 a2 a3 nl M12 at_
            refine ⟨_, rfl, dl, _, 0, _, rfl, rfl, SqL.of hl, rfl, (show 0 ≤ sizeLine by decide), fun m1 nm1 => ⟨(show 0 ≤ sizeLine by decide), fun m2 nm2 => ?_⟩⟩
            have S1 := Same.new (o := .tup []) nm1
            have S2 := Same.new (o := .tup []) nm2
            have S12 := S1.trans S2
            refine ⟨_, rfl, dl, _, 4, _, rfl, rfl, SqL.of (S12 _ _ hl), rfl, (show 5 ≤ sizeLine by decide), fun m3 nm3 => ?_⟩
            have S3 := Same.new (o := .lst [.str z, .ref m1, .bl false, .ref m2, .ref e3]) nm3
            have S := S12.trans S3
            refine ⟨_, _, (hdq.bx la M13.wl.ls (Bx.same S)).dp, Due.dp (d := ⟨z, [], false, [], c4⟩) ⟨m1, m2, e3, upd_same, (SqT.of upd_same : SqT K _ m1 []).same (S2.trans S3), (SqT.of upd_same : SqT K _ m2 []).same S3, b3.same S⟩, dat_shp ok0, dat_shp ok0, _, rfl, ?_⟩
            rw [dat_eqv, decide_eq_true rfl]
            exact iteF ⟨_, _, _, _, _, _, _, ds ++ [⟨z, c1, b, c3, c4⟩], rfl, M13.same S⟩
    · obtain ⟨v4, v5, v6, v7, v8, v9, v10, ds, rfl, M⟩ := p
      exact ⟨_, _, _, _, _, _, _, _, _, _, rfl, M.sq, M.tb⟩
  · obtain ⟨v1, v2, v3, v4, v5, v6, v7, v8, v9, v10, rfl, hG, tG⟩ := p
    have ok0 : (⟨"a", [], false, [], []⟩ : Ph).Kk := ⟨⟨lay0, lay0, lay0⟩, by decide +kernel⟩
    have mk : ∀ {G : Hp} {x dx : Addr} {R : VK}, G x = none → G dx = none → dx ≠ x → (∀ H', Same G H' → PhS K H' x ⟨"a", [], false, [], []⟩ → R .non H') →
        spPhI K [.ref x, .str "a", .ref (kwA ("Phase", some "__init__") "writers" K), .bl false, .ref (kwA ("Phase", some "__init__") "promises" K), .ref (kwA ("Phase", some "__init__") "waits" K)] (upd (upd G dx (.own x)) x (.ins (ga K "Phase") dx [])) R (fun _ _ _ => False) :=
      fun {G x dx R} nx ndx ne k => ⟨x, dx, .str "a", _, .bl false, _, _, some "a", some [], some false, some [], some [], rfl, upd_same, .inl ⟨"a", rfl, by decide, by decide +kernel⟩, isL_e T.k_Phase_writers rfl, .inl ⟨false, rfl, rfl⟩, isL_e T.k_Phase_promises rfl, isL_e T.k_Phase_waits rfl,
        fun u e => absurd e (by simp [wrong]), fun z' ws' b' ps' qs' f0 f1 f2 f3 f4 H' bt at_ => by
          obtain rfl := Option.some.inj f0
          obtain rfl := Option.some.inj f1
          obtain rfl := Option.some.inj f2
          obtain rfl := Option.some.inj f3
          obtain rfl := Option.some.inj f4
          exact k H' (same_but (same_ins nx ndx ne) nx bt) at_⟩
    refine ⟨rfl, rfl, fun x dx nx ndx ne => mk nx ndx ne fun H1 S1 h1 => ⟨rfl, ?_⟩⟩
    refine ⟨x, _, rfl, h1, ok0.ok, .inr ⟨_, rfl, false, false, rfl, rfl, _, rfl, ?_⟩⟩
    refine iteT ⟨rfl, rfl, fun y dy ny ndy ne2 => mk ny ndy ne2 fun H2 S2 h2 => ⟨rfl, ?_⟩⟩
    refine ⟨y, "a", [], false, [], [], rfl, h2, fun l q1 q2 q3 nl a1 a2 a3 => ?_⟩
    have S := Same.new (o := .lst [.str "a", .ref q1, .bl false, .ref q2, .ref q3]) nl
    refine ⟨(show 0 ≤ sizeLine by decide), fun m1 nm1 => ⟨(show 0 ≤ sizeLine by decide), fun m2 nm2 => ⟨(show 0 ≤ sizeLine by decide), fun m3 nm3 => ⟨(show 5 ≤ sizeLine by decide), fun r nr => ?_⟩⟩⟩⟩
    have S1 := Same.new (o := .tup []) nm1
    have S2 := Same.new (o := .tup []) nm2
    have S3 := Same.new (o := .tup []) nm3
    have S4 := Same.new (o := .lst [.str "a", .ref m1, .bl false, .ref m2, .ref m3]) nr
    have SS := ((S1.trans S2).trans S3).trans S4
    refine ⟨_, _, Due.dp (d := ⟨"a", [], false, [], []⟩) ⟨q1, q2, q3, SS _ _ upd_same, (a1.same S).same SS, (a2.same S).same SS, (a3.same S).same SS⟩,
      Due.dp (d := ⟨"a", [], false, [], []⟩) ⟨m1, m2, m3, upd_same, (SqT.of upd_same : SqT K _ m1 []).same ((S2.trans S3).trans S4), (SqT.of upd_same : SqT K _ m2 []).same (S3.trans S4), (SqT.of upd_same : SqT K _ m3 []).same S4⟩, dat_shp ok0, dat_shp ok0, ?_⟩
    rw [dat_eqv, decide_eq_true rfl]
    exact k _
end
end K08

set_option maxRecDepth 100000
set_option maxHeartbeats 0
namespace K08
open PySem PySem.Spec PyProof.Rows L2 He VH
theorem facts {w : World} {K : PySem.W.Frag} {h : Heap} {mg : Str → Option Value} {f : Addr} (X : K.In h) (G : h.Ns mainGlobals mg) (hfa : mg ("law" : Str) = some (.ref f)) (c : He.SaysX fa fn ts tf ex w h K) :
    LamX.LawAtS PySem.Challenge.rw_fillbehind_k08_phases w K L2.CX0 8 63 "_law_script" mg f h := by
  have T := txt_of X G c
  have g : SaysD fa fn K := c.t.d
  have fns := fns_of g
  obtain ⟨fd, F⟩ := g.def_ 13 (d := dd 23 "law") rfl
  have e := hfa.symm.trans (glo_ok X G (g.fact 14 (f := .glo "law") rfl))
  cases e
  have b := FunD.bindsA (ps := ["_law_script"]) F fun _ _ _ _ _ _ us hl => match us, hl with | [_], _ => rfl
  have mem : (("law", none) : He.Defn) ∈ tf := List.mem_singleton.mpr rfl
  refine ⟨fd, [He.cT K ("law", none)], spLaw K (He.cT K ("law", none)).2, fun p hp => ?_, fun p hp => ?_, fun p hp => ?_, fun s v => b s [v] rfl, fun H a ns hl _ hT hS => ?_, fun base hb hg hTB => ?_⟩
  · rw [List.mem_singleton.mp hp]
    exact c.empty _ mem
  · rw [List.mem_singleton.mp hp]
    exact c.out _ mem
  · rw [List.mem_singleton.mp hp]
    exact PySem.W.codeHd_of_K X (c.hd _ mem)
  · refine ⟨a, ns, rfl, hS, hl, fun p hp => ?_, fun _ => rfl⟩
    rw [List.mem_singleton.mp hp]
    exact LamX.TabS.nil (hT _ (List.mem_singleton.mpr rfl))
  · exact ok_law F T fns rfl (hTB _ (List.mem_singleton.mpr rfl))
end K08
open PySem PySem.W PySem.Calls PyProof.Rows
theorem PySem.Challenge.cw_fillbehind_k08_phases_holds : PySem.Challenge.rw_fillbehind_k08_phases.Holds := by
  w_on; o_law
  refine HandSHeadRun.head_any (r := OpenLaw.row PySem.Challenge.rw_fillbehind_k08_phases) (q := view (OpenLaw.row PySem.Challenge.rw_fillbehind_k08_phases).prog [23]) (H := K08.hk) (ob := K08.ob) (M := 20000) (loose := K08.names) (d := HandSHeadRun.topDef (OpenLaw.row PySem.Challenge.rw_fillbehind_k08_phases).prog 23) (kwd := []) K08.ob_eq
    (by kernel_rfl) (fun s => by kernel_rfl) K08.run (by kernel_rfl) (by kernel_rfl) (by kernel_rfl) (by rfl) (by first | assumption | decide +kernel) (by decide +kernel) ⟨rfl, rfl, rfl, rfl, rfl, by decide +kernel⟩ ?hw ?hc
  case hw => w_witness2
  case hc =>
    refine LamX.walk_ofTsE (l := PySem.Challenge.rw_fillbehind_k08_phases) (n := 63) (k := 8) (x := "_law_script") (CX := fun _ => L2.CX0) rfl (by decide) (by kernel_rfl) ⟨rfl, by decide, by decide⟩ ?F (fun _ _ _ _ _ z => z)
    intro w mg fa h Y G hmg0
    obtain ⟨K, KX, c⟩ := Y
    have hmg : mg ("law" : PySem.Str) = some (.ref fa) := by
      have e : (HandSHeadRun.topDef (OpenLaw.row PySem.Challenge.rw_fillbehind_k08_phases).prog 23).name = ("law" : PySem.Str) := by kernel_rfl
      rw [← e]
      exact hmg0
    exact ⟨K, KX, K08.facts KX G hmg c⟩
