import PyProof.Rows.All
import Wide.All
import OpenK.AllK
import Wide.FinOn
import HandS.ForMost
import HandS.Wide
import HandS.Defaults
import HandS.HeadHook2
import HandS.Head0
import HandS.Head1
import HandS.Head2
import HandS.HeadEnd
import HandS.ExcInit
import HandS.ExcIs
import HandS.ExcField
import HandS.MakeKw
import HandS.Words
import KE.KStateDown
import HandS.HeadHook4
import HandS.HeadWalk
import HandS.NestedK
import HandS.OwnEq
import HandS.Star
import HandS.SlotsOwn
import HandS.More
import HandS.IsInst
import HandS.Zip
import HandS.Finally
import HandS.TupAny
import HandS.Lambda
import HandS.TryMany
import KE.KDflt
import HandS.MakeKwOnly
import PySem.Challenge.RW_fillbehind_k02_whole_statements_done
set_option Elab.async false
set_option linter.all false
set_option maxRecDepth 100000
set_option maxHeartbeats 4000000
/-! An own exception class over ValueError (at any depth), its object held as a value: made by place and by name. -/
namespace PySem.VX
open PySem PySem.Calls PyProof.Rows PySem.HandSPX
section
variable {M : Model} {A : Around} {E : Value → Shared → Prop} {h : Heap} {g : Array GenState} {d : Drawn} {t : Nat} {os : OsState}
variable {nm q : Str} {C N : Addr} {bs bm bmB : List Value} {hdct : Bool} {sn : List Str} {sub : List Value} {ab : Bool} {col : Option Bool} {dd : Option Addr} {k0 k1 k2 k3 k5 : Option Value} {B newId initId : String}

theorem look_new (F : ExcBaseFacts B newId initId bmB) (same : ∀ Y : String, bm.contains (.type Y) = bmB.contains (.type Y)) {ps : List Value} {kw : List (Str × Value)} {Q : Unit → Shared → Prop}
    (hC : h.get? C = some (excClassObj nm q C N bs bm hdct sn sub ab col dd k0 k1 k2 k3 k5 newId)) (go : Q () ⟨h, g, d, t, os⟩) :
    wpAny M A (checkBuiltinCall newId ⟨.ref C :: ps, kw⟩) Q E ⟨h, g, d, t, os⟩ := by
  have isB : (Value.ref C :: bm).contains (.type B) = true := by rw [List.contains_cons, same, F.hasB, Bool.or_true]
  have nost := F.noStar
  simp only [checkBuiltinCall, F.newKind, F.newSplit, F.newRow]
  repeat (first
    | refine wpAny_loadPart_at hC ?_
    | (refine wpAny_isSubtype_exc hC ?_; rw [isB])
    | refine wpAny_staticBase_exc hC ?_
    | refine wpAny_madeBy_exc hC ?_
    | simp only [bne_self_eq_false, Bool.false_eq_true, if_false]
    | wp_step)
  exact go
end

section
variable {prog : Program} {w : World} {A : Around} {E : Value → Shared → Prop} {R : Result → Shared → Prop} {h : Heap} {g : Array GenState} {d : Drawn} {t : Nat} {os : OsState}
variable {nm q : Str} {C N : Addr} {bs bm bmB : List Value} {hdct : Bool} {sn : List Str} {sub : List Value} {ab : Bool} {col : Option Bool} {dd : Option Addr} {k0 k1 k2 k3 k5 : Option Value} {B newId initId : String}
/-- the heap behind BaseException.__new__ -/
abbrev newH (h : Heap) (C : Addr) (ps : List Value) : Heap := (h.push (PySem.W.kdv_tup ps)).push (excO C h.objs.size)

theorem is_new (F : ExcBaseFacts B newId initId bmB) (same : ∀ Y : String, bm.contains (.type Y) = bmB.contains (.type Y)) {ps : List Value} {kw : List (Str × Value)}
    (hC : h.get? C = some (excClassObj nm q C N bs bm hdct sn sub ab col dd k0 k1 k2 k3 k5 newId)) (few : ps.length ≤ sizeLine)
    (go : R (.ok (.ret (.ref (h.objs.size + 1)))) ⟨newH h C ps, g, d, t, os⟩) :
    codeAny (model prog w) A (.builtin newId ⟨.ref C :: ps, kw⟩) R ⟨h, g, d, t, os⟩ := by
  have isB : (Value.ref C :: bm).contains (.type B) = true := by rw [List.contains_cons, same, F.hasB, Bool.or_true]
  have noA : (Value.ref C :: bm).contains (.type "AttributeError") = false := by rw [List.contains_cons, same, F.noAttr]; rfl
  have noN : (Value.ref C :: bm).contains (.type "NameError") = false := by rw [List.contains_cons, same, F.noName]; rfl
  have en := F.ends
  refine codeAny_builtinAt F.entry ?_
  unfold Builtin.«BaseException.__new__»
  refine wpAt_bind ?_
  show wpAt _ _ _ (stack >>= _) _ _ _
  refine wpAt_bind (wpAt_stack fun p under => wpAt_of_wpAny ?_)
  wp_walk
  refine wpAt_of_wpAny ?_
  rw [F.owner]
  repeat (first
    | with_reducible refine wpAny_madeHere_exc F.canon hC ?_
    | with_reducible refine wpAny_loadPart_at hC ?_
    | (with_reducible refine wpAny_isSubtype_exc hC ?_; first | rw [isB] | rw [noA] | rw [noN])
    | wp_step)
  show R _ _
  rw [Heap.size_push]
  exact go

theorem is_call (F : ExcBaseFacts B newId initId bmB) (same : ∀ Y : String, bm.contains (.type Y) = bmB.contains (.type Y)) {ps : List Value} {kw : List (Str × Value)} {fI : Addr} {Q : Fin → Shared → Prop}
    (hC : h.get? C = some (excClassObj nm q C N bs bm hdct sn sub ab col dd k0 k1 k2 k3 k5 newId)) (few : ps.length ≤ sizeLine)
    (ini : W.Looks (model prog w) h (typeLookup (.ref C) "__init__") (some (.ref fI))) (bnd : ∀ o, W.Looks (model prog w) h (bindSpecial (.ref fI) o) (.ref fI, [o]))
    (go : codeAny (model prog w) A (.call (.ref fI) ⟨.ref (h.objs.size + 1) :: ps, kw⟩)
      (fun r s' => match r with | .ok (.ret v) => v = .none ∧ Q (.done (.ret (.ref (h.objs.size + 1)))) s' | .ok _ => False | .error e => E e s') ⟨newH h C ps, g, d, t, os⟩) :
    wpAny (model prog w) A (Builtin.«type.__call__» ⟨.ref C :: ps, kw⟩) Q E ⟨h, g, d, t, os⟩ := by
  repeat (first
    | with_reducible refine wpAny_loadPart_at hC ?_
    | with_reducible refine wpAny_madeBy_exc hC ?_
    | wp_step)
  refine codeAny_call_builtin_code (Code.quiet_builtin _ F.quiet) (look_new F same hC ?_)
  refine is_new F same hC few ?_
  show wpAny _ _ _ _ _ _
  have keeps : ∀ b o, h.get? b = some o → (newH h C ps).get? b = some o := fun b o e => Heap.get?_push_of_some _ (Heap.get?_push_of_some _ e)
  have hC2 := keeps _ _ hC
  have at_e : (newH h C ps).get? (h.objs.size + 1) = some (excO C h.objs.size) := by heap_get
  have itself : (Value.ref C :: bm).contains (.ref C) = true := by simp
  have ini2 := ini.keeps keeps
  have bnd2 := (bnd (.ref (h.objs.size + 1))).keeps keeps
  unfold isInstance
  repeat (first
    | with_reducible refine wpAny_loadPart_at at_e ?_
    | (with_reducible refine wpAny_isSubtype_exc hC2 ?_; rw [itself])
    | wp_step)
  show wpAny _ _ (typeLookup (.ref C) _) _ _ _
  refine ini2.at ?_
  refine wpAny_holding (wpAny_bind (bnd2.at ?_))
  refine wpAny_bind (wpAny_call (codeAny_mono go fun r s' z => ?_))
  rcases r with e | (v | _ | _ | _) <;> first | exact z | exact z.elim | skip
  obtain ⟨rfl, z2⟩ := z
  first
    | exact wpAny_pure (wpAny_pure z2)
    | (wp_walk; exact z2)

theorem look_call {M : Model} {E : Value → Shared → Prop} {ps : List Value} {kw : List (Str × Value)} {Q : Unit → Shared → Prop} (hC : h.get? C = some (excClassObj nm q C N bs bm hdct sn sub ab col dd k0 k1 k2 k3 k5 newId)) (go : Q () ⟨h, g, d, t, os⟩) :
    wpAny M A (checkBuiltinCall "type.__call__" ⟨.ref C :: ps, kw⟩) Q E ⟨h, g, d, t, os⟩ := by
  have f := tc_sub
  have ty : (⟨h, g, d, t, os⟩ : Shared).TypeIs (.ref C) "type" := ⟨_, hC, rfl⟩
  simp only [checkBuiltinCall, tc_kind, tc_split]
  repeat (any_goals (first
    | assumption
    | with_reducible refine wpAny_loadPart_at hC ?_
    | with_reducible refine wpAny_onRaise ?_
    | with_reducible refine wpAny_map ?_
    | wp_step))

theorem call_it (F : ExcBaseFacts B newId initId bmB) (same : ∀ Y : String, bm.contains (.type Y) = bmB.contains (.type Y)) {ps : List Value} {kw : List (Str × Value)} {fI : Addr}
    (hC : h.get? C = some (excClassObj nm q C N bs bm hdct sn sub ab col dd k0 k1 k2 k3 k5 newId)) (few : ps.length ≤ sizeLine)
    (ini : W.Looks (model prog w) h (typeLookup (.ref C) "__init__") (some (.ref fI))) (bnd : ∀ o, W.Looks (model prog w) h (bindSpecial (.ref fI) o) (.ref fI, [o]))
    (go : codeAny (model prog w) (A.under (.builtin "type.__call__" ⟨.ref C :: ps, kw⟩)) (.call (.ref fI) ⟨.ref (h.objs.size + 1) :: ps, kw⟩) (W.InitBack (h.objs.size + 1) R) ⟨newH h C ps, g, d, t, os⟩) :
    codeAny (model prog w) A (.call (.ref C) ⟨ps, kw⟩) R ⟨h, g, d, t, os⟩ := by
  have f1 := tc_lookup
  have f2 := tc_bind (.ref C)
  have ty : (⟨h, g, d, t, os⟩ : Shared).TypeIs (.ref C) "type" := ⟨_, hC, rfl⟩
  refine codeAny_of_tree ?_
  show wpAny _ _ (callAny (.ref C) _) _ _ _
  repeat (any_goals (first
    | assumption
    | with_reducible refine wpAny_loadPart_at hC ?_
    | wp_step))
  refine ⟨rfl, ?_⟩
  refine codeAny_call_builtin_at (Code.quiet_builtin _ (by decide +kernel)) entry_typeCall (look_call hC (is_call F same hC few ini bnd ?_))
  refine codeAny_mono go fun r s' z => ?_
  rcases r with e | (v | _ | _ | _) <;> exact z
end
end PySem.VX

set_option maxRecDepth 100000
set_option maxHeartbeats 4000000
/-! isinstance of an own exception's object that has a dict, or none. -/
namespace PySem.W
open PySem PySem.Spec PySem.Calls PyProof.Rows
section
variable {prog : Program} {w : World} {A : Around} {E : Value → Shared → Prop} {s : Shared} {K : Frag} {x D : Addr} {ox : Obj} {od : Option Obj}
theorem vx_bound {C : Addr} {y : Str} {v gg : Value} (is : (clsIn K C).isSome = true) (f : findIn K (.ref C) y = some (some v)) (gt : specialIn K v "__get__" = some (some gg)) (tk : takesIn K v = some true) :
    findObj K C od y = some (.bind gg v) := by
  obtain ⟨cd, e⟩ := Option.isSome_iff_exists.mp is
  unfold findObj
  rw [e, Option.bind_some, f, Option.bind_some]
  simp [gt, tk]
theorem vx_class {Q : Option Value → Shared → Prop} (C : L2.ExcC K D) (X : K.In s.heap) (I : InstAt s.heap x ox D od) (go : Q (some (.ref D)) { s with toks := s.toks + 1 }) :
    wpAny (model prog w) A (getAttr? (.ref x) "__class__") Q E s := by
  have is : (clsIn K D).isSome = true := by
    obtain ⟨cd, hc, _⟩ := any_some C.hd
    rw [hc]; rfl
  have fo : findObj K D od "__class__" = some (.bind (.builtin "getset_descriptor.__get__") (.builtin "object.__class__")) := vx_bound is C.ha C.hn C.ht
  obtain ⟨hh, gs, dr, tk, os⟩ := s
  have T0 := I.type (M := model prog w)
  have T1 := looks_findIn (M := model prog w) X C.hg
  have T2 := looks_findIn (M := model prog w) X C.hk
  have T3 := looks_find (M := model prog w) X I fo
  have sub : Looks (model prog w) hh (isInstance (.ref x) (.type "BaseException")) true := T0.andThen (looks_subIn X C.hs)
  have n0 : (false && onTheHeap (Value.builtin "BaseException.__getattribute__")) = false := rfl
  have n2 : (Value.builtin "BaseException.__getattribute__" == Value.builtin "object.__getattribute__") = false := by decide +kernel
  have n1 : (onTheHeap (Value.ref D) && Value.builtin "BaseException.__getattribute__" == Value.builtin "object.__getattribute__") = false := by
    rw [n2]; rfl
  unfold getAttr? getAttrBy? getAttrBy
  refine wpAny_bind (wpAny_mkText (wpAny_bind (wpAny_attempt (wpAny_holding (wpAny_bind (T0.at (wpAny_bind (T1.at ?_))))))))
  show wpAny _ _ (if (onTheHeap (Value.ref D) && Value.builtin "BaseException.__getattribute__" == Value.builtin "object.__getattribute__") = true
    then _ else _) _ _ _
  rw [n1, if_neg Bool.false_ne_true]
  unfold getAttrByItsOwn hookBefore
  refine wpAny_bind ?_
  rw [if_pos (show onTheHeap (Value.ref D) = true from
    rfl)]
  refine T2.at ?_
  refine wpAny_bind (wpAny_attempt (wpAny_holding ?_))
  unfold callGetattribute
  rw [n0, if_neg Bool.false_ne_true]
  unfold boundAndCalled
  rw [PySem.F.excAttr_ValueError.ga.bind (Value.ref x)]
  refine wpAny_bind (wpAny_pure ?_)
  show wpAny _ _ (call (.builtin "BaseException.__getattribute__") [.ref x, .str "__class__" tk]) _ _ _
  refine wpAny_call (codeAny_call_builtin (PySem.F.excAttr_ValueError.ga.plain) PySem.F.entry_bexc_ga ?_)
  refine @check_slot (model prog w) _ _ ⟨hh, gs, dr, tk + 1, os⟩ "BaseException.__getattribute__" "BaseException" "__getattribute__" (.ref x) [.str "__class__" tk] [] _
    (by decide +kernel) (by decide +kernel) sub (PySem.F.args_bexc_ga (.ref x) (.str "__class__" tk)) ?_
  unfold Builtin.«object.__getattribute__»
  refine wpAny_bind (wpAny_of_eq (a := ((Value.ref x : Value), [Value.str "__class__" tk])) (by
    first | rfl | (simp only [slotArgs]; rfl)) ?_)
  refine wpAny_bind (wpAny_pure (wpAny_bind (T0.at (wpAny_bind (T3.at ?_)))))
  show wpAny _ _ (holding [Value.builtin "object.__class__"] (call (.builtin "getset_descriptor.__get__")
    [.builtin "object.__class__", .ref x, .ref D]) >>= ret) _ _ _
  refine wpAny_bind (wpAny_holding (wpAny_call (class_get (s := ⟨hh, gs, dr, tk + 1, os⟩) (ox := ox) (od := od) X I C.hm ?_)))
  refine wpAny_pure ?_
  show wpAny _ _ (handedOut (.ref D)) _ _ _
  rw [handedOut_of (v := Value.ref D) rfl]
  first
    | exact wpAny_pure (wpAny_pure go)
    | exact wpAny_pure go
theorem vx_kit (C : L2.ExcC K D) : KitX K (.ref x) (.ref D) (fun h => ∃ ox od, InstAt h x ox D od) where
  ty := fun _ _ _ ⟨_, _, I⟩ => I.type
  it := fun _ _ X _ => by
    obtain ⟨cd, hc, _⟩ := any_some C.hd
    unfold clsIn at hc
    split at hc
    · rename_i ho
      intro A' Q' E' s' k q
      unfold isType loadHead
      exact wpAny_bind (wpAny_loadPart (k _ _ (X _ _ ho))
        (wpAny_pure q))
    · cases hc
  ne := fun h tp dd its n sl X htp => by
    obtain ⟨cd, hc, _⟩ := any_some C.hd
    refine Bool.eq_false_iff.mpr fun same => ?_
    have e : D = tp := Value.ref.inj (beq_iff_eq.mp same)
    subst e
    unfold clsIn at hc
    split at hc
    · rename_i ho
      have z := (X _ _ ho).symm.trans htp
      cases z
    · cases hc
  ca := fun X ⟨_, _, I⟩ k => vx_class C X I k
end
end PySem.W

set_option maxRecDepth 100000
set_option maxHeartbeats 4000000
/-! An own exception's object as a value, over the layer: made, its fields read, asked for its class. -/
namespace L2
open PySem PySem.Spec PyProof.Rows

/-- at a: an exception of the class at C, these its fields -/
def IsEx (H : Hp) (a C : Addr) (fs : List (Str × V)) : Prop := (fs = [] ∧ H a = some (exo a C none)) ∨ ∃ dx, H a = some (exo a C (some dx)) ∧ H dx = some (exd dx fs)
theorem IsEx.same {H H' : Hp} {a C : Addr} {fs : List (Str × V)} (h : IsEx H a C fs) (e : Same H H') : IsEx H' a C fs := by
  rcases h with ⟨h1, h2⟩ | ⟨dx, h1, h2⟩
  · exact .inl ⟨h1, e _ _ h2⟩
  · exact .inr ⟨dx, e _ _ h1, e _ _ h2⟩
section
variable {X : Cx} {pins : List (Addr × Obj)} {σ : St} {H : Hp} {s : Shared} {a C : Addr} {fs : List (Str × V)}
theorem IsEx.inst (h : IsEx H a C fs) (I : Inv X pins σ H s) : ∃ ox od, PySem.W.InstAt s.heap a ox C od ∧ ∀ f v, fs.lookup f = some v → ∃ u o, od = some o ∧ PySem.W.lookIn f o = some (some u) ∧ RelV v u := by
  rcases h with ⟨rfl, h⟩ | ⟨dx, h, hd⟩
  · obtain ⟨t, e⟩ := exo_at I.hok h
    exact ⟨_, none, ⟨e, rfl, rfl, trivial⟩, fun f v z => by cases z⟩
  · obtain ⟨t, e⟩ := exo_at I.hok h
    obtain ⟨mA, ns, rel⟩ := exd_at I.hok hd
    obtain ⟨od, eo, lk⟩ := lookIn_ns ns
    refine ⟨_, some od, ⟨e, rfl, rfl, eo⟩, fun f v z => ?_⟩
    obtain ⟨u, eu, ru⟩ := RelO.some_of (v := v) (o := mA f) (by rw [← z]; exact rel f)
    exact ⟨u, od, rfl, by rw [lk, eu], ru⟩
/-- e.f -/
def tExF (K : PySem.W.Frag) (f : Str) (te : TE) : TE := fun σ H Q => te σ H fun x H1 => ∃ (a C : Addr) (fs : List (Str × V)) (v : V), x = .ref a ∧ XfC K C ∧ PySem.W.findIn K (.ref C) f = some none ∧ IsEx H1 a C fs ∧ fs.lookup f = some v ∧ Q v H1
theorem pe_exF {e : Expr} {te : TE} {pos : Pos} {f : Str} (he : PE X e te) (hb : attributeBase e f X.env (eval e X.env) = eval e X.env := by rfl) : PE X (.Attribute e f pos) (tExF X.K f te) := by
  refine ⟨fun pins s σ H Q I h => ?_⟩
  refine attr_of hb (thn (he.run pins s σ H _ I h) fun u s1 hh => ?_)
  obtain ⟨x, H1, I1, rx, a, C, fs, v, ex, T, no, is, l, q⟩ := hh
  subst ex
  obtain rfl : u = Value.ref a := rx
  obtain ⟨ox, od, J, look⟩ := is.inst I1
  obtain ⟨w', o, rfl, lo, rw'⟩ := look f v l
  exact HandSPX.exc_get I1.kIn J T.ga T.gg T.exC (PySem.W.findObj_own T.hdC no rfl lo) (handed_of rw') ⟨v, H1, I1.tok _, rw', q⟩
/-- isinstance(e, c) -/
def rIsX (K : PySem.W.Frag) : List V → Hp → VK → Prop := fun xs H Q => ∃ (a D : Addr) (fs : List (Str × V)) (c : V) (cv : Value) (b : Bool), xs = [.ref a, c] ∧ IsEx H a D fs ∧ ExcC K D ∧ (∀ u, RelV c u → u = cv) ∧ PySem.W.kitOne K (.ref D) cv = some b ∧ Q (.bl b) H
theorem call_isX : CallR X (.builtin "isinstance") (rIsX X.K) := by
  intro pins s σ H xs us Q I r h
  obtain ⟨a, D, fs, c, cv, b, rfl, is, C, hcv, e, q⟩ := h
  obtain ⟨u, v, rfl, ru, rv⟩ := vals2 r
  obtain rfl : u = Value.ref a := ru
  obtain rfl := hcv _ rv
  obtain ⟨ox, od, J, _⟩ := is.inst I
  exact PySem.W.kia_one (PySem.W.vx_kit C) I.kIn ⟨ox, od, J⟩ e (fun z => nomatch z) fun tk => ⟨.bl b, H, I.kept (t' := tk) fun _ _ z => z, rfl, q⟩

/-! ### made: C(e, .., k = v, ..), its own __init__ -/
def tMkX (C : Addr) (n m : Nat) (sp : Sp) (gV : List V → List V → List V) (E : XK) (t tk : TA) : TE := fun σ H Q => t σ H fun vs H1 => tk σ H1 fun zs H2 => vs.length = n ∧ zs.length = m ∧
  ∀ a, H2 a = none → sp (gV (.ref a :: vs) zs) (upd H2 a (exo a C none)) (fun v H3 => v = .non ∧ Q (.ref a) H3) E
/-- what the written part says of such a class -/
structure MkXC (K : PySem.W.Frag) (C fI : Addr) : Prop extends OexC K C where
  ini : PySem.W.findIn K (.ref C) "__init__" = some (some (.ref fI))
  tyI : PySem.W.typeIn K (.ref fI) = some (.type "function")
variable {CX : CXT} {k n : Nat} {fI : Addr} {fd : FuncData} {ps ks : List Str} {sp : Sp} {E : XK} {x : Str} {p pos : Pos} {e : Expr} {es : List Expr} {kws : List Keyword} {t tk : TA} {g : List Value → List Value → List Value} {gV : List V → List V → List V} {Q : VK} {us ws : List Value} {vs zs : List V}
theorem run_mkX (T : MkXC X.K C fI) (F : FnOk X.prog X.w X.K X.mg X.base CX k fI fd ps sp) (hr : Room (k + 1) X.A) (hb : KBn X.K fd ps (n + 1) ks g gV) (hx : Passes CX X E) (few : n ≤ 1000)
    (I : Inv X pins σ H s) (r : Vals vs us) (rz : Vals zs ws) (l1 : vs.length = n) (l2 : zs.length = ks.length)
    (h : ∀ a, H a = none → sp (gV (.ref a :: vs) zs) (upd H a (exo a C none)) (fun v H3 => v = .non ∧ Q (.ref a) H3) E) :
    wpAny (model X.prog X.w) X.A (call (.ref C) us (ks.zip ws)) (EP X pins σ Q) X.xe s := by
  obtain ⟨nm, q, N, bs, bm, sn, sub, ab, col, dd, k0, k1, k2, k3, k5, hC, hbm⟩ := T.cls
  obtain ⟨hp, gs, dr, tk, os⟩ := s
  have up : hp.objs.size ≤ hp.objs.size + 1 := Nat.le_succ _
  have hq := h (hp.objs.size + 1) (I.hok.fresh up)
  have len : us.length ≤ sizeLine := by
    rw [← Paired.length r, l1, sizeLine_eq]
    omega
  have keeps : ∀ b o, hp.get? b = some o → (PySem.VX.newH hp C us).get? b = some o := fun b o z => Heap.get?_push_of_some _ (Heap.get?_push_of_some _ z)
  have at_a : (PySem.VX.newH hp C us).get? (hp.objs.size + 1) = some (PySem.HandSPX.excO C hp.objs.size) := by heap_get
  have J : Inv X pins σ (upd H (hp.objs.size + 1) (exo (hp.objs.size + 1) C none)) ⟨PySem.VX.newH hp C us, gs, dr, tk, os⟩ :=
    I.laid (t' := tk) (a := hp.objs.size + 1) (o := exo (hp.objs.size + 1) C none) (h' := PySem.VX.newH hp C us) keeps up (exo_ok at_a)
  have r1 : Vals (V.ref (hp.objs.size + 1) :: vs) (Value.ref (hp.objs.size + 1) :: us) := .cons rfl r
  have r2 := hb.rel r1 rz
  have m1 : (Value.ref (hp.objs.size + 1) :: us).length = n + 1 := r1.length.symm.trans (congrArg Nat.succ l1)
  have m2 : ws.length = ks.length := rz.length.symm.trans l2
  refine wpAny_call (PySem.VX.call_it PySem.F.excBase_ValueError (fun Y => PySem.HandSPX.refsVE_contains Y bm hbm) (I.kIn _ _ hC) len (PySem.W.looks_findIn I.kIn T.ini) (fun o => PySem.W.bind_fn I.kIn o T.tyI)
    (codeAny_mono (F.run _ X.stack _ _ ⟨Value.ref (hp.objs.size + 1) :: us, ks.zip ws⟩ (g (Value.ref (hp.objs.size + 1) :: us) ws) _ _ E (hr.make C us (ks.zip ws)) (J.env0.make C us (ks.zip ws))
      (hb.to _ (Value.ref (hp.objs.size + 1) :: us) ws J.kIn m1 m2) r2 hq) fun r s' hq' => ?_))
  cases r with
  | error er => exact hx pins σ _ _ er s' J hq'
  | ok fl =>
    cases fl with
    | ret u =>
      obtain ⟨v, H', J2, rv, ev, q3⟩ := J.after hq'
      subst ev
      exact ⟨rv, ⟨V.ref (hp.objs.size + 1), H', J2, rfl, q3⟩⟩
    | next => exact hq'.elim
    | brk => exact hq'.elim
    | cont => exact hq'.elim
/-- C(e, ..) -/
theorem pe_mkX (T : MkXC X.K C fI) (F : FnOk X.prog X.w X.K X.mg X.base CX k fI fd ps sp) (hr : Room (k + 1) X.A) (hg : Gl X x) (hm : X.mg x = some (.ref C)) (hb : KBn X.K fd ps (n + 1) [] g gV) (few : n ≤ 1000) (hx : Passes CX X E)
    (ha : PA X (e :: es) t) (hdb : (x == ("__debug__" : Str)) = false := by decide) (he : starEach (e :: es) X.env = (false, eval e X.env) :: starEach es X.env := by rfl) (hpl : (backTo pos (starEach es X.env)).any (·.1) = false := by rfl) :
    PE X (.Call (.Name x p) (e :: es) [] pos) (tMkX C n 0 sp gV E t tNil) := by
  refine ⟨fun pins s σ H Q I h => ?_⟩
  refine wpAny_Call_Name_kw (ld_glob I hg hm ?_ hdb)
  refine PySem.W.callWith_K (h₀ := X.base) I.ok.mod.kin T.kC (thn (ha.run pos pins s σ H _ I h) fun us s1 hh => ?_) he hpl
  obtain ⟨vs, H1, I1, r, l1, l2, q⟩ := hh
  exact ⟨I1.kIn, run_mkX (ks := []) (zs := []) (ws := []) T F hr hb hx few I1 r .nil l1 rfl q⟩
/-- C() -/
theorem pe_mkX0 (T : MkXC X.K C fI) (F : FnOk X.prog X.w X.K X.mg X.base CX k fI fd ps sp) (hr : Room (k + 1) X.A) (hg : Gl X x) (hm : X.mg x = some (.ref C)) (hb : KBn X.K fd ps 1 [] g gV) (hx : Passes CX X E) (hdb : (x == ("__debug__" : Str)) = false := by decide) :
    PE X (.Call (.Name x p) [] [] pos) (tMkX C 0 0 sp gV E tNil tNil) := by
  refine ⟨fun pins s σ H Q I h => ?_⟩
  refine wpAny_Call_Name_kw (ld_glob I hg hm ?_ hdb)
  obtain ⟨l1, l2, q⟩ := h
  exact PySem.W.callWith_K0 I.kIn T.kC (run_mkX (n := 0) (ks := []) (us := []) (vs := []) (zs := []) (ws := []) T F hr hb hx (by decide) I .nil .nil rfl rfl q)
/-- C(k = v, ..) -/
theorem pe_mkXK (T : MkXC X.K C fI) (F : FnOk X.prog X.w X.K X.mg X.base CX k fI fd ps sp) (hr : Room (k + 1) X.A) (hg : Gl X x) (hm : X.mg x = some (.ref C)) (hb : KBn X.K fd ps 1 ks g gV) (hx : Passes CX X E)
    (hkw : PK X kws tk) (hall : (backToKw pos (keywordEach kws X.env)).all (·.1.isSome) = true := by rfl) (hks : (backToKw pos (keywordEach kws X.env)).filterMap (·.1) = ks := by rfl) (hdb : (x == ("__debug__" : Str)) = false := by decide)
    (hpl : ((backTo pos (starEach [] X.env)).any (·.1) || (backToKw pos (keywordEach kws X.env)).any (·.1.isNone)) = false := by rfl) :
    PE X (.Call (.Name x p) [] kws pos) (tMkX C 0 ks.length sp gV E tNil tk) := by
  refine ⟨fun pins s σ H Q I h => ?_⟩
  refine wpAny_Call_Name_kw (ld_glob I hg hm ?_ hdb)
  refine PySem.W.callWith_KW0 (h₀ := X.base) I.ok.mod.kin T.kC hall (thn (hkw.run pos pins s σ H _ I h) fun ws s2 hh => ?_) hpl
  obtain ⟨zs, H2, I2, rz, l1, l2, q2⟩ := hh
  refine ⟨I2.kIn, ?_⟩
  rw [hks]
  exact run_mkX (n := 0) (us := []) (vs := []) T F hr hb hx (by decide) I2 .nil rz rfl l2 q2
end
end L2

set_option maxRecDepth 100000
set_option maxHeartbeats 4000000
/-! The head's facts with one more Bool; own exception classes in it. -/
namespace VH
open PySem PySem.Spec PyProof.Rows L2 He
/-! ### the Hook -/
abbrev AlV : Type := AlD × Bool
def obsV (fa : List Fa) (fn : List DefD) (ex : PySem.W.Frag → Bool) (K : PySem.W.Frag) : AlV := (obsD fa fn K, ex K)
def obsVG (n : Nat) (fa : List Fa) (fn : List DefD) (ex : PySem.W.Frag → Bool) (g : Addr → Option Obj) : AlV := obsV fa fn ex (frG g (asD g n))
def SaysV (fa : List Fa) (fn : List DefD) (ex : PySem.W.Frag → Bool) (K : PySem.W.Frag) : Prop := SaysD fa fn K ∧ ex K = true
def hookV (n : Nat) (fa : List Fa) (fn : List DefD) (ex : PySem.W.Frag → Bool) : PySem.W.Hook where
  α := AlV
  obs := fun s => obsVG n fa fn ex s.heap.get?
  val := fun _ => (valD fn, true)
  says := fun _ h => ∃ K : PySem.W.Frag, K.In h ∧ SaysV fa fn ex K
  of := fun _ _ e => ⟨_, frG_in, congrArg (fun z : AlV => z.1) e, congrArg (fun z : AlV => z.2) e⟩
  keeps := fun _ _ _ ⟨K, hK, c⟩ k => ⟨K, PySem.W.Frag.In.keeps hK k, c⟩
theorem obsVG_eq {n : Nat} {fa : List Fa} {fn : List DefD} {ex : PySem.W.Frag → Bool} {g : Addr → Option Obj} {s : Shared} (h : ∀ a, g a = s.heap.get? a) : obsVG n fa fn ex g = (hookV n fa fn ex).obs s := by
  have e : g = s.heap.get? := funext h
  rw [e]; rfl
/-! ### an own exception class -/
/-- the class at C is over ValueError, perhaps over own ones between -/
def exB (K : PySem.W.Frag) (C : Addr) : Bool := match K.lookup C with
  | some ⟨.type t, _, .cls cd, sl⟩ => decide (t = "type") && (match cd.mro, sl.toList with
    | .ref D :: bm, [_, _, _, _, some (.builtin n), _] => decide (D = C) && (decide (n = "ValueError.__new__") && (!cd.hasDel && (cd.hasDict && PySem.HandSPX.refsVE bm)))
    | _, _ => false)
  | _ => false
theorem exB_ok {K : PySem.W.Frag} {C : Addr} (h : exB K C = true) : ∃ nm q N bs bm sn sub ab col dd k0 k1 k2 k3 k5, K.lookup C = some (excClassObj nm q C N bs bm true sn sub ab col dd k0 k1 k2 k3 k5 "ValueError.__new__") ∧ PySem.HandSPX.refsVE bm = true := by
  unfold exB at h
  split at h
  · rename_i t dd cd sl ho
    obtain ⟨y0, z0⟩ := ba h
    clear h
    have e0 : t = "type" := of_decide_eq_true y0
    split at z0
    · rename_i D bm k0 k1 k2 k3 n k5 hm hs
      obtain ⟨y1, z1⟩ := ba z0
      obtain ⟨y2, z2⟩ := ba z1
      obtain ⟨y3, z3⟩ := ba z2
      obtain ⟨y4, y5⟩ := ba z3
      have e1 : D = C := of_decide_eq_true y1
      have e2 : n = "ValueError.__new__" := of_decide_eq_true y2
      clear z0 z1 z2 z3 y0 y1 y2
      subst e0 e1 e2
      obtain ⟨nm, bs, mro, ns, qn, hd, sn, sub, ab, col, del⟩ := cd
      dsimp only at hm y3 y4
      subst hm y4
      have e3 : del = false := by
        cases del with
        | false => rfl
        | true => cases y3
      subst e3
      have e4 : sl = #[k0, k1, k2, k3, some (.builtin "ValueError.__new__"), k5] := by
        obtain ⟨l⟩ := sl
        simp only at hs
        rw [hs]
      subst e4
      exact ⟨nm, qn, ns, bs, bm, sn, sub, ab, col, dd, k0, k1, k2, k3, k5, ho, y5⟩
    · cases z0
  · cases h
def okO {α : Type} [DecidableEq α] (a b : Option α) : Bool := decide (a = b)
/-- all that an own exception class, with an __init__ of its own, must say; its fields' names -/
def clB (K : PySem.W.Frag) (x : Str) (fs : List Str) : Bool :=
  decide (PySem.W.nsIn K mainGlobals x = some (some (.ref (ga K x)))) && (exB K (ga K x) && (
  decide (PySem.W.findIn K (.ref (ga K x)) "__setattr__" = some (some (.builtin "object.__setattr__"))) && (
  decide (PySem.W.subIn K (.ref (ga K x)) (.type "BaseException") = some true) && (
  decide (PySem.W.typeIn K (.ref (ga K x)) = some (.type "type")) && (
  PySem.W.keepIn K (.ref (ga K x)) && (
  decide (PySem.W.findIn K (.ref (ga K x)) "__init__" = some (some (.ref (ma K (ga K x) "__init__")))) && (
  decide (PySem.W.typeIn K (.ref (ma K (ga K x) "__init__")) = some (.type "function")) && (
  decide (PySem.W.findIn K (.ref (ga K x)) "__getattribute__" = some (some (.builtin "BaseException.__getattribute__"))) && (
  decide (PySem.W.findIn K (.ref (ga K x)) "__getattr__" = some none) && (
  PySem.W.hasDictIn K (ga K x) && (
  decide (PySem.W.findIn K (.ref (ga K x)) "__class__" = some (some (.builtin "object.__class__"))) && (
  decide (PySem.W.mroIn K (ga K x) (.type "object") = some true) && (
  fs.all fun f => decide (PySem.W.findIn K (.ref (ga K x)) f = some none))))))))))))))
structure ClOk (K : PySem.W.Frag) (x : Str) (fs : List Str) : Prop where
  gl : PySem.W.nsIn K mainGlobals x = some (some (.ref (ga K x)))
  mkx : MkXC K (ga K x) (ma K (ga K x) "__init__")
  xf : XfC K (ga K x)
  ec : PySem.W.specialIn K (.builtin "object.__class__") "__get__" = some (some (.builtin "getset_descriptor.__get__")) → PySem.W.takesIn K (.builtin "object.__class__") = some true → ExcC K (ga K x)
  no : ∀ f ∈ fs, PySem.W.findIn K (.ref (ga K x)) f = some none
theorem clB_ok {K : PySem.W.Frag} {x : Str} {fs : List Str} (h : clB K x fs = true) : ClOk K x fs := by
  unfold clB at h
  obtain ⟨g0, h⟩ := ba h
  obtain ⟨g1, h⟩ := ba h
  obtain ⟨g2, h⟩ := ba h
  obtain ⟨g3, h⟩ := ba h
  obtain ⟨g4, h⟩ := ba h
  obtain ⟨g5, h⟩ := ba h
  obtain ⟨g6, h⟩ := ba h
  obtain ⟨g7, h⟩ := ba h
  obtain ⟨g8, h⟩ := ba h
  obtain ⟨g9, h⟩ := ba h
  obtain ⟨g10, h⟩ := ba h
  obtain ⟨g11, h⟩ := ba h
  obtain ⟨g12, h⟩ := ba h
  have d := fun {p : Prop} [Decidable p] (z : decide p = true) => of_decide_eq_true z
  exact ⟨of_decide_eq_true g0, ⟨⟨exB_ok g1, of_decide_eq_true g2, of_decide_eq_true g3, of_decide_eq_true g4, g5⟩, of_decide_eq_true g6, of_decide_eq_true g7⟩,
    ⟨of_decide_eq_true g8, of_decide_eq_true g9, of_decide_eq_true g3, g10⟩,
    fun a b => ⟨of_decide_eq_true g8, of_decide_eq_true g9, of_decide_eq_true g3, g10, of_decide_eq_true g11, a, b, of_decide_eq_true g12⟩,
    fun f hf => of_decide_eq_true (List.all_eq_true.mp h f hf)⟩
/-- what asks the descriptor __class__ -/
def dcB (K : PySem.W.Frag) : Bool := decide (PySem.W.specialIn K (.builtin "object.__class__") "__get__" = some (some (.builtin "getset_descriptor.__get__"))) && decide (PySem.W.takesIn K (.builtin "object.__class__") = some true)
end VH

set_option maxRecDepth 100000
set_option maxHeartbeats 4000000
/-! What every law's draws are made of: a list of three ints. -/
namespace L2
open PySem PySem.Spec PyProof.Rows
/-- two lists that are read, wherever they stand -/
def rCatR (K : PySem.W.Frag) : R2 := fun x y H Q => ∃ l b xs zs, x = .ref l ∧ y = .ref b ∧ SqL K H l xs ∧ SqL K H b zs ∧ xs.length + zs.length ≤ sizeLine ∧ ∀ p, H p = none → Q (.ref p) (upd H p (.lst (xs ++ zs)))
theorem op_catR {X : Cx} : OpR X (binaryOp .Add) (rCatR X.K) := by
  intro pins s σ H x y v u Q I rx ry h
  obtain ⟨l, b, xs, zs, rfl, rfl, a1, a2, few, q⟩ := h
  cases rx
  cases ry
  obtain ⟨i1, r1, ⟨⟨c1, d1, t1, s1⟩, n1, g1, p1, _, q1⟩, _⟩ := I.list a1
  obtain ⟨i2, r2, ⟨⟨c2, d2, t2, s2⟩, n2, g2, p2, _, q2⟩, _⟩ := I.list a2
  simp only at p1 q1 p2 q2
  subst p1 q1 p2 q2
  have ea : i1.toArray ++ i2.toArray = (i1 ++ i2).toArray := by simp
  refine PySem.concat_meets ⟨_, g1, rfl⟩ ⟨_, g2, rfl⟩ noFill_list_add seq_list_add PySem.F.slot_list_add PySem.F.entry_list_add (PySem.F.args_list_add_2 _ _)
    (list_addW l b i1.toArray i2.toArray n1 n2 d1 d2 s1 s2 (by rw [List.size_toArray, List.size_toArray, ← r1.length, ← r2.length]; omega)) ⟨g1, g2, ?_⟩
  rw [ea]
  exact ⟨.ref _, _, I.lnew (t' := s.toks) (r1.append r2) (by rw [List.length_append]; omega), rfl, q _ I.fresh⟩
/-- at a: a well -/
def Well (H : Hp) (a : Addr) : Prop := ∃ c b n : Int, H a = some (.lst [.int c, .int b, .int n])
/-- all but a is as it was -/
def But (a : Addr) (H H' : Hp) : Prop := ∀ b o, b ≠ a → H b = some o → H' b = some o
theorem But.same {a : Addr} {H H1 H' : Hp} (s : Same H H1) (h : But a H1 H') : But a H H' := fun b o n e => h b o n (s b o e)
theorem But.trans {a : Addr} {H H1 H' : Hp} (s : But a H H1) (h : But a H1 H') : But a H H' := fun b o n e => h b o n (s b o n e)
theorem But.upd {a : Addr} {H : Hp} {o : HO} : But a H (upd H a o) := fun b u n e => by rw [upd_ne n]; exact e
theorem But.of {a : Addr} {H H' : Hp} (s : Same H H') : But a H H' := fun b u _ e => s b u e
/-- the draw: an int below much -/
def spDraw : Sp := fun vs H Q _ => ∃ (a : Addr) (m : Int), vs = [.ref a, .int m] ∧ Well H a ∧ 0 < m ∧ m < 1073741824 ∧ ∀ (H' : Hp) (d : Int), 0 ≤ d → d < m → Well H' a → But a H H' → Q (.int d) H'
/-- the well of a number -/
def spWell (K : PySem.W.Frag) : Sp := fun vs H Q _ => ∃ (a : Addr) (ns : List Int) (k : Nat), vs = [.ref a, .int k] ∧ SqL K H a (ns.map V.int) ∧ ns.length ≤ 63 ∧ k ≤ 63 ∧ ∀ (H' : Hp) (p : Addr), H p = none → Well H' p → Same H H' → Q (.ref p) H'
/-- one of a list's items -/
def spOne (K : PySem.W.Frag) : Sp := fun vs H Q _ => ∃ (a l : Addr) (xs : List V), vs = [.ref a, .ref l] ∧ Well H a ∧ l ≠ a ∧ H l = some (.lst xs) ∧ 0 < xs.length ∧ xs.length < 1073741824 ∧ ∀ (H' : Hp) (x : V), x ∈ xs → Well H' a → But a H H' → Q x H'
theorem Same.new {H : Hp} {l : Addr} {o : HO} (n : H l = none) : Same H (upd H l o) := fun b u e => by
  rw [upd_ne (ne_of_none e n)]
  exact e
theorem Same.rd {H H' : Hp} {a : Addr} {u : HO} (e : Same H H') (r : Rd H a u) : Rd H' a u := by
  rcases r with r | ⟨o, r⟩
  · exact .inl (e _ _ r)
  · exact .inr ⟨o, e _ _ r⟩
theorem atI_some {α : Type} {xs : List α} {d : Int} (h0 : 0 ≤ d) (h1 : d < xs.length) : ∃ x, x ∈ xs ∧ atI xs d = some x := by
  obtain ⟨j, rfl⟩ : ∃ j : Nat, d = (j : Int) := ⟨d.toNat, by omega⟩
  have lt : j < xs.length := by omega
  exact ⟨xs[j], List.getElem_mem lt, atI_nat (List.getElem?_eq_getElem lt)⟩
end L2

set_option maxRecDepth 100000
set_option maxHeartbeats 0
namespace K02
open PySem PySem.Spec PyProof.Rows L2 He VH
def top (i : Nat) : Stmt := PySem.Challenge.pw_fillbehind_k02_whole_statements_done.main.body.getD i (.Pass ⟨0, 0, 0, 0⟩)
/-- a written tuple of texts -/
def strsB : List Value → List Str → Bool
  | [], [] => true
  | .str x _ :: l, w :: ws => decide (x = w) && strsB l ws
  | _, _ => false
def tupS (K : PySem.W.Frag) (a : Addr) (ws : List Str) : Bool := match K.lookup a with
  | some ⟨.type c, _, .seq its _, _⟩ => decide (c = "tuple") && (strsB its.toList ws && decide (its.size ≤ 100))
  | _ => false
def refsB (K : PySem.W.Frag) : List Value → List (List Str) → Bool
  | [], [] => true
  | .ref p :: l, w :: ws => tupS K p w && refsB K l ws
  | _, _ => false
/-- a written tuple of such tuples -/
def tupT (K : PySem.W.Frag) (a : Addr) (ws : List (List Str)) : Bool := match K.lookup a with
  | some ⟨.type c, _, .seq its _, _⟩ => decide (c = "tuple") && (refsB K its.toList ws && decide (its.size ≤ 100))
  | _ => false
def plcB (K : PySem.W.Frag) (k : Str) (ws : List (List Str)) : Bool := match PySem.W.nsIn K (ga K "PLACES") k with
  | some (some (.ref p)) => tupT K p ws
  | _ => false
def noB (K : PySem.W.Frag) : Bool := true
def ex (K : PySem.W.Frag) : Bool := dcB K && (clB K "NoStatement" [] && (clB K "NoRow" ["part"] && (tupS K (ga K "CHECKS") ["missing", "same old", "same new"] && (
  tupS K (ga K "READING") ["put", "read", "copy", "same old", "same new"] && (tupS K (ga K "TAKING") ["insert", "input"] && (
  plcB K "set" [["keep", "input", "read"], ["keep", "none", "now", "read", "copy"]] && (plcB K "put" [["none", "now", "read", "copy"]] && (plcB K "insert" [["none", "now"]] && (plcB K "delete" [] && (
  (["NoStatement", "NoRow"] : List Str).all fun c => (["NoStatement", "NoRow", "FillError"] : List Str).all fun d => decide (PySem.W.exmOne K (.ref (ga K c)) (.ref (ga K d)) = some (d == c || d == "FillError"))))))))))))
def names1 : List PySem.Str := ["FillError", "NoStatement", "NoRow", "is_integer", "is_word", "are_words", "CHECKS", "PLACES", "READING", "TAKING", "is_row", "is_statement", "checks_of", "has_word", "needs_read", "needs_input", "applied", "takes_effect", "fails", "row_behind", "old_behind", "source_behind"]
def names2 : List PySem.Str := ["_law_draw", "_law_well", "_law_one", "_law_checks_all", "_law_statements", "_law_needs_read", "_law_needs_input", "_law_integer", "_law_row", "_law_source", "_law_barred", "_law_due", "_law_turned", "_law_right"]
def names : List PySem.Str := names1 ++ names2
def fa : List He.Fa := [.glo "FillError", .glo "is_integer", .glo "is_word", .glo "are_words", .glo "CHECKS", .glo "PLACES", .glo "READING", .glo "TAKING", .glo "is_row", .glo "is_statement", .glo "checks_of", .glo "has_word", .glo "needs_read", .glo "needs_input", .glo "applied", .glo "takes_effect", .glo "fails", .glo "row_behind", .glo "old_behind", .glo "source_behind",
  .glo "_law_draw", .glo "_law_well", .glo "_law_one", .glo "_law_checks_all", .glo "_law_statements", .glo "_law_needs_read", .glo "_law_needs_input", .glo "_law_integer", .glo "_law_row", .glo "_law_source", .glo "_law_barred", .glo "_law_due", .glo "_law_turned", .glo "_law_right", .glo "law",
  .free "len", .free "int", .free "range", .free "isinstance", .free "tuple", .free "bool", .free "str", .free "list", .free "all", .free "any", .free "zip"]
def dd (i : Nat) (x : Str) : He.DefD := ⟨(x, none), x, x, defArgs (top i), defBody (top i), defScope (top i), [], []⟩
def dm (i : Nat) (x : Str) (j : Nat) (m q : Str) : He.DefD := ⟨(x, some m), m, q, defArgs (inClass (top i) j), defBody (inClass (top i) j), defScope (inClass (top i) j), [], []⟩
def da : He.DefD := ⟨("applied", none), "applied", "applied", defArgs (top 19), defBody (top 19), defScope (top 19), [.non, .non], []⟩
def fn : List He.DefD := [dd 5 "is_integer", dd 6 "is_word", dd 7 "are_words", dd 13 "is_row", dd 14 "is_statement", dd 15 "checks_of", dd 16 "has_word", dd 17 "needs_read", dd 18 "needs_input", da, dd 20 "takes_effect", dd 21 "fails", dd 22 "row_behind", dd 23 "old_behind", dd 24 "source_behind",
  dd 26 "_law_draw", dd 27 "_law_well", dd 28 "_law_one", dd 29 "_law_checks_all", dd 30 "_law_statements", dd 31 "_law_needs_read", dd 32 "_law_needs_input", dd 33 "_law_integer", dd 34 "_law_row", dd 35 "_law_source", dd 36 "_law_barred", dd 37 "_law_due", dd 38 "_law_turned", dd 39 "_law_right", dd 40 "law",
  dm 2 "NoStatement" 0 "__init__" "NoStatement.__init__", dm 3 "NoRow" 0 "__init__" "NoRow.__init__"]
abbrev R : PySem.W.OpenRow := PySem.W.OpenLaw.row PySem.Challenge.rw_fillbehind_k02_whole_statements_done
/-- the def whose lambdas are made, the written dict -/
def tf : List He.Defn := [("law", none)]
def ts : List He.Tab := [((fun K => ga K "PLACES"), ["set", "put", "insert", "delete"])]
abbrev hk : PySem.W.Hook := He.hookX 5 fa fn ts tf ex
def ob (s : PySem.W.SharedT) : He.AlX := He.obsX 5 fa fn ts tf ex (HandSHeadRun.getT s)
theorem ob_eq (s : PySem.W.SharedT) : ob s = hk.obs s.abs := He.obsX_eq (HandSHeadRun.getT_eq s)
theorem run (w : World) : HandSHeadRun.RunEq R (PySem.W.view R.prog [40]) hk ob 20000 names w := by
  refine PySem.W.byRow2 "special-get-raises" (P := fun w => HandSHeadRun.RunEq R (PySem.W.view R.prog [40]) hk ob 20000 names w) (fun w => ?_) (fun w => ?_) w
  · intro os
    kernel_rfl
  · intro os
    kernel_rfl
end K02

set_option maxRecDepth 100000
set_option maxHeartbeats 4000000
namespace K02
open PySem PySem.Spec PyProof.Rows L2 He VH
abbrev FnP (K : PySem.W.Frag) (x : Str) (st : Stmt) (f : Addr) (fd : FuncData) : Prop := FunD K x x (defArgs st) (defBody st) (defScope st) [] [] f fd
abbrev sDraw : Stmt := top 26
abbrev nDraw : List Str := ["_law_well_here", "_law_much", "_law_digit", "_law_blend"]
section
variable {P : Program} {w : World} {K : PySem.W.Frag} {mg : Str → Option Value} {base : Heap} {f : Addr} {fd : FuncData}
theorem scDraw : FnScope nDraw ["_law_well_here", "_law_much"] (defScope sDraw) := ⟨rfl, rfl, rfl, by decide +kernel, rfl, by decide +kernel, by decide +kernel⟩
theorem ok_draw (F : FnP K "_law_draw" sDraw f fd) (gI : mg "int" = none) : FnOk P w K mg base CX0 1 f fd ["_law_well_here", "_law_much"] spDraw := by
  refine F.ok scDraw (fun vs H Q E h => ?_) (fun cdv A outer s H vs Q E hr h => ?_)
  · obtain ⟨a, m, rfl, _⟩ := h
    rfl
  refine ⟨_, PSs.nox (pss_cons (ps_if (pt_cmpR op_gt (pe_ix ix_list (pv 0) pe_int (fun _ _ => rfl)) pe_int (nomark _))
      (pss_cons (ps_set (i := 2) scDraw.nd rfl (Or.inl rfl) (pe_op op_modN (pe_callTy call_int1 (by rfl) gI boot_int (pa_cons (pe_ix ix_list (pv 0) pe_int (fun _ _ => rfl)) pa_nil)) (pv 1)))
      (pss_cons (ps_asg (pe_op op_fdivN (pe_ix ix_list (pv 0) pe_int (fun _ _ => rfl)) (pv 1)) (pg_sub (pv 0) pe_int set_list))
      (pss_one (ps_ret (pv 2))))) pss_nil)
      (pss_cons (ps_asg (pe_op op_add (pe_ix ix_list (pv 0) pe_int (fun _ _ => rfl)) pe_int) (pg_sub (pv 0) pe_int set_list))
      (pss_cons (ps_set (i := 3) scDraw.nd rfl (Or.inl rfl) (pe_op op_modN (pe_callTy call_int1 (by rfl) gI boot_int (pa_cons (pe_op op_mul (pe_op op_add (pe_op op_add (pe_ix ix_list (pv 0) pe_int (fun _ _ => rfl)) (pe_op op_mul pe_int (pe_ix ix_list (pv 0) pe_int (fun _ _ => rfl)))) pe_int) pe_int) pa_nil)) pe_int))
      (pss_cons (ps_set (i := 3) scDraw.nd rfl (Or.inl rfl) (pe_op op_modN (pe_callTy call_int1 (by rfl) gI boot_int (pa_cons (pe_op op_mul (pv 3) (pe_op op_add (pe_op op_fdivN (pv 3) pe_int) pe_int)) pa_nil)) pe_int))
      (pss_one (ps_ret (pe_op op_modN (pe_callTy call_int1 (by rfl) gI boot_int (pa_cons (pe_op op_modN (pe_callTy call_int1 (by rfl) gI boot_int (pa_cons (pe_op op_mul (pv 3) (pe_op op_add (pe_op op_fdivN (pv 3) pe_int) pe_int)) pa_nil)) pe_int) pa_nil)) (pv 1)))))))), ?_⟩
  · obtain ⟨a, m, rfl, ⟨c, b, n, ha⟩, m0, m1, k⟩ := h
    have iL : ∀ {H' : Hp} {l : List V}, H' a = some (.lst l) → SqL K H' a l := fun h => SqL.of h
    refine ⟨_, rfl, a, _, 0, _, rfl, rfl, iL ha, by rfl, _, _, rfl, rfl, _, rfl, ?_⟩
    refine ite2 (fun _ => ?_) (fun _ => ?_)
    · refine ⟨_, rfl, a, _, 0, _, rfl, rfl, iL ha, by rfl, .inl ⟨_, rfl, ?_⟩⟩
      refine ⟨_, rfl, _, _, rfl, rfl, by omega, ?_⟩
      refine ⟨_, rfl, a, _, 0, _, rfl, rfl, iL ha, by rfl, _, rfl, _, _, rfl, rfl, ⟨by omega, by omega⟩, ?_⟩
      refine ⟨_, rfl, a, _, 0, _, rfl, rfl, ha, by rfl, _, rfl, ?_⟩
      refine k _ _ ?_ ?_ ⟨_, _, _, upd_same⟩ But.upd
      · exact Int.fmod_nonneg_of_pos _ m0
      · exact Int.fmod_lt_of_pos _ m0
    · refine ⟨_, rfl, a, _, 2, _, rfl, rfl, iL ha, by rfl, _, _, rfl, rfl, ?_⟩
      refine ⟨_, rfl, a, _, 2, _, rfl, rfl, ha, by rfl, ?_⟩
      have h2 : upd H a (.lst ([V.int c, V.int b, V.int n].set 2 (V.int (n + 1)))) a = some (.lst [V.int c, V.int b, V.int (n + 1)]) := upd_same
      refine ⟨_, rfl, a, _, 1, _, rfl, rfl, iL h2, by rfl, _, rfl, a, _, 2, _, rfl, rfl, iL h2, by rfl, 40087, _, rfl, rfl, .inl (by decide), ?_⟩
      refine ⟨_, _, rfl, rfl, _, _, rfl, rfl, _, 48271, rfl, rfl, .inr (by decide), .inl ⟨_, rfl, ?_⟩⟩
      refine ⟨_, 2147483647, rfl, rfl, (show (2147483647 : Int) ≠ 0 by decide), ?_⟩
      have l1 := Int.fmod_nonneg_of_pos ((b + 40087 * (n + 1) + 11) * 48271) (show (0 : Int) < 2147483647 by decide)
      have u1 := Int.fmod_lt_of_pos ((b + 40087 * (n + 1) + 11) * 48271) (show (0 : Int) < 2147483647 by decide)
      refine ⟨_, rfl, _, rfl, _, 1021, rfl, rfl, ⟨by decide, by decide⟩, _, 69691, rfl, rfl, _, _, rfl, rfl, .inl (by omega), .inl ⟨_, rfl, ?_⟩⟩
      refine ⟨_, 2147483587, rfl, rfl, (show (2147483587 : Int) ≠ 0 by decide), ?_⟩
      obtain ⟨v2, e2, l2, u2⟩ : ∃ v2 : Int, v2 = ((((b + 40087 * (n + 1) + 11) * 48271).fmod 2147483647) * ((((b + 40087 * (n + 1) + 11) * 48271).fmod 2147483647).fdiv 1021 + 69691)).fmod 2147483587 ∧ 0 ≤ v2 ∧ v2 < 2147483587 :=
        ⟨_, rfl, Int.fmod_nonneg_of_pos _ (by decide), Int.fmod_lt_of_pos _ (by decide)⟩
      have h3 : ∀ {i : Nat}, i = 3 → (List.set (List.set (start nDraw [V.ref a, V.int m]) 3 (some (V.int (((b + 40087 * (n + 1) + 11) * 48271).fmod 2147483647)))) 3 (some (V.int v2)))[i]? = some (some (V.int v2)) := fun e => by subst e; rfl
      subst e2
      refine ⟨_, h3 rfl, _, h3 rfl, _, 2017, rfl, rfl, ⟨by decide, by decide⟩, _, 40699, rfl, rfl, _, _, rfl, rfl, .inl ⟨by omega, by omega⟩, .inl ⟨_, rfl, ?_⟩⟩
      refine ⟨_, 2147483399, rfl, rfl, (show (2147483399 : Int) ≠ 0 by decide), .inl ⟨_, rfl, ?_⟩⟩
      refine ⟨_, rfl, _, _, rfl, rfl, (show m ≠ 0 by omega), ?_⟩
      exact k _ _ (Int.fmod_nonneg_of_pos _ m0) (Int.fmod_lt_of_pos _ m0) ⟨_, _, _, h2⟩ But.upd
end
end K02

set_option maxRecDepth 100000
set_option maxHeartbeats 4000000
namespace K02
open PySem PySem.Spec PyProof.Rows L2 He VH
abbrev sWell : Stmt := top 27
abbrev sOne : Stmt := top 28
theorem rep_ints (n : Nat) : (List.replicate n [V.int 0]).flatten = (List.replicate n (0 : Int)).map V.int := by
  induction n with
  | zero => rfl
  | succ n ih =>
    rw [List.replicate_succ, List.flatten_cons, ih, List.replicate_succ, List.map_cons]
    rfl
theorem cell_is {ns : List Int} {k : Nat} {m : Int} (hm : m = (k : Int) + 1) : ∃ c : Int, atI (ns.map V.int ++ (List.replicate m.toNat [V.int 0]).flatten) (k : Int) = some (V.int c) := by
  have e : m.toNat = k + 1 := by omega
  rw [e, rep_ints, ← List.map_append]
  have lt : k < (ns ++ List.replicate (k + 1) (0 : Int)).length := by
    rw [List.length_append, List.length_replicate]
    omega
  refine ⟨(ns ++ List.replicate (k + 1) (0 : Int))[k], atI_nat ?_⟩
  rw [List.getElem?_map, List.getElem?_eq_getElem lt]
  rfl
section
variable {P : Program} {w : World} {K : PySem.W.Frag} {mg : Str → Option Value} {base : Heap} {f fD : Addr} {fd fdD : FuncData}
theorem scWell : FnScope ["_law_script", "_law_at", "_law_cell"] ["_law_script", "_law_at"] (defScope sWell) := ⟨rfl, rfl, rfl, by decide +kernel, rfl, by decide +kernel, by decide +kernel⟩
theorem ok_well (F : FnP K "_law_well" sWell f fd) (gI : mg "int" = none) : FnOk P w K mg base CX0 1 f fd ["_law_script", "_law_at"] (spWell K) := by
  refine F.ok scWell (fun vs H Q E h => ?_) (fun cdv A outer s H vs Q E hr h => ?_)
  · obtain ⟨a, ns, k, rfl, _⟩ := h
    rfl
  refine ⟨_, PSs.nox (pss_cons (ps_set (i := 2) scWell.nd rfl (Or.inl rfl) (pe_ix ix_list (pe_op op_catR (pv 0) (pe_op op_rep (pe_lst (pa_cons pe_int pa_nil)) (pe_op op_add (pv 1) pe_int))) (pv 1) (fun _ _ => rfl)))
    (pss_one (ps_ret (pe_lst (pa_cons (pe_op op_mul (pv 2) (pe_callTy call_int1 (by rfl) gI boot_int (pa_cons (pe_cmpR op_ge (pv 2) (pe_op op_pow pe_int pe_int) (nomark _)) pa_nil)))
      (pa_cons (pe_op op_add (pe_op op_modN (pe_callTy call_int1 (by rfl) gI boot_int (pa_cons (pv 2) pa_nil)) pe_int) (pe_op op_mul pe_int (pv 1)))
      (pa_cons pe_int pa_nil))))))), ?_⟩
  obtain ⟨a, ns, k, rfl, ha, l1, l2, kk⟩ := h
  refine ⟨_, rfl, by decide, fun p hp => ?_⟩
  refine ⟨_, rfl, _, 1, rfl, rfl, p, _, _, rfl, rfl, upd_same, by omega, by omega, ?_, fun q hq => ?_⟩
  · show 1 * ((k : Int) + 1).toNat ≤ sizeLine
    rw [sizeLine_eq]
    omega
  obtain ⟨c, hc⟩ := cell_is (ns := ns) (k := k) (m := (k : Int) + 1) rfl
  have len2 : (ns.map V.int).length + (List.replicate ((k : Int) + 1).toNat [V.int 0]).flatten.length ≤ sizeLine := by
    rw [rep_ints, List.length_map, List.length_map, List.length_replicate, sizeLine_eq]
    omega
  refine ⟨a, q, _, _, rfl, rfl, ((Same.new hp).trans (Same.new hq)).seq ha, SqL.of upd_same, len2, fun r hr => ?_⟩
  refine ⟨_, rfl, r, _, k, _, rfl, rfl, SqL.of upd_same, hc, ?_⟩
  refine ⟨_, rfl, _, rfl, _, _, rfl, rfl, ⟨by decide, by decide, by decide⟩, _, _, rfl, rfl, .inr ⟨_, rfl, ?_⟩⟩
  refine ⟨_, _, rfl, rfl, .inr ?_, ?_⟩
  · split <;> decide
  refine ⟨_, rfl, .inl ⟨_, rfl, _, _, rfl, rfl, (show (2147483647 : Int) ≠ 0 by decide), ?_⟩⟩
  refine ⟨_, rfl, 7919, _, rfl, rfl, .inl (by decide), _, _, rfl, rfl, ?_⟩
  refine ⟨by show 3 ≤ sizeLine; decide, fun z hz => ?_⟩
  refine kk _ _ ?_ ⟨_, _, _, upd_same⟩ ((((Same.new hp).trans (Same.new hq)).trans (Same.new hr)).trans (Same.new hz))
  exact (((Same.new hp).trans (Same.new hq)).trans (Same.new hr)).free hz
theorem scOne : FnScope ["_law_well_here", "_law_some"] ["_law_well_here", "_law_some"] (defScope sOne) := ⟨rfl, rfl, rfl, by decide +kernel, rfl, by decide +kernel, by decide +kernel⟩
theorem ok_one (F : FnP K "_law_one" sOne f fd) (FD : FnP K "_law_draw" sDraw fD fdD) (gD : mg "_law_draw" = some (.ref fD)) (gI : mg "int" = none) (gL : mg "len" = none) :
    FnOk P w K mg base CX0 2 f fd ["_law_well_here", "_law_some"] (spOne K) := by
  have GD : FnOk P w K mg base CX0 1 fD fdD ["_law_well_here", "_law_much"] spDraw := ok_draw FD gI
  have bD : Binds K fdD ["_law_well_here", "_law_much"] [] := FD.bindsN fun _ _ _ _ _ _ us hl => match us, hl with | [_, _], _ => rfl
  refine F.ok scOne (fun vs H Q E h => ?_) (fun cdv A outer s H vs Q E hr h => ?_)
  · obtain ⟨a, l, xs, rfl, _⟩ := h
    rfl
  refine ⟨_, PSs.nox (pss_one (ps_ret (pe_ix ix_list (pv 1) (pe_call GD hr (by rfl) gD FD.kp bD .nil pass0 (pa_cons (pv 0) (pa_cons (pe_callB call_len_seq (by rfl) gL boot_len (pa_cons (pv 1) pa_nil)) pa_nil))) (fun _ _ => rfl)))), ?_⟩
  obtain ⟨a, l, xs, rfl, wl, ne, hl, x0, x1, k⟩ := h
  refine ⟨_, rfl, _, rfl, _, rfl, l, xs, rfl, .inl (SqL.of hl), ?_⟩
  refine ⟨a, (xs.length : Int), rfl, wl, by omega, by omega, fun H' d d0 d1 w2 bt => ?_⟩
  obtain ⟨x, hx, ex⟩ := atI_some (xs := xs) d0 d1
  exact ⟨l, xs, d, x, rfl, rfl, SqL.of (bt _ _ ne hl), ex, k H' x hx w2 bt⟩
end
end K02

set_option maxRecDepth 100000
set_option maxHeartbeats 4000000
/-! The promise of an own exception's __init__ that keeps its arguments as fields; making one. -/
namespace L2
open PySem PySem.Spec PyProof.Rows He
/-- .. new: its dict was not there in H -/
def IsExN (H H' : Hp) (a C : Addr) (fs : List (Str × V)) : Prop := (fs = [] ∧ H' a = some (exo a C none)) ∨ ∃ dx, H dx = none ∧ H' a = some (exo a C (some dx)) ∧ H' dx = some (exd dx fs)
theorem IsExN.is {H H' : Hp} {a C : Addr} {fs : List (Str × V)} (h : IsExN H H' a C fs) : IsEx H' a C fs := by
  rcases h with h | ⟨dx, _, h⟩
  · exact .inl h
  · exact .inr ⟨dx, h⟩
def spIni (K : PySem.W.Frag) (names : List Str) : Sp := fun vs H Q _ => ∃ (a C : Addr) (ws : List V), vs = .ref a :: ws ∧ ws.length = names.length ∧ OexC K C ∧ (∀ f ∈ names, PySem.W.findIn K (.ref C) f = some none) ∧
  H a = some (exo a C none) ∧ ∀ H', But a H H' → IsExN H H' a C (names.zip ws).reverse → Q .non H'
theorem ini1 {K : PySem.W.Frag} {f : Str} {vs : List V} {H : Hp} {Q : VK} {E : XK} (h : spIni K [f] vs H Q E) : ∃ (a C : Addr) (v : V), vs = [.ref a, v] ∧ OexC K C ∧ PySem.W.findIn K (.ref C) f = some none ∧ H a = some (exo a C none) ∧
    ∀ dx, H dx = none → dx ≠ a → Q .non (upd (upd H dx (exd dx [(f, v)])) a (exo a C (some dx))) := by
  obtain ⟨a, C, ws, rfl, l, T, no, ha, k⟩ := h
  match ws, l with
  | [v], _ =>
    refine ⟨a, C, v, rfl, T, no f (by simp), ha, fun dx n ne => k _ (fun b o hb e => ?_) (.inr ⟨dx, n, upd_same, ?_⟩)⟩
    · rw [upd_ne hb, upd_ne (ne_of_none e n)]
      exact e
    · rw [upd_ne ne]
      exact upd_same
theorem ini2 {K : PySem.W.Frag} {f g : Str} {vs : List V} {H : Hp} {Q : VK} {E : XK} (h : spIni K [f, g] vs H Q E) : ∃ (a C : Addr) (v u : V), vs = [.ref a, v, u] ∧ OexC K C ∧ PySem.W.findIn K (.ref C) f = some none ∧ PySem.W.findIn K (.ref C) g = some none ∧ H a = some (exo a C none) ∧
    ∀ dx, H dx = none → dx ≠ a → Q .non (upd (upd (upd H dx (exd dx [(f, v)])) a (exo a C (some dx))) dx (exd dx [(g, u), (f, v)])) := by
  obtain ⟨a, C, ws, rfl, l, T, no, ha, k⟩ := h
  match ws, l with
  | [v, u], _ =>
    refine ⟨a, C, v, u, rfl, T, no f (by simp), no g (by simp), ha, fun dx n ne => k _ (fun b o hb e => ?_) (.inr ⟨dx, n, ?_, upd_same⟩)⟩
    · rw [upd_ne (ne_of_none e n), upd_ne hb, upd_ne (ne_of_none e n)]
      exact e
    · rw [upd_ne (Ne.symm ne)]
      exact upd_same
theorem ini0 {K : PySem.W.Frag} {vs : List V} {H : Hp} {Q : VK} {E : XK} (h : spIni K [] vs H Q E) : ∃ a : Addr, vs = [.ref a] ∧ Q .non H := by
  obtain ⟨a, C, ws, rfl, l, T, no, ha, k⟩ := h
  match ws, l with
  | [], _ => exact ⟨a, rfl, k H (fun _ _ _ e => e) (.inl ⟨rfl, ha⟩)⟩
/-- how it binds by place -/
theorem KBn.of {K : PySem.W.Frag} {fd : FuncData} {ps : List Str} {n : Nat} (b : Binds K fd ps []) (l : ps.length = n) : KBn K fd ps n [] (fun us _ => us) (fun vs _ => vs) :=
  ⟨fun s us ws X l1 _ => by
    have h := b s us X (by rw [List.append_nil, l1, l])
    rw [List.append_nil] at h
    exact h, fun r _ => r⟩
/-- .. by name, without defaults -/
theorem FunD.byName {K : PySem.W.Frag} {x qual : Str} {params : Arguments} {body : List Stmt} {scope : Scope} {kws : List (Str × V)} {f : Addr} {fd : FuncData} {ps : List Str} (F : FunD K x qual params body scope [] kws f fd) (n : Nat) (ks : List Str) (g : {α : Type} → List α → List α → List α)
    (rel : ∀ {vs zs : List V} {us ws : List Value}, Vals vs us → Vals zs ws → Vals (g vs zs) (g us ws))
    (h : ∀ (kV doc pm : Value) (an : Option Addr) (cdv ct : Value) (us ws : List Value), us.length = n → ws.length = ks.length → bindArgs (PySem.W.fnOf x qual params body scope .none kV doc pm an cdv ct) ⟨us, ks.zip ws⟩ = pure (ps.zip (g us ws))) :
    KBn K fd ps n ks (fun us ws => g us ws) (fun vs zs => g vs zs) := by
  obtain ⟨oc, od, dV, kV, doc, pm, an, cdv, ct, osl, rfl, lk, hcd, hD, hK⟩ := F.ex
  rcases hD with ⟨_, rfl⟩ | ⟨e, _⟩
  · exact ⟨fun s us ws X l1 l2 => .of_eq (h kV doc pm an cdv ct us ws l1 l2), rel⟩
  · exact absurd rfl e
/-- the reading of C(..) -/
theorem read_mkX {K K' : PySem.W.Frag} {x : Str} {names : List Str} (T : VH.ClOk K x names) {H : Hp} {R : VK} {as : List V} {a : Addr} (ws : List V) (n : H a = none) (eK : K' = K) (l : ws.length = names.length) (hg : as = .ref a :: ws)
    (k : ∀ H', Same H H' → IsEx H' a (ga K x) (names.zip ws).reverse → R .non H') : spIni K' names as (upd H a (exo a (ga K x) none)) R E0 := by
  subst eK
  exact ⟨a, ga K' x, ws, hg, l, T.mkx.toOexC, T.no, upd_same, fun H' bt is => k H' (fun b o e => bt b o (ne_of_none e n) (by
    rw [upd_ne (ne_of_none e n)]
    exact e)) is.is⟩
/-- the reading of raise C(..): Q of the class, the dict, the heap with it -/
theorem read_raise {K K' : PySem.W.Frag} {x : Str} {names : List Str} (T : VH.ClOk K x names) {H : Hp} {Q : XK} {as : List V} {a : Addr} (ws : List V) (n : H a = none) (eK : K' = K) (l : ws.length = names.length) (ne : ws ≠ []) (hg : as = .ref a :: ws)
    (k : ∀ (d : Addr) (H' : Hp), H d = none → Same H H' → H' d = some (.xd (names.zip ws).reverse) → Q (.ref (ga K x)) (some d) H') :
    spIni K' names as (upd H a (exo a (ga K x) none)) (fun v H2 => v = .non ∧ ∃ (d : Addr) (fs : List (Str × V)), H2 a = some (exo a (ga K x) (some d)) ∧ H2 d = some (exd d fs) ∧ H d = none ∧ Q (.ref (ga K x)) (some d) (upd (del H2 a) d (.xd fs))) (fun _ _ _ => False) := by
  subst eK
  refine ⟨a, ga K' x, ws, hg, l, T.mkx.toOexC, T.no, upd_same, fun H' bt is => ⟨rfl, ?_⟩⟩
  rcases is with ⟨z, _⟩ | ⟨dx, nd, e1, e2⟩
  · exfalso
    match ws, names, l, ne with
    | w :: ws, f :: fs, _, _ => simp at z
    | w :: ws, [], l, _ => simp at l
    | [], _, _, ne => exact ne rfl
  · have da : dx ≠ a := fun z => by
      rw [z, upd_same] at nd
      cases nd
    have nd' : H dx = none := by
      rw [upd_ne da] at nd
      exact nd
    refine ⟨dx, _, e1, e2, nd', k dx _ nd' (fun b o e => ?_) upd_same⟩
    have ba' : b ≠ a := ne_of_none e n
    rw [upd_ne (ne_of_none e nd'), del_ne ba']
    exact bt b o ba' (by
      rw [upd_ne ba']
      exact e)
/-- a row of such objects: their classes' names, their fields -/
def ExL (K : PySem.W.Frag) (H : Hp) : List V → List (Str × List (Str × V)) → Prop
  | [], [] => True
  | v :: vs, c :: cs => (∃ a, v = .ref a ∧ IsEx H a (ga K c.1) c.2) ∧ ExL K H vs cs
  | _, _ => False
theorem ExL.same {K : PySem.W.Frag} {H H' : Hp} (e : Same H H') : ∀ {vs : List V} {cs : List (Str × List (Str × V))}, ExL K H vs cs → ExL K H' vs cs
  | [], [], _ => trivial
  | [], _ :: _, h => h.elim
  | _ :: _, [], h => h.elim
  | v :: vs, c :: cs, ⟨⟨a, z, is⟩, h⟩ => ⟨⟨a, z, is.same e⟩, ExL.same e h⟩
theorem ExL.snoc {K : PySem.W.Frag} {H H' : Hp} {a : Addr} {c : Str × List (Str × V)} (e : Same H H') (is : IsEx H' a (ga K c.1) c.2) : ∀ {vs : List V} {cs : List (Str × List (Str × V))}, ExL K H vs cs → ExL K H' (vs ++ [.ref a]) (cs ++ [c])
  | [], [], _ => ⟨⟨a, rfl, is⟩, trivial⟩
  | [], _ :: _, h => h.elim
  | _ :: _, [], h => h.elim
  | v :: vs, d :: cs, ⟨⟨b, z, is'⟩, h⟩ => ⟨⟨b, z, is'.same e⟩, ExL.snoc e is h⟩
theorem ExL.len {K : PySem.W.Frag} {H : Hp} : ∀ {vs : List V} {cs : List (Str × List (Str × V))}, ExL K H vs cs → vs.length = cs.length
  | [], [], _ => rfl
  | [], _ :: _, h => h.elim
  | _ :: _, [], h => h.elim
  | v :: vs, c :: cs, ⟨_, h⟩ => congrArg Nat.succ h.len
theorem ExL.at {K : PySem.W.Frag} {H : Hp} : ∀ {vs : List V} {cs : List (Str × List (Str × V))} {i : Nat} {c : Str × List (Str × V)}, ExL K H vs cs → cs[i]? = some c → ∃ a, vs[i]? = some (.ref a) ∧ IsEx H a (ga K c.1) c.2
  | [], [], _, _, _, e => by cases e
  | [], _ :: _, _, _, h, _ => h.elim
  | _ :: _, [], _, _, h, _ => h.elim
  | v :: vs, d :: cs, 0, c, ⟨⟨a, z, is⟩, _⟩, e => by
    have e' : d = c := Option.some.inj e
    rw [← e']
    exact ⟨a, congrArg some z, is⟩
  | v :: vs, d :: cs, i + 1, c, ⟨_, h⟩, e => ExL.at h (i := i) e
end L2

set_option maxRecDepth 100000
set_option maxHeartbeats 4000000
/-! A comparison by an own method, of an own instance with anything of a known type; whatever the method answers. -/
namespace L2
open PySem PySem.Spec PyProof.Rows
section
variable {X : Cx} {CX : CXT} {C g : Addr} {n : Nat} {sp : Sp} {E : XK} {op : CmpOp}
/-- x op y: x an instance of C, whose method for op has the promise sp; y's type is C, or known to be none below it -/
def rOwnA (K : PySem.W.Frag) (C : Addr) (sp : Sp) (E : XK) (X : Cx) : R2 := fun x y H Q =>
  ∃ (a : Addr) (t : Value), x = .ref a ∧ StX.InsC X H a C ∧ TyX K H y t ∧ PySem.W.notFirst K C t = true ∧ sp [x, y] H Q E
theorem op_ownA (hop : ∀ a b : Value, compareOp op a b = richCompare op a b)
    (hf : PySem.W.findIn X.K (.ref C) (cmpInfo op).2.1 = some (some (.ref g))) (fn : PySem.W.isFn X.K (.ref g) = true)
    (F : FnR X.prog X.w X.K X.mg X.base CX n g sp) (hr : Room n X.A) (hx : Passes CX X E) : OpR X (compareOp op) (rOwnA X.K C sp E X) := by
  intro pins s σ H x y v u Q I rx ry h
  obtain ⟨a, t, rfl, ia, ty, nf, q⟩ := h
  cases (show v = Value.ref a from rx)
  rw [hop]
  obtain ⟨ox, od, at_, _⟩ := StX.insC_at I ia
  obtain ⟨P, kx, hp, _⟩ := kit_of I ry ty
  obtain ⟨m, fr⟩ := I.fr
  have kin : X.K.In s.heap := PySem.W.Frag.In.keeps I.ok.mod.kin fr.keep
  have un : X.A.units < cLine := by
    have := hr.un
    omega
  refine PySem.W.cmp_K un fr I.ok.mod.kin at_ (kx.ty _ _ kin hp) nf hf fn (wpAny_call ?_)
  refine codeAny_mono (SlX.run_at F hr I.env0 hx I (.cons rx (.cons ry .nil)) q) fun r s' z => ?_
  split at z
  · obtain ⟨w', H', I', rw', q'⟩ := z
    exact SlX.cmpback rw' ⟨w', H', I', rw', q'⟩
  · exact z.elim
  · exact z
end
end L2

set_option maxRecDepth 100000
set_option maxHeartbeats 4000000
/-! != of an own instance whose class has an own __eq__ and object's __ne__, with anything of a known type. -/
namespace PySem.W
open PySem PySem.Spec PySem.Calls PyProof.Rows
section
variable {prog : Program} {w : World} {A : Around} {E : Value → Shared → Prop} {s : Shared} {K : Frag} {x C g : Addr} {ox : Obj} {od : Option Obj} {b : Value}
theorem ifBound_ne {Q : Option Value → Shared → Prop} (hu : A.units + 1 < cLine) (X : K.In s.heap) (I : InstAt s.heap x ox C od)
    (hn : findIn K (.ref C) "__ne__" = some (some (.builtin "object.__ne__"))) (ho : subIn K (.ref C) (.type "object") = some true)
    (he : findIn K (.ref C) "__eq__" = some (some (.ref g))) (fn : isFn K (.ref g) = true)
    (h : wpAny (model prog w) A.in1 (call (.ref g) [.ref x, b]) (fun v s' => ∃ c, v = .bool c ∧ Q (some (.bool !c)) s') E s) :
    wpAny (model prog w) A (callSpecialIfBound? (.ref x) "__ne__" [b]) Q E s := by
  have fin : wpAny (model prog w) A (call (.builtin "object.__ne__") ([.ref x] ++ [b]) >>= fun r => pure (some r)) Q E s := by
    refine wpAny_bind (wpAny_call (codeAny_call_builtin PySem.F.slot_object_ne.plain PySem.F.entry_object_ne ?_))
    have sub : Looks (model prog w) s.heap (isInstance (.ref x) (.type "object")) true := (I.type (M := model prog w)).andThen (looks_subIn X ho)
    refine check_slot (n := "__ne__") (owner := "object") (by decide +kernel) (by decide +kernel) sub (PySem.F.args_object_ne_2 (.ref x) b) ?_
    unfold Builtin.«object.__ne__»
    refine wpAny_bind (wpAny_of_eq (a := ((Value.ref x : Value), [b])) (by
      first | rfl | (simp only [slotArgs]; rfl)) ?_)
    refine wpAny_bind (wpAny_cRoomFor hu ?_)
    refine wpAny_bind (ifBound_K X I he fn (wpAny_mono h (fun v s' z => ?_) (fun _ _ z => z)))
    obtain ⟨c, rfl, q⟩ := z
    show wpAny _ _ (truthy (.bool c) >>= fun t => ret (.bool !t)) _ _ _
    refine wpAny_bind (wpAny_of_eq (a := c) (by rfl) ?_)
    exact wpAny_pure (wpAny_pure q)
  unfold callSpecialIfBound? bindSpecialIfBound? specialOf
  refine wpAny_holding (wpAny_bind (wpAny_bind (wpAny_bind ((I.type (M := model prog w)).here ((looks_findIn (M := model prog w) X hn).here ?_)))))
  refine wpAny_bind (wpAny_askSetting ?_)
  have bnd : bindSpecial (Value.builtin "object.__ne__") (.ref x) = pure (Value.builtin "object.__ne__", [.ref x]) := PySem.F.slot_object_ne.bind _
  show wpAny _ _ (if _ then _ else _) _ _ _
  rw [bnd]
  refine wpAny_ite ?_
  split
  · exact wpAny_bind (wpAny_pure (wpAny_pure fin))
  · exact wpAny_tryCatch (wpAny_bind (wpAny_pure (wpAny_pure fin)))
end
end PySem.W
namespace PySem.W
open PySem PySem.Spec PySem.Calls PyProof.Rows
section
variable {prog : Program} {w : World} {A : Around} {E : Value → Shared → Prop} {s : Shared} {K : Frag} {x C g : Addr} {ox : Obj} {od : Option Obj} {b tb : Value}
theorem cmp_ne {Q : Value → Shared → Prop} (hu : A.units + 1 < cLine) (X : K.In s.heap) (I : InstAt s.heap x ox C od)
    (hb : Looks (model prog w) s.heap (typeOf b) tb) (nf : notFirst K C tb = true)
    (hn : findIn K (.ref C) "__ne__" = some (some (.builtin "object.__ne__"))) (ho : subIn K (.ref C) (.type "object") = some true)
    (he : findIn K (.ref C) "__eq__" = some (some (.ref g))) (fn : isFn K (.ref g) = true)
    (h : wpAny (model prog w) A.in1 (call (.ref g) [.ref x, b]) (fun v s' => ∃ c, v = .bool c ∧ Q (.bool !c) s') E s) :
    wpAny (model prog w) A (richCompare .NotEq (.ref x) b) Q E s := by
  have one : wpAny (model prog w) A (tryCompare (.ref x) "__ne__" b) (fun r s' => ∃ v, r = some v ∧ Q v s') E s := by
    unfold tryCompare
    refine wpAny_bind (ifBound_ne hu X I hn ho he fn (wpAny_mono h (fun v s' z => ?_) (fun _ _ z => z)))
    obtain ⟨c, rfl, q⟩ := z
    exact ⟨c, rfl, wpAny_pure ⟨_, rfl, q⟩⟩
  unfold richCompare
  refine wpAny_holding (wpAny_bind (wpAny_cRoomFor (by omega) ?_))
  refine wpAny_bind ((I.type (M := model prog w)).here (wpAny_bind (hb.here ?_)))
  unfold notFirst at nf
  refine wpAny_ite ?_
  split
  · rename_i ne
    have sb : subIn K tb (.ref C) = some false := by
      rcases Bool.or_eq_true_iff.mp nf with q | q
      · have e : tb = .ref C := eq_of_beq q
        subst e
        simp at ne
      · exact eq_of_beq q
    refine wpAny_bind ((looks_subIn X sb).here ?_)
    show wpAny _ _ (tryCompare (.ref x) "__ne__" b >>= _) _ _ _
    exact wpAny_bind (wpAny_mono one (fun r s' z => by
      obtain ⟨v, rfl, q⟩ := z
      exact wpAny_pure q) (fun _ _ z => z))
  · refine wpAny_bind (wpAny_pure ?_)
    show wpAny _ _ (tryCompare (.ref x) "__ne__" b >>= _) _ _ _
    exact wpAny_bind (wpAny_mono one (fun r s' z => by
      obtain ⟨v, rfl, q⟩ := z
      exact wpAny_pure q) (fun _ _ z => z))
end
end PySem.W
namespace L2
open PySem PySem.Spec PyProof.Rows
section
variable {X : Cx} {CX : CXT} {C g : Addr} {n : Nat} {sp : Sp} {E : XK}
/-- x != y by C's own __eq__ -/
def rNeA (K : PySem.W.Frag) (C : Addr) (sp : Sp) (E : XK) (X : Cx) : R2 := fun x y H Q =>
  ∃ (a : Addr) (t : Value), x = .ref a ∧ StX.InsC X H a C ∧ TyX K H y t ∧ PySem.W.notFirst K C t = true ∧
    sp [x, y] H (fun z H' => ∃ c : Bool, z = .bl c ∧ Q (.bl !c) H') E
theorem op_neA (hn : PySem.W.findIn X.K (.ref C) "__ne__" = some (some (.builtin "object.__ne__"))) (ho : PySem.W.subIn X.K (.ref C) (.type "object") = some true)
    (he : PySem.W.findIn X.K (.ref C) "__eq__" = some (some (.ref g))) (fn : PySem.W.isFn X.K (.ref g) = true)
    (F : FnR X.prog X.w X.K X.mg X.base CX n g sp) (hr : Room (n + 1) X.A) (hx : Passes CX X E) : OpR X (compareOp .NotEq) (rNeA X.K C sp E X) := by
  intro pins s σ H x y v u Q I rx ry h
  obtain ⟨a, t, rfl, ia, ty, nf, q⟩ := h
  cases (show v = Value.ref a from rx)
  show wpAny _ _ (richCompare .NotEq _ _) _ _ _
  obtain ⟨ox, od, at_, _⟩ := StX.insC_at I ia
  obtain ⟨P, kx, hp, _⟩ := kit_of I ry ty
  obtain ⟨m, fr⟩ := I.fr
  have kin : X.K.In s.heap := PySem.W.Frag.In.keeps I.ok.mod.kin fr.keep
  have un : X.A.units + 1 < cLine := by
    have := hr.un
    omega
  have sub : Sub X n X.A.in1 := Sub.in1 ⟨hr, rfl⟩
  have en : Env0 X.prog X.w X.K X.mg X.base X.A.in1 X.stack s H := by
    have e := I.env0
    exact ⟨e.frames, e.mod, e.bs, e.bsz, e.funs, e.frf, e.hok, e.bare⟩
  refine PySem.W.cmp_ne un kin at_ (kx.ty _ _ kin hp) nf hn ho he fn (wpAny_call ?_)
  refine codeAny_mono (SlX.run_at F sub.room en hx I (.cons rx (.cons ry .nil)) q) fun r s' z => ?_
  split at z
  · obtain ⟨w', H', I', rw', c, rfl, q'⟩ := z
    exact ⟨c, rw', .bl !c, H', I', rfl, q'⟩
  · exact z.elim
  · exact z
end
end L2

set_option maxRecDepth 100000
set_option maxHeartbeats 4000000
namespace L2
open PySem PySem.Spec PyProof.Rows He
/-- the reading of raise C(..) -/
theorem read_rz {K K' : PySem.W.Frag} {x : Str} {names : List Str} (T : VH.ClOk K x names) {H : Hp} {R : VK} {as : List V} {a : Addr} (ws : List V) (n : H a = none) (eK : K' = K) (l : ws.length = names.length) (ne : ws ≠ []) (hg : as = .ref a :: ws)
    (k : ∀ (d : Addr) (H2 : Hp), H2 a = some (exo a (ga K x) (some d)) → H2 d = some (exd d (names.zip ws).reverse) → H d = none → Same H (upd (del H2 a) d (.xd (names.zip ws).reverse)) → R .non H2) :
    spIni K' names as (upd H a (exo a (ga K x) none)) R (fun _ _ _ => False) := by
  subst eK
  refine ⟨a, ga K' x, ws, hg, l, T.mkx.toOexC, T.no, upd_same, fun H' bt is => ?_⟩
  rcases is with ⟨z, _⟩ | ⟨dx, nd, e1, e2⟩
  · exfalso
    match ws, names, l, ne with
    | w :: ws, f :: fs, _, _ => simp at z
    | w :: ws, [], l, _ => simp at l
    | [], _, _, ne => exact ne rfl
  · have da : dx ≠ a := fun z => by
      rw [z, upd_same] at nd
      cases nd
    have nd' : H dx = none := by
      rw [upd_ne da] at nd
      exact nd
    refine k dx H' e1 e2 nd' (fun b o e => ?_)
    have ba' : b ≠ a := ne_of_none e n
    rw [upd_ne (ne_of_none e nd'), del_ne ba']
    exact bt b o ba' (by
      rw [upd_ne ba']
      exact e)
end L2

set_option maxRecDepth 100000
set_option maxHeartbeats 4000000
namespace K02
open PySem PySem.Spec PyProof.Rows L2 He VH
theorem strsB_ok : ∀ {l : List Value} {ws : List Str}, strsB l ws = true → Vals (ws.map V.str) l
  | [], [], _ => .nil
  | v :: l, w :: ws, h => by
    cases v with
    | str x t =>
      obtain ⟨h1, h2⟩ := ba (show (decide (x = w) && strsB l ws) = true from h)
      obtain rfl := of_decide_eq_true h1
      exact .cons ⟨t, rfl⟩ (strsB_ok h2)
    | _ => cases h
  | [], _ :: _, h => by cases h
  | v :: _, [], h => by cases v <;> cases h
theorem tupS_ok {K : PySem.W.Frag} {a : Addr} {ws : List Str} (h : tupS K a ws = true) (H : Hp) : SqT K H a (ws.map V.str) := by
  unfold tupS at h
  split at h
  · rename_i c d its n sl e
    obtain ⟨h1, h2⟩ := ba h
    obtain ⟨h2, h3⟩ := ba h2
    obtain rfl := of_decide_eq_true h1
    exact .inr ⟨_, its, _, e, rfl, rfl, Nat.le_trans (of_decide_eq_true h3) (by decide), strsB_ok h2⟩
  · cases h
theorem refsB_ok {K : PySem.W.Frag} : ∀ {l : List Value} {ws : List (List Str)}, refsB K l ws = true → ∃ ps : List Addr, Vals (ps.map V.ref) l ∧ ps.length = ws.length ∧ ∀ (i : Nat) (p : Addr) (w : List Str), ps[i]? = some p → ws[i]? = some w → ∀ H, SqT K H p (w.map V.str)
  | [], [], _ => ⟨[], .nil, rfl, fun i p w h => by simp at h⟩
  | v :: l, w :: ws, h => by
    cases v with
    | ref p =>
      obtain ⟨h1, h2⟩ := ba (show (tupS K p w && refsB K l ws) = true from h)
      obtain ⟨ps, r1, r2, r3⟩ := refsB_ok h2
      refine ⟨p :: ps, .cons rfl r1, by simp [r2], fun i q u e1 e2 H => ?_⟩
      match i, e1, e2 with
      | 0, e1, e2 =>
        cases e1
        cases e2
        exact tupS_ok h1 H
      | i + 1, e1, e2 => exact r3 i q u e1 e2 H
    | _ => cases h
  | [], _ :: _, h => by cases h
  | v :: _, [], h => by cases v <;> cases h
/-- the places of a word of PLACES -/
def Plc (K : PySem.W.Frag) (k : Str) (ws : List (List Str)) : Prop := ∃ (p : Addr) (ps : List Addr), PySem.W.nsIn K (ga K "PLACES") k = some (some (.ref p)) ∧ (∀ H, SqT K H p (ps.map V.ref)) ∧ ps.length = ws.length ∧
  ∀ (i : Nat) (p : Addr) (w : List Str), ps[i]? = some p → ws[i]? = some w → ∀ H, SqT K H p (w.map V.str)
theorem plcB_ok {K : PySem.W.Frag} {k : Str} {ws : List (List Str)} (h : plcB K k ws = true) : Plc K k ws := by
  unfold plcB at h
  split at h
  · rename_i p e
    unfold tupT at h
    split at h
    · rename_i c d its n sl e2
      obtain ⟨h1, h2⟩ := ba h
      obtain ⟨h2, h3⟩ := ba h2
      obtain rfl := of_decide_eq_true h1
      obtain ⟨ps, r1, r2, r3⟩ := refsB_ok h2
      exact ⟨p, ps, e, fun H => .inr ⟨_, its, _, e2, rfl, rfl, Nat.le_trans (of_decide_eq_true h3) (by decide), r1⟩, r2, r3⟩
    · cases h
  · cases h
/-- what the written part says -/
structure Txt (K : PySem.W.Frag) (mg : Str → Option Value) (w : World) : Prop where
  nos : ClOk K "NoStatement" []
  row : ClOk K "NoRow" ["part"]
  mNos : mg "NoStatement" = some (.ref (ga K "NoStatement"))
  mRow : mg "NoRow" = some (.ref (ga K "NoRow"))
  chk : ∀ H, SqT K H (ga K "CHECKS") ((["missing", "same old", "same new"] : List Str).map V.str)
  rdg : ∀ H, SqT K H (ga K "READING") ((["put", "read", "copy", "same old", "same new"] : List Str).map V.str)
  tkg : ∀ H, SqT K H (ga K "TAKING") ((["insert", "input"] : List Str).map V.str)
  pSet : Plc K "set" [["keep", "input", "read"], ["keep", "none", "now", "read", "copy"]]
  pPut : Plc K "put" [["none", "now", "read", "copy"]]
  pIns : Plc K "insert" [["none", "now"]]
  pDel : Plc K "delete" []
  xm : ∀ c ∈ (["NoStatement", "NoRow"] : List Str), ∀ d ∈ (["NoStatement", "NoRow", "FillError"] : List Str), PySem.W.exmOne K (.ref (ga K c)) (.ref (ga K d)) = some (d == c || d == "FillError")
  plc : ∃ es n, KDict K w (ga K "PLACES") es n
  m_FillError : mg "FillError" = some (.ref (ga K "FillError"))
  m_is_integer : mg "is_integer" = some (.ref (ga K "is_integer"))
  m_is_word : mg "is_word" = some (.ref (ga K "is_word"))
  m_are_words : mg "are_words" = some (.ref (ga K "are_words"))
  m_CHECKS : mg "CHECKS" = some (.ref (ga K "CHECKS"))
  m_PLACES : mg "PLACES" = some (.ref (ga K "PLACES"))
  m_READING : mg "READING" = some (.ref (ga K "READING"))
  m_TAKING : mg "TAKING" = some (.ref (ga K "TAKING"))
  m_is_row : mg "is_row" = some (.ref (ga K "is_row"))
  m_is_statement : mg "is_statement" = some (.ref (ga K "is_statement"))
  m_checks_of : mg "checks_of" = some (.ref (ga K "checks_of"))
  m_has_word : mg "has_word" = some (.ref (ga K "has_word"))
  m_needs_read : mg "needs_read" = some (.ref (ga K "needs_read"))
  m_needs_input : mg "needs_input" = some (.ref (ga K "needs_input"))
  m_applied : mg "applied" = some (.ref (ga K "applied"))
  m_takes_effect : mg "takes_effect" = some (.ref (ga K "takes_effect"))
  m_fails : mg "fails" = some (.ref (ga K "fails"))
  m_row_behind : mg "row_behind" = some (.ref (ga K "row_behind"))
  m_old_behind : mg "old_behind" = some (.ref (ga K "old_behind"))
  m_source_behind : mg "source_behind" = some (.ref (ga K "source_behind"))
  m_l_draw : mg "_law_draw" = some (.ref (ga K "_law_draw"))
  m_l_well : mg "_law_well" = some (.ref (ga K "_law_well"))
  m_l_one : mg "_law_one" = some (.ref (ga K "_law_one"))
  m_l_checks_all : mg "_law_checks_all" = some (.ref (ga K "_law_checks_all"))
  m_l_statements : mg "_law_statements" = some (.ref (ga K "_law_statements"))
  m_l_needs_read : mg "_law_needs_read" = some (.ref (ga K "_law_needs_read"))
  m_l_needs_input : mg "_law_needs_input" = some (.ref (ga K "_law_needs_input"))
  m_l_integer : mg "_law_integer" = some (.ref (ga K "_law_integer"))
  m_l_row : mg "_law_row" = some (.ref (ga K "_law_row"))
  m_l_source : mg "_law_source" = some (.ref (ga K "_law_source"))
  m_l_barred : mg "_law_barred" = some (.ref (ga K "_law_barred"))
  m_l_due : mg "_law_due" = some (.ref (ga K "_law_due"))
  m_l_turned : mg "_law_turned" = some (.ref (ga K "_law_turned"))
  m_l_right : mg "_law_right" = some (.ref (ga K "_law_right"))
  g_len : mg "len" = none
  g_int : mg "int" = none
  g_range : mg "range" = none
  g_isinstance : mg "isinstance" = none
  g_tuple : mg "tuple" = none
  g_bool : mg "bool" = none
  g_str : mg "str" = none
  g_list : mg "list" = none
  g_all : mg "all" = none
  g_any : mg "any" = none
  g_zip : mg "zip" = none
theorem txt_of {w : World} {K : PySem.W.Frag} {h : Heap} {mg : Str → Option Value} (X : K.In h) (G : h.Ns mainGlobals mg) (cx : He.SaysX fa fn ts tf ex w h K) : Txt K mg w := by
  have c : SaysD fa fn K := cx.t.d
  have e := cx.more
  unfold ex at e
  obtain ⟨e0, e⟩ := ba e
  obtain ⟨e1, e⟩ := ba e
  obtain ⟨e2, e⟩ := ba e
  obtain ⟨e3, e⟩ := ba e
  obtain ⟨e4, e⟩ := ba e
  obtain ⟨e5, e⟩ := ba e
  obtain ⟨e6, e⟩ := ba e
  obtain ⟨e7, e⟩ := ba e
  obtain ⟨e8, e⟩ := ba e
  obtain ⟨e9, e10⟩ := ba e
  have r := clB_ok e1
  have n := clB_ok e2
  have d := fun {p : Prop} [Decidable p] (z : decide p = true) => of_decide_eq_true z
  exact ⟨r, n, PySem.W.mg_of X G r.gl, PySem.W.mg_of X G n.gl, tupS_ok e3, tupS_ok e4, tupS_ok e5, plcB_ok e6, plcB_ok e7, plcB_ok e8, plcB_ok e9,
    fun c hc x hx => d (List.all_eq_true.mp (List.all_eq_true.mp e10 c hc) x hx), cx.t.tab 0,
    glo_ok X G (c.fact 0), glo_ok X G (c.fact 1), glo_ok X G (c.fact 2), glo_ok X G (c.fact 3), glo_ok X G (c.fact 4), glo_ok X G (c.fact 5), glo_ok X G (c.fact 6), glo_ok X G (c.fact 7), glo_ok X G (c.fact 8), glo_ok X G (c.fact 9), glo_ok X G (c.fact 10), glo_ok X G (c.fact 11), glo_ok X G (c.fact 12), glo_ok X G (c.fact 13), glo_ok X G (c.fact 14), glo_ok X G (c.fact 15), glo_ok X G (c.fact 16), glo_ok X G (c.fact 17), glo_ok X G (c.fact 18), glo_ok X G (c.fact 19), glo_ok X G (c.fact 20), glo_ok X G (c.fact 21), glo_ok X G (c.fact 22), glo_ok X G (c.fact 23), glo_ok X G (c.fact 24), glo_ok X G (c.fact 25), glo_ok X G (c.fact 26), glo_ok X G (c.fact 27), glo_ok X G (c.fact 28), glo_ok X G (c.fact 29), glo_ok X G (c.fact 30), glo_ok X G (c.fact 31), glo_ok X G (c.fact 32), glo_ok X G (c.fact 33),
    free_ok X G (c.fact 35), free_ok X G (c.fact 36), free_ok X G (c.fact 37), free_ok X G (c.fact 38), free_ok X G (c.fact 39), free_ok X G (c.fact 40), free_ok X G (c.fact 41), free_ok X G (c.fact 42), free_ok X G (c.fact 43), free_ok X G (c.fact 44), free_ok X G (c.fact 45)⟩
end K02

set_option maxRecDepth 100000
set_option maxHeartbeats 4000000
namespace K02
open PySem PySem.Spec PyProof.Rows L2 He VH
abbrev sInt : Stmt := top 5
abbrev FnM (K : PySem.W.Frag) (m q : Str) (i j : Nat) (f : Addr) (fd : FuncData) : Prop := FunD K m q (defArgs (inClass (top i) j)) (defBody (inClass (top i) j)) (defScope (inClass (top i) j)) [] [] f fd
/-- the known type of a value: is it an integer -/
def IntV (K : PySem.W.Frag) (H : Hp) (x : V) (b : Bool) : Prop := ∃ (t : Value) (b1 b2 : Bool), TyX K H x t ∧ PySem.W.kitOne K t (.type "int") = some b1 ∧ PySem.W.kitOne K t (.type "bool") = some b2 ∧ b = (b1 && !b2)
theorem IntV.int {K : PySem.W.Frag} {H : Hp} {i : Int} : IntV K H (.int i) true := ⟨_, true, false, .base (.int i), kit_ty (by decide +kernel), kit_ty (by decide +kernel), rfl⟩
theorem IntV.bl {K : PySem.W.Frag} {H : Hp} {i : Bool} : IntV K H (.bl i) false := ⟨_, true, true, .base (.bl i), kit_ty (by decide +kernel), kit_ty (by decide +kernel), rfl⟩
theorem IntV.str {K : PySem.W.Frag} {H : Hp} {i : Str} : IntV K H (.str i) false := ⟨_, false, false, .base (.str i), kit_ty (by decide +kernel), kit_ty (by decide +kernel), rfl⟩
theorem IntV.non {K : PySem.W.Frag} {H : Hp} : IntV K H .non false := ⟨_, false, false, .base .non, kit_ty (by decide +kernel), kit_ty (by decide +kernel), rfl⟩
theorem IntV.tup {K : PySem.W.Frag} {H : Hp} {a : Addr} {xs : List V} (h : H a = some (.tup xs)) : IntV K H (.ref a) false := ⟨_, false, false, .base (.tup h), kit_ty (by decide +kernel), kit_ty (by decide +kernel), rfl⟩
theorem IntV.lst {K : PySem.W.Frag} {H : Hp} {a : Addr} {xs : List V} (h : H a = some (.lst xs)) : IntV K H (.ref a) false := ⟨_, false, false, .base (.lst h), kit_ty (by decide +kernel), kit_ty (by decide +kernel), rfl⟩
theorem IntV.dct {K : PySem.W.Frag} {H : Hp} {a : Addr} {xs : List (Key × V)} (h : H a = some (.dK xs)) : IntV K H (.ref a) false := ⟨_, false, false, .base (.dK h), kit_ty (by decide +kernel), kit_ty (by decide +kernel), rfl⟩
def spInt (K : PySem.W.Frag) : Sp := fun vs H Q _ => ∃ (x : V) (b : Bool), vs = [x] ∧ IntV K H x b ∧ Q (.bl b) H
section
variable {P : Program} {w : World} {K : PySem.W.Frag} {mg : Str → Option Value} {base : Heap} {f fI : Addr} {fd fdI : FuncData}
theorem scInt : FnScope ["value"] ["value"] (defScope sInt) := ⟨rfl, rfl, rfl, by decide +kernel, rfl, by decide +kernel, by decide +kernel⟩
theorem ok_int {CX : CXT} (F : FnP K "is_integer" sInt f fd) (T : Txt K mg w) : FnOk P w K mg base CX 1 f fd ["value"] (spInt K) := by
  refine F.ok scInt (fun vs H Q E h => ?_) (fun cdv A outer s H vs Q E hr h => ?_)
  · obtain ⟨x, b, rfl, _⟩ := h
    rfl
  refine ⟨_, pss_one (ps_ret (pe_and (pe_callB call_isi (by rfl) T.g_isinstance boot_isinstance (pa_cons (pv 0) (pa_cons (pe_bltn (v := .ty "int") (by rfl) T.g_int boot_int rfl) pa_nil)))
    (pe_one (pe_not (pe_callB call_isi (by rfl) T.g_isinstance boot_isinstance (pa_cons (pv 0) (pa_cons (pe_bltn (v := .ty "bool") (by rfl) T.g_bool boot_bool rfl) pa_nil))))))), ?_⟩
  obtain ⟨x, b, rfl, ⟨t, b1, b2, ty, k1, k2, rfl⟩, q⟩ := h
  refine ⟨_, rfl, x, _, t, _, b1, rfl, .ty "int", ty, k1, b1, rfl, ?_⟩
  cases b1 with
  | false => exact iteF q
  | true => exact iteT ⟨_, rfl, x, _, t, _, b2, rfl, .ty "bool", ty, k2, b2, rfl, q⟩
end
end K02

set_option maxRecDepth 100000
set_option maxHeartbeats 4000000
namespace K02
open PySem PySem.Spec PyProof.Rows L2 He VH
abbrev sIsR : Stmt := top 13
/-- is it a row -/
inductive RowV (K : PySem.W.Frag) (H : Hp) : V → Bool → Prop
  | no {x : V} {t : Value} (ty : TyX K H x t) (k : PySem.W.kitOne K t (.type "tuple") = some false) : RowV K H x false
  | len {p : Addr} {xs : List V} (h : H p = some (.tup xs)) (n : xs.length ≠ 2) : RowV K H (.ref p) false
  | old {p : Addr} {x y : V} (h : H p = some (.tup [x, y])) (n : IntV K H x false) : RowV K H (.ref p) false
  | src {p : Addr} {i : Int} {y : V} (h : H p = some (.tup [.int i, y])) (nn : y ≠ .non) (n : IntV K H y false) : RowV K H (.ref p) false
  | one {p : Addr} {i : Int} (h : H p = some (.tup [.int i, .non])) : RowV K H (.ref p) true
  | two {p : Addr} {i j : Int} (h : H p = some (.tup [.int i, .int j])) : RowV K H (.ref p) true
abbrev FnInt (K : PySem.W.Frag) (fd : FuncData) : Prop := FnP K "is_integer" sInt (ga K "is_integer") fd
theorem bInt {K : PySem.W.Frag} {fd : FuncData} (F : FnInt K fd) : Binds K fd ["value"] [] := FunD.bindsN F fun _ _ _ _ _ _ us hl => match us, hl with | [_], _ => rfl
def spIsR (K : PySem.W.Frag) : Sp := fun vs H Q _ => ∃ (x : V) (b : Bool), vs = [x] ∧ RowV K H x b ∧ Q (.bl b) H
section
variable {P : Program} {w : World} {K : PySem.W.Frag} {mg : Str → Option Value} {base : Heap} {f : Addr} {fd fdI fdN fdR fdS fdC : FuncData}
theorem scIsR : FnScope ["value"] ["value"] (defScope sIsR) := ⟨rfl, rfl, rfl, by decide +kernel, rfl, by decide +kernel, by decide +kernel⟩
theorem ok_isr (F : FnP K "is_row" sIsR f fd) (T : Txt K mg w) (FI : FnInt K fdI) : FnOk P w K mg base CX0 2 f fd ["value"] (spIsR K) := by
  refine F.ok scIsR (fun vs H Q E h => ?_) (fun cdv A outer s H vs Q E hr h => ?_)
  · obtain ⟨x, b, rfl, _⟩ := h
    rfl
  have GI : FnOk P w K mg base CX0 1 (ga K "is_integer") fdI ["value"] (spInt K) := ok_int FI T
  refine ⟨_, PSs.nox (pss_cons (ps_if (PW.pt (pw_or (pt_not (pt_val (pe_callB call_isi (by rfl) T.g_isinstance boot_isinstance (pa_cons (pv 0) (pa_cons (pe_bltn (v := .ty "tuple") (by rfl) T.g_tuple boot_tuple rfl) pa_nil)))))
      (pw_or (pt_cmpR op_ne (pe_callB call_len_seq (by rfl) T.g_len boot_len (pa_cons (pv 0) pa_nil)) pe_int (nomark _))
      (pw_or1 (pt_not (pt_val (pe_call GI hr (by rfl) T.m_is_integer FI.kp (bInt FI) .nil pass0 (pa_cons (pe_ix ix_tup (pv 0) pe_int (fun _ _ => rfl)) pa_nil))))))))
      (pss_one (ps_ret pe_bl)) pss_nil)
    (pss_one (ps_ret (pe_or (pe_cmpR op_isN (pe_ix ix_tup (pv 0) pe_int (fun _ _ => rfl)) pe_non (nomark _)) (pe_one (pe_call GI hr (by rfl) T.m_is_integer FI.kp (bInt FI) .nil pass0 (pa_cons (pe_ix ix_tup (pv 0) pe_int (fun _ _ => rfl)) pa_nil))))))), ?_⟩
  obtain ⟨x, b, rfl, rv, q⟩ := h
  have isT : ∀ {p : Addr} {xs : List V}, H p = some (.tup xs) → TyX K H (.ref p) (.type "tuple") ∧ PySem.W.kitOne K (.type "tuple") (.type "tuple") = some true := fun h => ⟨.base (.tup h), kit_ty (by decide +kernel)⟩
  cases rv with
  | no ty k => exact ⟨_, rfl, _, _, _, _, false, rfl, .ty "tuple", ty, k, false, rfl, iteT q⟩
  | len h n =>
    obtain ⟨ty, k⟩ := isT h
    refine ⟨_, rfl, _, _, _, _, true, rfl, .ty "tuple", ty, k, true, rfl, iteF ?_⟩
    refine ⟨_, rfl, _, _, rfl, .inr (SqT.of h), rfl, _, rfl, ?_⟩
    rename_i xs
    have e : decide (V.int (xs.length : Int) = V.int 2) = false := decide_eq_false fun z => n (by
      have := V.int.inj z
      omega)
    rw [e]
    exact iteT q
  | old h n =>
    obtain ⟨ty, k⟩ := isT h
    refine ⟨_, rfl, _, _, _, _, true, rfl, .ty "tuple", ty, k, true, rfl, iteF ?_⟩
    refine ⟨_, rfl, _, _, rfl, .inr (SqT.of h), rfl, _, rfl, iteF ?_⟩
    exact ⟨_, rfl, _, _, _, _, rfl, rfl, SqT.of h, rfl, _, false, rfl, n, false, rfl, iteT q⟩
  | src h nn n =>
    obtain ⟨ty, k⟩ := isT h
    refine ⟨_, rfl, _, _, _, _, true, rfl, .ty "tuple", ty, k, true, rfl, iteF ?_⟩
    refine ⟨_, rfl, _, _, rfl, .inr (SqT.of h), rfl, _, rfl, iteF ?_⟩
    refine ⟨_, rfl, _, _, _, _, rfl, rfl, SqT.of h, rfl, _, true, rfl, IntV.int, true, rfl, iteF ?_⟩
    refine ⟨_, rfl, _, _, _, _, rfl, rfl, SqT.of h, rfl, rfl, _, rfl, ?_⟩
    rw [decide_eq_false nn]
    exact iteF ⟨_, rfl, _, _, _, _, rfl, rfl, SqT.of h, rfl, _, false, rfl, n, q⟩
  | one h =>
    obtain ⟨ty, k⟩ := isT h
    refine ⟨_, rfl, _, _, _, _, true, rfl, .ty "tuple", ty, k, true, rfl, iteF ?_⟩
    refine ⟨_, rfl, _, _, rfl, .inr (SqT.of h), rfl, _, rfl, iteF ?_⟩
    refine ⟨_, rfl, _, _, _, _, rfl, rfl, SqT.of h, rfl, _, true, rfl, IntV.int, true, rfl, iteF ?_⟩
    exact ⟨_, rfl, _, _, _, _, rfl, rfl, SqT.of h, rfl, rfl, _, rfl, iteT q⟩
  | two h =>
    obtain ⟨ty, k⟩ := isT h
    refine ⟨_, rfl, _, _, _, _, true, rfl, .ty "tuple", ty, k, true, rfl, iteF ?_⟩
    refine ⟨_, rfl, _, _, rfl, .inr (SqT.of h), rfl, _, rfl, iteF ?_⟩
    refine ⟨_, rfl, _, _, _, _, rfl, rfl, SqT.of h, rfl, _, true, rfl, IntV.int, true, rfl, iteF ?_⟩
    exact ⟨_, rfl, _, _, _, _, rfl, rfl, SqT.of h, rfl, rfl, _, rfl, iteF ⟨_, rfl, _, _, _, _, rfl, rfl, SqT.of h, rfl, _, true, rfl, IntV.int, q⟩⟩
end
end K02

set_option maxRecDepth 100000
set_option maxHeartbeats 4000000
namespace K02
open PySem PySem.Spec PyProof.Rows L2 He VH
abbrev sWrd : Stmt := top 6
abbrev sWds : Stmt := top 7
abbrev FnWrd (K : PySem.W.Frag) (fd : FuncData) : Prop := FnP K "is_word" sWrd (ga K "is_word") fd
abbrev FnWds (K : PySem.W.Frag) (fd : FuncData) : Prop := FnP K "are_words" sWds (ga K "are_words") fd
theorem bWrd {K : PySem.W.Frag} {fd : FuncData} (F : FnWrd K fd) : Binds K fd ["value", "words"] [] := FunD.bindsN F fun _ _ _ _ _ _ us hl => match us, hl with | [_, _], _ => rfl
theorem bWds {K : PySem.W.Frag} {fd : FuncData} (F : FnWds K fd) : Binds K fd ["values", "words"] [] := FunD.bindsN F fun _ _ _ _ _ _ us hl => match us, hl with | [_, _], _ => rfl
theorem inV_strs {z : Str} {ws : List Str} : inV (.str z) (ws.map V.str) = ws.contains z := by
  unfold inV
  induction ws with
  | nil => rfl
  | cons w ws ih =>
    rw [List.map_cons, List.any_cons, ih, List.contains_cons]
    congr 1
    show eqV (.str w) (.str z) = (z == w)
    show eqV (.str w) (.str z) = (z == w)
    unfold eqV
    by_cases h : w = z
    · subst h
      simp
    · exact (beq_false_of_ne h).trans (beq_false_of_ne (Ne.symm h)).symm
theorem flat_strs {ws : List Str} : (ws.map V.str).all flatV = true := by
  induction ws with
  | nil => rfl
  | cons w ws ih => rw [List.map_cons, List.all_cons, ih]; rfl
def spWrd (K : PySem.W.Frag) : Sp := fun vs H Q _ => ∃ (x : V) (p : Addr) (ws : List Str), vs = [x, .ref p] ∧ SqT K H p (ws.map V.str) ∧
  ((∃ z, x = .str z ∧ Q (.bl (ws.contains z)) H) ∨ (∃ t, TyX K H x t ∧ PySem.W.kitOne K t (.type "str") = some false ∧ Q (.bl false) H))
theorem sqT_same {K : PySem.W.Frag} {H H' : Hp} {a : Addr} {xs : List V} (s : Same H H') (h : SqT K H a xs) : SqT K H' a xs := by
  rcases h with (h | ⟨o, h⟩) | h
  · exact .inl (.inl (s _ _ h))
  · exact .inl (.inr ⟨o, s _ _ h⟩)
  · exact .inr h
theorem same_put {H G : Hp} {D : Addr} {u : HO} (s : Same H G) (n : H D = none) : Same H (upd G D u) := fun b o e => by
  rw [upd_ne (ne_of_none e n)]
  exact s _ _ e
theorem dpS {K : PySem.W.Frag} {H : Hp} : ∀ ws : List Str, DpAll K H (ws.map V.str) (ws.map PyData.str)
  | [] => .nil
  | w :: ws => .cons (.str w) (dpS ws)
theorem eqvS : ∀ as bs : List Str, PyData.eqvAll (as.map PyData.str) (bs.map PyData.str) = decide (as = bs)
  | [], [] => by simp [PyData.eqvAll]
  | [], _ :: _ => by simp [PyData.eqvAll]
  | _ :: _, [] => by simp [PyData.eqvAll]
  | a :: as, b :: bs => by
    rw [List.map_cons, List.map_cons, PyData.eqvAll, eqvS as bs]
    by_cases h : a = b <;> simp [PyData.eqv, h]
theorem shpAll : ∀ ws : List Str, (∀ z ∈ ws, PyData.canLay0 (.str z) = true) → PyData.canLayAll0 (ws.map PyData.str) = true ∧ PyData.depthAll (ws.map PyData.str) = 0
  | [], _ => by simp [PyData.canLayAll0, PyData.depthAll]
  | w :: ws, h => by
    have ih := shpAll ws fun z hz => h z (List.mem_cons_of_mem _ hz)
    have hw := h w (List.mem_cons_self ..)
    rw [List.map_cons, PyData.canLayAll0, PyData.depthAll, ih.1, ih.2, hw]
    exact ⟨rfl, rfl⟩
theorem shpS {ws : List Str} (h : ∀ z ∈ ws, PyData.canLay0 (.str z) = true) : SeqAt.shaped (.list (ws.map PyData.str)) = true := by
  have z := shpAll ws h
  unfold SeqAt.shaped PyData.canLay0 PyData.depth
  rw [z.1, z.2]
  rfl
section
variable {P : Program} {w : World} {K : PySem.W.Frag} {mg : Str → Option Value} {base : Heap} {f : Addr} {fd fdI fdW : FuncData}
theorem scWrd : FnScope ["value", "words"] ["value", "words"] (defScope sWrd) := ⟨rfl, rfl, rfl, by decide +kernel, rfl, by decide +kernel, by decide +kernel⟩
theorem ok_wrd (F : FnP K "is_word" sWrd f fd) (T : Txt K mg w) : FnOk P w K mg base CX0 1 f fd ["value", "words"] (spWrd K) := by
  refine F.ok scWrd (fun vs H Q E h => ?_) (fun cdv A outer s H vs Q E hr h => ?_)
  · obtain ⟨x, p, ws, rfl, _⟩ := h
    rfl
  refine ⟨_, PSs.nox (pss_one (ps_ret (pe_and (pe_callB call_isi (by rfl) T.g_isinstance boot_isinstance (pa_cons (pv 0) (pa_cons (pe_bltn (v := .ty "str") (by rfl) T.g_str boot_str rfl) pa_nil))) (pe_one (pe_cmpR op_in_seq (pv 0) (pv 1) (by rfl)))))), ?_⟩
  obtain ⟨x, p, ws, rfl, hp, h⟩ := h
  rcases h with ⟨z, rfl, q⟩ | ⟨t, ty, k, q⟩
  · refine ⟨_, rfl, _, _, _, _, true, rfl, .ty "str", .base (.str z), kit_ty (by decide +kernel), true, rfl, iteT ?_⟩
    refine ⟨_, rfl, _, rfl, p, _, rfl, .inr hp, rfl, flat_strs, ?_⟩
    rw [inV_strs]
    exact q
  · exact ⟨_, rfl, _, _, _, _, false, rfl, .ty "str", ty, k, false, rfl, iteF q⟩
theorem scWds : FnScope ["values", "words", "value", "word"] ["values", "words"] (defScope sWds) := ⟨rfl, rfl, rfl, by decide +kernel, rfl, by decide +kernel, by decide +kernel⟩
/-- whether these words stand among those, in their order -/
def wdsOk (cs ws : List Str) : Bool := cs.all ws.contains && decide (cs = ws.filter cs.contains)
def spWds (K : PySem.W.Frag) : Sp := fun vs H Q _ => ∃ (q p : Addr) (cs ws : List Str), vs = [.ref q, .ref p] ∧ SqT K H q (cs.map V.str) ∧ SqT K H p (ws.map V.str) ∧ cs.length ≤ 1000 ∧ ws.length ≤ 1000 ∧ (∀ z ∈ cs, PyData.canLay0 (.str z) = true) ∧ (∀ z ∈ ws, PyData.canLay0 (.str z) = true) ∧ ∀ H', Same H H' → Q (.bl (wdsOk cs ws)) H'
theorem ok_wds (F : FnP K "are_words" sWds f fd) (T : Txt K mg w) (FW : FnWrd K fdW) : FnOk P w K mg base CX0 2 f fd ["values", "words"] (spWds K) := by
  have GW : FnOk P w K mg base CX0 1 (ga K "is_word") fdW ["value", "words"] (spWrd K) := ok_wrd FW T
  refine F.ok scWds (fun vs H Q E h => ?_) (fun cdv A outer s H vs Q E hr h => ?_)
  · obtain ⟨x, p, cs, ws, rfl, _⟩ := h
    rfl
  refine ⟨_, PSs.nox (pss_cons (ps_if (pt_not (pt_val (pe_callB (cr_all rfl) (by rfl) T.g_all boot_all (pa_cons (pe_lc (own := [("value", 2)]) (g := gName 2) (tt := tYes) rfl scWds.nd (pi_tup (pv 0)) (blkOk_by (N := ["values", "words", "value", "word"]) (sc := defScope sWds) (by decide +kernel))
        (fun _ _ _ _ _ => pg_name (i := 2) scWds.nd rfl (Or.inl rfl)) (fun _ _ _ _ _ => pts_nil) (fun _ _ _ _ _ => pe_call GW hr (by rfl) T.m_is_word FW.kp (bWrd FW) .nil pass0 (pa_cons (pv 2) (pa_cons (pv 1) pa_nil)))) pa_nil)))) (pss_one (ps_ret pe_bl)) pss_nil)
    (pss_one (ps_ret (pe_cmpR (op_eqD hr.units) (pe_callTy call_list_of (by rfl) T.g_list boot_list (pa_cons (pv 0) pa_nil))
      (pe_lc (own := [("word", 3)]) (g := gName 3) (tt := tTest (tOp (rIn K false) (tVar 3) (tVar 0))) (te := tVar 3) rfl scWds.nd (pi_tup (pv 1)) (blkOk_by (N := ["values", "words", "value", "word"]) (sc := defScope sWds) (by decide +kernel))
        (fun _ _ _ _ _ => pg_name (i := 3) scWds.nd rfl (Or.inl rfl)) (fun _ _ _ _ _ => pts_one (pt_cmpR op_in_seq (pv 3) (pv 0) (by rfl))) (fun _ _ _ _ _ => pv 3)) (nomark _))))), ?_⟩
  obtain ⟨q, p, cs, ws, rfl, hq, hp, l1, l2, c1, c2, k⟩ := h
  have big : 1000 < sizeLine := by decide
  refine ⟨_, rfl, q, rfl, ⟨_, hq⟩, fun D hD => ?_⟩
  refine lc_tup (K := K) (xs := cs.map V.str) (fun i G => Same H G ∧ G D = some (.lst ((cs.take i).map fun c => V.bl (ws.contains c)))) ⟨Same.new hD, upd_same⟩ (fun i G _ p => sqT_same p.1 hq) (fun i x G hx g => ?_) (fun G g => ?_)
  · obtain ⟨sG, hG⟩ := g
    rw [List.getElem?_map] at hx
    obtain ⟨c, hc, rfl⟩ := Option.map_eq_some_iff.mp hx
    have lt := (List.getElem?_eq_some_iff.mp hc).1
    refine ⟨rfl, ?_⟩
    refine ⟨_, rfl, _, rfl, _, p, ws, rfl, sqT_same sG hp, .inl ⟨c, rfl, _, hG, ?_, same_put sG hD, ?_⟩⟩
    · rw [List.length_map, List.length_take]
      omega
    · rw [List.take_succ, hc]
      simp only [Option.toList, List.map_append]
      exact upd_same
  · obtain ⟨sG, hG⟩ := g
    rw [List.length_map, List.take_length] at hG
    refine ⟨D, cs.map ws.contains, rfl, SqL.of (by rw [List.map_map]; exact hG), _, rfl, ?_⟩
    have all : (cs.map ws.contains).all id = cs.all ws.contains := by
      rw [List.all_map]
      rfl
    rw [all]
    cases hall : cs.all ws.contains with
    | false =>
      refine iteT ?_
      have e : wdsOk cs ws = false := by unfold wdsOk; rw [hall]; rfl
      have := k G sG
      rw [e] at this
      exact this
    | true =>
      refine iteF ?_
      refine ⟨_, rfl, q, _, rfl, .inr (sqT_same sG hq), fun l nl => ?_⟩
      have sL := sG.trans (Same.new (o := .lst (cs.map V.str)) nl)
      have hl : upd G l (.lst (cs.map V.str)) l = some (.lst (cs.map V.str)) := upd_same
      generalize upd G l (.lst (cs.map V.str)) = G1 at sL hl ⊢
      refine ⟨_, rfl, p, rfl, ⟨_, sqT_same sL hp⟩, fun D2 hD2 => ?_⟩
      refine lc_tup (K := K) (xs := ws.map V.str) (fun i G2 => Same G1 G2 ∧ G2 D2 = some (.lst (((ws.take i).filter cs.contains).map V.str))) ⟨Same.new hD2, upd_same⟩ (fun i G2 _ g => sqT_same g.1 (sqT_same sL hp)) (fun i x G2 hx g => ?_) (fun G2 g => ?_)
      · obtain ⟨s2, h2⟩ := g
        rw [List.getElem?_map] at hx
        obtain ⟨c, hc, rfl⟩ := Option.map_eq_some_iff.mp hx
        have lt := (List.getElem?_eq_some_iff.mp hc).1
        refine ⟨rfl, _, rfl, _, rfl, q, _, rfl, .inr (sqT_same s2 (sqT_same sL hq)), rfl, flat_strs, _, rfl, ?_⟩
        rw [inV_strs]
        cases hin : cs.contains c with
        | true =>
          refine iteT ⟨_, rfl, _, h2, ?_, same_put s2 hD2, ?_⟩
          · rw [List.length_map]
            have := List.length_filter_le cs.contains (ws.take i)
            rw [List.length_take] at this
            omega
          · rw [List.take_succ, hc, List.filter_append, List.map_append]
            simp only [Option.toList, List.filter_cons, hin, if_true, List.filter_nil, List.map_cons, List.map_nil]
            exact upd_same
        | false =>
          refine iteF ⟨s2, ?_⟩
          rw [List.take_succ, hc, List.filter_append, List.map_append]
          simp only [Option.toList, List.filter_cons, hin, Bool.false_eq_true, if_false, List.filter_nil, List.map_nil, List.append_nil]
          exact h2
      · obtain ⟨s2, h2⟩ := g
        rw [List.length_map, List.take_length] at h2
        refine ⟨_, _, .lst (SqL.of (s2 _ _ hl)) (dpS cs), .lst (SqL.of h2) (dpS _), shpS c1, shpS (fun z hz => c2 z (List.mem_filter.mp hz).1), ?_⟩
        have e : PyData.eqv (.list (cs.map PyData.str)) (.list ((ws.filter cs.contains).map PyData.str)) = wdsOk cs ws := by
          rw [PyData.eqv, eqvS]
          unfold wdsOk
          rw [hall, Bool.true_and]
        rw [e]
        exact k _ (sL.trans s2)
end
end K02

set_option maxRecDepth 100000
set_option maxHeartbeats 4000000
/-! A comprehension over zip of two tuples of one length; a tuple without its first, or its last item; x in a tuple of any items. -/
namespace RZ
open PySem PySem.Spec PyProof.Rows L2
theorem lc_zipT {K : PySem.W.Frag} {a b : Addr} {xs ys : List V} {g : TG} {tt : TT} {te : TE} {vs : List Nat} {σ : L2.St} {H1 : Hp} {D : Addr} {Qd : Hp → Prop} (hl : xs.length = ys.length) (Pv : Nat → Hp → Prop) (h0 : Pv 0 (upd H1 D (.lst [])))
    (hq : ∀ i H, Pv i H → SqT K H a xs ∧ SqT K H b ys)
    (hs : ∀ (i : Nat) (x y : V) (T : Addr) (H : Hp), xs[i]? = some x → ys[i]? = some y → Pv i H → H T = none → g (.ref T) (wipe σ vs) (upd H T (.tup [x, y])) fun σ2 H2 => wipe σ2 vs = wipe σ vs ∧ tt σ2 H2 fun c H3 =>
      if c = true then te σ2 H3 fun z H4 => ∃ acc, H4 D = some (.lst acc) ∧ acc.length < sizeLine ∧ Pv (i + 1) (upd H4 D (.lst (acc ++ [z]))) else Pv (i + 1) H3)
    (hd : ∀ H, Pv xs.length H → Qd H) :
    ∃ W : Nat → Nat → Hp → Prop, (∃ m, W 0 m (upd H1 D (.lst []))) ∧ ∀ i m H, W i m H →
      ((ItzT K a b).stop i H ∧ Qd H) ∨ ((ItzT K a b).go i H ∧ ∃ Nx : Hp → Prop, (∀ H', Nx H' → ∃ m', m' < m ∧ W (i + 1) m' H') ∧ ∀ x H', (ItzT K a b).yld i H x H' → g x (wipe σ vs) H' fun σ2 H2 => wipe σ2 vs = wipe σ vs ∧ tt σ2 H2 fun c H3 =>
        if c = true then te σ2 H3 fun z H4 => ∃ acc, H4 D = some (.lst acc) ∧ acc.length < sizeLine ∧ Nx (upd H4 D (.lst (acc ++ [z]))) else Nx H3) := by
  refine ⟨fun i m H => m + i = xs.length ∧ Pv i H, ⟨xs.length, Nat.add_zero _, h0⟩, fun i m H ⟨e, p⟩ => ?_⟩
  obtain ⟨qx, qy⟩ := hq i H p
  cases m with
  | zero =>
    have e' : i = xs.length := by omega
    subst e'
    exact .inl ⟨⟨xs, ys, qx, qy, .inl (Nat.le_refl _)⟩, hd H p⟩
  | succ m =>
    have l1 : i < xs.length := by omega
    have l2 : i < ys.length := by omega
    refine .inr ⟨⟨xs, ys, xs[i], ys[i], qx, qy, List.getElem?_eq_getElem l1, List.getElem?_eq_getElem l2⟩, Pv (i + 1), fun H' p' => ⟨m, Nat.lt_succ_self m, by omega, p'⟩, fun v H' y => ?_⟩
    obtain ⟨T, x', y', rfl, hT, rfl, f1, f2⟩ := y
    exact hs i x' y' T H (f1 xs qx) (f2 ys qy) p hT
theorem cut1 {x : V} {ys : List V} : cutV (x :: ys) (some 1) none = ys := by
  unfold cutV
  have e : HT.sIx (x :: ys).length 0 (some 1) = 1 := by
    show min 1 (x :: ys).length = 1
    rw [List.length_cons]
    omega
  rw [e]
  show (List.drop 1 (x :: ys)).take ((x :: ys).length - 1) = ys
  simp
theorem not1 {x : V} {ys : List V} {d : Option Int} : ¬ (HT.sIx (x :: ys).length 0 (some 1) = 0 ∧ HT.sIx (x :: ys).length (x :: ys).length d = (x :: ys).length) := fun h => by
  have e : HT.sIx (x :: ys).length 0 (some 1) = 1 := by
    show min 1 (x :: ys).length = 1
    rw [List.length_cons]
    omega
  rw [e] at h
  exact absurd h.1 (by decide)
theorem sxL {xs : List V} {z : V} : HT.sIx (xs ++ [z]).length (xs ++ [z]).length (some (-1)) = xs.length := by
  show ((-1 : Int) + ((xs ++ [z]).length : Int)).toNat = xs.length
  rw [List.length_append, List.length_singleton]
  omega
theorem cutL {xs : List V} {z : V} : cutV (xs ++ [z]) none (some (-1)) = xs := by
  unfold cutV
  rw [sxL]
  show (List.drop 0 (xs ++ [z])).take (xs.length - 0) = xs
  simp
theorem notL {xs : List V} {z : V} : ¬ (HT.sIx (xs ++ [z]).length 0 none = 0 ∧ HT.sIx (xs ++ [z]).length (xs ++ [z]).length (some (-1)) = (xs ++ [z]).length) := fun h => by
  rw [sxL, List.length_append, List.length_singleton] at h
  omega
theorem at0 {x : V} {ys : List V} : atI (x :: ys) 0 = some x := by
  unfold atI ixN
  rw [if_pos (by decide), if_pos (by rw [List.length_cons]; omega)]
  rfl
theorem atL {xs : List V} {z : V} : atI (xs ++ [z]) (-1) = some z := by
  unfold atI ixN
  rw [if_neg (by decide)]
  have e : ((xs ++ [z]).length : Int) = (xs.length : Int) + 1 := by simp
  rw [e, if_pos (by omega)]
  have e2 : ((-1 : Int) + ((xs.length : Int) + 1)).toNat = xs.length := by omega
  show (xs ++ [z])[((-1 : Int) + ((xs.length : Int) + 1)).toNat]? = some z
  rw [e2]
  simp
/-- x in a tuple, items of any depth -/
def rInDT (K : PySem.W.Frag) : R2 := fun x y H Q => ∃ d ds, Dp K H x d ∧ Dp K H y (.tuple ds) ∧ SeqAt.shaped d = true ∧ SeqAt.shaped (.tuple ds) = true ∧ Q (.bl (ds.any fun z => PyData.eqv z d)) H
theorem op_inDT {X : Cx} (hu : X.A.units + 65 < cLine) : OpR X (compareOp .In) (rInDT X.K) := by
  intro pins s σ H x y v u Q I rx ry h
  obtain ⟨d, ds, hd, he, sd, se, q⟩ := h
  obtain ⟨as, r1⟩ := Dp.reads I d x v hd rx
  obtain ⟨bs, r2⟩ := Dp.reads I (.tuple ds) y u he ry
  have lay : PyData.canLayAll0 ds = true := by
    have := SeqAt.canLay_of_shaped se
    unfold PyData.canLay0 at this
    exact this
  exact SeqAt.in_tuple_reads r2 r1 lay (SeqAt.canLay_of_shaped sd) (room_in_shaped sd hu) ⟨.bl _, H, I, rfl, q⟩
/-- d[k] of a written dict with text keys -/
theorem ix_kd {X : Cx} {d : Addr} {es : Array DictEntry} {n : Nat} (D : KDict X.K X.w d es n) :
    IxR X (fun x y H Q => ∃ (z : Str) (u0 : Value) (v0 : V), x = .ref d ∧ y = .str z ∧ PySem.W.nsIn X.K d z = some (some u0) ∧ RelV v0 u0 ∧ Q v0 H) := by
  intro value slice pins s σ H x y v u Q I rx ry h hs
  have g := op_item_kd D pins s σ H x y v u Q I rx ry h
  obtain ⟨z, u0, v0, rfl, _⟩ := h
  cases rx
  exact tail_any (kd_type D I) PySem.F.slot_dict_getitem.lookup g hs
end RZ

set_option maxRecDepth 100000
set_option maxHeartbeats 4000000
namespace K02
open PySem PySem.Spec PyProof.Rows L2 He VH RZ
abbrev sIst : Stmt := top 14
abbrev FnIst (K : PySem.W.Frag) (fd : FuncData) : Prop := FnP K "is_statement" sIst (ga K "is_statement") fd
theorem bIst {K : PySem.W.Frag} {fd : FuncData} (F : FnIst K fd) : Binds K fd ["value"] [] := FunD.bindsN F fun _ _ _ _ _ _ us hl => match us, hl with | [_], _ => rfl
abbrev nIst : List Str := ["value", "places", "rest", "word", "words"]
theorem scIst : FnScope nIst ["value"] (defScope sIst) := ⟨rfl, rfl, rfl, by decide +kernel, rfl, by decide +kernel, by decide +kernel⟩
def plcs (w : Str) : List (List Str) := if w = "set" then [["keep", "input", "read"], ["keep", "none", "now", "read", "copy"]] else if w = "put" then [["none", "now", "read", "copy"]] else if w = "insert" then [["none", "now"]] else []
def heads : List Str := ["set", "put", "insert", "delete"]
abbrev cks : List Str := ["missing", "same old", "same new"]
theorem Txt.pl {K : PySem.W.Frag} {mg : Str → Option Value} {w : World} (T : Txt K mg w) {x : Str} (h : x ∈ heads) : Plc K x (plcs x) := by
  simp only [heads, List.mem_cons, List.not_mem_nil, or_false] at h
  rcases h with rfl | rfl | rfl | rfl
  · exact T.pSet
  · exact T.pPut
  · exact T.pIns
  · exact T.pDel
/-- what stands between the word and the checks -/
def Zs (w : Str) (zs : List V) (r : Bool) : Prop := (zs.length ≠ (plcs w).length ∧ r = false) ∨ ∃ mid : List Str, zs = mid.map V.str ∧ mid.length = (plcs w).length ∧ r = (mid.zip (plcs w)).all fun q => q.2.contains q.1
/-- is it a statement -/
inductive IsSt (K : PySem.W.Frag) (H : Hp) : V → Bool → Prop
  | no {x : V} {t : Value} (ty : TyX K H x t) (k : PySem.W.kitOne K t (.type "tuple") = some false) : IsSt K H x false
  | short {p : Addr} {xs : List V} (h : H p = some (.tup xs)) (n : xs.length < 2) : IsSt K H (.ref p) false
  | ins {p : Addr} {ys : List V} {r : Bool} (h : H p = some (.tup (.str "insert" :: ys))) (n : ys ≠ []) (l : ys.length ≤ 1000) (z : Zs "insert" ys r) : IsSt K H (.ref p) r
  | chk {p q : Addr} {w : Str} {zs : List V} {cs : List Str} {r : Bool} (hw : w ∈ heads) (nw : w ≠ "insert") (h : H p = some (.tup (.str w :: (zs ++ [.ref q])))) (l : zs.length ≤ 1000) (hq : H q = some (.tup (cs.map V.str))) (lc : cs.length ≤ 1000)
      (cl : ∀ z ∈ cs, PyData.canLay0 (.str z) = true) (ok : wdsOk cs cks = true) (z : Zs w zs r) : IsSt K H (.ref p) r
def spIst (K : PySem.W.Frag) : Sp := fun vs H Q _ => ∃ (x : V) (r : Bool), vs = [x] ∧ IsSt K H x r ∧ ∀ H', Same H H' → Q (.bl r) H'
section
variable {P : Program} {w : World} {K : PySem.W.Frag} {mg : Str → Option Value} {base : Heap} {f : Addr} {fd fdI fdW fdS : FuncData}
theorem ok_ist (F : FnP K "is_statement" sIst f fd) (T : Txt K mg w) (FW : FnWrd K fdW) (FS : FnWds K fdS) : FnOk P w K mg base CX0 3 f fd ["value"] (spIst K) := by
  have GW : FnOk P w K mg base CX0 1 (ga K "is_word") fdW ["value", "words"] (spWrd K) := ok_wrd FW T
  have GS : FnOk P w K mg base CX0 2 (ga K "are_words") fdS ["values", "words"] (spWds K) := ok_wds FS T FW
  obtain ⟨es, en, KD⟩ := T.plc
  refine F.ok scIst (fun vs H Q E h => ?_) (fun cdv A outer s H vs Q E hr h => ?_)
  · obtain ⟨x, r, rfl, _⟩ := h
    rfl
  have r1 : Room 1 _ := hr.mono (by decide)
  refine ⟨_, PSs.nox (pss_cons (ps_if (PW.pt (pw_or (pt_not (pt_val (pe_callB call_isi (by rfl) T.g_isinstance boot_isinstance (pa_cons (pv 0) (pa_cons (pe_bltn (v := .ty "tuple") (by rfl) T.g_tuple boot_tuple rfl) pa_nil))))) (pw_or (pt_cmpR op_lt (pe_callB call_len_seq (by rfl) T.g_len boot_len (pa_cons (pv 0) pa_nil)) pe_int (nomark _)) (pw_or1 (pt_not (pt_val (pe_callB call_isi (by rfl) T.g_isinstance boot_isinstance (pa_cons (pe_ix ix_tup (pv 0) pe_int (fun _ _ => rfl)) (pa_cons (pe_bltn (v := .ty "str") (by rfl) T.g_str boot_str rfl) pa_nil))))))))) (pss_one (ps_ret pe_bl)) pss_nil)
     (pss_cons (ps_if (pt_cmpR (op_notIn_kd KD) (pe_ix ix_tup (pv 0) pe_int (fun _ _ => rfl)) (pe_glob (v := .ref (ga K "PLACES")) (by rfl) T.m_PLACES rfl) (by rfl)) (pss_one (ps_ret pe_bl)) pss_nil)
     (pss_cons (ps_set (i := 1) scIst.nd rfl (Or.inl rfl) (pe_ix (ix_kd KD) (pe_glob (v := .ref (ga K "PLACES")) (by rfl) T.m_PLACES rfl) (pe_ix ix_tup (pv 0) pe_int (fun _ _ => rfl)) (fun _ _ => rfl)))
     (pss_cons (ps_set (i := 2) scIst.nd rfl (Or.inl rfl) (pe_slice sl_tup (pv 0) (po_some pe_int) po_none))
     (pss_cons (ps_if (pt_cmpR op_ne (pe_ix ix_tup (pv 0) pe_int (fun _ _ => rfl)) pe_str (nomark _)) (pss_cons (ps_if (PW.pt (pw_or (pt_not (pt_val (pe_callB call_isi (by rfl) T.g_isinstance boot_isinstance (pa_cons (pe_ix ix_tup (pv 2) (pe_un un_neg pe_int) (fun _ _ => rfl)) (pa_cons (pe_bltn (v := .ty "tuple") (by rfl) T.g_tuple boot_tuple rfl) pa_nil))))) (pw_or1 (pt_not (pt_val (pe_call GS hr (by rfl) T.m_are_words FS.kp (bWds FS) .nil pass0 (pa_cons (pe_ix ix_tup (pv 2) (pe_un un_neg pe_int) (fun _ _ => rfl)) (pa_cons (pe_glob (v := .ref (ga K "CHECKS")) (by rfl) T.m_CHECKS rfl) pa_nil)))))))) (pss_one (ps_ret pe_bl)) pss_nil) (pss_one (ps_set (i := 2) scIst.nd rfl (Or.inl rfl) (pe_slice sl_tup (pv 2) po_none (po_some (pe_un un_neg pe_int)))))) pss_nil)
     (pss_one (ps_ret (pe_and (pe_cmpR op_eq (pe_callB call_len_seq (by rfl) T.g_len boot_len (pa_cons (pv 2) pa_nil)) (pe_callB call_len_seq (by rfl) T.g_len boot_len (pa_cons (pv 1) pa_nil)) (nomark _)) (pe_one (pe_callB (cr_all rfl) (by rfl) T.g_all boot_all (pa_cons (pe_lc (own := [("word", 3), ("words", 4)]) (g := gTup K 2 (gCons (gName 3) (gCons (gName 4) gNil))) (tt := tYes) rfl scIst.nd (pi_zipA (by rfl) T.g_zip (pa_cons (pv 2) (pa_cons (pv 1) pa_nil))) (blkOk_by (N := nIst) (sc := defScope sIst) (by decide +kernel)) (fun _ _ _ _ _ => by exact pg_tup rfl (pgs_cons (pg_name (i := 3) scIst.nd rfl (Or.inl rfl)) (pgs_cons (pg_name (i := 4) scIst.nd rfl (Or.inl rfl)) pgs_nil))) (fun _ _ _ _ _ => pts_nil) (fun _ _ _ _ _ => pe_call GW r1 (by rfl) T.m_is_word FW.kp (bWrd FW) .nil pass0 (pa_cons (pv 3) (pa_cons (pv 4) pa_nil)))) pa_nil))))))))))), ?_⟩
  obtain ⟨x, r, rfl, is, k⟩ := h
  have isT : ∀ {G : Hp} {p : Addr} {xs : List V}, G p = some (.tup xs) → TyX K G (.ref p) (.type "tuple") ∧ PySem.W.kitOne K (.type "tuple") (.type "tuple") = some true := fun h => ⟨.base (.tup h), kit_ty (by decide +kernel)⟩
  have go : ∀ {p : Addr} {z : Str} {ys : List V}, H p = some (.tup (.str z :: ys)) → ys ≠ [] → decide ((((V.str z :: ys).length : Nat) : Int) < 2) = false := fun {p z ys} _ n => decide_eq_false (by
    cases ys with
    | nil => exact absurd rfl n
    | cons a l => simp only [List.length_cons]; omega)
  cases is with
  | no ty kk => exact ⟨_, rfl, _, _, _, _, false, rfl, .ty "tuple", ty, kk, false, rfl, iteT (k H (Same.refl H))⟩
  | short h n =>
    obtain ⟨ty, kk⟩ := isT h
    refine ⟨_, rfl, _, _, _, _, true, rfl, .ty "tuple", ty, kk, true, rfl, iteF ?_⟩
    refine ⟨_, rfl, _, _, rfl, .inr (SqT.of h), _, _, rfl, rfl, _, rfl, ?_⟩
    rw [decide_eq_true (by omega)]
    exact iteT (k H (Same.refl H))
  | @ins p zs r h n l z =>
    obtain ⟨ty, kk⟩ := isT h
    obtain ⟨pp, ps, e1, e2, e3, e4⟩ := T.pl (x := "insert") (by decide)
    refine ⟨_, rfl, _, _, _, _, true, rfl, .ty "tuple", ty, kk, true, rfl, iteF ?_⟩
    refine ⟨_, rfl, _, _, rfl, .inr (SqT.of h), _, _, rfl, rfl, _, rfl, ?_⟩
    rw [go h n]
    refine iteF ⟨_, rfl, _, _, _, _, rfl, rfl, SqT.of h, at0, _, _, _, _, true, rfl, .ty "str", .base (.str _), kit_ty (by decide +kernel), true, rfl, iteF ?_⟩
    refine ⟨_, rfl, _, _, _, _, rfl, rfl, SqT.of h, at0, _, _, rfl, rfl, e1, _, rfl, iteF ?_⟩
    refine ⟨_, rfl, _, _, _, _, rfl, rfl, SqT.of h, at0, _, _, .ref pp, rfl, rfl, e1, rfl, ?_⟩
    refine ⟨_, rfl, _, rfl, _, _, rfl, SqT.of h, not1, fun rr nr => ?_⟩
    rw [cut1]
    have sG := Same.new (o := .tup zs) nr
    refine ⟨_, rfl, _, _, _, _, rfl, rfl, SqT.of (sG _ _ h), at0, rfl, _, rfl, iteF ?_⟩
    have hG : upd H rr (.tup zs) rr = some (.tup zs) := upd_same
    generalize upd H rr (.tup zs) = G at sG hG ⊢
    have lz : zs.length ≤ 1000 := l
    have zz := z
    clear l z n
    refine ⟨_, rfl, rr, _, rfl, .inr (SqT.of hG), _, rfl, pp, _, rfl, .inr (e2 _), rfl, _, rfl, ?_⟩
    rcases zz with ⟨nl, rfl⟩ | ⟨mid, rfl, lm, rfl⟩
    · rw [decide_eq_false (fun e => nl (by
        have := V.int.inj e
        rw [List.length_map, e3] at this
        omega))]
      exact iteF (k G sG)
    · rw [decide_eq_true (by
        rw [List.length_map, List.length_map, e3, lm])]
      refine iteT ?_
      refine ⟨_, rfl, _, rfl, rr, pp, _, _, rfl, .inr ⟨SqT.of hG, e2 _, fun D nD => ?_⟩⟩
      refine lc_zipT (K := K) (xs := mid.map V.str) (ys := ps.map V.ref) (by rw [List.length_map, List.length_map, e3, lm]) (fun i G' => Same G G' ∧ G' D = some (.lst (((mid.zip (plcs "insert")).take i).map fun q => V.bl (q.2.contains q.1)))) ⟨Same.new nD, upd_same⟩
        (fun i G' g => ⟨SqT.of (g.1 _ _ hG), e2 _⟩) (fun i x y T G' hx hy g nT => ?_) (fun G' g => ?_)
      · obtain ⟨s2, h2⟩ := g
        rw [List.getElem?_map] at hx hy
        obtain ⟨m, hm, rfl⟩ := Option.map_eq_some_iff.mp hx
        obtain ⟨pi, hpi, rfl⟩ := Option.map_eq_some_iff.mp hy
        have li := (List.getElem?_eq_some_iff.mp hm).1
        have hw2 : (plcs "insert")[i]? = some (plcs "insert")[i] := List.getElem?_eq_getElem (by omega)
        have hz : (mid.zip (plcs "insert"))[i]? = some (m, (plcs "insert")[i]) := by
          rw [List.getElem?_zip_eq_some]
          exact ⟨hm, hw2⟩
        have s3 := s2.trans (Same.new (o := .tup [.str m, .ref pi]) nT)
        refine ⟨T, _, rfl, SqT.of upd_same, rfl, _, _, rfl, _, _, rfl, rfl, rfl, ?_⟩
        refine ⟨_, rfl, _, rfl, _, pi, _, rfl, e4 i pi _ hpi hw2 _, .inl ⟨m, rfl, _, (Same.new (o := .tup [.str m, .ref pi]) nT) _ _ h2, ?_, same_put s3 nD, ?_⟩⟩
        · rw [List.length_map, List.length_take, List.length_zip]
          have : 1000 < sizeLine := by decide
          rw [List.length_map] at lz
          omega
        · rw [List.take_succ, hz]
          simp only [Option.toList, List.map_append]
          exact upd_same
      · obtain ⟨s2, h2⟩ := g
        have full : (mid.zip (plcs "insert")).take (mid.map V.str).length = mid.zip (plcs "insert") := by
          rw [List.length_map]
          apply List.take_of_length_le
          rw [List.length_zip]
          omega
        rw [full] at h2
        refine ⟨D, (mid.zip (plcs "insert")).map (fun q => q.2.contains q.1), rfl, SqL.of (by rw [List.map_map]; exact h2), ?_⟩
        rw [List.all_map]
        exact k G' (sG.trans s2)
  | @chk p q z zs cs r hw nw h l hq lc cl ok zz =>
    obtain ⟨ty, kk⟩ := isT h
    obtain ⟨pp, ps, e1, e2, e3, e4⟩ := T.pl (x := z) hw
    refine ⟨_, rfl, _, _, _, _, true, rfl, .ty "tuple", ty, kk, true, rfl, iteF ?_⟩
    refine ⟨_, rfl, _, _, rfl, .inr (SqT.of h), _, _, rfl, rfl, _, rfl, ?_⟩
    rw [go h (by simp)]
    refine iteF ⟨_, rfl, _, _, _, _, rfl, rfl, SqT.of h, at0, _, _, _, _, true, rfl, .ty "str", .base (.str _), kit_ty (by decide +kernel), true, rfl, iteF ?_⟩
    refine ⟨_, rfl, _, _, _, _, rfl, rfl, SqT.of h, at0, _, _, rfl, rfl, e1, _, rfl, iteF ?_⟩
    refine ⟨_, rfl, _, _, _, _, rfl, rfl, SqT.of h, at0, _, _, .ref pp, rfl, rfl, e1, rfl, ?_⟩
    refine ⟨_, rfl, _, rfl, _, _, rfl, SqT.of h, not1, fun rr nr => ?_⟩
    rw [cut1]
    have sG := Same.new (o := .tup (zs ++ [.ref q])) nr
    refine ⟨_, rfl, _, _, _, _, rfl, rfl, SqT.of (sG _ _ h), at0, rfl, _, rfl, ?_⟩
    rw [show (!decide (V.str z = V.str "insert")) = true by simp [nw]]
    have h1 : upd H rr (.tup (zs ++ [.ref q])) rr = some (.tup (zs ++ [.ref q])) := upd_same
    generalize upd H rr (.tup (zs ++ [.ref q])) = G1 at sG h1 ⊢
    refine iteT ⟨_, rfl, 1, rfl, _, _, _, _, rfl, rfl, SqT.of h1, atL, _, _, _, _, true, rfl, .ty "tuple", .base (.tup (sG _ _ hq)), kit_ty (by decide +kernel), true, rfl, iteF ?_⟩
    refine ⟨_, rfl, 1, rfl, _, _, _, _, rfl, rfl, SqT.of h1, atL, q, _, cs, cks, rfl, SqT.of (sG _ _ hq), T.chk _, lc, by decide, cl, by decide +kernel, fun G2 S2 => ?_⟩
    rw [ok]
    refine ⟨true, rfl, iteF ?_⟩
    refine ⟨_, rfl, 1, rfl, _, rfl, _, _, rfl, SqT.of (S2 _ _ h1), notL, fun r2 nr2 => ?_⟩
    rw [cutL]
    have sG2 := (sG.trans S2).trans (Same.new (o := .tup zs) nr2)
    have hG : upd G2 r2 (.tup zs) r2 = some (.tup zs) := upd_same
    generalize upd G2 r2 (.tup zs) = G at sG2 hG ⊢
    have sG := sG2
    have lz : zs.length ≤ 1000 := l
    refine ⟨_, rfl, r2, _, rfl, .inr (SqT.of hG), _, rfl, pp, _, rfl, .inr (e2 _), rfl, _, rfl, ?_⟩
    rcases zz with ⟨nl, rfl⟩ | ⟨mid, rfl, lm, rfl⟩
    · rw [decide_eq_false (fun e => nl (by
        have := V.int.inj e
        rw [List.length_map, e3] at this
        omega))]
      exact iteF (k G sG)
    · rw [decide_eq_true (by
        rw [List.length_map, List.length_map, e3, lm])]
      refine iteT ?_
      refine ⟨_, rfl, _, rfl, r2, pp, _, _, rfl, .inr ⟨SqT.of hG, e2 _, fun D nD => ?_⟩⟩
      refine lc_zipT (K := K) (xs := mid.map V.str) (ys := ps.map V.ref) (by rw [List.length_map, List.length_map, e3, lm]) (fun i G' => Same G G' ∧ G' D = some (.lst (((mid.zip (plcs z)).take i).map fun q => V.bl (q.2.contains q.1)))) ⟨Same.new nD, upd_same⟩
        (fun i G' g => ⟨SqT.of (g.1 _ _ hG), e2 _⟩) (fun i x y T G' hx hy g nT => ?_) (fun G' g => ?_)
      · obtain ⟨s2, h2⟩ := g
        rw [List.getElem?_map] at hx hy
        obtain ⟨m, hm, rfl⟩ := Option.map_eq_some_iff.mp hx
        obtain ⟨pi, hpi, rfl⟩ := Option.map_eq_some_iff.mp hy
        have li := (List.getElem?_eq_some_iff.mp hm).1
        have hw2 : (plcs z)[i]? = some (plcs z)[i] := List.getElem?_eq_getElem (by omega)
        have hz : (mid.zip (plcs z))[i]? = some (m, (plcs z)[i]) := by
          rw [List.getElem?_zip_eq_some]
          exact ⟨hm, hw2⟩
        have s3 := s2.trans (Same.new (o := .tup [.str m, .ref pi]) nT)
        refine ⟨T, _, rfl, SqT.of upd_same, rfl, _, _, rfl, _, _, rfl, rfl, rfl, ?_⟩
        refine ⟨_, rfl, _, rfl, _, pi, _, rfl, e4 i pi _ hpi hw2 _, .inl ⟨m, rfl, _, (Same.new (o := .tup [.str m, .ref pi]) nT) _ _ h2, ?_, same_put s3 nD, ?_⟩⟩
        · rw [List.length_map, List.length_take, List.length_zip]
          have : 1000 < sizeLine := by decide
          rw [List.length_map] at lz
          omega
        · rw [List.take_succ, hz]
          simp only [Option.toList, List.map_append]
          exact upd_same
      · obtain ⟨s2, h2⟩ := g
        have full : (mid.zip (plcs z)).take (mid.map V.str).length = mid.zip (plcs z) := by
          rw [List.length_map]
          apply List.take_of_length_le
          rw [List.length_zip]
          omega
        rw [full] at h2
        refine ⟨D, (mid.zip (plcs z)).map (fun q => q.2.contains q.1), rfl, SqL.of (by rw [List.map_map]; exact h2), ?_⟩
        rw [List.all_map]
        exact k G' (sG.trans s2)
end
end K02

set_option maxRecDepth 100000
set_option maxHeartbeats 4000000
/-! raise C() of an own exception class whose __init__ takes nothing and sets nothing. -/
namespace L2
open PySem PySem.Spec PyProof.Rows
section
variable {X : Cx} {pins : List (Addr × Obj)} {σ : St}
theorem mk_none {H1 H2 : Hp} {Q : XK} {hp hp2 h2 : Heap} {g1 g2 : Array GenState} {d1 d2 : Drawn} {t1 t2 : Nat} {os1 os2 : OsState} {a C : Addr} (T : Raises X (.ref C)) (I1 : Inv X pins σ H1 ⟨hp, g1, d1, t1, os1⟩)
    (ha : hp.objs.size ≤ a) (k : ∀ b o, hp.get? b = some o → hp2.get? b = some o) (un : Un (frs X.stack) [] (upd H1 a (exo a C none)) H2 hp2 h2) (hok : HOk X.prog X.w H2 h2) (ho : os2 = os1) (hb : AllBare g2)
    (ea : H2 a = some (exo a C none)) (q : Q (.ref C) none (del H2 a)) : MkP X pins σ Q (.ref a) ⟨h2, g2, d2, t2, os2⟩ := by
  obtain ⟨t0, at_a⟩ := exo_at hok ea
  have new : H1 a = none := I1.hok.fresh ha
  obtain ⟨G, keepG, outG⟩ := restrict h2 fun b => decide (b ≠ a)
  have same : ∀ b, b ≠ a → G.get? b = h2.get? b := fun b n => keepG b (decide_eq_true n)
  have gone : G.get? a = none := outG a (by simp)
  have old : ∀ {b : Addr} {o : Obj}, hp.get? b = some o → b ≠ a := fun {b o} z => Nat.ne_of_lt (Nat.lt_of_lt_of_le (Heap.lt_size z) ha)
  have un1 : ∀ {b : Addr}, b ≠ a → H1 b = none → upd H1 a (exo a C none) b = none := fun {b} n z => (upd_ne n).trans z
  have U : Un (frs X.stack) [] H1 (del H2 a) hp G :=
    ⟨fun b o z n f x => (same b (old z)).trans (un.keep b o (k b o z) (un1 (old z) n) f x),
     fun b o z n f x => by
      obtain ⟨sl, e⟩ := un.slot b o (k b o z) (un1 (old z) n) f x
      exact ⟨sl, (same b (old z)).trans e⟩,
     fun b o z n x => (del_ne (old z)).trans (un.free b o (k b o z) (un1 (old z) n) x),
     fun b o z x => by
      obtain ⟨o', e⟩ := un.there b o (k b o z) x
      exact ⟨o', (same b (old z)).trans e⟩,
     fun b xs z => (del_ne (ne_of_none z new)).trans (un.tups b xs ((upd_ne (ne_of_none z new)).trans z)),
     fun b o v z => (del_ne (ne_of_none z new)).trans (un.frzs b o v ((upd_ne (ne_of_none z new)).trans z)),
     fun b ps z => by
      obtain ⟨more, e⟩ := un.tbls b ps ((upd_ne (ne_of_none z new)).trans z)
      exact ⟨more, (del_ne (ne_of_none z new)).trans e⟩⟩
  have okG : HOk X.prog X.w (del H2 a) G := fun b o z => by
    have n : b ≠ a := fun e => by
      rw [e, del_same] at z
      cases z
    rw [del_ne n] at z
    have noa : ∀ {c : Addr}, H2 c = some (.own b) → c ≠ a := fun {c} hc => at_ne ea hc exo_own
    exact (hok b o z).stay (fun c v hc y => (same c (hc.elim (fun e => e ▸ n) noa)).trans y) (fun c hc => (del_ne (noa hc)).trans hc) (fun c xs hc => (del_ne (at_ne ea hc exo_tup)).trans hc)
  have J : Inv X pins σ (del H2 a) ⟨G, g2, d2, t2, os2⟩ := I1.call' (ch := []) ho U okG hb (fun b z => absurd z (by simp))
  refine ⟨a, _, _, ⟨G, g2, d2, t2, os2⟩, _, .ref C, none, rfl, J, fun b o z => ?_, gone, at_a, ⟨rfl, rfl⟩, rfl, rfl, del_same, rfl, hb, T, q⟩
  by_cases n : b = a
  · rw [n, gone] at z
    cases z
  · exact (same b n).symm.trans z
/-- C() -/
def tMkN (C : Addr) (sp : Sp) : St → Hp → XK → Prop := fun _ H Q => ∀ a, H a = none → sp [.ref a] (upd H a (exo a C none)) (fun v H2 => v = .non ∧ H2 a = some (exo a C none) ∧ Q (.ref C) none (del H2 a)) fun _ _ _ => False
theorem pmk_oexN {CX : CXT} {x : Str} {C fI : Addr} {k : Nat} {fd : FuncData} {sp : Sp} {p pos : Pos} {s0 : Str} (T : OexC X.K C) (iC : PySem.W.findIn X.K (.ref C) "__init__" = some (some (.ref fI))) (tI : PySem.W.typeIn X.K (.ref fI) = some (.type "function"))
    (F1 : FnOk X.prog X.w X.K X.mg X.base CX k fI fd [s0] sp) (hr : Room (k + 1) X.A) (hb : Binds X.K fd [s0] []) (hx : Passes CX X (fun _ _ _ => False)) (hg : Gl X x) (hm : X.mg x = some (.ref C))
    (hdb : (x == ("__debug__" : Str)) = false := by decide) : PMk X (.Call (.Name x p) [] [] pos) (tMkN C sp) := by
  intro pins s σ H Q I h
  obtain ⟨nm, q, N, bs, bm, sn, sub, ab, col, dd, k0, k1, k2, k3, k5, hC, hbm⟩ := T.cls
  refine wpAny_Call_Name_kw (ld_glob I hg hm ?_ hdb)
  refine PySem.W.callWith_K0 I.kIn T.kC ?_
  show wpAny _ _ (call (.ref C) []) _ _ _
  obtain ⟨hp, g, dr, tk, os⟩ := s
  have up1 : hp.objs.size ≤ hp.objs.size + 1 := Nat.le_succ _
  have hq := h (hp.objs.size + 1) (I.hok.fresh up1)
  have kk : ∀ b o, hp.get? b = some o → ((hp.push (PySem.W.kdv_tup [])).push (PySem.HandSPX.excO C hp.objs.size)).get? b = some o := fun b o e => Heap.get?_push_of_some _ (Heap.get?_push_of_some _ e)
  have hget : ((hp.push (PySem.W.kdv_tup [])).push (PySem.HandSPX.excO C hp.objs.size)).get? (hp.objs.size + 1) = some (PySem.HandSPX.excO C hp.objs.size) := by heap_get
  have I2 : Inv X pins σ (upd H (hp.objs.size + 1) (exo (hp.objs.size + 1) C none)) ⟨(hp.push (PySem.W.kdv_tup [])).push (PySem.HandSPX.excO C hp.objs.size), g, dr, tk, os⟩ := I.laid (t' := tk) kk up1 (exo_ok hget)
  refine wpAny_call (PySem.HandSPX.call_own F.excBase_ValueError (fun Y => PySem.HandSPX.refsVE_contains Y bm hbm) (I.kIn _ _ hC) (PySem.W.looks_findIn I.kIn iC) (fun self => PySem.W.bind_fn I.kIn self tI) (Nat.zero_le _)
    (codeAny_mono (F1.run _ X.stack _ _ ⟨[Value.ref (hp.objs.size + 1)], []⟩ [Value.ref (hp.objs.size + 1)] _ _ (fun _ _ _ => False) (hr.make C [] []) (I2.env0.make C [] []) (hb _ [Value.ref (hp.objs.size + 1)] I2.kIn rfl) (show Vals [V.ref (hp.objs.size + 1)] [Value.ref (hp.objs.size + 1)] from .cons rfl .nil) hq) fun r s' hq' => ?_))
  cases r with
  | error er => exact hx pins σ _ _ er s' I2 hq'
  | ok fl =>
    cases fl with
    | ret u =>
      obtain ⟨v, H2, os2, bare2, un2, hok2, rv, ev, ea, q2⟩ := hq'
      subst ev
      obtain ⟨h2, g2, d2, t2, os'⟩ := s'
      exact ⟨rv, mk_none (raises_own T.exC T.tyC) I up1 kk un2 hok2 os2 bare2 ea q2⟩
    | next => exact False.elim hq'
    | brk => exact False.elim hq'
    | cont => exact False.elim hq'
end
end L2

set_option maxRecDepth 100000
set_option maxHeartbeats 4000000
namespace K02
open PySem PySem.Spec PyProof.Rows L2 He VH RZ
abbrev sChk : Stmt := top 15
abbrev sHas : Stmt := top 16
abbrev FnChk (K : PySem.W.Frag) (fd : FuncData) : Prop := FnP K "checks_of" sChk (ga K "checks_of") fd
abbrev FnHas (K : PySem.W.Frag) (fd : FuncData) : Prop := FnP K "has_word" sHas (ga K "has_word") fd
theorem bChk {K : PySem.W.Frag} {fd : FuncData} (F : FnChk K fd) : Binds K fd ["statement"] [] := FunD.bindsN F fun _ _ _ _ _ _ us hl => match us, hl with | [_], _ => rfl
theorem bHas {K : PySem.W.Frag} {fd : FuncData} (F : FnHas K fd) : Binds K fd ["statement", "words"] [] := FunD.bindsN F fun _ _ _ _ _ _ us hl => match us, hl with | [_, _], _ => rfl
abbrev FnNos (K : PySem.W.Frag) (fd : FuncData) : Prop := FnM K "__init__" "NoStatement.__init__" 2 0 (ma K (ga K "NoStatement") "__init__") fd
abbrev FnRow (K : PySem.W.Frag) (fd : FuncData) : Prop := FnM K "__init__" "NoRow.__init__" 3 0 (ma K (ga K "NoRow") "__init__") fd
/-- a statement's word, what stands behind it, its checks -/
structure Stp where
  w : Str
  mid : List Str
  cs : List Str
def Stp.ok (s : Stp) : Bool := heads.contains s.w && (decide (s.mid.length = (plcs s.w).length) && ((s.mid.zip (plcs s.w)).all (fun q => q.2.contains q.1) && (wdsOk s.cs cks && (s.w != "insert" || s.cs.isEmpty))))
/-- it stands at p -/
def StAt (H : Hp) (p : Addr) (s : Stp) : Prop := if s.w = "insert" then H p = some (.tup (.str "insert" :: s.mid.map V.str)) else ∃ q, H p = some (.tup (.str s.w :: (s.mid.map V.str ++ [.ref q]))) ∧ H q = some (.tup (s.cs.map V.str))
theorem StAt.same {H H' : Hp} {p : Addr} {s : Stp} (h : StAt H p s) (e : ∀ b xs, H b = some (.tup xs) → H' b = some (.tup xs)) : StAt H' p s := by
  unfold StAt at h ⊢
  split
  · rename_i z
    rw [if_pos z] at h
    exact e _ _ h
  · rename_i z
    rw [if_neg z] at h
    obtain ⟨q, h1, h2⟩ := h
    exact ⟨q, e _ _ h1, e _ _ h2⟩
/-- a raise of NoStatement -/
def Rn (K : PySem.W.Frag) (E : XK) (H : Hp) : Prop := ∀ H' : Hp, Same H H' → E (.ref (ga K "NoStatement")) none H'
def spPass : Sp := fun vs H Q _ => ∃ v, vs = [v] ∧ Q .non H
section
variable {P : Program} {w : World} {K : PySem.W.Frag} {mg : Str → Option Value} {base : Heap} {f : Addr} {fd fdI fdW fdS fdN fdC fdT : FuncData}
theorem scNos : FnScope ["self"] ["self"] (defScope (inClass (top 2) 0)) := ⟨rfl, rfl, rfl, by decide +kernel, rfl, by decide +kernel, by decide +kernel⟩
theorem okNos (F : FnM K "__init__" "NoStatement.__init__" 2 0 f fd) : FnOk P w K mg base CX0 1 f fd ["self"] spPass := by
  refine F.ok scNos (fun vs H Q E h => ?_) (fun cdv A outer s H vs Q E hr h => ?_)
  · obtain ⟨a, rfl, _⟩ := h
    rfl
  refine ⟨_, PSs.nox (pss_one ps_pass), ?_⟩
  obtain ⟨a, rfl, q⟩ := h
  exact q
theorem bNos (F : FnM K "__init__" "NoStatement.__init__" 2 0 f fd) : Binds K fd ["self"] [] := FunD.bindsN F fun _ _ _ _ _ _ us hl => match us, hl with | [_], _ => rfl
theorem read_nos {H : Hp} {E : XK} (h : Rn K E H) : tMkN (ga K "NoStatement") spPass ([] : L2.St) H (fun cls d H' => E cls d H') := fun a n => ⟨_, rfl, rfl, upd_same, h _ fun b o e => by
  rw [del_ne (ne_of_none e n), upd_ne (ne_of_none e n)]
  exact e⟩
theorem scChk : FnScope ["statement"] ["statement"] (defScope sChk) := ⟨rfl, rfl, rfl, by decide +kernel, rfl, by decide +kernel, by decide +kernel⟩
/-- the checks of a statement: a tuple of texts -/
def spChk (K : PySem.W.Frag) : Sp := fun vs H Q _ => ∃ (p : Addr) (s : Stp), vs = [.ref p] ∧ StAt H p s ∧ s.ok = true ∧ ∀ (H' : Hp) (q : Addr), Same H H' → H' q = some (.tup (s.cs.map V.str)) → Q (.ref q) H'
theorem ok_chk (F : FnP K "checks_of" sChk f fd) : FnOk P w K mg base CX0 1 f fd ["statement"] (spChk K) := by
  refine F.ok scChk (fun vs H Q E h => ?_) (fun cdv A outer s H vs Q E hr h => ?_)
  · obtain ⟨x, r, rfl, _⟩ := h
    rfl
  refine ⟨_, PSs.nox (pss_cons (ps_if (pt_cmpR op_eq (pe_ix ix_tup (pv 0) pe_int (fun _ _ => rfl)) pe_str (nomark _)) (pss_one (ps_ret (pe_tup pa_nil))) pss_nil) (pss_one (ps_ret (pe_ix ix_tup (pv 0) (pe_un un_neg pe_int) (fun _ _ => rfl))))), ?_⟩
  obtain ⟨p, s, rfl, at_, ok, k⟩ := h
  unfold StAt at at_
  by_cases z : s.w = "insert"
  · rw [if_pos z] at at_
    refine ⟨_, rfl, _, _, _, _, rfl, rfl, SqT.of at_, at0, rfl, _, rfl, iteT ⟨(show 0 ≤ sizeLine by decide), fun e ne => k _ e (Same.new ne) ?_⟩⟩
    have e0 : s.cs = [] := by
      unfold Stp.ok at ok
      simp only [Bool.and_eq_true, Bool.or_eq_true, bne_iff_ne, ne_eq, List.isEmpty_iff] at ok
      rcases ok.2.2.2.2 with y | y
      · exact absurd z y
      · exact y
    rw [e0]
    exact upd_same
  · rw [if_neg z] at at_
    obtain ⟨q, h1, h2⟩ := at_
    refine ⟨_, rfl, _, _, _, _, rfl, rfl, SqT.of h1, at0, rfl, _, rfl, ?_⟩
    rw [show decide (V.str s.w = V.str "insert") = false by simp [z]]
    refine iteF ⟨_, rfl, 1, rfl, _, _, _, _, rfl, rfl, SqT.of h1, ?_, k H q (Same.refl H) h2⟩
    exact atL (xs := .str s.w :: s.mid.map V.str)
end
end K02

set_option maxRecDepth 100000
set_option maxHeartbeats 4000000
namespace K02
open PySem PySem.Spec PyProof.Rows L2 He VH RZ
theorem Stp.facts {s : Stp} (h : s.ok = true) : s.w ∈ heads ∧ s.mid.length = (plcs s.w).length ∧ (s.mid.zip (plcs s.w)).all (fun q => q.2.contains q.1) = true ∧ wdsOk s.cs cks = true ∧ (s.w = "insert" → s.cs = []) := by
  unfold Stp.ok at h
  simp only [Bool.and_eq_true, Bool.or_eq_true, bne_iff_ne, ne_eq, List.isEmpty_iff, decide_eq_true_eq] at h
  obtain ⟨h1, h2, h3, h4, h5⟩ := h
  exact ⟨List.contains_iff_mem.mp h1, h2, h3, h4, fun z => h5.elim (fun y => absurd z y) id⟩
theorem plcs_le (w : Str) : (plcs w).length ≤ 2 := by
  unfold plcs
  split
  · decide
  · split
    · decide
    · split <;> decide
theorem wds_mem {cs : List Str} (h : wdsOk cs cks = true) : ∀ z ∈ cs, z ∈ cks := by
  unfold wdsOk at h
  simp only [Bool.and_eq_true] at h
  exact fun z hz => List.contains_iff_mem.mp (List.all_eq_true.mp h.1 z hz)
theorem wds_le {cs : List Str} (h : wdsOk cs cks = true) : cs.length ≤ 3 := by
  unfold wdsOk at h
  simp only [Bool.and_eq_true, decide_eq_true_eq] at h
  rw [h.2]
  exact List.length_filter_le _ cks
theorem lay_cks : ∀ z ∈ cks, PyData.canLay0 (.str z) = true := by decide +kernel
theorem StAt.is {K : PySem.W.Frag} {H : Hp} {p : Addr} {s : Stp} (h : StAt H p s) (ok : s.ok = true) : IsSt K H (.ref p) true := by
  obtain ⟨h1, h2, h3, h4, h5⟩ := Stp.facts ok
  have l2 := plcs_le s.w
  unfold StAt at h
  by_cases z : s.w = "insert"
  · rw [if_pos z] at h
    rw [z] at h2 h3
    refine .ins h (fun e => ?_) (by rw [List.length_map]; rw [z] at l2; omega) (.inr ⟨s.mid, rfl, h2, h3.symm⟩)
    have e2 : s.mid = [] := List.map_eq_nil_iff.mp e
    rw [e2] at h2
    exact absurd h2 (by decide)
  · rw [if_neg z] at h
    obtain ⟨q, a, b⟩ := h
    exact .chk h1 z a (by rw [List.length_map]; omega) b (Nat.le_trans (wds_le h4) (by decide)) (fun y hy => lay_cks y (wds_mem h4 y hy)) h4 (.inr ⟨s.mid, rfl, h2, h3.symm⟩)
def hasW (s : Stp) (ws : List Str) : Bool := (s.w :: (s.mid ++ s.cs)).any ws.contains
/-- an item of a statement: a text, or its checks at q -/
def itV (q : Addr) : Option Str → V
  | some z => .str z
  | none => .ref q
def itB (ws : List Str) : Option Str → Bool
  | some z => ws.contains z
  | none => false
def itD (cs : List Str) : Option Str → PyData
  | some z => .str z
  | none => .tuple (cs.map PyData.str)
theorem anyS {z : Str} {ws : List Str} : ((ws.map PyData.str).any fun y => PyData.eqv y (.str z)) = ws.contains z := by
  induction ws with
  | nil => rfl
  | cons w ws ih =>
    rw [List.map_cons, List.any_cons, ih, List.contains_cons]
    congr 1
    show (w == z) = (z == w)
    by_cases h : w = z
    · subst h
      rfl
    · exact (beq_false_of_ne h).trans (beq_false_of_ne (Ne.symm h)).symm
theorem anyT {cs ws : List Str} : ((ws.map PyData.str).any fun y => PyData.eqv y (.tuple (cs.map PyData.str))) = false := by
  induction ws with
  | nil => rfl
  | cons w ws ih => rw [List.map_cons, List.any_cons, ih]; rfl
theorem shpT {ws : List Str} (h : ∀ z ∈ ws, PyData.canLay0 (.str z) = true) : SeqAt.shaped (.tuple (ws.map PyData.str)) = true := by
  have z := shpAll ws h
  unfold SeqAt.shaped PyData.canLay0 PyData.depth
  rw [z.1, z.2]
  rfl
theorem dpT {K : PySem.W.Frag} {H : Hp} {p : Addr} {ws : List Str} (h : SqT K H p (ws.map V.str)) : Dp K H (.ref p) (.tuple (ws.map PyData.str)) := .tup h (dpS ws)
def spHas (K : PySem.W.Frag) : Sp := fun vs H Q E => ∃ (x : V) (pw : Addr) (ws : List Str), vs = [x, .ref pw] ∧ (∀ H, SqT K H pw (ws.map V.str)) ∧ (∀ z ∈ ws, PyData.canLay0 (.str z) = true) ∧
  ((IsSt K H x false ∧ Rn K E H) ∨ ∃ p s, x = .ref p ∧ StAt H p s ∧ s.ok = true ∧ (∀ z ∈ s.w :: s.mid, PyData.canLay0 (.str z) = true) ∧ ∀ H', Same H H' → Q (.bl (hasW s ws)) H')
theorem eqB {cs ws : List Str} (y : Option Str) : ((ws.map PyData.str).any fun u => PyData.eqv u (itD cs y)) = itB ws y := by
  cases y with
  | none => exact anyT
  | some z => exact anyS
theorem shpY {cs : List Str} (hc : ∀ z ∈ cs, PyData.canLay0 (.str z) = true) (y : Option Str) (h : ∀ z, y = some z → PyData.canLay0 (.str z) = true) : SeqAt.shaped (itD cs y) = true := by
  cases y with
  | none => exact shpT hc
  | some z =>
    unfold SeqAt.shaped itD
    rw [h z rfl]
    rfl
theorem mapS {q : Addr} {l : List Str} : (l.map some).map (itV q) = l.map V.str := by
  rw [List.map_map]
  rfl
theorem mapB {ws l : List Str} : ((l.map some).map (itB ws)).any id = l.any ws.contains := by
  rw [List.map_map, List.any_map]
  rfl
section
variable {P : Program} {w : World} {K : PySem.W.Frag} {mg : Str → Option Value} {base : Heap} {f : Addr} {fd fdI fdW fdS fdN fdC fdT : FuncData}
abbrev nHas : List Str := ["statement", "words", "word"]
theorem scHas : FnScope nHas ["statement", "words"] (defScope sHas) := ⟨rfl, rfl, rfl, by decide +kernel, rfl, by decide +kernel, by decide +kernel⟩
theorem passN {X : Cx} : Passes (L2.CX X.prog X.w) X (fun _ _ _ => False) := fun _ _ _ _ _ _ _ h => by
  obtain ⟨_, _, _, _, _, _, _, _, _, _, _, _, z⟩ := h
  exact z.elim
theorem ok_has (F : FnP K "has_word" sHas f fd) (T : Txt K mg w) (FT : FnIst K fdT) (FC : FnChk K fdC) (FN : FnNos K fdN) (FW : FnWrd K fdW) (FS : FnWds K fdS) : FnOk P w K mg base (L2.CX P w) 4 f fd ["statement", "words"] (spHas K) := by
  have GT : FnOk P w K mg base CX0 3 (ga K "is_statement") fdT ["value"] (spIst K) := ok_ist FT T FW FS
  have GC : FnOk P w K mg base CX0 1 (ga K "checks_of") fdC ["statement"] (spChk K) := ok_chk FC
  refine F.ok scHas (fun vs H Q E h => ?_) (fun cdv A outer s H vs Q E hr h => ?_)
  · obtain ⟨x, p, ws, rfl, _⟩ := h
    rfl
  have hu65 : (A.deeper (envOfC "has_word" (defScope sHas) s.heap.objs.size f cdv)).units + 65 < cLine := by
    have := hr.un
    omega
  refine ⟨_, pss_cons (ps_if (pt_not (pt_val (pe_call GT hr (by rfl) T.m_is_statement FT.kp (bIst FT) .nil pass0 (pa_cons (pv 0) pa_nil))))
      (pss_one (ps_raise rfl (takes_of rfl rfl rfl rfl) (pmk_oexN T.nos.mkx.toOexC T.nos.mkx.ini T.nos.mkx.tyI (okNos FN) (hr.mono (by decide)) (bNos FN) pass0 (by rfl) T.mNos))) pss_nil)
    (pss_one (ps_ret (pe_callB (cr_any rfl) (by rfl) T.g_any boot_any (pa_cons (pe_lc (own := [("word", 2)]) (g := gName 2) (tt := tYes) (te := tOp (rInDT K) (tVar 2) (tVar 1)) rfl scHas.nd
        (pi_tup (pe_op op_catT (pv 0) (pe_call GC (hr.mono (by decide)) (by rfl) T.m_checks_of FC.kp (bChk FC) .nil pass0 (pa_cons (pv 0) pa_nil)))) (blkOk_by (N := nHas) (sc := defScope sHas) (by decide +kernel))
        (fun _ _ _ _ _ => pg_name (i := 2) scHas.nd rfl (Or.inl rfl)) (fun _ _ _ _ _ => pts_nil) (fun _ _ _ _ _ => pe_cmpR (op_inDT hu65) (pv 2) (pv 1) (by rfl))) pa_nil)))), ?_⟩
  obtain ⟨x, pw, ws, rfl, hw, lw, way⟩ := h
  rcases way with ⟨is, rn⟩ | ⟨p, s, rfl, at_, ok, lay, k⟩
  · refine ⟨_, rfl, _, false, rfl, is, fun H' S => ⟨false, rfl, iteT ?_⟩⟩
    exact read_nos (fun H'' s => rn H'' (S.trans s))
  · refine ⟨_, rfl, _, true, rfl, at_.is ok, fun H1 S1 => ⟨true, rfl, iteF ?_⟩⟩
    have tupS1 : ∀ b xs, H b = some (.tup xs) → H1 b = some (.tup xs) := fun b xs e => S1 _ _ e
    have at1 := at_.same tupS1
    refine ⟨_, rfl, _, rfl, p, s, rfl, at1, ok, fun H2 qc S2 hqc => ?_⟩
    have at2 := at1.same (fun b xs e => S2 _ _ e)
    have SH := S1.trans S2
    obtain ⟨f1, f2, f3, f4, f5⟩ := Stp.facts ok
    have l1 := plcs_le s.w
    have l2 := wds_le f4
    have big : 1000 < sizeLine := by decide
    have layC : ∀ z ∈ s.cs, PyData.canLay0 (.str z) = true := fun z hz => lay_cks z (wds_mem f4 z hz)
    unfold StAt at at2
    by_cases z : s.w = "insert"
    · rw [if_pos z] at at2
      have e0 := f5 z
      rw [e0] at hqc
      refine ⟨p, qc, _, _, rfl, rfl, SqT.of at2, SqT.of hqc, by simp, by simp; omega, fun _ => ?_, fun n => absurd rfl n⟩
      have e3 : s.cs = [] := e0
      let q0 : Addr := p
      let G : Hp := H2
      let its : List (Option Str) := (("insert" : Str) :: s.mid).map some
      have SG : Same H G := SH
      have hx : SqT K G p (its.map (itV q0)) := by
        have := SqT.of (K := K) at2
        show SqT K H2 p (((("insert" : Str) :: s.mid).map some).map (itV p))
        rw [mapS]
        exact this
      have hq0 : none ∈ its → G q0 = some (.tup (s.cs.map V.str)) := fun h => by
        obtain ⟨_, _, z⟩ := List.mem_map.mp h
        cases z
      have lits : its.length ≤ 1000 := by
        show ((("insert" : Str) :: s.mid).map some).length ≤ 1000
        rw [List.length_map, List.length_cons]
        omega
      have hlay : ∀ y, some y ∈ its → PyData.canLay0 (.str y) = true := fun y hy => by
        obtain ⟨u, hu, e⟩ := List.mem_map.mp hy
        cases e
        exact lay _ (z ▸ hu)
      have hany : (its.map (itB ws)).any id = hasW s ws := by
        show (((("insert" : Str) :: s.mid).map some).map (itB ws)).any id = hasW s ws
        rw [mapB]
        unfold hasW
        rw [e3, List.append_nil, z]
      refine ⟨_, rfl, ⟨_, hx⟩, fun D nD => ?_⟩
      refine lc_tup (K := K) (xs := its.map (itV q0)) (fun i G' => Same G G' ∧ G' D = some (.lst ((its.take i).map fun y => V.bl (itB ws y)))) ⟨Same.new nD, upd_same⟩ (fun i G' _ g => sqT_same g.1 hx) (fun i x G' hx' g => ?_) (fun G' g => ?_)
      · obtain ⟨s2, h2⟩ := g
        rw [List.getElem?_map] at hx'
        obtain ⟨y, hy, rfl⟩ := Option.map_eq_some_iff.mp hx'
        have mem := List.mem_of_getElem? hy
        have li := (List.getElem?_eq_some_iff.mp hy).1
        refine ⟨rfl, _, rfl, _, rfl, itD s.cs y, ws.map PyData.str, ?_, dpT (hw _), shpY layC y (fun z e => hlay z (e ▸ mem)), shpT lw, _, h2, ?_, same_put s2 nD, ?_⟩
        · cases y with
          | none => exact dpT (SqT.of (s2 _ _ (hq0 mem)))
          | some z => exact .str z
        · rw [List.length_map, List.length_take]
          omega
        · rw [eqB, List.take_succ, hy]
          simp only [Option.toList, List.map_append]
          exact upd_same
      · obtain ⟨s2, h2⟩ := g
        rw [List.length_map, List.take_length] at h2
        refine ⟨D, its.map (itB ws), rfl, SqL.of (by rw [List.map_map]; exact h2), ?_⟩
        rw [hany]
        exact k G' (SG.trans s2)
    · rw [if_neg z] at at2
      obtain ⟨q0, a1, a2⟩ := at2
      refine ⟨p, qc, _, _, rfl, rfl, SqT.of a1, SqT.of hqc, by simp, by simp; omega, fun e => ?_, fun n p2 n2 => ?_⟩
      · have eI : (V.str s.w :: (s.mid.map V.str ++ [.ref q0])) = (((s.w :: s.mid).map some ++ [none]) : List (Option Str)).map (itV q0) := by
          rw [List.map_append, mapS]
          rfl
        have e0 : s.cs = [] := List.map_eq_nil_iff.mp e
        let its : List (Option Str) := ((s.w :: s.mid).map some ++ [none] : List (Option Str))
        let G : Hp := H2
        have SG : Same H G := SH
        have hx : SqT K G p (its.map (itV q0)) := by
          have := SqT.of (K := K) a1
          rw [eI] at this
          exact this
        have hq0 : none ∈ its → G q0 = some (.tup (s.cs.map V.str)) := fun _ => a2
        have lits : its.length ≤ 1000 := by
          show (((s.w :: s.mid).map some ++ [none] : List (Option Str))).length ≤ 1000
          simp only [List.length_append, List.length_map, List.length_cons, List.length_nil]
          omega
        have hlay : ∀ y, some y ∈ its → PyData.canLay0 (.str y) = true := fun y hy => by
          have hy : some y ∈ ((s.w :: s.mid).map some ++ [none] : List (Option Str)) := hy
          simp only [List.mem_append, List.mem_map, List.mem_singleton, reduceCtorEq, or_false, Option.some.injEq, exists_eq_right] at hy
          exact lay y hy
        have hany : (its.map (itB ws)).any id = hasW s ws := by
          show ((((s.w :: s.mid).map some ++ [none] : List (Option Str))).map (itB ws)).any id = hasW s ws
          rw [List.map_append, List.any_append, mapB]
          unfold hasW
          rw [e0, List.append_nil]
          exact Bool.or_false _
        refine ⟨_, rfl, ⟨_, hx⟩, fun D nD => ?_⟩
        refine lc_tup (K := K) (xs := its.map (itV q0)) (fun i G' => Same G G' ∧ G' D = some (.lst ((its.take i).map fun y => V.bl (itB ws y)))) ⟨Same.new nD, upd_same⟩ (fun i G' _ g => sqT_same g.1 hx) (fun i x G' hx' g => ?_) (fun G' g => ?_)
        · obtain ⟨s2, h2⟩ := g
          rw [List.getElem?_map] at hx'
          obtain ⟨y, hy, rfl⟩ := Option.map_eq_some_iff.mp hx'
          have mem := List.mem_of_getElem? hy
          have li := (List.getElem?_eq_some_iff.mp hy).1
          refine ⟨rfl, _, rfl, _, rfl, itD s.cs y, ws.map PyData.str, ?_, dpT (hw _), shpY layC y (fun z e => hlay z (e ▸ mem)), shpT lw, _, h2, ?_, same_put s2 nD, ?_⟩
          · cases y with
            | none => exact dpT (SqT.of (s2 _ _ (hq0 mem)))
            | some z => exact .str z
          · rw [List.length_map, List.length_take]
            omega
          · rw [eqB, List.take_succ, hy]
            simp only [Option.toList, List.map_append]
            exact upd_same
        · obtain ⟨s2, h2⟩ := g
          rw [List.length_map, List.take_length] at h2
          refine ⟨D, its.map (itB ws), rfl, SqL.of (by rw [List.map_map]; exact h2), ?_⟩
          rw [hany]
          exact k G' (SG.trans s2)
      · have eI : (V.str s.w :: (s.mid.map V.str ++ [.ref q0])) = (((s.w :: s.mid).map some ++ [none]) : List (Option Str)).map (itV q0) := by
          rw [List.map_append, mapS]
          rfl
        let its : List (Option Str) := ((s.w :: s.mid).map some ++ [none] ++ s.cs.map some : List (Option Str))
        let G : Hp := upd H2 p2 (.tup (V.str s.w :: (s.mid.map V.str ++ [.ref q0]) ++ s.cs.map V.str))
        have SG : Same H G := SH.trans (Same.new n2)
        have hx : SqT K G p2 (its.map (itV q0)) := by
          have : SqT K G p2 (V.str s.w :: (s.mid.map V.str ++ [.ref q0]) ++ s.cs.map V.str) := SqT.of upd_same
          rw [eI, ← mapS (q := q0) (l := s.cs), ← List.map_append] at this
          exact this
        have hq0 : none ∈ its → G q0 = some (.tup (s.cs.map V.str)) := fun _ => (Same.new n2) _ _ a2
        have lits : its.length ≤ 1000 := by
          show (((s.w :: s.mid).map some ++ [none] ++ s.cs.map some : List (Option Str))).length ≤ 1000
          simp only [List.length_append, List.length_map, List.length_cons, List.length_nil]
          omega
        have hlay : ∀ y, some y ∈ its → PyData.canLay0 (.str y) = true := fun y hy => by
          have hy : some y ∈ ((s.w :: s.mid).map some ++ [none] ++ s.cs.map some : List (Option Str)) := hy
          simp only [List.mem_append, List.mem_map, List.mem_singleton, reduceCtorEq, or_false, Option.some.injEq, exists_eq_right] at hy
          rcases hy with hy | hy
          · exact lay y hy
          · exact layC y hy
        have hany : (its.map (itB ws)).any id = hasW s ws := by
          show ((((s.w :: s.mid).map some ++ [none] ++ s.cs.map some : List (Option Str))).map (itB ws)).any id = hasW s ws
          rw [List.map_append, List.any_append, List.map_append, List.any_append, mapB, mapB]
          unfold hasW
          rw [← List.cons_append, List.any_append]
          show (((s.w :: s.mid).any ws.contains || (false || false)) || s.cs.any ws.contains) = _
          rw [Bool.or_false, Bool.or_false]
        refine ⟨_, rfl, ⟨_, hx⟩, fun D nD => ?_⟩
        refine lc_tup (K := K) (xs := its.map (itV q0)) (fun i G' => Same G G' ∧ G' D = some (.lst ((its.take i).map fun y => V.bl (itB ws y)))) ⟨Same.new nD, upd_same⟩ (fun i G' _ g => sqT_same g.1 hx) (fun i x G' hx' g => ?_) (fun G' g => ?_)
        · obtain ⟨s2, h2⟩ := g
          rw [List.getElem?_map] at hx'
          obtain ⟨y, hy, rfl⟩ := Option.map_eq_some_iff.mp hx'
          have mem := List.mem_of_getElem? hy
          have li := (List.getElem?_eq_some_iff.mp hy).1
          refine ⟨rfl, _, rfl, _, rfl, itD s.cs y, ws.map PyData.str, ?_, dpT (hw _), shpY layC y (fun z e => hlay z (e ▸ mem)), shpT lw, _, h2, ?_, same_put s2 nD, ?_⟩
          · cases y with
            | none => exact dpT (SqT.of (s2 _ _ (hq0 mem)))
            | some z => exact .str z
          · rw [List.length_map, List.length_take]
            omega
          · rw [eqB, List.take_succ, hy]
            simp only [Option.toList, List.map_append]
            exact upd_same
        · obtain ⟨s2, h2⟩ := g
          rw [List.length_map, List.take_length] at h2
          refine ⟨D, its.map (itB ws), rfl, SqL.of (by rw [List.map_map]; exact h2), ?_⟩
          rw [hany]
          exact k G' (SG.trans s2)
end
end K02

set_option maxRecDepth 100000
set_option maxHeartbeats 4000000
namespace K02
open PySem PySem.Spec PyProof.Rows L2 He VH RZ
abbrev sNre : Stmt := top 17
abbrev sNin : Stmt := top 18
abbrev FnNre (K : PySem.W.Frag) (fd : FuncData) : Prop := FnP K "needs_read" sNre (ga K "needs_read") fd
abbrev FnNin (K : PySem.W.Frag) (fd : FuncData) : Prop := FnP K "needs_input" sNin (ga K "needs_input") fd
theorem lay_pl : ∀ w ∈ heads, PyData.canLay0 (.str w) = true ∧ ∀ l ∈ plcs w, ∀ z ∈ l, PyData.canLay0 (.str z) = true := by decide +kernel
theorem Stp.lay {s : Stp} (ok : s.ok = true) : ∀ z ∈ s.w :: s.mid, PyData.canLay0 (.str z) = true := by
  obtain ⟨f1, f2, f3, _, _⟩ := Stp.facts ok
  obtain ⟨g1, g2⟩ := lay_pl s.w f1
  intro z hz
  rcases List.mem_cons.mp hz with rfl | hz
  · exact g1
  · obtain ⟨i, hi, rfl⟩ := List.mem_iff_getElem.mp hz
    have hi2 : i < (plcs s.w).length := by omega
    have m : (s.mid[i], (plcs s.w)[i]) ∈ s.mid.zip (plcs s.w) := by
      rw [List.mem_iff_getElem]
      exact ⟨i, by rw [List.length_zip]; omega, by simp⟩
    exact g2 _ (List.getElem_mem hi2) _ (List.contains_iff_mem.mp (List.all_eq_true.mp f3 _ m))
abbrev rdW : List Str := ["put", "read", "copy", "same old", "same new"]
abbrev tkW : List Str := ["insert", "input"]
def spNd (K : PySem.W.Frag) (ws : List Str) : Sp := fun vs H Q E => ∃ x : V, vs = [x] ∧ ((IsSt K H x false ∧ Rn K E H) ∨ ∃ p s, x = .ref p ∧ StAt H p s ∧ s.ok = true ∧ ∀ H', Same H H' → Q (.bl (hasW s ws)) H')
section
variable {P : Program} {w : World} {K : PySem.W.Frag} {mg : Str → Option Value} {base : Heap} {f : Addr} {fd fdI fdW fdS fdN fdC fdT fdH : FuncData}
theorem bNre (F : FnNre K fd) : Binds K fd ["statement"] [] := FunD.bindsN F fun _ _ _ _ _ _ us hl => match us, hl with | [_], _ => rfl
theorem bNin (F : FnNin K fd) : Binds K fd ["statement"] [] := FunD.bindsN F fun _ _ _ _ _ _ us hl => match us, hl with | [_], _ => rfl
theorem scNre : FnScope ["statement"] ["statement"] (defScope sNre) := ⟨rfl, rfl, rfl, by decide +kernel, rfl, by decide +kernel, by decide +kernel⟩
theorem scNin : FnScope ["statement"] ["statement"] (defScope sNin) := ⟨rfl, rfl, rfl, by decide +kernel, rfl, by decide +kernel, by decide +kernel⟩
theorem pass_c {X : Cx} {E : XK} (tk : Takes X (fun cls d _ H => E cls d H)) : Passes (L2.CX X.prog X.w) X E := passes_call tk (fun _ _ _ _ h => h)
theorem ok_nre (F : FnP K "needs_read" sNre f fd) (T : Txt K mg w) (FH : FnHas K fdH) (FT : FnIst K fdT) (FC : FnChk K fdC) (FN : FnNos K fdN) (FW : FnWrd K fdW) (FS : FnWds K fdS) : FnOk P w K mg base (L2.CX P w) 5 f fd ["statement"] (spNd K rdW) := by
  have GH : FnOk P w K mg base (L2.CX P w) 4 (ga K "has_word") fdH ["statement", "words"] (spHas K) := ok_has FH T FT FC FN FW FS
  refine F.ok scNre (fun vs H Q E h => ?_) (fun cdv A outer s H vs Q E hr h => ?_)
  · obtain ⟨x, rfl, _⟩ := h
    rfl
  refine ⟨_, pss_one (ps_ret (pe_call GH hr (by rfl) T.m_has_word FH.kp (bHas FH) .nil (pass_c (takes_of rfl rfl rfl rfl)) (pa_cons (pv 0) (pa_cons (pe_glob (v := .ref (ga K "READING")) (by rfl) T.m_READING rfl) pa_nil)))), ?_⟩
  obtain ⟨x, rfl, way⟩ := h
  refine ⟨_, rfl, x, _, rdW, rfl, T.rdg, by decide +kernel, ?_⟩
  exact way.imp id fun ⟨p, s, e, a, ok, k⟩ => ⟨p, s, e, a, ok, Stp.lay ok, k⟩
theorem ok_nin (F : FnP K "needs_input" sNin f fd) (T : Txt K mg w) (FH : FnHas K fdH) (FT : FnIst K fdT) (FC : FnChk K fdC) (FN : FnNos K fdN) (FW : FnWrd K fdW) (FS : FnWds K fdS) : FnOk P w K mg base (L2.CX P w) 5 f fd ["statement"] (spNd K tkW) := by
  have GH : FnOk P w K mg base (L2.CX P w) 4 (ga K "has_word") fdH ["statement", "words"] (spHas K) := ok_has FH T FT FC FN FW FS
  refine F.ok scNin (fun vs H Q E h => ?_) (fun cdv A outer s H vs Q E hr h => ?_)
  · obtain ⟨x, rfl, _⟩ := h
    rfl
  refine ⟨_, pss_one (ps_ret (pe_call GH hr (by rfl) T.m_has_word FH.kp (bHas FH) .nil (pass_c (takes_of rfl rfl rfl rfl)) (pa_cons (pv 0) (pa_cons (pe_glob (v := .ref (ga K "TAKING")) (by rfl) T.m_TAKING rfl) pa_nil)))), ?_⟩
  obtain ⟨x, rfl, way⟩ := h
  refine ⟨_, rfl, x, _, tkW, rfl, T.tkg, by decide +kernel, ?_⟩
  exact way.imp id fun ⟨p, s, e, a, ok, k⟩ => ⟨p, s, e, a, ok, Stp.lay ok, k⟩
end
end K02

set_option maxRecDepth 100000
set_option maxHeartbeats 4000000
namespace K02
open PySem PySem.Spec PyProof.Rows L2 He VH RZ
theorem Stp.kinds {s : Stp} (ok : s.ok = true) : (s.w = "insert" ∧ s.cs = [] ∧ ∃ m, s.mid = [m] ∧ m ∈ (["none", "now"] : List Str)) ∨ (s.w = "delete" ∧ s.mid = []) ∨ (s.w = "put" ∧ ∃ m, s.mid = [m] ∧ m ∈ (["none", "now", "read", "copy"] : List Str)) ∨
    (s.w = "set" ∧ ∃ m n, s.mid = [m, n] ∧ m ∈ (["keep", "input", "read"] : List Str) ∧ n ∈ (["keep", "none", "now", "read", "copy"] : List Str)) := by
  obtain ⟨f1, f2, f3, _, f5⟩ := Stp.facts ok
  obtain ⟨sw, mid, cs⟩ := s
  simp only at f1 f2 f3 f5 ⊢
  simp only [heads, List.mem_cons, List.not_mem_nil, or_false] at f1
  rcases f1 with rfl | rfl | rfl | rfl
  · refine .inr (.inr (.inr ⟨rfl, ?_⟩))
    match mid, f2, f3 with
    | [m, n], _, f3 =>
      simp only [plcs, if_true, List.zip_cons_cons, List.all_cons, Bool.and_eq_true] at f3
      exact ⟨m, n, rfl, List.contains_iff_mem.mp f3.1, List.contains_iff_mem.mp f3.2.1⟩
  · refine .inr (.inr (.inl ⟨rfl, ?_⟩))
    match mid, f2, f3 with
    | [m], _, f3 =>
      have e : plcs "put" = ([["none", "now", "read", "copy"]] : List (List Str)) := by decide
      rw [e] at f3
      simp only [List.zip_cons_cons, List.all_cons, Bool.and_eq_true] at f3
      exact ⟨m, rfl, List.contains_iff_mem.mp f3.1⟩
  · refine .inl ⟨rfl, f5 rfl, ?_⟩
    match mid, f2, f3 with
    | [m], _, f3 =>
      have e : plcs "insert" = ([["none", "now"]] : List (List Str)) := by decide
      rw [e] at f3
      simp only [List.zip_cons_cons, List.all_cons, Bool.and_eq_true] at f3
      exact ⟨m, rfl, List.contains_iff_mem.mp f3.1⟩
  · refine .inr (.inl ⟨rfl, ?_⟩)
    match mid, f2 with
    | [], _ => rfl
/-! rows, and what a statement makes of them -/
abbrev Rw : Type := Int × Option Int
def ov : Option Int → V
  | none => .non
  | some i => .int i
def RowIs (H : Hp) (x : V) (r : Rw) : Prop := ∃ p, x = .ref p ∧ H p = some (.tup [.int r.1, ov r.2])
def RowO (H : Hp) (x : V) : Option Rw → Prop
  | none => x = .non
  | some r => RowIs H x r
theorem RowIs.same {H H' : Hp} {x : V} {r : Rw} (h : RowIs H x r) (s : Same H H') : RowIs H' x r := by
  obtain ⟨p, e, h⟩ := h
  exact ⟨p, e, s _ _ h⟩
theorem RowO.same {H H' : Hp} {x : V} {r : Option Rw} (h : RowO H x r) (s : Same H H') : RowO H' x r := by
  cases r with
  | none => exact h
  | some r => exact RowIs.same h s
theorem ov_flat (o : Option Int) : flatV (ov o) = true := by cases o <;> rfl
theorem ov_dec {a b : Option Int} : decide (ov a = ov b) = (a == b) := by
  cases a with
  | none => cases b <;> simp [ov]
  | some x =>
    cases b with
    | none => simp [ov]
    | some y => by_cases h : x = y <;> simp [ov, h]
def fB (c : Str) (a b d : Bool) : Bool := if c = "missing" then a else if c = "same old" then b else d
def failsB (c : Str) (r s : Rw) : Bool := fB c r.2.isSome (r.1 != s.1) (r.2 != s.2)
def takesB (st : Stp) (row : Option Rw) (sn : Rw) : Bool := match row with
  | none => st.w == "insert" || (st.w == "put" && st.cs.isEmpty)
  | some r => !(st.w == "insert") && !(st.cs.any fun c => failsB c r sn)
def oldB (st : Stp) (row : Option Rw) (v : Int) (sn : Rw) : Int :=
  if st.w = "insert" ∨ st.mid.head? = some ("input" : Str) then v else if st.w = "put" ∨ st.mid.head? = some ("read" : Str) then sn.1 else (row.getD (0, none)).1
def wordB (st : Stp) : Str := if st.w = "set" then st.mid.getD 1 "" else st.mid.getD 0 ""
def srcB (st : Stp) (row : Option Rw) (o : Int) (sn : Rw) : Option Int :=
  if wordB st = "none" then none else if wordB st = "now" then some o else if wordB st = "read" then some sn.1 else if wordB st = "copy" then sn.2 else (row.getD (0, none)).2
def behB (st : Stp) (row : Option Rw) (v : Int) (sn : Rw) : Option Rw := if st.w = "delete" then none else some (oldB st row v sn, srcB st row (oldB st row v sn) sn)
def appB (st : Stp) (row : Option Rw) (v : Int) (sn : Rw) : Option Rw × Bool := if takesB st row sn = true then (behB st row v sn, true) else (row, false)
abbrev sFai : Stmt := top 21
abbrev sTak : Stmt := top 20
abbrev FnFai (K : PySem.W.Frag) (fd : FuncData) : Prop := FnP K "fails" sFai (ga K "fails") fd
abbrev FnTak (K : PySem.W.Frag) (fd : FuncData) : Prop := FnP K "takes_effect" sTak (ga K "takes_effect") fd
theorem bFai {K : PySem.W.Frag} {fd : FuncData} (F : FnFai K fd) : Binds K fd ["check", "row", "seen"] [] := FunD.bindsN F fun _ _ _ _ _ _ us hl => match us, hl with | [_, _, _], _ => rfl
theorem bTak {K : PySem.W.Frag} {fd : FuncData} (F : FnTak K fd) : Binds K fd ["statement", "row", "seen"] [] := FunD.bindsN F fun _ _ _ _ _ _ us hl => match us, hl with | [_, _, _], _ => rfl
def spFai : Sp := fun vs H Q _ => ∃ (c : Str) (x z : V) (r s : Rw), vs = [.str c, x, z] ∧ RowIs H x r ∧ (c = "missing" ∨ RowIs H z s) ∧ Q (.bl (failsB c r s)) H
section
variable {P : Program} {w : World} {K : PySem.W.Frag} {mg : Str → Option Value} {base : Heap} {f : Addr} {fd fdI fdW fdS fdN fdC fdT fdH fdF : FuncData}
theorem scFai : FnScope ["check", "row", "seen"] ["check", "row", "seen"] (defScope sFai) := ⟨rfl, rfl, rfl, by decide +kernel, rfl, by decide +kernel, by decide +kernel⟩
theorem at1 {x y : V} {l : List V} : atI (x :: y :: l) 1 = some y := by
  unfold atI ixN
  rw [if_pos (by decide), if_pos (by rw [List.length_cons, List.length_cons]; omega)]
  rfl
theorem at2 {x y z : V} {l : List V} : atI (x :: y :: z :: l) 2 = some z := by
  unfold atI ixN
  rw [if_pos (by decide), if_pos (by simp only [List.length_cons]; omega)]
  rfl
theorem ok_fai (F : FnP K "fails" sFai f fd) : FnOk P w K mg base CX0 1 f fd ["check", "row", "seen"] spFai := by
  refine F.ok scFai (fun vs H Q E h => ?_) (fun cdv A outer s H vs Q E hr h => ?_)
  · obtain ⟨c, x, z, r, s, rfl, _⟩ := h
    rfl
  refine ⟨_, PSs.nox (pss_cons (ps_if (pt_cmpR op_eq (pv 0) pe_str (nomark _)) (pss_one (ps_ret (pe_cmpR op_notN (pe_ix ix_tup (pv 1) pe_int (fun _ _ => rfl)) pe_non (nomark _)))) pss_nil)
    (pss_cons (ps_if (pt_cmpR op_eq (pv 0) pe_str (nomark _)) (pss_one (ps_ret (pe_cmpR op_ne (pe_ix ix_tup (pv 1) pe_int (fun _ _ => rfl)) (pe_ix ix_tup (pv 2) pe_int (fun _ _ => rfl)) (nomark _)))) pss_nil)
    (pss_one (ps_ret (pe_cmpR op_ne (pe_ix ix_tup (pv 1) pe_int (fun _ _ => rfl)) (pe_ix ix_tup (pv 2) pe_int (fun _ _ => rfl)) (nomark _)))))), ?_⟩
  obtain ⟨c, x, z, r, sn, rfl, ⟨a, rfl, hr1⟩, hs, k⟩ := h
  unfold failsB fB at k
  refine ⟨_, rfl, rfl, _, rfl, ?_⟩
  by_cases e : c = "missing"
  · subst e
    rw [if_pos rfl] at k
    refine iteT ⟨_, rfl, _, _, _, _, rfl, rfl, SqT.of hr1, at1, rfl, ?_⟩
    have : (!decide (ov r.2 = V.non)) = r.2.isSome := by cases r.2 <;> simp [ov]
    rw [this]
    exact k
  · rw [if_neg e] at k
    rw [show decide (V.str c = V.str "missing") = false by simp [e]]
    obtain ⟨b, rfl, hr2⟩ := hs.resolve_left e
    refine iteF ⟨_, rfl, rfl, _, rfl, ?_⟩
    by_cases e2 : c = "same old"
    · subst e2
      rw [if_pos rfl] at k
      refine iteT ⟨_, rfl, _, _, _, _, rfl, rfl, SqT.of hr1, at0, _, rfl, _, _, _, _, rfl, rfl, SqT.of hr2, at0, rfl, ?_⟩
      have : (!decide (V.int r.1 = V.int sn.1)) = (r.1 != sn.1) := by
        by_cases q : r.1 = sn.1 <;> simp [q]
      rw [this]
      exact k
    · rw [if_neg e2] at k
      rw [show decide (V.str c = V.str "same old") = false by simp [e2]]
      refine iteF ⟨_, rfl, _, _, _, _, rfl, rfl, SqT.of hr1, at1, _, rfl, _, _, _, _, rfl, rfl, SqT.of hr2, at1, ?_, ?_⟩
      · cases r.2 <;> cases sn.2 <;> rfl
      · rw [ov_dec]
        exact k
theorem scTak : FnScope ["statement", "row", "seen", "check"] ["statement", "row", "seen"] (defScope sTak) := ⟨rfl, rfl, rfl, by decide +kernel, rfl, by decide +kernel, by decide +kernel⟩
/-- whether it takes effect -/
def spTak (K : PySem.W.Frag) : Sp := fun vs H Q _ => ∃ (p : Addr) (s : Stp) (x z : V) (row : Option Rw) (sn : Rw), vs = [.ref p, x, z] ∧ StAt H p s ∧ s.ok = true ∧ RowO H x row ∧ (hasW s rdW = true → RowIs H z sn) ∧
  ∀ (H' : Hp), Same H H' → Q (.bl (takesB s row sn)) H'
theorem has_c {s : Stp} {c : Str} (hc : c ∈ s.cs) (n : c ∈ cks) (e : c ≠ "missing") : hasW s rdW = true := by
  unfold hasW
  refine List.any_eq_true.mpr ⟨c, List.mem_cons_of_mem _ (List.mem_append_right _ hc), ?_⟩
  simp only [cks, List.mem_cons, List.not_mem_nil, or_false] at n
  rcases n with m | m | m
  · exact absurd m e
  · rw [m]; decide
  · rw [m]; decide
theorem ok_tak (F : FnP K "takes_effect" sTak f fd) (T : Txt K mg w) (FF : FnFai K fdF) (FC : FnChk K fdC) : FnOk P w K mg base CX0 2 f fd ["statement", "row", "seen"] (spTak K) := by
  have GF : FnOk P w K mg base CX0 1 (ga K "fails") fdF ["check", "row", "seen"] spFai := ok_fai FF
  have GC : FnOk P w K mg base CX0 1 (ga K "checks_of") fdC ["statement"] (spChk K) := ok_chk FC
  refine F.ok scTak (fun vs H Q E h => ?_) (fun cdv A outer s H vs Q E hr h => ?_)
  · obtain ⟨p, s, x, z, row, sn, rfl, _⟩ := h
    rfl
  refine ⟨_, PSs.nox (pss_cons (ps_if (pt_cmpR op_isN (pv 1) pe_non (nomark _)) (pss_one (ps_ret (pe_or (pe_cmpR op_eq (pe_ix ix_tup (pv 0) pe_int (fun _ _ => rfl)) pe_str (nomark _))
      (pe_one (pe_and (pe_cmpR op_eq (pe_ix ix_tup (pv 0) pe_int (fun _ _ => rfl)) pe_str (nomark _)) (pe_one (pe_cmpR (op_eqD hr.units) (pe_ix ix_tup (pv 0) (pe_un un_neg pe_int) (fun _ _ => rfl)) (pe_tup pa_nil) (nomark _)))))))) pss_nil)
    (pss_cons (ps_if (pt_cmpR op_eq (pe_ix ix_tup (pv 0) pe_int (fun _ _ => rfl)) pe_str (nomark _)) (pss_one (ps_ret pe_bl)) pss_nil)
    (pss_one (ps_ret (pe_not (pe_callB (cr_any rfl) (by rfl) T.g_any boot_any (pa_cons (pe_lc (own := [("check", 3)]) (g := gName 3) (tt := tYes) rfl scTak.nd
        (pi_tup (pe_call GC hr (by rfl) T.m_checks_of FC.kp (bChk FC) .nil pass0 (pa_cons (pv 0) pa_nil))) (blkOk_by (N := ["statement", "row", "seen", "check"]) (sc := defScope sTak) (by decide +kernel))
        (fun _ _ _ _ _ => pg_name (i := 3) scTak.nd rfl (Or.inl rfl)) (fun _ _ _ _ _ => pts_nil) (fun _ _ _ _ _ => pe_call GF hr (by rfl) T.m_fails FF.kp (bFai FF) .nil pass0 (pa_cons (pv 3) (pa_cons (pv 1) (pa_cons (pv 2) pa_nil))))) pa_nil))))))), ?_⟩
  obtain ⟨p, s, x, z, row, sn, rfl, at_, ok, hx, hz, k⟩ := h
  obtain ⟨f1, f2, f3, f4, f5⟩ := Stp.facts ok
  have at0' := at_
  unfold StAt at at0'
  cases row with
  | none =>
    obtain rfl : x = V.non := hx
    have ek : takesB s none sn = (s.w == "insert" || (s.w == "put" && s.cs.isEmpty)) := rfl
    rw [ek] at k
    refine ⟨_, rfl, rfl, _, rfl, iteT ?_⟩
    by_cases wi : s.w = "insert"
    · rw [if_pos wi] at at0'
      have k := k H (Same.refl H)
      rw [wi] at k
      exact ⟨_, rfl, _, _, _, _, rfl, rfl, SqT.of at0', at0, rfl, _, rfl, iteT k⟩
    · rw [if_neg wi] at at0'
      obtain ⟨q, h1, h2⟩ := at0'
      rw [show (s.w == "insert") = false by simp [wi], Bool.false_or] at k
      refine ⟨_, rfl, _, _, _, _, rfl, rfl, SqT.of h1, at0, rfl, _, rfl, ?_⟩
      rw [show decide (V.str s.w = V.str "insert") = false by simp [wi]]
      refine iteF ⟨_, rfl, _, _, _, _, rfl, rfl, SqT.of h1, at0, rfl, _, rfl, ?_⟩
      by_cases wp : s.w = "put"
      · rw [show decide (V.str s.w = V.str "put") = true by simp [wp]]
        rw [show (s.w == "put") = true by simp [wp], Bool.true_and] at k
        refine iteT ⟨_, rfl, 1, rfl, _, _, _, _, rfl, rfl, SqT.of h1, atL (xs := .str s.w :: s.mid.map V.str), (show 0 ≤ sizeLine by decide), fun e ne => ?_⟩
        have S := Same.new (o := .tup []) ne
        refine ⟨_, _, dpT (SqT.of (S _ _ h2)), dpT (ws := []) (SqT.of upd_same), shpT (fun z hz => lay_cks z (wds_mem f4 z hz)), by decide +kernel, ?_⟩
        have k := k _ S
        have e : PyData.eqv (.tuple (s.cs.map PyData.str)) (.tuple (([] : List Str).map PyData.str)) = s.cs.isEmpty := by cases s.cs <;> rfl
        rw [e]
        exact k
      · rw [show decide (V.str s.w = V.str "put") = false by simp [wp]]
        rw [show (s.w == "put") = false by simp [wp], Bool.false_and] at k
        exact iteF (k H (Same.refl H))
  | some r =>
    have hx0 : RowIs H x r := hx
    have ek : takesB s (some r) sn = (!(s.w == "insert") && !(s.cs.any fun c => failsB c r sn)) := rfl
    rw [ek] at k
    obtain ⟨ra, rfl, hr1⟩ := hx0
    refine ⟨_, rfl, rfl, _, rfl, iteF ?_⟩
    by_cases wi : s.w = "insert"
    · rw [if_pos wi] at at0'
      have k := k H (Same.refl H)
      rw [wi] at k
      exact ⟨_, rfl, _, _, _, _, rfl, rfl, SqT.of at0', at0, rfl, _, rfl, iteT k⟩
    · rw [if_neg wi] at at0'
      obtain ⟨q, h1, h2⟩ := at0'
      rw [show (s.w == "insert") = false by simp [wi], Bool.not_false, Bool.true_and] at k
      refine ⟨_, rfl, _, _, _, _, rfl, rfl, SqT.of h1, at0, rfl, _, rfl, ?_⟩
      rw [show decide (V.str s.w = V.str "insert") = false by simp [wi]]
      refine iteF ⟨_, rfl, p, s, rfl, at_, ok, fun H1 qc S1 hqc => ⟨_, rfl, ⟨_, SqT.of hqc⟩, fun D nD => ?_⟩⟩
      refine lc_tup (K := K) (xs := s.cs.map V.str) (fun i G => Same H1 G ∧ G D = some (.lst (((s.cs.take i).map fun c => failsB c r sn).map V.bl))) ⟨Same.new nD, upd_same⟩ (fun i G _ g => SqT.of (g.1 _ _ hqc)) (fun i x G hx g => ?_) (fun G g => ?_)
      · obtain ⟨s2, h3⟩ := g
        rw [List.getElem?_map] at hx
        obtain ⟨c, hc, rfl⟩ := Option.map_eq_some_iff.mp hx
        have mem := List.mem_of_getElem? hc
        have li := (List.getElem?_eq_some_iff.mp hc).1
        have lc := wds_le f4
        refine ⟨rfl, _, rfl, _, rfl, _, rfl, c, _, _, r, sn, rfl, ⟨ra, rfl, s2 _ _ (S1 _ _ hr1)⟩, ?_, ⟨_, h3, ?_, same_put s2 nD, ?_⟩⟩
        · by_cases e : c = "missing"
          · exact .inl e
          · exact .inr (((hz (has_c mem (wds_mem f4 c mem) e)).same S1).same s2)
        · rw [List.length_map, List.length_map, List.length_take]
          have : 1000 < sizeLine := by decide
          omega
        · rw [List.take_succ, hc, upd_same]
          simp
      · obtain ⟨s2, h3⟩ := g
        rw [List.length_map, List.take_length] at h3
        have k := k G (S1.trans s2)
        refine ⟨D, _, rfl, SqL.of h3, _, rfl, ?_⟩
        rw [List.any_map]
        exact k
end
end K02

set_option maxRecDepth 100000
set_option maxHeartbeats 4000000
namespace K02
open PySem PySem.Spec PyProof.Rows L2 He VH RZ
abbrev sBeh : Stmt := top 22
abbrev sOld : Stmt := top 23
abbrev sSrc : Stmt := top 24
abbrev FnBeh (K : PySem.W.Frag) (fd : FuncData) : Prop := FnP K "row_behind" sBeh (ga K "row_behind") fd
abbrev FnOld (K : PySem.W.Frag) (fd : FuncData) : Prop := FnP K "old_behind" sOld (ga K "old_behind") fd
abbrev FnSrc (K : PySem.W.Frag) (fd : FuncData) : Prop := FnP K "source_behind" sSrc (ga K "source_behind") fd
theorem bBeh {K : PySem.W.Frag} {fd : FuncData} (F : FnBeh K fd) : Binds K fd ["statement", "row", "value", "seen"] [] := FunD.bindsN F fun _ _ _ _ _ _ us hl => match us, hl with | [_, _, _, _], _ => rfl
theorem bOld {K : PySem.W.Frag} {fd : FuncData} (F : FnOld K fd) : Binds K fd ["statement", "row", "value", "seen"] [] := FunD.bindsN F fun _ _ _ _ _ _ us hl => match us, hl with | [_, _, _, _], _ => rfl
theorem bSrc {K : PySem.W.Frag} {fd : FuncData} (F : FnSrc K fd) : Binds K fd ["statement", "row", "old", "seen"] [] := FunD.bindsN F fun _ _ _ _ _ _ us hl => match us, hl with | [_, _, _, _], _ => rfl
/-- a statement that takes effect here: what it needs is there -/
structure Eff (H : Hp) (s : Stp) (x v z : V) (row : Option Rw) (i : Int) (sn : Rw) : Prop where
  ok : s.ok = true
  rw_ : RowO H x row
  eff : (row = none ∧ (s.w = "insert" ∨ s.w = "put")) ∨ (row ≠ none ∧ s.w ≠ "insert")
  inp : hasW s tkW = true → v = .int i
  sn : hasW s rdW = true → RowIs H z sn
theorem Eff.same {H H' : Hp} {s : Stp} {x v z : V} {row : Option Rw} {i : Int} {sn : Rw} (h : Eff H s x v z row i sn) (e : Same H H') : Eff H' s x v z row i sn :=
  ⟨h.ok, h.rw_.same e, h.eff, h.inp, fun q => (h.sn q).same e⟩
theorem Eff.some {H : Hp} {s : Stp} {x v z : V} {row : Option Rw} {i : Int} {sn : Rw} (h : Eff H s x v z row i sn) (n : s.w ≠ "insert") (np : s.w ≠ "put") : ∃ r, row = some r ∧ RowIs H x r := by
  rcases h.eff with ⟨_, e | e⟩ | ⟨e, _⟩
  · exact absurd e n
  · exact absurd e np
  · cases row with
    | none => exact absurd rfl e
    | some r => exact ⟨r, rfl, h.rw_⟩
theorem has_w {s : Stp} {ws : List Str} (h : ws.contains s.w = true) : hasW s ws = true := by
  unfold hasW
  rw [List.any_cons, h]
  rfl
theorem has_m {s : Stp} {ws : List Str} {m : Str} (hm : m ∈ s.mid) (h : ws.contains m = true) : hasW s ws = true :=
  List.any_eq_true.mpr ⟨m, List.mem_cons_of_mem _ (List.mem_append_left _ hm), h⟩
def spOld : Sp := fun vs H Q _ => ∃ (p : Addr) (s : Stp) (x v z : V) (row : Option Rw) (i : Int) (sn : Rw), vs = [.ref p, x, v, z] ∧ StAt H p s ∧ Eff H s x v z row i sn ∧ s.w ≠ "delete" ∧ Q (.int (oldB s row i sn)) H
def spSrc : Sp := fun vs H Q _ => ∃ (p : Addr) (s : Stp) (x v z : V) (row : Option Rw) (i : Int) (sn : Rw) (o : Int), vs = [.ref p, x, .int o, z] ∧ StAt H p s ∧ Eff H s x v z row i sn ∧ s.w ≠ "delete" ∧ Q (ov (srcB s row o sn)) H
def spBeh : Sp := fun vs H Q _ => ∃ (p : Addr) (s : Stp) (x v z : V) (row : Option Rw) (i : Int) (sn : Rw), vs = [.ref p, x, v, z] ∧ StAt H p s ∧ Eff H s x v z row i sn ∧ ∀ (H' : Hp) (y : V), Same H H' → RowO H' y (behB s row i sn) → Q y H'
section
variable {P : Program} {w : World} {K : PySem.W.Frag} {mg : Str → Option Value} {base : Heap} {f : Addr} {fd fdO fdS : FuncData}
theorem scBeh : FnScope ["statement", "row", "value", "seen", "old"] ["statement", "row", "value", "seen"] (defScope sBeh) := ⟨rfl, rfl, rfl, by decide +kernel, rfl, by decide +kernel, by decide +kernel⟩
theorem scOld : FnScope ["statement", "row", "value", "seen"] ["statement", "row", "value", "seen"] (defScope sOld) := ⟨rfl, rfl, rfl, by decide +kernel, rfl, by decide +kernel, by decide +kernel⟩
theorem scSrc : FnScope ["statement", "row", "old", "seen", "word"] ["statement", "row", "old", "seen"] (defScope sSrc) := ⟨rfl, rfl, rfl, by decide +kernel, rfl, by decide +kernel, by decide +kernel⟩
theorem ok_old (F : FnP K "old_behind" sOld f fd) : FnOk P w K mg base CX0 1 f fd ["statement", "row", "value", "seen"] spOld := by
  refine F.ok scOld (fun vs H Q E h => ?_) (fun cdv A outer s H vs Q E hr h => ?_)
  · obtain ⟨p, s, x, v, z, row, i, sn, rfl, _⟩ := h
    rfl
  refine ⟨_, PSs.nox (pss_cons (ps_if (PW.pt (pw_or (pt_cmpR op_eq (pe_ix ix_tup (pv 0) pe_int (fun _ _ => rfl)) pe_str (nomark _)) (pw_or1 (pt_cmpR op_eq (pe_ix ix_tup (pv 0) pe_int (fun _ _ => rfl)) pe_str (nomark _))))) (pss_one (ps_ret (pv 2))) pss_nil)
    (pss_cons (ps_if (PW.pt (pw_or (pt_cmpR op_eq (pe_ix ix_tup (pv 0) pe_int (fun _ _ => rfl)) pe_str (nomark _)) (pw_or1 (pt_cmpR op_eq (pe_ix ix_tup (pv 0) pe_int (fun _ _ => rfl)) pe_str (nomark _))))) (pss_one (ps_ret (pe_ix ix_tup (pv 3) pe_int (fun _ _ => rfl)))) pss_nil)
    (pss_one (ps_ret (pe_ix ix_tup (pv 1) pe_int (fun _ _ => rfl)))))), ?_⟩
  obtain ⟨p, s, x, v, z, row, i, sn, rfl, at_, ef, nd, k⟩ := h
  unfold oldB at k
  unfold StAt at at_
  rcases Stp.kinds ef.ok with ⟨wi, _, _⟩ | ⟨wd, _⟩ | ⟨wp, m, em, hm⟩ | ⟨ws, m, n, em, hm, hn⟩
  · rw [if_pos wi] at at_
    obtain rfl := ef.inp (has_w (by rw [wi]; decide))
    rw [if_pos (.inl wi)] at k
    exact ⟨_, rfl, _, _, _, _, rfl, rfl, SqT.of at_, at0, rfl, _, rfl, iteT ⟨_, rfl, k⟩⟩
  · exact absurd wd nd
  · have ni : s.w ≠ "insert" := by rw [wp]; decide
    rw [if_neg ni] at at_
    obtain ⟨q, h1, h2⟩ := at_
    rw [em] at h1
    obtain ⟨r, rfl, hr1⟩ := ef.sn (has_w (by rw [wp]; decide))
    refine ⟨_, rfl, _, _, _, _, rfl, rfl, SqT.of h1, at0, rfl, _, rfl, ?_⟩
    rw [show decide (V.str s.w = V.str "insert") = false by simp [ni]]
    refine iteF ⟨_, rfl, _, _, _, _, rfl, rfl, SqT.of h1, at1, rfl, _, rfl, ?_⟩
    have nm : m ≠ "input" := fun e => by rw [e] at hm; exact absurd hm (by decide)
    rw [if_neg (by rw [em]; simp [ni, nm]), if_pos (.inl wp)] at k
    rw [show decide (V.str m = V.str "input") = false by simp [nm]]
    refine iteF ⟨_, rfl, _, _, _, _, rfl, rfl, SqT.of h1, at0, rfl, _, rfl, ?_⟩
    rw [show decide (V.str s.w = V.str "put") = true by simp [wp]]
    exact iteT ⟨_, rfl, _, _, _, _, rfl, rfl, SqT.of hr1, at0, k⟩
  · have ni : s.w ≠ "insert" := by rw [ws]; decide
    have np : s.w ≠ "put" := by rw [ws]; decide
    rw [if_neg ni] at at_
    obtain ⟨q, h1, h2⟩ := at_
    rw [em] at h1
    refine ⟨_, rfl, _, _, _, _, rfl, rfl, SqT.of h1, at0, rfl, _, rfl, ?_⟩
    rw [show decide (V.str s.w = V.str "insert") = false by simp [ni]]
    refine iteF ⟨_, rfl, _, _, _, _, rfl, rfl, SqT.of h1, at1, rfl, _, rfl, ?_⟩
    by_cases mi : m = "input"
    · obtain rfl := ef.inp (has_m (m := m) (by rw [em]; simp) (by rw [mi]; decide))
      rw [if_pos (.inr (by rw [em, mi]; rfl))] at k
      rw [show decide (V.str m = V.str "input") = true by simp [mi]]
      exact iteT ⟨_, rfl, k⟩
    · rw [if_neg (by rw [em]; simp [ni, mi])] at k
      rw [show decide (V.str m = V.str "input") = false by simp [mi]]
      refine iteF ⟨_, rfl, _, _, _, _, rfl, rfl, SqT.of h1, at0, rfl, _, rfl, ?_⟩
      rw [show decide (V.str s.w = V.str "put") = false by simp [np]]
      refine iteF ⟨_, rfl, _, _, _, _, rfl, rfl, SqT.of h1, at1, rfl, _, rfl, ?_⟩
      by_cases mr : m = "read"
      · obtain ⟨r, rfl, hr1⟩ := ef.sn (has_m (m := m) (by rw [em]; simp) (by rw [mr]; decide))
        rw [if_pos (.inr (by rw [em, mr]; rfl))] at k
        rw [show decide (V.str m = V.str "read") = true by simp [mr]]
        exact iteT ⟨_, rfl, _, _, _, _, rfl, rfl, SqT.of hr1, at0, k⟩
      · rw [show decide (V.str m = V.str "read") = false by simp [mr]]
        rw [if_neg (by rw [em]; simp [np, mr])] at k
        obtain ⟨r, rfl, ra, rfl, hr1⟩ := ef.some ni np
        exact iteF ⟨_, rfl, _, _, _, _, rfl, rfl, SqT.of hr1, at0, k⟩
end
end K02

set_option maxRecDepth 100000
set_option maxHeartbeats 4000000
namespace K02
open PySem PySem.Spec PyProof.Rows L2 He VH RZ
section
variable {P : Program} {w : World} {K : PySem.W.Frag} {mg : Str → Option Value} {base : Heap} {f : Addr} {fd fdO fdS : FuncData}
theorem ok_src (F : FnP K "source_behind" sSrc f fd) : FnOk P w K mg base CX0 1 f fd ["statement", "row", "old", "seen"] spSrc := by
  refine F.ok scSrc (fun vs H Q E h => ?_) (fun cdv A outer s H vs Q E hr h => ?_)
  · obtain ⟨p, s, x, v, z, row, i, sn, o, rfl, _⟩ := h
    rfl
  refine ⟨_, PSs.nox (pss_cons (ps_set (i := 4) scSrc.nd rfl (Or.inl rfl) (pe_ifExp (pt_cmpR op_eq (pe_ix ix_tup (pv 0) pe_int (fun _ _ => rfl)) pe_str (nomark _)) (pe_ix ix_tup (pv 0) pe_int (fun _ _ => rfl)) (pe_ix ix_tup (pv 0) pe_int (fun _ _ => rfl))))
    (pss_cons (ps_if (pt_cmpR op_eq (pv 4) pe_str (nomark _)) (pss_one (ps_ret pe_non)) pss_nil)
    (pss_cons (ps_if (pt_cmpR op_eq (pv 4) pe_str (nomark _)) (pss_one (ps_ret (pv 2))) pss_nil)
    (pss_cons (ps_if (pt_cmpR op_eq (pv 4) pe_str (nomark _)) (pss_one (ps_ret (pe_ix ix_tup (pv 3) pe_int (fun _ _ => rfl)))) pss_nil)
    (pss_cons (ps_if (pt_cmpR op_eq (pv 4) pe_str (nomark _)) (pss_one (ps_ret (pe_ix ix_tup (pv 3) pe_int (fun _ _ => rfl)))) pss_nil)
    (pss_one (ps_ret (pe_ix ix_tup (pv 1) pe_int (fun _ _ => rfl))))))))), ?_⟩
  obtain ⟨p, s, x, v, z, row, i, sn, o, rfl, at_, ef, nd, k⟩ := h
  unfold srcB at k
  unfold StAt at at_
  rcases Stp.kinds ef.ok with ⟨wi, _, W, em, hm⟩ | ⟨wd, _⟩ | ⟨wp, W, em, hm⟩ | ⟨ws, m, W, em, hm, hn⟩
  · rw [if_pos wi, em] at at_
    have hrd : W = "read" ∨ W = "copy" → hasW s rdW = true := fun e => has_m (m := W) (by rw [em]; simp) (by rcases e with rfl | rfl <;> decide)
    have hrow : W ≠ "none" → W ≠ "now" → W ≠ "read" → W ≠ "copy" → ∃ r, row = some r ∧ RowIs H x r := fun a b _ _ => by
      simp only [List.mem_cons, List.not_mem_nil, or_false] at hm
      exact (hm.elim a b).elim
    have ew : wordB s = W := by unfold wordB; rw [if_neg (by rw [wi]; decide), em]; rfl
    rw [ew] at k
    refine ⟨_, rfl, _, _, _, _, rfl, rfl, SqT.of at_, at0, rfl, _, rfl, iteF ⟨_, rfl, _, _, _, _, rfl, rfl, SqT.of at_, at1, ?_⟩⟩
    refine ⟨_, rfl, rfl, _, rfl, ?_⟩
    by_cases w1 : W = "none"
    · rw [if_pos w1] at k
      rw [show decide (V.str W = V.str "none") = true by simp [w1]]
      exact iteT k
    rw [if_neg w1] at k
    rw [show decide (V.str W = V.str "none") = false by simp [w1]]
    refine iteF ⟨_, rfl, rfl, _, rfl, ?_⟩
    by_cases w2 : W = "now"
    · rw [if_pos w2] at k
      rw [show decide (V.str W = V.str "now") = true by simp [w2]]
      exact iteT ⟨_, rfl, k⟩
    rw [if_neg w2] at k
    rw [show decide (V.str W = V.str "now") = false by simp [w2]]
    refine iteF ⟨_, rfl, rfl, _, rfl, ?_⟩
    by_cases w3 : W = "read"
    · obtain ⟨r, rfl, hr1⟩ := ef.sn (hrd (.inl w3))
      rw [if_pos w3] at k
      rw [show decide (V.str W = V.str "read") = true by simp [w3]]
      exact iteT ⟨_, rfl, _, _, _, _, rfl, rfl, SqT.of hr1, at0, k⟩
    rw [if_neg w3] at k
    rw [show decide (V.str W = V.str "read") = false by simp [w3]]
    refine iteF ⟨_, rfl, rfl, _, rfl, ?_⟩
    by_cases w4 : W = "copy"
    · obtain ⟨r, rfl, hr1⟩ := ef.sn (hrd (.inr w4))
      rw [if_pos w4] at k
      rw [show decide (V.str W = V.str "copy") = true by simp [w4]]
      exact iteT ⟨_, rfl, _, _, _, _, rfl, rfl, SqT.of hr1, at1, k⟩
    rw [if_neg w4] at k
    rw [show decide (V.str W = V.str "copy") = false by simp [w4]]
    obtain ⟨r, rfl, ra, rfl, hr1⟩ := hrow w1 w2 w3 w4
    exact iteF ⟨_, rfl, _, _, _, _, rfl, rfl, SqT.of hr1, at1, k⟩
  · exact absurd wd nd
  · have ni : s.w ≠ "insert" := by rw [wp]; decide
    rw [if_neg ni] at at_
    obtain ⟨q, h1, h2⟩ := at_
    rw [em] at h1
    have hrd : W = "read" ∨ W = "copy" → hasW s rdW = true := fun e => has_m (m := W) (by rw [em]; simp) (by rcases e with rfl | rfl <;> decide)
    have hrow : W ≠ "none" → W ≠ "now" → W ≠ "read" → W ≠ "copy" → ∃ r, row = some r ∧ RowIs H x r := fun a b c d => by
      simp only [List.mem_cons, List.not_mem_nil, or_false] at hm
      exact (hm.elim a (fun h => h.elim b (fun h => h.elim c d))).elim
    have ew : wordB s = W := by unfold wordB; rw [if_neg (by rw [wp]; decide), em]; rfl
    rw [ew] at k
    refine ⟨_, rfl, _, _, _, _, rfl, rfl, SqT.of h1, at0, rfl, _, rfl, ?_⟩
    rw [show decide (V.str s.w = V.str "set") = false by rw [wp]; rfl]
    refine iteF ⟨_, rfl, _, _, _, _, rfl, rfl, SqT.of h1, at1, ?_⟩
    refine ⟨_, rfl, rfl, _, rfl, ?_⟩
    by_cases w1 : W = "none"
    · rw [if_pos w1] at k
      rw [show decide (V.str W = V.str "none") = true by simp [w1]]
      exact iteT k
    rw [if_neg w1] at k
    rw [show decide (V.str W = V.str "none") = false by simp [w1]]
    refine iteF ⟨_, rfl, rfl, _, rfl, ?_⟩
    by_cases w2 : W = "now"
    · rw [if_pos w2] at k
      rw [show decide (V.str W = V.str "now") = true by simp [w2]]
      exact iteT ⟨_, rfl, k⟩
    rw [if_neg w2] at k
    rw [show decide (V.str W = V.str "now") = false by simp [w2]]
    refine iteF ⟨_, rfl, rfl, _, rfl, ?_⟩
    by_cases w3 : W = "read"
    · obtain ⟨r, rfl, hr1⟩ := ef.sn (hrd (.inl w3))
      rw [if_pos w3] at k
      rw [show decide (V.str W = V.str "read") = true by simp [w3]]
      exact iteT ⟨_, rfl, _, _, _, _, rfl, rfl, SqT.of hr1, at0, k⟩
    rw [if_neg w3] at k
    rw [show decide (V.str W = V.str "read") = false by simp [w3]]
    refine iteF ⟨_, rfl, rfl, _, rfl, ?_⟩
    by_cases w4 : W = "copy"
    · obtain ⟨r, rfl, hr1⟩ := ef.sn (hrd (.inr w4))
      rw [if_pos w4] at k
      rw [show decide (V.str W = V.str "copy") = true by simp [w4]]
      exact iteT ⟨_, rfl, _, _, _, _, rfl, rfl, SqT.of hr1, at1, k⟩
    rw [if_neg w4] at k
    rw [show decide (V.str W = V.str "copy") = false by simp [w4]]
    obtain ⟨r, rfl, ra, rfl, hr1⟩ := hrow w1 w2 w3 w4
    exact iteF ⟨_, rfl, _, _, _, _, rfl, rfl, SqT.of hr1, at1, k⟩
  · have ni : s.w ≠ "insert" := by rw [ws]; decide
    have np : s.w ≠ "put" := by rw [ws]; decide
    rw [if_neg ni] at at_
    obtain ⟨q, h1, h2⟩ := at_
    rw [em] at h1
    have hrd : W = "read" ∨ W = "copy" → hasW s rdW = true := fun e => has_m (m := W) (by rw [em]; simp) (by rcases e with rfl | rfl <;> decide)
    have hrow : W ≠ "none" → W ≠ "now" → W ≠ "read" → W ≠ "copy" → ∃ r, row = some r ∧ RowIs H x r := fun _ _ _ _ => ef.some ni np
    have ew : wordB s = W := by unfold wordB; rw [if_pos ws, em]; rfl
    rw [ew] at k
    refine ⟨_, rfl, _, _, _, _, rfl, rfl, SqT.of h1, at0, rfl, _, rfl, ?_⟩
    rw [show decide (V.str s.w = V.str "set") = true by rw [ws]; rfl]
    refine iteT ⟨_, rfl, _, _, _, _, rfl, rfl, SqT.of h1, at2, ?_⟩
    refine ⟨_, rfl, rfl, _, rfl, ?_⟩
    by_cases w1 : W = "none"
    · rw [if_pos w1] at k
      rw [show decide (V.str W = V.str "none") = true by simp [w1]]
      exact iteT k
    rw [if_neg w1] at k
    rw [show decide (V.str W = V.str "none") = false by simp [w1]]
    refine iteF ⟨_, rfl, rfl, _, rfl, ?_⟩
    by_cases w2 : W = "now"
    · rw [if_pos w2] at k
      rw [show decide (V.str W = V.str "now") = true by simp [w2]]
      exact iteT ⟨_, rfl, k⟩
    rw [if_neg w2] at k
    rw [show decide (V.str W = V.str "now") = false by simp [w2]]
    refine iteF ⟨_, rfl, rfl, _, rfl, ?_⟩
    by_cases w3 : W = "read"
    · obtain ⟨r, rfl, hr1⟩ := ef.sn (hrd (.inl w3))
      rw [if_pos w3] at k
      rw [show decide (V.str W = V.str "read") = true by simp [w3]]
      exact iteT ⟨_, rfl, _, _, _, _, rfl, rfl, SqT.of hr1, at0, k⟩
    rw [if_neg w3] at k
    rw [show decide (V.str W = V.str "read") = false by simp [w3]]
    refine iteF ⟨_, rfl, rfl, _, rfl, ?_⟩
    by_cases w4 : W = "copy"
    · obtain ⟨r, rfl, hr1⟩ := ef.sn (hrd (.inr w4))
      rw [if_pos w4] at k
      rw [show decide (V.str W = V.str "copy") = true by simp [w4]]
      exact iteT ⟨_, rfl, _, _, _, _, rfl, rfl, SqT.of hr1, at1, k⟩
    rw [if_neg w4] at k
    rw [show decide (V.str W = V.str "copy") = false by simp [w4]]
    obtain ⟨r, rfl, ra, rfl, hr1⟩ := hrow w1 w2 w3 w4
    exact iteF ⟨_, rfl, _, _, _, _, rfl, rfl, SqT.of hr1, at1, k⟩
theorem ok_beh (F : FnP K "row_behind" sBeh f fd) (T : Txt K mg w) (FO : FnOld K fdO) (FS : FnSrc K fdS) : FnOk P w K mg base CX0 2 f fd ["statement", "row", "value", "seen"] spBeh := by
  have GO : FnOk P w K mg base CX0 1 (ga K "old_behind") fdO ["statement", "row", "value", "seen"] spOld := ok_old FO
  have GS : FnOk P w K mg base CX0 1 (ga K "source_behind") fdS ["statement", "row", "old", "seen"] spSrc := ok_src FS
  refine F.ok scBeh (fun vs H Q E h => ?_) (fun cdv A outer s H vs Q E hr h => ?_)
  · obtain ⟨p, s, x, v, z, row, i, sn, rfl, _⟩ := h
    rfl
  refine ⟨_, PSs.nox (pss_cons (ps_if (pt_cmpR op_eq (pe_ix ix_tup (pv 0) pe_int (fun _ _ => rfl)) pe_str (nomark _)) (pss_one (ps_ret pe_non)) pss_nil)
    (pss_cons (ps_set (i := 4) scBeh.nd rfl (Or.inl rfl) (pe_call GO hr (by rfl) T.m_old_behind FO.kp (bOld FO) .nil pass0 (pa_cons (pv 0) (pa_cons (pv 1) (pa_cons (pv 2) (pa_cons (pv 3) pa_nil))))))
    (pss_one (ps_ret (pe_tup (pa_cons (pv 4) (pa_cons (pe_call GS hr (by rfl) T.m_source_behind FS.kp (bSrc FS) .nil pass0 (pa_cons (pv 0) (pa_cons (pv 1) (pa_cons (pv 4) (pa_cons (pv 3) pa_nil))))) pa_nil))))))), ?_⟩
  obtain ⟨p, s, x, v, z, row, i, sn, rfl, at_, ef, k⟩ := h
  have hd : ∃ l, H p = some (.tup (.str s.w :: l)) := by
    have := at_
    unfold StAt at this
    by_cases wi : s.w = "insert"
    · rw [if_pos wi] at this
      exact ⟨_, by rw [wi]; exact this⟩
    · rw [if_neg wi] at this
      obtain ⟨q, h1, _⟩ := this
      exact ⟨_, h1⟩
  obtain ⟨l, hp⟩ := hd
  refine ⟨_, rfl, _, _, _, _, rfl, rfl, SqT.of hp, at0, rfl, _, rfl, ?_⟩
  by_cases wd : s.w = "delete"
  · rw [show decide (V.str s.w = V.str "delete") = true by simp [wd]]
    refine iteT (k H _ (Same.refl H) ?_)
    unfold behB
    rw [if_pos wd]
    exact rfl
  · rw [show decide (V.str s.w = V.str "delete") = false by simp [wd]]
    refine iteF ⟨_, rfl, _, rfl, _, rfl, _, rfl, p, s, x, v, z, row, i, sn, rfl, at_, ef, wd, ?_⟩
    refine ⟨_, rfl, _, rfl, _, rfl, _, rfl, _, rfl, p, s, x, v, z, row, i, sn, _, rfl, at_, ef, wd, ?_⟩
    refine ⟨(show 2 ≤ sizeLine by decide), fun t nt => k _ _ (Same.new nt) ?_⟩
    unfold behB
    rw [if_neg wd]
    exact ⟨t, rfl, upd_same⟩
end
end K02

set_option maxRecDepth 100000
set_option maxHeartbeats 4000000
namespace K02
open PySem PySem.Spec PyProof.Rows L2 He VH RZ
abbrev sApp : Stmt := top 19
abbrev FnApp (K : PySem.W.Frag) (fd : FuncData) : Prop := FunD K "applied" "applied" (defArgs sApp) (defBody sApp) (defScope sApp) [.non, .non] [] (ga K "applied") fd
/-- what applied returns -/
def ResAt (H : Hp) (y : V) (o : Option Rw × Bool) : Prop := ∃ p u, y = .ref p ∧ H p = some (.tup [u, .bl o.2]) ∧ RowO H u o.1
theorem ResAt.same {H H' : Hp} {y : V} {o : Option Rw × Bool} (h : ResAt H y o) (s : Same H H') : ResAt H' y o := by
  obtain ⟨p, u, e, h, r⟩ := h
  exact ⟨p, u, e, s _ _ h, r.same s⟩
def spApp : Sp := fun vs H Q _ => ∃ (p : Addr) (s : Stp) (x v z : V) (row : Option Rw) (i : Int) (sn : Rw), vs = [.ref p, x, v, z] ∧ StAt H p s ∧ s.ok = true ∧ RowO H x row ∧ (hasW s tkW = true → v = .int i) ∧ (hasW s rdW = true → RowIs H z sn) ∧
  ∀ (H' : Hp) (y : V), Same H H' → ResAt H' y (appB s row i sn) → Q y H'
theorem RowIs.v {K : PySem.W.Frag} {H : Hp} {x : V} {r : Rw} (h : RowIs H x r) : RowV K H x true := by
  obtain ⟨p, rfl, h⟩ := h
  obtain ⟨a, b⟩ := r
  cases b with
  | none => exact .one h
  | some b => exact .two h
theorem takes_eff {s : Stp} {row : Option Rw} {sn : Rw} (h : takesB s row sn = true) : (row = none ∧ (s.w = "insert" ∨ s.w = "put")) ∨ (row ≠ none ∧ s.w ≠ "insert") := by
  cases row with
  | none =>
    have h : (s.w == "insert" || (s.w == "put" && s.cs.isEmpty)) = true := h
    simp only [Bool.or_eq_true, Bool.and_eq_true, beq_iff_eq] at h
    exact .inl ⟨rfl, h.imp id (·.1)⟩
  | some r =>
    have h : (!(s.w == "insert") && !(s.cs.any fun c => failsB c r sn)) = true := h
    simp only [Bool.and_eq_true, Bool.not_eq_true', beq_eq_false_iff_ne] at h
    exact .inr ⟨by simp, h.1⟩
section
variable {P : Program} {w : World} {K : PySem.W.Frag} {mg : Str → Option Value} {base : Heap} {f : Addr} {fd : FuncData}
abbrev FnIsR (K : PySem.W.Frag) (fd : FuncData) : Prop := FnP K "is_row" sIsR (ga K "is_row") fd
theorem bIsR (F : FnIsR K fd) : Binds K fd ["value"] [] := FunD.bindsN F fun _ _ _ _ _ _ us hl => match us, hl with | [_], _ => rfl
/-- the defs behind it -/
structure Defs (K : PySem.W.Frag) : Prop where
  I : ∃ fd, FnInt K fd
  W : ∃ fd, FnWrd K fd
  S : ∃ fd, FnWds K fd
  R : ∃ fd, FnIsR K fd
  T : ∃ fd, FnIst K fd
  C : ∃ fd, FnChk K fd
  H : ∃ fd, FnHas K fd
  Nr : ∃ fd, FnNre K fd
  Ni : ∃ fd, FnNin K fd
  Tk : ∃ fd, FnTak K fd
  Fa : ∃ fd, FnFai K fd
  B : ∃ fd, FnBeh K fd
  O : ∃ fd, FnOld K fd
  Sr : ∃ fd, FnSrc K fd
  N : ∃ fd, FnNos K fd
abbrev nApp : List Str := ["statement", "row", "value", "seen", "takes_input", "reads"]
theorem scApp : FnScope nApp ["statement", "row", "value", "seen"] (defScope sApp) := ⟨rfl, rfl, rfl, by decide +kernel, rfl, by decide +kernel, by decide +kernel⟩
theorem ok_app (F : FnApp K fd) (T : Txt K mg w) (D : Defs K) : FnOk P w K mg base (L2.CX P w) 6 (ga K "applied") fd ["statement", "row", "value", "seen"] spApp := by
  obtain ⟨⟨d1, FI⟩, ⟨d2, FW⟩, ⟨d3, FS⟩, ⟨d4, FR⟩, ⟨d5, FT⟩, ⟨d6, FC⟩, ⟨d7, FH⟩, ⟨d8, FNr⟩, ⟨d9, FNi⟩, ⟨d10, FTk⟩, ⟨d11, FFa⟩, ⟨d12, FB⟩, ⟨d13, FO⟩, ⟨d14, FSr⟩, ⟨d15, FN⟩⟩ := D
  have GR : FnOk P w K mg base CX0 2 (ga K "is_row") d4 ["value"] (spIsR K) := ok_isr FR T FI
  have GI : FnOk P w K mg base CX0 1 (ga K "is_integer") d1 ["value"] (spInt K) := ok_int FI T
  have GNr : FnOk P w K mg base (L2.CX P w) 5 (ga K "needs_read") d8 ["statement"] (spNd K rdW) := ok_nre FNr T FH FT FC FN FW FS
  have GNi : FnOk P w K mg base (L2.CX P w) 5 (ga K "needs_input") d9 ["statement"] (spNd K tkW) := ok_nin FNi T FH FT FC FN FW FS
  have GT : FnOk P w K mg base CX0 2 (ga K "takes_effect") d10 ["statement", "row", "seen"] (spTak K) := ok_tak FTk T FFa FC
  have GB : FnOk P w K mg base CX0 2 (ga K "row_behind") d12 ["statement", "row", "value", "seen"] spBeh := ok_beh FB T FO FSr
  refine F.ok scApp (fun vs H Q E h => ?_) (fun cdv A outer s H vs Q E hr h => ?_)
  · obtain ⟨p, s, row, v, z, _, _, _, rfl, _⟩ := h
    rfl
  refine ⟨_, pss_cons (ps_par (i := 4) (j := 5) rfl scApp.nd rfl rfl (by decide) rfl rfl (pa_cons (pe_call GNi hr (by rfl) T.m_needs_input FNi.kp (bNin FNi) .nil (pass_c (takes_of rfl rfl rfl rfl)) (pa_cons (pv 0) pa_nil)) (pa_cons (pe_call GNr hr (by rfl) T.m_needs_read FNr.kp (bNre FNr) .nil (pass_c (takes_of rfl rfl rfl rfl)) (pa_cons (pv 0) pa_nil)) pa_nil)) (by rfl))
    (pss_cons (ps_if (PW.pt (pw_and (pt_cmpR op_notN (pv 1) pe_non (nomark _)) (pw_and1 (pt_not (pt_val (pe_call GR (hr.mono (by decide)) (by rfl) T.m_is_row FR.kp (bIsR FR) .nil pass0 (pa_cons (pv 1) pa_nil))))))) (pss_one ps_never) pss_nil)
    (pss_cons (ps_if (PW.pt (pw_and (pt_val (pv 4)) (pw_and1 (pt_not (pt_val (pe_call GI (hr.mono (by decide)) (by rfl) T.m_is_integer FI.kp (bInt FI) .nil pass0 (pa_cons (pv 2) pa_nil))))))) (pss_one ps_never) pss_nil)
    (pss_cons (ps_if (PW.pt (pw_and (pt_val (pv 5)) (pw_and1 (pt_not (pt_val (pe_call GR (hr.mono (by decide)) (by rfl) T.m_is_row FR.kp (bIsR FR) .nil pass0 (pa_cons (pv 3) pa_nil))))))) (pss_one ps_never) pss_nil)
    (pss_cons (ps_if (pt_not (pt_val (pe_call GT (hr.mono (by decide)) (by rfl) T.m_takes_effect FTk.kp (bTak FTk) .nil pass0 (pa_cons (pv 0) (pa_cons (pv 1) (pa_cons (pv 3) pa_nil)))))) (pss_one (ps_ret (pe_tup (pa_cons (pv 1) (pa_cons pe_bl pa_nil))))) pss_nil)
    (pss_one (ps_ret (pe_tup (pa_cons (pe_call GB (hr.mono (by decide)) (by rfl) T.m_row_behind FB.kp (bBeh FB) .nil pass0 (pa_cons (pv 0) (pa_cons (pv 1) (pa_cons (pv 2) (pa_cons (pv 3) pa_nil))))) (pa_cons pe_bl pa_nil))))))))), ?_⟩
  obtain ⟨p, s, x, v, z, row, i, sn, rfl, at_, ok, rk, vin, zin, k⟩ := h
  refine ⟨_, rfl, _, rfl, .inr ⟨p, s, rfl, at_, ok, fun H1 S1 => ?_⟩⟩
  have at1 := at_.same (fun b xs e => S1 _ _ e)
  refine ⟨_, rfl, _, rfl, .inr ⟨p, s, rfl, at1, ok, fun H2 S2 => ⟨_, _, rfl, ?_⟩⟩⟩
  have at2 := at1.same (fun b xs e => S2 _ _ e)
  have S := S1.trans S2
  have rk2 := rk.same S
  have k := fun H' y (s3 : Same H2 H') => k H' y (S.trans s3)
  have zin2 : hasW s rdW = true → RowIs H2 z sn := fun q => (zin q).same S
  refine ⟨_, rfl, rfl, ?_⟩
  have e0 : row = none → (!decide (x = V.non)) = false := fun e => by
    subst e
    rw [show x = V.non from rk2]
    rfl
  have e1 : ∀ r, row = some r → (!decide (x = V.non)) = true ∧ RowV K H2 x true := fun r e => by
    subst e
    have rk3 : RowIs H2 x r := rk2
    obtain ⟨q, e, _⟩ := id rk3
    exact ⟨by rw [e]; simp, rk3.v⟩
  rcases hrow : row with _ | r
  all_goals first
    | (rw [e0 hrow]; refine ⟨false, rfl, iteF (iteF ?_)⟩)
    | (rw [(e1 _ hrow).1]; refine ⟨true, rfl, iteT ⟨_, rfl, x, true, rfl, (e1 _ hrow).2, true, rfl, iteF ?_⟩⟩)
  all_goals (rw [hrow] at rk2 k; refine ⟨_, rfl, _, rfl, ?_⟩)
  all_goals (rcases hin : hasW s tkW with _ | _)
  all_goals first
    | (have hf : hasW s tkW = true := hin
       obtain rfl := vin hf
       refine iteT ⟨_, rfl, _, true, rfl, IntV.int, true, rfl, iteF ?_⟩)
    | refine iteF (iteF ?_)
  all_goals (refine ⟨_, rfl, _, rfl, ?_⟩)
  all_goals (rcases hrd : hasW s rdW with _ | _)
  all_goals first
    | (have hf : hasW s rdW = true := hrd
       refine iteT ⟨_, rfl, z, true, rfl, (zin2 hf).v, true, rfl, iteF ?_⟩)
    | refine iteF (iteF ?_)
  all_goals
    refine ⟨_, rfl, _, rfl, _, rfl, p, s, _, z, _, sn, rfl, at2, ok, rk2, zin2, fun H3 S3 => ?_⟩
    rcases ht : takesB s _ sn with _ | _
    · refine ⟨false, rfl, iteT ⟨_, rfl, (show 2 ≤ sizeLine by decide), fun r nr => k _ _ (S3.trans (Same.new nr)) ?_⟩⟩
      refine ⟨r, x, rfl, ?_, ?_⟩
      · rw [show (appB s _ i sn).2 = false by unfold appB; rw [ht]; rfl]
        exact upd_same
      · unfold appB
        rw [ht]
        exact (rk2.same S3).same (Same.new nr)
    · have ef : Eff H2 s _ _ z _ i sn := ⟨ok, rk2, takes_eff ht, vin, zin2⟩
      refine ⟨true, rfl, iteF ⟨_, rfl, _, rfl, _, rfl, _, rfl, p, s, _, _, z, _, i, sn, rfl, at2.same (fun b xs e => S3 _ _ e), ef.same S3, fun H4 y S4 ry => ⟨(show 2 ≤ sizeLine by decide), fun r nr => k _ _ ((S3.trans S4).trans (Same.new nr)) ?_⟩⟩⟩
      refine ⟨r, y, rfl, ?_, ?_⟩
      · rw [show (appB s _ i sn).2 = true by unfold appB; rw [ht]; rfl]
        exact upd_same
      · rw [show (appB s _ i sn).1 = behB s _ i sn by unfold appB; rw [ht]; rfl]
        exact ry.same (Same.new nr)
end
end K02

set_option maxRecDepth 100000
set_option maxHeartbeats 4000000
namespace K02
open PySem PySem.Spec PyProof.Rows L2 He VH RZ
abbrev sCal : Stmt := top 29
abbrev FnCal (K : PySem.W.Frag) (fd : FuncData) : Prop := FnP K "_law_checks_all" sCal (ga K "_law_checks_all") fd
def Ls : Nat → List (List Str)
  | 0 => [[]]
  | n + 1 => Ls n ++ (Ls n).map (· ++ [cks.getD n ""])
theorem Ls_ok : ∀ cs ∈ Ls 3, wdsOk cs cks = true := by decide +kernel
/-- a list of tuples of texts -/
def LstT (H : Hp) (l : Addr) (cs : List (List Str)) : Prop := ∃ ps : List Addr, H l = some (.lst (ps.map V.ref)) ∧ ps.length = cs.length ∧ ∀ (i : Nat) (p : Addr) (c : List Str), ps[i]? = some p → cs[i]? = some c → H p = some (.tup (c.map V.str))
theorem LstT.same {H H' : Hp} {l : Addr} {cs : List (List Str)} (h : LstT H l cs) (s : Same H H') : LstT H' l cs := by
  obtain ⟨ps, h1, h2, h3⟩ := h
  exact ⟨ps, s _ _ h1, h2, fun i p c a b => s _ _ (h3 i p c a b)⟩
def spCal : Sp := fun vs H Q _ => vs = [] ∧ ∀ (H' : Hp) (l : Addr), Same H H' → H l = none → LstT H' l (Ls 3) → Q (.ref l) H'
section
variable {P : Program} {w : World} {K : PySem.W.Frag} {mg : Str → Option Value} {base : Heap} {f : Addr} {fd : FuncData}
abbrev nCal : List Str := ["_law_found", "_law_word", "_law_line"]
theorem scCal : FnScope nCal [] (defScope sCal) := ⟨rfl, rfl, rfl, by decide +kernel, rfl, by decide +kernel, by decide +kernel⟩
theorem Ls_len (i : Nat) : (Ls i).length = 2 ^ i := by
  induction i with
  | zero => rfl
  | succ i ih => simp [Ls, ih, Nat.pow_succ]; omega
theorem ok_cal (F : FnP K "_law_checks_all" sCal f fd) : FnOk P w K mg base CX0 1 f fd [] spCal := by
  refine F.ok scCal (fun vs H Q E h => ?_) (fun cdv A outer s H vs Q E hr h => ?_)
  · obtain ⟨rfl, _⟩ := h
    rfl
  refine ⟨_, PSs.nox (pss_cons (ps_set (i := 0) scCal.nd rfl (Or.inl rfl) (pe_lst (pa_cons (pe_tup pa_nil) pa_nil)))
    (pss_cons (ps_for PassesOwn.never rfl (pi_list (pe_lst (pa_cons pe_str (pa_cons pe_str (pa_cons pe_str pa_nil))))) (pg_name (i := 1) scCal.nd rfl (Or.inr rfl))
      (pss_one (ps_set (i := 0) scCal.nd rfl (Or.inl rfl) (pe_op op_cat (pv 0) (pe_lc (own := [("_law_line", 2)]) (g := gName 2) (tt := tYes) (te := tOp (rCatA K) (tVar 2) (tTup (tCons (tVar 1) tNil))) rfl scCal.nd (pi_list (pv 0)) (blkOk_by (N := nCal) (sc := defScope sCal) (by decide +kernel))
        (fun _ _ _ _ _ => pg_name (i := 2) scCal.nd rfl (Or.inl rfl)) (fun _ _ _ _ _ => pts_nil) (fun _ _ _ _ _ => pe_op op_catA (pv 2) (pe_tup (pa_cons (pv 1) pa_nil))))))))
    (pss_one (ps_ret (pv 0))))), ?_⟩
  obtain ⟨rfl, k⟩ := h
  refine ⟨(show 0 ≤ sizeLine by decide), fun t nt => ⟨(show 1 ≤ sizeLine by decide), fun l nl => ?_⟩⟩
  have S0 := (Same.new (o := .tup []) nt).trans (Same.new (o := .lst [.ref t]) nl)
  have L0 : LstT (upd (upd H t (.tup [])) l (.lst [.ref t])) l (Ls 0) := ⟨[t], upd_same, rfl, fun i p c a b => by
    match i, a, b with
    | 0, a, b =>
      cases a
      cases b
      exact (Same.new nl) _ _ upd_same⟩
  have nl0 : H l = none := (Same.new (o := .tup []) nt).free nl
  generalize upd (upd H t (.tup [])) l (.lst [.ref t]) = H1 at S0 L0 ⊢
  refine ⟨(show 3 ≤ sizeLine by decide), fun wl nw => ⟨wl, rfl, ⟨_, SqL.of upd_same⟩, ?_⟩⟩
  have Sw := Same.new (o := .lst [.str "missing", .str "same old", .str "same new"]) nw
  have S1 := S0.trans Sw
  have L1 := L0.same Sw
  have hwl : upd H1 wl (.lst [.str "missing", .str "same old", .str "same new"]) wl = some (.lst [.str "missing", .str "same old", .str "same new"]) := upd_same
  generalize upd H1 wl (.lst [.str "missing", .str "same old", .str "same new"]) = H2 at S1 L1 hwl ⊢
  refine for_list (K := K) (a := wl) (xs := [.str "missing", .str "same old", .str "same new"]) (fun i σ G => ∃ (l : Addr) (v1 v2 : Option V), σ = [some (.ref l), v1, v2] ∧ Same H2 G ∧ H l = none ∧ LstT G l (Ls i))
    ⟨l, _, _, rfl, Same.refl _, nl0, L1⟩ (fun i σ G _ g => ?_) (fun i y σ G hy g => ?_) (fun σ G g => ?_)
  · obtain ⟨_, _, _, _, s2, _, _⟩ := g
    exact SqL.of (s2 _ _ hwl)
  · obtain ⟨l, v1, v2, rfl, s2, nl, L⟩ := g
    have hi : i < 3 := (List.getElem?_eq_some_iff.mp hy).1
    have ey : y = .str (cks.getD i "") := by
      match i, hi, hy with
      | 0, _, hy => cases hy; rfl
      | 1, _, hy => cases hy; rfl
      | 2, _, hy => cases hy; rfl
    subst ey
    have big : 1000 < sizeLine := by decide
    have ln : (Ls i).length ≤ 4 := by
      rw [Ls_len]
      match i, hi with
      | 0, _ => decide
      | 1, _ => decide
      | 2, _ => decide
    have ll : ∀ c ∈ Ls i, c.length ≤ 3 := by
      match i, hi with
      | 0, _ => decide
      | 1, _ => decide
      | 2, _ => decide
    obtain ⟨ps, h1, h2, h3⟩ := L
    refine ⟨_, rfl, _, rfl, l, rfl, ⟨_, SqL.of h1⟩, fun D nD => ?_⟩
    refine lc_list (K := K) (xs := ps.map V.ref) (fun j G' => Same G G' ∧ ∃ qs : List Addr, G' D = some (.lst (qs.map V.ref)) ∧ qs.length = j ∧ ∀ (m : Nat) (p : Addr) (c : List Str), qs[m]? = some p → (Ls i)[m]? = some c → G' p = some (.tup ((c ++ [cks.getD i ""]).map V.str)))
      ⟨Same.new nD, [], upd_same, rfl, fun m p c a => by simp at a⟩ (fun j G' _ g => SqL.of (g.1 _ _ h1)) (fun j x G' hx g => ?_) (fun G' g => ?_)
    · obtain ⟨s3, qs, hD, lq, hq⟩ := g
      rw [List.getElem?_map] at hx
      obtain ⟨p, hp, rfl⟩ := Option.map_eq_some_iff.mp hx
      have lj := (List.getElem?_eq_some_iff.mp hp).1
      have lj2 : j < (Ls i).length := by omega
      have hc : (Ls i)[j]? = some (Ls i)[j] := List.getElem?_eq_getElem lj2
      have hpc := h3 j p _ hp hc
      have lc := ll _ (List.getElem_mem lj2)
      generalize (Ls i)[j] = c at hc hpc lc
      refine ⟨rfl, _, rfl, _, rfl, (show 1 ≤ sizeLine by decide), fun t nt => ?_⟩
      have s4 := s3.trans (Same.new (o := .tup [.str (cks.getD i "")]) nt)
      have hD2 := (Same.new (o := .tup [.str (cks.getD i "")]) nt) _ _ hD
      have ht : upd G' t (.tup [.str (cks.getD i "")]) t = some (.tup [.str (cks.getD i "")]) := upd_same
      have hq2 : ∀ (m : Nat) (p : Addr) (c : List Str), qs[m]? = some p → (Ls i)[m]? = some c → upd G' t (.tup [.str (cks.getD i "")]) p = some (.tup ((c ++ [cks.getD i ""]).map V.str)) := fun m p c a b => (Same.new nt) _ _ (hq m p c a b)
      generalize upd G' t (.tup [.str (cks.getD i "")]) = G2 at s4 hD2 ht hq2 ⊢
      have put : ∀ (G3 : Hp) (r : Addr), Same G2 G3 → G3 r = some (.tup ((c ++ [cks.getD i ""]).map V.str)) → ∃ acc, G3 D = some (.lst acc) ∧ acc.length < sizeLine ∧ Same G (upd G3 D (.lst (acc ++ [.ref r]))) ∧ ∃ qs : List Addr, upd G3 D (.lst (acc ++ [.ref r])) D = some (.lst (qs.map V.ref)) ∧ qs.length = j + 1 ∧
          ∀ (m : Nat) (p : Addr) (c : List Str), qs[m]? = some p → (Ls i)[m]? = some c → upd G3 D (.lst (acc ++ [.ref r])) p = some (.tup ((c ++ [cks.getD i ""]).map V.str)) := fun G3 r s5 hr => by
        have hD3 := s5 _ _ hD2
        refine ⟨_, hD3, ?_, same_put (s4.trans s5) nD, qs ++ [r], ?_, by simp [lq], fun m p' c' a b => ?_⟩
        · rw [List.length_map]
          omega
        · rw [upd_same, List.map_append]
          rfl
        · have off : ∀ {q u}, G3 q = some (.tup u) → upd G3 D (.lst (qs.map V.ref ++ [.ref r])) q = some (.tup u) := fun {q u} e => (upd_ne (fun z => by rw [z, hD3] at e; cases e)).trans e
          by_cases hm : m < qs.length
          · rw [List.getElem?_append_left hm] at a
            exact off (s5 _ _ (hq2 m p' c' a b))
          · have em : m = qs.length := by
              have := (List.getElem?_eq_some_iff.mp a).1
              rw [List.length_append, List.length_singleton] at this
              omega
            rw [em, List.getElem?_append_right (Nat.le_refl _), Nat.sub_self] at a
            cases a
            rw [em, lq, hc] at b
            cases b
            exact off hr
      refine ⟨p, t, _, _, rfl, rfl, SqT.of (s4 _ _ hpc), SqT.of ht, by rw [List.length_map]; simp; omega, fun e => ?_, fun _ e => absurd e (by simp), fun _ _ r nr => ?_⟩
      · have ec : c = [] := List.map_eq_nil_iff.mp e
        subst ec
        exact put G2 t (Same.refl _) ht
      · refine put _ r (Same.new nr) ?_
        rw [upd_same, List.map_append]
        rfl
    · obtain ⟨s3, qs, hD, lq, hq⟩ := g
      rw [List.length_map] at lq
      refine ⟨l, D, _, _, rfl, rfl, s3 _ _ h1, hD, by rw [List.length_map, List.length_map]; omega, fun r nr => ⟨r, _, _, rfl, (s2.trans s3).trans (Same.new nr), ?_, ps ++ qs, ?_, ?_, fun m p c a b => ?_⟩⟩
      · exact (S1.trans (s2.trans s3)).free nr
      · rw [upd_same, List.map_append]
      · simp [Ls, h2, lq]
      · refine (Same.new nr) _ _ ?_
        by_cases hm : m < ps.length
        · rw [List.getElem?_append_left hm] at a
          rw [Ls, List.getElem?_append_left (by omega)] at b
          exact s3 _ _ (h3 m p c a b)
        · rw [List.getElem?_append_right (by omega)] at a
          rw [Ls, List.getElem?_append_right (by omega), List.getElem?_map] at b
          obtain ⟨c', hc', rfl⟩ := Option.map_eq_some_iff.mp b
          rw [← h2] at hc'
          exact hq (m - ps.length) p c' a hc'
  · obtain ⟨l, v1, v2, rfl, s2, nl, L⟩ := g
    exact ⟨_, rfl, k G l (S1.trans s2) nl L⟩
end
end K02

set_option maxRecDepth 100000
set_option maxHeartbeats 4000000
namespace K02
open PySem PySem.Spec PyProof.Rows L2 He VH RZ
abbrev sStm : Stmt := top 30
abbrev FnStm (K : PySem.W.Frag) (fd : FuncData) : Prop := FnP K "_law_statements" sStm (ga K "_law_statements") fd
theorem bCal {K : PySem.W.Frag} {fd : FuncData} (F : FnCal K fd) : Binds K fd [] [] := FunD.bindsN F fun _ _ _ _ _ _ us hl => match us, hl with | [], _ => rfl
def Good (H : Hp) (x : V) : Prop := ∃ p s, x = .ref p ∧ StAt H p s ∧ s.ok = true
theorem Good.tup {H H' : Hp} {x : V} (h : Good H x) (e : ∀ b xs, H b = some (.tup xs) → H' b = some (.tup xs)) : Good H' x := by
  obtain ⟨p, s, r, a, o⟩ := h
  exact ⟨p, s, r, a.same e, o⟩
theorem okDel : ∀ c ∈ Ls 3, (⟨"delete", [], c⟩ : Stp).ok = true := by decide +kernel
theorem okPut : ∀ c ∈ Ls 3, ∀ f ∈ (["none", "now", "read", "copy"] : List Str), (⟨"put", [f], c⟩ : Stp).ok = true := by decide +kernel
theorem okSet : ∀ c ∈ Ls 3, ∀ m ∈ (["keep", "input", "read"] : List Str), ∀ f ∈ (["keep", "none", "now", "read", "copy"] : List Str), (⟨"set", [m, f], c⟩ : Stp).ok = true := by decide +kernel
theorem okIns : ∀ f ∈ (["none", "now"] : List Str), (⟨"insert", [f], []⟩ : Stp).ok = true := by decide +kernel
/-- the checks' tuples stand -/
def Same' (ps : List Addr) (G : Hp) : Prop := ∀ (i : Nat) (p : Addr) (c : List Str), ps[i]? = some p → (Ls 3)[i]? = some c → G p = some (.tup (c.map V.str))
structure SI (H G : Hp) (l cl : Addr) (ps : List Addr) (xs : List V) (n : Nat) : Prop where
  sm : Same H G
  nl : H l = none
  hl : G l = some (.lst xs)
  le : xs.length ≤ n
  pos : 0 < xs.length
  good : ∀ x ∈ xs, Good G x
  hc : G cl = some (.lst (ps.map V.ref))
  cp : Same' ps G
  ne : cl ≠ l
section
variable {H G G' : Hp} {l cl p : Addr} {ps : List Addr} {xs ys : List V} {n m : Nat} {x : V}
theorem SI.same (h : SI H G l cl ps xs n) (s : Same G G') : SI H G' l cl ps xs n :=
  ⟨h.sm.trans s, h.nl, s _ _ h.hl, h.le, h.pos, fun x hx => (h.good x hx).tup (fun b u e => s _ _ e), s _ _ h.hc, fun i p c a b => s _ _ (h.cp i p c a b), h.ne⟩
theorem SI.mono (h : SI H G l cl ps xs n) (e : n ≤ m) : SI H G l cl ps xs m := ⟨h.sm, h.nl, h.hl, Nat.le_trans h.le e, h.pos, h.good, h.hc, h.cp, h.ne⟩
theorem SI.app (h : SI H G l cl ps xs n) (g : Good G x) : SI H (upd G l (.lst (xs ++ [x]))) l cl ps (xs ++ [x]) (n + 1) := by
  have tup : ∀ b u, G b = some (.tup u) → upd G l (.lst (xs ++ [x])) b = some (.tup u) := fun b u e => (upd_ne (fun z => by rw [z, h.hl] at e; cases e)).trans e
  refine ⟨same_put h.sm h.nl, h.nl, upd_same, by rw [List.length_append]; have := h.le; simp; omega, by simp, fun y hy => ?_, (upd_ne h.ne).trans h.hc, fun i p c a b => tup _ _ (h.cp i p c a b), h.ne⟩
  rcases List.mem_append.mp hy with hy | hy
  · exact (h.good y hy).tup tup
  · rw [List.mem_singleton.mp hy]
    exact g.tup tup
theorem SI.cat (h : SI H G l cl ps xs n) (g : ∀ y ∈ ys, Good G y) (np : G p = none) : SI H (upd G p (.lst (xs ++ ys))) p cl ps (xs ++ ys) (n + ys.length) := by
  have S := Same.new (o := .lst (xs ++ ys)) np
  refine ⟨h.sm.trans S, h.sm.free np, upd_same, by rw [List.length_append]; have := h.le; omega, by rw [List.length_append]; have := h.pos; omega, fun y hy => ?_, S _ _ h.hc, fun i p c a b => S _ _ (h.cp i p c a b), fun z => ?_⟩
  · rcases List.mem_append.mp hy with hy | hy
    · exact (h.good y hy).tup (fun b u e => S _ _ e)
    · exact (g y hy).tup (fun b u e => S _ _ e)
  · have := h.hc
    rw [z, np] at this
    cases this
end
def spStm : Sp := fun vs H Q _ => vs = [] ∧ ∀ (H' : Hp) (l : Addr) (xs : List V), Same H H' → H l = none → H' l = some (.lst xs) → 0 < xs.length → xs.length ≤ 200 → (∀ x ∈ xs, Good H' x) → Q (.ref l) H'
section
variable {P : Program} {w : World} {K : PySem.W.Frag} {mg : Str → Option Value} {base : Heap} {f : Addr} {fd fdC : FuncData}
abbrev nStm : List Str := ["_law_found", "_law_line", "_law_fresh", "_law_old"]
theorem scStm : FnScope nStm [] (defScope sStm) := ⟨rfl, rfl, rfl, by decide +kernel, rfl, by decide +kernel, by decide +kernel⟩
theorem ok_stm (F : FnP K "_law_statements" sStm f fd) (FC : FnCal K fdC) (mC : mg "_law_checks_all" = some (.ref (ga K "_law_checks_all"))) : FnOk P w K mg base CX0 2 f fd [] spStm := by
  have GC : FnOk P w K mg base CX0 1 (ga K "_law_checks_all") fdC [] spCal := ok_cal FC
  refine F.ok scStm (fun vs H Q E h => ?_) (fun cdv A outer s H vs Q E hr h => ?_)
  · obtain ⟨rfl, _⟩ := h
    rfl
  refine ⟨_, PSs.nox (pss_cons (ps_set (i := 0) scStm.nd rfl (Or.inl rfl) (pe_lst (pa_cons (pe_tup (pa_cons pe_str (pa_cons pe_str pa_nil))) (pa_cons (pe_tup (pa_cons pe_str (pa_cons pe_str pa_nil))) pa_nil))))
     (pss_cons (ps_for PassesOwn.never rfl (pi_list (pe_call0 GC hr (by rfl) mC FC.kp (bCal FC) .nil pass0)) (pg_name (i := 1) scStm.nd rfl (Or.inr rfl)) (pss_cons (ps_expr (pe_bm PySem.F.plainAttrs_list PySem.F.slot_list_append PySem.F.type_list_append mt_append (pv 0) (pa_cons (pe_tup (pa_cons pe_str (pa_cons (pv 1) pa_nil))) pa_nil)))
     (pss_cons (ps_for PassesOwn.never rfl (pi_list (pe_lst (pa_cons pe_str (pa_cons pe_str (pa_cons pe_str (pa_cons pe_str pa_nil)))))) (pg_name (i := 2) scStm.nd rfl (Or.inl rfl)) (pss_one (ps_expr (pe_bm PySem.F.plainAttrs_list PySem.F.slot_list_append PySem.F.type_list_append mt_append (pv 0) (pa_cons (pe_tup (pa_cons pe_str (pa_cons (pv 2) (pa_cons (pv 1) pa_nil)))) pa_nil)))))
     (pss_one (ps_for PassesOwn.never rfl (pi_list (pe_lst (pa_cons pe_str (pa_cons pe_str (pa_cons pe_str pa_nil))))) (pg_name (i := 3) scStm.nd rfl (Or.inr rfl)) (pss_one (ps_set (i := 0) scStm.nd rfl (Or.inl rfl) (pe_op op_cat (pv 0) (pe_lc (own := [("_law_fresh", 2)]) (g := gName 2) (tt := tYes) rfl scStm.nd (pi_list (pe_lst (pa_cons pe_str (pa_cons pe_str (pa_cons pe_str (pa_cons pe_str (pa_cons pe_str pa_nil))))))) (blkOk_by (N := nStm) (sc := defScope sStm) (by decide +kernel)) (fun _ _ _ _ _ => pg_name (i := 2) scStm.nd rfl (Or.inl rfl)) (fun _ _ _ _ _ => pts_nil) (fun _ _ _ _ _ => (pe_tup (pa_cons pe_str (pa_cons (pv 3) (pa_cons (pv 2) (pa_cons (pv 1) pa_nil)))))))))))))))
     (pss_one (ps_ret (pv 0))))), ?_⟩
  obtain ⟨rfl, k⟩ := h
  refine ⟨(show 2 ≤ sizeLine by decide), fun t1 n1 => ⟨(show 2 ≤ sizeLine by decide), fun t2 n2 => ⟨(show 2 ≤ sizeLine by decide), fun l nl => ?_⟩⟩⟩
  have T1 := Same.new (o := .tup [.str "insert", .str "none"]) n1
  have T2 := Same.new (o := .tup [.str "insert", .str "now"]) n2
  have T3 := Same.new (o := .lst [.ref t1, .ref t2]) nl
  have g1 : Good (upd (upd (upd H t1 (.tup [.str "insert", .str "none"])) t2 (.tup [.str "insert", .str "now"])) l (.lst [.ref t1, .ref t2])) (.ref t1) :=
    ⟨t1, ⟨"insert", ["none"], []⟩, rfl, by unfold StAt; rw [if_pos rfl]; exact T3 _ _ (T2 _ _ upd_same), okIns "none" (by decide)⟩
  have g2 : Good (upd (upd (upd H t1 (.tup [.str "insert", .str "none"])) t2 (.tup [.str "insert", .str "now"])) l (.lst [.ref t1, .ref t2])) (.ref t2) :=
    ⟨t2, ⟨"insert", ["now"], []⟩, rfl, by unfold StAt; rw [if_pos rfl]; exact T3 _ _ upd_same, okIns "now" (by decide)⟩
  have nl0 : H l = none := (T1.trans T2).free nl
  have S0 := (T1.trans T2).trans T3
  have hl : upd (upd (upd H t1 (.tup [.str "insert", .str "none"])) t2 (.tup [.str "insert", .str "now"])) l (.lst [.ref t1, .ref t2]) l = some (.lst [.ref t1, .ref t2]) := upd_same
  generalize upd (upd (upd H t1 (.tup [.str "insert", .str "none"])) t2 (.tup [.str "insert", .str "now"])) l (.lst [.ref t1, .ref t2]) = H1 at S0 hl g1 g2 ⊢
  clear T1 T2 T3
  refine ⟨rfl, fun H2 cl S1 ncl hcl => ?_⟩
  have si0 : SI H H2 l cl hcl.choose [.ref t1, .ref t2] 2 := ⟨S0.trans S1, nl0, S1 _ _ hl, Nat.le_refl _, Nat.succ_pos _, fun x hx => by
    simp only [List.mem_cons, List.not_mem_nil, or_false] at hx
    rcases hx with rfl | rfl
    · exact g1.tup (fun b u e => S1 _ _ e)
    · exact g2.tup (fun b u e => S1 _ _ e), hcl.choose_spec.1, hcl.choose_spec.2.2, fun z => by rw [z, hl] at ncl; cases ncl⟩
  have lps := hcl.choose_spec.2.1
  generalize hcl.choose = ps at si0 lps
  refine ⟨cl, rfl, ⟨_, SqL.of si0.hc⟩, ?_⟩
  have len8 : ps.length = 8 := by rw [lps]; decide
  refine for_list (K := K) (a := cl) (xs := ps.map V.ref) (fun i σ G => ∃ (l : Addr) (xs : List V) (v1 v2 v3 : Option V), σ = [some (.ref l), v1, v2, v3] ∧ SI H G l cl ps xs (2 + 20 * i)) ⟨l, _, _, _, _, rfl, si0⟩
    (fun i σ G _ g => ?_) (fun i y σ G hy g => ?_) (fun σ G g => ?_)
  · obtain ⟨_, _, _, _, _, _, g⟩ := g
    exact SqL.of g.hc
  · obtain ⟨l, xs, v1, v2, v3, rfl, si⟩ := g
    rw [List.getElem?_map] at hy
    obtain ⟨q, hq, rfl⟩ := Option.map_eq_some_iff.mp hy
    have li := (List.getElem?_eq_some_iff.mp hq).1
    have li2 : i < (Ls 3).length := by omega
    have hc : (Ls 3)[i]? = some (Ls 3)[i] := List.getElem?_eq_getElem li2
    have mc := List.getElem_mem li2
    generalize (Ls 3)[i] = c at hc mc
    have big : 1000 < sizeLine := by decide
    have lx := si.le
    have hql := si.cp i q c hq hc
    refine ⟨_, rfl, .inl ⟨rfl, _, SqL.of si.hl⟩, _, rfl, (show 2 ≤ sizeLine by decide), fun t nt => ⟨l, _, _, rfl, rfl, (Same.new nt) _ _ si.hl, by omega, ?_⟩⟩
    have sj := (si.same (Same.new (o := .tup [.str "delete", .ref q]) nt)).app (x := .ref t) ⟨t, ⟨"delete", [], c⟩, rfl, by
      unfold StAt
      rw [if_neg (show ¬ ("delete" : Str) = "insert" by decide)]
      exact ⟨q, upd_same, (Same.new nt) _ _ hql⟩, okDel c mc⟩
    generalize upd (upd G t (.tup [.str "delete", .ref q])) l (.lst (xs ++ [.ref t])) = G1 at sj ⊢
    generalize xs ++ [V.ref t] = xs at sj
    clear hql si
    refine ⟨(show 4 ≤ sizeLine by decide), fun wl nw => ⟨wl, rfl, ⟨_, SqL.of upd_same⟩, ?_⟩⟩
    have hw : upd G1 wl (.lst [.str "none", .str "now", .str "read", .str "copy"]) wl = some (.lst [.str "none", .str "now", .str "read", .str "copy"]) := upd_same
    have sk := sj.same (Same.new (o := .lst [.str "none", .str "now", .str "read", .str "copy"]) nw)
    have nwl : wl ≠ l := fun z => by
      have := sj.hl
      rw [← z, nw] at this
      cases this
    generalize upd G1 wl (.lst [.str "none", .str "now", .str "read", .str "copy"]) = G2 at hw sk ⊢
    refine for_list (K := K) (a := wl) (xs := [.str "none", .str "now", .str "read", .str "copy"]) (fun j σ G3 => ∃ (xs : List V) (v2 v3 : Option V), σ = [some (.ref l), some (.ref q), v2, v3] ∧ SI H G3 l cl ps xs (2 + 20 * i + 1 + j) ∧ G3 wl = some (.lst [.str "none", .str "now", .str "read", .str "copy"]))
      ⟨_, _, _, rfl, sk, hw⟩ (fun j σ G3 _ g => ?_) (fun j y σ G3 hy g => ?_) (fun σ G3 g => ?_)
    · obtain ⟨_, _, _, _, _, g⟩ := g
      exact SqL.of g
    · obtain ⟨xs, v2, v3, rfl, si, hw⟩ := g
      have ey : ∃ z, y = .str z ∧ z ∈ (["none", "now", "read", "copy"] : List Str) := by
        match j, hy with
        | 0, hy => cases hy; exact ⟨_, rfl, by decide⟩
        | 1, hy => cases hy; exact ⟨_, rfl, by decide⟩
        | 2, hy => cases hy; exact ⟨_, rfl, by decide⟩
        | 3, hy => cases hy; exact ⟨_, rfl, by decide⟩
      have lj : j < 4 := (List.getElem?_eq_some_iff.mp hy).1
      obtain ⟨z, rfl, mz⟩ := ey
      have lx := si.le
      have hql := si.cp i q c hq hc
      refine ⟨_, rfl, .inl ⟨rfl, _, SqL.of si.hl⟩, _, rfl, _, rfl, (show 3 ≤ sizeLine by decide), fun t nt => ⟨l, _, _, rfl, rfl, (Same.new nt) _ _ si.hl, by omega, ?_⟩⟩
      refine ⟨_, _, _, rfl, (si.same (Same.new nt)).app ⟨t, ⟨"put", [z], c⟩, rfl, by
        unfold StAt
        rw [if_neg (show ¬ ("put" : Str) = "insert" by decide)]
        exact ⟨q, upd_same, (Same.new nt) _ _ hql⟩, okPut c mc z mz⟩, ?_⟩
      exact (upd_ne nwl).trans ((Same.new nt) _ _ hw)
    · obtain ⟨xs, v2, v3, rfl, si, _⟩ := g
      refine ⟨(show 3 ≤ sizeLine by decide), fun wl nw => ⟨wl, rfl, ⟨_, SqL.of upd_same⟩, ?_⟩⟩
      have hw : upd G3 wl (.lst [.str "keep", .str "input", .str "read"]) wl = some (.lst [.str "keep", .str "input", .str "read"]) := upd_same
      have sk := si.same (Same.new (o := .lst [.str "keep", .str "input", .str "read"]) nw)
      generalize upd G3 wl (.lst [.str "keep", .str "input", .str "read"]) = G4 at hw sk ⊢
      refine for_list (K := K) (a := wl) (xs := [.str "keep", .str "input", .str "read"]) (fun j σ G3 => ∃ (l : Addr) (xs : List V) (v2 v3 : Option V), σ = [some (.ref l), some (.ref q), v2, v3] ∧ SI H G3 l cl ps xs (2 + 20 * i + 5 + 5 * j) ∧ G3 wl = some (.lst [.str "keep", .str "input", .str "read"]))
        ⟨l, _, _, _, rfl, sk, hw⟩ (fun j σ G3 _ g => ?_) (fun j y σ G5 hy g => ?_) (fun σ G5 g => ?_)
      · obtain ⟨_, _, _, _, _, _, g⟩ := g
        exact SqL.of g
      · obtain ⟨l, xs, v2, v3, rfl, si, hw⟩ := g
        have ey : ∃ z, y = .str z ∧ z ∈ (["keep", "input", "read"] : List Str) := by
          match j, hy with
          | 0, hy => cases hy; exact ⟨_, rfl, by decide⟩
          | 1, hy => cases hy; exact ⟨_, rfl, by decide⟩
          | 2, hy => cases hy; exact ⟨_, rfl, by decide⟩
        have lj : j < 3 := (List.getElem?_eq_some_iff.mp hy).1
        obtain ⟨m, rfl, mm⟩ := ey
        refine ⟨_, rfl, (show 5 ≤ sizeLine by decide), fun w5 n5 => ⟨w5, rfl, ⟨_, SqL.of upd_same⟩, fun D nD => ?_⟩⟩
        have h5 : upd G5 w5 (.lst [.str "keep", .str "none", .str "now", .str "read", .str "copy"]) w5 = some (.lst [.str "keep", .str "none", .str "now", .str "read", .str "copy"]) := upd_same
        have s5 := si.same (Same.new (o := .lst [.str "keep", .str "none", .str "now", .str "read", .str "copy"]) n5)
        have hw5 := (Same.new (o := .lst [.str "keep", .str "none", .str "now", .str "read", .str "copy"]) n5) _ _ hw
        generalize upd G5 w5 (.lst [.str "keep", .str "none", .str "now", .str "read", .str "copy"]) = G6 at h5 s5 hw5 nD ⊢
        refine lc_list (K := K) (xs := [.str "keep", .str "none", .str "now", .str "read", .str "copy"]) (fun n G' => Same G6 G' ∧ ∃ ys : List V, G' D = some (.lst ys) ∧ ys.length = n ∧ ∀ y ∈ ys, Good G' y)
          ⟨Same.new nD, [], upd_same, rfl, fun y hy => absurd hy (by simp)⟩ (fun n G' _ g => SqL.of (g.1 _ _ h5)) (fun n x G' hx g => ?_) (fun G' g => ?_)
        · obtain ⟨s3, ys, hD, ly, gy⟩ := g
          have ex : ∃ z, x = .str z ∧ z ∈ (["keep", "none", "now", "read", "copy"] : List Str) := by
            match n, hx with
            | 0, hx => cases hx; exact ⟨_, rfl, by decide⟩
            | 1, hx => cases hx; exact ⟨_, rfl, by decide⟩
            | 2, hx => cases hx; exact ⟨_, rfl, by decide⟩
            | 3, hx => cases hx; exact ⟨_, rfl, by decide⟩
            | 4, hx => cases hx; exact ⟨_, rfl, by decide⟩
          have ln : n < 5 := (List.getElem?_eq_some_iff.mp hx).1
          obtain ⟨z, rfl, mz⟩ := ex
          have hql := s3 _ _ (s5.cp i q c hq hc)
          refine ⟨rfl, _, rfl, _, rfl, _, rfl, (show 4 ≤ sizeLine by decide), fun t nt => ?_⟩
          have S := Same.new (o := .tup [.str "set", .str m, .str z, .ref q]) nt
          have hD2 := S _ _ hD
          have ht : upd G' t (.tup [.str "set", .str m, .str z, .ref q]) t = some (.tup [.str "set", .str m, .str z, .ref q]) := upd_same
          have gt : Good (upd G' t (.tup [.str "set", .str m, .str z, .ref q])) (.ref t) := ⟨t, ⟨"set", [m, z], c⟩, rfl, by
            unfold StAt
            rw [if_neg (show ¬ ("set" : Str) = "insert" by decide)]
            exact ⟨q, ht, S _ _ hql⟩, okSet c mc m mm z mz⟩
          refine ⟨_, hD2, by omega, same_put (s3.trans S) nD, ys ++ [.ref t], upd_same, by simp [ly], fun y hy => ?_⟩
          have tup : ∀ b u, upd G' t (.tup [.str "set", .str m, .str z, .ref q]) b = some (.tup u) → upd (upd G' t (.tup [.str "set", .str m, .str z, .ref q])) D (.lst (ys ++ [.ref t])) b = some (.tup u) := fun b u e => (upd_ne (fun w => by rw [w, hD2] at e; cases e)).trans e
          rcases List.mem_append.mp hy with hy | hy
          · exact ((gy y hy).tup (fun b u e => S _ _ e)).tup tup
          · rw [List.mem_singleton.mp hy]
            exact gt.tup tup
        · obtain ⟨s3, ys, hD, ly, gy⟩ := g
          have s6 := s5.same s3
          have ly5 : ys.length = 5 := ly
          have lx := s6.le
          refine ⟨l, D, _, _, rfl, rfl, s6.hl, hD, by omega, fun r nr => ⟨r, _, _, _, rfl, (s6.cat gy nr).mono (by omega), (Same.new nr) _ _ (s3 _ _ hw5)⟩⟩
      · obtain ⟨l, xs, v2, v3, rfl, si, _⟩ := g
        exact ⟨l, xs, _, _, _, rfl, si.mono (by show 2 + 20 * i + 5 + 5 * 3 ≤ 2 + 20 * (i + 1); omega)⟩
  · obtain ⟨l, xs, v1, v2, v3, rfl, si⟩ := g
    refine ⟨_, rfl, k G l xs si.sm si.nl si.hl si.pos ?_ si.good⟩
    have := si.le
    rw [List.length_map, len8] at this
    omega
end
end K02

set_option maxRecDepth 100000
set_option maxHeartbeats 4000000
/-! try with several except clauses, each with a name or without. -/
namespace L2
open PySem PySem.Spec PyProof.Rows
/-- a clause: its class, the slot of its name, its suite's reading -/
abbrev Clause : Type := Value × Option Nat × (Addr → Value → Option Addr → TS)
def Ends.drop (D : Ends) (i : Nat) : Ends := { nx := fun σ H => D.nx (σ.set i none) H, rt := D.rt, bk := fun σ H => D.bk (σ.set i none) H, ct := fun σ H => D.ct (σ.set i none) H }
def Clause.go (q : Clause) (a : Addr) (cls : Value) (d : Option Addr) (D : Ends) (σ : St) (H : Hp) : Prop := match q.2.1 with
  | none => q.2.2 a cls d D σ H
  | some i => q.2.2 a cls d (D.drop i) (σ.set i (some (.ref a))) H
/-- what the clauses wish, one behind another -/
def wMix (K : PySem.W.Frag) (Wout : WX) (D : Ends) : List Clause → WX
  | [] => Wout
  | q :: r => fun cls d σ H => ∃ b, PySem.W.exmOne K cls q.1 = some b ∧ (b = true → ∀ a, H a = none → q.go a cls d D σ H) ∧ (b = false → wMix K Wout D r cls d σ H)
inductive MixOk (X : Cx) : List ExceptHandler → List Clause → Prop
  | nil : MixOk X [] []
  | bare {x : Str} {c : Value} {ts : Addr → Value → Option Addr → TS} {st : Stmt} {more : List Stmt} {p1 p2 : Pos} {hs : List ExceptHandler} {l : List Clause} (hc : Names X x c)
      (su : ∀ (a : Addr) (oe : Obj) (cls : Value) (d : Option Addr) (pn : List (Addr × Obj)), Zc cls d oe → (∃ vs, oe.data = .fields vs) → PSs (X.suite a ((a, oe) :: pn)) (st :: more) (ts a cls d)) (r : MixOk X hs l) :
      MixOk X (.ExceptHandler (some (.Name x p1)) none (st :: more) p2 :: hs) ((c, none, ts) :: l)
  | named {x n : Str} {i : Nat} {c : Value} {ts : Addr → Value → Option Addr → TS} {st : Stmt} {more : List Stmt} {p1 p2 : Pos} {hs : List ExceptHandler} {l : List Clause} (hN : X.N.Nodup) (hi : X.N[i]? = some n) (hl : X.env.kindOf n = some .local) (hc : Names X x c)
      (su : ∀ (a : Addr) (oe : Obj) (cls : Value) (d : Option Addr) (pn : List (Addr × Obj)), Zc cls d oe → (∃ vs, oe.data = .fields vs) → PSs (X.suite a ((a, oe) :: pn)) (st :: more) (ts a cls d)) (r : MixOk X hs l) :
      MixOk X (.ExceptHandler (some (.Name x p1)) (some n) (st :: more) p2 :: hs) ((c, some i, ts) :: l)
section
variable {X : Cx} {body : List Stmt} {k0 : ExceptHandler} {ks : List ExceptHandler} {l : List Clause} {pos : Pos} {tb : WX → TS} {Wout : WX}
theorem ps_try_mix (hst : X.stack = X.env :: X.outer) (hfr : X.env.frame = some X.env.locals) (tk : Takes X Wout)
    (hb : ∀ (W : WX) (pn : List (Addr × Obj)) (xe : Value → Shared → Prop), Takes (X.tr pn xe) W → PassesOwn (model X.prog X.w) X.A X.env xe → PSs (X.tr pn xe) body (tb W))
    (hk : MixOk X (k0 :: ks) l) : PS X (.Try body (k0 :: ks) [] [] pos) (fun D σ H => tb (wMix X.K Wout D l) D σ H) := by
  refine ⟨fun pins s σ H D I h => ?_⟩
  have good := I.ok
  have fr : X.A.frames = some (X.env :: X.outer) := by
    rw [good.frames, hst]
  refine wpAny_Try_except ?_
  refine wpAny_mono ((hb (wMix X.K Wout D l) (X.pn ++ pins) (fun e z1 => wpAny (model X.prog X.w) X.A (noteFrame e X.env) (fun _ z2 => wpAny (model X.prog X.w) X.A (setFlight e none)
    (fun _ z3 => wpAny (model X.prog X.w) X.A (handleBy e X.env (k0 :: ks)) (SP X pins D) X.xe z3) X.xe z2) X.xe z1) (fun u s' air => ?_) PassesOwn.looking).run [] s σ H D (I.toTry _) h)
    (fun f z hz => ?_) (fun e z hz => hz)
  · obtain ⟨a, B, sB, qs, ρ, G, cls, d, rfl, J0, inB, ups, sky, nG, eos, bare, wish⟩ := air
    have J : Inv X pins ρ G sB := J0.ofTry good
    have sk : Sky B (X.env :: X.outer) a (Zc cls d) X.env.locals s'.heap := by
      rw [← hst]
      exact sky
    show wpAny (model X.prog X.w) X.A (noteFrame (Value.ref a) X.env) _ _ _
    refine Sky.land Zc.steady fr hfr sk fun g3 fly up3 => ?_
    have J3 : Inv X pins ρ G { s' with heap := g3 } := J.landed inB fly.1 (ups.trans up3) eos bare
    obtain ⟨o3, v3, at3, z3, d3⟩ := fly.there
    have away : a ∉ frs (X.env :: X.outer) := fun hm => by
      obtain ⟨_, o', e', no⟩ := fly.2.2.1.mem hm
      rw [at3] at e'
      cases e'
      exact no _ d3
    have nL : a ≠ X.env.locals := fun z => away (List.mem_filterMap.mpr ⟨X.env, List.mem_cons_self, by
      rw [hfr, z]⟩)
    have nF : a ∉ X.fs := fun hm => by
      obtain ⟨e, he, q⟩ := List.mem_filterMap.mp hm
      exact away (List.mem_filterMap.mpr ⟨e, List.mem_cons_of_mem _ he, q⟩)
    have S3 := J3.suite at3 d3 nG nL nF
    have isC : PySem.W.Looks (model X.prog X.w) g3 (typeOf (.ref a)) cls := fun A Q E s k q => wpAny_typeOf_ref (k _ _ at3) (by
      rw [z3.1]
      exact q)
    have name : ∀ {x : Str} {c : Value} {p1 : Pos} {Q : Value → Shared → Prop} {E : Value → Shared → Prop}, Names X x c → Q c { s' with heap := g3 } → wpAny (model X.prog X.w) (X.A.mark (some (.ref a))) (eval (.Name x p1) X.env) Q E { s' with heap := g3 } := fun {x c p1 Q E} hc q => by
      obtain ⟨w1, w2, w3 | ⟨w3, w4, w5⟩⟩ := hc
      · exact ld_glob (X := X.suite a ((a, o3) :: (X.pn ++ pins))) S3 w1 w3 q w2
      · exact ld_blt (X := X.suite a ((a, o3) :: (X.pn ++ pins))) S3 w1 w3 w4 q w5 w2
    have go : ∀ {hs' : List ExceptHandler} {l' : List Clause}, MixOk X hs' l' → wMix X.K Wout D l' cls d ρ G → wpAny (model X.prog X.w) X.A (handleBy (.ref a) X.env hs') (SP X pins D) X.xe { s' with heap := g3 } := by
      intro hs' l' m
      induction m with
      | nil =>
        intro w
        refine wpAny_handleBy_nil ?_
        obtain ⟨_, _, _, oe, vs, tb', _, _, he, _, hd, h1, _⟩ := id fly
        unfold PySem.passOn
        refine wpAny_bind (wpAny_field he hd h1 ?_)
        rw [if_neg (show ¬ ((Value.ref tb' == Value.none) = true) by simp)]
        have out : wpAny (model X.prog X.w) X.A (setFlight (.ref a) X.env.frame) (fun _ z4 => wpAny (model X.prog X.w) X.A (throw (.ref a) : Sem Flow) (SP X pins D) X.xe z4) X.xe { s' with heap := g3 } := by
          rw [hfr]
          refine HandSPX.setFlight_upZ fly fun h4 held up4 => wpAny_throw (tk _ _ ?_)
          exact ⟨a, B, sB, pins, ρ, G, cls, d, rfl, J, inB, (ups.trans up3).trans up4, .inr (.inr (by
            rw [hst]
            exact held)), nG, eos, bare, w⟩
        first
          | exact wpAny_bind (wpAny_pure (wpAny_bind out))
          | exact wpAny_bind out
      | @bare x c ts st more p1 p2 hs2 l2 hc su r ih =>
        intro w
        obtain ⟨b, e1, yes, no⟩ := w
        refine wpAny_handleBy_cons (codeAny_handlers_test ?_) (by
          intro q
          cases q)
        refine name hc ((PySem.W.exm_one (M := model X.prog X.w) J3.kIn isC e1).here ?_)
        cases b with
        | true =>
          refine codeAny_handlers_suite ?_
          refine HandSPX.lands_againZ fly fun g4 fly4 up4 => ?_
          have J4 : Inv X pins ρ G { s' with heap := g4 } := J.landed inB fly4.1 ((ups.trans up3).trans up4) eos bare
          obtain ⟨o4, v4, at4, z4, d4⟩ := fly4.there
          refine wpAny_mono ((su a o4 cls d (X.pn ++ pins) z4 ⟨_, d4⟩).run [] _ _ G _ (J4.suite at4 d4 nG nL nF) (yes rfl a nG)) (fun f z6 hsp => ?_) (fun _ _ z => False.elim z)
          cases f with
          | ret u =>
            obtain ⟨v6, ρ6, G6, S6, r6, q6⟩ := hsp
            exact ⟨_, _, _, S6.unsuite good, r6, q6⟩
          | _ =>
            obtain ⟨ρ6, G6, S6, q6⟩ := hsp
            exact ⟨_, _, S6.unsuite good, q6⟩
        | false =>
          show wpAny _ X.A (handleBy (.ref a) X.env hs2) _ _ _
          exact ih (no rfl)
      | @named x n i c ts st more p1 p2 hs2 l2 hN hi hl hc su r ih =>
        intro w
        obtain ⟨b, e1, yes, no⟩ := w
        have loc : Loc X.env.scope n := .inl hl
        refine wpAny_handleBy_cons (codeAny_handlers_test ?_) (by
          intro q
          cases q)
        refine name hc ((PySem.W.exm_one (M := model X.prog X.w) J3.kIn isC e1).here ?_)
        cases b with
        | true =>
          refine codeAny_handlers_suite_as ?_
          refine HandSPX.lands_againZ fly fun g4 fly4 up4 => ?_
          have J4 : Inv X pins ρ G { s' with heap := g4 } := J.landed inB fly4.1 ((ups.trans up3).trans up4) eos bare
          obtain ⟨o4, v4, at4, z4, d4⟩ := fly4.there
          refine store_ok (X := X.suite a ((a, o4) :: (X.pn ++ pins))) (v := V.ref a) (J4.suite at4 d4 nG nL nF) hN hi loc rfl (fun z5 S5 => ?_) (.inr hl)
          refine wpAny_mono ((su a o4 cls d (X.pn ++ pins) z4 ⟨_, d4⟩).run [] z5 _ G _ S5 (yes rfl a nG)) (fun f z6 hsp => ?_) (fun _ _ z => False.elim z)
          have goes : ∀ {ρ6 : St} {G6 : Hp} {Q : Shared → Prop}, Inv (X.suite a ((a, o4) :: (X.pn ++ pins))) [] ρ6 G6 z6 → (∀ z7, Inv X pins (ρ6.set i none) G6 z7 → Q z7) →
              wpAny (model X.prog X.w) X.A (do bindName X.env n .none; unbindBehindTheSuite X.env n p2) (fun _ z7 => Q z7) X.xe z6 := fun S6 hq => gone_ok (S6.unsuite good) hN hi hl hq
          cases f with
          | ret u =>
            obtain ⟨v6, ρ6, G6, S6, r6, q6⟩ := hsp
            exact goes S6 fun z7 J7 => ⟨_, _, _, J7, r6, q6⟩
          | _ =>
            obtain ⟨ρ6, G6, S6, q6⟩ := hsp
            exact goes S6 fun z7 J7 => ⟨_, _, J7, q6⟩
        | false =>
          show wpAny _ X.A (handleBy (.ref a) X.env hs2) _ _ _
          exact ih (no rfl)
    exact go hk wish
  · cases f with
    | next =>
      obtain ⟨ρ, G, J0, q⟩ := hz
      exact wpAny_execs_nil ⟨ρ, G, J0.ofTry good, q⟩
    | ret u =>
      obtain ⟨v, ρ, G, J0, r, q⟩ := hz
      exact ⟨v, ρ, G, J0.ofTry good, r, q⟩
    | _ =>
      obtain ⟨ρ, G, J0, q⟩ := hz
      exact ⟨ρ, G, J0.ofTry good, q⟩
end
/-- isinstance(e, c) in a suite, e the exception that it holds, with a dict of its own -/
def rIsD (K : PySem.W.Frag) (a : Addr) (cls : Value) (d : Option Addr) : List V → Hp → VK → Prop := fun xs H Q => ∃ (D dd : Addr) (fs : List (Str × V)) (c : V) (cv : Value) (b : Bool), xs = [.ref a, c] ∧ cls = .ref D ∧ d = some dd ∧ H dd = some (.xd fs) ∧ ExcC K D ∧ (∀ u, RelV c u → u = cv) ∧
  PySem.W.kitOne K (.ref D) cv = some b ∧ Q (.bl b) H
theorem call_isD {X : Cx} {a : Addr} {oe : Obj} {cls : Value} {d : Option Addr} {pn : List (Addr × Obj)} (hz : Zc cls d oe) (hf : ∃ vs, oe.data = .fields vs) : CallR (X.suite a ((a, oe) :: pn)) (.builtin "isinstance") (rIsD X.K a cls d) := by
  intro pins s σ H xs us Q I r h
  obtain ⟨D, dd, fs, c, cv, b, rfl, rfl, rfl, hd, C, hcv, e, q⟩ := h
  obtain ⟨u, v, rfl, ru, rv⟩ := vals2 r
  obtain rfl : u = Value.ref a := ru
  obtain rfl := hcv _ rv
  obtain ⟨at_, _⟩ := I.pin (a, oe) (List.mem_append_left _ List.mem_cons_self)
  obtain ⟨vs, hv⟩ := hf
  obtain ⟨mA, ns, _⟩ := (show ObjOk X.prog X.w H s.heap dd (.xd fs) from I.hok dd _ hd)
  obtain ⟨od, eo, _⟩ := lookIn_ns ns
  have J : PySem.W.InstAt s.heap a oe D (some od) := by
    refine ⟨at_, hz.1, ?_, ?_⟩
    · unfold PySem.W.notCls
      rw [hv]
    · rw [hz.2]
      exact eo
  exact PySem.W.kia_one (PySem.W.vx_kit C) I.kIn ⟨oe, some od, J⟩ e (fun z => nomatch z) fun tk => ⟨.bl b, H, I.kept (t' := tk) fun _ _ z => z, rfl, q⟩
end L2

set_option maxRecDepth 100000
set_option maxHeartbeats 4000000
/-! A def that hands back a word and what its argument returns, or what its except clauses say: called with a lambda. -/
namespace LamX
open PySem PySem.Spec PyProof.Rows L2
theorem takes_len {X : Cx} {W : WX} (tk : Takes X W) : Takes X (fun cls d σ H => σ.length = X.N.length → W cls d σ H) := fun u s' h => by
  obtain ⟨a, B, sI, pins, σ, H, cls, d, e, I, k1, k2, k3, k4, k5, k6, k7⟩ := h
  exact tk u s' ⟨a, B, sI, pins, σ, H, cls, d, e, I, k1, k2, k3, k4, k5, k6, k7 I.len⟩
theorem takes_no {X : Cx} : Takes X (fun _ _ _ _ => False) := fun u s' h => by
  obtain ⟨_, _, _, _, _, _, _, _, _, _, _, _, _, _, _, _, z⟩ := h
  exact z.elim
/-- what is asked of the lambda -/
def TTmix (K : PySem.W.Frag) (n : Nat) (l : List Clause) (told : Str) : (XK → Hp → VK → Prop) → Hp → VK → Prop := fun tl H Q =>
  tl (fun cls d H' => ∀ σ' : L2.St, σ'.length = n → wMix K (fun _ _ _ _ => False) { nx := fun _ H' => Q V.non H', rt := Q } l cls d σ' H') H
    (fun v H1 => ([.str told, v] : List V).length ≤ sizeLine ∧ ∀ p, H1 p = none → Q (.ref p) (upd H1 p (.tup [.str told, v])))
theorem said_gives {X : Cx} {Ng : List Str} {x a q told : Str} {sg : Scope} {g : Addr} {cdg : Value} {j : Nat} {k0 : ExceptHandler} {ks : List ExceptHandler} {l : List Clause} {p1 p2 p3 p4 p5 p6 : Pos} {x1 : Nat}
    (hs : ∀ f : Addr, (L2.start Ng [V.ref f])[0]? = some (some (V.ref f)))
    (hk : ∀ (s : Shared) (H : Hp), MixOk (cxOf C8.CX0 X.prog X.w X.K X.mg X.base Ng x sg g cdg X.A X.stack s H C8.E0).nox (k0 :: ks) l) :
    GivesTo X Ng x sg g cdg [.Try [.Return (some (.Tuple [.Constant (.str told) j p1, .Call (.Name a p2) [] [] p3] x1 p4)) p5] (k0 :: ks) [] [] p6] a q (TTmix X.K Ng.length l told) := by
  intro f c' s H Q tl act hc tt
  refine ⟨_, pss_one (ps_try_mix (Wout := fun _ _ _ _ => False) (l := l) rfl rfl takes_no
    (fun W pn xe tk _ => pss_one (ps_ret (pe_tup (pa_cons pe_str (pa_cons (act (fun cls d σ H => σ.length = Ng.length → W cls d σ H) pn xe (fun cls d H' => ∀ σ' : L2.St, σ'.length = Ng.length → W cls d σ' H') p2 p3 (takes_len tk) (fun cls d σ' H' h e => h σ' e)) pa_nil)))))
    (hk s H)), ?_⟩
  exact ⟨hs f, hc, tt⟩
end LamX

set_option maxRecDepth 100000
set_option maxHeartbeats 4000000
/-! A def that calls its argument for its refusals alone: a word of the except clauses, or the word behind the try. -/
namespace LamX
open PySem PySem.Spec PyProof.Rows L2
/-- what is asked of the lambda -/
def TTsay (K : PySem.W.Frag) (n : Nat) (l : List Clause) (ret : Str) : (XK → Hp → VK → Prop) → Hp → VK → Prop := fun tl H Q =>
  tl (fun cls d H' => ∀ σ' : L2.St, σ'.length = n → wMix K (fun _ _ _ _ => False) { nx := fun _ H' => Q (V.str ret) H', rt := Q } l cls d σ' H') H (fun _ H1 => Q (V.str ret) H1)
theorem say_gives {X : Cx} {Ng : List Str} {x a q ret : Str} {sg : Scope} {g : Addr} {cdg : Value} {j : Nat} {k0 : ExceptHandler} {ks : List ExceptHandler} {l : List Clause} {p1 p2 p3 p4 p5 p6 : Pos}
    (hs : ∀ f : Addr, (L2.start Ng [V.ref f])[0]? = some (some (V.ref f)))
    (hk : ∀ (s : Shared) (H : Hp), MixOk (cxOf C8.CX0 X.prog X.w X.K X.mg X.base Ng x sg g cdg X.A X.stack s H C8.E0).nox (k0 :: ks) l) :
    GivesTo X Ng x sg g cdg [.Try [.Expr (.Call (.Name a p2) [] [] p3) p5] (k0 :: ks) [] [] p6, .Return (some (.Constant (.str ret) j p1)) p4] a q (TTsay X.K Ng.length l ret) := by
  intro f c' s H Q tl act hc tt
  refine ⟨_, pss_cons (ps_try_mix (Wout := fun _ _ _ _ => False) (l := l) rfl rfl takes_no
    (fun W pn xe tk _ => pss_one (ps_expr (act (fun cls d σ H => σ.length = Ng.length → W cls d σ H) pn xe (fun cls d H' => ∀ σ' : L2.St, σ'.length = Ng.length → W cls d σ' H') p2 p3 (takes_len tk) (fun cls d σ' H' h e => h σ' e))))
    (hk s H)) (pss_one (ps_ret pe_str)), ?_⟩
  exact ⟨hs f, hc, tt⟩
end LamX

set_option maxRecDepth 100000
set_option maxHeartbeats 4000000
/-! A lambda with one parameter: its frame, and its call by what a parameter of another def holds. -/
namespace LamX
open PySem PySem.Spec PyProof.Rows L2
/-- captured names, globals and the one parameter q -/
structure Lam1 (q : Str) (sc scope : Scope) : Prop where
  kd : scope.kind = .function
  nc : scope.isCoroutine = false
  ng : scope.isGenerator = false
  cellfree : ∀ y ∈ scope.names, y.2 ≠ .cell
  only : ∀ y, scope.names.lookup y = some .local → y = q
  par : scope.names.lookup q = some .local
  up : ∀ y ∈ scope.names, y.2 = .free → sc.names.lookup y.1 = some .cell ∨ sc.names.lookup y.1 = some .free
def lam1B (q : Str) (sc scope : Scope) : Bool :=
  decide (scope.kind = .function) && (!scope.isCoroutine && (!scope.isGenerator && (decide (scope.names.lookup q = some .local) &&
    (scope.names.all fun y => !decide (y.2 = .cell) && ((!decide (y.2 = .local) || decide (y.1 = q)) && (!decide (y.2 = .free) || (decide (sc.names.lookup y.1 = some .cell) || decide (sc.names.lookup y.1 = some .free))))))))
theorem lam1_by {q : Str} {sc scope : Scope} (h : lam1B q sc scope = true) : Lam1 q sc scope := by
  simp only [lam1B, Bool.and_eq_true, Bool.or_eq_true, Bool.not_eq_true', decide_eq_true_eq, decide_eq_false_iff_not, List.all_eq_true] at h
  obtain ⟨a1, a2, a3, a4, a5⟩ := h
  refine ⟨a1, a2, a3, fun y hy => (a5 y hy).1, fun y e => ?_, a4, fun y hy e => ?_⟩
  · rcases (a5 _ (PySem.mem_of_lookup e)).2.1 with z | z
    · exact absurd rfl z
    · exact z
  · rcases (a5 y hy).2.2 with z | z
    · exact absurd e z
    · exact z
theorem Lam1.cells {q : Str} {X : Cx} {scope : Scope} (L : Lam1 q X.env.scope scope) (ok : X.Ok) (y : Str × NameKind) (hy : y ∈ scope.names) (e : y.2 = .free) : ∃ c, X.env.cells.lookup y.1 = some c :=
  (L.up y hy e).elim (fun k => ok.has _ (.inl k)) (fun k => ok.has _ (.inr k))
section
variable {X : Cx} {pins : List (Addr × Obj)} {σ : L2.St} {H HZ : Hp} {s s1 : Shared}
/-- the frame of the lambda, just entered -/
theorem lam1_start {A : Around} {outer : List Env} {E : XK} {scope : Scope} {f c' : Addr} {h₁ : Heap} {tk : Nat} {q : Str} {i : Nat} {x : V} {u : Value}
    (I : Inv X pins σ H s) (L : Lam1 q X.env.scope scope) (nd : X.N.Nodup) (hi : X.N[i]? = some q) (rx : L2.RelV x u) (e0 : Env0 X.prog X.w X.K X.mg X.base A outer s1 HZ)
    (hd : A.handled = none) (un : Un (frs X.stack) [] H HZ s.heap s1.heap) (hns : h₁.Ns s1.heap.objs.size fun y => ([(q, u)] : List (Str × Value)).reverse.lookup y)
    (kp : ∀ b o, s1.heap.get? b = some o → h₁.get? b = some o) : Inv (lamCx X A outer s1 HZ E scope f c') [] (σ.set i (some x)) HZ { s1 with heap := h₁, toks := tk } := by
  have own : ∀ {y : Str}, scope.names.lookup y = some .free → ∃ c, (cloFrom X.env.cells scope.names []).lookup y = some c := fun {y} hl =>
    mem_lookup (cloFrom_has (cells := X.env.cells) (acc := []) (show (y, NameKind.free) ∈ scope.names from PySem.mem_of_lookup hl))
  have src : ∀ {y : Str} {c : Addr}, (cloFrom X.env.cells scope.names []).lookup y = some c → X.env.cells.lookup y = some c := fun {y c} e => by
    rcases cloFrom_mem (PySem.mem_of_lookup e) with z | ⟨m, z⟩
    · cases z
    · obtain ⟨c1, z1⟩ := L.cells I.ok _ m rfl
      have z2 : X.env.cells.lookup y = some c1 := z1
      rw [z2] at z
      rw [z2, z]
      rfl
  have still : ∀ {c : Addr} {v : Option Value}, H c = none → s.heap.IsCell c v → h₁.IsCell c v := fun {c v} n z => by
    obtain ⟨o, ho, hv⟩ := z
    obtain ⟨sl, z2⟩ := un.any ho n (by simp)
    exact ⟨_, kp _ _ z2, hv⟩
  have nx : ∀ b : Addr, b ∉ (lamCx X A outer s1 HZ E scope f c').ex := fun b z => absurd (show b ∈ ([] : List Addr) from z) (by simp)
  have okL : (lamCx X A outer s1 HZ E scope f c').Ok := by
    refine ⟨e0.mod, L.kd, rfl, rfl, Nat.le_refl _, fun y z c a b => I.ok.inj y z c (src a) (src b), fun y hy => ?_, fun y c z _ => Bool.noConfusion (show false = true from z), fun _ => hd, Around.frames_deeper e0.frames,
      .inr ⟨rfl, rfl⟩, fun b z => absurd z (nx b), e0.bs, e0.bsz, fun b _ _ => nx b, fun b z => absurd z (nx b), e0.funs, e0.frf⟩
    rcases (show scope.names.lookup y = some .cell ∨ scope.names.lookup y = some .free from hy) with z | z
    · exact absurd rfl (L.cellfree _ (PySem.mem_of_lookup z))
    · exact own z
  refine ⟨okL, rfl, e0.bare, Un.kept kp, ⟨_, hns, fun j y v e1 e2 e3 => ?_⟩, fun y c e => ?_, e0.hok.fresh (Nat.le_refl _), fun y c e => ?_, fun p hp => absurd (show p ∈ ([] : List (Addr × Obj)) ++ [] from hp) (by simp),
    e0.hok.kept kp, by rw [List.length_set]; exact I.len⟩
  · rcases (show Vis scope y from e3) with k | k | k
    · have ey : y = q := L.only y k
      subst ey
      have ij : i = j := nodup_ix nd hi e1
      subst ij
      have lt : i < σ.length := by
        rw [I.len]
        exact (List.getElem?_eq_some_iff.mp hi).1
      rw [List.getElem?_set_self lt] at e2
      cases e2
      exact ⟨u, rx, .inl ⟨k, by simp⟩⟩
    · exact absurd rfl (L.cellfree _ (PySem.mem_of_lookup k))
    · have ne : i ≠ j := fun z => by
        subst z
        have e1' : X.N[i]? = some y := e1
        rw [hi] at e1'
        cases e1'
        rw [L.par] at k
        cases k
      rw [List.getElem?_set_ne ne] at e2
      obtain ⟨m, _, look⟩ := I.loc
      have kf := L.up _ (PySem.mem_of_lookup k) rfl
      obtain ⟨w', r, z⟩ := look j y v e1 e2 (kf.elim (fun a => .inr (.inl a)) (fun a => .inr (.inr a)))
      obtain ⟨c2, h2⟩ := own k
      refine ⟨w', r, .inr ⟨.inr k, c2, h2, ?_⟩⟩
      rcases z with ⟨a, _⟩ | ⟨_, c3, b, z⟩
      · have a' : X.env.scope.names.lookup y = some .local := a
        rcases kf with k2 | k2 <;> rw [show X.env.scope.names.lookup y = _ from k2] at a' <;> cases a'
      · have b2 := src h2
        rw [b] at b2
        cases b2
        exact still (I.freeC y _ b) z
  · obtain ⟨w', z⟩ := I.cell y c (src e)
    exact ⟨w', still (I.freeC y c (src e)) z⟩
  · obtain ⟨v, o, ho, _⟩ := I.cell y c (src e)
    exact un.free c o ho (I.freeC y c (src e)) (by simp)
/-- the object of a lambda with defaults dV -/
abbrev lamD (X : Cx) (params : Arguments) (body : Expr) (scope : Scope) (dV doc pm : Value) (c' : Addr) (ctv : Value) : Obj :=
  PySem.W.kdv_obj "<lambda>" (X.env.qual ++ "<lambda>") params (.expr body) scope (cloFrom X.env.cells scope.names []) dV doc pm c' ctv
abbrev lamDF (X : Cx) (params : Arguments) (body : Expr) (scope : Scope) (dV doc pm : Value) (c' : Addr) (ctv : Value) : FuncData :=
  PySem.W.kdv_fn "<lambda>" (X.env.qual ++ "<lambda>") params (.expr body) scope (cloFrom X.env.cells scope.names []) dV doc pm (.ref c') ctv
/-- it is called, in a frame entered from its home at s -/
theorem lam1_code {A : Around} {outer : List Env} {Q : VK} {E : XK} {scope : Scope} {f c' : Addr} {q : Str} {i k : Nat} {x : V} {u dV doc pm ctv : Value} {params : Arguments} {body : Expr} {tb : TE} {args : Args}
    (I : Inv X pins σ H s) (L : Lam1 q X.env.scope scope) (nd : X.N.Nodup) (hi : X.N[i]? = some q) (rx : L2.RelV x u) (e0 : Env0 X.prog X.w X.K X.mg X.base A outer s1 HZ) (hr : Room (k + 1) A)
    (un : Un (frs X.stack) [] H HZ s.heap s1.heap) (of : s1.heap.get? f = some (lamD X params body scope dV doc pm c' ctv)) (hc : HZ c' = some (CodeO c' (X.env.qual ++ "<lambda>"))) (lim : s1.heap.NoLimit)
    (hb : BindsTo s1 (lamDF X params body scope dV doc pm c' ctv) args [(q, u)])
    (hbody : Room k (A.deeper (lamEnv X scope s1.heap.objs.size f c')) → PE (lamCx X A outer s1 HZ E scope f c') body tb) (ht : tb (σ.set i (some x)) HZ Q) :
    codeAny (model X.prog X.w) A (.call (.ref f) args) (CR (L2.CX X.prog X.w) outer X.prog X.w HZ s1 Q E) s1 := by
  obtain ⟨⟨oc, vs, t, hoc, hdc, hvc⟩, _, _⟩ := e0.hok c' _ hc
  refine PySem.W.kla_callFunE hr.depth of rfl L.nc L.ng rfl ⟨c', oc, vs, t, rfl, hoc, hdc, hvc⟩ (hb _ _ _ _ ?_)
  refine wpAny_newFunctionEnv L.cellfree (fun y hy => ?_) (fun h₁ hns hsb => ⟨lim.fresh _ hsb, ?_⟩) L.kd
  · cases List.mem_singleton.mp hy
    exact L.par
  show codeAny _ _ (.expr body (lamEnv X scope s1.heap.objs.size f c')) _ _
  have kp : ∀ b o, s1.heap.get? b = some o → h₁.get? b = some o := fun b o e => hsb.extBut b o (Nat.ne_of_lt (Heap.lt_size e)) (Heap.get?_push_of_some _ e)
  have J := lam1_start (A := A) (outer := outer) (E := E) (f := f) (c' := c') (tk := s1.toks + ([(q, u)] : List (Str × Value)).length) I L nd hi rx e0 hr.hd un hns kp
  refine PySem.W.kla_codeExpr (wpAny_mono ((hbody (hr.deeper _)).run [] _ _ HZ Q J ht) (fun v s' z => ?_) fun e s' z => z)
  obtain ⟨w', H', J', rv, z⟩ := z
  exact ⟨w', H', J'.os, J'.bare, J'.base, J'.hok, rv, z⟩
end
end LamX

set_option maxRecDepth 100000
set_option maxHeartbeats 4000000
namespace K02
open PySem PySem.Spec PyProof.Rows L2 He VH RZ
/-! what the law itself says of a statement's needs -/
theorem cs_all {cs : List Str} (h : wdsOk cs cks = true) : cs ∈ Ls 3 := by
  unfold wdsOk at h
  simp only [Bool.and_eq_true, decide_eq_true_eq] at h
  have e := h.2
  cases h1 : cs.contains "missing" <;> cases h2 : cs.contains "same old" <;> cases h3 : cs.contains "same new" <;>
    (simp only [cks, List.filter_cons, h1, h2, h3, List.filter_nil, if_true, Bool.false_eq_true, if_false] at e; rw [e]; decide)
def allSt : List Stp :=
  (["none", "now"] : List Str).map (fun f => ⟨"insert", [f], []⟩) ++ ((Ls 3).map (fun c => ⟨"delete", [], c⟩) ++ ((Ls 3).flatMap (fun c => (["none", "now", "read", "copy"] : List Str).map fun f => ⟨"put", [f], c⟩) ++
    (Ls 3).flatMap (fun c => (["keep", "input", "read"] : List Str).flatMap fun m => (["keep", "none", "now", "read", "copy"] : List Str).map fun f => ⟨"set", [m, f], c⟩)))
theorem mem_all {s : Stp} (ok : s.ok = true) : s ∈ allSt := by
  have kd := Stp.kinds ok
  obtain ⟨_, _, _, f4, _⟩ := Stp.facts ok
  have hc := cs_all f4
  obtain ⟨sw, mid, cs⟩ := s
  simp only at kd hc
  unfold allSt
  rcases kd with ⟨rfl, rfl, m, rfl, hm⟩ | ⟨rfl, rfl⟩ | ⟨rfl, m, rfl, hm⟩ | ⟨rfl, m, n, rfl, hm, hn⟩
  · exact List.mem_append_left _ (List.mem_map.mpr ⟨m, hm, rfl⟩)
  · exact List.mem_append_right _ (List.mem_append_left _ (List.mem_map.mpr ⟨cs, hc, rfl⟩))
  · exact List.mem_append_right _ (List.mem_append_right _ (List.mem_append_left _ (List.mem_flatMap.mpr ⟨cs, hc, List.mem_map.mpr ⟨m, hm, rfl⟩⟩)))
  · exact List.mem_append_right _ (List.mem_append_right _ (List.mem_append_right _ (List.mem_flatMap.mpr ⟨cs, hc, List.mem_flatMap.mpr ⟨m, hm, List.mem_map.mpr ⟨n, hn, rfl⟩⟩⟩)))
abbrev rdL : List Str := ["read", "copy", "same old", "same new"]
theorem rd_all : ∀ s ∈ allSt, hasW s rdW = (!(s.w == "insert") && (s.w == "put" || (s.mid ++ s.cs).any rdL.contains)) := by decide +kernel
theorem tk_all : ∀ s ∈ allSt, hasW s tkW = (s.w == "insert" || (s.w == "set" && s.mid.head? == some "input")) := by decide +kernel
abbrev sLnr : Stmt := top 31
abbrev sLni : Stmt := top 32
abbrev FnLnr (K : PySem.W.Frag) (fd : FuncData) : Prop := FnP K "_law_needs_read" sLnr (ga K "_law_needs_read") fd
abbrev FnLni (K : PySem.W.Frag) (fd : FuncData) : Prop := FnP K "_law_needs_input" sLni (ga K "_law_needs_input") fd
theorem bLnr {K : PySem.W.Frag} {fd : FuncData} (F : FnLnr K fd) : Binds K fd ["_law_step"] [] := FunD.bindsN F fun _ _ _ _ _ _ us hl => match us, hl with | [_], _ => rfl
theorem bLni {K : PySem.W.Frag} {fd : FuncData} (F : FnLni K fd) : Binds K fd ["_law_step"] [] := FunD.bindsN F fun _ _ _ _ _ _ us hl => match us, hl with | [_], _ => rfl
abbrev nLnr : List Str := ["_law_step", "_law_words", "_law_one_here"]
theorem scLnr : FnScope nLnr ["_law_step"] (defScope sLnr) := ⟨rfl, rfl, rfl, by decide +kernel, rfl, by decide +kernel, by decide +kernel⟩
theorem scLni : FnScope ["_law_step"] ["_law_step"] (defScope sLni) := ⟨rfl, rfl, rfl, by decide +kernel, rfl, by decide +kernel, by decide +kernel⟩
def spLn (ws : List Str) : Sp := fun vs H Q _ => ∃ (p : Addr) (s : Stp), vs = [.ref p] ∧ StAt H p s ∧ s.ok = true ∧ ∀ H', Same H H' → Q (.bl (hasW s ws)) H'
theorem cut1L {x z : V} {ys : List V} : cutV (x :: (ys ++ [z])) (some 1) (some (-1)) = ys := by
  unfold cutV HT.sIx
  simp
  rw [show ((-1 : Int) + ((ys.length : Int) + 1 + 1)).toNat - 1 = ys.length by omega]
  simp
theorem dp1 {K : PySem.W.Frag} {H : Hp} (n : Nat) : DpAll K H (List.replicate n (V.int 1)) (List.replicate n (PyData.int 1)) := by
  induction n with
  | zero => exact .nil
  | succ n ih => exact .cons (.int _) ih
theorem shp1 (n : Nat) : SeqAt.shaped (.list (List.replicate n (PyData.int 1))) = true := by
  have z : ∀ n : Nat, PyData.canLayAll0 (List.replicate n (PyData.int 1)) = true ∧ PyData.depthAll (List.replicate n (PyData.int 1)) = 0 := fun n => by
    induction n with
    | zero => exact ⟨rfl, rfl⟩
    | succ n ih =>
      rw [List.replicate_succ]
      exact ⟨by unfold PyData.canLayAll0; rw [ih.1]; decide, by unfold PyData.depthAll; rw [ih.2]; decide⟩
  unfold SeqAt.shaped PyData.canLay0 PyData.depth
  rw [(z n).1, (z n).2]
  rfl
section
variable {P : Program} {w : World} {K : PySem.W.Frag} {mg : Str → Option Value} {base : Heap} {f : Addr} {fd : FuncData}
theorem ok_lnr (F : FnP K "_law_needs_read" sLnr f fd) (T : Txt K mg w) : FnOk P w K mg base CX0 1 f fd ["_law_step"] (spLn rdW) := by
  refine F.ok scLnr (fun vs H Q E h => ?_) (fun cdv A outer s H vs Q E hr h => ?_)
  · obtain ⟨p, s, rfl, _⟩ := h
    rfl
  refine ⟨_, PSs.nox (pss_cons (ps_if (pt_cmpR op_eq (pe_ix ix_tup (pv 0) pe_int (fun _ _ => rfl)) pe_str (nomark _)) (pss_one (ps_ret pe_bl)) pss_nil)
    (pss_cons (ps_set (i := 1) scLnr.nd rfl (Or.inl rfl) (pe_op op_cat (pe_callTy call_list_of (by rfl) T.g_list boot_list (pa_cons (pe_slice sl_tup (pv 0) (po_some pe_int) (po_some (pe_un un_neg pe_int))) pa_nil))
        (pe_callTy call_list_of (by rfl) T.g_list boot_list (pa_cons (pe_ix ix_tup (pv 0) (pe_un un_neg pe_int) (fun _ _ => rfl)) pa_nil))))
    (pss_one (ps_ret (pe_or (pe_cmpR op_eq (pe_ix ix_tup (pv 0) pe_int (fun _ _ => rfl)) pe_str (nomark _))
      (pe_one (pe_cmpR (op_neD hr.units) (pe_lc (own := [("_law_one_here", 2)]) (g := gName 2) (tt := tTest (tOp (rIn K false) (tVar 2) (tLst (tCons (tC (.str "read")) (tCons (tC (.str "copy")) (tCons (tC (.str "same old")) (tCons (tC (.str "same new")) tNil))))))) (te := tC (.int 1)) rfl scLnr.nd
          (pi_list (pv 1)) (blkOk_by (N := nLnr) (sc := defScope sLnr) (by decide +kernel)) (fun _ _ _ _ _ => pg_name (i := 2) scLnr.nd rfl (Or.inl rfl))
          (fun _ _ _ _ _ => pts_one (pt_cmpR op_in_seq (pv 2) (pe_lst (pa_cons pe_str (pa_cons pe_str (pa_cons pe_str (pa_cons pe_str pa_nil))))) (by rfl))) (fun _ _ _ _ _ => pe_int)) (pe_lst pa_nil) (nomark _)))))))), ?_⟩
  obtain ⟨p, s, rfl, at_, ok, k⟩ := h
  have eq := rd_all s (mem_all ok)
  obtain ⟨f1, f2, f3, f4, f5⟩ := Stp.facts ok
  have lc := wds_le f4
  have lm : s.mid.length ≤ 2 := by rw [f2]; exact plcs_le _
  unfold StAt at at_
  by_cases wi : s.w = "insert"
  · rw [if_pos wi] at at_
    refine ⟨_, rfl, _, _, _, _, rfl, rfl, SqT.of at_, at0, rfl, _, rfl, iteT ?_⟩
    have := k H (Same.refl H)
    rw [eq, wi] at this
    exact this
  rw [if_neg wi] at at_
  obtain ⟨q, h1, h2⟩ := at_
  refine ⟨_, rfl, _, _, _, _, rfl, rfl, SqT.of h1, at0, rfl, _, rfl, ?_⟩
  rw [show decide (V.str s.w = V.str "insert") = false by simp [wi]]
  refine iteF ⟨_, rfl, _, rfl, 1, rfl, _, rfl, _, _, rfl, SqT.of h1, not1, fun t nt => ?_⟩
  rw [cut1L]
  have S1 := Same.new (o := .tup (s.mid.map V.str)) nt
  refine ⟨t, _, rfl, .inr (SqT.of upd_same), fun l1 n1 => ?_⟩
  have S2 := S1.trans (Same.new (o := .lst (s.mid.map V.str)) n1)
  refine ⟨_, rfl, 1, rfl, _, _, _, _, rfl, rfl, SqT.of (S2 _ _ h1), atL (xs := .str s.w :: s.mid.map V.str), q, _, rfl, .inr (SqT.of (S2 _ _ h2)), fun l2 n2 => ?_⟩
  have S3 := S2.trans (Same.new (o := .lst (s.cs.map V.str)) n2)
  have big : 1000 < sizeLine := by decide
  refine ⟨l1, l2, _, _, rfl, rfl, (Same.new n2) _ _ upd_same, upd_same, by rw [List.length_map, List.length_map]; omega, fun l nl => ?_⟩
  have S4 := S3.trans (Same.new (o := .lst (s.mid.map V.str ++ s.cs.map V.str)) nl)
  have hl : upd (upd (upd (upd H t (.tup (s.mid.map V.str))) l1 (.lst (s.mid.map V.str))) l2 (.lst (s.cs.map V.str))) l (.lst (s.mid.map V.str ++ s.cs.map V.str)) l = some (.lst ((s.mid ++ s.cs).map V.str)) := by rw [upd_same, List.map_append]
  generalize upd (upd (upd (upd H t (.tup (s.mid.map V.str))) l1 (.lst (s.mid.map V.str))) l2 (.lst (s.cs.map V.str))) l (.lst (s.mid.map V.str ++ s.cs.map V.str)) = H4 at S4 hl ⊢
  clear S1 S2 S3 n1 n2 nl nt
  refine ⟨_, rfl, _, _, _, _, rfl, rfl, SqT.of (S4 _ _ h1), at0, rfl, _, rfl, ?_⟩
  by_cases wp : s.w = "put"
  · rw [show decide (V.str s.w = V.str "put") = true by simp [wp]]
    refine iteT ?_
    have := k H4 S4
    rw [eq, wp] at this
    exact this
  rw [show decide (V.str s.w = V.str "put") = false by simp [wp]]
  refine iteF ⟨_, rfl, l, rfl, ⟨_, SqL.of hl⟩, fun D nD => ?_⟩
  have lw : (s.mid ++ s.cs).length ≤ 5 := by rw [List.length_append]; omega
  generalize s.mid ++ s.cs = ws at hl lw eq
  refine lc_list (K := K) (xs := ws.map V.str) (fun i G => Same H4 G ∧ ∃ n : Nat, n ≤ i ∧ G D = some (.lst (List.replicate n (.int 1))) ∧ (n = 0 ↔ (ws.take i).any rdL.contains = false)) ⟨Same.new nD, 0, Nat.le_refl _, upd_same, by simp⟩
    (fun i G _ g => SqL.of (g.1 _ _ hl)) (fun i x G hx g => ?_) (fun G g => ?_)
  · obtain ⟨sG, n, ni, hD, hn⟩ := g
    rw [List.getElem?_map] at hx
    obtain ⟨c, hc, rfl⟩ := Option.map_eq_some_iff.mp hx
    have li := (List.getElem?_eq_some_iff.mp hc).1
    refine ⟨rfl, _, rfl, (show 4 ≤ sizeLine by decide), fun ql nq => ?_⟩
    have sq := Same.new (o := .lst [.str "read", .str "copy", .str "same old", .str "same new"]) nq
    refine ⟨ql, _, rfl, .inl (SqL.of upd_same), rfl, (show (rdL.map V.str).all flatV = true from flat_strs), _, rfl, ?_⟩
    rw [show inV (.str c) [.str "read", .str "copy", .str "same old", .str "same new"] = rdL.contains c from inV_strs (ws := rdL)]
    have s5 := sG.trans sq
    have hD5 := sq _ _ hD
    generalize upd G ql (.lst [.str "read", .str "copy", .str "same old", .str "same new"]) = G5 at s5 hD5 ⊢
    have tk : (ws.take (i + 1)).any rdL.contains = ((ws.take i).any rdL.contains || rdL.contains c) := by
      rw [List.take_succ, hc]
      simp
    cases hin : rdL.contains c with
    | true =>
      refine iteT ⟨_, hD5, ?_, same_put s5 nD, n + 1, by omega, ?_, ?_⟩
      · rw [List.length_replicate]
        omega
      · rw [upd_same, List.replicate_succ']
      · rw [tk, hin]
        simp
    | false =>
      refine iteF ⟨s5, n, by omega, hD5, ?_⟩
      rw [tk, hin, Bool.or_false]
      exact hn
  · obtain ⟨sG, n, ni, hD, hn⟩ := g
    rw [List.length_map, List.take_length] at hn
    refine ⟨(show 0 ≤ sizeLine by decide), fun e ne => ?_⟩
    have sE := Same.new (o := .lst []) ne
    refine ⟨_, _, .lst (SqL.of (sE _ _ hD)) (dp1 n), .lst (SqL.of upd_same) .nil, shp1 n, by decide +kernel, ?_⟩
    have := k _ ((S4.trans sG).trans sE)
    rw [eq] at this
    rw [show (s.w == "insert") = false by simp [wi], show (s.w == "put") = false by simp [wp], Bool.false_or, Bool.not_false, Bool.true_and] at this
    have v : (!PyData.eqv (.list (List.replicate n (PyData.int 1))) (.list [])) = ws.any rdL.contains := by
      cases n with
      | zero => rw [hn.mp rfl]; rfl
      | succ n =>
        cases ha : ws.any rdL.contains with
        | false => exact absurd (hn.mpr ha) (by simp)
        | true => rfl
    rw [v]
    exact this
theorem ok_lni (F : FnP K "_law_needs_input" sLni f fd) (T : Txt K mg w) : FnOk P w K mg base CX0 1 f fd ["_law_step"] (spLn tkW) := by
  refine F.ok scLni (fun vs H Q E h => ?_) (fun cdv A outer s H vs Q E hr h => ?_)
  · obtain ⟨p, s, rfl, _⟩ := h
    rfl
  refine ⟨_, PSs.nox (pss_one (ps_ret (pe_or (pe_cmpR op_eq (pe_ix ix_tup (pv 0) pe_int (fun _ _ => rfl)) pe_str (nomark _))
    (pe_one (pe_cmpR (op_eqD hr.units) (pe_slice sl_tupA (pv 0) po_none (po_some pe_int)) (pe_tup (pa_cons pe_str (pa_cons pe_str pa_nil))) (nomark _)))))), ?_⟩
  obtain ⟨p, s, rfl, at_, ok, k⟩ := h
  have eq := tk_all s (mem_all ok)
  have kd := Stp.kinds ok
  obtain ⟨f1, f2, f3, f4, f5⟩ := Stp.facts ok
  unfold StAt at at_
  rcases kd with ⟨wi, _, m, hm, _⟩ | ⟨wd, hm⟩ | ⟨wp, m, hm, mm⟩ | ⟨ws, m, n, hm, mm, nn⟩
  · rw [if_pos wi] at at_
    refine ⟨_, rfl, _, _, _, _, rfl, rfl, SqT.of at_, at0, rfl, _, rfl, iteT ?_⟩
    have := k H (Same.refl H)
    rw [eq, wi] at this
    exact this
  · have wi : s.w ≠ "insert" := by rw [wd]; decide
    rw [if_neg wi, wd, hm] at at_
    obtain ⟨q, h1, h2⟩ := at_
    refine ⟨_, rfl, _, _, _, _, rfl, rfl, SqT.of h1, at0, rfl, _, rfl, iteF ?_⟩
    refine ⟨_, rfl, _, rfl, p, _, rfl, SqT.of h1, fun _ => ?_, fun z => absurd ⟨rfl, rfl⟩ z⟩
    refine ⟨(show 2 ≤ sizeLine by decide), fun t nt => ?_⟩
    have S := Same.new (o := .tup [.str "set", .str "input"]) nt
    refine ⟨_, _, .tup (SqT.of (S _ _ h1)) (.cons (.str _) (.cons (dpT (SqT.of (S _ _ h2))) .nil)), .tup (SqT.of upd_same) (.cons (.str _) (.cons (.str _) .nil)), ?_, by decide +kernel, ?_⟩
    · have : ∀ c ∈ Ls 3, SeqAt.shaped (.tuple [.str "delete", .tuple (c.map PyData.str)]) = true := by decide +kernel
      exact this _ (cs_all f4)
    · have := k _ S
      rw [eq, wd, hm] at this
      exact this
  · have wi : s.w ≠ "insert" := by rw [wp]; decide
    rw [if_neg wi, wp, hm] at at_
    obtain ⟨q, h1, h2⟩ := at_
    refine ⟨_, rfl, _, _, _, _, rfl, rfl, SqT.of h1, at0, rfl, _, rfl, iteF ?_⟩
    refine ⟨_, rfl, _, rfl, p, _, rfl, SqT.of h1, fun z => absurd z.2 (show ¬ (2 : Nat) = 3 by decide), fun _ r nr => ?_⟩
    refine ⟨(show 2 ≤ sizeLine by decide), fun t nt => ?_⟩
    have S := Same.new (o := .tup [.str "set", .str "input"]) nt
    refine ⟨_, _, .tup (SqT.of (S _ _ (show upd H r _ r = some (.tup [.str "put", .str m]) from upd_same))) (.cons (.str _) (.cons (.str _) .nil)), .tup (SqT.of upd_same) (.cons (.str _) (.cons (.str _) .nil)), ?_, by decide +kernel, ?_⟩
    · have : ∀ m ∈ (["none", "now", "read", "copy"] : List Str), SeqAt.shaped (.tuple [.str "put", .str m]) = true := by decide +kernel
      exact this _ mm
    · have := k _ ((Same.new nr).trans S)
      rw [eq, wp, hm] at this
      exact this
  · have wi : s.w ≠ "insert" := by rw [ws]; decide
    rw [if_neg wi, ws, hm] at at_
    obtain ⟨q, h1, h2⟩ := at_
    refine ⟨_, rfl, _, _, _, _, rfl, rfl, SqT.of h1, at0, rfl, _, rfl, iteF ?_⟩
    refine ⟨_, rfl, _, rfl, p, _, rfl, SqT.of h1, fun z => absurd z.2 (show ¬ (2 : Nat) = 4 by decide), fun _ r nr => ?_⟩
    refine ⟨(show 2 ≤ sizeLine by decide), fun t nt => ?_⟩
    have S := Same.new (o := .tup [.str "set", .str "input"]) nt
    refine ⟨_, _, .tup (SqT.of (S _ _ (show upd H r _ r = some (.tup [.str "set", .str m]) from upd_same))) (.cons (.str _) (.cons (.str _) .nil)), .tup (SqT.of upd_same) (.cons (.str _) (.cons (.str _) .nil)), ?_, by decide +kernel, ?_⟩
    · have : ∀ m ∈ (["keep", "input", "read"] : List Str), SeqAt.shaped (.tuple [.str "set", .str m]) = true := by decide +kernel
      exact this _ mm
    · have := k _ ((Same.new nr).trans S)
      rw [eq, ws, hm] at this
      have v : PyData.eqv (.tuple [.str "set", .str m]) (.tuple [.str "set", .str "input"]) = (m == "input") := by
        simp [PyData.eqv, PyData.eqvAll]
      rw [v]
      have e2 : (([m, n] : List Str).head? == some "input") = (m == "input") := by
        show (some m == some "input") = (m == "input")
        simp
      rw [e2] at this
      exact this
end
end K02

set_option maxRecDepth 100000
set_option maxHeartbeats 4000000
/-! A def called by keywords alone: f(k = v, ..). -/
namespace L2
open PySem PySem.Spec PyProof.Rows
section
variable {X : Cx} {CX : CXT} {f : Addr} {k : Nat} {fd : FuncData} {x : Str} {ps ks : List Str} {sp : Sp} {E : XK} {kws : List Keyword} {tk : TA} {p pos : Pos} {g : List Value → List Value → List Value} {gV : List V → List V → List V}
def tCallN0 (m : Nat) (sp : Sp) (gV : List V → List V → List V) (E : XK) (tk : TA) : TE := fun σ H Q => tk σ H fun zs H2 => zs.length = m ∧ sp (gV [] zs) H2 Q E
theorem pe_callN0 (F : FnOk X.prog X.w X.K X.mg X.base CX k f fd ps sp) (hr : Room k X.A) (hg : Gl X x) (hm : X.mg x = some (.ref f)) (hk : PySem.W.keepIn X.K (.ref f) = true) (hb : KBn X.K fd ps 0 ks g gV) (hx : Passes CX X E) (hkw : PK X kws tk)
    (hall : (backToKw pos (keywordEach kws X.env)).all (·.1.isSome) = true := by rfl) (hks : (backToKw pos (keywordEach kws X.env)).filterMap (·.1) = ks := by rfl) (hdb : (x == ("__debug__" : Str)) = false := by decide)
    (hpl : ((backTo pos (starEach [] X.env)).any (·.1) || (backToKw pos (keywordEach kws X.env)).any (·.1.isNone)) = false := by rfl) :
    PE X (.Call (.Name x p) [] kws pos) (tCallN0 ks.length sp gV E tk) := by
  refine ⟨fun pins s σ H Q I h => ?_⟩
  refine wpAny_Call_Name_kw (ld_glob I hg hm ?_ hdb)
  refine PySem.W.callWith_KW0 (h₀ := X.base) I.ok.mod.kin hk hall (thn (hkw.run pos pins s σ H _ I h) fun ws s2 hh => ?_) hpl
  obtain ⟨zs, H2, I2, rz, l2, q2⟩ := hh
  refine ⟨I2.kIn, ?_⟩
  rw [hks]
  exact run_fnN (us := []) (vs := []) F hr hb hx I2 .nil rz rfl l2 q2
end
end L2

namespace L2
open PySem PySem.Spec PyProof.Rows
theorem But.rd {p a : Addr} {H H' : Hp} {u : HO} (e : But p H H') (ne : a ≠ p) (r : Rd H a u) : Rd H' a u := by
  rcases r with r | ⟨o, r⟩
  · exact .inl (e _ _ ne r)
  · exact .inr ⟨o, e _ _ ne r⟩
theorem But.sq {K : PySem.W.Frag} {p a : Addr} {H H' : Hp} {xs : List V} (e : But p H H') (w : ∃ o, H p = some (.lst o)) (ne : ∀ o, H a = some o → a ≠ p) (r : SqL K H a xs) : SqL K H' a xs := by
  rcases r with (r | ⟨o, r⟩) | r
  · exact .inl (.inl (e _ _ (ne _ r) r))
  · exact .inl (.inr ⟨o, e _ _ (ne _ r) r⟩)
  · exact .inr r
theorem Rd.ne {a p : Addr} {H : Hp} {u : HO} (r : Rd H a u) (n : H p = none) : a ≠ p := by
  rcases r with r | ⟨o, r⟩
  · exact ne_of_none r n
  · exact ne_of_none r n
theorem Well.same {H H' : Hp} {a : Addr} (w : Well H a) (e : Same H H') : Well H' a := by
  obtain ⟨c, b, n, h⟩ := w
  exact ⟨c, b, n, e _ _ h⟩
end L2

set_option maxRecDepth 100000
set_option maxHeartbeats 4000000
namespace K02
open PySem PySem.Spec PyProof.Rows L2 He VH RZ
/-! the law's own reckoning -/
abbrev sGer : Stmt := top 33
abbrev sRow : Stmt := top 34
abbrev sSrl : Stmt := top 35
abbrev sBar : Stmt := top 36
abbrev sTur : Stmt := top 38
abbrev FnOne (K : PySem.W.Frag) (fd : FuncData) : Prop := FnP K "_law_one" sOne (ga K "_law_one") fd
abbrev FnDraw (K : PySem.W.Frag) (fd : FuncData) : Prop := FnP K "_law_draw" sDraw (ga K "_law_draw") fd
abbrev FnGer (K : PySem.W.Frag) (fd : FuncData) : Prop := FnP K "_law_integer" sGer (ga K "_law_integer") fd
abbrev FnLro (K : PySem.W.Frag) (fd : FuncData) : Prop := FnP K "_law_row" sRow (ga K "_law_row") fd
abbrev FnSrl (K : PySem.W.Frag) (fd : FuncData) : Prop := FnP K "_law_source" sSrl (ga K "_law_source") fd
abbrev FnBar (K : PySem.W.Frag) (fd : FuncData) : Prop := FnP K "_law_barred" sBar (ga K "_law_barred") fd
abbrev FnTur (K : PySem.W.Frag) (fd : FuncData) : Prop := FnP K "_law_turned" sTur (ga K "_law_turned") fd
theorem bOne {K : PySem.W.Frag} {fd : FuncData} (F : FnOne K fd) : Binds K fd ["_law_well_here", "_law_some"] [] := FunD.bindsN F fun _ _ _ _ _ _ us hl => match us, hl with | [_, _], _ => rfl
theorem bDraw {K : PySem.W.Frag} {fd : FuncData} (F : FnDraw K fd) : Binds K fd ["_law_well_here", "_law_much"] [] := FunD.bindsN F fun _ _ _ _ _ _ us hl => match us, hl with | [_, _], _ => rfl
theorem bGer {K : PySem.W.Frag} {fd : FuncData} (F : FnGer K fd) : Binds K fd ["_law_well_here"] [] := FunD.bindsN F fun _ _ _ _ _ _ us hl => match us, hl with | [_], _ => rfl
theorem bLro {K : PySem.W.Frag} {fd : FuncData} (F : FnLro K fd) : Binds K fd ["_law_well_here"] [] := FunD.bindsN F fun _ _ _ _ _ _ us hl => match us, hl with | [_], _ => rfl
theorem bSrl {K : PySem.W.Frag} {fd : FuncData} (F : FnSrl K fd) : Binds K fd ["_law_word", "_law_line", "_law_old", "_law_view"] [] := FunD.bindsN F fun _ _ _ _ _ _ us hl => match us, hl with | [_, _, _, _], _ => rfl
theorem bBar {K : PySem.W.Frag} {fd : FuncData} (F : FnBar K fd) : Binds K fd ["_law_checks", "_law_line", "_law_view"] [] := FunD.bindsN F fun _ _ _ _ _ _ us hl => match us, hl with | [_, _, _], _ => rfl
theorem bTur {K : PySem.W.Frag} {fd : FuncData} (F : FnTur K fd) : Binds K fd ["_law_line"] [] := FunD.bindsN F fun _ _ _ _ _ _ us hl => match us, hl with | [_], _ => rfl
theorem dummy_ : True := trivial
theorem _root_.L2.Well.new {a t : Addr} {H : Hp} (w : Well H a) (n : H t = none) : t ≠ a := fun z => by
  obtain ⟨_, _, _, w⟩ := w
  rw [z, w] at n
  cases n
theorem But.tup {a b : Addr} {H H' : Hp} {xs : List V} (h : But a H H') (w : Well H a) (e : H b = some (.tup xs)) : H' b = some (.tup xs) := by
  refine h b _ (fun z => ?_) e
  obtain ⟨_, _, _, w⟩ := w
  rw [z, w] at e
  cases e
theorem RowIs.but {a : Addr} {H H' : Hp} {x : V} {r : Rw} (h : RowIs H x r) (w : Well H a) (b : But a H H') : RowIs H' x r := by
  obtain ⟨p, e, h⟩ := h
  exact ⟨p, e, But.tup b w h⟩
theorem RowO.but {a : Addr} {H H' : Hp} {x : V} {r : Option Rw} (h : RowO H x r) (w : Well H a) (b : But a H H') : RowO H' x r := by
  cases r with
  | none => exact h
  | some r => exact RowIs.but h w b
def spGer : Sp := fun vs H Q _ => ∃ a : Addr, vs = [.ref a] ∧ Well H a ∧ ∀ (H' : Hp) (i : Int), Well H' a → But a H H' → Q (.int i) H'
def spLro : Sp := fun vs H Q _ => ∃ a : Addr, vs = [.ref a] ∧ Well H a ∧ ∀ (H' : Hp) (x : V) (r : Rw), Well H' a → But a H H' → RowIs H' x r → Q x H'
def srcW (W : Str) (row : Option Rw) (o : Int) (sn : Rw) : Option Int :=
  if W = "none" then none else if W = "now" then some o else if W = "read" then some sn.1 else if W = "copy" then sn.2 else (row.getD (0, none)).2
def spSrl : Sp := fun vs H Q _ => ∃ (W : Str) (x z : V) (o : Int) (row : Option Rw) (sn : Rw), vs = [.str W, x, .int o, z] ∧ W ∈ (["keep", "none", "now", "read", "copy"] : List Str) ∧ (W = "keep" → ∃ r, row = some r ∧ RowIs H x r) ∧ RowIs H z sn ∧ Q (ov (srcW W row o sn)) H
def spBar : Sp := fun vs H Q _ => ∃ (q : Addr) (cs : List Str) (x z : V) (r sn : Rw), vs = [.ref q, x, z] ∧ H q = some (.tup (cs.map V.str)) ∧ wdsOk cs cks = true ∧ RowIs H x r ∧ RowIs H z sn ∧ Q (.bl (cs.any fun c => failsB c r sn)) H
def turnR (r : Rw) : Rw := (5 - 7 * r.1, r.2.map fun i => 5 - 7 * i)
def spTur : Sp := fun vs H Q _ => ∃ (x : V) (row : Option Rw), vs = [x] ∧ RowO H x row ∧ ∀ (H' : Hp) (y : V), Same H H' → RowO H' y (row.map turnR) → Q y H'
theorem bar_all : ∀ cs ∈ Ls 3, ∀ a b d : Bool, (cs.any fun c => fB c a b d) = ((cs.contains "missing" && a) || (cs.contains "same old" && b) || (cs.contains "same new" && d)) := by decide +kernel
section
variable {P : Program} {w : World} {K : PySem.W.Frag} {mg : Str → Option Value} {base : Heap} {f : Addr} {fd fdD fdO fdG : FuncData}
theorem scGer : FnScope ["_law_well_here"] ["_law_well_here"] (defScope sGer) := ⟨rfl, rfl, rfl, by decide +kernel, rfl, by decide +kernel, by decide +kernel⟩
theorem scLro : FnScope ["_law_well_here", "_law_old"] ["_law_well_here"] (defScope sRow) := ⟨rfl, rfl, rfl, by decide +kernel, rfl, by decide +kernel, by decide +kernel⟩
theorem scSrl : FnScope ["_law_word", "_law_line", "_law_old", "_law_view"] ["_law_word", "_law_line", "_law_old", "_law_view"] (defScope sSrl) := ⟨rfl, rfl, rfl, by decide +kernel, rfl, by decide +kernel, by decide +kernel⟩
theorem scBar : FnScope ["_law_checks", "_law_line", "_law_view"] ["_law_checks", "_law_line", "_law_view"] (defScope sBar) := ⟨rfl, rfl, rfl, by decide +kernel, rfl, by decide +kernel, by decide +kernel⟩
theorem scTur : FnScope ["_law_line"] ["_law_line"] (defScope sTur) := ⟨rfl, rfl, rfl, by decide +kernel, rfl, by decide +kernel, by decide +kernel⟩
theorem ok_ger (F : FnP K "_law_integer" sGer f fd) (T : Txt K mg w) (FD : FnDraw K fdD) (FO : FnOne K fdO) : FnOk P w K mg base CX0 3 f fd ["_law_well_here"] spGer := by
  have GD : FnOk P w K mg base CX0 1 (ga K "_law_draw") fdD ["_law_well_here", "_law_much"] spDraw := ok_draw FD T.g_int
  have GO : FnOk P w K mg base CX0 2 (ga K "_law_one") fdO ["_law_well_here", "_law_some"] (spOne K) := ok_one FO FD T.m_l_draw T.g_int T.g_len
  refine F.ok scGer (fun vs H Q E h => ?_) (fun cdv A outer s H vs Q E hr h => ?_)
  · obtain ⟨a, rfl, _⟩ := h
    rfl
  refine ⟨_, PSs.nox (pss_one (ps_ret (pe_call GO hr (by rfl) T.m_l_one FO.kp (bOne FO) .nil pass0 (pa_cons (pv 0) (pa_cons (pe_lst
    (pa_cons pe_int (pa_cons pe_int (pa_cons pe_int (pa_cons pe_int (pa_cons (pe_un un_neg pe_int) (pa_cons (pe_op op_pow pe_int pe_int) (pa_cons (pe_op op_add (pe_op op_pow pe_int pe_int) pe_int)
    (pa_cons (pe_call GD (hr.mono (by decide)) (by rfl) T.m_l_draw FD.kp (bDraw FD) .nil pass0 (pa_cons (pv 0) (pa_cons (pe_op op_pow pe_int pe_int) pa_nil))) pa_nil))))))))) pa_nil))))), ?_⟩
  obtain ⟨a, rfl, wl, k⟩ := h
  refine ⟨_, rfl, ⟨_, rfl, ⟨10, 40, rfl, rfl, ⟨by decide, by decide, by decide⟩, ?_⟩⟩⟩
  refine ⟨10, 40, rfl, rfl, ⟨by decide, by decide, by decide⟩, _, _, rfl, rfl, ?_⟩
  refine ⟨_, rfl, 10, 9, rfl, rfl, ⟨by decide, by decide, by decide⟩, a, _, rfl, wl, by decide, by decide, fun H1 d1 l1 u1 w1 b1 => ?_⟩
  refine ⟨(show 8 ≤ sizeLine by decide), fun p hp => ?_⟩
  have S := Same.new (o := .lst [.int 0, .int 1, .int 2, .int 3, .int (-1), .int (10 ^ 40), .int (10 ^ 40 + 1), .int d1]) hp
  refine ⟨a, p, _, rfl, w1.same S, w1.new hp, upd_same, (show 0 < 8 by decide), (show 8 < 1073741824 by decide), fun H' x hx w' b' => ?_⟩
  have go : ∀ i : Int, x = .int i → Q x H' := fun i e => by
    rw [e]
    exact k H' i w' (b1.trans ((But.of S).trans b'))
  simp only [List.mem_cons, List.not_mem_nil, or_false] at hx
  rcases hx with e | e | e | e | e | e | e | e <;> exact go _ e
theorem ok_lro (F : FnP K "_law_row" sRow f fd) (T : Txt K mg w) (FD : FnDraw K fdD) (FO : FnOne K fdO) (FG : FnGer K fdG) : FnOk P w K mg base CX0 4 f fd ["_law_well_here"] spLro := by
  have GG : FnOk P w K mg base CX0 3 (ga K "_law_integer") fdG ["_law_well_here"] spGer := ok_ger FG T FD FO
  have GO : FnOk P w K mg base CX0 2 (ga K "_law_one") fdO ["_law_well_here", "_law_some"] (spOne K) := ok_one FO FD T.m_l_draw T.g_int T.g_len
  refine F.ok scLro (fun vs H Q E h => ?_) (fun cdv A outer s H vs Q E hr h => ?_)
  · obtain ⟨a, rfl, _⟩ := h
    rfl
  refine ⟨_, PSs.nox (pss_cons (ps_set (i := 1) scLro.nd rfl (Or.inl rfl) (pe_call GG hr (by rfl) T.m_l_integer FG.kp (bGer FG) .nil pass0 (pa_cons (pv 0) pa_nil)))
    (pss_one (ps_ret (pe_tup (pa_cons (pv 1) (pa_cons (pe_call GO (hr.mono (by decide)) (by rfl) T.m_l_one FO.kp (bOne FO) .nil pass0 (pa_cons (pv 0) (pa_cons (pe_lst (pa_cons pe_non (pa_cons (pv 1) (pa_cons (pe_call GG hr (by rfl) T.m_l_integer FG.kp (bGer FG) .nil pass0 (pa_cons (pv 0) pa_nil)) pa_nil)))) pa_nil))) pa_nil)))))), ?_⟩
  obtain ⟨a, rfl, wl, k⟩ := h
  refine ⟨_, rfl, a, rfl, wl, fun H1 i w1 b1 => ⟨_, rfl, _, rfl, _, rfl, _, rfl, a, rfl, w1, fun H2 j w2 b2 => ?_⟩⟩
  refine ⟨(show 3 ≤ sizeLine by decide), fun p hp => ?_⟩
  have S := Same.new (o := .lst [.non, .int i, .int j]) hp
  refine ⟨a, p, _, rfl, w2.same S, w2.new hp, upd_same, (show 0 < 3 by decide), (show 3 < 1073741824 by decide), fun H3 x hx w3 b3 => ?_⟩
  refine ⟨(show 2 ≤ sizeLine by decide), fun t nt => ?_⟩
  have St := Same.new (o := .tup [.int i, x]) nt
  have ex : ∃ o : Option Int, x = ov o := by
    simp only [List.mem_cons, List.not_mem_nil, or_false] at hx
    rcases hx with e | e | e
    · exact ⟨none, e⟩
    · exact ⟨some i, e⟩
    · exact ⟨some j, e⟩
  obtain ⟨o, rfl⟩ := ex
  exact k _ _ (i, o) (w3.same St) (((b1.trans b2).trans ((But.of S).trans b3)).trans (But.of St)) ⟨t, rfl, upd_same⟩
theorem ok_srl (F : FnP K "_law_source" sSrl f fd) : FnOk P w K mg base CX0 1 f fd ["_law_word", "_law_line", "_law_old", "_law_view"] spSrl := by
  refine F.ok scSrl (fun vs H Q E h => ?_) (fun cdv A outer s H vs Q E hr h => ?_)
  · obtain ⟨_, _, _, _, _, _, rfl, _⟩ := h
    rfl
  refine ⟨_, PSs.nox (pss_cons (ps_if (pt_cmpR op_eq (pv 0) pe_str (nomark _)) (pss_one (ps_ret (pe_ix ix_tup (pv 1) pe_int (fun _ _ => rfl)))) pss_nil)
    (pss_cons (ps_if (pt_cmpR op_eq (pv 0) pe_str (nomark _)) (pss_one (ps_ret pe_non)) pss_nil)
    (pss_one (ps_ret (pe_ifExp (pt_cmpR op_eq (pv 0) pe_str (nomark _)) (pv 2) (pe_ifExp (pt_cmpR op_eq (pv 0) pe_str (nomark _)) (pe_ix ix_tup (pv 3) pe_int (fun _ _ => rfl)) (pe_ix ix_tup (pv 3) pe_int (fun _ _ => rfl)))))))), ?_⟩
  obtain ⟨W, x, z, o, row, sn, rfl, hW, hx, ⟨q, rfl, hz⟩, k⟩ := h
  simp only [List.mem_cons, List.not_mem_nil, or_false] at hW
  rcases hW with rfl | rfl | rfl | rfl | rfl
  · obtain ⟨r, rfl, p, rfl, h1⟩ := hx rfl
    exact ⟨_, rfl, rfl, _, rfl, iteT ⟨_, rfl, _, _, _, _, rfl, rfl, SqT.of h1, at1, k⟩⟩
  · exact ⟨_, rfl, rfl, _, rfl, iteF ⟨_, rfl, rfl, _, rfl, iteT k⟩⟩
  · exact ⟨_, rfl, rfl, _, rfl, iteF ⟨_, rfl, rfl, _, rfl, iteF ⟨_, rfl, rfl, _, rfl, iteT ⟨_, rfl, k⟩⟩⟩⟩
  · exact ⟨_, rfl, rfl, _, rfl, iteF ⟨_, rfl, rfl, _, rfl, iteF ⟨_, rfl, rfl, _, rfl, iteF ⟨_, rfl, rfl, _, rfl, iteT ⟨_, rfl, _, _, _, _, rfl, rfl, SqT.of hz, at0, k⟩⟩⟩⟩⟩
  · exact ⟨_, rfl, rfl, _, rfl, iteF ⟨_, rfl, rfl, _, rfl, iteF ⟨_, rfl, rfl, _, rfl, iteF ⟨_, rfl, rfl, _, rfl, iteF ⟨_, rfl, _, _, _, _, rfl, rfl, SqT.of hz, at1, k⟩⟩⟩⟩⟩
theorem ok_bar (F : FnP K "_law_barred" sBar f fd) : FnOk P w K mg base CX0 1 f fd ["_law_checks", "_law_line", "_law_view"] spBar := by
  refine F.ok scBar (fun vs H Q E h => ?_) (fun cdv A outer s H vs Q E hr h => ?_)
  · obtain ⟨_, _, _, _, _, _, rfl, _⟩ := h
    rfl
  refine ⟨_, PSs.nox (pss_cons (ps_if (PW.pt (pw_and (pt_cmpR op_in_seq pe_str (pv 0) (by rfl)) (pw_and1 (pt_cmpR op_notN (pe_ix ix_tup (pv 1) pe_int (fun _ _ => rfl)) pe_non (nomark _))))) (pss_one (ps_ret pe_bl)) pss_nil)
    (pss_cons (ps_if (PW.pt (pw_and (pt_cmpR op_in_seq pe_str (pv 0) (by rfl)) (pw_and1 (pt_cmpR op_ne (pe_ix ix_tup (pv 1) pe_int (fun _ _ => rfl)) (pe_ix ix_tup (pv 2) pe_int (fun _ _ => rfl)) (nomark _))))) (pss_one (ps_ret pe_bl)) pss_nil)
    (pss_one (ps_ret (pe_and (pe_cmpR op_in_seq pe_str (pv 0) (by rfl)) (pe_one (pe_cmpR op_ne (pe_ix ix_tup (pv 1) pe_int (fun _ _ => rfl)) (pe_ix ix_tup (pv 2) pe_int (fun _ _ => rfl)) (nomark _)))))))), ?_⟩
  obtain ⟨q, cs, x, z, r, sn, rfl, hq, hcs, ⟨p, rfl, h1⟩, ⟨p2, rfl, h2⟩, k⟩ := h
  have e := bar_all cs (cs_all hcs) r.2.isSome (r.1 != sn.1) (r.2 != sn.2)
  rw [show (cs.any fun c => failsB c r sn) = _ from e] at k
  have v1 : (!decide (ov r.2 = V.non)) = r.2.isSome := by cases r.2 <;> simp [ov]
  have v2 : (!decide (V.int r.1 = V.int sn.1)) = (r.1 != sn.1) := by by_cases q : r.1 = sn.1 <;> simp [q]
  have v3 : (!decide (ov r.2 = ov sn.2)) = (r.2 != sn.2) := by rw [ov_dec]; rfl
  have fl : ∀ {a b : Option Int}, scal (ov a) (ov b) = true := fun {a b} => by cases a <;> cases b <;> rfl
  have second : (∀ Qr : Prop, Qr → Qr) → True := fun _ => trivial
  clear second
  refine ⟨_, rfl, q, _, rfl, .inr (SqT.of hq), rfl, flat_strs, _, rfl, ?_⟩
  rw [inV_strs]
  cases c1 : cs.contains "missing"
  all_goals rw [c1] at k
  all_goals first
    | refine iteF (iteF ?_)
    | (refine iteT ⟨_, rfl, _, _, _, _, rfl, rfl, SqT.of h1, at1, rfl, _, rfl, ?_⟩
       rw [v1]
       cases m1 : r.2.isSome
       all_goals rw [m1] at k
       all_goals first
         | refine iteF ?_
         | exact iteT k)
  all_goals
    refine ⟨_, rfl, q, _, rfl, .inr (SqT.of hq), rfl, flat_strs, _, rfl, ?_⟩
    rw [inV_strs]
    cases c2 : cs.contains "same old"
  all_goals rw [c2] at k
  all_goals first
    | refine iteF (iteF ?_)
    | (refine iteT ⟨_, rfl, _, _, _, _, rfl, rfl, SqT.of h1, at0, _, rfl, _, _, _, _, rfl, rfl, SqT.of h2, at0, rfl, _, rfl, ?_⟩
       rw [v2]
       cases m2 : (r.1 != sn.1)
       all_goals rw [m2] at k
       all_goals first
         | refine iteF ?_
         | exact iteT k)
  all_goals
    refine ⟨_, rfl, q, _, rfl, .inr (SqT.of hq), rfl, flat_strs, _, rfl, ?_⟩
    rw [inV_strs]
    cases c3 : cs.contains "same new"
  all_goals rw [c3] at k
  all_goals first
    | exact iteF k
    | (refine iteT ⟨_, rfl, _, _, _, _, rfl, rfl, SqT.of h1, at1, _, rfl, _, _, _, _, rfl, rfl, SqT.of h2, at1, fl, ?_⟩
       rw [v3]
       exact k)
theorem ok_tur (F : FnP K "_law_turned" sTur f fd) : FnOk P w K mg base CX0 1 f fd ["_law_line"] spTur := by
  refine F.ok scTur (fun vs H Q E h => ?_) (fun cdv A outer s H vs Q E hr h => ?_)
  · obtain ⟨_, _, rfl, _⟩ := h
    rfl
  refine ⟨_, PSs.nox (pss_cons (ps_if (pt_cmpR op_isN (pv 0) pe_non (nomark _)) (pss_one (ps_ret pe_non)) pss_nil)
    (pss_one (ps_ret (pe_tup (pa_cons (pe_op op_sub pe_int (pe_op op_mul pe_int (pe_ix ix_tup (pv 0) pe_int (fun _ _ => rfl))))
      (pa_cons (pe_ifExp (pt_cmpR op_isN (pe_ix ix_tup (pv 0) pe_int (fun _ _ => rfl)) pe_non (nomark _)) pe_non (pe_op op_sub pe_int (pe_op op_mul pe_int (pe_ix ix_tup (pv 0) pe_int (fun _ _ => rfl))))) pa_nil)))))), ?_⟩
  obtain ⟨x, row, rfl, hx, k⟩ := h
  cases row with
  | none =>
    obtain rfl : x = V.non := hx
    exact ⟨_, rfl, rfl, _, rfl, iteT (k H _ (Same.refl H) rfl)⟩
  | some r =>
    obtain ⟨p, rfl, h1⟩ := (show RowIs H x r from hx)
    obtain ⟨o, sr⟩ := r
    refine ⟨_, rfl, rfl, _, rfl, iteF ?_⟩
    refine ⟨_, rfl, _, _, _, _, rfl, rfl, SqT.of h1, at0, 7, o, rfl, rfl, .inl ⟨by decide, by decide⟩, 5, _, rfl, rfl, ?_⟩
    refine ⟨_, rfl, _, _, _, _, rfl, rfl, SqT.of h1, at1, rfl, _, rfl, ?_⟩
    cases sr with
    | none =>
      refine iteT ⟨(show 2 ≤ sizeLine by decide), fun t nt => k _ _ (Same.new nt) ⟨t, rfl, upd_same⟩⟩
    | some i =>
      refine iteF ⟨_, rfl, _, _, _, _, rfl, rfl, SqT.of h1, at1, 7, i, rfl, rfl, .inl ⟨by decide, by decide⟩, 5, _, rfl, rfl, (show 2 ≤ sizeLine by decide), fun t nt => k _ _ (Same.new nt) ⟨t, rfl, upd_same⟩⟩
end
end K02

set_option maxRecDepth 100000
set_option maxHeartbeats 4000000
namespace K02
open PySem PySem.Spec PyProof.Rows L2 He VH RZ
abbrev sDue : Stmt := top 37
abbrev FnDue (K : PySem.W.Frag) (fd : FuncData) : Prop := FnP K "_law_due" sDue (ga K "_law_due") fd
theorem bDue {K : PySem.W.Frag} {fd : FuncData} (F : FnDue K fd) : Binds K fd ["_law_step", "_law_line", "_law_hand", "_law_view"] [] := FunD.bindsN F fun _ _ _ _ _ _ us hl => match us, hl with | [_, _, _, _], _ => rfl
abbrev nDue : List Str := ["_law_step", "_law_line", "_law_hand", "_law_view", "_law_word", "_law_old"]
theorem scDue : FnScope nDue ["_law_step", "_law_line", "_law_hand", "_law_view"] (defScope sDue) := ⟨rfl, rfl, rfl, by decide +kernel, rfl, by decide +kernel, by decide +kernel⟩
def spDue : Sp := fun vs H Q _ => ∃ (p : Addr) (s : Stp) (x z : V) (row : Option Rw) (i : Int) (sn : Rw), vs = [.ref p, x, .int i, z] ∧ StAt H p s ∧ s.ok = true ∧ RowO H x row ∧ RowIs H z sn ∧
  ∀ (H' : Hp) (y : V), Same H H' → ResAt H' y (appB s row i sn) → Q y H'
theorem srcB_W {s : Stp} {row : Option Rw} {o : Int} {sn : Rw} : srcB s row o sn = srcW (wordB s) row o sn := rfl
section
variable {P : Program} {w : World} {K : PySem.W.Frag} {mg : Str → Option Value} {base : Heap} {f : Addr} {fd fdS fdB : FuncData}
theorem ok_due (F : FnP K "_law_due" sDue f fd) (T : Txt K mg w) (FS : FnSrl K fdS) (FB : FnBar K fdB) : FnOk P w K mg base CX0 2 f fd ["_law_step", "_law_line", "_law_hand", "_law_view"] spDue := by
  have GS : FnOk P w K mg base CX0 1 (ga K "_law_source") fdS ["_law_word", "_law_line", "_law_old", "_law_view"] spSrl := ok_srl FS
  have GB : FnOk P w K mg base CX0 1 (ga K "_law_barred") fdB ["_law_checks", "_law_line", "_law_view"] spBar := ok_bar FB
  refine F.ok scDue (fun vs H Q E h => ?_) (fun cdv A outer s H vs Q E hr h => ?_)
  · obtain ⟨_, _, _, _, _, _, _, rfl, _⟩ := h
    rfl
  refine ⟨_, PSs.nox (pss_cons (ps_set (i := 4) scDue.nd rfl (Or.inl rfl) (pe_ix ix_tup (pv 0) pe_int (fun _ _ => rfl)))
    (pss_cons (ps_if (pt_cmpR op_eq (pv 4) pe_str (nomark _))
        (pss_cons (ps_if (pt_cmpR op_notN (pv 1) pe_non (nomark _)) (pss_one (ps_ret (pe_tup (pa_cons (pv 1) (pa_cons pe_bl pa_nil))))) pss_nil)
        (pss_one (ps_ret (pe_tup (pa_cons (pe_tup (pa_cons (pv 2) (pa_cons (pe_ix ix_list (pe_lst (pa_cons pe_non (pa_cons (pv 2) pa_nil))) (pe_callTy call_int1 (by rfl) T.g_int boot_int (pa_cons (pe_cmpR op_eq (pe_ix ix_tup (pv 0) pe_int (fun _ _ => rfl)) pe_str (nomark _)) pa_nil)) (fun _ _ => rfl)) pa_nil))) (pa_cons pe_bl pa_nil)))))) pss_nil)
    (pss_cons (ps_if (pt_cmpR op_isN (pv 1) pe_non (nomark _))
        (pss_cons (ps_if (PW.pt (pw_and (pt_cmpR op_eq (pv 4) pe_str (nomark _)) (pw_and1 (pt_cmpR (op_eqD hr.units) (pe_ix ix_tup (pv 0) pe_int (fun _ _ => rfl)) (pe_tup pa_nil) (nomark _)))))
          (pss_one (ps_ret (pe_tup (pa_cons (pe_tup (pa_cons (pe_ix ix_tup (pv 3) pe_int (fun _ _ => rfl)) (pa_cons (pe_call GS hr (by rfl) T.m_l_source FS.kp (bSrl FS) .nil pass0 (pa_cons (pe_ix ix_tup (pv 0) pe_int (fun _ _ => rfl)) (pa_cons pe_non (pa_cons (pe_ix ix_tup (pv 3) pe_int (fun _ _ => rfl)) (pa_cons (pv 3) pa_nil))))) pa_nil))) (pa_cons pe_bl pa_nil))))) pss_nil)
        (pss_one (ps_ret (pe_tup (pa_cons pe_non (pa_cons pe_bl pa_nil)))))) pss_nil)
    (pss_cons (ps_if (pt_val (pe_call GB hr (by rfl) T.m_l_barred FB.kp (bBar FB) .nil pass0 (pa_cons (pe_ix ix_tup (pv 0) (pe_un un_neg pe_int) (fun _ _ => rfl)) (pa_cons (pv 1) (pa_cons (pv 3) pa_nil))))) (pss_one (ps_ret (pe_tup (pa_cons (pv 1) (pa_cons pe_bl pa_nil))))) pss_nil)
    (pss_cons (ps_if (pt_cmpR op_eq (pv 4) pe_str (nomark _)) (pss_one (ps_ret (pe_tup (pa_cons pe_non (pa_cons pe_bl pa_nil))))) pss_nil)
    (pss_cons (ps_if (pt_cmpR op_eq (pv 4) pe_str (nomark _)) (pss_one (ps_ret (pe_tup (pa_cons (pe_tup (pa_cons (pe_ix ix_tup (pv 3) pe_int (fun _ _ => rfl)) (pa_cons (pe_call GS hr (by rfl) T.m_l_source FS.kp (bSrl FS) .nil pass0 (pa_cons (pe_ix ix_tup (pv 0) pe_int (fun _ _ => rfl)) (pa_cons (pv 1) (pa_cons (pe_ix ix_tup (pv 3) pe_int (fun _ _ => rfl)) (pa_cons (pv 3) pa_nil))))) pa_nil))) (pa_cons pe_bl pa_nil))))) pss_nil)
    (pss_cons (ps_set (i := 5) scDue.nd rfl (Or.inl rfl) (pe_ix ix_tup (pv 1) pe_int (fun _ _ => rfl)))
    (pss_cons (ps_if (pt_cmpR op_eq (pe_ix ix_tup (pv 0) pe_int (fun _ _ => rfl)) pe_str (nomark _)) (pss_one (ps_set (i := 5) scDue.nd rfl (Or.inl rfl) (pv 2))) pss_nil)
    (pss_cons (ps_if (pt_cmpR op_eq (pe_ix ix_tup (pv 0) pe_int (fun _ _ => rfl)) pe_str (nomark _)) (pss_one (ps_set (i := 5) scDue.nd rfl (Or.inl rfl) (pe_ix ix_tup (pv 3) pe_int (fun _ _ => rfl)))) pss_nil)
    (pss_one (ps_ret (pe_tup (pa_cons (pe_tup (pa_cons (pv 5) (pa_cons (pe_call GS hr (by rfl) T.m_l_source FS.kp (bSrl FS) .nil pass0 (pa_cons (pe_ix ix_tup (pv 0) pe_int (fun _ _ => rfl)) (pa_cons (pv 1) (pa_cons (pv 5) (pa_cons (pv 3) pa_nil))))) pa_nil))) (pa_cons pe_bl pa_nil)))))))))))))), ?_⟩
  obtain ⟨p, s, x, z, row, i, sn, rfl, at_, ok, hx, hz, k⟩ := h
  obtain ⟨f1, f2, f3, f4, f5⟩ := Stp.facts ok
  have hz0 := hz
  obtain ⟨pz, rfl, hz1⟩ := hz
  unfold StAt at at_
  -- the two ways out
  have out0 : takesB s row sn = false → ∀ t : Addr, H t = none → ∀ x', x' = x → Q (.ref t) (upd H t (.tup [x', .bl false])) := fun ht t nt x' e => by
    refine k _ _ (Same.new nt) ⟨t, x, rfl, ?_, ?_⟩
    · rw [show (appB s row i sn).2 = false by unfold appB; rw [ht]; rfl, e]
      exact upd_same
    · rw [show (appB s row i sn).1 = row by unfold appB; rw [ht]; rfl]
      exact hx.same (Same.new nt)
  have out1 : takesB s row sn = true → s.w ≠ "delete" → ∀ (G : Hp) (o : Int) (u : V), Same H G → o = oldB s row i sn → u = ov (srcB s row o sn) → ([V.int o, u].length ≤ sizeLine ∧ ∀ t1, G t1 = none → ([V.ref t1, V.bl true].length ≤ sizeLine ∧ ∀ t2, (upd G t1 (.tup [.int o, u])) t2 = none → Q (.ref t2) (upd (upd G t1 (.tup [.int o, u])) t2 (.tup [.ref t1, .bl true])))) := fun ht nd G o u S eo eu => by
    subst eu
    refine ⟨(show 2 ≤ sizeLine by decide), fun t1 n1 => ⟨(show 2 ≤ sizeLine by decide), fun t2 n2 => ?_⟩⟩
    refine k _ _ (S.trans ((Same.new n1).trans (Same.new n2))) ⟨t2, .ref t1, rfl, ?_, ?_⟩
    · rw [show (appB s row i sn).2 = true by unfold appB; rw [ht]; rfl]
      exact upd_same
    · rw [show (appB s row i sn).1 = some (o, srcB s row o sn) by unfold appB behB; rw [ht, if_neg nd, ← eo]; rfl]
      exact ⟨t1, rfl, (Same.new n2) _ _ upd_same⟩
  rcases Stp.kinds ok with ⟨wi, ecs, m, em, hm⟩ | ⟨wd, em⟩ | ⟨wp, m, em, hm⟩ | ⟨ws, m, n, em, hm, hn⟩
  · rw [if_pos wi, em] at at_
    refine ⟨_, rfl, _, _, _, _, rfl, rfl, SqT.of at_, at0, _, rfl, rfl, _, rfl, iteT ?_⟩
    rcases row with _ | r
    · obtain rfl : x = V.non := hx
      refine ⟨_, rfl, rfl, _, rfl, iteF ?_⟩
      refine ⟨_, rfl, _, rfl, (show 2 ≤ sizeLine by decide), fun l nl => ?_⟩
      have S := Same.new (o := .lst [.non, .int i]) nl
      have tk : takesB s none sn = true := by show (s.w == "insert" || _) = true; rw [wi]; rfl
      have ew : wordB s = m := by unfold wordB; rw [if_neg (by rw [wi]; decide), em]; rfl
      have eo : i = oldB s none i sn := by unfold oldB; rw [if_pos (.inl wi)]
      refine ⟨_, rfl, _, _, _, _, rfl, rfl, SqT.of (S _ _ at_), at1, rfl, .inr ⟨_, rfl, ?_⟩⟩
      simp only [List.mem_cons, List.not_mem_nil, or_false] at hm
      rcases hm with rfl | rfl
      · refine ⟨_, _, _, _, rfl, rfl, SqL.of upd_same, (show atI [V.non, V.int i] 0 = some V.non from rfl), ?_⟩
        exact out1 tk (by rw [wi]; decide) _ i _ S eo (by rw [srcB_W, ew]; rfl)
      · refine ⟨_, _, _, _, rfl, rfl, SqL.of upd_same, (show atI [V.non, V.int i] 1 = some (V.int i) from rfl), ?_⟩
        exact out1 tk (by rw [wi]; decide) _ i _ S eo (by rw [srcB_W, ew]; rfl)
    · obtain ⟨px, rfl, hx1⟩ := (show RowIs H x r from hx)
      refine ⟨_, rfl, rfl, _, rfl, iteT ⟨_, rfl, (show 2 ≤ sizeLine by decide), fun t nt => out0 ?_ t nt _ rfl⟩⟩
      show (!(s.w == "insert") && _) = false
      rw [wi]
      rfl
  · have ni : s.w ≠ "insert" := by rw [wd]; decide
    rw [if_neg ni, wd, em] at at_
    obtain ⟨q, h1, h2⟩ := at_
    refine ⟨_, rfl, _, _, _, _, rfl, rfl, SqT.of h1, at0, _, rfl, rfl, _, rfl, iteF ?_⟩
    rcases row with _ | r
    · obtain rfl : x = V.non := hx
      refine ⟨_, rfl, rfl, _, rfl, iteT ⟨_, rfl, rfl, _, rfl, iteF (iteF ⟨(show 2 ≤ sizeLine by decide), fun t nt => out0 ?_ t nt _ rfl⟩)⟩⟩
      show (s.w == "insert" || (s.w == "put" && s.cs.isEmpty)) = false
      rw [wd]
      rfl
    · obtain ⟨px, rfl, hx1⟩ := (show RowIs H x r from hx)
      have et : takesB s (some r) sn = !(s.cs.any fun c => failsB c r sn) := by
        show (!(s.w == "insert") && _) = _
        rw [wd]
        rfl
      refine ⟨_, rfl, rfl, _, rfl, iteF ⟨_, rfl, 1, rfl, _, _, _, _, rfl, rfl, SqT.of h1, atL (xs := [V.str "delete"]), _, rfl, _, rfl, q, s.cs, _, _, r, sn, rfl, h2, f4, ⟨px, rfl, hx1⟩, hz0, ?_⟩⟩
      cases hb : s.cs.any fun c => failsB c r sn
      · refine ⟨_, rfl, iteF ⟨_, rfl, rfl, _, rfl, iteT ⟨(show 2 ≤ sizeLine by decide), fun t nt => ?_⟩⟩⟩
        rw [hb] at et
        refine k _ _ (Same.new nt) ⟨t, .non, rfl, ?_, ?_⟩
        · rw [show (appB s (some r) i sn).2 = true by unfold appB; rw [et]; rfl]
          exact upd_same
        · rw [show (appB s (some r) i sn).1 = none by unfold appB behB; rw [et, if_pos wd]; rfl]
          exact rfl
      · rw [hb] at et
        exact ⟨_, rfl, iteT ⟨_, rfl, (show 2 ≤ sizeLine by decide), fun t nt => out0 et t nt _ rfl⟩⟩
  · have ni : s.w ≠ "insert" := by rw [wp]; decide
    have nd : s.w ≠ "delete" := by rw [wp]; decide
    rw [if_neg ni, wp, em] at at_
    obtain ⟨q, h1, h2⟩ := at_
    have ew : wordB s = m := by unfold wordB; rw [if_neg (by rw [wp]; decide), em]; rfl
    have mm : m ∈ (["keep", "none", "now", "read", "copy"] : List Str) := by
      simp only [List.mem_cons, List.not_mem_nil, or_false] at hm ⊢
      exact .inr hm
    have nk : m ≠ "keep" := fun e => by rw [e] at hm; exact absurd hm (by decide)
    have nin : m ≠ "input" := fun e => by rw [e] at hm; exact absurd hm (by decide)
    have eo : ∀ row, sn.1 = oldB s row i sn := fun row => by
      unfold oldB
      rw [if_neg (by rw [em]; simp [ni, nin]), if_pos (.inl wp)]
    refine ⟨_, rfl, _, _, _, _, rfl, rfl, SqT.of h1, at0, _, rfl, rfl, _, rfl, iteF ?_⟩
    rcases row with _ | r
    · obtain rfl : x = V.non := hx
      have et : takesB s none sn = s.cs.isEmpty := by
        show (s.w == "insert" || (s.w == "put" && s.cs.isEmpty)) = _
        rw [wp]
        rfl
      refine ⟨_, rfl, rfl, _, rfl, iteT ⟨_, rfl, rfl, _, rfl, iteT ?_⟩⟩
      refine ⟨_, rfl, _, _, _, _, rfl, rfl, SqT.of h1, at2, (show 0 ≤ sizeLine by decide), fun e ne => ?_⟩
      have S := Same.new (o := .tup []) ne
      refine ⟨_, _, dpT (SqT.of (S _ _ h2)), dpT (ws := []) (SqT.of upd_same), shpT (fun z hz => lay_cks z (wds_mem f4 z hz)), by decide +kernel, ?_⟩
      have ee : PyData.eqv (.tuple (s.cs.map PyData.str)) (.tuple (([] : List Str).map PyData.str)) = s.cs.isEmpty := by cases s.cs <;> rfl
      rw [ee]
      cases hc : s.cs.isEmpty
      · rw [hc] at et
        refine ⟨_, rfl, iteF ⟨(show 2 ≤ sizeLine by decide), fun t nt => ?_⟩⟩
        refine k _ _ (S.trans (Same.new nt)) ⟨t, .non, rfl, ?_, ?_⟩
        · rw [show (appB s none i sn).2 = false by unfold appB; rw [et]; rfl]
          exact upd_same
        · rw [show (appB s none i sn).1 = none by unfold appB; rw [et]; rfl]
          exact rfl
      · rw [hc] at et
        refine ⟨_, rfl, iteT ⟨_, rfl, _, _, _, _, rfl, rfl, SqT.of (S _ _ hz1), at0, _, rfl, _, _, _, _, rfl, rfl, SqT.of (S _ _ h1), at1, _, rfl, _, _, _, _, rfl, rfl, SqT.of (S _ _ hz1), at0, _, rfl, m, .non, _, sn.1, none, sn, rfl, mm, fun e => absurd e nk, ⟨pz, rfl, S _ _ hz1⟩, ?_⟩⟩
        exact out1 et nd _ sn.1 _ S (eo none) (by rw [srcB_W, ew])
    · obtain ⟨px, rfl, hx1⟩ := (show RowIs H x r from hx)
      have et : takesB s (some r) sn = !(s.cs.any fun c => failsB c r sn) := by
        show (!(s.w == "insert") && _) = _
        rw [wp]
        rfl
      refine ⟨_, rfl, rfl, _, rfl, iteF ⟨_, rfl, 1, rfl, _, _, _, _, rfl, rfl, SqT.of h1, atL (xs := [V.str "put", V.str m]), _, rfl, _, rfl, q, s.cs, _, _, r, sn, rfl, h2, f4, ⟨px, rfl, hx1⟩, hz0, ?_⟩⟩
      cases hb : s.cs.any fun c => failsB c r sn
      · rw [hb] at et
        refine ⟨_, rfl, iteF ⟨_, rfl, rfl, _, rfl, iteF ⟨_, rfl, rfl, _, rfl, iteT ?_⟩⟩⟩
        refine ⟨_, rfl, _, _, _, _, rfl, rfl, SqT.of hz1, at0, _, rfl, _, _, _, _, rfl, rfl, SqT.of h1, at1, _, rfl, _, rfl, _, _, _, _, rfl, rfl, SqT.of hz1, at0, _, rfl, m, _, _, sn.1, some r, sn, rfl, mm, fun e => absurd e nk, hz0, ?_⟩
        exact out1 et nd _ sn.1 _ (Same.refl H) (eo _) (by rw [srcB_W, ew])
      · rw [hb] at et
        exact ⟨_, rfl, iteT ⟨_, rfl, (show 2 ≤ sizeLine by decide), fun t nt => out0 et t nt _ rfl⟩⟩
  · have ni : s.w ≠ "insert" := by rw [ws]; decide
    have nd : s.w ≠ "delete" := by rw [ws]; decide
    have np : s.w ≠ "put" := by rw [ws]; decide
    rw [if_neg ni, ws, em] at at_
    obtain ⟨q, h1, h2⟩ := at_
    have ew : wordB s = n := by unfold wordB; rw [if_pos ws, em]; rfl
    refine ⟨_, rfl, _, _, _, _, rfl, rfl, SqT.of h1, at0, _, rfl, rfl, _, rfl, iteF ?_⟩
    rcases row with _ | r
    · obtain rfl : x = V.non := hx
      refine ⟨_, rfl, rfl, _, rfl, iteT ⟨_, rfl, rfl, _, rfl, iteF (iteF ⟨(show 2 ≤ sizeLine by decide), fun t nt => out0 ?_ t nt _ rfl⟩)⟩⟩
      show (s.w == "insert" || (s.w == "put" && s.cs.isEmpty)) = false
      rw [ws]
      rfl
    · obtain ⟨px, rfl, hx1⟩ := (show RowIs H x r from hx)
      have et : takesB s (some r) sn = !(s.cs.any fun c => failsB c r sn) := by
        show (!(s.w == "insert") && _) = _
        rw [ws]
        rfl
      refine ⟨_, rfl, rfl, _, rfl, iteF ⟨_, rfl, 1, rfl, _, _, _, _, rfl, rfl, SqT.of h1, atL (xs := [V.str "set", V.str m, V.str n]), _, rfl, _, rfl, q, s.cs, _, _, r, sn, rfl, h2, f4, ⟨px, rfl, hx1⟩, hz0, ?_⟩⟩
      cases hb : s.cs.any fun c => failsB c r sn
      · rw [hb] at et
        have eo : oldB s (some r) i sn = if m = "input" then i else if m = "read" then sn.1 else r.1 := by
          unfold oldB
          rw [em]
          simp only [List.head?_cons, Option.some.injEq, ni, np, false_or]
          rfl
        refine ⟨_, rfl, iteF ⟨_, rfl, rfl, _, rfl, iteF ⟨_, rfl, rfl, _, rfl, iteF ?_⟩⟩⟩
        refine ⟨_, rfl, _, _, _, _, rfl, rfl, SqT.of hx1, at0, ?_⟩
        refine ⟨_, rfl, _, _, _, _, rfl, rfl, SqT.of h1, at1, rfl, _, rfl, ?_⟩
        simp only [List.mem_cons, List.not_mem_nil, or_false] at hm
        rcases hm with rfl | rfl | rfl
        · refine iteF ⟨_, rfl, _, _, _, _, rfl, rfl, SqT.of h1, at1, rfl, _, rfl, iteF ?_⟩
          refine ⟨_, rfl, _, rfl, _, _, _, _, rfl, rfl, SqT.of h1, at2, _, rfl, _, rfl, _, rfl, n, _, _, r.1, some r, sn, rfl, hn, fun e => ⟨r, rfl, px, rfl, hx1⟩, hz0, ?_⟩
          exact out1 et nd _ r.1 _ (Same.refl H) (by rw [eo]; rfl) (by rw [srcB_W, ew])
        · refine iteT ⟨_, rfl, _, rfl, _, _, _, _, rfl, rfl, SqT.of h1, at1, rfl, _, rfl, iteF ?_⟩
          refine ⟨_, rfl, _, rfl, _, _, _, _, rfl, rfl, SqT.of h1, at2, _, rfl, _, rfl, _, rfl, n, _, _, i, some r, sn, rfl, hn, fun e => ⟨r, rfl, px, rfl, hx1⟩, hz0, ?_⟩
          exact out1 et nd _ i _ (Same.refl H) (by rw [eo]; rfl) (by rw [srcB_W, ew])
        · refine iteF ⟨_, rfl, _, _, _, _, rfl, rfl, SqT.of h1, at1, rfl, _, rfl, iteT ⟨_, rfl, _, _, _, _, rfl, rfl, SqT.of hz1, at0, ?_⟩⟩
          refine ⟨_, rfl, _, rfl, _, _, _, _, rfl, rfl, SqT.of h1, at2, _, rfl, _, rfl, _, rfl, n, _, _, sn.1, some r, sn, rfl, hn, fun e => ⟨r, rfl, px, rfl, hx1⟩, hz0, ?_⟩
          exact out1 et nd _ sn.1 _ (Same.refl H) (by rw [eo]; rfl) (by rw [srcB_W, ew])
      · rw [hb] at et
        exact ⟨_, rfl, iteT ⟨_, rfl, (show 2 ≤ sizeLine by decide), fun t nt => out0 et t nt _ rfl⟩⟩
end
end K02

set_option maxRecDepth 100000
set_option maxHeartbeats 4000000
namespace K02
open PySem PySem.Spec PyProof.Rows L2 He VH RZ
/-! what is asked of applied -/
theorem old_again {s : Stp} {row : Option Rw} {i : Int} {sn : Rw} {b : Option Int} : oldB s (some (oldB s row i sn, b)) i sn = oldB s row i sn := by
  unfold oldB
  split
  · rfl
  · split
    · rfl
    · rfl
theorem src_again {s : Stp} {row : Option Rw} {o : Int} {sn : Rw} {a : Int} : srcB s (some (a, srcB s row o sn)) o sn = srcB s row o sn := by
  unfold srcB
  split
  · rfl
  · split
    · rfl
    · split
      · rfl
      · split
        · rfl
        · rfl
theorem app_again {s : Stp} {row : Option Rw} {i : Int} {sn : Rw} : (appB s (appB s row i sn).1 i sn).1 = (appB s row i sn).1 := by
  cases ht : takesB s row sn with
  | false =>
    have e : appB s row i sn = (row, false) := by unfold appB; rw [ht]; rfl
    rw [e]
    show (appB s row i sn).1 = row
    rw [e]
  | true =>
    have e : (appB s row i sn).1 = behB s row i sn := by unfold appB; rw [ht]; rfl
    rw [e]
    unfold appB
    split
    · show behB s (behB s row i sn) i sn = behB s row i sn
      unfold behB
      split
      · rfl
      · rw [old_again, src_again]
    · rfl
theorem ne_turn {a b : Int} : ((5 - 7 * a : Int) != 5 - 7 * b) = (a != b) := by
  by_cases h : a = b
  · rw [h]
    simp
  · have h2 : ¬ (5 - 7 * a : Int) = 5 - 7 * b := by omega
    rw [show ((5 - 7 * a : Int) != 5 - 7 * b) = true from bne_iff_ne.mpr h2, show (a != b) = true from bne_iff_ne.mpr h]
theorem fails_turn {c : Str} {r s : Rw} : failsB c (turnR r) (turnR s) = failsB c r s := by
  unfold failsB turnR
  have h3 : ((r.2.map fun i => 5 - 7 * i) != (s.2.map fun i => 5 - 7 * i)) = (r.2 != s.2) := by
    cases r.2 with
    | none => cases s.2 <;> rfl
    | some a =>
      cases s.2 with
      | none => rfl
      | some b => exact (ne_turn (a := a) (b := b))
  rw [ne_turn, h3]
  congr 1
  cases r.2 <;> rfl
theorem takes_turn {s : Stp} {row : Option Rw} {sn : Rw} : takesB s (row.map turnR) (turnR sn) = takesB s row sn := by
  cases row with
  | none => rfl
  | some r =>
    show (!(s.w == "insert") && !(s.cs.any fun c => failsB c (turnR r) (turnR sn))) = (!(s.w == "insert") && !(s.cs.any fun c => failsB c r sn))
    rw [show (fun c => failsB c (turnR r) (turnR sn)) = fun c => failsB c r sn from funext fun c => fails_turn]
theorem app_turn {s : Stp} {row : Option Rw} {i : Int} {sn : Rw} (ok : s.ok = true) : appB s (row.map turnR) (5 - 7 * i) (turnR sn) = ((appB s row i sn).1.map turnR, (appB s row i sn).2) := by
  unfold appB
  rw [takes_turn]
  cases ht : takesB s row sn with
  | false => rfl
  | true =>
    show (behB s (row.map turnR) (5 - 7 * i) (turnR sn), true) = ((behB s row i sn).map turnR, true)
    congr 1
    unfold behB
    split
    · rfl
    · have eff := takes_eff ht
      have eo : oldB s (row.map turnR) (5 - 7 * i) (turnR sn) = 5 - 7 * oldB s row i sn := by
        unfold oldB
        split
        · rfl
        · rename_i n1
          split
          · rfl
          · rename_i n2
            rcases eff with ⟨_, e | e⟩ | ⟨nr, _⟩
            · exact absurd (.inl e) n1
            · exact absurd (.inl e) n2
            · cases row with
              | none => exact absurd rfl nr
              | some r => rfl
      have es : srcB s (row.map turnR) (5 - 7 * oldB s row i sn) (turnR sn) = (srcB s row (oldB s row i sn) sn).map fun i => 5 - 7 * i := by
        unfold srcB
        split
        · rfl
        · rename_i m1
          split
          · rfl
          · rename_i m2
            split
            · rfl
            · rename_i m3
              split
              · rfl
              · rename_i m4
                have hk := Stp.kinds ok
                rcases eff with ⟨er, e⟩ | ⟨nr, _⟩
                · exfalso
                  rcases hk with ⟨wi, _, m, em, hm⟩ | ⟨wd, _⟩ | ⟨wp, m, em, hm⟩ | ⟨ws, m, n, em, _, _⟩
                  · have ew : wordB s = m := by unfold wordB; rw [if_neg (by rw [wi]; decide), em]; rfl
                    rw [ew] at m1 m2
                    simp only [List.mem_cons, List.not_mem_nil, or_false] at hm
                    exact hm.elim m1 m2
                  · rcases e with e | e <;> rw [wd] at e <;> exact absurd e (by decide)
                  · have ew : wordB s = m := by unfold wordB; rw [if_neg (by rw [wp]; decide), em]; rfl
                    rw [ew] at m1 m2 m3 m4
                    simp only [List.mem_cons, List.not_mem_nil, or_false] at hm
                    exact hm.elim m1 (fun h => h.elim m2 (fun h => h.elim m3 m4))
                  · rcases e with e | e <;> rw [ws] at e <;> exact absurd e (by decide)
                · cases row with
                  | none => exact absurd rfl nr
                  | some r => rfl
      rw [eo, es]
      rfl
/-- the data of a row, of a result -/
def rowD : Option Rw → PyData
  | none => .none
  | some (a, none) => .tuple [.int a, .none]
  | some (a, some b) => .tuple [.int a, .int b]
def resD (o : Option Rw × Bool) : PyData := .tuple [rowD o.1, .bool o.2]
theorem RowO.dp {K : PySem.W.Frag} {H : Hp} {x : V} {row : Option Rw} (h : RowO H x row) : Dp K H x (rowD row) := by
  cases row with
  | none =>
    obtain rfl : x = V.non := h
    exact .non
  | some r =>
    obtain ⟨p, rfl, h1⟩ := (show RowIs H x r from h)
    obtain ⟨a, b⟩ := r
    cases b with
    | none => exact .tup (SqT.of h1) (.cons (.int _) (.cons .non .nil))
    | some b => exact .tup (SqT.of h1) (.cons (.int _) (.cons (.int _) .nil))
theorem ResAt.dp {K : PySem.W.Frag} {H : Hp} {y : V} {o : Option Rw × Bool} (h : ResAt H y o) : Dp K H y (resD o) := by
  obtain ⟨p, u, rfl, h, r⟩ := h
  exact .tup (SqT.of h) (.cons r.dp (.cons (.bl _) .nil))
theorem shpRow (row : Option Rw) : SeqAt.shaped (rowD row) = true := by
  rcases row with _ | ⟨a, _ | b⟩ <;> rfl
theorem shpRes (o : Option Rw × Bool) : SeqAt.shaped (resD o) = true := by
  obtain ⟨row, b⟩ := o
  rcases row with _ | ⟨a, _ | c⟩ <;> rfl
theorem eqvRow (row : Option Rw) : PyData.eqv (rowD row) (rowD row) = true := SeqAt.eqv_refl _ (SeqAt.canLay_of_shaped (shpRow row))
theorem eqvRes (o : Option Rw × Bool) : PyData.eqv (resD o) (resD o) = true := SeqAt.eqv_refl _ (SeqAt.canLay_of_shaped (shpRes o))
abbrev sRig : Stmt := top 39
abbrev nRig : List Str := ["_law_well_here", "_law_steps", "_law_step", "_law_line", "_law_hand", "_law_view", "_law_due_here", "_law_odd"]
theorem scRig : FnScope nRig ["_law_well_here", "_law_steps"] (defScope sRig) := ⟨rfl, rfl, rfl, by decide +kernel, rfl, by decide +kernel, by decide +kernel⟩
abbrev FnRig (K : PySem.W.Frag) (fd : FuncData) : Prop := FnP K "_law_right" sRig (ga K "_law_right") fd
def spRig : Sp := fun vs H Q _ => ∃ (a l : Addr) (xs : List V), vs = [.ref a, .ref l] ∧ Well H a ∧ l ≠ a ∧ H l = some (.lst xs) ∧ 0 < xs.length ∧ xs.length ≤ 200 ∧ (∀ x ∈ xs, Good H x) ∧ ∀ H' : Hp, Well H' a → But a H H' → Q (.bl true) H'
theorem bAppV {K : PySem.W.Frag} {fd : FuncData} (F : FnApp K fd) : ∃ ds, Vals [] ds ∧ Binds K fd ["statement", "row", "value", "seen"] ds :=
  FunD.binds1 F 4 2 (by simp) (by decide) fun _ _ _ _ _ _ _ us its h1 h2 => match us, its, h1, h2 with | [_, _, _, _], [_, _], _, _ => ⟨_, rfl, rfl⟩
theorem bApp {K : PySem.W.Frag} {fd : FuncData} (F : FnApp K fd) : Binds K fd ["statement", "row", "value", "seen"] [] := by
  obtain ⟨ds, v, b⟩ := bAppV F
  cases v
  exact b
theorem bApp3 {K : PySem.W.Frag} {fd : FuncData} (F : FnApp K fd) : ∃ ds, Vals [.non] ds ∧ Binds K fd ["statement", "row", "value", "seen"] ds :=
  FunD.binds1 F 3 1 (by simp) (by decide) fun _ _ _ _ _ _ _ us its h1 h2 => match us, its, h1, h2 with | [_, _, _], [_, _], _, _ => ⟨_, rfl, rfl⟩
theorem rev_vals {vs : List V} {us : List Value} (b : Vals vs us) : Vals vs.reverse us.reverse := by
  induction b with
  | nil => exact .nil
  | cons h _ ih =>
    rw [List.reverse_cons, List.reverse_cons]
    exact ih.append (.cons h .nil)
/-- applied(seen=.., value=.., row=.., statement=..) -/
theorem kApp {K : PySem.W.Frag} {fd : FuncData} (F : FnApp K fd) : ∃ its : List Value, KBn K fd ["statement", "row", "value", "seen"] 0 ["seen", "value", "row", "statement"] (fun us ws => us ++ ws.reverse) (fun vs zs => vs ++ zs.reverse) :=
  FunD.kbindsD F 0 ["seen", "value", "row", "statement"] (fun us _ ws => us ++ ws.reverse) (by simp) (fun a _ b => a.append (rev_vals b))
    fun _ _ _ _ _ _ _ us its ws l1 l2 l3 => match us, its, ws, l1, l2, l3 with | [], [_, _], [_, _, _, _], _, _, _ => ⟨_, rfl, rfl⟩
/-- applied(e, e, seen=..) -/
theorem kApp2 {K : PySem.W.Frag} {fd : FuncData} (F : FnApp K fd) : ∃ its : List Value, KBn K fd ["statement", "row", "value", "seen"] 2 ["seen"] (fun us ws => us ++ (its.take 1 ++ ws)) (fun vs zs => vs ++ (([.non, .non] : List V).take 1 ++ zs)) :=
  FunD.kbindsD F 2 ["seen"] (fun us its ws => us ++ (its.take 1 ++ ws)) (by simp) (fun a d b => a.append ((d.take 1).append b))
    fun _ _ _ _ _ _ _ us its ws l1 l2 l3 => match us, its, ws, l1, l2, l3 with | [_, _], [_, _], [_], _, _, _ => ⟨_, rfl, rfl⟩
/-- the law's own defs -/
structure LDefs (K : PySem.W.Frag) : Prop where
  D : Defs K
  A : ∃ fd, FnApp K fd
  O : ∃ fd, FnOne K fd
  Dr : ∃ fd, FnDraw K fd
  Ge : ∃ fd, FnGer K fd
  Ro : ∃ fd, FnLro K fd
  Sr : ∃ fd, FnSrl K fd
  Ba : ∃ fd, FnBar K fd
  Du : ∃ fd, FnDue K fd
  Tu : ∃ fd, FnTur K fd
  Nr : ∃ fd, FnLnr K fd
  Ni : ∃ fd, FnLni K fd
  Ri : ∃ fd, FnRig K fd
  St : ∃ fd, FnStm K fd
  Ca : ∃ fd, FnCal K fd
end K02

set_option maxRecDepth 100000
set_option maxHeartbeats 4000000
namespace K02
open PySem PySem.Spec PyProof.Rows L2 He VH RZ
section
variable {P : Program} {w : World} {K : PySem.W.Frag} {mg : Str → Option Value} {base : Heap} {f : Addr} {fd : FuncData}
theorem ok_rig (F : FnP K "_law_right" sRig f fd) (T : Txt K mg w) (D : LDefs K) : FnOk P w K mg base CX0 7 f fd ["_law_well_here", "_law_steps"] spRig := by
  obtain ⟨D0, ⟨dA, FA⟩, ⟨dO, FO⟩, ⟨dD, FD⟩, ⟨dG, FG⟩, ⟨dR, FR⟩, ⟨dS, FS⟩, ⟨dB, FB⟩, ⟨dU, FU⟩, ⟨dT, FT⟩, ⟨dN, FN⟩, ⟨dI, FI⟩, _, _, _⟩ := D
  have GA : FnOk P w K mg base (L2.CX P w) 6 (ga K "applied") dA ["statement", "row", "value", "seen"] spApp := ok_app FA T D0
  have GO : FnOk P w K mg base CX0 2 (ga K "_law_one") dO ["_law_well_here", "_law_some"] (spOne K) := ok_one FO FD T.m_l_draw T.g_int T.g_len
  have GG : FnOk P w K mg base CX0 3 (ga K "_law_integer") dG ["_law_well_here"] spGer := ok_ger FG T FD FO
  have GR : FnOk P w K mg base CX0 4 (ga K "_law_row") dR ["_law_well_here"] spLro := ok_lro FR T FD FO FG
  have GU : FnOk P w K mg base CX0 2 (ga K "_law_due") dU ["_law_step", "_law_line", "_law_hand", "_law_view"] spDue := ok_due FU T FS FB
  have GT : FnOk P w K mg base CX0 1 (ga K "_law_turned") dT ["_law_line"] spTur := ok_tur FT
  have GN : FnOk P w K mg base CX0 1 (ga K "_law_needs_read") dN ["_law_step"] (spLn rdW) := ok_lnr FN T
  have GI : FnOk P w K mg base CX0 1 (ga K "_law_needs_input") dI ["_law_step"] (spLn tkW) := ok_lni FI T
  obtain ⟨its, kA⟩ := kApp FA
  refine F.ok scRig (fun vs H Q E h => ?_) (fun cdv A outer s H vs Q E hr h => ?_)
  · obtain ⟨_, _, _, rfl, _⟩ := h
    rfl
  refine ⟨_, PSs.nox (pss_cons (ps_set (i := 2) scRig.nd rfl (Or.inl rfl) (pe_call GO (hr.mono (by decide)) (by rfl) T.m_l_one FO.kp (bOne FO) .nil pass0 (pa_cons (pv 0) (pa_cons (pv 1) pa_nil))))
    (pss_cons (ps_set (i := 3) scRig.nd rfl (Or.inl rfl) (pe_call GO (hr.mono (by decide)) (by rfl) T.m_l_one FO.kp (bOne FO) .nil pass0 (pa_cons (pv 0) (pa_cons (pe_lst (pa_cons pe_non (pa_cons (pe_call GR (hr.mono (by decide)) (by rfl) T.m_l_row FR.kp (bLro FR) .nil pass0 (pa_cons (pv 0) pa_nil)) (pa_cons (pe_call GR (hr.mono (by decide)) (by rfl) T.m_l_row FR.kp (bLro FR) .nil pass0 (pa_cons (pv 0) pa_nil)) pa_nil)))) pa_nil))))
    (pss_cons (ps_par (i := 4) (j := 5) rfl scRig.nd rfl rfl (by decide) rfl rfl (pa_cons (pe_call GG (hr.mono (by decide)) (by rfl) T.m_l_integer FG.kp (bGer FG) .nil pass0 (pa_cons (pv 0) pa_nil)) (pa_cons (pe_call GO (hr.mono (by decide)) (by rfl) T.m_l_one FO.kp (bOne FO) .nil pass0 (pa_cons (pv 0) (pa_cons (pe_lst (pa_cons (pe_call GR (hr.mono (by decide)) (by rfl) T.m_l_row FR.kp (bLro FR) .nil pass0 (pa_cons (pv 0) pa_nil)) (pa_cons (pv 3) pa_nil))) pa_nil))) pa_nil)) (by rfl))
    (pss_cons (ps_if (pt_cmpR op_isN (pv 5) pe_non (nomark _)) (pss_one (ps_set (i := 5) scRig.nd rfl (Or.inl rfl) (pe_call GR (hr.mono (by decide)) (by rfl) T.m_l_row FR.kp (bLro FR) .nil pass0 (pa_cons (pv 0) pa_nil)))) pss_nil)
    (pss_cons (ps_set (i := 6) scRig.nd rfl (Or.inl rfl) (pe_call GU (hr.mono (by decide)) (by rfl) T.m_l_due FU.kp (bDue FU) .nil pass0 (pa_cons (pv 2) (pa_cons (pv 3) (pa_cons (pv 4) (pa_cons (pv 5) pa_nil))))))
    (pss_cons (ps_if (PW.pt (pw_or (pt_cmpR (op_neD hr.units) (pe_call GA hr (by rfl) T.m_applied FA.kp (bApp FA) .nil passN (pa_cons (pv 2) (pa_cons (pv 3) (pa_cons (pv 4) (pa_cons (pv 5) pa_nil))))) (pv 6) (nomark _))
        (pw_or1 (pt_cmpR (op_neD hr.units) (pe_callN0 GA hr (by rfl) T.m_applied FA.kp kA passN (pk_cons (pv 5) (pk_cons (pv 4) (pk_cons (pv 3) (pk_cons (pv 2) pk_nil))))) (pv 6) (nomark _))))) (pss_one (ps_ret pe_bl)) pss_nil)
    (pss_cons (ps_if (pt_cmpR (op_neD hr.units) (pe_ix ix_tup (pe_call GA hr (by rfl) T.m_applied FA.kp (bApp FA) .nil passN (pa_cons (pv 2) (pa_cons (pe_ix ix_tup (pv 6) pe_int (fun _ _ => rfl)) (pa_cons (pv 4) (pa_cons (pv 5) pa_nil))))) pe_int (fun _ _ => rfl)) (pe_ix ix_tup (pv 6) pe_int (fun _ _ => rfl)) (nomark _)) (pss_one (ps_ret pe_bl)) pss_nil)
    (pss_cons (ps_if (pt_cmpR (op_neD hr.units) (pe_call GA hr (by rfl) T.m_applied FA.kp (bApp FA) .nil passN (pa_cons (pv 2) (pa_cons (pe_call GT (hr.mono (by decide)) (by rfl) T.m_l_turned FT.kp (bTur FT) .nil pass0 (pa_cons (pv 3) pa_nil)) (pa_cons (pe_op op_sub pe_int (pe_op op_mul pe_int (pv 4))) (pa_cons (pe_call GT (hr.mono (by decide)) (by rfl) T.m_l_turned FT.kp (bTur FT) .nil pass0 (pa_cons (pv 5) pa_nil)) pa_nil)))))
        (pe_tup (pa_cons (pe_call GT (hr.mono (by decide)) (by rfl) T.m_l_turned FT.kp (bTur FT) .nil pass0 (pa_cons (pe_ix ix_tup (pv 6) pe_int (fun _ _ => rfl)) pa_nil)) (pa_cons (pe_ix ix_tup (pv 6) pe_int (fun _ _ => rfl)) pa_nil))) (nomark _)) (pss_one (ps_ret pe_bl)) pss_nil)
    (pss_cons (ps_set (i := 7) scRig.nd rfl (Or.inl rfl) (pe_call GO (hr.mono (by decide)) (by rfl) T.m_l_one FO.kp (bOne FO) .nil pass0 (pa_cons (pv 0) (pa_cons (pe_lst (pa_cons pe_non (pa_cons pe_str (pa_cons pe_bl (pa_cons (pe_tup pa_nil) (pa_cons (pe_lst (pa_cons pe_int pa_nil)) (pa_cons pe_dnewK pa_nil))))))) pa_nil))))
    (pss_cons (ps_if (PW.pt (pw_and (pt_not (pt_val (pe_call GN (hr.mono (by decide)) (by rfl) T.m_l_needs_read FN.kp (bLnr FN) .nil pass0 (pa_cons (pv 2) pa_nil)))) (pw_and1 (pt_cmpR (op_neD hr.units) (pe_call GA hr (by rfl) T.m_applied FA.kp (bApp FA) .nil passN (pa_cons (pv 2) (pa_cons (pv 3) (pa_cons (pv 4) (pa_cons (pv 7) pa_nil))))) (pv 6) (nomark _))))) (pss_one (ps_ret pe_bl)) pss_nil)
    (pss_one (ps_ret (pe_or (pe_call GI (hr.mono (by decide)) (by rfl) T.m_l_needs_input FI.kp (bLni FI) .nil pass0 (pa_cons (pv 2) pa_nil)) (pe_one (pe_cmpR (op_eqD hr.units) (pe_call GA hr (by rfl) T.m_applied FA.kp (bApp FA) .nil passN (pa_cons (pv 2) (pa_cons (pv 3) (pa_cons (pv 7) (pa_cons (pv 5) pa_nil))))) (pv 6) (nomark _)))))))))))))))), ?_⟩
  obtain ⟨a, l, xs, rfl, w0, la, hl, pos, le, good, k⟩ := h
  refine ⟨_, rfl, _, rfl, a, l, xs, rfl, w0, la, hl, pos, Nat.lt_of_le_of_lt le (by decide), fun H1 x hx w1 b1 => ?_⟩
  obtain ⟨p, st, rfl, at0', ok⟩ := good x hx
  have at1' : StAt H1 p st := at0'.same fun q u e => But.tup b1 w0 e
  -- the line
  refine ⟨_, rfl, _, rfl, a, rfl, w1, fun H2 x1 r1 w2 b2 rx1 => ⟨_, rfl, a, rfl, w2, fun H3 x2 r2 w3 b3 rx2 => ⟨(show 3 ≤ sizeLine by decide), fun ll nll => ?_⟩⟩⟩
  have S3 := Same.new (o := .lst [.non, x1, x2]) nll
  refine ⟨a, ll, _, rfl, w3.same S3, w3.new nll, upd_same, (show 0 < 3 by decide), (show 3 < 1073741824 by decide), fun H4 line hline w4 b4 => ?_⟩
  have rl : ∃ row, RowO H4 line row := by
    have B : But a H3 H4 := (But.of S3).trans b4
    simp only [List.mem_cons, List.not_mem_nil, or_false] at hline
    rcases hline with rfl | rfl | rfl
    · exact ⟨none, rfl⟩
    · exact ⟨some r1, RowIs.but (RowIs.but rx1 w2 b3) w3 B⟩
    · exact ⟨some r2, RowIs.but rx2 w3 B⟩
  obtain ⟨row, rl⟩ := rl
  have B04 : But a H1 H4 := (b2.trans b3).trans ((But.of S3).trans b4)
  have at4 : StAt H4 p st := at1'.same fun q u e => But.tup B04 w1 e
  -- hand and view
  refine ⟨_, rfl, a, rfl, w4, fun H5 hand w5 b5 => ?_⟩
  refine ⟨_, rfl, _, rfl, a, rfl, w5, fun H6 x3 r3 w6 b6 rx3 => ⟨_, rfl, (show 2 ≤ sizeLine by decide), fun lv nlv => ?_⟩⟩
  have S6 := Same.new (o := .lst [x3, line]) nlv
  refine ⟨a, lv, _, rfl, w6.same S6, w6.new nlv, upd_same, (show 0 < 2 by decide), (show 2 < 1073741824 by decide), fun H7 view hview w7 b7 => ⟨_, _, rfl, ?_⟩⟩
  have B47 : But a H4 H7 := (b5.trans b6).trans ((But.of S6).trans b7)
  have at7 : StAt H7 p st := at4.same fun q u e => But.tup B47 w4 e
  have rl7 : RowO H7 line row := RowO.but rl w4 B47
  have rv : ∃ sn, RowO H7 view sn := by
    simp only [List.mem_cons, List.not_mem_nil, or_false] at hview
    rcases hview with rfl | rfl
    · exact ⟨some r3, RowIs.but rx3 w6 ((But.of S6).trans b7)⟩
    · exact ⟨row, rl7⟩
  obtain ⟨sno, rv⟩ := rv
  refine ⟨_, rfl, rfl, _, rfl, ?_⟩
  -- behind the view: all the rest, for a view that is a row
  have B07 : But a H H7 := b1.trans (B04.trans B47)
  have view_ok : sno = none ∨ ∃ sn, sno = some sn := by cases sno <;> simp
  rcases view_ok with rfl | ⟨sn0, rfl⟩
  all_goals first
    | (obtain rfl : view = V.non := rv
       refine iteT ⟨_, rfl, a, rfl, w7, fun H8 vw sn w8 b8 rz => ?_⟩)
    | (obtain ⟨vp, rfl, hv⟩ := (show RowIs H7 view sn0 from rv)
       refine iteF ?_
       obtain ⟨H8, e8⟩ : ∃ G, G = H7 := ⟨_, rfl⟩
       have w8 : Well H8 a := e8 ▸ w7
       have b8 : But a H7 H8 := fun b o _ h => by rw [e8]; exact h
       obtain ⟨sn, esn⟩ : ∃ z, z = sn0 := ⟨_, rfl⟩
       obtain ⟨vw, evw⟩ : ∃ z, z = V.ref vp := ⟨_, rfl⟩
       have rz : RowIs H8 vw sn := by rw [e8, evw, esn]; exact ⟨vp, rfl, hv⟩
       rw [← evw, ← e8])
  all_goals
    have at8 : StAt H8 p st := at7.same fun q u e => But.tup b8 w7 e
    have rl8 : RowO H8 line row := RowO.but rl7 w7 b8
    have B08 : But a H H8 := B07.trans b8
    clear b8 B07 rl7 at7 B47 at4 rl B04 at1' at0' rx1 rx2 rx3
    refine ⟨_, rfl, _, rfl, _, rfl, _, rfl, p, st, line, vw, row, hand, sn, rfl, at8, ok, rl8, rz, fun H9 due S9 rd => ?_⟩
    have at9 : StAt H9 p st := at8.same fun q u e => S9 _ _ e
    have rl9 := rl8.same S9
    have rz9 := rz.same S9
    have ne0 : ∀ {G : Hp}, ResAt G due (appB st row hand sn) → (!PyData.eqv (resD (appB st row hand sn)) (resD (appB st row hand sn))) = false := fun _ => by rw [eqvRes]; rfl
    -- by place
    refine ⟨_, rfl, _, rfl, _, rfl, _, rfl, p, st, line, .int hand, vw, row, hand, sn, rfl, at9, ok, rl9, fun _ => rfl, fun _ => rz9, fun H10 y1 S10 q1 => ?_⟩
    have rd10 := rd.same S10
    refine ⟨_, rfl, _, _, q1.dp, rd10.dp, shpRes _, shpRes _, _, rfl, ?_⟩
    rw [ne0 rd10]
    -- by names
    have at10 : StAt H10 p st := at9.same fun q u e => S10 _ _ e
    refine iteF ⟨_, rfl, _, rfl, _, rfl, _, rfl, rfl, p, st, line, .int hand, vw, row, hand, sn, rfl, at10, ok, rl9.same S10, fun _ => rfl, fun _ => rz9.same S10, fun H11 y2 S11 q2 => ?_⟩
    have rd11 := rd10.same S11
    refine ⟨_, rfl, _, _, q2.dp, rd11.dp, shpRes _, shpRes _, _, rfl, ?_⟩
    rw [ne0 rd11]
    refine iteF ?_
    have at11 : StAt H11 p st := at10.same fun q u e => S11 _ _ e
    have rl11 := (rl9.same S10).same S11
    have rz11 := (rz9.same S10).same S11
    -- once more
    obtain ⟨pd, ud, rfl, hd, rud⟩ := rd11
    refine ⟨_, rfl, _, rfl, _, _, _, _, rfl, rfl, SqT.of hd, at0, _, rfl, _, rfl, p, st, ud, .int hand, vw, (appB st row hand sn).1, hand, sn, rfl, at11, ok, rud, fun _ => rfl, fun _ => rz11, fun H12 y3 S12 q3 => ?_⟩
    obtain ⟨p3, u3, rfl, h3, ru3⟩ := q3
    have hd12 := S12 _ _ hd
    have rud12 := rud.same S12
    rw [app_again] at ru3
    refine ⟨_, _, _, _, rfl, rfl, SqT.of h3, at0, _, rfl, _, _, _, _, rfl, rfl, SqT.of hd12, at0, _, _, ru3.dp, rud12.dp, shpRow _, shpRow _, _, rfl, ?_⟩
    rw [show (!PyData.eqv (rowD (appB st row hand sn).1) (rowD (appB st row hand sn).1)) = false by rw [eqvRow]; rfl]
    refine iteF ?_
    have at12 : StAt H12 p st := at11.same fun q u e => S12 _ _ e
    have rl12 := rl11.same S12
    have rz12 := rz11.same S12
    -- other integers
    refine ⟨_, rfl, _, rfl, _, row, rfl, rl12, fun H13 y4 S13 ry4 => ?_⟩
    refine ⟨_, rfl, 7, hand, rfl, rfl, .inl ⟨by decide, by decide⟩, 5, _, rfl, rfl, _, rfl, vw, some sn, rfl, rz12.same S13, fun H14 y5 S14 ry5 => ?_⟩
    have S24 := S13.trans S14
    refine ⟨p, st, y4, .int (5 - 7 * hand), y5, row.map turnR, 5 - 7 * hand, turnR sn, rfl, at12.same (fun q u e => S24 _ _ e), ok, ry4.same S14, fun _ => rfl, fun _ => ry5, fun H15 y6 S15 q6 => ?_⟩
    rw [app_turn ok] at q6
    have S25 := S24.trans S15
    have hd15 := S25 _ _ hd12
    refine ⟨_, rfl, _, _, _, _, rfl, rfl, SqT.of hd15, at0, ud, (appB st row hand sn).1, rfl, rud12.same S25, fun H16 y7 S16 ry7 => ?_⟩
    have hd16 := S16 _ _ hd15
    refine ⟨_, rfl, _, _, _, _, rfl, rfl, SqT.of hd16, at1, (show 2 ≤ sizeLine by decide), fun t7 n7 => ?_⟩
    have S17 := Same.new (o := .tup [y7, .bl (appB st row hand sn).2]) n7
    have q7 : ResAt (upd H16 t7 (.tup [y7, .bl (appB st row hand sn).2])) (.ref t7) ((appB st row hand sn).1.map turnR, (appB st row hand sn).2) := ⟨t7, y7, rfl, upd_same, ry7.same S17⟩
    refine ⟨_, _, (q6.same (S16.trans S17)).dp, q7.dp, shpRes _, shpRes _, _, rfl, ?_⟩
    rw [show (!PyData.eqv (resD ((appB st row hand sn).1.map turnR, (appB st row hand sn).2)) (resD ((appB st row hand sn).1.map turnR, (appB st row hand sn).2))) = false by rw [eqvRes]; rfl]
    refine iteF ?_
    have S27 := S25.trans (S16.trans S17)
    have at17 : StAt _ p st := at12.same fun q u e => S27 _ _ e
    have rl17 := rl12.same S27
    have rz17 := rz12.same S27
    have hd17 := S27 _ _ hd12
    have rud17 := rud12.same S27
    have B017 : But a H _ := B08.trans (But.of (((S9.trans S10).trans S11).trans (S12.trans S27)))
    have w17 := w8.same (((S9.trans S10).trans S11).trans (S12.trans S27))
    generalize upd H16 t7 (.tup [y7, .bl (appB st row hand sn).2]) = H17 at at17 rl17 rz17 hd17 rud17 B017 w17 ⊢
    -- odd things
    refine ⟨_, rfl, (show 0 ≤ sizeLine by decide), fun t8 n8 => ⟨(show 1 ≤ sizeLine by decide), fun t9 n9 => fun t10 n10 => ⟨(show 6 ≤ sizeLine by decide), fun lo nlo => ?_⟩⟩⟩
    have Sx := ((Same.new (o := .tup []) n8).trans (Same.new (o := .lst [.int 1]) n9)).trans (Same.new (o := .dK []) n10)
    have So := Sx.trans (Same.new (o := .lst [.non, .str "x", .bl true, .ref t8, .ref t9, .ref t10]) nlo)
    refine ⟨a, lo, _, rfl, w17.same So, (w17.same Sx).new nlo, upd_same, (show 0 < 6 by decide), (show 6 < 1073741824 by decide), fun H18 odd _ w18 b18 => ?_⟩
    have B78 : But a H17 H18 := (But.of So).trans b18
    have at18 : StAt H18 p st := at17.same fun q u e => But.tup B78 w17 e
    have rl18 := RowO.but rl17 w17 B78
    have rz18 := RowIs.but rz17 w17 B78
    have hd18 := But.tup B78 w17 hd17
    have rud18 := RowO.but rud17 w17 B78
    have B018 := B017.trans B78
    refine ⟨_, rfl, p, st, rfl, at18, ok, fun H19 S19 => ⟨_, rfl, ?_⟩⟩
    have at19 : StAt H19 p st := at18.same fun q u e => S19 _ _ e
    have rl19 := rl18.same S19
    have rz19 := rz18.same S19
    have rd19 : ResAt H19 (.ref pd) (appB st row hand sn) := ⟨pd, ud, rfl, S19 _ _ hd18, rud18.same S19⟩
    cases hrd : hasW st rdW
    all_goals first
      | (refine iteT ⟨_, rfl, _, rfl, _, rfl, _, rfl, p, st, line, .int hand, odd, row, hand, sn, rfl, at19, ok, rl19, fun _ => rfl, fun q => (by rw [hrd] at q; exact Bool.noConfusion q), fun H20 y8 S20 q8 => ?_⟩
         have rd20 := rd19.same S20
         refine ⟨_, rfl, _, _, q8.dp, rd20.dp, shpRes _, shpRes _, _, rfl, ?_⟩
         rw [ne0 rd20]
         refine iteF ?_)
      | (refine iteF (iteF ?_)
         obtain ⟨H20, e20⟩ : ∃ G, G = H19 := ⟨_, rfl⟩
         have S20 : Same H19 H20 := fun b o h => by rw [e20]; exact h
         have rd20 := rd19.same S20
         rw [← e20])
    all_goals
      have at20 : StAt H20 p st := at19.same fun q u e => S20 _ _ e
      refine ⟨_, rfl, p, st, rfl, at20, ok, fun H21 S21 => ⟨_, rfl, ?_⟩⟩
      have S1821 := S19.trans (S20.trans S21)
      have fin : ∀ G : Hp, Same H21 G → Q (.bl true) G := fun G S => k G (w18.same (S1821.trans S)) (B018.trans (But.of (S1821.trans S)))
      cases hin : hasW st tkW
      all_goals first
        | exact iteT (fin H21 (Same.refl _))
        | (refine iteF ⟨_, rfl, _, rfl, _, rfl, _, rfl, p, st, line, odd, vw, row, hand, sn, rfl, at20.same (fun q u e => S21 _ _ e), ok, (rl19.same S20).same S21, fun q => (by rw [hin] at q; exact Bool.noConfusion q), fun _ => (rz19.same S20).same S21, fun H22 y9 S22 q9 => ?_⟩
           have rd22 := (rd20.same S21).same S22
           refine ⟨_, rfl, _, _, q9.dp, rd22.dp, shpRes _, shpRes _, ?_⟩
           rw [eqvRes]
           exact fin H22 S22)
end
end K02

set_option maxRecDepth 100000
set_option maxHeartbeats 4000000
namespace K02
open PySem PySem.Spec PyProof.Rows L2 He VH RZ
abbrev sLaw : Stmt := top 40
abbrev nLaw : List Str := ["_law_script", "_law_steps", "_law_k", "_law_well_here", "_law_turn"]
theorem scLaw : FnScope nLaw ["_law_script"] (defScope sLaw) := ⟨rfl, rfl, rfl, by decide +kernel, rfl, by decide +kernel, by decide +kernel⟩
abbrev FnWell (K : PySem.W.Frag) (fd : FuncData) : Prop := FnP K "_law_well" sWell (ga K "_law_well") fd
/-- the list at b, whatever becomes of the well -/
def Sq (K : PySem.W.Frag) (b a : Addr) (xs : List V) (H : Hp) : Prop := SqL K H b xs ∧ (b ≠ a ∨ ∀ G, SqL K G b xs)
theorem sq_new {K : PySem.W.Frag} {a p : Addr} {H H' : Hp} {xs : List V} (h : SqL K H a xs) (n : H p = none) (s : Same H H') : Sq K a p xs H' := by
  rcases h with (h | ⟨o, h⟩) | h
  · exact ⟨.inl (.inl (s _ _ h)), .inl (ne_of_none h n)⟩
  · exact ⟨.inl (.inr ⟨o, s _ _ h⟩), .inl (ne_of_none h n)⟩
  · exact ⟨.inr h, .inr fun _ => .inr h⟩
theorem sq_bx {K : PySem.W.Frag} {a p : Addr} {H H' : Hp} {xs : List V} (h : Sq K a p xs H) (b : But p H H') : Sq K a p xs H' := by
  obtain ⟨h, d⟩ := h
  rcases d with d | d
  · refine ⟨?_, .inl d⟩
    rcases h with (h | ⟨o, h⟩) | h
    · exact .inl (.inl (b _ _ d h))
    · exact .inl (.inr ⟨o, b _ _ d h⟩)
    · exact .inr h
  · exact ⟨d _, .inr d⟩
def spLaw (K : PySem.W.Frag) : Sp := fun vs H Q _ => ∃ (a : Addr) (ns : List Int), vs = [.ref a] ∧ SqL K H a (ns.map V.int) ∧ ns.length ≤ 63 ∧ ∀ H', Q (.bl true) H'
section
variable {P : Program} {w : World} {K : PySem.W.Frag} {mg : Str → Option Value} {base : Heap} {f : Addr} {fd dW : FuncData}
theorem ok_law (F : FnP K "law" sLaw f fd) (T : Txt K mg w) (D : LDefs K) (FW : FnWell K dW) : FnOk P w K mg base CX0 8 f fd ["_law_script"] (spLaw K) := by
  have DD := D
  obtain ⟨D0, ⟨dA, FA⟩, _, _, _, _, _, _, _, _, _, _, ⟨dR, FR⟩, ⟨dS, FS⟩, ⟨dC, FC⟩⟩ := DD
  have GA : FnOk P w K mg base (L2.CX P w) 6 (ga K "applied") dA ["statement", "row", "value", "seen"] spApp := ok_app FA T D0
  have GS : FnOk P w K mg base CX0 2 (ga K "_law_statements") dS [] spStm := ok_stm FS FC T.m_l_checks_all
  have GW : FnOk P w K mg base CX0 1 (ga K "_law_well") dW ["_law_script", "_law_at"] (spWell K) := ok_well FW T.g_int
  have GR : FnOk P w K mg base CX0 7 (ga K "_law_right") dR ["_law_well_here", "_law_steps"] spRig := ok_rig FR T D
  have bS : Binds K dS [] [] := FunD.bindsN FS fun _ _ _ _ _ _ us hl => match us, hl with | [], _ => rfl
  have bW : Binds K dW ["_law_script", "_law_at"] [] := FunD.bindsN FW fun _ _ _ _ _ _ us hl => match us, hl with | [_, _], _ => rfl
  have bR : Binds K dR ["_law_well_here", "_law_steps"] [] := FunD.bindsN FR fun _ _ _ _ _ _ us hl => match us, hl with | [_, _], _ => rfl
  obtain ⟨ds, dv, b3⟩ := bApp3 FA
  obtain ⟨its, k2⟩ := kApp2 FA
  refine F.ok scLaw (fun vs H Q E h => ?_) (fun cdv A outer s H vs Q E hr h => ?_)
  · obtain ⟨a, ns, rfl, _⟩ := h
    rfl
  refine ⟨_, PSs.nox (pss_cons (ps_set (i := 1) scLaw.nd rfl (Or.inl rfl) (pe_call0 GS (hr.mono (by decide)) (by rfl) T.m_l_statements FS.kp bS .nil pass0))
    (pss_cons (ps_for PassesOwn.never rfl (pi_range1 (by rfl) T.g_range (pa_cons (pe_op op_add (pe_callB call_len_seq (by rfl) T.g_len boot_len (pa_cons (pv 0) pa_nil)) pe_int) pa_nil)) (pg_name (i := 2) scLaw.nd rfl (Or.inl rfl))
      (pss_cons (ps_set (i := 3) scLaw.nd rfl (Or.inl rfl) (pe_call GW (hr.mono (by decide)) (by rfl) T.m_l_well FW.kp bW .nil pass0 (pa_cons (pv 0) (pa_cons (pv 2) pa_nil))))
      (pss_one (ps_for PassesOwn.never rfl (pi_range1 (by rfl) T.g_range (pa_cons pe_int pa_nil)) (pg_name (i := 4) scLaw.nd rfl (Or.inl rfl))
        (pss_one (ps_if (pt_not (pt_val (pe_call GR hr (by rfl) T.m_l_right FR.kp bR .nil pass0 (pa_cons (pv 3) (pa_cons (pv 1) pa_nil))))) (pss_one (ps_ret pe_bl)) pss_nil))))))
    (pss_cons (ps_if (pt_cmpR (op_neD hr.units) (pe_call GA (hr.mono (by decide)) (by rfl) T.m_applied FA.kp b3 dv passN (pa_cons (pe_tup (pa_cons pe_str (pa_cons pe_str (pa_cons pe_str (pa_cons (pe_tup pa_nil) pa_nil))))) (pa_cons (pe_tup (pa_cons pe_int (pa_cons pe_non pa_nil))) (pa_cons pe_int pa_nil))))
        (pe_tup (pa_cons (pe_tup (pa_cons pe_int (pa_cons pe_int pa_nil))) (pa_cons pe_bl pa_nil))) (nomark _)) (pss_one (ps_ret pe_bl)) pss_nil)
    (pss_one (ps_ret (pe_cmpR (op_eqD hr.units) (pe_callN GA (hr.mono (by decide)) (by rfl) T.m_applied FA.kp k2 passN (pa_cons (pe_tup (pa_cons pe_str (pa_cons pe_str (pa_cons (pe_tup pa_nil) pa_nil)))) (pa_cons pe_non pa_nil)) (pk_cons (pe_tup (pa_cons pe_int (pa_cons pe_non pa_nil))) pk_nil))
        (pe_tup (pa_cons (pe_tup (pa_cons pe_int (pa_cons pe_int pa_nil))) (pa_cons pe_bl pa_nil))) (nomark _))))))), ?_⟩
  obtain ⟨a, ns, rfl, ha, few, k⟩ := h
  refine ⟨rfl, fun H1 l xs S1 nl hl pos le good => ?_⟩
  have ha1 : SqL K H1 a (ns.map V.int) := by
    rcases ha with (h | ⟨o, h⟩) | h
    · exact .inl (.inl (S1 _ _ h))
    · exact .inl (.inr ⟨o, S1 _ _ h⟩)
    · exact .inr h
  refine ⟨_, rfl, a, _, rfl, .inl ha1, _, _, rfl, rfl, _, rfl, ?_, ?_, ?_⟩
  · rw [List.length_map]
    omega
  · rw [List.length_map]
    omega
  rw [List.length_map]
  refine for_range (lo := 0) (n := ((ns.length : Int) + 1).toNat) (fun i σ G => ∃ v2 v3 v4 : Option V, σ = [some (.ref a), some (.ref l), v2, v3, v4] ∧ SqL K G a (ns.map V.int) ∧ G l = some (.lst xs) ∧ ∀ x ∈ xs, Good G x)
    ⟨none, none, none, rfl, ha1, hl, good⟩ (fun i σ G lt p => ?_) (fun σ G p => ?_)
  · obtain ⟨v2, v3, v4, rfl, hG, hlG, gG⟩ := p
    have lt' : i ≤ 63 := by omega
    refine ⟨_, rfl, _, rfl, a, ns, i, by rw [Int.zero_add]; rfl, hG, few, lt', fun H2 p n2 w2 s2 => ?_⟩
    refine ⟨15, rfl, by decide, by decide, ?_⟩
    refine for_range (lo := 0) (n := 15) (fun j σ G2 => ∃ v4 : Option V, σ = [some (.ref a), some (.ref l), some (.int (0 + (i : Int))), some (.ref p), v4] ∧ Sq K a p (ns.map V.int) G2 ∧ G2 l = some (.lst xs) ∧ (∀ x ∈ xs, Good G2 x) ∧ Well G2 p)
      ⟨_, rfl, sq_new hG n2 s2, s2 _ _ hlG, fun x hx => (gG x hx).tup (fun b u e => s2 _ _ e), w2⟩ (fun j σ G2 _ q => ?_) (fun σ G2 q => ?_)
    · obtain ⟨v4, rfl, sq, hl2, g2, wp⟩ := q
      have lp : l ≠ p := ne_of_none hlG n2
      refine ⟨_, rfl, _, rfl, p, l, xs, rfl, wp, lp, hl2, pos, le, g2, fun H3 w3 b3 => ⟨true, rfl, iteF ?_⟩⟩
      exact ⟨_, rfl, sq_bx sq b3, b3 _ _ lp hl2, fun x hx => (g2 x hx).tup (fun b u e => But.tup b3 wp e), w3⟩
    · obtain ⟨v4, rfl, sq, hl2, g2, wp⟩ := q
      exact ⟨_, _, _, rfl, sq.1, hl2, g2⟩
  · obtain ⟨v2, v3, v4, rfl, hG, hlG, gG⟩ := p
    refine ⟨(show 0 ≤ sizeLine by decide), fun t1 n1 => ⟨(show 4 ≤ sizeLine by decide), fun t2 n2 => ⟨(show 2 ≤ sizeLine by decide), fun t3 n3 => ?_⟩⟩⟩
    have s1 := Same.new (o := .tup []) n1
    have s2 := Same.new (o := .tup [.str "set", .str "input", .str "now", .ref t1]) n2
    have s3 := Same.new (o := .tup [.int 3, .non]) n3
    refine ⟨t2, ⟨"set", ["input", "now"], []⟩, .ref t3, .int 8, .non, some (3, none), 8, (0, none), rfl, ?_, by decide +kernel, ⟨t3, rfl, upd_same⟩, fun _ => rfl, fun q => absurd q (by decide), fun H4 y S4 q4 => ?_⟩
    · unfold StAt
      rw [if_neg (show ¬ ("set" : Str) = "insert" by decide)]
      exact ⟨t1, s3 _ _ upd_same, s3 _ _ (s2 _ _ upd_same)⟩
    refine ⟨(show 2 ≤ sizeLine by decide), fun t4 n4 => ⟨(show 2 ≤ sizeLine by decide), fun t5 n5 => ?_⟩⟩
    have s4 := Same.new (o := .tup [.int 8, .int 8]) n4
    have s5 := Same.new (o := .tup [.ref t4, .bl true]) n5
    have e4 : appB ⟨"set", ["input", "now"], []⟩ (some (3, none)) 8 (0, none) = (some (8, some 8), true) := by decide +kernel
    rw [e4] at q4
    refine ⟨resD (some (8, some 8), true), resD (some (8, some 8), true), (q4.same (s4.trans s5)).dp, ResAt.dp (o := (some (8, some 8), true)) ⟨t5, .ref t4, rfl, upd_same, t4, rfl, s5 _ _ upd_same⟩, shpRes _, shpRes _, _, rfl, ?_⟩
    rw [show (!PyData.eqv (resD (some (8, some 8), true)) (resD (some (8, some 8), true))) = false by rw [eqvRes]; rfl]
    refine iteF ?_
    generalize upd (upd H4 t4 (.tup [.int 8, .int 8])) t5 (.tup [.ref t4, .bl true]) = H5
    refine ⟨(show 0 ≤ sizeLine by decide), fun t6 n6 => ⟨(show 3 ≤ sizeLine by decide), fun t7 n7 => ⟨(show 2 ≤ sizeLine by decide), fun t8 n8 => ?_⟩⟩⟩
    have s6 := Same.new (o := .tup []) n6
    have s7 := Same.new (o := .tup [.str "put", .str "now", .ref t6]) n7
    have s8 := Same.new (o := .tup [.int 3, .non]) n8
    refine ⟨rfl, rfl, t7, ⟨"put", ["now"], []⟩, .non, .non, .ref t8, none, 0, (3, none), rfl, ?_, by decide +kernel, rfl, fun q => absurd q (by decide), fun _ => ⟨t8, rfl, upd_same⟩, fun H9 y S9 q9 => ?_⟩
    · unfold StAt
      rw [if_neg (show ¬ ("put" : Str) = "insert" by decide)]
      exact ⟨t6, s8 _ _ upd_same, s8 _ _ (s7 _ _ upd_same)⟩
    refine ⟨(show 2 ≤ sizeLine by decide), fun t10 n10 => ⟨(show 2 ≤ sizeLine by decide), fun t11 n11 => ?_⟩⟩
    have s10 := Same.new (o := .tup [.int 3, .int 3]) n10
    have s11 := Same.new (o := .tup [.ref t10, .bl true]) n11
    have e9 : appB ⟨"put", ["now"], []⟩ none 0 (3, none) = (some (3, some 3), true) := by decide +kernel
    rw [e9] at q9
    refine ⟨resD (some (3, some 3), true), resD (some (3, some 3), true), (q9.same (s10.trans s11)).dp, ResAt.dp (o := (some (3, some 3), true)) ⟨t11, .ref t10, rfl, upd_same, t10, rfl, s11 _ _ upd_same⟩, shpRes _, shpRes _, ?_⟩
    rw [eqvRes]
    exact k _
end
end K02

set_option maxRecDepth 100000
set_option maxHeartbeats 0
namespace K02
open PySem PySem.Spec PyProof.Rows L2 He VH RZ
theorem facts {w : World} {K : PySem.W.Frag} {h : Heap} {mg : Str → Option Value} {f : Addr} (X : K.In h) (G : h.Ns mainGlobals mg) (hfa : mg ("law" : Str) = some (.ref f)) (c : He.SaysX fa fn ts tf ex w h K) :
    LamX.LawAtS PySem.Challenge.rw_fillbehind_k02_whole_statements_done w K L2.CX0 8 63 "_law_script" mg f h := by
  have T := txt_of X G c
  have g : SaysD fa fn K := c.t.d
  obtain ⟨d0, X0⟩ := g.def_ 0 (d := dd 5 "is_integer") rfl
  obtain ⟨d1, X1⟩ := g.def_ 1 (d := dd 6 "is_word") rfl
  obtain ⟨d2, X2⟩ := g.def_ 2 (d := dd 7 "are_words") rfl
  obtain ⟨d3, X3⟩ := g.def_ 3 (d := dd 13 "is_row") rfl
  obtain ⟨d4, X4⟩ := g.def_ 4 (d := dd 14 "is_statement") rfl
  obtain ⟨d5, X5⟩ := g.def_ 5 (d := dd 15 "checks_of") rfl
  obtain ⟨d6, X6⟩ := g.def_ 6 (d := dd 16 "has_word") rfl
  obtain ⟨d7, X7⟩ := g.def_ 7 (d := dd 17 "needs_read") rfl
  obtain ⟨d8, X8⟩ := g.def_ 8 (d := dd 18 "needs_input") rfl
  obtain ⟨d9, X9⟩ := g.def_ 9 (d := da) rfl
  obtain ⟨d10, X10⟩ := g.def_ 10 (d := dd 20 "takes_effect") rfl
  obtain ⟨d11, X11⟩ := g.def_ 11 (d := dd 21 "fails") rfl
  obtain ⟨d12, X12⟩ := g.def_ 12 (d := dd 22 "row_behind") rfl
  obtain ⟨d13, X13⟩ := g.def_ 13 (d := dd 23 "old_behind") rfl
  obtain ⟨d14, X14⟩ := g.def_ 14 (d := dd 24 "source_behind") rfl
  obtain ⟨d15, X15⟩ := g.def_ 15 (d := dd 26 "_law_draw") rfl
  obtain ⟨d16, X16⟩ := g.def_ 16 (d := dd 27 "_law_well") rfl
  obtain ⟨d17, X17⟩ := g.def_ 17 (d := dd 28 "_law_one") rfl
  obtain ⟨d18, X18⟩ := g.def_ 18 (d := dd 29 "_law_checks_all") rfl
  obtain ⟨d19, X19⟩ := g.def_ 19 (d := dd 30 "_law_statements") rfl
  obtain ⟨d20, X20⟩ := g.def_ 20 (d := dd 31 "_law_needs_read") rfl
  obtain ⟨d21, X21⟩ := g.def_ 21 (d := dd 32 "_law_needs_input") rfl
  obtain ⟨d22, X22⟩ := g.def_ 22 (d := dd 33 "_law_integer") rfl
  obtain ⟨d23, X23⟩ := g.def_ 23 (d := dd 34 "_law_row") rfl
  obtain ⟨d24, X24⟩ := g.def_ 24 (d := dd 35 "_law_source") rfl
  obtain ⟨d25, X25⟩ := g.def_ 25 (d := dd 36 "_law_barred") rfl
  obtain ⟨d26, X26⟩ := g.def_ 26 (d := dd 37 "_law_due") rfl
  obtain ⟨d27, X27⟩ := g.def_ 27 (d := dd 38 "_law_turned") rfl
  obtain ⟨d28, X28⟩ := g.def_ 28 (d := dd 39 "_law_right") rfl
  obtain ⟨fd, F⟩ := g.def_ 29 (d := dd 40 "law") rfl
  obtain ⟨e0, Y0⟩ := g.def_ 30 (d := dm 2 "NoStatement" 0 "__init__" "NoStatement.__init__") rfl
  have e := hfa.symm.trans (glo_ok X G (g.fact 34 (f := .glo "law") rfl))
  cases e
  have D0 : Defs K := ⟨⟨d0, X0⟩, ⟨d1, X1⟩, ⟨d2, X2⟩, ⟨d3, X3⟩, ⟨d4, X4⟩, ⟨d5, X5⟩, ⟨d6, X6⟩, ⟨d7, X7⟩, ⟨d8, X8⟩, ⟨d10, X10⟩, ⟨d11, X11⟩, ⟨d12, X12⟩, ⟨d13, X13⟩, ⟨d14, X14⟩, ⟨e0, Y0⟩⟩
  have D : LDefs K := ⟨D0, ⟨d9, X9⟩, ⟨d17, X17⟩, ⟨d15, X15⟩, ⟨d22, X22⟩, ⟨d23, X23⟩, ⟨d24, X24⟩, ⟨d25, X25⟩, ⟨d26, X26⟩, ⟨d27, X27⟩, ⟨d20, X20⟩, ⟨d21, X21⟩, ⟨d28, X28⟩, ⟨d19, X19⟩, ⟨d18, X18⟩⟩
  have b := FunD.bindsA (ps := ["_law_script"]) F fun _ _ _ _ _ _ us hl => match us, hl with | [_], _ => rfl
  refine ⟨fd, [], spLaw K, fun p hp => absurd hp (by simp), fun p hp => absurd hp (by simp), fun p hp => absurd hp (by simp), fun s v => b s [v] rfl, fun H a ns hl _ hT hS => ?_, fun base hb hg hTB => ?_⟩
  · exact ⟨a, ns, rfl, hS, hl, fun _ => rfl⟩
  · exact ok_law F T D X16
end K02
open PySem PySem.W PySem.Calls PyProof.Rows
theorem PySem.Challenge.cw_fillbehind_k02_whole_statements_done_holds : PySem.Challenge.rw_fillbehind_k02_whole_statements_done.Holds := by
  w_on; o_law
  refine HandSHeadRun.head_any (r := OpenLaw.row PySem.Challenge.rw_fillbehind_k02_whole_statements_done) (q := view (OpenLaw.row PySem.Challenge.rw_fillbehind_k02_whole_statements_done).prog [40]) (H := K02.hk) (ob := K02.ob) (M := 20000) (loose := K02.names) (d := HandSHeadRun.topDef (OpenLaw.row PySem.Challenge.rw_fillbehind_k02_whole_statements_done).prog 40) (kwd := []) K02.ob_eq
    (by kernel_rfl) (fun s => by kernel_rfl) K02.run (by kernel_rfl) (by kernel_rfl) (by kernel_rfl) (by rfl) (by first | assumption | decide +kernel) (by decide +kernel) ⟨rfl, rfl, rfl, rfl, rfl, by decide +kernel⟩ ?hw ?hc
  case hw => w_witness2
  case hc =>
    refine LamX.walk_ofTsE (l := PySem.Challenge.rw_fillbehind_k02_whole_statements_done) (n := 63) (k := 8) (x := "_law_script") (CX := fun _ => L2.CX0) rfl (by decide) (by kernel_rfl) ⟨rfl, by decide, by decide⟩ ?F (fun _ _ _ _ _ z => z)
    intro w mg fa h Y G hmg0
    obtain ⟨K, KX, c⟩ := Y
    have hmg : mg ("law" : PySem.Str) = some (.ref fa) := by
      have e : (HandSHeadRun.topDef (OpenLaw.row PySem.Challenge.rw_fillbehind_k02_whole_statements_done).prog 40).name = ("law" : PySem.Str) := by kernel_rfl
      rw [← e]
      exact hmg0
    exact ⟨K, KX, K02.facts KX G hmg c⟩
