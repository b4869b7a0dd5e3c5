import PyProof.Rows.All
import Wide.All
import OpenK.AllK
import Wide.FinOn
import HandS.ForMost
import HandS.ExcInit
import HandS.ExcIs
import HandS.IsInst
import HandS.Wide
import KE.KExcMake
import HandS.ExcBuiltin
import HandS.TryMany
import HandS.ExcField
import HandS.StrMore
import HandS.Star
import HandS.Conv
import KE.KDictSum
import PyProof.DictUpdate
import PyProof.Rows.TmSorted
import PyProof.Rows.StrMeet
import HandS.Dict
import HandS.Iter
import HandS.ForExc
import PySem.Challenge.RW_letterrules_k83_texts_of_placings_and_st
import KE.KeyNested
import KE.KDictCopyH
import HandS.Strs
import HandS.Small
import HandS.FStr
import HandS.Lambda
import HandS.ReplaceLit
import HandS.Text
import PyProof.StrBlock
import HandS.TupAny
import PyProof.Rows.TupDisplay
import HandS.ListItems
import KE.KDictZip
import HandS.Zip
import HandS.DictComp
import HandS.EndTab
import KE.KNest
set_option Elab.async false
set_option linter.all false
set_option maxRecDepth 100000
set_option maxHeartbeats 4000000
/-! Exceptions of own classes held as values: made, their fields read, asked by isinstance. -/
namespace K0
open PySem PySem.Spec PyProof.Rows L2

/-! ### isinstance of an exception, with or without a dict of its own -/
section
variable {prog : Program} {w : World} {A : Around} {E : Value → Shared → Prop} {s : Shared} {K : PySem.W.Frag} {x D : Addr} {ox : Obj} {od : Option Obj}
open PySem.W
theorem found_data {C : Addr} {name : Str} {a g : Value} (hc : (clsIn K C).isSome = true) (ha : findIn K (.ref C) name = some (some a)) (hg : specialIn K a "__get__" = some (some g)) (ht : takesIn K a = some true) :
    findObj K C od name = some (.bind g a) := by
  obtain ⟨cd, e⟩ := Option.isSome_iff_exists.mp hc
  unfold findObj; rw [e, Option.bind_some, ha, Option.bind_some]; simp [hg, ht]
theorem class_of (c : ExcC K D) {Q : Option Value → Shared → Prop} (X : K.In s.heap) (I : InstAt s.heap x ox D od) (h : Q (some (.ref D)) { s with toks := s.toks + 1 }) :
    wpAny (model prog w) A (getAttr? (.ref x) "__class__") Q E s := by
  have hf : findObj K D od "__class__" = some (.bind (.builtin "getset_descriptor.__get__") (.builtin "object.__class__")) :=
    found_data (by obtain ⟨cd, e, _⟩ := any_some c.hd; rw [e]; rfl) c.ha c.hn c.ht
  obtain ⟨hp, g, d, t, os⟩ := s
  have l0 := I.type (M := model prog w)
  have l1 := looks_findIn (M := model prog w) X c.hg
  have l2 := looks_findIn (M := model prog w) X c.hk
  have l3 := looks_find (M := model prog w) X I hf
  have sb : Looks (model prog w) hp (isInstance (.ref x) (.type "BaseException")) true := l0.andThen (looks_subIn X c.hs)
  have z0 : (false && onTheHeap (Value.builtin "BaseException.__getattribute__")) = false := rfl
  have z2 : (Value.builtin "BaseException.__getattribute__" == Value.builtin "object.__getattribute__") = false := by decide +kernel
  have z1 : (onTheHeap (Value.ref D) && Value.builtin "BaseException.__getattribute__" == Value.builtin "object.__getattribute__") = false := by rw [z2] <;> rfl
  unfold getAttr? getAttrBy? getAttrBy
  refine wpAny_bind (wpAny_mkText (wpAny_bind (wpAny_attempt (wpAny_holding (wpAny_bind (l0.at (wpAny_bind (l1.at ?a))))))))
  show wpAny _ _ (if (onTheHeap (Value.ref D) && Value.builtin "BaseException.__getattribute__" == Value.builtin "object.__getattribute__") = true then _ else _) _ _ _
  rw [z1, if_neg Bool.false_ne_true]
  unfold getAttrByItsOwn hookBefore; refine wpAny_bind ?_
  rw [if_pos (show onTheHeap (Value.ref D) = true from rfl)]
  refine l2.at ?_; refine wpAny_bind (wpAny_attempt (wpAny_holding ?_))
  unfold callGetattribute; rw [z0, if_neg Bool.false_ne_true]
  unfold boundAndCalled; rw [PySem.F.excAttr_ValueError.ga.bind (.ref x)]
  refine wpAny_bind (wpAny_pure ?_)
  show wpAny _ _ (call (.builtin "BaseException.__getattribute__") [.ref x, .str "__class__" t]) _ _ _
  refine wpAny_call (codeAny_call_builtin PySem.F.excAttr_ValueError.ga.plain PySem.F.entry_bexc_ga ?b)
  refine @check_slot (model prog w) _ _ ⟨hp, g, d, t + 1, os⟩ "BaseException.__getattribute__" "BaseException" "__getattribute__" (.ref x) [.str "__class__" t] [] _ (by decide +kernel) (by decide +kernel) sb (PySem.F.args_bexc_ga (.ref x) (.str "__class__" t)) ?c
  unfold Builtin.«object.__getattribute__»
  refine wpAny_bind (wpAny_of_eq (a := ((Value.ref x : Value), [Value.str "__class__" t])) (by first | rfl | (simp only [slotArgs]; rfl)) ?d)
  refine wpAny_bind (wpAny_pure (wpAny_bind (l0.at (wpAny_bind (l3.at ?e)))))
  show wpAny _ _ (holding [Value.builtin "object.__class__"] (call (.builtin "getset_descriptor.__get__") [.builtin "object.__class__", .ref x, .ref D]) >>= ret) _ _ _
  refine wpAny_bind (wpAny_holding (wpAny_call (class_get (s := ⟨hp, g, d, t + 1, os⟩) (ox := ox) (od := od) X I c.hm ?f)))
  refine wpAny_pure ?_
  show wpAny _ _ (handedOut (.ref D)) _ _ _
  rw [handedOut_of (v := .ref D) rfl]
  first | exact wpAny_pure (wpAny_pure h) | exact wpAny_pure h | exact wpAny_pure (wpAny_bind (wpAny_pure (wpAny_pure h)))
theorem kit_exc (c : ExcC K D) : KitX K (.ref x) (.ref D) (fun h => InstAt h x ox D od) where
  ty := fun _ _ _ I => I.type
  it := fun _ _ X _ => by
    obtain ⟨cd, hc, _⟩ := any_some c.hd
    unfold clsIn at hc; split at hc
    · rename_i c' d' cd' sl' ho
      intro A' Q' E' s' k q; unfold isType loadHead
      exact wpAny_bind (wpAny_loadPart (k _ _ (X _ _ ho)) (wpAny_pure q))
    · cases hc
  ne := fun h tp dd its n sl X htp => by
    obtain ⟨cd, hc, _⟩ := any_some c.hd
    refine Bool.eq_false_iff.mpr fun q => ?_
    have e : D = tp := Value.ref.inj (beq_iff_eq.mp q)
    subst e; unfold clsIn at hc; split at hc
    · rename_i c' d' cd' sl' ho
      have z := (X _ _ ho).symm.trans htp
      cases z
    · cases hc
  ca := fun X I k => class_of c X I k
end

/-- at a: an exception of the class at C that is made (with a field f that holds v, or none) -/
def ExAt (H : Hp) (a C : Addr) (fv : Option (Str × V)) : Prop := match fv with
  | none => H a = some (exo a C none)
  | some (f, v) => ∃ d, H a = some (exo a C (some d)) ∧ H d = some (exd d [(f, v)])
theorem ExAt.same {H H' : Hp} {a C : Addr} {fv : Option (Str × V)} (h : ExAt H a C fv) (s : Same H H') : ExAt H' a C fv := by
  cases fv with
  | none => exact s _ _ h
  | some p => obtain ⟨d, h1, h2⟩ := h; exact ⟨d, s _ _ h1, s _ _ h2⟩
section
variable {X : Cx} {pins : List (Addr × Obj)} {σ : L2.St} {H : Hp} {s : Shared}
theorem ExAt.inst {a C : Addr} {fv : Option (Str × V)} (I : Inv X pins σ H s) (h : ExAt H a C fv) : ∃ ox od, PySem.W.InstAt s.heap a ox C od ∧ ∀ f v, fv = some (f, v) → ∃ o u, od = some o ∧ RelV v u ∧ PySem.W.lookIn f o = some (some u) := by
  cases fv with
  | none =>
    obtain ⟨t1, ho⟩ := exo_at I.hok h
    exact ⟨_, none, ⟨ho, rfl, rfl, trivial⟩, fun f v e => by cases e⟩
  | some p =>
    obtain ⟨f, v⟩ := p
    obtain ⟨d, h1, h2⟩ := h
    obtain ⟨t1, ho⟩ := exo_at I.hok h1
    obtain ⟨mA, hns, hr⟩ := exd_at I.hok h2
    obtain ⟨o, hd, hl⟩ := lookIn_ns hns
    refine ⟨_, some o, ⟨ho, rfl, rfl, hd⟩, fun f' v' e => ?_⟩
    cases e
    have l : List.lookup f [(f, v)] = some v := by simp [List.lookup]
    obtain ⟨u, hu, ru⟩ := RelO.some_of (v := v) (o := mA f) (by rw [← l]; exact hr f)
    exact ⟨o, u, rfl, ru, by rw [hl, hu]⟩
end
def rIsX (K : PySem.W.Frag) : List V → Hp → VK → Prop := fun xs H Q => ∃ (a C : Addr) (fv : Option (Str × V)) (c : V) (cv : Value) (b : Bool), xs = [.ref a, c] ∧ ExAt H a C fv ∧ ExcC K C ∧ ClsV c cv ∧ PySem.W.kitOne K (.ref C) cv = some b ∧ Q (.bl b) H
theorem call_isX {X : Cx} : CallR X (.builtin "isinstance") (rIsX X.K) := by
  intro pins s σ H xs us Q I r h
  obtain ⟨a, C, fv, c, cv, b, rfl, hx, xc, k, e, q⟩ := h
  obtain ⟨u1, u2, rfl, r1, r2⟩ := vals2 r
  obtain rfl : u1 = Value.ref a := r1
  have e2 := k.eq r2
  subst e2
  obtain ⟨ox, od, J, _⟩ := hx.inst I
  exact PySem.W.kia_one (kit_exc xc) I.kIn J e (fun z => nomatch z) fun tk => ⟨.bl b, H, I.tok tk, rfl, q⟩
/-- e.f, e an exception with the field f -/
def tExF (K : PySem.W.Frag) (f : Str) (te : TE) : TE := fun σ H Q => te σ H fun x H1 => ∃ (a C : Addr) (v : V), x = .ref a ∧ ExAt H1 a C (some (f, v)) ∧ ExcC K C ∧ PySem.W.findIn K (.ref C) f = some none ∧ Q v H1
theorem pe_exf {X : Cx} {e : Expr} {te : TE} {f : Str} {pos : Pos} (he : PE X e te) (hb : attributeBase e f X.env (eval e X.env) = eval e X.env := by rfl) : PE X (.Attribute e f pos) (tExF X.K f te) := by
  refine ⟨fun pins s σ H Q I h => ?_⟩
  refine attr_of hb (thn (he.run pins s σ H _ I h) fun u s1 ⟨x, H1, I1, rx, a, C, v, ex, hx, xc, hn, q⟩ => ?_)
  subst ex
  obtain rfl : u = Value.ref a := rx
  obtain ⟨ox, od, J, hv⟩ := hx.inst I1
  obtain ⟨o, u, eo, ru, hl⟩ := hv f v rfl
  subst eo
  exact HandSPX.exc_get I1.kIn J xc.hg xc.hk xc.hs (PySem.W.findObj_own xc.hd hn rfl hl) (handed_of ru) ⟨v, H1, I1.tok _, ru, q⟩

/-! ### made: a class without an __init__ of its own -/
theorem pe_exm {X : Cx} {C : Addr} {bmB : List Value} {B newId initId : String} {x : Str} {e : Expr} {ta : TE} {p pos : Pos} (F : ExcBaseFacts B newId initId bmB) (q : PySem.W.excInitIn X.K C bmB newId = true)
    (hi : PySem.W.findIn X.K (.ref C) "__init__" = some (some (.builtin initId))) (gC : X.mg x = some (.ref C)) (kC : PySem.W.keepIn X.K (.ref C) = true) (hg : Gl X x) (he : PE X e ta)
    (hs : starEach [e] X.env = (false, eval e X.env) :: starEach [] X.env := by rfl) (hdb : (x == ("__debug__" : Str)) = false := by decide) :
    PE X (.Call (.Name x p) [e] [] pos) (fun σ H Q => ta σ H fun _ H1 => ∀ a, H1 a = none → Q (.ref a) (upd H1 a (exo a C none))) := by
  refine ⟨fun pins s σ H Q I h => ?_⟩
  refine wpAny_Call_Name_kw (ld_glob I hg gC ?_ hdb)
  refine PySem.W.callWith_K (h₀ := X.base) I.ok.mod.kin kC ?_ hs (by rfl)
  rw [hs]
  show wpAny _ _ (spliced ((false, eval e X.env) :: backTo pos (starEach [] X.env))) _ _ s
  refine Calls.spliced_cons (thn (he.run pins s σ H _ I h) fun u s1 ⟨v, H1, I1, r1, q1⟩ => ?_)
  refine Calls.spliced_nil ⟨I1.kIn, ?_⟩
  show wpAny _ _ (call (.ref C) [u]) _ _ _
  obtain ⟨nm, N, qn, bs, bm, hdct, sn, sub, ab, col, dd, k0, k1, k2, k3, k5, hC, hT⟩ := PySem.W.excInit_of I1.kIn q
  have hl := PySem.W.looks_findIn (M := model X.prog X.w) I1.kIn hi
  obtain ⟨hp, g, d, tk, os⟩ := s1
  refine PySem.W.call_B F hT hC hl (by show 1 ≤ sizeLine; rw [sizeLine_eq]; omega) fun h' k ha ht => ?_
  have hsz : hp.objs.size ≤ hp.objs.size + 1 := Nat.le_succ _
  exact ⟨.ref (hp.objs.size + 1), _, I1.laid (t' := tk) (a := hp.objs.size + 1) (o := exo (hp.objs.size + 1) C none) k hsz (exo_ok ha), rfl, q1 _ (I1.hok.fresh hsz)⟩
end K0
/-! An own exception class whose base's __new__ may be an elder class's: C(..) with an __init__ of its own; Base.__init__(self, ..); the first field stored. -/
namespace K0
open PySem PySem.Spec PyProof.Rows
open Builtin Builtin.ObjectAttr

/-- what B's own __init__ is in the model -/
structure InitF (B initId : String) : Prop where
  init : Slot B "__init__" initId
  entry : entryFor table initId = some Builtin.«BaseException.__init__»
  split : splitId initId = some (B, "__init__")
  kind : builtinKind initId = some .slot
  row : Manifest.signature? initId = some ⟨.positional, "*", B, .self, [⟨"args", .varPos, false⟩]⟩
  star : (B != "*") = true
theorem InitF.of {B n i : String} (c : PyProof.Rows.ExcClass B n i) : InitF B i := ⟨c.init, c.initEntry, c.initSplit, c.initKind, c.initSig, c.notStar⟩
/-- what a class's tail of bases says where its __new__ is that of Bn -/
structure TailF (Bn : String) (bm : List Value) : Prop where
  hB : bm.contains (.type Bn) = true
  hA : bm.contains (.type "AttributeError") = false
  hN : bm.contains (.type "NameError") = false

section
variable {prog : Program} {w : World} {A : Around} {E : Value → Shared → Prop} {R : Result → Shared → Prop} {h : Heap} {g : Array GenState} {d : Drawn} {t : Nat} {os : OsState}
variable {nm q : PySem.Str} {C N : Addr} {bs bm bmB : List Value} {hdct : Bool} {sn : List PySem.Str} {sub : List Value} {ab : Bool} {col : Option Bool} {dd : Option Addr} {k0 k1 k2 k3 k5 : Option Value} {B Bi newId initN initId : String}
theorem chk_new {M : Model} (F : ExcBaseFacts B newId initN bmB) (T : TailF B bm) {rest : List Value} {Q : Unit → Shared → Prop}
    (hC : h.get? C = some (excClassObj nm q C N bs bm hdct sn sub ab col dd k0 k1 k2 k3 k5 newId)) (hq : Q () ⟨h, g, d, t, os⟩) : wpAny M A (checkBuiltinCall newId ⟨.ref C :: rest, []⟩) Q E ⟨h, g, d, t, os⟩ := by
  have c1 : (Value.ref C :: bm).contains (.type B) = true := by rw [List.contains_cons, T.hB, Bool.or_true]
  have c2 := F.noStar
  simp only [checkBuiltinCall, F.newKind, F.newSplit, F.newRow]
  repeat (first | refine wpAny_loadPart_at hC ?_ | (refine wpAny_isSubtype_exc hC ?_; rw [c1]) | refine wpAny_staticBase_exc hC ?_ | refine wpAny_madeBy_exc hC ?_ | simp only [bne_self_eq_false, Bool.false_eq_true, if_false] | wp_step)
  exact hq
theorem chk_init {M : Model} (G : InitF Bi initId) (hB : bm.contains (.type Bi) = true) {e : Addr} {oe : Obj} {rest : List Value} {Q : Unit → Shared → Prop}
    (hC : h.get? C = some (excClassObj nm q C N bs bm hdct sn sub ab col dd k0 k1 k2 k3 k5 newId)) (he : h.get? e = some oe) (hcls : oe.cls = .ref C) (hq : Q () ⟨h, g, d, t, os⟩) : wpAny M A (checkBuiltinCall initId ⟨.ref e :: rest, []⟩) Q E ⟨h, g, d, t, os⟩ := by
  have c1 : (Value.ref C :: bm).contains (.type Bi) = true := by rw [List.contains_cons, hB, Bool.or_true]
  have c2 := G.star
  simp only [checkBuiltinCall, G.kind, G.split, G.row]
  repeat (first | (with_reducible refine wpAny_loadPart_at he ?_; rw [hcls]) | with_reducible refine wpAny_loadPart_at hC ?_ | (with_reducible refine wpAny_isSubtype_exc hC ?_; rw [c1]) | wp_step)
  refine wpAny_onRaise ?_
  have z : ∀ (a b : String) (n : Nat), Bind.check ⟨.positional, "*", Bi, .self, [⟨"args", .varPos, false⟩]⟩ a b n (List.map (fun x => x.fst) ({ pos := Value.ref e :: rest } : Args).kw) = pure () := fun a b n => check_star_args _ _ _ _ _ _
  rw [z]
  exact wpAny_pure hq
theorem new_ex (F : ExcBaseFacts B newId initN bmB) (T : TailF B bm) {rest : List Value} (hC : h.get? C = some (excClassObj nm q C N bs bm hdct sn sub ab col dd k0 k1 k2 k3 k5 newId))
    (hq : R (.ok (.ret (.ref (h.objs.size + 1)))) ⟨(h.push { cls := .type "tuple", data := .seq rest.toArray }).push { cls := .ref C, data := .fields #[.ref h.objs.size, .none, .none, .none, .bool false, .none] }, g, d, t, os⟩) (hrest : rest.length ≤ sizeLine) :
    codeAny (model prog w) A (.builtin newId ⟨.ref C :: rest, []⟩) R ⟨h, g, d, t, os⟩ := by
  have c0 := F.ends
  have c1 : (Value.ref C :: bm).contains (.type B) = true := by rw [List.contains_cons, T.hB, Bool.or_true]
  have c2 : (Value.ref C :: bm).contains (.type "AttributeError") = false := by rw [List.contains_cons, T.hA] <;> rfl
  have c3 : (Value.ref C :: bm).contains (.type "NameError") = false := by rw [List.contains_cons, T.hN] <;> rfl
  refine codeAny_builtinAt F.entry ?_
  unfold Builtin.«BaseException.__new__»; refine PySem.wpAt_bind ?_
  show PySem.wpAt _ _ _ (stack >>= _) _ _ _
  refine PySem.wpAt_bind (PySem.wpAt_stack fun p below => PySem.wpAt_of_wpAny ?_); wp_walk
  refine PySem.wpAt_of_wpAny ?_; rw [F.owner]
  repeat (first | with_reducible refine wpAny_madeHere_exc F.canon hC ?_ | with_reducible refine wpAny_loadPart_at hC ?_ | (with_reducible refine wpAny_isSubtype_exc hC ?_; first | rw [c1] | rw [c2] | rw [c3]) | wp_step)
  show R _ _
  rw [Heap.size_push]; exact hq
theorem tcall_ex (F : ExcBaseFacts B newId initN bmB) (T : TailF B bm) {rest : List Value} {fI : Addr} {Q : Fin → Shared → Prop} (hC : h.get? C = some (excClassObj nm q C N bs bm hdct sn sub ab col dd k0 k1 k2 k3 k5 newId))
    (hi : PySem.W.Looks (model prog w) h (typeLookup (.ref C) "__init__") (some (.ref fI))) (hb : ∀ self, PySem.W.Looks (model prog w) h (bindSpecial (.ref fI) self) (.ref fI, [self])) (hrest : rest.length ≤ sizeLine)
    (hq : codeAny (model prog w) A (.call (.ref fI) ⟨.ref (h.objs.size + 1) :: rest, []⟩) (fun r s' => match r with | .ok (.ret v) => v = .none ∧ Q (.done (.ret (.ref (h.objs.size + 1)))) s' | .ok _ => False | .error e => E e s') ⟨(h.push (W.kdv_tup rest)).push (HandSPX.excO C h.objs.size), g, d, t, os⟩) :
    wpAny (model prog w) A (Builtin.«type.__call__» ⟨.ref C :: rest, []⟩) Q E ⟨h, g, d, t, os⟩ := by
  repeat (first | with_reducible refine wpAny_loadPart_at hC ?_ | with_reducible refine wpAny_madeBy_exc hC ?_ | wp_step)
  refine codeAny_call_builtin_code (Code.quiet_builtin _ F.quiet) (chk_new F T hC ?_); refine new_ex F T hC ?_ hrest
  show wpAny _ _ _ _ _ _
  have k : ∀ b o, h.get? b = some o → ((h.push (W.kdv_tup rest)).push (HandSPX.excO C h.objs.size)).get? b = some o := fun b o e => Heap.get?_push_of_some _ (Heap.get?_push_of_some _ e)
  have hC1 := k _ _ hC
  have hget : ((h.push (W.kdv_tup rest)).push (HandSPX.excO C h.objs.size)).get? (h.objs.size + 1) = some (HandSPX.excO C h.objs.size) := by heap_get
  have cC : (Value.ref C :: bm).contains (.ref C) = true := by simp
  have i1 := hi.keeps k; have b1 := (hb (.ref (h.objs.size + 1))).keeps k
  unfold isInstance
  repeat (first | with_reducible refine wpAny_loadPart_at hget ?_ | (with_reducible refine wpAny_isSubtype_exc hC1 ?_; rw [cC]) | wp_step)
  show wpAny _ _ (typeLookup (.ref C) _) _ _ _
  refine i1.at ?_; refine wpAny_holding (wpAny_bind (b1.at ?_))
  refine wpAny_bind (wpAny_call (codeAny_mono hq fun r s' z => ?_))
  rcases r with e | (v | _ | _ | _) <;> first | exact z | exact z.elim | skip
  obtain ⟨rfl, z⟩ := z
  first | exact wpAny_pure (wpAny_pure z) | (wp_walk; exact z)
theorem call_ex (F : ExcBaseFacts B newId initN bmB) (T : TailF B bm) {rest : List Value} {fI : Addr} (hC : h.get? C = some (excClassObj nm q C N bs bm hdct sn sub ab col dd k0 k1 k2 k3 k5 newId))
    (hi : PySem.W.Looks (model prog w) h (typeLookup (.ref C) "__init__") (some (.ref fI))) (hb : ∀ self, PySem.W.Looks (model prog w) h (bindSpecial (.ref fI) self) (.ref fI, [self])) (hrest : rest.length ≤ sizeLine)
    (hq : codeAny (model prog w) (A.under (.builtin "type.__call__" ⟨.ref C :: rest, []⟩)) (.call (.ref fI) ⟨.ref (h.objs.size + 1) :: rest, []⟩) (W.InitBack (h.objs.size + 1) R) ⟨(h.push (W.kdv_tup rest)).push (HandSPX.excO C h.objs.size), g, d, t, os⟩) :
    codeAny (model prog w) A (.call (.ref C) ⟨rest, []⟩) R ⟨h, g, d, t, os⟩ := by
  have f1 := tc_lookup; have f2 := tc_bind (.ref C)
  have hTy : (⟨h, g, d, t, os⟩ : Shared).TypeIs (.ref C) "type" := ⟨_, hC, rfl⟩
  refine codeAny_of_tree ?_
  show wpAny _ _ (callAny (.ref C) _) _ _ _
  repeat (any_goals (first | assumption | with_reducible refine wpAny_loadPart_at hC ?_ | wp_step))
  refine ⟨rfl, ?_⟩
  refine codeAny_call_builtin_at (Code.quiet_builtin _ (by decide +kernel)) entry_typeCall (wpAny_check_type_call_sub hC (tcall_ex F T hC hi hb hrest ?_))
  refine codeAny_mono hq fun r s' z => ?_
  rcases r with e | (v | _ | _ | _) <;> exact z
/-- Base.__init__(e, ..): the args are laid anew -/
theorem base_init (G : InitF Bi initId) (hB : bm.contains (.type Bi) = true) {e t0 : Addr} {rest : List Value} (hC : h.get? C = some (excClassObj nm q C N bs bm hdct sn sub ab col dd k0 k1 k2 k3 k5 newId)) (he : h.get? e = some (HandSPX.excO C t0)) (hrest : rest.length ≤ sizeLine)
    (hq : ∀ h' t1, (∀ b o, b ≠ e → h.get? b = some o → h'.get? b = some o) → h'.get? e = some (HandSPX.excO C t1) → R (.ok (.ret .none)) ⟨h', g, d, t, os⟩) : codeAny (model prog w) A (.call (.builtin initId) ⟨.ref e :: rest, []⟩) R ⟨h, g, d, t, os⟩ := by
  refine codeAny_call_builtin G.init.plain G.entry (chk_init G hB hC he rfl ?_); wp_walk
  refine hq _ h.objs.size (fun b o hb ho => ?_) ?_
  · rw [Heap.get?_update_other _ _ (Ne.symm hb)]; exact Heap.get?_push_of_some _ ho
  · rw [Heap.get?_update_self _ (Heap.get?_push_of_some _ he) rfl] <;> rfl
end
section
variable {prog : Program} {w : World} {A : Around} {E : Value → Shared → Prop} {R : Result → Shared → Prop} {hp : Heap} {g : Array GenState} {d : Drawn} {t : Nat} {os : OsState}
/-- the class's line lets a field be stored -/
structure Passes (C : Addr) (cd : ClassData) : Prop where
  ne : cd.mro.isEmpty = false
  ob : cd.mro.contains (.type "object") = true
  ok : ∀ self : Value, refuseLoop self "__setattr__" cd.mro = pure ()
  hd : cd.hasDict = true
theorem osa_new {K : W.Frag} {name : PySem.Str} {tk : Tok} {v : Value} {x C : Addr} {fv : Array Value} {cd : ClassData}
    (X : K.In hp) (hx : hp.get? x = some { cls := .ref C, data := .fields fv }) (hcd : W.clsIn K C = some cd) (P : Passes C cd) (ha : W.findIn K (.ref C) name = some none)
    (hq : ∀ h' tk' dx, (∀ b o, b ≠ x → hp.get? b = some o → h'.get? b = some o) → hp.objs.size ≤ dx → dx ≠ x → h'.get? x = some { cls := .ref C, dict := some dx, data := .fields fv } → h'.Ns1 dx (fun y => if y = name then some v else none) → R (.ok (.ret .none)) ⟨h', g, d, tk', os⟩) :
    codeAny (model prog w) A (.call (.builtin "object.__setattr__") ⟨[.ref x, .str name tk, v], []⟩) R ⟨hp, g, d, t, os⟩ := by
  have I : W.InstAt hp x { cls := .ref C, data := .fields fv } C none := ⟨hx, rfl, rfl, trivial⟩
  have SF := F.store_object
  have hxs : x ≠ hp.objs.size := Nat.ne_of_lt (Heap.lt_size hx)
  have sb : W.Looks (model prog w) hp (isInstance (.ref x) (.type "object")) true := I.type.andThen (W.looks_mroIn X (by unfold W.mroIn; rw [hcd, Option.bind_some, if_neg (by rw [P.ne]; decide), P.ob]))
  refine codeAny_call_builtin SF.slot.plain SF.entry (@W.check_slot (model prog w) _ _ ⟨hp, g, d, t, os⟩ "object.__setattr__" "object" "__setattr__" (.ref x) [.str name tk, v] [] _ SF.kind SF.split sb (SF.args (.ref x) (.str name tk) v) ?_)
  have l1 : W.Looks (model prog w) hp (mroOf (.ref C)) cd.mro := (W.looks_clsIn X hcd).andThen .now
  have l2 : W.Looks (model prog w) hp (storeTaker? none) none := .now
  have l3 : W.Looks (model prog w) hp (classData C) cd := W.looks_clsIn X hcd
  rw [W.osa_eq, refuse_eq]
  refine wpAny_bind (wpAny_bind (I.type.at (wpAny_bind (l1.at ?b)))); rw [P.ok]
  refine wpAny_pure (wpAny_bind (I.type.at (wpAny_bind ((W.looks_findIn X ha).at (wpAny_bind (l2.at ?c))))))
  show wpAny _ _ (storeInOwnDict (.ref x) (.ref C) (.str name tk) name v false) _ _ _
  have hd := P.hd
  obtain ⟨nm, bs, mro, ns, qn, hd', sn, sb', ab, col, del⟩ := cd
  dsimp only at hd
  subst hd
  unfold storeInOwnDict ownDictForStores
  repeat (first | with_reducible refine HandSPX.store_in_new ?_ ?_ | with_reducible refine wpAny_loadPart_at hx ?_ | with_reducible refine l3.at ?_ | wp_step)
  · exact ⟨_, #[], _, (Heap.get?_update_ne _ _ _ _ hxs.symm).trans (Heap.get?_push_at rfl rfl), rfl, fun e he => absurd he (by simp), fun _ => rfl⟩
  · intro h' tk' hn' hs
    have hx1 : (hp.push { cls := .type "dict", data := .dict #[] }).get? x = some { cls := .ref C, data := .fields fv } := Heap.get?_push_of_some _ hx
    refine hq h' tk' hp.objs.size (fun b o hb ho => ?_) (Nat.le_refl _) hxs.symm ?_ hn'
    · exact (hs.2 b (Nat.ne_of_lt (Heap.lt_size ho))).trans ((Heap.get?_update_ne _ _ _ _ hb).trans (Heap.get?_push_of_some _ ho))
    · exact (hs.2 x hxs).trans (Heap.get?_update_self _ hx1 rfl)
end
end K0
/-! Own exception classes with an __init__ of their own that calls their base's and keeps one value. -/
namespace K0
open PySem PySem.Spec PyProof.Rows L2

/-- what the written part says of such a class: B its built-in base, Bn the class whose __new__ it has, f its field -/
structure OwnX (K : PySem.W.Frag) (C : Addr) (B Bn newId : String) (f : PySem.Str) : Prop where
  cls : ∃ nm q N bs bm sn sub ab col dd k0 k1 k2 k3 k5, K.lookup C = some (excClassObj nm q C N bs bm true sn sub ab col dd k0 k1 k2 k3 k5 newId) ∧ TailF Bn bm ∧ bm.contains (.type B) = true ∧ bm.contains (.type "object") = true ∧ ∀ self : Value, refuseLoop self "__setattr__" bm = pure ()
  sa : PySem.W.findIn K (.ref C) "__setattr__" = some (some (.builtin "object.__setattr__"))
  noF : PySem.W.findIn K (.ref C) f = some none
  kC : PySem.W.keepIn K (.ref C) = true
section
variable {K : PySem.W.Frag} {C : Addr} {B Bn newId : String} {f : PySem.Str}
theorem OwnX.line (T : OwnX K C B Bn newId f) : ∃ cd, PySem.W.clsIn K C = some cd ∧ Passes C cd := by
  obtain ⟨nm, q, N, bs, bm, sn, sub, ab, col, dd, k0, k1, k2, k3, k5, hC, t1, t2, t3, t4⟩ := T.cls
  refine ⟨{ name := nm, bases := bs, mro := .ref C :: bm, ns := N, qualname := q, hasDict := true, slotNames := sn, subclasses := sub, abstract := ab, collection := col, hasDel := false }, by unfold PySem.W.clsIn; rw [hC] <;> rfl, ⟨rfl, ?_, fun self => ?_, rfl⟩⟩
  · show (Value.ref C :: bm).contains (.type "object") = true
    rw [List.contains_cons, t3, Bool.or_true]
  · show refuseLoop self "__setattr__" (Value.ref C :: bm) = pure ()
    rw [refuseLoop_ref, t4]
end
section
variable {X : Cx} {pins : List (Addr × Obj)} {σ : L2.St} {H : Hp} {s : Shared} {a C : Addr} {B Bn newId initN initId : String} {bmB : List Value} {f : PySem.Str}
/-- self.f = y on a new one -/
theorem field_new (T : OwnX X.K C B Bn newId f) (I : Inv X pins σ H s) (e : H a = some (exo a C none)) {y : V} {u : Value} (ry : RelV y u) {Q : Unit → Shared → Prop} {E : Value → Shared → Prop} {A : Around}
    (h : ∀ dx s', H dx = none → dx ≠ a → Inv X pins σ (upd (upd H dx (exd dx [(f, y)])) a (exo a C (some dx))) s' → Q () s') : wpAny (model X.prog X.w) A (setAttr (.ref a) f u) Q E s := by
  obtain ⟨cd, hcl, P⟩ := T.line
  obtain ⟨t1, ho⟩ := exo_at I.hok e
  obtain ⟨hp, g, d, t, os⟩ := s
  refine PySem.W.set_plain I.kIn (ox := { cls := .ref C, dict := none, data := .fields #[.ref t1, .none, .none, .none, .bool false, .none] }) (od := none) ⟨ho, rfl, rfl, trivial⟩ T.sa ?_
  refine osa_new I.kIn ho hcl P T.noF (fun h' tk' dx k dn dne hx hn => ?_)
  have hnd : H dx = none := I.hok.fresh dn
  have nd : ∀ {b : Addr} {o : Obj}, hp.get? b = some o → b ≠ dx := fun {b o} q => Nat.ne_of_lt (Nat.lt_of_lt_of_le (Heap.lt_size q) dn)
  have na : ∀ {b : Addr}, H b = none → b ≠ a := fun {b} n z => by rw [z, e] at n; cases n
  have U : Un X.fs [] H (upd (upd H dx (exd dx [(f, y)])) a (exo a C (some dx))) hp h' := {
    keep := fun b o q n _ _ => k b o (na n) q, slot := fun b o q n _ _ => ⟨o.slots, k b o (na n) q⟩,
    free := fun b o q n _ => by rw [upd_ne (na n), upd_ne (nd q)] <;> exact n,
    there := fun b o q _ => by
      by_cases hb : b = a
      · exact ⟨_, by rw [hb] <;> exact hx⟩
      · exact ⟨o, k b o hb q⟩,
    tups := fun b xs q => by rw [upd_ne (at_ne e q exo_tup), upd_ne (ne_of_none q hnd)] <;> exact q,
    frzs := fun b o v q => by rw [upd_ne (at_ne e q exo_frz), upd_ne (ne_of_none q hnd)] <;> exact q,
    tbls := fun b ps q => ⟨#[], by rw [upd_ne (at_ne e q exo_tbl), upd_ne (ne_of_none q hnd), q] <;> simp⟩ }
  refine h dx _ hnd dne (I.un (t' := tk') U fun b o q => ?_)
  by_cases hb : b = a
  · subst hb; rw [upd_same] at q; cases q; exact exo_ok hx
  · rw [upd_ne hb] at q
    by_cases hd : b = dx
    · subst hd; rw [upd_same] at q; cases q; exact exd_ok hn (relO_put (fs := []) ry fun g => True.intro)
    · rw [upd_ne hd] at q
      exact (I.hok b o q).stay (fun c v hc z => k c v (by
          rcases hc with hc | hc
          · rw [hc] <;> exact hb
          · exact at_ne e hc exo_own) z) (fun c hc => by rw [upd_ne (at_ne e hc exo_own), upd_ne (ne_of_none hc hnd)] <;> exact hc) (fun c xs hc => by rw [upd_ne (at_ne e hc exo_tup), upd_ne (ne_of_none hc hnd)] <;> exact hc)
/-- B.__init__(self, ..) -/
theorem init_new (G : InitF B initId) (T : OwnX X.K C B Bn newId f) (I : Inv X pins σ H s) (e : H a = some (exo a C none)) {us : List Value} {Q : Value → Shared → Prop} (hl : us.length ≤ sizeLine) (h : ∀ s', Inv X pins σ H s' → Q .none s') :
    wpAny (model X.prog X.w) X.A (call (.builtin initId) (.ref a :: us)) Q X.xe s := by
  obtain ⟨nm, q, N, bs, bm, sn, sub, ab, col, dd, k0, k1, k2, k3, k5, hC, t1, t2, t3, t4⟩ := T.cls
  obtain ⟨t1, ho⟩ := exo_at I.hok e
  obtain ⟨hp, g, d, t, os⟩ := s
  refine wpAny_call (base_init G t2 (I.kIn _ _ hC) ho hl fun h' t2 k hx => ?_)
  have J := I.write (t' := t) (x := a) (e := a) (o := exo a C none) (by rw [e] <;> exact True.intro) (.inl rfl) k ⟨_, hx⟩ (exo_ok hx)
  have eu : upd H a (exo a C none) = H := by
    funext b
    by_cases hb : b = a
    · rw [hb, upd_same, e]
    · rw [upd_ne hb]
  rw [eu] at J
  exact h _ J
end
/-- B.__init__(self, ..): what it asks -/
def tInit (K : PySem.W.Frag) (B Bn newId : String) (f : PySem.Str) (ta : TA) : TE := fun σ H Q => ta σ H fun vs H1 => ∃ (a C : Addr) (ws : List V), vs = .ref a :: ws ∧ ws.length ≤ 1000 ∧ OwnX K C B Bn newId f ∧ H1 a = some (exo a C none) ∧ Q .non H1
/-- self.f = e: what it asks -/
def tFirst (K : PySem.W.Frag) (B Bn newId : String) (f : PySem.Str) (to te : TE) : TS := fun D σ H => te σ H fun y H1 => to σ H1 fun x H2 => ∃ a C : Addr, x = .ref a ∧ OwnX K C B Bn newId f ∧ H2 a = some (exo a C none) ∧ ∀ dx, H2 dx = none → dx ≠ a → D.nx σ (upd (upd H2 dx (exd dx [(f, y)])) a (exo a C (some dx)))
section
variable {X : Cx} {B Bn newId initId : String} {f : PySem.Str} {o e : Expr} {es : List Expr} {to te : TE} {ta : TA} {p p' p1 p2 pos : Pos}
theorem pe_binit {x : PySem.Str} {pl : Sem Bool} (G : InitF B initId) (hg : Gl X x) (hm : X.mg x = none) (hv : bootBuiltins x = some (.type B)) (n1 : x ≠ "__name__") (n2 : (x == ("__debug__" : PySem.Str)) = false) (ty : typeOf (.type B) = pure (.type "type")) (nst : Manifest.isStub B = false)
    (vV : PySem.W.findCls X.K (.type B) (.type "type") "__init__" = some (.val (.builtin initId))) (hh : PySem.W.handedIn (.builtin initId) = true) (ha : PA X (e :: es) ta)
    (hc : eval (.Call (.Attribute (.Name x p1) "__init__" p2) (e :: es) [] pos) X.env = (do
      let ov ← eval (.Name x p1) X.env
      standAt p2.atName
      let (f, first) ← holding [ov] (getMethod ov "__init__" pl)
      callWith pos f first (backTo pos (starEach (e :: es) X.env)) (backToKw pos (keywordEach [] X.env))) := by rfl)
    (he : starEach (e :: es) X.env = (false, eval e X.env) :: starEach es X.env := by rfl) (hpl : (backTo pos (starEach es X.env)).any (·.1) = false := by rfl) :
    PE X (.Call (.Attribute (.Name x p1) "__init__" p2) (e :: es) [] pos) (tInit X.K B Bn newId f ta) := by
  refine ⟨fun pins s σ H Q I h => ?_⟩
  refine PySem.W.methodCall_KW (ld_blt I hg hm hv ?_ n1 n2) hc
  obtain ⟨m, fr⟩ := I.fr
  refine PySem.W.method_type fr I.ok.mod.kin ty nst vV hh ?_
  show wpAny _ _ (callWith pos (Value.builtin initId) [] (backTo pos (starEach (e :: es) X.env)) []) _ _ _
  refine PyProof.Rows.callWith_method1 (thn (ha.run pos pins _ σ H _ (I.tok _) h) fun us s1 ⟨vs, H1, I1, r1, a, C, ws, ev, hl, T, ea, q⟩ => ?_) he hpl
  subst ev
  cases r1 with
  | @cons _ u0 _ ur ra rw' =>
    obtain rfl : u0 = Value.ref a := ra
    have hlen : ur.length ≤ sizeLine := by rw [← Paired.length rw', sizeLine_eq]; omega
    exact init_new G T I1 ea hlen fun s' J => ⟨.non, H1, J, rfl, q⟩
theorem ps_first (ho : PE X o to) (he : PE X e te) (hs : swapsWith e (some (.Attribute o f p')) pos.line X.env = pure false := by rfl) : PS X (.Assign [.Attribute o f p'] e pos) (tFirst X.K B Bn newId f to te) := by
  refine ⟨fun pins s σ H D I h => ?_⟩
  refine plainObj_wpAny_Assign_Attribute (thn (he.run pins s σ H _ I h) fun v s1 ⟨y, H1, I1, r1, q1⟩ => thn (ho.run pins s1 σ H1 _ I1 q1) fun u s2 ⟨x, H2, I2, r2, a, C, ex, T, ea, q⟩ => ?_) hs
  subst ex
  obtain rfl : u = Value.ref a := r2
  exact field_new T I2 ea r1 fun dx s' n ne J => ⟨σ, _, J, q dx n ne⟩
end
/-- the promise of such an __init__ -/
def spInit (K : PySem.W.Frag) (B Bn newId : String) (f : PySem.Str) : Sp := fun vs H Q _ => ∃ (a C : Addr) (v : V), vs = [.ref a, v] ∧ OwnX K C B Bn newId f ∧ H a = some (exo a C none) ∧ ∀ d, H d = none → d ≠ a → Q .non (upd (upd H d (exd d [(f, v)])) a (exo a C (some d)))
/-- C(e) -/
theorem pe_exi {X : Cx} {CX : CXT} {x : PySem.Str} {C fI : Addr} {k : Nat} {fd : FuncData} {ps : List PySem.Str} {B Bn newId initN : String} {bmB : List Value} {f : PySem.Str} {e : Expr} {ta : TE} {p pos : Pos} (FB : ExcBaseFacts Bn newId initN bmB) (T : OwnX X.K C B Bn newId f)
    (iC : PySem.W.findIn X.K (.ref C) "__init__" = some (some (.ref fI))) (tI : PySem.W.typeIn X.K (.ref fI) = some (.type "function")) (F1 : FnOk X.prog X.w X.K X.mg X.base CX0 k fI fd ps (spInit X.K B Bn newId f)) (hr : Room (k + 1) X.A) (hb : Binds X.K fd ps [])
    (hg : Gl X x) (hm : X.mg x = some (.ref C)) (ha : PE X e ta) (hdb : (x == ("__debug__" : PySem.Str)) = false := by decide) (he : starEach [e] X.env = (false, eval e X.env) :: starEach [] X.env := by rfl) :
    PE X (.Call (.Name x p) [e] [] pos) (fun σ H Q => ta σ H fun v H1 => ∀ a d, H1 a = none → H1 d = none → d ≠ a → Q (.ref a) (upd (upd H1 d (exd d [(f, v)])) a (exo a C (some d)))) := by
  refine ⟨fun pins s σ H Q I h => ?_⟩
  obtain ⟨nm, q, N, bs, bm, sn, sub, ab, col, dd, k0, k1, k2, k3, k5, hC, t1, t2, t3, t4⟩ := T.cls
  refine wpAny_Call_Name_kw (ld_glob I hg hm ?_ hdb)
  refine PySem.W.callWith_K (h₀ := X.base) I.ok.mod.kin T.kC ?_ he (by rfl)
  rw [he]
  show wpAny _ _ (spliced ((false, eval e X.env) :: backTo pos (starEach [] X.env))) _ _ s
  refine Calls.spliced_cons (thn (ha.run pins s σ H _ I h) fun u s1 ⟨v, H1, I1, r1, q1⟩ => ?_)
  refine Calls.spliced_nil ⟨I1.kIn, ?_⟩
  show wpAny _ _ (call (.ref C) [u]) _ _ _
  obtain ⟨hp, g, dr, tk, os⟩ := s1
  have hsz : hp.objs.size ≤ hp.objs.size + 1 := Nat.le_succ _
  have hn : H1 (hp.objs.size + 1) = none := I1.hok.fresh hsz
  have kk : ∀ b o, hp.get? b = some o → ((hp.push (PySem.W.kdv_tup [u])).push (PySem.HandSPX.excO C hp.objs.size)).get? b = some o := fun b o e => Heap.get?_push_of_some _ (Heap.get?_push_of_some _ e)
  have hget : ((hp.push (PySem.W.kdv_tup [u])).push (PySem.HandSPX.excO C hp.objs.size)).get? (hp.objs.size + 1) = some (PySem.HandSPX.excO C hp.objs.size) := by heap_get
  have I2 : Inv X pins σ (upd H1 (hp.objs.size + 1) (exo (hp.objs.size + 1) C none)) ⟨(hp.push (PySem.W.kdv_tup [u])).push (PySem.HandSPX.excO C hp.objs.size), g, dr, tk, os⟩ := I1.laid (t' := tk) kk hsz (exo_ok hget)
  have r2 : Vals [V.ref (hp.objs.size + 1), v] [Value.ref (hp.objs.size + 1), u] := .cons rfl (.cons r1 .nil)
  have hq : spInit X.K B Bn newId f [.ref (hp.objs.size + 1), v] (upd H1 (hp.objs.size + 1) (exo (hp.objs.size + 1) C none)) (fun z H2 => z = .non ∧ ∃ d, H1 d = none ∧ d ≠ hp.objs.size + 1 ∧ H2 = upd (upd H1 d (exd d [(f, v)])) (hp.objs.size + 1) (exo (hp.objs.size + 1) C (some d))) E0 := by
    refine ⟨_, C, v, rfl, T, upd_same, fun d hd hne => ⟨rfl, d, by rw [upd_ne hne] at hd; exact hd, hne, ?_⟩⟩
    funext b
    by_cases hb : b = hp.objs.size + 1
    · rw [hb, upd_same, upd_same]
    · rw [upd_ne hb, upd_ne hb]
      by_cases hbd : b = d
      · rw [hbd, upd_same, upd_same]
      · rw [upd_ne hbd, upd_ne hbd, upd_ne hb]
  have hl : ([Value.ref (hp.objs.size + 1), u] ++ []).length = ps.length := by have z := F1.len _ _ _ _ hq; exact z
  refine wpAny_call (call_ex FB t1 (I1.kIn _ _ hC) (PySem.W.looks_findIn I1.kIn iC) (fun self => PySem.W.bind_fn I1.kIn self tI) (by show 1 ≤ sizeLine; rw [sizeLine_eq]; omega)
    (codeAny_mono (F1.run _ X.stack _ _ ⟨[Value.ref (hp.objs.size + 1), u], []⟩ [Value.ref (hp.objs.size + 1), u] _ _ (fun _ _ _ => False) (hr.make C [u] []) (I2.env0.make C [u] []) (by simpa using hb _ [Value.ref (hp.objs.size + 1), u] I2.kIn hl) r2 hq) fun r s' hq' => ?_))
  cases r with
  | error er => exact hq'.elim
  | ok fl =>
    cases fl with
    | ret w =>
      obtain ⟨z, H2, os2, bare2, un2, hok2, rz, ez, d, hd, hne, eH⟩ := hq'
      subst ez eH
      exact ⟨rz, ⟨.ref (hp.objs.size + 1), _, I2.call' (ch := []) os2 un2 hok2 bare2 (fun b z => absurd z (by simp)), rfl, q1 _ d hn hd hne⟩⟩
    | next => exact False.elim hq'
    | brk => exact False.elim hq'
    | cont => exact False.elim hq'
end K0
/-! repr of a list of kept values; defs that run where no repr is under way; a text times a number; a power of a great number. -/
namespace K0
open PySem PySem.Spec PyProof.Rows L2

/-- texts that are kept: few signs, each a sign -/
def Few (x : PySem.Str) : Prop := x.length ≤ 600 ∧ ∀ c ∈ x.cps.toList, c < 16 ^ 8
/-- a value that an error may keep, and how it reads -/
inductive Kp (H : Hp) : V → PyData → Prop
  | non : Kp H .non .none
  | bl (b : Bool) : Kp H (.bl b) (.bool b)
  | int (i : Int) (h : i.natAbs.log2 < 90) : Kp H (.int i) (.int i)
  | str (x : PySem.Str) (h : Few x) : Kp H (.str x) (.str x)
  | tup {a : Addr} {n : Int} {x : PySem.Str} (e : H a = some (.tup [.int n, .str x])) (h : n.natAbs.log2 < 90) (hx : Few x) : Kp H (.ref a) (.tuple [.int n, .str x])
  | lst {a : Addr} {n : Int} (e : H a = some (.lst [.int n])) (h : n.natAbs.log2 < 90) : Kp H (.ref a) (.list [.int n])
  | dic {a : Addr} {n : Int} {x : PySem.Str} (e : H a = some (.dK [(Sum.inl n, .str x)])) (h : n.natAbs.log2 < 90) (hx : Few x) : Kp H (.ref a) (.dict [(.int n, .str x)])
theorem Kp.same {H H' : Hp} {v : V} {d : PyData} (h : Kp H v d) (s : Same H H') : Kp H' v d := by
  cases h with
  | non => exact .non
  | bl b => exact .bl b
  | int i h => exact .int i h
  | str x h => exact .str x h
  | tup e h hx => exact .tup (s _ _ e) h hx
  | lst e h => exact .lst (s _ _ e) h
  | dic e h hx => exact .dic (s _ _ e) h hx
theorem short_int {i : Int} (h : i.natAbs.log2 < 90) : (PyData.shown (.int i)).length ≤ 91 := by
  have z := int_text_length_le (by decide) h
  show (PySem.Str.ofString (toString i)).length ≤ 91
  rw [PySem.ofString_length]
  omega
theorem leaf_str {x : PySem.Str} (h : Few x) : (x.cps.toList.all fun c => decide (c < 16 ^ 8)) = true := List.all_eq_true.mpr fun c hc => decide_eq_true (h.2 c hc)
theorem int_weight {i : Int} (h : i.natAbs.log2 < 90) : (PyData.int i).weight ≤ 90 := by
  show (if i == 0 then 0 else i.natAbs.log2 + 1) ≤ 90
  split <;> omega
theorem str_weight {x : PySem.Str} (h : Few x) : (PyData.str x).weight ≤ 600 := h.1
theorem Kp.facts {H : Hp} {v : V} {d : PyData} (h : Kp H v d) : d.showable = true ∧ d.leavesShort 91 = true ∧ d.weight ≤ 700 ∧ d.depth ≤ 3 := by
  have sh : ∀ {i : Int}, i.natAbs.log2 < 90 → (PyData.int i).showable = true := fun {i} h => by simp only [PyData.showable]; exact decide_eq_true (by omega)
  have sl : ∀ {i : Int}, i.natAbs.log2 < 90 → (PyData.int i).leavesShort 91 = true := fun {i} h => by simp only [PyData.leavesShort]; exact decide_eq_true (short_int h)
  have ss : ∀ {x : PySem.Str}, Few x → (PyData.str x).leavesShort 91 = true := fun {x} h => by simp only [PyData.leavesShort]; exact leaf_str h
  have sv : ∀ {x : PySem.Str}, (PyData.str x).showable = true := fun {x} => by simp only [PyData.showable]
  cases h with
  | non => exact ⟨rfl, by decide +kernel, by decide +kernel, by decide +kernel⟩
  | bl b => cases b <;> exact ⟨rfl, by decide +kernel, by decide +kernel, by decide +kernel⟩
  | int i h => exact ⟨sh h, sl h, Nat.le_trans (int_weight h) (by decide), by simp [PyData.depth]⟩
  | str x h => exact ⟨sv, ss h, Nat.le_trans (str_weight h) (by decide), by simp [PyData.depth]⟩
  | @tup a n x e h hx =>
    have w1 := int_weight h; have w2 := str_weight hx
    refine ⟨by simp only [PyData.showable, PyData.showableAll, Bool.and_true]; exact decide_eq_true (by omega), ?_, ?_, by simp [PyData.depth, PyData.depthAll]⟩
    · have a1 := sl h; have a2 := ss hx
      simp only [PyData.leavesShort, PyData.leavesShortAll, Bool.and_true] at a1 a2 ⊢
      rw [a1, a2] <;> rfl
    · show (PyData.int n).weight + 1 + ((PyData.str x).weight + 1 + 0) ≤ 700
      omega
  | @lst a n e h =>
    have w1 := int_weight h
    refine ⟨by simp only [PyData.showable, PyData.showableAll, Bool.and_true]; exact decide_eq_true (by omega), ?_, ?_, by simp [PyData.depth, PyData.depthAll]⟩
    · have a1 := sl h
      simp only [PyData.leavesShort, PyData.leavesShortAll, Bool.and_true] at a1 ⊢
      exact a1
    · show (PyData.int n).weight + 1 + 0 ≤ 700
      omega
  | @dic a n x e h hx =>
    have w1 := int_weight h; have w2 := str_weight hx
    refine ⟨by simp only [PyData.showable, PyData.showableKv, Bool.and_true]; exact decide_eq_true (by omega), ?_, ?_, by simp [PyData.depth, PyData.depthKv]⟩
    · have a1 := sl h; have a2 := ss hx
      simp only [PyData.leavesShort, PyData.leavesShortKv, Bool.and_true] at a1 a2 ⊢
      rw [a1, a2] <;> rfl
    · show (PyData.int n).weight + (PyData.str x).weight + 2 + 0 ≤ 700
      omega
inductive KpAll (H : Hp) : List V → List PyData → Prop
  | nil : KpAll H [] []
  | cons {v : V} {vs : List V} {d : PyData} {ds : List PyData} : Kp H v d → KpAll H vs ds → KpAll H (v :: vs) (d :: ds)
theorem KpAll.facts {H : Hp} : ∀ {vs : List V} {ds : List PyData}, KpAll H vs ds → PyData.showableAll ds = true ∧ PyData.leavesShortAll 91 ds = true ∧ PyData.weightAll ds ≤ 701 * ds.length ∧ PyData.depthAll ds ≤ 3
  | _, _, .nil => ⟨rfl, rfl, by simp [PyData.weightAll], by simp [PyData.depthAll]⟩
  | _, _, .cons h t => by
    obtain ⟨a1, a2, a3, a4⟩ := h.facts
    obtain ⟨b1, b2, b3, b4⟩ := t.facts
    refine ⟨by simp [PyData.showableAll, a1, b1], by simp [PyData.leavesShortAll, a2, b2], ?_, ?_⟩
    · simp only [PyData.weightAll, List.length_cons]; omega
    · simp only [PyData.depthAll]; omega
section
variable {X : Cx} {pins : List (Addr × Obj)} {σ : L2.St} {H : Hp} {s : Shared}
theorem Kp.reads (I : Inv X pins σ H s) {v : V} {u : Value} {d : PyData} (h : Kp H v d) (r : RelV v u) : ∃ as, Reads s.heap u d as ∧ (d.hasDict = true → sysModules ∉ as) := by
  cases h with
  | non => cases r; exact ⟨_, .none, fun _ => by simp⟩
  | bl b => cases r; exact ⟨_, .bool b, fun _ => by simp⟩
  | int i h => obtain ⟨t, rfl⟩ := r; exact ⟨_, .int i t, fun _ => by simp⟩
  | str x h => obtain ⟨t, rfl⟩ := r; exact ⟨_, .str x t, fun _ => by simp⟩
  | tup e h hx =>
    cases r
    obtain ⟨its, rv, ⟨o, ho, hc, n, hd⟩, _⟩ := I.tuple (SqT.of e)
    cases rv with
    | cons r1 t1 => cases t1 with
      | cons r2 t2 =>
        cases t2
        obtain ⟨t, rfl⟩ := r1; obtain ⟨t', rfl⟩ := r2
        exact ⟨_, .tuple ho hc hd (.cons (.int _ t) (.cons (.str _ t') .nil)), fun _ => by simp⟩
  | lst e h =>
    cases r
    obtain ⟨its, rv, ⟨o, n, ho, hc, _, hd⟩, _⟩ := I.list (SqL.of e)
    cases rv with
    | cons r1 t1 =>
      cases t1
      obtain ⟨t, rfl⟩ := r1
      exact ⟨_, .list ho hc hd (.cons (.int _ t) .nil), PyData.noDict_hsm (by simp [PyData.hasDict, PyData.hasDictAll])⟩
  | dic e h hx =>
    cases r
    obtain ⟨_, hs, vs, kv, o, es, ep, ho, hx2, hd, _, hp, _⟩ := (show ObjOk X.prog X.w H s.heap _ (.dK _) from I.hok _ _ e)
    cases kv with
    | @cons _ q _ _ hkv t1 =>
      cases t1
      obtain ⟨hk, hv⟩ := hkv
      obtain ⟨k0, v0⟩ := q
      dsimp only at hk hv
      subst hk
      obtain ⟨t', rfl⟩ := hv
      obtain ⟨es⟩ := es
      cases hp with
      | @cons en _ _ _ h1 h2 h3 =>
        cases h3
        obtain ⟨t, et⟩ := Value.isInt_shape (k := _) (v := en.key) h1
        have ev : en.val = Value.str _ t' := h2
        refine ⟨_, Reads.dict (as := [] ++ []) (bs := [] ++ []) ho hx2.1 hd ?_ ?_, fun _ => by simpa using (beq_eq_false_iff_ne.mp hs).symm⟩
        · show ReadsAll _ [en.key] _ _
          rw [et]
          exact .cons (.int _ t) .nil
        · show ReadsAll _ [en.val] _ _
          rw [ev]
          exact .cons (.str _ t') .nil
theorem Kp.fits {H : Hp} {v : V} {d : PyData} (h : Kp H v d) : d.shown.length ≤ 70000 := by
  obtain ⟨_, f2, f3, _⟩ := h.facts
  have z := PyData.shown_le 91 (by decide) d f2
  have : (91 + 2) * d.weight ≤ (91 + 2) * 700 := Nat.mul_le_mul_left _ f3
  omega
/-- the items' texts -/
theorem KpAll.reads {prog : Program} {w : World} (I : Inv X pins σ H s) : ∀ {vs : List V} {ds : List PyData} {us : List Value}, KpAll H vs ds → Vals vs us →
    ∃ as bs, ReadsAll s.heap us ds as ∧ ReadAtMost s.heap (PyData.depthAll ds) bs ∧ ReprAllK prog w bs s.heap (PyData.depthAll ds) us (PyData.shownAll ds)
  | _, _, _, .nil, .nil => ⟨_, [], .nil, (fun _ h => nomatch h), by simp only [PyData.shownAll]; exact .nil⟩
  | _, _, _, .cons (d := d) (ds := ds) h t, .cons r1 r2 => by
    obtain ⟨as, q1, n1⟩ := h.reads I r1
    obtain ⟨cs, b2, q2, hb2, k2⟩ := KpAll.reads (prog := prog) (w := w) I t r2
    obtain ⟨b1, hb1, k1⟩ := ReprK.of_reads (prog := prog) (w := w) q1 h.facts.1 n1 (by have z := h.fits; rw [sizeLine_eq]; omega)
    refine ⟨_, b1 ++ b2, .cons q1 q2, fun b hm => ?_, ?_⟩
    · simp only [PyData.depthAll]
      rcases List.mem_append.mp hm with hm | hm
      · obtain ⟨d', as', r', hd'⟩ := hb1 b hm; exact ⟨d', as', r', Nat.le_trans hd' (Nat.le_max_left _ _)⟩
      · obtain ⟨d', as', r', hd'⟩ := hb2 b hm; exact ⟨d', as', r', Nat.le_trans hd' (Nat.le_max_right _ _)⟩
    · simp only [PyData.depthAll, PyData.shownAll]
      exact .cons ((k1.more fun b hb => List.mem_append_left _ hb).level_le (Nat.le_max_left _ _)) (k2.more_le (fun b hb => List.mem_append_right _ hb) (Nat.le_max_right _ _))
end
def rRepr : List V → Hp → VK → Prop := fun xs H Q => ∃ (l : Addr) (v : V) (vs : List V) (ds : List PyData), xs = [.ref l] ∧ H l = some (.lst (v :: vs)) ∧ KpAll H (v :: vs) ds ∧ ds.length ≤ 100 ∧ Q (.str (PyData.list ds).shown) H
theorem call_repr {X : Cx} {k : Nat} (hg : X.A.guards = some []) (hr : Room k X.A) : CallR X (.builtin "repr") rRepr := by
  intro pins s σ H xs us Q I r h
  obtain ⟨l, v, vs, ds, rfl, hl, hk, hz, q⟩ := h
  obtain ⟨u, rfl, ru⟩ := vals1 r
  obtain rfl : u = Value.ref l := ru
  obtain ⟨its, rv, ⟨o, n, ho, hc, _, hd⟩, _⟩ := I.list (SqL.of hl)
  obtain ⟨as, bs, hr', hb, hkk⟩ := hk.reads (prog := X.prog) (w := X.w) I rv
  obtain ⟨f1, f2, f3, f4⟩ := hk.facts
  have hu := hr.units
  have hsz : (PyData.list ds).shown.length ≤ sizeLine := by
    have z := PyData.shown_le 91 (by decide) (.list ds) (by simpa [PyData.leavesShort] using f2)
    have w1 : (PyData.list ds).weight ≤ 701 * ds.length := by simp only [PyData.weight]; omega
    rw [sizeLine_eq]
    have : (91 + 2) * (PyData.list ds).weight ≤ (91 + 2) * 70100 := Nat.mul_le_mul_left _ (by omega)
    omega
  have hsz' : (listText (PyData.shownAll ds)).length ≤ sizeLine := by simpa only [PyData.shown] using hsz
  have rr : Reads s.heap (.ref l) (.list ds) _ := Reads.list ho hc hd hr'
  have hna : l ∉ bs := not_mem_of_deeper rr (by simp only [PyData.depth]; omega) hb
  cases rv with
  | cons r1 r2 =>
    have hlen := hkk.length_eq
    refine call_repr_slot (by omega) (⟨o, ho, hc⟩ : s.TypeIs (.ref l) "list") F.slot_list_repr.toG (call_list_reprK (h₀ := s.heap) ho hc hd hna (by simpa using hlen) (fun i y e => hkk.item i y (by simpa using e)) (A := X.A.in1) hg (fun b _ => Clear.nil b)
      (by show X.A.units + 1 + (PyData.depthAll ds + 1) < cLine; omega) (fun _ _ e => e) (fun h' u tk hk' => ⟨_, _, rfl, .str (PyData.list ds).shown, H, I.kept (t' := tk) hk', ⟨u, ?_⟩, q⟩) hsz')
    simp only [PyData.shown]

/-! ### a def that is called where no repr is under way -/
structure FnG (P : Program) (w : World) (K : PySem.W.Frag) (mg : PySem.Str → Option Value) (base : Heap) (k : Nat) (f : Addr) (fd : FuncData) (ps : List PySem.Str) (sp : Sp) : Prop where
  len : ∀ vs H Q E, sp vs H Q E → vs.length = ps.length
  run : ∀ (A : Around) (outer : List Env) (s : Shared) (H : Hp) (args : Args) (us : List Value) (vs : List V) (Q : VK) (E : XK), A.guards = some [] → Room k A → Env0 P w K mg base A outer s H → BindsTo s fd args (ps.zip us) → Vals vs us → sp vs H Q E →
    codeAny (model P w) A (.call (.ref f) args) (CR CX0 outer P w H s Q E) s
theorem fng_of {P : Program} {w : World} {K : PySem.W.Frag} {mg : PySem.Str → Option Value} {base : Heap} {k : Nat} {f : Addr} {x qual : PySem.Str} {st : Stmt} {fd : FuncData} {N ps : List PySem.Str} {sp : Sp} (F : Fun K x qual st f fd) (S : FnScope N ps (defScope st)) (len : ∀ vs H Q E, sp vs H Q E → vs.length = ps.length)
    (hbody : ∀ (cdv : Value) (A : Around) (outer : List Env) (s : Shared) (H : Hp) (vs : List V) (Q : VK) (E : XK), A.guards = some [] → Room k (A.deeper (envOfC qual (defScope st) s.heap.objs.size f cdv)) → sp vs H Q E →
      ∃ t, PSs (cxOf CX0 P w K mg base N qual (defScope st) f cdv A outer s H E).nox (defBody st) t ∧ t { nx := fun _ H' => Q .non H', rt := Q } (start N vs) H) : FnG P w K mg base (k + 1) f fd ps sp := by
  obtain ⟨oc, od, kV, doc, pm, an, cdv, ct, osl, rfl, lk, hcd⟩ := F.ex
  refine ⟨len, fun A outer s H args us vs Q E hg hr e0 hb r hsp => ?_⟩
  have hl := len _ _ _ _ hsp
  have KX : K.In s.heap := e0.mod.kin.keeps fun b o e => (e0.bs b o e).1
  have lim : s.heap.NoLimit := e0.mod.nolimit.keeps fun b o e => (e0.bs b o e).1
  have hkind : ∀ y ∈ ps.zip us, (defScope st).names.lookup y.1 = some .local ∨ ((defScope st).names.lookup y.1 = some .cell ∧ ((cellsFrom (s.heap.objs.size + 1) (defScope st).names []).lookup y.1).isSome = true) := fun ⟨n, v⟩ hy => by
    rcases S.par n (List.of_mem_zip hy).1 with q | q
    · exact .inl q
    · exact .inr ⟨q, PySem.W.cellsFrom_some _ _ _ (.inl q)⟩
  refine codeAny_call_function hr.depth (KX _ _ lk) rfl S.co S.gen rfl (PySem.W.codeRec_of KX hcd) (hb _ _ _ _ ?_)
  refine wpAny_newFunctionEnv_cells S.kind hkind fun env he s1 x => ?_
  subst he
  refine ⟨lim.keeps x.toInCall.keep, codeAny_func ?_⟩
  obtain ⟨t, ht0, hq⟩ := hbody cdv A outer s H vs Q E hg (hr.deeper _) hsp
  have ht := ht0.nox
  have I : Inv (cxOf CX0 P w K mg base N qual (defScope st) f cdv A outer s H E) [] (start N vs) H s1 := inv_start S hr.hd e0 hl r x
  refine wpAny_mono (ht.run [] s1 (start N vs) H _ I hq) (fun fl s' hs => ?_) fun e s' hs => hs
  have fin : ∀ {σ' : L2.St} {H' : Hp} {v : V} {u : Value}, Inv (cxOf CX0 P w K mg base N qual (defScope st) f cdv A outer s H E) [] σ' H' s' → RelV v u → Q v H' → CE outer P w H s Q u s' := fun {σ' H' v u} J rv q => ⟨v, H', J.os, J.bare, J.base, J.hok, rv, q⟩
  cases fl with
  | ret u => obtain ⟨v, σ', H', J, rv, q⟩ := hs; exact fin J rv q
  | next => obtain ⟨σ', H', J, q⟩ := hs; exact fin (v := V.non) (u := Value.none) J rfl q
  | brk => obtain ⟨_, _, _, q⟩ := hs; exact False.elim q
  | cont => obtain ⟨_, _, _, q⟩ := hs; exact False.elim q
/-- f(e, ..) of such a def -/
theorem pe_callG {X : Cx} {x : PySem.Str} {f : Addr} {k : Nat} {fd : FuncData} {ps : List PySem.Str} {sp : Sp} {e : Expr} {es : List Expr} {t : TA} {p pos : Pos} (F : FnG X.prog X.w X.K X.mg X.base k f fd ps sp) (hgd : X.A.guards = some []) (hr : Room k X.A) (hg : Gl X x) (hm : X.mg x = some (.ref f)) (hk : PySem.W.keepIn X.K (.ref f) = true) (hb : Binds X.K fd ps [])
    (ha : PA X (e :: es) t) (hdb : (x == ("__debug__" : PySem.Str)) = false := by decide) (he : starEach (e :: es) X.env = (false, eval e X.env) :: starEach es X.env := by rfl) (hpl : (backTo pos (starEach es X.env)).any (·.1) = false := by rfl) :
    PE X (.Call (.Name x p) (e :: es) [] pos) (fun σ H Q => t σ H fun vs H1 => sp vs H1 Q E0) := by
  refine ⟨fun pins s σ H Q I h => ?_⟩
  refine wpAny_Call_Name_kw (ld_glob I hg hm ?_ hdb)
  refine PySem.W.callWith_K (h₀ := X.base) I.ok.mod.kin hk (thn (ha.run pos pins s σ H _ I h) fun us s1 ⟨vs, H1, I1, r, q⟩ => ⟨I1.kIn, ?_⟩) he hpl
  have hl : us.length = ps.length := by rw [← r.length]; exact F.len _ _ _ _ q
  refine wpAny_call (codeAny_mono (F.run X.A X.stack s1 H1 ⟨us, []⟩ us vs Q E0 hgd hr I1.env0 (by simpa using hb s1 us I1.kIn (by simpa using hl)) r q) fun r s' hq => ?_)
  cases r with
  | error e => exact hq.elim
  | ok fl =>
    cases fl with
    | ret u => exact I1.after hq
    | next => exact False.elim hq
    | brk => exact False.elim hq
    | cont => exact False.elim hq

/-! ### numbers -/
section
variable {X : Cx}
theorem op_powX : OpR X (binaryOp .Pow) (rI (fun i j => 0 ≤ j ∧ (Builtin.Int.intBits i : Int) * j ≤ 2 ^ 27) fun i j => .int (i ^ j.toNat)) := opI fun _ _ _ _ _ _ _ hc q => pow_int hc.1 hc.2 q
/-- a text of one sign or more, a number of times -/
def rTimes : R2 := fun x y H Q => ∃ (z : PySem.Str) (n : Int), x = .str z ∧ y = .int n ∧ 0 ≤ n ∧ n ≤ 1000 ∧ z.length ≤ 1000 ∧ ∀ o : PySem.Str, o.length ≤ z.length * n.toNat → (∀ c ∈ o.cps.toList, c ∈ z.cps.toList) → Q (.str o) H
theorem foldl_rep (z : Array Nat) : ∀ (n : Nat) (acc : Array Nat), ((List.replicate n z).foldl (· ++ ·) acc).size = acc.size + n * z.size ∧ ∀ c ∈ ((List.replicate n z).foldl (· ++ ·) acc).toList, c ∈ acc.toList ∨ c ∈ z.toList
  | 0, acc => ⟨by simp, fun c h => .inl (by simpa using h)⟩
  | n + 1, acc => by
    obtain ⟨h1, h2⟩ := foldl_rep z n (acc ++ z)
    rw [List.replicate_succ, List.foldl_cons]
    refine ⟨by rw [h1, Array.size_append, Nat.succ_mul]; omega, fun c h => ?_⟩
    rcases h2 c h with q | q
    · rw [Array.toList_append, List.mem_append] at q; exact q
    · exact .inr q
theorem op_times : OpR X (binaryOp .Mult) rTimes := by
  intro pins s σ H x y v u Q I rx ry h
  obtain ⟨z, n, rfl, rfl, h0, h1, hz, q⟩ := h
  obtain ⟨t, rfl⟩ := rx
  obtain ⟨t', rfl⟩ := ry
  have hmul : z.length * n.toNat ≤ 1000 * 1000 := Nat.mul_le_mul hz (by omega)
  refine PySem.P.mul_str (by rw [decide_eq_false (by omega), decide_eq_false (by omega)] <;> rfl) (fun a b => ?_) (fun a b => ?_) ?_
  · have : (1000 : Int) ≤ (2 ^ 63 - 1) / n := by
      rw [Int.le_ediv_iff_mul_le (by omega)]
      have : 1000 * n ≤ 1000 * 1000 := by omega
      omega
    omega
  · refine decide_eq_false ?_
    rw [sizeLine_eq]; omega
  · split
    · rename_i hlt
      refine ⟨by decide, ?_⟩
      exact ⟨.str PySem.Str.empty, H, I.tok _, ⟨_, rfl⟩, q _ (Nat.zero_le _) (fun c hc => by cases hc)⟩
    · split
      · rename_i hge heq
        refine ⟨.str z, H, I, ⟨_, rfl⟩, q _ ?_ (fun c hc => hc)⟩
        rcases Nat.lt_or_ge 0 n.toNat with hp | hp
        · exact Nat.le_mul_of_pos_right _ hp
        · omega
      · obtain ⟨f1, f2⟩ := foldl_rep z.cps n.toNat #[]
        refine ⟨?_, ?_⟩
        · show ((List.replicate n.toNat z.cps).foldl (· ++ ·) #[]).size ≤ sizeLine
          rw [f1, sizeLine_eq]
          have : n.toNat * z.cps.size ≤ 1000 * 1000 := Nat.mul_le_mul (by omega) hz
          simp; omega
        · refine ⟨.str _, H, I.tok _, ⟨_, rfl⟩, q _ ?_ (fun c hc => ?_)⟩
          · show ((List.replicate n.toNat z.cps).foldl (· ++ ·) #[]).size ≤ z.cps.size * n.toNat
            rw [f1, Nat.mul_comm]; simp
          · rcases f2 c hc with e | e
            · cases e
            · exact e
end
end K0
/-! An own exception with its own __init__ raised; a try with two clauses, the second with a name. -/
namespace K1
open PySem PySem.Spec PyProof.Rows L2 K0

theorem pmk_exi {X : Cx} {x : PySem.Str} {C fI : Addr} {k : Nat} {fd : FuncData} {ps : List PySem.Str} {B Bn newId initN : String} {bmB : List Value} {f : PySem.Str} {e : Expr} {ta : TE} {p pos : Pos} (FB : ExcBaseFacts Bn newId initN bmB) (T : OwnX X.K C B Bn newId f)
    (exC : PySem.W.subIn X.K (.ref C) (.type "BaseException") = some true) (tyC : PySem.W.typeIn X.K (.ref C) = some (.type "type"))
    (iC : PySem.W.findIn X.K (.ref C) "__init__" = some (some (.ref fI))) (tI : PySem.W.typeIn X.K (.ref fI) = some (.type "function")) (F1 : FnOk X.prog X.w X.K X.mg X.base CX0 k fI fd ps (spInit X.K B Bn newId f)) (hr : Room (k + 1) X.A) (hb : Binds X.K fd ps [])
    (hg : Gl X x) (hm : X.mg x = some (.ref C)) (ha : PE X e ta) (hdb : (x == ("__debug__" : PySem.Str)) = false := by decide) (he : starEach [e] X.env = (false, eval e X.env) :: starEach [] X.env := by rfl) :
    PMk X (.Call (.Name x p) [e] [] pos) (fun σ H Q => ta σ H fun v H1 => ∀ d, H1 d = none → Q (.ref C) (some d) (upd H1 d (.xd [(f, v)]))) := by
  intro pins s σ H Q I h
  obtain ⟨nm, q, N, bs, bm, sn, sub, ab, col, dd, k0, k1, k2, k3, k5, hC, t1, t2, t3, t4⟩ := T.cls
  refine wpAny_Call_Name_kw (ld_glob I hg hm ?_ hdb)
  refine PySem.W.callWith_K (h₀ := X.base) I.ok.mod.kin T.kC ?_ he (by rfl)
  rw [he]
  show wpAny _ _ (spliced ((false, eval e X.env) :: backTo pos (starEach [] X.env))) _ _ s
  refine Calls.spliced_cons (thn (ha.run pins s σ H _ I h) fun u s1 ⟨v, H1, I1, r1, q1⟩ => ?_)
  refine Calls.spliced_nil ⟨I1.kIn, ?_⟩
  show wpAny _ _ (call (.ref C) [u]) _ _ _
  obtain ⟨hp, g, dr, tk, os⟩ := s1
  have hsz : hp.objs.size ≤ hp.objs.size + 1 := Nat.le_succ _
  have hn : H1 (hp.objs.size + 1) = none := I1.hok.fresh hsz
  have kk : ∀ b o, hp.get? b = some o → ((hp.push (PySem.W.kdv_tup [u])).push (PySem.HandSPX.excO C hp.objs.size)).get? b = some o := fun b o e => Heap.get?_push_of_some _ (Heap.get?_push_of_some _ e)
  have hget : ((hp.push (PySem.W.kdv_tup [u])).push (PySem.HandSPX.excO C hp.objs.size)).get? (hp.objs.size + 1) = some (PySem.HandSPX.excO C hp.objs.size) := by heap_get
  have I2 : Inv X pins σ (upd H1 (hp.objs.size + 1) (exo (hp.objs.size + 1) C none)) ⟨(hp.push (PySem.W.kdv_tup [u])).push (PySem.HandSPX.excO C hp.objs.size), g, dr, tk, os⟩ := I1.laid (t' := tk) kk hsz (exo_ok hget)
  have r2 : Vals [V.ref (hp.objs.size + 1), v] [Value.ref (hp.objs.size + 1), u] := .cons rfl (.cons r1 .nil)
  have hq : spInit X.K B Bn newId f [.ref (hp.objs.size + 1), v] (upd H1 (hp.objs.size + 1) (exo (hp.objs.size + 1) C none)) (fun z H2 => z = .non ∧ ∃ d, H1 d = none ∧ d ≠ hp.objs.size + 1 ∧ H2 = upd (upd H1 d (exd d [(f, v)])) (hp.objs.size + 1) (exo (hp.objs.size + 1) C (some d))) E0 := by
    refine ⟨_, C, v, rfl, T, upd_same, fun d hd hne => ⟨rfl, d, by rw [upd_ne hne] at hd; exact hd, hne, ?_⟩⟩
    funext b
    by_cases hb : b = hp.objs.size + 1
    · rw [hb, upd_same, upd_same]
    · rw [upd_ne hb, upd_ne hb]
      by_cases hbd : b = d
      · rw [hbd, upd_same, upd_same]
      · rw [upd_ne hbd, upd_ne hbd, upd_ne hb]
  have hl : ([Value.ref (hp.objs.size + 1), u] ++ []).length = ps.length := by have z := F1.len _ _ _ _ hq; exact z
  refine wpAny_call (call_ex FB t1 (I1.kIn _ _ hC) (PySem.W.looks_findIn I1.kIn iC) (fun self => PySem.W.bind_fn I1.kIn self tI) (by show 1 ≤ sizeLine; rw [sizeLine_eq]; omega)
    (codeAny_mono (F1.run _ X.stack _ _ ⟨[Value.ref (hp.objs.size + 1), u], []⟩ [Value.ref (hp.objs.size + 1), u] _ _ (fun _ _ _ => False) (hr.make C [u] []) (I2.env0.make C [u] []) (by simpa using hb _ [Value.ref (hp.objs.size + 1), u] I2.kIn hl) r2 hq) fun r s' hq' => ?_))
  cases r with
  | error er => exact hq'.elim
  | ok fl =>
    cases fl with
    | ret w =>
      obtain ⟨z, H2, os2, bare2, un2, hok2, rz, ez, d, hd, hne, eH⟩ := hq'
      subst ez
      obtain ⟨h2, g2, d2, t2, os'⟩ := s'
      have ea : H2 (hp.objs.size + 1) = some (exo (hp.objs.size + 1) C (some d)) := by rw [eH, upd_same]
      have ed : H2 d = some (exd d [(f, v)]) := by rw [eH, upd_ne hne, upd_same]
      have eq : upd (del H2 (hp.objs.size + 1)) d (.xd [(f, v)]) = upd H1 d (.xd [(f, v)]) := by
        funext b
        by_cases hbd : b = d
        · rw [hbd, upd_same, upd_same]
        · rw [upd_ne hbd, upd_ne hbd]
          by_cases hb : b = hp.objs.size + 1
          · rw [hb, del_same, hn]
          · rw [del_ne hb, eH, upd_ne hb, upd_ne hbd]
      exact ⟨rz, mk_end (raises_own exC tyC) I1 hsz kk un2 hok2 os2 bare2 ea ed hd (by rw [eq]; exact q1 d hd)⟩
    | next => exact False.elim hq'
    | brk => exact False.elim hq'
    | cont => exact False.elim hq'
/-- two clauses, one of which is taken; the second has a name -/
def wTwo (K : PySem.W.Frag) (c1 : Value) (ts1 : Addr → Value → Option Addr → TS) (c2 : Value) (i : Nat) (ts2 : Addr → Value → Option Addr → TS) (D : Ends) : WX := fun cls d σ H =>
  (PySem.W.exmOne K cls c1 = some true ∧ ∀ a, H a = none → ts1 a cls d D σ H) ∨ (PySem.W.exmOne K cls c1 = some false ∧ wAs K c2 i ts2 (fun _ _ _ _ => False) D cls d σ H)
section
variable {X : Cx}
/-- how a suite's way out reads behind the suite -/
theorem out_plain {a : Addr} {oe : Obj} {pins : List (Addr × Obj)} {D : Ends} {fl : Flow} {t : Shared} (ok : X.Ok) (h : SP (X.suite a ((a, oe) :: (X.pn ++ pins))) [] D fl t) : SP X pins D fl t := by
  cases fl with
  | ret u => exact let ⟨v, σ1, H1, J, rv, q⟩ := h; ⟨v, σ1, H1, J.unsuite ok, rv, q⟩
  | next => exact let ⟨σ1, H1, J, q⟩ := h; ⟨σ1, H1, J.unsuite ok, q⟩
  | brk => exact let ⟨σ1, H1, J, q⟩ := h; ⟨σ1, H1, J.unsuite ok, q⟩
  | cont => exact let ⟨σ1, H1, J, q⟩ := h; ⟨σ1, H1, J.unsuite ok, q⟩
/-- the same where a name is let go -/
theorem out_named {a : Addr} {oe : Obj} {i : Nat} {n : PySem.Str} {p : Pos} {pins : List (Addr × Obj)} {D : Ends} {fl : Flow} {t : Shared} (ok : X.Ok) (nd : X.N.Nodup) (at_ : X.N[i]? = some n) (lo : X.env.kindOf n = some .local)
    (h : SP (X.suite a ((a, oe) :: (X.pn ++ pins))) [] { nx := fun σ' H' => D.nx (σ'.set i none) H', rt := D.rt, bk := fun σ' H' => D.bk (σ'.set i none) H', ct := fun σ' H' => D.ct (σ'.set i none) H' } fl t) :
    wpAny (model X.prog X.w) X.A (do bindName X.env n .none; unbindBehindTheSuite X.env n p) (fun _ t' => SP X pins D fl t') X.xe t := by
  cases fl with
  | ret u => obtain ⟨v, σ1, H1, J, rv, q⟩ := h; exact gone_ok (J.unsuite ok) nd at_ lo fun _ J' => ⟨v, _, H1, J', rv, q⟩
  | next => obtain ⟨σ1, H1, J, q⟩ := h; exact gone_ok (J.unsuite ok) nd at_ lo fun _ J' => ⟨_, H1, J', q⟩
  | brk => obtain ⟨σ1, H1, J, q⟩ := h; exact gone_ok (J.unsuite ok) nd at_ lo fun _ J' => ⟨_, H1, J', q⟩
  | cont => obtain ⟨σ1, H1, J, q⟩ := h; exact gone_ok (J.unsuite ok) nd at_ lo fun _ J' => ⟨_, H1, J', q⟩
/-- the body's own way out, read without the try -/
theorem out_body {pins p2 : List (Addr × Obj)} {xe : Value → Shared → Prop} {D : Ends} {fl : Flow} {t : Shared} (ok : X.Ok) (h : SP (X.tr p2 xe) [] D fl t) (back : ∀ {σ H}, Inv (X.tr p2 xe) [] σ H t → Inv X pins σ H t) : SP X pins D fl t := by
  cases fl with
  | ret u => exact let ⟨v, σ1, H1, J, rv, q⟩ := h; ⟨v, σ1, H1, back J, rv, q⟩
  | next => exact let ⟨σ1, H1, J, q⟩ := h; ⟨σ1, H1, back J, q⟩
  | brk => exact let ⟨σ1, H1, J, q⟩ := h; ⟨σ1, H1, back J, q⟩
  | cont => exact let ⟨σ1, H1, J, q⟩ := h; ⟨σ1, H1, back J, q⟩
/-- a caught exception is no frame of those that run -/
theorem not_a_frame {B : Heap} {l : List Env} {h : Heap} {a : Addr} {o : Obj} {vs : Array Value} (ff : h.FunFrames B l) (e : h.get? a = some o) (d : o.data = .fields vs) : a ∉ frs l := fun hm =>
  let ⟨_, o', e', no⟩ := ff.mem hm
  no _ ((congrArg Obj.data (Option.some.inj (e'.symm.trans e))).trans d)
variable {x y n : PySem.Str} {c1 c2 : Value} {i : Nat} {body su1 su2 : List Stmt} {b1 b2 : Stmt} {q1 q2 pos pos1 pos2 : Pos} {tb : WX → TS} {ts1 ts2 : Addr → Value → Option Addr → TS}
theorem ps_try_two (hs : X.stack = X.env :: X.outer) (hf : X.env.frame = some X.env.locals) (nd : X.N.Nodup) (at_ : X.N[i]? = some n) (lo : X.env.kindOf n = some .local) (k1 : Names X x c1) (k2 : Names X y c2)
    (hb : ∀ (W : WX) (pn : List (Addr × Obj)) (xe : Value → Shared → Prop), Takes (X.tr pn xe) W → PSs (X.tr pn xe) body (tb W))
    (s1 : ∀ (a : Addr) (oe : Obj) (cls : Value) (d : Option Addr) (pn : List (Addr × Obj)), Zc cls d oe → (∃ vs, oe.data = .fields vs) → PSs (X.suite a ((a, oe) :: pn)) (b1 :: su1) (ts1 a cls d))
    (s2 : ∀ (a : Addr) (oe : Obj) (cls : Value) (d : Option Addr) (pn : List (Addr × Obj)), Zc cls d oe → (∃ vs, oe.data = .fields vs) → PSs (X.suite a ((a, oe) :: pn)) (b2 :: su2) (ts2 a cls d)) :
    PS X (.Try body [.ExceptHandler (some (.Name x q1)) none (b1 :: su1) pos1, .ExceptHandler (some (.Name y q2)) (some n) (b2 :: su2) pos2] [] [] pos) (fun D σ H => tb (wTwo X.K c1 ts1 c2 i ts2 D) D σ H) := by
  refine ⟨fun pins s σ H D I reading => wpAny_Try_except ?_⟩
  have ok := I.ok
  have frames : X.A.frames = some (X.env :: X.outer) := hs ▸ ok.frames
  refine wpAny_mono ((hb (wTwo X.K c1 ts1 c2 i ts2 D) (X.pn ++ pins) (fun e t₁ => wpAny (model X.prog X.w) X.A (noteFrame e X.env) (fun _ t₂ => wpAny (model X.prog X.w) X.A (setFlight e none) (fun _ t₃ =>
    wpAny (model X.prog X.w) X.A (handleBy e X.env [.ExceptHandler (some (.Name x q1)) none (b1 :: su1) pos1, .ExceptHandler (some (.Name y q2)) (some n) (b2 :: su2) pos2]) (SP X pins D) X.xe t₃) X.xe t₂) X.xe t₁) (fun u t thrown => ?_)).run [] s σ H D (I.toTry _) reading) (fun fl t done => ?_) (fun _ _ r => r)
  case refine_2 =>
    cases fl with
    | next => exact wpAny_execs_nil (out_body (fl := .next) ok done fun J => J.ofTry ok)
    | ret u => exact out_body (fl := .ret u) ok done fun J => J.ofTry ok
    | brk => exact out_body (fl := .brk) ok done fun J => J.ofTry ok
    | cont => exact out_body (fl := .cont) ok done fun J => J.ofTry ok
  obtain ⟨a, B, t0, ps, σ1, H1, cls, d, rfl, JT, nob, up, sky, free, same, bare, wish⟩ := thrown
  have J : Inv X pins σ1 H1 t0 := JT.ofTry ok
  rw [show (X.tr (X.pn ++ pins) _).stack = X.env :: X.outer from hs] at sky
  show wpAny (model X.prog X.w) X.A (noteFrame (.ref a) X.env) _ _ _
  refine Sky.land Zc.steady frames hf sky fun h3 fly up3 => ?_
  obtain ⟨oe, vs, at3, z3, f3⟩ := fly.there
  have J3 : Inv X pins σ1 H1 { t with heap := h3 } := J.landed nob fly.1 (up.trans up3) same bare
  have out : a ∉ frs (X.env :: X.outer) := not_a_frame fly.2.2.1 at3 f3
  have o1 : a ≠ X.env.locals := fun e => out (List.mem_filterMap.mpr ⟨_, .head _, hf.trans (congrArg some e.symm)⟩)
  have o2 : a ∉ X.fs := fun m => let ⟨e, he, q⟩ := List.mem_filterMap.mp m
    out (List.mem_filterMap.mpr ⟨e, .tail _ he, q⟩)
  have J4 := J3.suite at3 f3 free o1 o2
  have looks : PySem.W.Looks (model X.prog X.w) h3 (typeOf (.ref a)) cls := fun _ _ _ _ kp g => wpAny_typeOf_ref (kp _ _ at3) (z3.1.symm ▸ g)
  have asked : ∀ {z : PySem.Str} {c : Value} {p : Pos} {Q E : Value → Shared → Prop}, Names X z c → Q c { t with heap := h3 } → wpAny (model X.prog X.w) (X.A.mark (some (.ref a))) (eval (.Name z p) X.env) Q E { t with heap := h3 } := by
    rintro z c p Q E ⟨glo, dbg, here | ⟨here, boot, nn⟩⟩ q
    · exact ld_glob (X := X.suite a ((a, oe) :: (X.pn ++ pins))) J4 glo here q dbg
    · exact ld_blt (X := X.suite a ((a, oe) :: (X.pn ++ pins))) J4 glo here boot q nn dbg
  refine wpAny_handleBy_cons (codeAny_handlers_test (asked k1 ?_)) nofun
  rcases wish with ⟨yes, go⟩ | ⟨no, b, e2, go, stop⟩
  · refine (PySem.W.exm_one (M := model X.prog X.w) J3.kIn looks yes).here (codeAny_handlers_suite (HandSPX.lands_againZ fly fun h4 fly4 up4 => ?_))
    obtain ⟨oe4, vs4, at4, z4, f4⟩ := fly4.there
    have K5 : Inv X pins σ1 H1 { t with heap := h4 } := J.landed nob fly4.1 ((up.trans up3).trans up4) same bare
    have J5 := K5.suite at4 f4 free o1 o2
    exact wpAny_mono ((s1 a oe4 cls d (X.pn ++ pins) z4 ⟨_, f4⟩).run [] _ σ1 H1 D J5 (go a free)) (fun fl t' h => out_plain ok h) (fun _ _ z => z.elim)
  · refine (PySem.W.exm_one (M := model X.prog X.w) J3.kIn looks no).here ?_
    show wpAny _ X.A (handleBy (.ref a) X.env [.ExceptHandler (some (.Name y q2)) (some n) (b2 :: su2) pos2]) _ _ _
    refine wpAny_handleBy_cons (codeAny_handlers_test (asked k2 ?_)) nofun
    refine (PySem.W.exm_one (M := model X.prog X.w) J3.kIn looks e2).here ?_
    cases b with
    | false => exact (stop rfl).elim
    | true =>
      refine codeAny_handlers_suite_as (HandSPX.lands_againZ fly fun h4 fly4 up4 => ?_)
      obtain ⟨oe4, vs4, at4, z4, f4⟩ := fly4.there
      have K5 : Inv X pins σ1 H1 { t with heap := h4 } := J.landed nob fly4.1 ((up.trans up3).trans up4) same bare
      have J5 := K5.suite at4 f4 free o1 o2
      exact store_ok (X := X.suite a ((a, oe4) :: (X.pn ++ pins))) (v := .ref a) J5 nd at_ (.inl lo) rfl (fun t' J6 => wpAny_mono ((s2 a oe4 cls d (X.pn ++ pins) z4 ⟨_, f4⟩).run [] t' _ H1 _ J6 (go rfl a free)) (fun fl t2 h => out_named ok nd at_ lo h) (fun _ _ z => z.elim)) (.inr lo)
end
end K1
/-! The names in their order: of one letter, of two. -/
namespace K1
open PySem PySem.Spec PyProof.Rows L2

/-- the letters of the name whose number is left - 1, ahead of acc -/
def go : Nat → Nat → List Nat → List Nat
  | 0, _, acc => acc
  | _ + 1, 0, acc => acc
  | f + 1, left + 1, acc => go f (left / 26) ((97 + left % 26) :: acc)
theorem go_fuel : ∀ (f g left : Nat) (acc : List Nat), left ≤ f → left ≤ g → go f left acc = go g left acc
  | 0, 0, _, _, _, _ => rfl
  | 0, g + 1, left, acc, h, _ => by
    obtain rfl : left = 0 := by omega
    rfl
  | f + 1, 0, left, acc, _, h => by
    obtain rfl : left = 0 := by omega
    rfl
  | f + 1, g + 1, 0, acc, _, _ => rfl
  | f + 1, g + 1, left + 1, acc, h1, h2 => by
    show go f (left / 26) _ = go g (left / 26) _
    exact go_fuel f g _ _ (by omega) (by omega)
def nmL (n : Nat) : List Nat := go (n + 1) (n + 1) []
def nmS (n : Nat) : PySem.Str := ⟨(nmL n).toArray⟩
def alpha : PySem.Str := "abcdefghijklmnopqrstuvwxyz"
/-- the number of a name of one or two letters -/
def dec : List Nat → Nat
  | [a] => a - 97
  | [a, b] => 26 * (a - 96) + (b - 97)
  | _ => 0
theorem dec_nm {k : Nat} (h : k < 702) : dec (nmS k).cps.toList = k := by
  have z : ((List.range 702).all fun k => dec (nmL k) == k) = true := by decide +kernel
  have := List.all_eq_true.mp z k (List.mem_range.mpr h)
  show dec (nmL k).toArray.toList = k
  simpa using this
theorem nm_inj {j k : Nat} (hj : j < 702) (hk : k < 702) (h : nmS j = nmS k) : j = k := by
  rw [← dec_nm hj, ← dec_nm hk, h]
def first (bar : List PySem.Str) (k : Nat) : List PySem.Str := ((List.range k).map nmS).filter fun x => decide (x ∉ bar)
theorem first_zero (bar : List PySem.Str) : first bar 0 = [] := rfl
theorem first_succ (bar : List PySem.Str) (k : Nat) : first bar (k + 1) = first bar k ++ if nmS k ∈ bar then [] else [nmS k] := by
  unfold first
  rw [List.range_succ, List.map_append, List.filter_append]
  congr 1
  by_cases h : nmS k ∈ bar
  · rw [if_pos h]; simp [h]
  · rw [if_neg h]; simp [h]
theorem first_add (bar : List PySem.Str) (k j : Nat) : ∃ r, first bar (k + j) = first bar k ++ r := by
  induction j with
  | zero => exact ⟨[], by simp⟩
  | succ j ih =>
    obtain ⟨r, e⟩ := ih
    exact ⟨_, by rw [← Nat.add_assoc, first_succ, e, List.append_assoc]⟩
/-- a list without equal things all of which are in another is no longer than that -/
theorem nodup_sub {α : Type} [DecidableEq α] : ∀ {l m : List α}, l.Nodup → (∀ x ∈ l, x ∈ m) → l.length ≤ m.length
  | [], _, _, _ => Nat.zero_le _
  | a :: l, m, hn, hs => by
    have ha : a ∈ m := hs a (by simp)
    have hn' := List.nodup_cons.mp hn
    have := nodup_sub (l := l) (m := m.erase a) hn'.2 fun x hx => (List.mem_erase_of_ne (fun e : x = a => hn'.1 (by rw [← e] <;> exact hx))).mpr (hs x (by simp [hx]))
    rw [List.length_erase_of_mem ha] at this
    have hp : 0 < m.length := List.length_pos_of_mem ha
    simp only [List.length_cons]; omega
theorem filter_not_len {α : Type} (p : α → Bool) : ∀ l : List α, (l.filter p).length + (l.filter fun x => !p x).length = l.length
  | [] => rfl
  | a :: l => by
    have := filter_not_len p l
    cases h : p a <;> simp [h] <;> omega
theorem nms_nodup : ((List.range 702).map nmS).Nodup := by
  show List.Pairwise (· ≠ ·) _
  rw [List.pairwise_map]
  have h : (List.range 702).Pairwise (· ≠ ·) := List.nodup_range
  refine List.Pairwise.imp_of_mem (fun {a b} ha hb hne e => hne (nm_inj (List.mem_range.mp ha) (List.mem_range.mp hb) e)) h
theorem first_long (bar : List PySem.Str) : 702 ≤ (first bar 702).length + bar.length := by
  have e := filter_not_len (fun x => decide (x ∉ bar)) ((List.range 702).map nmS)
  have hb : ((((List.range 702).map nmS).filter fun x => !decide (x ∉ bar))).length ≤ bar.length := by
    refine nodup_sub (nms_nodup.sublist List.filter_sublist) fun x hx => ?_
    have := (List.mem_filter.mp hx).2
    simpa using this
  have hl : ((List.range 702).map nmS).length = 702 := by simp
  rw [hl] at e
  unfold first
  omega
theorem first_mono (bar : List PySem.Str) {k j : Nat} (h : k ≤ j) : (first bar k).length ≤ (first bar j).length := by
  obtain ⟨r, e⟩ := first_add bar k (j - k)
  rw [show k + (j - k) = j by omega] at e
  rw [e, List.length_append]; omega
/-- the first so many -/
def due (bar : List PySem.Str) (m : Nat) : List PySem.Str := (first bar 702).take m
theorem due_of {bar : List PySem.Str} {m k : Nat} (hk : k ≤ 702) (h : (first bar k).length = m) : first bar k = due bar m := by
  obtain ⟨r, e⟩ := first_add bar k (702 - k)
  rw [show k + (702 - k) = 702 by omega] at e
  unfold due
  rw [e, ← h, List.take_left]
theorem due_from {bar : List PySem.Str} {m k : Nat} (hk : k ≤ 702) (h : m ≤ (first bar k).length) : (first bar k).take m = due bar m := by
  obtain ⟨r, e⟩ := first_add bar k (702 - k)
  rw [show k + (702 - k) = 702 by omega] at e
  unfold due
  rw [e, List.take_append_of_le_length h]
/-- one sign -/
def sg (c : Nat) : PySem.Str := ⟨#[c]⟩
def longer (ls : List PySem.Str) : List PySem.Str := ls.flatMap fun l => (List.range 26).map fun i => (⟨l.cps ++ #[97 + i]⟩ : PySem.Str)
theorem longer_one : longer [⟨#[]⟩] = (List.range 26).map nmS := by decide +kernel
theorem longer_two : longer ((List.range 26).map nmS) = ((List.range 676).map fun i => nmS (26 + i)) := by decide +kernel
theorem first_26 (bar : List PySem.Str) : first bar 26 = ((List.range 26).map nmS).filter fun x => decide (x ∉ bar) := rfl
theorem first_702 (bar : List PySem.Str) : first bar 702 = first bar 26 ++ ((List.range 676).map fun i => nmS (26 + i)).filter fun x => decide (x ∉ bar) := by
  unfold first
  rw [← List.filter_append, show (702 : Nat) = 26 + 676 from rfl, List.range_add, List.map_append, List.map_map] <;> rfl
end K1
/-! What a name is: by the program's way and by another. -/
namespace K1
open PySem PySem.Spec PyProof.Rows L2

def low (c : Nat) : Bool := decide (97 ≤ c) && decide (c ≤ 122)
def nm (x : PySem.Str) : Bool := decide (1 ≤ x.length) && (decide (x.length ≤ 8) && x.cps.toList.all low)
theorem uni : ((List.range 128).all fun c => (Unicode.isAlpha c == ((decide (65 ≤ c) && decide (c ≤ 90)) || low c)) && ((Unicode.isLower c == low c) && ((Unicode.isUpper c || Unicode.isTitle c) == (decide (65 ≤ c) && decide (c ≤ 90))))) = true := by decide +kernel
theorem uni_at {c : Nat} (h : c < 128) : Unicode.isAlpha c = ((decide (65 ≤ c) && decide (c ≤ 90)) || low c) ∧ Unicode.isLower c = low c ∧ (Unicode.isUpper c || Unicode.isTitle c) = (decide (65 ≤ c) && decide (c ≤ 90)) := by
  have := List.all_eq_true.mp uni c (List.mem_range.mpr h)
  simp only [Bool.and_eq_true, beq_iff_eq] at this
  exact ⟨this.1, this.2.1, this.2.2⟩
theorem nm_prog {x : PySem.Str} (h1 : 1 ≤ x.length) (h2 : x.length ≤ 8) : nm x = (Txt.isascii x && (Txt.isalpha x && Txt.islower x)) := by
  have e1 : nm x = x.cps.toList.all low := by unfold nm; rw [decide_eq_true h1, decide_eq_true h2] <;> rfl
  have a0 : Txt.isascii x = x.cps.toList.all fun c => decide (c < 128) := by unfold Txt.isascii; rw [← Array.all_toList] <;> rfl
  have a1 : Txt.isalpha x = x.cps.toList.all Unicode.isAlpha := by unfold Txt.isalpha; rw [← Array.all_toList, decide_eq_true (show x.length > 0 from h1), Bool.true_and]
  have a2 : Txt.islower x = (x.cps.toList.any Unicode.isLower && !x.cps.toList.any fun c => Unicode.isUpper c || Unicode.isTitle c) := by unfold Txt.islower; rw [← Array.any_toList, ← Array.any_toList]
  have hl : x.cps.toList.length = x.length := by simp [Str.length]
  rw [e1, a0, a1, a2]
  have hne : x.cps.toList ≠ [] := fun e => by rw [e] at hl; simp at hl; omega
  generalize x.cps.toList = l at hne
  rw [Bool.eq_iff_iff]
  simp only [Bool.and_eq_true, List.all_eq_true, List.any_eq_true, Bool.not_eq_true', decide_eq_true_eq, Bool.or_eq_true]
  constructor
  · intro h
    have hb : ∀ c ∈ l, c < 128 := fun c hc => by have := h c hc; unfold low at this; simp at this; omega
    refine ⟨hb, fun c hc => by rw [(uni_at (hb c hc)).1, h c hc, Bool.or_true], ?_, ?_⟩
    · obtain ⟨c, r, rfl⟩ := List.exists_cons_of_ne_nil hne
      exact ⟨c, List.mem_cons_self, by rw [(uni_at (hb c List.mem_cons_self)).2.1, h c List.mem_cons_self]⟩
    · rw [List.any_eq_false]
      intro c hc
      rw [(uni_at (hb c hc)).2.2]
      have := h c hc; unfold low at this; simp at this ⊢; omega
  · rintro ⟨hb, ha, _, hu⟩ c hc
    have q1 := ha c hc
    rw [(uni_at (hb c hc)).1] at q1
    have q2 := (List.any_eq_false.mp hu) c hc
    rw [(uni_at (hb c hc)).2.2] at q2
    cases hl : low c with
    | true => rfl
    | false => rw [hl, Bool.or_false] at q1; exact absurd q1 q2
theorem alpha_list : alpha.cps.toList = (List.range 26).map (97 + ·) := by decide +kernel
theorem alpha_has (c : Nat) : alpha.cps.contains c = low c := by
  rw [Bool.eq_iff_iff, Array.contains_iff_mem, ← Array.mem_toList_iff, alpha_list, List.mem_map]
  unfold low
  simp only [List.mem_range, Bool.and_eq_true, decide_eq_true_eq]
  constructor
  · rintro ⟨a, h, rfl⟩; omega
  · rintro ⟨h1, h2⟩; exact ⟨c - 97, by omega, by omega⟩
theorem takeWhile_all {p : Nat → Bool} : ∀ {l : List Nat}, (∀ c ∈ l, p c = true) → l.takeWhile p = l
  | [], _ => rfl
  | a :: l, h => by rw [List.takeWhile_cons, if_pos (h a (by simp)), takeWhile_all fun c hc => h c (by simp [hc])]
theorem takeWhile_le (p : Nat → Bool) : ∀ l : List Nat, (l.takeWhile p).length ≤ l.length
  | [] => Nat.le_refl _
  | a :: l => by
    rw [List.takeWhile_cons]
    split
    · simp only [List.length_cons]; have := takeWhile_le p l; omega
    · simp
theorem takeWhile_lt {p : Nat → Bool} : ∀ {l : List Nat}, (∃ c ∈ l, p c = false) → (l.takeWhile p).length < l.length
  | [], h => by obtain ⟨c, hc, _⟩ := h; cases hc
  | a :: l, h => by
    rw [List.takeWhile_cons]
    split
    · rename_i ha
      have : ∃ c ∈ l, p c = false := by
        obtain ⟨c, hc, hp⟩ := h
        rcases List.mem_cons.mp hc with rfl | hc
        · rw [ha] at hp; cases hp
        · exact ⟨c, hc, hp⟩
      have := takeWhile_lt this
      simp only [List.length_cons]; omega
    · simp
theorem drop_takeWhile_head {p : Nat → Bool} : ∀ {l : List Nat}, (l.takeWhile p).length < l.length → ∃ c ∈ l.drop (l.takeWhile p).length, p c = false
  | [], h => by simp at h
  | a :: l, h => by
    cases ha : p a with
    | false => exact ⟨a, by rw [List.takeWhile_cons, if_neg (by rw [ha]; simp)]; simp, ha⟩
    | true =>
      rw [List.takeWhile_cons, if_pos ha] at h ⊢
      simp only [List.length_cons] at h
      obtain ⟨c, hc, hp⟩ := drop_takeWhile_head (p := p) (l := l) (by omega)
      exact ⟨c, by simpa using hc, hp⟩
theorem strip_nil {x : PySem.Str} (h1 : 1 ≤ x.length) : decide (Txt.stripChars x alpha = "") = x.cps.toList.all low := by
  have hg : alpha.cps.contains = low := funext alpha_has
  have es : (("" : PySem.Str)) = ⟨#[]⟩ := by decide +kernel
  have hl : x.cps.toList.length = x.length := by simp [Str.length]
  have hsub : ∀ lo hi, lo ≤ hi → hi ≤ x.length → (Builtin.Str.strSub x lo hi).length = hi - lo := fun lo hi h1 h2 => by
    show (x.cps.extract lo hi).size = hi - lo
    rw [Array.size_extract]
    have : x.cps.size = x.length := rfl
    omega
  have hz : ∀ y : PySem.Str, y = ("" : PySem.Str) ↔ y.length = 0 := fun y => by
    rw [es]
    constructor
    · rintro rfl; rfl
    · intro h
      obtain ⟨a⟩ := y
      have : a.size = 0 := h
      rw [Array.eq_empty_of_size_eq_zero this]
  rw [Bool.eq_iff_iff, decide_eq_true_eq, hz, List.all_eq_true]
  unfold Txt.stripChars Txt.stripBy
  rw [hg]
  constructor
  · intro h c hc
    cases hcl : low c with
    | true => rfl
    | false =>
      exfalso
      have t1 := takeWhile_lt (p := low) ⟨c, hc, hcl⟩
      split at h
      · omega
      · unfold stripped at h
        have elo : stripLo low true x = (x.cps.toList.takeWhile low).length := rfl
        have ehi : stripHi low true x (stripLo low true x) = x.length - ((x.cps.toList.drop (stripLo low true x)).reverse.takeWhile low).length := rfl
        obtain ⟨d, hd, hdl⟩ := drop_takeWhile_head t1
        have t2 := takeWhile_lt (p := low) (l := (x.cps.toList.drop (stripLo low true x)).reverse) ⟨d, by rw [elo]; exact List.mem_reverse.mpr hd, hdl⟩
        rw [List.length_reverse, List.length_drop] at t2
        rw [hsub _ _ (by omega) (by omega)] at h
        omega
  · intro h
    have t1 : x.cps.toList.takeWhile low = x.cps.toList := takeWhile_all h
    have elo : stripLo low true x = x.length := by show (x.cps.toList.takeWhile low).length = _; rw [t1, hl]
    have ehi : stripHi low true x x.length = x.length := by
      show x.length - ((x.cps.toList.drop x.length).reverse.takeWhile low).length = _
      rw [List.drop_eq_nil_of_le (by omega)] <;> rfl
    have hs : stripSame low true true x = false := by
      unfold stripSame
      rw [elo]
      have : (x.length == 0) = false := by simp; omega
      rw [this, Bool.false_and]
    rw [hs, if_neg (by simp)]
    unfold stripped
    rw [elo, ehi, hsub _ _ (Nat.le_refl _) (Nat.le_refl _)]
    omega
end K1
/-! An attribute as a target; a dict behind a star; a tuple of a dict's keys; dicts behind two stars. -/
namespace R0
open PySem PySem.Spec PyProof.Rows L2

section
variable {X : Cx}
/-- o.f as a target -/
def gAtt (K : PySem.W.Frag) (to : TE) (f : PySem.Str) : TG := fun v σ H Q => to σ H fun x H1 => ∃ a C dx fs, x = .ref a ∧ H1 a = some (.ins C dx fs) ∧ Cls K C ∧ NoAttr K C f ∧ fs.length < 1000 ∧ Q σ (upd H1 a (.ins C dx (putF f v fs)))
theorem pg_att {o : Expr} {f : PySem.Str} {pos : Pos} {to : TE} (ho : PE X o to)
    (ha : ∀ v, assign (.Attribute o f pos) X.env v = (holding [v] (eval o X.env) >>= fun ov => standAt pos.atName >>= fun _ => holding [v, ov] (setAttr ov f v) >>= fun _ => release [v, ov] []) := by intro _; rfl) :
    PG X (.Attribute o f pos) (gAtt X.K to f) := by
  refine ⟨fun pins s σ H v u Q I r h => ?_⟩
  rw [ha]
  refine wpAny_bind (wpAny_holding (thn (ho.run pins s σ H _ I h) fun ov s1 ⟨x, H1, I1, r1, a, C, dx, fs, ex, ea, c, n, l, q⟩ => ?_))
  subst ex
  obtain rfl : ov = Value.ref a := r1
  refine wpAny_bind (wpAny_standAt (wpAny_bind (wpAny_holding (setattr_ok I1 ea c n l r fun s2 I2 => ?_))))
  exact wpAny_release ⟨σ, _, I2, q⟩

/-- *e, e's value a dict of ints and texts: its keys -/
def tStarD (te : TE) (t : TA) : TA := fun σ H Q => te σ H fun x H1 => ∃ p kvs, x = V.ref p ∧ Rd H1 p (.dK kvs) ∧ t σ H1 fun ys H2 => Q (kvs.map (fun kv => kV kv.1) ++ ys) H2
theorem keys_vals {P : Program} {w : World} {kvs : List (Key × V)} {vs : List (Key × Value)} (rk : KV kvs vs) {acc : Array Value} (h : ItemsOf (fun i v => ∃ k x, vs[i]? = some (k, x) ∧ (mixKind P w).is k v = true) acc vs.length) : Vals (kvs.map fun kv => kV kv.1) acc.toList := by
  have hl : kvs.length = vs.length := Paired.length rk
  have el : acc.toList.length = acc.size := by simp
  refine vals_of_at (by rw [List.length_map, el, h.1, hl]) fun j x u h1 h2 => ?_
  obtain ⟨k, y, hky, hi⟩ := h.2 j u (by rw [← Array.getElem?_toList]; exact h2)
  have e1 : (kvs.map (·.1))[j]? = some k := by rw [KV.keys rk, List.getElem?_map, hky] <;> rfl
  have e3 : (kvs.map fun kv => kV kv.1) = (kvs.map (·.1)).map kV := by rw [List.map_map] <;> rfl
  rw [e3, List.getElem?_map, e1] at h1
  cases h1
  exact keyIs_rel hi
theorem star_dK {pins : List (Addr × Obj)} {σ : L2.St} {H : Hp} {s : Shared} {a : Addr} {kvs : List (Key × V)} {E : Value → Shared → Prop} {Q : List Value → Shared → Prop} (hc : X.calm = true) (I : Inv X pins σ H s) (h : Rd H a (.dK kvs))
    (hQ : ∀ us s', Inv X pins σ H s' → Vals (kvs.map fun kv => kV kv.1) us → Q us s') : PySem.W.StarOf (model X.prog X.w) X.A E (.ref a) Q s := by
  obtain ⟨z, lo, vs, rk, dd⟩ := dk_rd I.hok h
  obtain ⟨ep, hat⟩ := dd.dictAt
  have hl : kvs.length = vs.length := Paired.length rk
  have c : wpAny (model X.prog X.w) X.A (collect (.ref a)) Q E s := by
    refine PySem.W.kdu_collect (PySem.W.kdl_dict (knd := mixKind X.prog X.w) (kvs := vs) (ep := ep) lo) (I.ok.hd hc) hat (by rw [← hl]; exact z) fun h' tk acc hk hacc => ?_
    exact hQ _ _ (I.kept (t' := tk) hk) (keys_vals rk hacc)
  unfold PySem.W.StarOf notIterableAtAll
  exact wpAny_bind (wpAny_specialOf dd.typeIs PySem.F.slot_dict_iter.lookup (wpAny_pure ⟨rfl, c⟩))
theorem pa_starD {e : Expr} {es : List Expr} {te : TE} {t : TA} {p : Pos} (hc : X.calm = true) (he : PE X e te) (hr : PA X es t) (hs : starEach (.Starred e p :: es) X.env = (true, eval e X.env) :: starEach es X.env := by rfl) : PA X (.Starred e p :: es) (tStarD te t) := by
  refine ⟨fun pos pins s σ H Q I h => ?_⟩
  refine PySem.W.items_star (thn (he.run pins s σ H _ I h) fun v s1 ⟨y, H1, I1, ry, a, kvs, ey, hx, q⟩ => ?_) hs
  subst ey
  obtain rfl : v = Value.ref a := ry
  refine star_dK hc I1 hx fun us s2 I2 rv => ?_
  exact thn (hr.run pos pins s2 σ H1 _ I2 q) fun ws s3 ⟨vs, H3, I3, r3, q3⟩ => ⟨_ ++ vs, H3, I3, rv.append r3, q3⟩
end
end R0
/-! Markings as plain lists: the words by kinds, the kept ones. -/
namespace M46
open PySem PySem.Spec PyProof.Rows

abbrev S := PySem.Str
/-- the word of a kind -/
def gw (ws : List (S × S)) (r : S) (k : S) : S := (ws.lookup k).getD r
theorem gw_nil {r k : S} : gw [] r k = r := rfl
theorem gw_cons {a b r k : S} {ws : List (S × S)} : gw ((a, b) :: ws) r k = if k = a then b else gw ws r k := by
  unfold gw
  rw [List.lookup_cons]
  by_cases h : k = a
  · subst h
    rw [if_pos rfl, beq_self_eq_true]
    rfl
  · have : (k == a) = false := by simpa using h
    rw [if_neg h, this]
theorem gw_not {r k : S} : ∀ {ws : List (S × S)}, k ∉ ws.map (·.1) → gw ws r k = r
  | [], _ => rfl
  | (a, b) :: ws, h => by
    rw [List.map_cons, List.mem_cons, not_or] at h
    rw [gw_cons, if_neg h.1, gw_not h.2]
theorem gw_any {r r' k : S} : ∀ {ws : List (S × S)}, k ∈ ws.map (·.1) → gw ws r k = gw ws r' k
  | [], h => by cases h
  | (a, b) :: ws, h => by
    rw [gw_cons, gw_cons]
    by_cases e : k = a
    · rw [if_pos e, if_pos e]
    · rw [if_neg e, if_neg e]
      rw [List.map_cons, List.mem_cons] at h
      exact gw_any (h.resolve_left e)
theorem gw_mem {r k : S} : ∀ {ws : List (S × S)}, k ∈ ws.map (·.1) → gw ws r k ∈ ws.map (·.2)
  | [], h => by cases h
  | (a, b) :: ws, h => by
    rw [gw_cons]
    by_cases e : k = a
    · rw [if_pos e]; simp
    · rw [if_neg e, List.map_cons]
      rw [List.map_cons, List.mem_cons] at h
      exact List.mem_cons_of_mem _ (gw_mem (h.resolve_left e))
/-- the kept ones among the kinds ks: those whose word isn't r -/
def keep (ks : List S) (f : S → S) (r : S) : List S := ks.filter fun k => decide (f k ≠ r)
def kept (ks : List S) (f : S → S) (r : S) : List (S × S) := (keep ks f r).map fun k => (k, f k)
theorem kept_keys {ks : List S} {f : S → S} {r : S} : (kept ks f r).map (·.1) = keep ks f r := by
  unfold kept
  rw [List.map_map]
  show (keep ks f r).map id = _
  rw [List.map_id]
theorem gw_fun {f : S → S} {r k : S} : ∀ {ks : List S}, gw (ks.map fun k => (k, f k)) r k = if k ∈ ks then f k else r
  | [] => by simp [gw_nil]
  | a :: ks => by
    rw [List.map_cons, gw_cons, gw_fun (ks := ks)]
    by_cases e : k = a
    · subst e; simp
    · rw [if_neg e]
      simp [e]
theorem gw_kept {ks : List S} {f : S → S} {r k : S} (h : k ∉ ks → f k = r) : gw (kept ks f r) r k = f k := by
  unfold kept
  rw [gw_fun]
  unfold keep
  by_cases hk : k ∈ ks
  · by_cases e : f k = r
    · rw [if_neg (by simp [e]), e]
    · rw [if_pos (by simp [hk, e])]
  · rw [if_neg (by simp [hk]), h hk]
/-! ### the order of texts -/
theorem le_iff {a b : S} : ltCps b.cps.toList a.cps.toList = false ↔ a.cps.toList ≤ b.cps.toList := by
  rw [ltCps_eq, decide_eq_false_iff_not]
  exact Iff.rfl
theorem rising_le : ∀ {p : S} {l : List S}, risingS p l = true → (p :: l).Pairwise fun a b => a.cps.toList ≤ b.cps.toList
  | p, [], _ => by simp
  | p, x :: r, h => by
    unfold risingS at h
    rw [Bool.and_eq_true, Bool.not_eq_true'] at h
    have hp := le_iff.mp h.1
    have ih := rising_le h.2
    refine List.Pairwise.cons (fun b hb => ?_) ih
    rcases List.mem_cons.mp hb with e | hb
    · subst e; exact hp
    · exact List.le_trans hp (List.rel_of_pairwise_cons ih hb)
theorem sorted_le {l : List S} (h : sortedS l = true) : l.Pairwise fun a b => a.cps.toList ≤ b.cps.toList := by
  cases l with
  | nil => exact .nil
  | cons x r => exact rising_le h
theorem str_ext {a b : S} (h : a.cps.toList = b.cps.toList) : a = b := by
  obtain ⟨x⟩ := a
  obtain ⟨y⟩ := b
  exact congrArg _ (Array.toList_inj.mp h)
theorem sorted_eq {l m : List S} (hl : l.Pairwise fun a b => a.cps.toList ≤ b.cps.toList) (hm : m.Pairwise fun a b => a.cps.toList ≤ b.cps.toList) (hp : l.Perm m) : l = m :=
  List.Perm.eq_of_pairwise (le := fun a b => a.cps.toList ≤ b.cps.toList) (fun a b _ _ h1 h2 => str_ext (List.le_antisymm h1 h2)) hl hm hp
/-- the kept ones are told by the function -/
theorem kept_ext {ks ms : List S} {f g : S → S} {r : S} (hk : ks.Pairwise fun a b => a.cps.toList ≤ b.cps.toList) (hm : ms.Pairwise fun a b => a.cps.toList ≤ b.cps.toList) (nk : ks.Nodup) (nm : ms.Nodup) (fg : ∀ k, f k = g k) (h1 : ∀ k, k ∉ ks → f k = r) (h2 : ∀ k, k ∉ ms → g k = r) : kept ks f r = kept ms g r := by
  have e : f = g := funext fg
  subst e
  unfold kept
  congr 1
  unfold keep
  refine sorted_eq (hk.filter _) (hm.filter _) ?_
  rw [List.perm_ext_iff_of_nodup (nk.filter _) (nm.filter _)]
  intro a
  simp only [List.mem_filter, decide_eq_true_eq]
  constructor
  · rintro ⟨_, h⟩
    exact ⟨Classical.byContradiction fun z => h (h2 a z), h⟩
  · rintro ⟨_, h⟩
    exact ⟨Classical.byContradiction fun z => h (h1 a z), h⟩
end M46
/-! Words by kinds as the entries of a dict. -/
namespace M46
open PySem PySem.Spec PyProof.Rows L2

def wd (ws : List (S × S)) : List (Key × V) := ws.map fun x => ((Sum.inr x.1 : Key), V.str x.2)
def putS (ws : List (S × S)) (k v : S) : List (S × S) := if k ∈ ws.map (·.1) then ws.map (fun x => if x.1 = k then (x.1, v) else x) else ws ++ [(k, v)]
theorem wd_len {ws : List (S × S)} : (wd ws).length = ws.length := by unfold wd; rw [List.length_map]
theorem val_wd (k : S) : ∀ ws : List (S × S), valV (wd ws) (Sum.inr k : Key) = (ws.lookup k).map V.str
  | [] => rfl
  | (a, b) :: ws => by
    rw [List.lookup_cons]
    by_cases h : k = a
    · subst h
      rw [beq_self_eq_true]
      exact valV_pos rfl
    · have e : (k == a) = false := by simpa using h
      rw [e]
      have := val_wd k ws
      refine (valV_neg (fun z => ?_)).trans this
      injection z with z
      exact h z.symm
theorem val_gw {r k : S} {ws : List (S × S)} : (valV (wd ws) (Sum.inr k : Key)).getD (.str r) = .str (gw ws r k) := by
  rw [val_wd]
  unfold gw
  cases ws.lookup k <;> rfl
theorem look_mem {r k : S} : ∀ {ws : List (S × S)}, k ∈ ws.map (·.1) → ws.lookup k = some (gw ws r k)
  | [], h => by cases h
  | (a, b) :: ws, h => by
    rw [List.lookup_cons, gw_cons]
    by_cases e : k = a
    · subst e
      rw [beq_self_eq_true, if_pos rfl]
    · have e' : (k == a) = false := by simpa using e
      rw [e', if_neg e]
      rw [List.map_cons, List.mem_cons] at h
      exact look_mem (h.resolve_left e)
theorem val_mem {r k : S} {ws : List (S × S)} (h : k ∈ ws.map (·.1)) : valV (wd ws) (Sum.inr k : Key) = some (.str (gw ws r k)) := by
  rw [val_wd, look_mem (r := r) h]
  rfl
theorem look_not {k : S} : ∀ {ws : List (S × S)}, k ∉ ws.map (·.1) → ws.lookup k = none
  | [], _ => rfl
  | (a, b) :: ws, h => by
    rw [List.map_cons, List.mem_cons, not_or] at h
    have e' : (k == a) = false := by simpa using h.1
    rw [List.lookup_cons, e']
    exact look_not h.2
theorem val_some {k : S} {ws : List (S × S)} : (valV (wd ws) (Sum.inr k : Key)).isSome = decide (k ∈ ws.map (·.1)) := by
  by_cases h : k ∈ ws.map (·.1)
  · rw [val_mem (r := k) h, decide_eq_true h]
    rfl
  · rw [val_wd, look_not h, decide_eq_false h]
    rfl
theorem any_wd (k : S) : ∀ ws : List (S × S), ((wd ws).any fun kv => decide (kv.1 = (Sum.inr k : Key))) = decide (k ∈ ws.map (·.1)) := fun ws => by
  rw [valV_any, val_some]
theorem put_wd {ws : List (S × S)} {k v : S} : putK (wd ws) (Sum.inr k : Key) (.str v) = wd (putS ws k v) := by
  unfold putK putS
  rw [any_wd]
  by_cases h : k ∈ ws.map (·.1)
  · rw [decide_eq_true h, if_pos rfl, if_pos h]
    unfold wd
    rw [List.map_map, List.map_map]
    refine List.map_congr_left fun x _ => ?_
    show (if (Sum.inr x.1 : Key) = Sum.inr k then ((Sum.inr x.1 : Key), V.str v) else _) = _
    by_cases e : x.1 = k
    · rw [if_pos (by rw [e])]
      show _ = ((Sum.inr (if x.1 = k then (x.1, v) else x).1 : Key), V.str (if x.1 = k then (x.1, v) else x).2)
      rw [if_pos e]
    · rw [if_neg (fun z => e (Sum.inr.inj z))]
      show _ = ((Sum.inr (if x.1 = k then (x.1, v) else x).1 : Key), V.str (if x.1 = k then (x.1, v) else x).2)
      rw [if_neg e]
  · rw [decide_eq_false h, if_neg Bool.false_ne_true, if_neg h]
    unfold wd
    rw [List.map_append]
    rfl
theorem put_new {ws : List (S × S)} {k v : S} (h : k ∉ ws.map (·.1)) : putS ws k v = ws ++ [(k, v)] := by
  unfold putS
  rw [if_neg h]
theorem gw_app {r k : S} {b : List (S × S)} : ∀ {a : List (S × S)}, gw (a ++ b) r k = if k ∈ a.map (·.1) then gw a r k else gw b r k
  | [] => by simp
  | (x, y) :: a => by
    rw [List.cons_append, gw_cons, gw_cons, gw_app (a := a), List.map_cons]
    by_cases e : k = x
    · simp [e]
    · simp only [List.mem_cons, e, if_false, false_or]
theorem gw_repl {r k j v : S} : ∀ {ws : List (S × S)}, gw (ws.map fun x => if x.1 = k then (x.1, v) else x) r j = if j = k ∧ k ∈ ws.map (·.1) then v else gw ws r j
  | [] => by simp
  | (a, b) :: ws => by
    rw [List.map_cons]
    have ih := gw_repl (r := r) (k := k) (j := j) (v := v) (ws := ws)
    by_cases e : a = k
    · subst e
      rw [if_pos rfl, gw_cons, gw_cons, ih]
      by_cases f : j = a
      · subst f; simp
      · rw [if_neg f, if_neg f, if_neg (fun z => f z.1), if_neg (fun z => f z.1)]
    · rw [if_neg e, gw_cons, gw_cons, ih]
      by_cases f : j = a
      · rw [if_pos f, if_pos f, if_neg (fun z => e (f.symm.trans z.1))]
      · rw [if_neg f, if_neg f]
        by_cases g : j = k
        · by_cases m : k ∈ ws.map (·.1)
          · rw [if_pos ⟨g, m⟩, if_pos ⟨g, by rw [List.map_cons]; exact List.mem_cons_of_mem _ m⟩]
          · rw [if_neg (fun z => m z.2), if_neg (fun z => m ?_)]
            have z2 := z.2
            rw [List.map_cons, List.mem_cons] at z2
            exact z2.resolve_left fun q => e q.symm
        · rw [if_neg (fun z => g z.1), if_neg (fun z => g z.1)]
theorem gw_put {r k j v : S} {ws : List (S × S)} : gw (putS ws k v) r j = if j = k then v else gw ws r j := by
  unfold putS
  by_cases h : k ∈ ws.map (·.1)
  · rw [if_pos h, gw_repl]
    by_cases e : j = k
    · rw [if_pos ⟨e, h⟩, if_pos e]
    · rw [if_neg (fun z => e z.1), if_neg e]
  · rw [if_neg h, gw_app, gw_cons, gw_nil]
    by_cases e : j = k
    · subst e
      rw [if_neg h, if_pos rfl, if_pos rfl]
    · rw [if_neg e, if_neg e]
      by_cases m : j ∈ ws.map (·.1)
      · rw [if_pos m]
      · rw [if_neg m, gw_not m]
theorem keys_put {k v : S} {ws : List (S × S)} : (putS ws k v).map (·.1) = if k ∈ ws.map (·.1) then ws.map (·.1) else ws.map (·.1) ++ [k] := by
  unfold putS
  by_cases h : k ∈ ws.map (·.1)
  · rw [if_pos h, if_pos h, List.map_map]
    refine List.map_congr_left fun x _ => ?_
    show (if x.1 = k then (x.1, v) else x).1 = x.1
    by_cases e : x.1 = k
    · rw [if_pos e]
    · rw [if_neg e]
  · rw [if_neg h, if_neg h, List.map_append]
    rfl
theorem mem_put {k v j : S} {ws : List (S × S)} : j ∈ (putS ws k v).map (·.1) ↔ j ∈ ws.map (·.1) ∨ j = k := by
  rw [keys_put]
  by_cases h : k ∈ ws.map (·.1)
  · rw [if_pos h]
    exact ⟨.inl, fun z => z.elim id fun e => by rw [e]; exact h⟩
  · rw [if_neg h, List.mem_append, List.mem_singleton]
theorem nodup_put {k v : S} {ws : List (S × S)} (h : (ws.map (·.1)).Nodup) : ((putS ws k v).map (·.1)).Nodup := by
  rw [keys_put]
  by_cases m : k ∈ ws.map (·.1)
  · rw [if_pos m]; exact h
  · rw [if_neg m, List.nodup_append]
    refine ⟨h, by simp, fun a ha b hb => ?_⟩
    rw [List.mem_singleton.mp hb]
    intro e
    exact m (by rw [← e]; exact ha)
theorem len_put {k v : S} {ws : List (S × S)} : (putS ws k v).length ≤ ws.length + 1 := by
  unfold putS
  split
  · rw [List.length_map]; omega
  · rw [List.length_append]; simp
theorem vals_put {k v : S} {ws : List (S × S)} {p : S → Prop} (h : ∀ x ∈ ws.map (·.2), p x) (hv : p v) : ∀ x ∈ (putS ws k v).map (·.2), p x := by
  unfold putS
  intro x hx
  split at hx
  · rw [List.map_map] at hx
    obtain ⟨y, hy, e⟩ := List.mem_map.mp hx
    have e' : (if y.1 = k then (y.1, v) else y).2 = x := e
    split at e'
    · rw [← e']; exact hv
    · rw [← e']; exact h _ (List.mem_map.mpr ⟨y, hy, rfl⟩)
  · rw [List.map_append, List.mem_append] at hx
    rcases hx with hx | hx
    · exact h x hx
    · have : x = v := by simpa using hx
      rw [this]; exact hv
/-- the entries put one by one into nothing -/
theorem merge_nodup : ∀ {ws pre : List (S × S)}, ((pre ++ ws).map (·.1)).Nodup → mergeK (wd pre) (wd ws) = wd (pre ++ ws)
  | [], pre, _ => by rw [List.append_nil]; rfl
  | (a, b) :: ws, pre, h => by
    have hn : a ∉ pre.map (·.1) := by
      rw [List.map_append, List.nodup_append] at h
      intro m
      exact h.2.2 a m a (by simp) rfl
    show mergeK (putK (wd pre) (Sum.inr a : Key) (.str b)) (wd ws) = _
    rw [put_wd, put_new hn, merge_nodup (by rw [List.append_assoc]; exact h), List.append_assoc]
    rfl
theorem merge_nil {ws : List (S × S)} (h : (ws.map (·.1)).Nodup) : mergeK [] (wd ws) = wd ws := merge_nodup (pre := []) h
theorem gw_of_mem {r k v : S} : ∀ {ws : List (S × S)}, (ws.map (·.1)).Nodup → (k, v) ∈ ws → gw ws r k = v
  | [], _, h => by cases h
  | (a, b) :: ws, n, h => by
    rw [gw_cons]
    rw [List.map_cons, List.nodup_cons] at n
    rcases List.mem_cons.mp h with e | h
    · injection e with e1 e2
      rw [if_pos e1, e2]
    · have hk : k ∈ ws.map (·.1) := List.mem_map.mpr ⟨(k, v), h, rfl⟩
      rw [if_neg (fun e => n.1 (by rw [← e]; exact hk))]
      exact gw_of_mem n.2 h
theorem mem_of_gw {r k : S} : ∀ {ws : List (S × S)}, k ∈ ws.map (·.1) → (k, gw ws r k) ∈ ws
  | [], h => by cases h
  | (a, b) :: ws, h => by
    rw [gw_cons]
    by_cases e : k = a
    · subst e
      rw [if_pos rfl]
      exact List.mem_cons_self
    · rw [if_neg e]
      rw [List.map_cons, List.mem_cons] at h
      exact List.mem_cons_of_mem _ (mem_of_gw (h.resolve_left e))
theorem gw_perm {r k : S} {ws vs : List (S × S)} (n : (ws.map (·.1)).Nodup) (p : vs.Perm ws) : gw vs r k = gw ws r k := by
  have n2 : (vs.map (·.1)).Nodup := (p.map (·.1)).nodup_iff.mpr n
  by_cases h : k ∈ ws.map (·.1)
  · have := mem_of_gw (r := r) h
    exact gw_of_mem n2 (p.mem_iff.mpr this)
  · have h2 : k ∉ vs.map (·.1) := fun z => h ((p.map (·.1)).mem_iff.mp z)
    rw [gw_not h, gw_not h2]
end M46
/-! sorted(d), d a dict whose keys are texts. -/
namespace R0
open PySem PySem.Spec PyProof.Rows L2 M46

theorem strs_of_keys {P : Program} {w : World} {ws : List (S × S)} {vs : List (Key × Value)} {acc : Array Value} (rk : KV (wd ws) vs) (hacc : ItemsOf (fun i v => ∃ k x, vs[i]? = some (k, x) ∧ (mixKind P w).is k v = true) acc vs.length) : StrsAre acc.toList (ws.map (·.1)) := by
  have hl : ws.length = vs.length := by rw [← wd_len]; exact Paired.length rk
  have el : acc.toList.length = ws.length := by rw [Array.length_toList, hacc.1, hl]
  have at_ : ∀ j (h : j < ws.length), ∃ t, acc.toList[j]? = some (.str (ws[j]).1 t) := fun j h => by
    have h2 : j < acc.toList.length := by omega
    obtain ⟨k, y, hky, hi⟩ := hacc.2 j acc.toList[j] (by rw [← Array.getElem?_toList]; exact List.getElem?_eq_getElem h2)
    have e1 : (wd ws).map (·.1) = vs.map (·.1) := KV.keys rk
    have e2 : ((wd ws).map (·.1))[j]? = some k := by rw [e1, List.getElem?_map, hky]; rfl
    unfold wd at e2
    rw [List.map_map, List.getElem?_map, List.getElem?_eq_getElem h] at e2
    obtain rfl : (Sum.inr (ws[j]).1 : Key) = k := Option.some.inj e2
    obtain ⟨t, e3⟩ := keyIs_rel (k := Sum.inr (ws[j]).1) hi
    refine ⟨t, ?_⟩
    rw [List.getElem?_eq_getElem h2, e3]
  revert at_ el
  generalize acc.toList = l
  clear hacc rk hl
  induction ws generalizing l with
  | nil =>
    intro el _
    have : l = [] := List.eq_nil_of_length_eq_zero el
    rw [this]
    exact .nil
  | cons x ws ih =>
    intro el at_
    cases l with
    | nil => simp at el
    | cons v l =>
      obtain ⟨t, e⟩ := at_ 0 (by simp)
      obtain rfl : v = .str x.1 t := by simpa using e
      exact .cons _ _ (ih l (by simpa using el) fun j h => by
        obtain ⟨u, q⟩ := at_ (j + 1) (by simpa using h)
        exact ⟨u, by simpa using q⟩)
/-- sorted(d) -/
def rSortedD : List V → Hp → VK → Prop := fun xs H Q => ∃ (d : Addr) (ws : List (S × S)), xs = [V.ref d] ∧ Rd H d (.dK (wd ws)) ∧ ws.length < 64 ∧
  ∀ (ys : List S) (p : Addr), ys.Perm (ws.map (·.1)) → sortedS ys = true → H p = none → Q (.ref p) (upd H p (.lst (ys.map V.str)))
theorem call_sortedD {X : Cx} (hc : X.calm = true) : CallR X (.builtin "sorted") rSortedD := by
  intro pins s σ H xs us Q I r h
  obtain ⟨d, ws, rfl, hd, h64, q⟩ := h
  obtain ⟨u, rfl, ru⟩ := r.one
  cases ru
  obtain ⟨z, lo, vs, rk, hm⟩ := (show ObjOk X.prog X.w H s.heap d (.dK (wd ws)) from hd.ok I.hok)
  obtain ⟨ep, hat⟩ := hm.dictAt
  have hl : ws.length = vs.length := by rw [← wd_len]; exact Paired.length rk
  have hh : X.A.in1.handled = none := I.ok.hd hc
  refine Calls.call_function_entry kind_sorted plain_sorted entry_sorted (args_sorted1 _) ?_
  unfold Builtin.«sorted»
  refine wpAny_bind (m := checkCount "sorted" 1 1 _) (wpAny_pure ?_)
  refine wpAny_bind (PySem.W.kdu_collect (A := X.A.in1) (PySem.W.kdl_dict (knd := mixKind X.prog X.w) (kvs := vs) (ep := ep) lo) hh hat (by rw [sizeLine_eq]; omega) fun h' tk acc hk hacc => ?_)
  have hS := strs_of_keys rk hacc
  have hL : acc.toList.length = ws.length := by rw [Array.length_toList, hacc.1, hl]
  refine wpAny_bind (wpAny_newList ?_ (by rw [hL, sizeLine_eq]; omega))
  have hoL : (h'.push (seqObj "list" acc.toList.toArray 0)).get? h'.objs.size = some (seqObj "list" acc.toList.toArray 0) := Heap.get?_push_size _ rfl
  refine wpAny_bind (wpAny_holding (wpAny_call_entry slot_list_sort ⟨_, hoL, rfl⟩ entry_list_sort (list_sort_treeK strKind_oneLt hoL hS.keysOf (fun v₁ v₂ rest e => keyKind_strs (by rw [← e]; exact hS)) (by omega) fun st' a1 a2 => ⟨_, rfl, ?_⟩) (args_list_sort _)))
  obtain ⟨ys, h1, h2, h3⟩ := sorted_out_str hS a1 a2
  refine wpAny_pure ⟨_, rfl, ?_⟩
  obtain ⟨ep', he'⟩ := sortedHeap_at (vs := acc.toList) (out := (arrOf st').map (·.2)) hoL
  have hlen : (ys.map V.str).length ≤ sizeLine := by rw [List.length_map, h2.length_eq, List.length_map, sizeLine_eq]; omega
  have I1 : Inv X pins σ H { s with heap := h', toks := tk } := I.kept hk
  exact ⟨.ref h'.objs.size, upd H h'.objs.size (.lst (ys.map V.str)), I1.laid (t' := tk) (fun b o e => by
    have e1 : h'.get? b = some o := e
    rw [sortedHeap_old (Nat.ne_of_lt (Heap.lt_size e1)) (by rw [size_push']; exact Nat.lt_succ_of_lt (Heap.lt_size e1)), Heap.get?_push_ne _ _ _ (Nat.ne_of_lt (Heap.lt_size e1))]
    exact e1) (Nat.le_refl _) ⟨hlen, _, ep', vals_of_strs h1, by rw [Array.toArray_toList]; exact he'⟩, rfl, q ys _ h2 h3 (I1.hok.fresh (Nat.le_refl _))⟩
end R0
/-! The dice, names (made by gA.py). -/
namespace K8
open PySem PySem.Spec PyProof.Rows L2 K0 K1

def top (i : Nat) : Stmt := PySem.Challenge.pw_letterrules_k83_texts_of_placings_and_st.main.body.getD i (.Pass ⟨0, 0, 0, 0⟩)
abbrev sDiff : Stmt := top 1
abbrev sIsName : Stmt := top 8
abbrev sAre : Stmt := top 9
abbrev sIsPl : Stmt := top 12
abbrev sFmtPl : Stmt := top 13
abbrev sIsStep : Stmt := top 14
abbrev sFmtSt : Stmt := top 15
abbrev sParts : Stmt := top 16
abbrev sChkT : Stmt := top 17
abbrev sChkS : Stmt := top 18
abbrev sPairs : Stmt := top 19
abbrev sParPl : Stmt := top 20
abbrev sParSt : Stmt := top 21
abbrev sDice : Stmt := top 23
abbrev sPull : Stmt := top 24
abbrev sPick : Stmt := top 25
abbrev sMixed : Stmt := top 26
abbrev sNames : Stmt := top 27
abbrev sKinds : Stmt := top 28
abbrev sTold : Stmt := top 29
abbrev sStep : Stmt := top 30
abbrev sBadSt : Stmt := top 31
abbrev sStRight : Stmt := top 32
abbrev sBadPl : Stmt := top 33
abbrev sPlText : Stmt := top 34
abbrev sPlRight : Stmt := top 35
abbrev sLaw : Stmt := top 36

theorem pmk_exm {X : Cx} {C : Addr} {bmB : List Value} {B newId initId : String} {x : PySem.Str} {e : Expr} {ta : TE} {p pos : Pos} (F : ExcBaseFacts B newId initId bmB) (q : PySem.W.excInitIn X.K C bmB newId = true)
    (hi : PySem.W.findIn X.K (.ref C) "__init__" = some (some (.builtin initId))) (exC : PySem.W.subIn X.K (.ref C) (.type "BaseException") = some true) (tyC : PySem.W.typeIn X.K (.ref C) = some (.type "type")) (gC : X.mg x = some (.ref C)) (kC : PySem.W.keepIn X.K (.ref C) = true) (hg : Gl X x) (he : PE X e ta)
    (hs : starEach [e] X.env = (false, eval e X.env) :: starEach [] X.env := by rfl) (hdb : (x == ("__debug__" : PySem.Str)) = false := by decide) :
    PMk X (.Call (.Name x p) [e] [] pos) (fun σ H Q => ta σ H fun _ H1 => Q (.ref C) none H1) := by
  intro pins s σ H Q I h
  refine wpAny_Call_Name_kw (ld_glob I hg gC ?_ hdb)
  refine PySem.W.callWith_K (h₀ := X.base) I.ok.mod.kin kC ?_ hs (by rfl)
  rw [hs]
  show wpAny _ _ (spliced ((false, eval e X.env) :: backTo pos (starEach [] X.env))) _ _ s
  refine Calls.spliced_cons (thn (he.run pins s σ H _ I h) fun u s1 ⟨v, H1, I1, r1, q1⟩ => ?_)
  refine Calls.spliced_nil ⟨I1.kIn, ?_⟩
  show wpAny _ _ (call (.ref C) [u]) _ _ _
  obtain ⟨nm, N, qn, bs, bm, hdct, sn, sub, ab, col, dd, k0, k1, k2, k3, k5, hC, hT⟩ := PySem.W.excInit_of I1.kIn q
  have hl := PySem.W.looks_findIn (M := model X.prog X.w) I1.kIn hi
  obtain ⟨hp, g, d, tk, os⟩ := s1
  refine PySem.W.call_B F hT hC hl (by show 1 ≤ sizeLine; rw [sizeLine_eq]; omega) fun h' k ha ht => ?_
  have hsz : hp.objs.size ≤ hp.objs.size + 1 := Nat.le_succ _
  have nn : hp.get? (hp.objs.size + 1) = none := by
    cases e : hp.get? (hp.objs.size + 1) with
    | none => rfl
    | some o => exact absurd (show hp.objs.size + 1 < hp.objs.size from Heap.lt_size e) (by omega)
  exact ⟨hp.objs.size + 1, _, _, ⟨hp, g, d, tk, os⟩, H1, .ref C, none, rfl, I1, k, nn, ha, ⟨rfl, rfl⟩, rfl, rfl, I1.hok.fresh hsz, rfl, I1.bare, raises_own exC tyC, q1⟩
/-- another reading of a block -/
theorem pss_conv {X : Cx} {b : List Stmt} {t t' : TS} (h : PSs X b t) (c : ∀ (pins : List (Addr × Obj)) (s : Shared) (σ : L2.St) (H : Hp) (D : Ends), Inv X pins σ H s → t' D σ H → t D σ H) : PSs X b t' := ⟨fun pins s σ H D I q => h.run pins s σ H D I (c pins s σ H D I q)⟩
/-- dice at p: three numbers -/
structure Dice (H : Hp) (p : Addr) (x y z : Int) : Prop where
  at_ : H p = some (.lst [.int x, .int y, .int z])
  x0 : 0 ≤ x
  x1 : x.natAbs < 2 ^ 2400
  y0 : 0 ≤ y
  y1 : y < 2147483648
  z0 : 0 ≤ z
def spDice (K : PySem.W.Frag) : Sp := fun vs H Q _ => ∃ (a : Addr) (ns : List Int) (i : Int), vs = [.ref a, .int i] ∧ SqL K H a (ns.map V.int) ∧ ns.length ≤ 1000 ∧ 0 ≤ i ∧ ∀ (p : Addr) (x y : Int) (H' : Hp), Same H H' → H p = none → Dice H' p x y 0 → Q (.ref p) H'
def spPull : Sp := fun vs H Q _ => ∃ (p : Addr) (x y z n : Int), vs = [.ref p, .int n] ∧ Dice H p x y z ∧ 0 < n ∧ n < 1000000 ∧
  ∀ (r x' z' : Int) (H' : Hp), 0 ≤ r → r < n → Dice H' p x' y z' → z' ≤ z + 1 → (∀ b o, b ≠ p → H b = some o → H' b = some o) → Q (.int r) H'
def spPick : Sp := fun vs H Q _ => ∃ (p q : Addr) (x y z : Int) (xs : List V), vs = [.ref p, .ref q] ∧ Dice H p x y z ∧ p ≠ q ∧ H q = some (.lst xs) ∧ 0 < xs.length ∧ xs.length < 1000 ∧
  ∀ (j : Nat) (v : V) (x' z' : Int) (H' : Hp), xs[j]? = some v → Dice H' p x' y z' → z' ≤ z + 1 → (∀ b o, b ≠ p → H b = some o → H' b = some o) → Q v H'
/-- built-in names that the top leaves alone -/
structure Bare (mg : PySem.Str → Option Value) : Prop where
  int : mg "int" = none
  abs : mg "abs" = none
  max : mg "max" = none
  min : mg "min" = none
  len : mg "len" = none
  rng : mg "range" = none
  list : mg "list" = none
  isi : mg "isinstance" = none
  str : mg "str" = none
  tup : mg "tuple" = none
  dict : mg "dict" = none
  all : mg "all" = none
  set : mg "set" = none
  sorted : mg "sorted" = none
  zip : mg "zip" = none

/-- a pick from a text -/
def spPickS : Sp := fun vs H Q _ => ∃ (p : Addr) (x y z : Int) (t : PySem.Str), vs = [.ref p, .str t] ∧ Dice H p x y z ∧ 0 < t.length ∧ t.length < 1000 ∧
  ∀ (c : Nat) (x' z' : Int) (H' : Hp), c ∈ t.cps.toList → Dice H' p x' y z' → z' ≤ z + 1 → (∀ b o, b ≠ p → H b = some o → H' b = some o) → Q (.str ⟨#[c]⟩) H'
section
variable {P : Program} {w : World} {K : PySem.W.Frag} {mg : PySem.Str → Option Value} {base : Heap}
theorem scDice : FnScope ["_law_script", "_law_at", "_law_cell", "_law_great", "_law_mixed_here"] ["_law_script", "_law_at"] (defScope sDice) := ⟨rfl, rfl, rfl, by decide +kernel, rfl, by decide +kernel, by decide +kernel⟩
theorem big_pos : (0 : Int) < ((10 : Int) ^ (60 : Int).toNat) ^ (12 : Int).toNat := by decide +kernel
theorem big_lt : (((10 : Int) ^ (60 : Int).toNat) ^ (12 : Int).toNat).natAbs < 2 ^ 2400 := by decide +kernel
theorem big_bits : (Builtin.Int.intBits ((10 : Int) ^ (60 : Int).toNat) : Int) * 12 ≤ 2 ^ 27 := by decide +kernel
theorem dice_made {H : Hp} {p : Addr} {c m : Int} (h : H p = some (.lst [.int (if (if c < 0 then -c else c) % ((10 : Int) ^ (60 : Int).toNat) ^ (12 : Int).toNat - (10 : Int) ^ (18 : Int).toNat > 0 then (if c < 0 then -c else c) % ((10 : Int) ^ (60 : Int).toNat) ^ (12 : Int).toNat - (10 : Int) ^ (18 : Int).toNat else 0), .int (m % 2147483489), .int 0])) :
    Dice H p (if (if c < 0 then -c else c) % ((10 : Int) ^ (60 : Int).toNat) ^ (12 : Int).toNat - (10 : Int) ^ (18 : Int).toNat > 0 then (if c < 0 then -c else c) % ((10 : Int) ^ (60 : Int).toNat) ^ (12 : Int).toNat - (10 : Int) ^ (18 : Int).toNat else 0) (m % 2147483489) 0 := by
  have h1 := Int.emod_nonneg (if c < 0 then -c else c) (Int.ne_of_gt big_pos)
  have h2 := Int.emod_lt_of_pos (if c < 0 then -c else c) big_pos
  have h3 := big_lt
  have h6 : (0 : Int) ≤ (10 : Int) ^ (18 : Int).toNat := by decide
  generalize (if c < 0 then -c else c) % ((10 : Int) ^ (60 : Int).toNat) ^ (12 : Int).toNat = g at h1 h2 h ⊢
  generalize ((10 : Int) ^ (60 : Int).toNat) ^ (12 : Int).toNat = n at h2 h3
  generalize (10 : Int) ^ (18 : Int).toNat = t at h6 h ⊢
  have h4 : g.natAbs < 2 ^ 2400 := Nat.lt_of_le_of_lt (by omega) h3
  refine ⟨h, ?_, ?_, Int.emod_nonneg _ (by decide), Int.lt_trans (Int.emod_lt_of_pos m (show (0 : Int) < 2147483489 by decide)) (by decide), Int.le_refl _⟩
  · split <;> omega
  · split
    · exact Nat.lt_of_le_of_lt (by omega) h4
    · show 0 < 2 ^ 2400
      exact Nat.pow_pos (by decide)
theorem ok_dice {f : Addr} {fd : FuncData} (F : Fun K "_law_dice" "_law_dice" sDice f fd) (T : Bare mg) : FnOk P w K mg base CX0 1 f fd ["_law_script", "_law_at"] (spDice K) := by
  refine F.ok scDice (fun vs H Q E h => ?_) (fun cdv A outer s H vs Q E hr h => ?_)
  · obtain ⟨a, ns, i, rfl, _⟩ := h
    rfl
  · obtain ⟨a, ns, i, rfl, hS, hlen, hi, k⟩ := h
    refine ⟨_, pss_cons (ps_set (i := 2) scDice.nd rfl (Or.inl rfl) (pe_op op_add (pe_op op_mul pe_int (pv 1)) pe_int))
      (pss_cons (ps_if (pt_cmpR op_lt (pv 1) (pe_callB call_len_seq (by rfl) T.len PySem.boot_len (pa_cons (pv 0) pa_nil)) (nomark _)) (pss_one (ps_set (i := 2) scDice.nd rfl (Or.inl rfl) (pe_ix ix_list (pv 0) (pv 1) (fun _ _ => rfl)))) pss_nil)
      (pss_cons (ps_set (i := 3) scDice.nd rfl (Or.inl rfl) (pe_op op_mod (pe_callTy call_int1 (by rfl) T.int (by decide +kernel) (pa_cons (pe_callB call_abs (by rfl) T.abs (by decide +kernel) (pa_cons (pv 2) pa_nil)) pa_nil)) (pe_op op_powX (pe_op op_pow pe_int pe_int) pe_int)))
      (pss_cons (ps_set (i := 4) scDice.nd rfl (Or.inl rfl) (pe_op op_add (pe_op op_add (pe_op op_add (pe_op op_mul (pe_op op_mod (pe_callTy call_int1 (by rfl) T.int (by decide +kernel) (pa_cons (pv 3) pa_nil)) pe_int) pe_int) (pe_op op_mul pe_int (pv 1)))
          (pe_op op_mul pe_int (pe_callTy call_int1 (by rfl) T.int (by decide +kernel) (pa_cons (pe_cmpR op_lt (pv 2) pe_int (nomark _)) pa_nil)))) pe_int))
      (pss_one (ps_ret (pe_lst (pa_cons (pe_callB (call_max2 rfl) (by rfl) T.max (by decide +kernel) (pa_cons pe_int (pa_cons (pe_op op_sub (pv 3) (pe_op op_pow pe_int pe_int)) pa_nil)))
          (pa_cons (pe_op op_mod (pe_callTy call_int1 (by rfl) T.int (by decide +kernel) (pa_cons (pv 4) pa_nil)) pe_int) (pa_cons pe_int pa_nil))))))))), ?_⟩
    refine ⟨_, rfl, _, _, rfl, rfl, .inl ⟨by decide, by decide⟩, _, _, rfl, rfl, _, rfl, _, rfl, a, _, rfl, .inl hS, _, _, rfl, rfl, _, rfl, ?_⟩
    refine ite2 (fun hlt => ?ya) (fun _ => ?na)
    case' ya =>
      have hlt' := of_decide_eq_true hlt
      rw [List.length_map] at hlt'
      obtain ⟨j, rfl⟩ : ∃ j : Nat, i = (j : Int) := ⟨i.toNat, by omega⟩
      have hj : j < ns.length := by omega
      refine ⟨_, rfl, _, rfl, a, _, _, .int ns[j], rfl, rfl, hS, at_of rfl (by rw [List.getElem?_map, List.getElem?_eq_getElem hj] <;> rfl), ?_⟩
    all_goals
      refine ⟨_, rfl, _, rfl, .inl ⟨_, rfl, _, _, rfl, rfl, ⟨by decide, by decide, by decide⟩, _, _, rfl, rfl, ⟨by decide, big_bits⟩, _, _, rfl, rfl, big_pos, ?_⟩⟩
      refine ⟨_, rfl, .inl ⟨_, rfl, _, _, rfl, rfl, (by show (0 : Int) < 2147483543; decide), _, _, rfl, rfl, .inr ⟨by decide, by decide⟩, _, rfl, _, _, rfl, rfl, .inl ⟨by decide, by decide⟩, _, _, rfl, rfl, _, rfl, _, _, rfl, rfl, .inr ⟨_, rfl, _, _, rfl, rfl, .inl ⟨by decide, by decide⟩, _, _, rfl, rfl, _, _, rfl, rfl, ?_⟩⟩⟩
      refine ⟨_, rfl, _, _, rfl, rfl, ⟨by decide, by decide, by decide⟩, _, _, rfl, rfl, _, _, rfl, _, rfl, .inl ⟨_, rfl, _, _, rfl, rfl, (by show (0 : Int) < 2147483489; decide), (by show 3 ≤ sizeLine; decide), fun p hp => ?_⟩⟩
      refine k p _ _ _ (fun b o e => by rw [upd_ne (ne_of_none e hp)] <;> exact e) hp (dice_made upd_same)
theorem scPull : FnScope ["_law_dice_here", "_law_total", "_law_found", "_law_one", "_law_two"] ["_law_dice_here", "_law_total"] (defScope sPull) := ⟨rfl, rfl, rfl, by decide +kernel, rfl, by decide +kernel, by decide +kernel⟩
theorem ok_pull {f : Addr} {fd : FuncData} (F : Fun K "_law_pull" "_law_pull" sPull f fd) (T : Bare mg) : FnOk P w K mg base CX0 1 f fd ["_law_dice_here", "_law_total"] spPull := by
  refine F.ok scPull (fun vs H Q E h => ?_) (fun cdv A outer s H vs Q E hr h => ?_)
  · obtain ⟨p, x, y, z, n, rfl, _⟩ := h
    rfl
  · obtain ⟨p, x, y, z, n, rfl, D, hn0, hn1, k⟩ := h
    refine ⟨_, pss_cons (ps_if (pt_cmpR op_gt (pe_ix ix_list (pv 0) pe_int (fun _ _ => rfl)) pe_int (nomark _))
        (pss_cons (ps_set (i := 2) scPull.nd rfl (Or.inl rfl) (pe_op op_mod (pe_callTy call_int1 (by rfl) T.int (by decide +kernel) (pa_cons (pe_ix ix_list (pv 0) pe_int (fun _ _ => rfl)) pa_nil)) (pv 1)))
        (pss_cons (ps_asg (pe_op op_fdiv (pe_ix ix_list (pv 0) pe_int (fun _ _ => rfl)) (pv 1)) (pg_sub (pv 0) pe_int set_list))
        (pss_one (ps_ret (pv 2))))) pss_nil)
      (pss_cons (ps_asg (pe_op op_add (pe_ix ix_list (pv 0) pe_int (fun _ _ => rfl)) pe_int) (pg_sub (pv 0) pe_int set_list))
      (pss_cons (ps_set (i := 3) scPull.nd rfl (Or.inl rfl) (pe_op op_mod (pe_callTy call_int1 (by rfl) T.int (by decide +kernel) (pa_cons (pe_op op_add (pe_ix ix_list (pv 0) pe_int (fun _ _ => rfl)) (pe_op op_mul pe_int (pe_ix ix_list (pv 0) pe_int (fun _ _ => rfl)))) pa_nil)) pe_int))
      (pss_cons (ps_set (i := 4) scPull.nd rfl (Or.inl rfl) (pe_op op_mul (pe_op op_mod (pe_callTy call_int1 (by rfl) T.int (by decide +kernel) (pa_cons (pe_op op_mul (pv 3) (pv 3)) pa_nil)) pe_int) (pv 3)))
      (pss_one (ps_ret (pe_op op_mod (pe_callTy call_int1 (by rfl) T.int (by decide +kernel) (pa_cons (pe_op op_fdiv (pe_op op_mod (pe_callTy call_int1 (by rfl) T.int (by decide +kernel) (pa_cons (pe_op op_add (pv 4) (pe_op op_mul pe_int (pe_ix ix_list (pv 0) pe_int (fun _ _ => rfl)))) pa_nil)) pe_int) pe_int) pa_nil)) (pv 1))))))), ?_⟩
    have h0 := D.at_
    refine ⟨_, rfl, p, _, _, .int x, rfl, rfl, SqL.of h0, rfl, _, _, rfl, rfl, _, rfl, ?_⟩
    refine ite2 (fun hgt => ?_) (fun _ => ?_)
    · have hx : 0 < x := of_decide_eq_true hgt
      refine ⟨_, rfl, p, _, _, .int x, rfl, rfl, SqL.of h0, rfl, .inl ⟨_, rfl, _, rfl, _, _, rfl, rfl, hn0, ?_⟩⟩
      refine ⟨_, rfl, p, _, _, .int x, rfl, rfl, SqL.of h0, rfl, _, rfl, _, _, rfl, rfl, ⟨hn0, by omega⟩, _, rfl, p, _, _, 0, rfl, rfl, h0, rfl, ?_⟩
      have hq : (0 : Int) ≤ x / n := Int.ediv_nonneg D.x0 (by omega)
      have hq2 : x / n ≤ x := Int.ediv_le_self n D.x0
      exact ⟨_, rfl, k _ _ z _ (Int.emod_nonneg _ (by omega)) (Int.emod_lt_of_pos _ hn0) ⟨upd_same, hq, Nat.lt_of_le_of_lt (by omega) D.x1, D.y0, D.y1, D.z0⟩ (by omega) fun b o hb e => by rw [upd_ne hb] <;> exact e⟩
    · refine ⟨_, rfl, p, _, _, .int z, rfl, rfl, SqL.of h0, rfl, _, _, rfl, rfl, _, rfl, p, _, _, 2, rfl, rfl, h0, rfl, ?_⟩
      have h1 : (upd H p (.lst [.int x, .int y, .int (z + 1)])) p = some (.lst [.int x, .int y, .int (z + 1)]) := upd_same
      refine ⟨_, rfl, p, _, _, .int y, rfl, rfl, SqL.of h1, rfl, _, rfl, p, _, _, .int (z + 1), rfl, rfl, SqL.of h1, rfl, _, _, rfl, rfl, .inl ⟨by decide, by decide⟩, _, _, rfl, rfl, .inl ⟨_, rfl, _, _, rfl, rfl, (by show (0 : Int) < 2305843009213693951; decide), ?_⟩⟩
      have a1 := Int.emod_nonneg (y + 1000159 * (z + 1)) (show (2305843009213693951 : Int) ≠ 0 by decide)
      have a2 := Int.emod_lt_of_pos (y + 1000159 * (z + 1)) (show (0 : Int) < 2305843009213693951 by decide)
      generalize (y + 1000159 * (z + 1)) % 2305843009213693951 = one at a1 a2 ⊢
      refine ⟨_, rfl, _, rfl, _, _, rfl, rfl, .inl ⟨by omega, by omega⟩, .inl ⟨_, rfl, _, _, rfl, rfl, (by show (0 : Int) < 2305843009213693907; decide), _, rfl, _, _, rfl, rfl, .inr ⟨by omega, by omega⟩, ?_⟩⟩
      refine ⟨_, rfl, _, rfl, p, _, _, .int (z + 1), rfl, rfl, SqL.of h1, rfl, _, _, rfl, rfl, .inl ⟨by decide, by decide⟩, _, _, rfl, rfl, .inl ⟨_, rfl, _, _, rfl, rfl, (by show (0 : Int) < 2305843009213693921; decide), _, _, rfl, rfl, ⟨by decide, by decide⟩, .inl ⟨_, rfl, _, rfl, _, _, rfl, rfl, hn0, ?_⟩⟩⟩
      exact k _ x (z + 1) _ (Int.emod_nonneg _ (by omega)) (Int.emod_lt_of_pos _ hn0) ⟨h1, D.x0, D.x1, D.y0, D.y1, by have := D.z0; omega⟩ (Int.le_refl _) fun b o hb e => by rw [upd_ne hb] <;> exact e
theorem scPick : FnScope ["_law_dice_here", "_law_items"] ["_law_dice_here", "_law_items"] (defScope sPick) := ⟨rfl, rfl, rfl, by decide +kernel, rfl, by decide +kernel, by decide +kernel⟩
theorem ok_pick {f fU : Addr} {fd fdU : FuncData} (F : Fun K "_law_pick" "_law_pick" sPick f fd) (T : Bare mg) (FU : Fun K "_law_pull" "_law_pull" sPull fU fdU) (bU : Binds K fdU ["_law_dice_here", "_law_total"] []) (mU : mg "_law_pull" = some (.ref fU)) : FnOk P w K mg base CX0 2 f fd ["_law_dice_here", "_law_items"] spPick := by
  have GU : FnOk P w K mg base CX0 1 fU fdU ["_law_dice_here", "_law_total"] spPull := ok_pull FU T
  refine F.ok scPick (fun vs H Q E h => ?_) (fun cdv A outer s H vs Q E hr h => ?_)
  · obtain ⟨p, q, x, y, z, xs, rfl, _⟩ := h
    rfl
  · obtain ⟨p, q, x, y, z, xs, rfl, D, hpq, hq, h0, h1, k⟩ := h
    refine ⟨_, pss_one (ps_ret (pe_ix ix_list (pv 1) (pe_call GU hr (by rfl) mU FU.kp bU .nil pass0 (pa_cons (pv 0) (pa_cons (pe_callB call_len_seq (by rfl) T.len PySem.boot_len (pa_cons (pv 1) pa_nil)) pa_nil))) (fun _ _ => rfl))), ?_⟩
    refine ⟨_, rfl, _, rfl, _, rfl, q, _, rfl, .inl (SqL.of hq), p, x, y, z, _, rfl, D, by omega, by omega, fun r x' z' H' r0 r1 D' hz hk => ?_⟩
    obtain ⟨j, rfl⟩ : ∃ j : Nat, r = (j : Int) := ⟨r.toNat, by omega⟩
    have hj : j < xs.length := by omega
    exact ⟨q, xs, _, xs[j], rfl, rfl, SqL.of (hk q _ hpq.symm hq), atI_nat (List.getElem?_eq_getElem hj), k j _ x' z' H' (List.getElem?_eq_getElem hj) D' hz hk⟩
theorem ok_pickS {f fU : Addr} {fd fdU : FuncData} (F : Fun K "_law_pick" "_law_pick" sPick f fd) (T : Bare mg) (FU : Fun K "_law_pull" "_law_pull" sPull fU fdU) (bU : Binds K fdU ["_law_dice_here", "_law_total"] []) (mU : mg "_law_pull" = some (.ref fU)) : FnOk P w K mg base CX0 2 f fd ["_law_dice_here", "_law_items"] spPickS := by
  have GU : FnOk P w K mg base CX0 1 fU fdU ["_law_dice_here", "_law_total"] spPull := ok_pull FU T
  refine F.ok scPick (fun vs H Q E h => ?_) (fun cdv A outer s H vs Q E hr h => ?_)
  · obtain ⟨p, x, y, z, t, rfl, _⟩ := h
    rfl
  · obtain ⟨p, x, y, z, t, rfl, D, h0, h1, k⟩ := h
    refine ⟨_, pss_one (ps_ret (pe_ix ix_str (pv 1) (pe_call GU hr (by rfl) mU FU.kp bU .nil pass0 (pa_cons (pv 0) (pa_cons (pe_callB call_len_str (by rfl) T.len PySem.boot_len (pa_cons (pv 1) pa_nil)) pa_nil))) (fun _ _ => rfl))), ?_⟩
    refine ⟨_, rfl, _, rfl, _, rfl, t, rfl, (by rw [sizeLine_eq]; omega), p, x, y, z, _, rfl, D, by omega, by omega, fun r x' z' H' r0 r1 D' hz hk => ?_⟩
    obtain ⟨j, rfl⟩ : ∃ j : Nat, r = (j : Int) := ⟨r.toNat, by omega⟩
    have e : t.cps.toList.length = t.length := by simp [Str.length]
    have hj : j < t.cps.toList.length := by omega
    exact ⟨t, _, t.cps.toList[j], rfl, rfl, (by rw [sizeLine_eq]; omega), atI_nat (List.getElem?_eq_getElem hj), k _ x' z' H' (List.getElem_mem hj) D' hz hk⟩
theorem Dice.same {H H' : Hp} {p : Addr} {x y z : Int} (D : Dice H p x y z) (s : Same H H') : Dice H' p x y z := ⟨s _ _ D.at_, D.x0, D.x1, D.y0, D.y1, D.z0⟩
theorem Dice.upd {H : Hp} {p q : Addr} {x y z : Int} {o : HO} (D : Dice H p x y z) (h : H q = none) : Dice (upd H q o) p x y z := ⟨by rw [upd_ne (ne_of_none D.at_ h)] <;> exact D.at_, D.x0, D.x1, D.y0, D.y1, D.z0⟩
/-- a new list of the same items in some order -/
def spMixed (K : PySem.W.Frag) : Sp := fun vs H Q _ => ∃ (p q : Addr) (x y z : Int) (xs : List V), vs = [.ref p, .ref q] ∧ Dice H p x y z ∧ (SqL K H q xs ∨ SqT K H q xs) ∧ xs.length < 1000 ∧
  ∀ (r : Addr) (ys : List V) (x' z' : Int) (H' : Hp), ys.Perm xs → H r = none → H' r = some (.lst ys) → Dice H' p x' y z' → (∀ b o, b ≠ p → H b = some o → H' b = some o) → Q (.ref r) H'
theorem erase_perm {α : Type} : ∀ (l : List α) (j : Nat) (h : j < l.length), (l[j] :: l.eraseIdx j).Perm l
  | a :: r, 0, _ => .refl _
  | a :: r, j + 1, h => by
    have hj : j < r.length := by simpa using h
    exact (List.Perm.swap a r[j] (r.eraseIdx j)).trans (.cons a (erase_perm r j hj))
theorem sn {H : Hp} {p : Addr} {o : HO} (h : H p = none) : Same H (upd H p o) := fun b u e => by rw [upd_ne (ne_of_none e h)] <;> exact e
theorem scMixed : FnScope ["_law_dice_here", "_law_items", "_law_left", "_law_found", "_law_turn"] ["_law_dice_here", "_law_items"] (defScope sMixed) := ⟨rfl, rfl, rfl, by decide +kernel, rfl, by decide +kernel, by decide +kernel⟩
theorem ok_mixed {f fU : Addr} {fd fdU : FuncData} (F : Fun K "_law_mixed" "_law_mixed" sMixed f fd) (T : Bare mg) (FU : Fun K "_law_pull" "_law_pull" sPull fU fdU) (bU : Binds K fdU ["_law_dice_here", "_law_total"] []) (mU : mg "_law_pull" = some (.ref fU)) : FnOk P w K mg base CX0 2 f fd ["_law_dice_here", "_law_items"] (spMixed K) := by
  have GU : FnOk P w K mg base CX0 1 fU fdU ["_law_dice_here", "_law_total"] spPull := ok_pull FU T
  refine F.ok scMixed (fun vs H Q E h => ?_) (fun cdv A outer s H vs Q E hr h => ?_)
  · obtain ⟨p, q, x, y, z, xs, rfl, _⟩ := h
    rfl
  · obtain ⟨p, q, x, y, z, xs, rfl, D0, hq, hlen, k⟩ := h
    refine ⟨_, pss_cons (ps_par (i := 2) (j := 3) rfl scMixed.nd rfl rfl (by decide) rfl rfl (pa_cons (pe_callTy call_list_of (by rfl) T.list (by decide +kernel) (pa_cons (pv 1) pa_nil)) (pa_cons (pe_lst pa_nil) pa_nil)) (by rfl))
      (pss_cons (ps_for PassesOwn.never rfl (pi_range1 (by rfl) T.rng (pa_cons (pe_callB call_len_seq (by rfl) T.len PySem.boot_len (pa_cons (pv 2) pa_nil)) pa_nil)) (pg_name (i := 4) scMixed.nd rfl (Or.inl rfl))
        (pss_one (ps_expr (pe_bm PySem.F.plainAttrs_list PySem.F.slot_list_append PySem.F.type_list_append mt_append (pv 3) (pa_cons (pe_bm PySem.F.plainAttrs_list PySem.F.slot_list_pop PySem.F.type_list_pop mt_popAt (pv 2) (pa_cons (pe_call GU hr (by rfl) mU FU.kp bU .nil pass0 (pa_cons (pv 0) (pa_cons (pe_callB call_len_seq (by rfl) T.len PySem.boot_len (pa_cons (pv 2) pa_nil)) pa_nil))) pa_nil)) pa_nil)))))
      (pss_one (ps_ret (pv 3)))), ?_⟩
    refine ⟨_, rfl, q, xs, rfl, hq, fun L nL => ⟨(by show 0 ≤ sizeLine; omega), fun R nR => ⟨_, _, rfl, ?_⟩⟩⟩
    have eL := sn (o := .lst []) nR L _ (upd_same (H := H) (a := L) (o := .lst xs))
    have s0 : Same H (upd (upd H L (.lst xs)) R (.lst [])) := (sn nL).trans (sn nR)
    have LR : L ≠ R := ne_of_none upd_same nR
    have pL : p ≠ L := ne_of_none D0.at_ nL
    have pR : p ≠ R := ne_of_none (sn nL _ _ D0.at_) nR
    have nR0 : H R = none := by rw [upd_ne (Ne.symm LR)] at nR; exact nR
    refine ⟨_, rfl, L, xs, rfl, .inl (SqL.of eL), _, rfl, by omega, by omega, for_range (lo := 0) (n := xs.length) (fun i σ H' => ∃ (ls fs : List V) (x z : Int) (v : Option V), σ = [some (.ref p), some (.ref q), some (.ref L), some (.ref R), v] ∧ H' L = some (.lst ls) ∧ H' R = some (.lst fs) ∧ (fs ++ ls).Perm xs ∧ fs.length = i ∧ Dice H' p x y z ∧ ∀ b o, b ≠ p → H b = some o → H' b = some o)
      ⟨xs, [], x, z, none, rfl, eL, upd_same, by simp, rfl, D0.same s0, fun b o _ e => s0 _ _ e⟩ ?_ ?_⟩
    · rintro i σ H1 hi ⟨ls, fs, x1, z1, v, rfl, hL, hR, hp, hfl, D1, hk1⟩
      have hcount : fs.length + ls.length = xs.length := by rw [← List.length_append]; exact hp.length_eq
      refine ⟨_, rfl, .inl ⟨rfl, _, SqL.of hR⟩, _, rfl, .inl ⟨rfl, _, SqL.of hL⟩, _, rfl, _, rfl, L, ls, rfl, .inl (SqL.of hL), p, x1, y, z1, _, rfl, D1, by omega, by omega, fun r x2 z2 H2 r0 r1 D2 _ hk2 => ?_⟩
      obtain ⟨j, rfl⟩ : ∃ j : Nat, r = (j : Int) := ⟨r.toNat, by omega⟩
      have hj : j < ls.length := by omega
      have hL2 := hk2 L _ pL.symm hL
      have hR2 := hk2 R _ pR.symm hR
      refine ⟨L, ls, _, j, ls[j], rfl, rfl, hL2, by omega, by omega, (PySem.StrLaws.seqIndex_nonneg (by omega) (by omega)), List.getElem?_eq_getElem hj, ?_⟩
      have hR3 : (upd H2 L (.lst (ls.eraseIdx j))) R = some (.lst fs) := by rw [upd_ne (Ne.symm LR)] <;> exact hR2
      refine ⟨R, _, _, rfl, rfl, hR3, (by rw [sizeLine_eq]; omega), ls.eraseIdx j, fs ++ [ls[j]], x2, z2, _, rfl, ?_, upd_same, ?_, by rw [List.length_append, hfl] <;> rfl, ?_, fun b o hb e => ?_⟩
      · rw [upd_ne LR, upd_same]
      · rw [List.append_assoc]
        exact (List.Perm.append_left fs (erase_perm ls j hj)).trans hp
      · exact ⟨by rw [upd_ne pR, upd_ne pL] <;> exact D2.at_, D2.x0, D2.x1, D2.y0, D2.y1, D2.z0⟩
      · have bL : b ≠ L := ne_of_none e nL
        have bR : b ≠ R := ne_of_none e nR0
        rw [upd_ne bR, upd_ne bL]
        exact hk2 b o hb (hk1 b o hb e)
    · rintro σ H1 ⟨ls, fs, x1, z1, v, rfl, hL, hR, hp, hfl, D1, hk1⟩
      have hcount : fs.length + ls.length = xs.length := by rw [← List.length_append]; exact hp.length_eq
      obtain rfl : ls = [] := List.eq_nil_of_length_eq_zero (by omega)
      rw [List.append_nil] at hp
      exact ⟨_, rfl, k R fs x1 z1 H1 hp nR0 hR D1 hk1⟩
end
theorem tyx_same {K : PySem.W.Frag} {H H' : Hp} {v : V} {t : Value} (h : TyX K H v t) (s : Same H H') : TyX K H' v t := by
  cases h with
  | base b =>
    refine .base ?_
    cases b with
    | non => exact .non
    | bl x => exact .bl x
    | int i => exact .int i
    | str x => exact .str x
    | flt x => exact .flt x
    | lst e => exact .lst (s _ _ e)
    | frz e => exact .frz (s _ _ e)
    | tup e => exact .tup (s _ _ e)
    | dK e => exact .dK (s _ _ e)
    | dT e => exact .dT (s _ _ e)
    | ins e cl ha hn htk hm => exact .ins (s _ _ e) cl ha hn htk hm
  | byt b => exact .byt b
  | set e => exact .set (s _ _ e)
  | kList e c => exact .kList e c
  | kTuple e c => exact .kTuple e c
  | kDict e c => exact .kDict e c
  | fTuple e => exact .fTuple (s _ _ e)
  | fDict e => exact .fDict (s _ _ e)
/-- a value as a name: its text, if it is one -/
inductive Nv (K : PySem.W.Frag) (H : Hp) : V → Option PySem.Str → Prop
  | str (x : PySem.Str) (h : x.length ≤ 1000) : Nv K H (.str x) (some x)
  | no {v : V} {t : String} (ty : TyX K H v (.type t)) (h : kitB t "str" = some false) : Nv K H v none
theorem Nv.same {K : PySem.W.Frag} {H H' : Hp} {v : V} {o : Option PySem.Str} (h : Nv K H v o) (s : Same H H') : Nv K H' v o := by
  cases h with
  | str x h => exact .str x h
  | no ty h => exact .no (tyx_same ty s) h
def isNm : Option PySem.Str → Bool
  | some x => nm x
  | none => false
def spIsName (K : PySem.W.Frag) : Sp := fun vs H Q _ => ∃ (v : V) (o : Option PySem.Str), vs = [v] ∧ Nv K H v o ∧ Q (.bl (isNm o)) H
/-- a value as a tuple: its items, if it is one -/
inductive Tv (K : PySem.W.Frag) (H : Hp) : V → Option (List V) → Prop
  | tup {a : Addr} {xs : List V} (e : SqT K H a xs) (ty : TyX K H (.ref a) (.type "tuple")) : Tv K H (.ref a) (some xs)
  | no {v : V} {t : String} (ty : TyX K H v (.type t)) (h : kitB t "tuple" = some false) : Tv K H v none
theorem sqT_same {K : PySem.W.Frag} {H H' : Hp} {a : Addr} {xs : List V} (h : SqT K H a xs) (s : Same H H') : SqT K H' a xs := by
  rcases h with (h | ⟨o, h⟩) | h
  · exact .inl (.inl (s _ _ h))
  · exact .inl (.inr ⟨o, s _ _ h⟩)
  · exact .inr h
theorem Tv.same {K : PySem.W.Frag} {H H' : Hp} {v : V} {o : Option (List V)} (h : Tv K H v o) (s : Same H H') : Tv K H' v o := by
  cases h with
  | tup e ty => exact .tup (sqT_same e s) (tyx_same ty s)
  | no ty h => exact .no (tyx_same ty s) h
/-- a value as a tuple of names, with the answer -/
inductive Av (K : PySem.W.Frag) (H : Hp) : V → Bool → Prop
  | no {v : V} (h : Tv K H v none) : Av K H v false
  | tup {v : V} {xs : List V} {os : List (Option PySem.Str)} (h : Tv K H v (some xs)) (hs : Paired (Nv K H) xs os) (hl : xs.length ≤ 1000) : Av K H v (os.all isNm)
def spAre (K : PySem.W.Frag) : Sp := fun vs H Q _ => ∃ (v : V) (r : Bool), vs = [v] ∧ Av K H v r ∧ ∀ H', Same H H' → Q (.bl r) H'
/-- names that the top has and others use -/
structure Cons (mg : PySem.Str → Option Value) : Prop where
  ln : ∃ t, mg "LONGEST_NAME" = some (.int 8 t)
  mp : ∃ t, mg "MOST_PLACED" = some (.int 5 t)
theorem paired_at {α β : Type} {F : α → β → Prop} : ∀ {xs : List α} {os : List β} {i : Nat} {x : α}, Paired F xs os → xs[i]? = some x → ∃ o, os[i]? = some o ∧ F x o
  | _, _, _, _, .nil, h => by simp at h
  | _, _, 0, _, .cons h t, e => by simp at e; subst e; exact ⟨_, by simp, h⟩
  | _, _, i + 1, _, .cons h t, e => by simp at e; obtain ⟨o, e2, h2⟩ := paired_at t e; exact ⟨o, by simpa using e2, h2⟩
theorem paired_len {α β : Type} {F : α → β → Prop} : ∀ {xs : List α} {os : List β}, Paired F xs os → xs.length = os.length
  | _, _, .nil => rfl
  | _, _, .cons _ t => by simp [paired_len t]
theorem paired_map {α β : Type} {F G : α → β → Prop} (fg : ∀ a b, F a b → G a b) : ∀ {xs : List α} {os : List β}, Paired F xs os → Paired G xs os
  | _, _, .nil => .nil
  | _, _, .cons h t => .cons (fg _ _ h) (paired_map fg t)
section
variable {P : Program} {w : World} {K : PySem.W.Frag} {mg : PySem.Str → Option Value} {base : Heap}
theorem scIsName : FnScope ["value"] ["value"] (defScope sIsName) := ⟨rfl, rfl, rfl, by decide +kernel, rfl, by decide +kernel, by decide +kernel⟩
theorem ok_is_name {f : Addr} {fd : FuncData} (F : Fun K "is_name" "is_name" sIsName f fd) (T : Bare mg) (C : Cons mg) : FnOk P w K mg base CX0 1 f fd ["value"] (spIsName K) := by
  refine F.ok scIsName (fun vs H Q E h => ?_) (fun cdv A outer s H vs Q E hr h => ?_)
  · obtain ⟨v, o, rfl, _⟩ := h
    rfl
  · obtain ⟨v, o, rfl, N, q⟩ := h
    obtain ⟨tl, ml⟩ := C.ln
    refine ⟨_, (pss_cons (ps_if (PW.pt (pw_or (pt_not (pt_val (pe_callB call_isi (by rfl) T.isi (by decide +kernel) (pa_cons (pv 0) (pa_cons (pe_bltn (v := .ty "str") (by rfl) T.str (by decide +kernel) rfl) pa_nil))))) (pw_or1 (pt_not (pt_chain op_le op_le pe_int (pe_callB call_len_str (by rfl) T.len (by decide +kernel) (pa_cons (pv 0) pa_nil)) (pe_glob (v := .int 8) rfl ml ⟨_, rfl⟩)))))) (pss_one (ps_ret pe_bl)) pss_nil)
      (pss_one (ps_ret (pe_and (pe_bm0 PySem.F.plainAttrs_str PySem.F.slot_str_isascii PySem.F.type_str_isascii mt_isascii (pv 0)) (pe_and (pe_bm0 PySem.F.plainAttrs_str PySem.F.slot_str_isalpha PySem.F.type_str_isalpha mt_isalpha (pv 0)) (pe_one (pe_bm0 PySem.F.plainAttrs_str PySem.F.slot_str_islower PySem.F.type_str_islower mt_islower (pv 0)))))))), ?_⟩
    cases N with
    | no ty hk =>
      refine ⟨v, rfl, v, .ty "str", _, .type "str", false, rfl, .ty _, ty, kit_ty hk, false, rfl, ?_⟩
      exact q
    | str x hx =>
      refine ⟨_, rfl, _, .ty "str", _, .type "str", true, rfl, .ty _, .base (.str x), kit_ty (by decide +kernel), true, rfl, ?_⟩
      refine ⟨_, rfl, x, rfl, (by rw [sizeLine_eq]; omega), _, _, rfl, rfl, _, rfl, ?_⟩
      refine ite2 (fun h1 => ?_) (fun h1 => ?_)
      · refine ⟨_, _, rfl, rfl, _, rfl, ?_⟩
        have h1' : 1 ≤ x.length := by have := of_decide_eq_true h1; omega
        by_cases h2 : x.length ≤ 8
        · have e : decide ((x.length : Int) ≤ 8) = true := decide_eq_true (by omega)
          rw [e]
          refine ⟨_, rfl, rfl, x, rfl, rfl, trivial, _, rfl, ?_⟩
          have z := nm_prog h1' h2
          cases ha : Txt.isascii x with
          | false => rw [ha] at z; show Q (.bl false) H; rw [show isNm (some x) = false from z] at q; exact q
          | true =>
            refine ⟨_, rfl, rfl, x, rfl, rfl, trivial, _, rfl, ?_⟩
            cases hb : Txt.isalpha x with
            | false => rw [ha, hb] at z; show Q (.bl false) H; rw [show isNm (some x) = false from z] at q; exact q
            | true =>
              refine ⟨_, rfl, rfl, x, rfl, rfl, trivial, ?_⟩
              rw [ha, hb] at z
              rw [show isNm (some x) = Txt.islower x from z] at q
              exact q
        · have e : decide ((x.length : Int) ≤ 8) = false := decide_eq_false (by omega)
          rw [e]
          have z : isNm (some x) = false := by show nm x = false; unfold nm; rw [decide_eq_false h2, Bool.false_and, Bool.and_false]
          rw [z] at q
          exact q
      · have h1' : ¬ 1 ≤ x.length := by have := of_decide_eq_false (Bool.eq_false_iff.mpr h1); omega
        have z : isNm (some x) = false := by show nm x = false; unfold nm; rw [decide_eq_false h1', Bool.false_and]
        rw [z] at q
        exact ⟨_, rfl, q⟩
theorem scAre : FnScope ["value", "part"] ["value"] (defScope sAre) := ⟨rfl, rfl, rfl, by decide +kernel, rfl, by decide +kernel, by decide +kernel⟩
theorem take_map_snoc {α β : Type} {g : α → β} {l : List α} {i : Nat} {o : α} (h : l[i]? = some o) : (l.take i).map g ++ [g o] = (l.take (i + 1)).map g := by
  rw [List.take_add_one, h, List.map_append] <;> rfl
theorem ok_are {f fN : Addr} {fd fdN : FuncData} (F : Fun K "are_names" "are_names" sAre f fd) (T : Bare mg) (C : Cons mg) (FN : Fun K "is_name" "is_name" sIsName fN fdN) (bN : Binds K fdN ["value"] []) (mN : mg "is_name" = some (.ref fN)) : FnOk P w K mg base CX0 2 f fd ["value"] (spAre K) := by
  have GN : FnOk P w K mg base CX0 1 fN fdN ["value"] (spIsName K) := ok_is_name FN T C
  refine F.ok scAre (fun vs H Q E h => ?_) (fun cdv A outer s H vs Q E hr h => ?_)
  · obtain ⟨v, r, rfl, _⟩ := h
    rfl
  · obtain ⟨v, r, rfl, Ha, q⟩ := h
    refine ⟨_, (pss_one (ps_ret (pe_and (pe_callB call_isi (by rfl) T.isi (by decide +kernel) (pa_cons (pv 0) (pa_cons (pe_bltn (v := .ty "tuple") (by rfl) T.tup (by decide +kernel) rfl) pa_nil))) (pe_one (pe_callB (cr_all rfl) (by rfl) T.all (by decide +kernel) (pa_cons (pe_lc (own := [("part", 1)]) (g := gName 1) (tt := tYes) rfl scAre.nd (pi_tup (pv 0)) (blkOk_by (own := [("part", 1)]) (N := ["value", "part"]) (sc := defScope sAre) (by decide +kernel)) (fun _ _ _ _ _ => pg_name (i := 1) scAre.nd rfl (Or.inl rfl)) (fun _ _ _ _ _ => pts_nil) (fun _ _ _ _ _ => (pe_call GN hr (by rfl) mN FN.kp bN .nil pass0 (pa_cons (pv 1) pa_nil)))) pa_nil)))))), ?_⟩
    cases Ha with
    | no Hv =>
      cases Hv with
      | no ty hk => exact ⟨v, rfl, v, .ty "tuple", _, .type "tuple", false, rfl, .ty _, ty, kit_ty hk, false, rfl, q _ (Same.refl _)⟩
    | @tup xs os Hv hs hlen =>
      cases Hv with
      | @tup a _ e ty =>
        refine ⟨_, rfl, _, .ty "tuple", _, .type "tuple", true, rfl, .ty _, ty, kit_ty (by decide +kernel), true, rfl, ?_⟩
        refine ⟨_, rfl, a, rfl, ⟨_, e⟩, fun D n0 => ?_⟩
        have sD : ∀ o, Same H (upd H D o) := fun o b u e => by rw [upd_ne (ne_of_none e n0)] <;> exact e
        refine lc_tup (K := K) (a := a) (xs := xs) (fun i H' => H' D = some (.lst ((os.take i).map fun o => V.bl (isNm o))) ∧ ∀ b u, H b = some u → H' b = some u) ⟨upd_same, sD _⟩ (fun i H' _ hP => sqT_same e hP.2) (fun i x H' hx hP => ⟨rfl, ?_⟩) (fun H' hP => ?_)
        · obtain ⟨o, ho, hn⟩ := paired_at hs hx
          have hi : i < os.length := (List.getElem?_eq_some_iff.mp ho).1
          have hol : os.length ≤ 1000 := by rw [← paired_len hs]; exact hlen
          refine ⟨_, rfl, x, o, rfl, hn.same hP.2, _, hP.1, ?_, ?_, fun b u eb => ?_⟩
          · rw [List.length_map, List.length_take, sizeLine_eq]; omega
          · rw [upd_same]
            rw [take_map_snoc (g := fun o => V.bl (isNm o)) ho]
          · rw [upd_ne (ne_of_none eb n0)] <;> exact hP.2 b u eb
        · refine ⟨D, os.map isNm, rfl, SqL.of ?_, ?_⟩
          · rw [hP.1, List.map_map, paired_len hs, List.take_length] <;> rfl
          · rw [List.all_map]
            exact q _ hP.2
end
section
variable {X : Cx}
def rInDT (K : PySem.W.Frag) : R2 := fun x y H Q => ∃ d ds, Dp K H x d ∧ Dp K H y (.tuple ds) ∧ SeqAt.shaped d = true ∧ SeqAt.shaped (.tuple ds) = true ∧ Q (.bl (ds.any fun z => PyData.eqv z d)) H
theorem op_inDT (hu : X.A.units + 65 < cLine) : OpR X (compareOp .In) (rInDT X.K) := by
  intro pins s σ H x y v u Q I rx ry h
  obtain ⟨d, ds, hd, he, sd, se, q⟩ := h
  obtain ⟨as, r1⟩ := Dp.reads I d x v hd rx
  obtain ⟨bs, r2⟩ := Dp.reads I (.tuple ds) y u he ry
  refine SeqAt.in_tuple_reads r2 r1 (SeqAt.canLay_of_shaped se) (SeqAt.canLay_of_shaped sd) ?_ ⟨.bl _, H, I, rfl, q⟩
  have h1 := SeqAt.depth_of_shaped sd
  have h2 : min (PyData.depthAll ds) d.depth ≤ d.depth := Nat.min_le_right _ _
  omega
end
theorem sqL_same {K : PySem.W.Frag} {H H' : Hp} {a : Addr} {xs : List V} (h : SqL K H a xs) (s : Same H H') : SqL K H' a xs := by
  rcases h with (h | ⟨o, h⟩) | h
  · exact .inl (.inl (s _ _ h))
  · exact .inl (.inr ⟨o, s _ _ h⟩)
  · exact .inr h
mutual
theorem dp_same {K : PySem.W.Frag} {H H' : Hp} (s : Same H H') : ∀ {v : V} {d : PyData}, Dp K H v d → Dp K H' v d
  | _, _, .non => .non
  | _, _, .bl b => .bl b
  | _, _, .int i => .int i
  | _, _, .str x => .str x
  | _, _, .lst h hs => .lst (sqL_same h s) (dps_same s hs)
  | _, _, .tup h hs => .tup (sqT_same h s) (dps_same s hs)
theorem dps_same {K : PySem.W.Frag} {H H' : Hp} (s : Same H H') : ∀ {vs : List V} {ds : List PyData}, DpAll K H vs ds → DpAll K H' vs ds
  | _, _, .nil => .nil
  | _, _, .cons h t => .cons (dp_same s h) (dps_same s t)
end
end K8
/-! _is_step. -/
namespace K8
open PySem PySem.Spec PyProof.Rows L2 K0 K1

def isWish (d : PyData) : Bool := PyData.eqv d (.str "wish")
def scr (d : PyData) : Bool := [PyData.str "send", PyData.str "come", PyData.str "read"].any fun z => PyData.eqv z d
def ne34 (os : List (Option PySem.Str)) : Bool := match os with
  | [_, _, b, c] => !decide (b = c)
  | _ => false
def stp (d : PyData) (os : List (Option PySem.Str)) : Bool := if isWish d then ne34 os else decide (os.length = 1) && scr d
/-- a value as a step, with the answer -/
inductive Sv (K : PySem.W.Frag) (H : Hp) : V → Bool → Prop
  | no {v : V} (h : Tv K H v none) : Sv K H v false
  | nil {v : V} (h : Tv K H v (some [])) : Sv K H v false
  | bad {v x : V} {xs : List V} {os : List (Option PySem.Str)} (h : Tv K H v (some (x :: xs))) (hs : Paired (Nv K H) xs os) (hl : xs.length ≤ 900) (hf : os.all isNm = false) : Sv K H v false
  | tup {v x : V} {xs : List V} {os : List (Option PySem.Str)} {d : PyData} (h : Tv K H v (some (x :: xs))) (hs : Paired (Nv K H) xs os) (hl : xs.length ≤ 900) (hf : os.all isNm = true) (hd : Dp K H x d) (sd : SeqAt.shaped d = true) : Sv K H v (stp d os)
theorem Sv.same {K : PySem.W.Frag} {H H' : Hp} {v : V} {r : Bool} (h : Sv K H v r) (s : Same H H') : Sv K H' v r := by
  cases h with
  | no h => exact .no (h.same s)
  | nil h => exact .nil (h.same s)
  | bad h hs hl hf => exact .bad (h.same s) (paired_map (fun a b q => q.same s) hs) hl hf
  | tup h hs hl hf hd sd => exact .tup (h.same s) (paired_map (fun a b q => q.same s) hs) hl hf (dp_same s hd) sd
def spIsStep (K : PySem.W.Frag) : Sp := fun vs H Q _ => ∃ (v : V) (r : Bool), vs = [v] ∧ Sv K H v r ∧ ∀ H', Same H H' → Q (.bl r) H'
theorem cut1 (x : V) (xs : List V) : cutV (x :: xs) (some 1) none = xs := by
  have h1 : HT.sIx (x :: xs).length 0 (some 1) = 1 := by unfold HT.sIx; simp
  have h2 : HT.sIx (x :: xs).length (x :: xs).length none = xs.length + 1 := rfl
  unfold cutV
  rw [h1, h2]
  simp
theorem four {K : PySem.W.Frag} {H : Hp} : ∀ {xs : List V} {os : List (Option PySem.Str)}, Paired (Nv K H) xs os → os.all isNm = true → (xs.length ≠ 4 ∧ ne34 os = false) ∨ ∃ y1 y2 b c, xs = [y1, y2, .str b, .str c] ∧ ne34 os = !decide (V.str b = V.str c)
  | _, _, .nil, _ => .inl ⟨by decide, rfl⟩
  | _, _, .cons _ .nil, _ => .inl ⟨by simp, rfl⟩
  | _, _, .cons _ (.cons _ .nil), _ => .inl ⟨by simp, rfl⟩
  | _, _, .cons _ (.cons _ (.cons _ .nil)), _ => .inl ⟨by simp, rfl⟩
  | _, _, .cons _ (.cons _ (.cons _ (.cons _ (.cons _ _)))), _ => .inl ⟨by simp, rfl⟩
  | _, _, .cons (b := o1) _ (.cons (b := o2) _ (.cons n3 (.cons n4 .nil))), hf => by
    simp only [List.all_cons, List.all_nil, Bool.and_eq_true, Bool.and_true] at hf
    cases n3 with
    | no _ _ => cases hf.2.2.1
    | str b hb1 =>
      cases n4 with
      | no _ _ => cases hf.2.2.2
      | str c hc1 =>
        refine .inr ⟨_, _, b, c, rfl, ?_⟩
        show (!decide (some b = some c)) = _
        congr 1
        by_cases h : b = c
        · subst h; simp
        · rw [decide_eq_false (by simpa using h), decide_eq_false (by intro z; cases z; exact h rfl)]
section
variable {P : Program} {w : World} {K : PySem.W.Frag} {mg : PySem.Str → Option Value} {base : Heap}
theorem scIsStep : FnScope ["value"] ["value"] (defScope sIsStep) := ⟨rfl, rfl, rfl, by decide +kernel, rfl, by decide +kernel, by decide +kernel⟩
theorem ok_is_step {f fA fN : Addr} {fd fdA fdN : FuncData} (F : Fun K "_is_step" "_is_step" sIsStep f fd) (T : Bare mg) (C : Cons mg) (FN : Fun K "is_name" "is_name" sIsName fN fdN) (bN : Binds K fdN ["value"] []) (mN : mg "is_name" = some (.ref fN))
    (FA : Fun K "are_names" "are_names" sAre fA fdA) (bA : Binds K fdA ["value"] []) (mA : mg "are_names" = some (.ref fA)) : FnOk P w K mg base CX0 3 f fd ["value"] (spIsStep K) := by
  have GA : FnOk P w K mg base CX0 2 fA fdA ["value"] (spAre K) := ok_are FA T C FN bN mN
  refine F.ok scIsStep (fun vs H Q E h => ?_) (fun cdv A outer s H vs Q E hr h => ?_)
  · obtain ⟨v, r, rfl, _⟩ := h
    rfl
  · obtain ⟨v, r, rfl, Hv, q⟩ := h
    have hu : (A.deeper (envOfC "_is_step" (defScope sIsStep) s.heap.objs.size f cdv)).units + 65 < cLine := by have := hr.un; omega
    refine ⟨_, (pss_cons (ps_if (PW.pt (pw_or (pt_not (pt_val (pe_callB call_isi (by rfl) T.isi (by decide +kernel) (pa_cons (pv 0) (pa_cons (pe_bltn (v := .ty "tuple") (by rfl) T.tup (by decide +kernel) rfl) pa_nil)))))
        (pw_or (pt_not (pt_truth (pv 0) (by intro _; rfl))) (pw_or1 (pt_not (pt_val (pe_call GA hr (by rfl) mA FA.kp bA .nil pass0 (pa_cons (pe_slice sl_tup (pv 0) (po_some pe_int) po_none) pa_nil)))))))) (pss_one (ps_ret pe_bl)) pss_nil)
      (pss_cons (ps_if (pt_cmpR (op_eqD (Nat.lt_of_le_of_lt (Nat.add_le_add_left (show 64 ≤ 65 by decide) _) hu)) (pe_ix ix_tup (pv 0) pe_int (fun _ _ => rfl)) pe_str (nomark _))
        (pss_one (ps_ret (pe_and (pe_cmpR op_eq (pe_callB call_len_seq (by rfl) T.len (by decide +kernel) (pa_cons (pv 0) pa_nil)) pe_int (nomark _)) (pe_one (pe_cmpR op_ne (pe_ix ix_tup (pv 0) pe_int (fun _ _ => rfl)) (pe_ix ix_tup (pv 0) pe_int (fun _ _ => rfl)) (nomark _)))))) pss_nil)
      (pss_one (ps_ret (pe_and (pe_cmpR op_eq (pe_callB call_len_seq (by rfl) T.len (by decide +kernel) (pa_cons (pv 0) pa_nil)) pe_int (nomark _)) (pe_one (pe_cmpR (op_inDT hu) (pe_ix ix_tup (pv 0) pe_int (fun _ _ => rfl)) (pe_tup (pa_cons pe_str (pa_cons pe_str (pa_cons pe_str pa_nil)))) (by rfl)))))))), ?_⟩
    have names : ∀ {a : Addr} {x : V} {xs : List V} {os : List (Option PySem.Str)}, SqT K H a (x :: xs) → Paired (Nv K H) xs os → xs.length ≤ 900 → ∀ (p : Addr), H p = none → Same H (upd H p (.tup (cutV (x :: xs) (some 1) none))) ∧ Av K (upd H p (.tup (cutV (x :: xs) (some 1) none))) (.ref p) (os.all isNm) := by
      intro a x xs os e hs hl p np
      have sp : Same H (upd H p (.tup (cutV (x :: xs) (some 1) none))) := sn np
      refine ⟨sp, ?_⟩
      rw [cut1]
      rw [cut1] at sp
      exact .tup (.tup (SqT.of upd_same) (.base (.tup upd_same))) (paired_map (fun a b q => q.same sp) hs) (by omega)
    have nix : ∀ {x : V} {xs : List V}, ¬ (HT.sIx (x :: xs).length 0 (some 1) = 0 ∧ HT.sIx (x :: xs).length (x :: xs).length none = (x :: xs).length) := by
      intro x xs h
      have h1 : HT.sIx (x :: xs).length 0 (some 1) = 1 := by unfold HT.sIx; simp
      rw [h1] at h
      exact absurd h.1 (by decide)
    cases Hv with
    | no Hv =>
      cases Hv with
      | no ty hk => exact ⟨v, rfl, v, .ty "tuple", _, .type "tuple", false, rfl, .ty _, ty, kit_ty hk, false, rfl, q _ (Same.refl _)⟩
    | nil Hv =>
      cases Hv with
      | @tup a _ e ty =>
        refine ⟨_, rfl, _, .ty "tuple", _, .type "tuple", true, rfl, .ty _, ty, kit_ty (by decide +kernel), true, rfl, ?_⟩
        refine ⟨_, rfl, false, .inr (.inl ⟨_, e, rfl⟩), ?_⟩
        exact q _ (Same.refl _)
    | @bad x xs os Hv hs hl hf =>
      cases Hv with
      | @tup a _ e ty =>
        refine ⟨_, rfl, _, .ty "tuple", _, .type "tuple", true, rfl, .ty _, ty, kit_ty (by decide +kernel), true, rfl, ?_⟩
        refine ⟨_, rfl, true, .inr (.inl ⟨_, e, rfl⟩), ?_⟩
        refine ⟨_, rfl, _, rfl, a, _, rfl, e, nix, fun p np => ?_⟩
        obtain ⟨sp, av⟩ := names e hs hl p np
        refine ⟨_, _, rfl, av, fun H1 s1 => ?_⟩
        rw [hf]
        exact ⟨_, rfl, q _ (sp.trans s1)⟩
    | @tup x xs os d Hv hs hl hf hd sd =>
      cases Hv with
      | @tup a _ e ty =>
        refine ⟨_, rfl, _, .ty "tuple", _, .type "tuple", true, rfl, .ty _, ty, kit_ty (by decide +kernel), true, rfl, ?_⟩
        refine ⟨_, rfl, true, .inr (.inl ⟨_, e, rfl⟩), ?_⟩
        refine ⟨_, rfl, _, rfl, a, _, rfl, e, nix, fun p np => ?_⟩
        obtain ⟨sp, av⟩ := names e hs hl p np
        refine ⟨_, _, rfl, av, fun H1 s1 => ?_⟩
        rw [hf]
        have s2 := sp.trans s1
        have e2 := sqT_same e s2
        refine ⟨_, rfl, _, rfl, a, _, 0, x, rfl, rfl, e2, at_of rfl rfl, d, .str "wish", dp_same s2 hd, .str _, sd, by decide +kernel, _, rfl, ?_⟩
        have hol := paired_len hs
        refine ite2 (fun h1 => ?_) (fun h1 => ?_)
        · have hw : isWish d = true := h1
          rw [show stp d os = ne34 os by unfold stp; rw [hw]; rfl] at q
          refine ⟨_, rfl, a, _, rfl, .inr e2, rfl, _, rfl, ?_⟩
          rcases four hs hf with ⟨hl4, hn⟩ | ⟨y1, y2, b, c, rfl, hn⟩
          · rw [hn] at q
            have z : decide (V.int ((x :: xs).length : Int) = V.int 5) = false := decide_eq_false fun h => by
              have h' := V.int.inj h
              simp only [List.length_cons] at h'
              omega
            rw [z]
            exact q _ s2
          · rw [hn] at q
            refine ⟨_, rfl, a, _, 3, .str b, rfl, rfl, e2, rfl, _, rfl, a, _, 4, .str c, rfl, rfl, e2, rfl, rfl, ?_⟩
            exact q _ s2
        · have hw : isWish d = false := Bool.eq_false_iff.mpr h1
          rw [show stp d os = (decide (os.length = 1) && scr d) by unfold stp; rw [hw]; rfl] at q
          refine ⟨_, rfl, a, _, rfl, .inr e2, rfl, _, rfl, ?_⟩
          by_cases h1 : os.length = 1
          · have z : decide (V.int ((x :: xs).length : Int) = V.int 2) = true := decide_eq_true (by rw [List.length_cons, hol, h1]; rfl)
            rw [decide_eq_true h1, Bool.true_and] at q
            rw [z]
            refine ⟨_, rfl, a, _, 0, x, rfl, rfl, e2, at_of rfl rfl, (by show 3 ≤ sizeLine; decide), fun r nr => ?_⟩
            have s3 : Same _ (upd H1 r (.tup [.str "send", .str "come", .str "read"])) := s2.trans (sn nr)
            exact ⟨d, [.str "send", .str "come", .str "read"], dp_same s3 hd, .tup (SqT.of upd_same) (.cons (.str _) (.cons (.str _) (.cons (.str _) .nil))), sd, by decide +kernel, q _ s3⟩
          · have z : decide (V.int ((x :: xs).length : Int) = V.int 2) = false := decide_eq_false fun h => by
              have h' := V.int.inj h
              simp only [List.length_cons] at h'
              omega
            rw [decide_eq_false h1, Bool.false_and] at q
            rw [z]
            exact q _ s2
end
end K8
/-! format_steps. -/
namespace K8
open PySem PySem.Spec PyProof.Rows L2 K0 K1 TL

/-- words as a step -/
def stpW : List PySem.Str → Bool
  | [] => false
  | w :: r => (r.map some).all isNm && stp (.str w) (r.map some)
/-- a tuple of texts -/
def Ws (K : PySem.W.Frag) (H : Hp) (v : V) (ws : List PySem.Str) : Prop := ∃ a, v = .ref a ∧ SqT K H a (ws.map V.str) ∧ TyX K H (.ref a) (.type "tuple")
theorem Ws.same {K : PySem.W.Frag} {H H' : Hp} {v : V} {ws : List PySem.Str} (h : Ws K H v ws) (s : Same H H') : Ws K H' v ws :=
  let ⟨a, e, q, t⟩ := h
  ⟨a, e, sqT_same q s, tyx_same t s⟩
theorem Ws.new {K : PySem.W.Frag} {H : Hp} {a : Addr} {ws : List PySem.Str} (h : H a = some (.tup (ws.map V.str))) : Ws K H (.ref a) ws := ⟨a, rfl, SqT.of h, .base (.tup h)⟩
theorem nvs {K : PySem.W.Frag} {H : Hp} : ∀ {ws : List PySem.Str}, (∀ w ∈ ws, w.length ≤ 1000) → Paired (Nv K H) (ws.map V.str) (ws.map some)
  | [], _ => .nil
  | w :: r, h => .cons (.str w (h w (List.mem_cons_self ..))) (nvs fun x hx => h x (List.mem_cons_of_mem _ hx))
theorem Ws.sv {K : PySem.W.Frag} {H : Hp} {v : V} {ws : List PySem.Str} (h : Ws K H v ws) (hl : ws.length ≤ 900) (hw : ∀ w ∈ ws, w.length ≤ 900 ∧ PyData.strOk w = true) : Sv K H v (stpW ws) := by
  obtain ⟨a, rfl, e, ty⟩ := h
  cases ws with
  | nil => exact .nil (.tup e ty)
  | cons w r =>
    have hr := nvs (K := K) (H := H) (ws := r) fun x hx => Nat.le_trans (hw x (List.mem_cons_of_mem _ hx)).1 (by decide)
    have hl' : (r.map V.str).length ≤ 900 := by rw [List.length_map]; simp only [List.length_cons] at hl; omega
    cases hf : (r.map some).all isNm with
    | false =>
      rw [show stpW (w :: r) = false by simp [stpW, hf]]
      exact .bad (.tup e ty) hr hl' hf
    | true =>
      rw [show stpW (w :: r) = stp (.str w) (r.map some) by simp [stpW, hf]]
      exact .tup (.tup e ty) hr hl' hf (.str w) (by simp [SeqAt.shaped, PyData.canLay0, PyData.depth, (hw w (List.mem_cons_self ..)).2])
/-- the text of steps -/
def stTxt (rows : List (List PySem.Str)) : PySem.Str := Txt.join "\n" (rows.map (Txt.join " "))
/-- rows that are small -/
structure Small (rows : List (List PySem.Str)) : Prop where
  len : rows.length ≤ 900
  row : ∀ ws ∈ rows, ws.length ≤ 900 ∧ (∀ w ∈ ws, w.length ≤ 900 ∧ PyData.strOk w = true) ∧ (ws.map (·.length)).sum + ws.length ≤ 1000
/-- a value as steps, which they are, or none -/
inductive Fv (K : PySem.W.Frag) (H : Hp) : V → Option (List (List PySem.Str)) → Prop
  | no {v : V} (h : Tv K H v none) : Fv K H v none
  | bad {v : V} {xs : List V} {bs : List Bool} (h : Tv K H v (some xs)) (hs : Paired (Sv K H) xs bs) (hl : xs.length ≤ 900) (hf : bs.all id = false) : Fv K H v none
  | good {v : V} {xs : List V} {rows : List (List PySem.Str)} (h : Tv K H v (some xs)) (hs : Paired (Ws K H) xs rows) (hl : Small rows) (hf : rows.all stpW = true) : Fv K H v (some rows)
theorem paired_of {α β : Type} {F : α → β → Prop} {γ : Type} {G : α → γ → Prop} (g : β → γ) : ∀ {xs : List α} {os : List β}, Paired F xs os → (∀ a b, b ∈ os → F a b → G a (g b)) → Paired G xs (os.map g)
  | _, _, .nil, _ => .nil
  | _, _, .cons h t, fg => .cons (fg _ _ (List.mem_cons_self ..) h) (paired_of g t fun a b hb => fg a b (List.mem_cons_of_mem _ hb))
theorem Small.sv {K : PySem.W.Frag} {H : Hp} {xs : List V} {rows : List (List PySem.Str)} (hs : Paired (Ws K H) xs rows) (hl : Small rows) : Paired (Sv K H) xs (rows.map stpW) :=
  paired_of stpW hs fun a ws hb h => h.sv (hl.row ws hb).1 (hl.row ws hb).2.1
theorem Fv.same {K : PySem.W.Frag} {H H' : Hp} {v : V} {o : Option (List (List PySem.Str))} (h : Fv K H v o) (s : Same H H') : Fv K H' v o := by
  cases h with
  | no h => exact .no (h.same s)
  | bad h hs hl hf => exact .bad (h.same s) (paired_map (fun a b q => q.same s) hs) hl hf
  | good h hs hl hf => exact .good (h.same s) (paired_map (fun a b q => q.same s) hs) hl hf
def spFmtSt (K : PySem.W.Frag) (C : Addr) : Sp := fun vs H Q E => ∃ (v : V) (o : Option (List (List PySem.Str))), vs = [v] ∧ Fv K H v o ∧ match o with
  | some rows => ∀ H', Same H H' → Q (.str (stTxt rows)) H'
  | none => ∀ H', Same H H' → E (.ref C) none H'
/-- what the top says of an exception -/
structure ExN (K : PySem.W.Frag) (mg : PySem.Str → Option Value) (x : PySem.Str) (C : Addr) : Prop where
  g : mg x = some (.ref C)
  q : PySem.W.excInitIn K C [.type "ValueError", .type "Exception", .type "BaseException", .type "object"] "ValueError.__new__" = true
  i : PySem.W.findIn K (.ref C) "__init__" = some (some (.builtin "ValueError.__init__"))
  b : PySem.W.subIn K (.ref C) (.type "BaseException") = some true
  t : PySem.W.typeIn K (.ref C) = some (.type "type")
  k : PySem.W.keepIn K (.ref C) = true
theorem join_le {y : PySem.Str} {n : Nat} {ps : List PySem.Str} (h : ∀ p ∈ ps, p.length ≤ n) : (ps.map (·.length)).sum + ps.length * y.length ≤ ps.length * (n + y.length) := by
  induction ps with
  | nil => simp
  | cons p r ih =>
    have h1 := h p (List.mem_cons_self ..)
    have h2 := ih fun q hq => h q (List.mem_cons_of_mem _ hq)
    simp only [List.map_cons, List.sum_cons, List.length_cons, Nat.add_mul, Nat.one_mul]
    simp only [Nat.mul_add] at h2 ⊢
    omega
theorem len_join (y : PySem.Str) (ps : List PySem.Str) : (Txt.join y ps).length ≤ (ps.map (·.length)).sum + ps.length * y.length := by
  rw [join_eq]
  exact StrLaws.join_length_le y ps
theorem row_len {ws : List PySem.Str} (h : (ws.map (·.length)).sum + ws.length ≤ 1000) : (Txt.join " " ws).length ≤ 1000 := by
  have z := len_join " " ws
  have e : (" " : PySem.Str).length = 1 := by decide +kernel
  rw [e, Nat.mul_one] at z
  omega
theorem getElem_rows {K : PySem.W.Frag} {H : Hp} {xs : List V} {rows : List (List PySem.Str)} {i : Nat} {x : V} (hs : Paired (Ws K H) xs rows) (e : xs[i]? = some x) : ∃ ws, rows[i]? = some ws ∧ ws ∈ rows ∧ Ws K H x ws := by
  obtain ⟨o, h1, h2⟩ := paired_at hs e
  exact ⟨o, h1, List.mem_of_getElem? h1, h2⟩
def tJoin (K : PySem.W.Frag) (to te : TE) : TE := tM1 (fun x xs H Q => ∃ a p, ∃ ys : List PySem.Str, x = .str a ∧ xs = [.ref p] ∧ (SqL K H p (ys.map V.str) ∨ SqT K H p (ys.map V.str)) ∧ (ys.map (·.length)).sum + ys.length * a.length ≤ 16777216 ∧ Q (.str (Txt.join a ys)) H) to te
theorem pe_joinJ {X : Cx} {o e : Expr} {to te : TE} {apos pos : Pos} (ho : PE X o to) (he : PE X e te) (hs : starEach [e] X.env = [(false, eval e X.env)] := by rfl) (hbase : attributeBase o "join" X.env (eval o X.env) = eval o X.env := by rfl) (hline : (apos.endLine == pos.line) = true := by rfl) :
    PE X (.Call (.Attribute o "join" apos) [e] [] pos) (tJoin X.K to te) := pe_join ho he hs hbase hline
section
variable {P : Program} {w : World} {K : PySem.W.Frag} {mg : PySem.Str → Option Value} {base : Heap}
theorem scFmtSt : FnScope ["steps", "step"] ["steps"] (defScope sFmtSt) := ⟨rfl, rfl, rfl, by decide +kernel, rfl, by decide +kernel, by decide +kernel⟩
theorem ok_fmt_st {f fS CO : Addr} {fd fdS : FuncData} (F : Fun K "format_steps" "format_steps" sFmtSt f fd) (T : Bare mg) (N : ExN K mg "InvalidOperation" CO)
    (kS : PySem.W.keepIn K (.ref fS) = true) (bS : Binds K fdS ["value"] []) (mS : mg "_is_step" = some (.ref fS)) (GS : FnOk P w K mg base CX0 3 fS fdS ["value"] (spIsStep K)) : FnOk P w K mg base (L2.CX P w) 4 f fd ["steps"] (spFmtSt K CO) := by
  refine F.okX scFmtSt (fun vs H Q E h => ?_) (fun cdv A outer s H vs Q E hr h => ?_)
  · obtain ⟨v, o, rfl, _⟩ := h
    rfl
  · obtain ⟨v, o, rfl, Hv, q⟩ := h
    refine ⟨_, (pss_cons (ps_if (PW.pt (pw_or (pt_not (pt_val (pe_callB call_isi (by rfl) T.isi (by decide +kernel) (pa_cons (pv 0) (pa_cons (pe_bltn (v := .ty "tuple") (by rfl) T.tup (by decide +kernel) rfl) pa_nil)))))
        (pw_or1 (pt_not (pt_val (pe_callB (cr_all rfl) (by rfl) T.all (by decide +kernel) (pa_cons (pe_lc (own := [("step", 1)]) (g := gName 1) (tt := tYes) rfl scFmtSt.nd (pi_tup (pv 0)) (blkOk_by (own := [("step", 1)]) (N := ["steps", "step"]) (sc := defScope sFmtSt) (by decide +kernel)) (fun _ _ _ _ _ => pg_name (i := 1) scFmtSt.nd rfl (Or.inl rfl)) (fun _ _ _ _ _ => pts_nil) (fun _ _ _ _ _ => (pe_call GS (hr.mono (by decide)) (by rfl) mS kS bS .nil pass0 (pa_cons (pv 1) pa_nil)))) pa_nil)))))))
        (pss_one (ps_raise rfl (takes_of rfl rfl rfl rfl) (pmk_exm PySem.F.excBase_ValueError N.q N.i N.b N.t N.g N.k (by rfl) pe_str))) pss_nil)
      (pss_one (ps_ret (pe_joinJ pe_str
        (pe_lc (own := [("step", 1)]) (g := gName 1) (tt := tYes) (te := tJoin K (tC (.str " ")) (tVar 1)) rfl scFmtSt.nd (pi_tup (pv 0)) (blkOk_by (own := [("step", 1)]) (N := ["steps", "step"]) (sc := defScope sFmtSt) (by decide +kernel)) (fun _ _ _ _ _ => pg_name (i := 1) scFmtSt.nd rfl (Or.inl rfl)) (fun _ _ _ _ _ => pts_nil) (fun _ _ _ _ _ => by exact pe_joinJ pe_str (pv 1))))))), ?_⟩
    cases Hv with
    | no Hv =>
      cases Hv with
      | no ty hk => exact ⟨v, rfl, v, .ty "tuple", _, .type "tuple", false, rfl, .ty _, ty, kit_ty hk, false, rfl, q _ (Same.refl _)⟩
    | @bad xs bs Hv hs hl hf =>
      cases Hv with
      | @tup a _ e ty =>
        refine ⟨_, rfl, _, .ty "tuple", _, .type "tuple", true, rfl, .ty _, ty, kit_ty (by decide +kernel), true, rfl, ?_⟩
        refine ⟨_, rfl, a, rfl, ⟨_, e⟩, fun D n0 => ?_⟩
        have sD : ∀ o, Same H (upd H D o) := fun o b u e => by rw [upd_ne (ne_of_none e n0)] <;> exact e
        have hbl := paired_len hs
        refine lc_tup (K := K) (a := a) (xs := xs) (fun i H' => H' D = some (.lst ((bs.take i).map V.bl)) ∧ ∀ b u, H b = some u → H' b = some u) ⟨upd_same, sD _⟩ (fun i H' _ hP => sqT_same e hP.2) (fun i x H' hx hP => ⟨rfl, ?_⟩) (fun H' hP => ?_)
        · obtain ⟨b, hb, hv⟩ := paired_at hs hx
          have hi : i < bs.length := (List.getElem?_eq_some_iff.mp hb).1
          refine ⟨_, rfl, x, b, rfl, hv.same hP.2, fun H2 s2 => ⟨_, s2 _ _ hP.1, ?_, ?_, fun c u ec => ?_⟩⟩
          · rw [List.length_map, List.length_take, sizeLine_eq]; omega
          · rw [upd_same, take_map_snoc (g := V.bl) hb]
          · rw [upd_ne (ne_of_none ec n0)] <;> exact s2 _ _ (hP.2 c u ec)
        · refine ⟨D, bs, rfl, SqL.of ?_, ?_⟩
          · rw [hP.1, hbl, List.take_length]
          · rw [show bs.all id = false from hf]
            exact ⟨_, rfl, q _ hP.2⟩
    | @good xs rows Hv hs hl hf =>
      cases Hv with
      | @tup a _ e ty =>
        refine ⟨_, rfl, _, .ty "tuple", _, .type "tuple", true, rfl, .ty _, ty, kit_ty (by decide +kernel), true, rfl, ?_⟩
        refine ⟨_, rfl, a, rfl, ⟨_, e⟩, fun D n0 => ?_⟩
        have sD : ∀ o, Same H (upd H D o) := fun o b u e => by rw [upd_ne (ne_of_none e n0)] <;> exact e
        have hbl := paired_len hs
        have hsl := hl.len
        refine lc_tup (K := K) (a := a) (xs := xs) (fun i H' => H' D = some (.lst (((rows.map stpW).take i).map V.bl)) ∧ ∀ b u, H b = some u → H' b = some u) ⟨upd_same, sD _⟩ (fun i H' _ hP => sqT_same e hP.2) (fun i x H' hx hP => ⟨rfl, ?_⟩) (fun H' hP => ?_)
        · obtain ⟨b, hb, hv⟩ := paired_at (hl.sv hs) hx
          have hi : i < (rows.map stpW).length := (List.getElem?_eq_some_iff.mp hb).1
          rw [List.length_map] at hi
          refine ⟨_, rfl, x, b, rfl, hv.same hP.2, fun H2 s2 => ⟨_, s2 _ _ hP.1, ?_, ?_, fun c u ec => ?_⟩⟩
          · rw [List.length_map, List.length_take, List.length_map, sizeLine_eq]; omega
          · rw [upd_same, take_map_snoc (g := V.bl) hb]
          · rw [upd_ne (ne_of_none ec n0)] <;> exact s2 _ _ (hP.2 c u ec)
        · have hall : ((rows.map stpW).all id) = true := by rw [List.all_map]; exact hf
          refine ⟨D, rows.map stpW, rfl, SqL.of ?_, ?_⟩
          · rw [hP.1, hbl, show rows.length = (rows.map stpW).length by rw [List.length_map], List.take_length]
          · rw [show (rows.map stpW).all id = true from hall]
            have e' := sqT_same e hP.2
            refine ⟨_, rfl, ⟨_, rfl⟩, _, rfl, a, rfl, ⟨_, e'⟩, fun D2 n2 => ?_⟩
            have sD2 : ∀ o, Same H' (upd H' D2 o) := fun o b u e => by rw [upd_ne (ne_of_none e n2)] <;> exact e
            refine lc_tup (K := K) (a := a) (xs := xs) (fun i H2 => H2 D2 = some (.lst (((rows.map (Txt.join " ")).take i).map V.str)) ∧ ∀ b u, H' b = some u → H2 b = some u) ⟨upd_same, sD2 _⟩ (fun i H2 _ hP2 => sqT_same e' hP2.2) (fun i x H2 hx hP2 => ⟨rfl, ?_⟩) (fun H2 hP2 => ?_)
            · obtain ⟨ws, hb, hm, hv⟩ := getElem_rows hs hx
              have hi : i < rows.length := (List.getElem?_eq_some_iff.mp hb).1
              obtain ⟨a1, rfl, e1, _⟩ := hv
              have e1' := sqT_same (sqT_same e1 hP.2) hP2.2
              have hw := hl.row ws hm
              refine ⟨⟨_, rfl⟩, _, rfl, " ", a1, ws, rfl, rfl, .inr e1', ?_, _, hP2.1, ?_, ?_, fun c u ec => ?_⟩
              · have z : (" " : PySem.Str).length = 1 := by decide +kernel
                rw [z, Nat.mul_one]
                omega
              · rw [List.length_map, List.length_take, List.length_map, sizeLine_eq]; omega
              · rw [upd_same, take_map_snoc (g := V.str) (by rw [List.getElem?_map, hb]; rfl)]
              · rw [upd_ne (ne_of_none ec n2)] <;> exact hP2.2 c u ec
            · refine ⟨_, D2, rows.map (Txt.join " "), rfl, rfl, .inl (SqL.of ?_), ?_, ?_⟩
              · rw [hP2.1, hbl, show rows.length = (rows.map (Txt.join " ")).length by rw [List.length_map], List.take_length]
              · have z : ("\n" : PySem.Str).length = 1 := by decide +kernel
                have b1 := join_le (y := "\n") (n := 1000) (ps := rows.map (Txt.join " ")) fun p hp => by
                  obtain ⟨ws, hm, rfl⟩ := List.mem_map.mp hp
                  exact row_len (hl.row ws hm).2.2
                rw [z] at b1 ⊢
                rw [List.length_map] at b1 ⊢
                have : rows.length * (1000 + 1) ≤ 900 * (1000 + 1) := Nat.mul_le_mul_right _ hsl
                omega
              · exact q _ (Same.trans hP.2 hP2.2)
end
end K8
/-! parse_steps. -/
namespace K8
open PySem PySem.Spec PyProof.Rows L2 K0 K1 TL

/-- words without blanks and line ends -/
def Free (rows : List (List PySem.Str)) : Prop := ∀ ws ∈ rows, ws ≠ [] ∧ ∀ w ∈ ws, 32 ∉ tl w ∧ 10 ∉ tl w
def StT (t : PySem.Str) (rows : List (List PySem.Str)) : Prop := Small rows ∧ ((t.length = 0 ∧ rows = []) ∨ (t.length ≠ 0 ∧ rows ≠ [] ∧ Free rows ∧ t = stTxt rows))
theorem mem_joinL {S : List Nat} {c : Nat} : ∀ {ps : List (List Nat)}, c ∈ joinL S ps → c ∈ S ∨ ∃ p ∈ ps, c ∈ p
  | [], h => nomatch h
  | [p], h => .inr ⟨p, List.mem_cons_self .., h⟩
  | p :: q :: r, h => by
    have h' : c ∈ p ++ (S ++ joinL S (q :: r)) := h
    simp only [List.mem_append] at h'
    rcases h' with h' | h' | h'
    · exact .inr ⟨p, List.mem_cons_self .., h'⟩
    · exact .inl h'
    · rcases mem_joinL h' with z | ⟨x, hx, z⟩
      · exact .inl z
      · exact .inr ⟨x, List.mem_cons_of_mem _ hx, z⟩
theorem mem_join {y : PySem.Str} {c : Nat} {ps : List PySem.Str} (h : c ∈ tl (Txt.join y ps)) : c ∈ tl y ∨ ∃ p ∈ ps, c ∈ tl p := by
  rw [TL.join_eq, tl_join] at h
  rcases mem_joinL h with z | ⟨x, hx, z⟩
  · exact .inl z
  · obtain ⟨p, hp, rfl⟩ := List.mem_map.mp hx
    exact .inr ⟨p, hp, z⟩
theorem tl_blank : tl (" " : PySem.Str) = [32] := by decide +kernel
theorem tl_line : tl ("\n" : PySem.Str) = [10] := by decide +kernel
theorem split_rows {rows : List (List PySem.Str)} (hne : rows ≠ []) (hf : Free rows) : Txt.split (stTxt rows) "\n" = rows.map (Txt.join " ") := by
  refine TL.split_join tl_line (by decide +kernel) (fun e => hne (List.map_eq_nil_iff.mp e)) fun p hp h => ?_
  obtain ⟨ws, hw, rfl⟩ := List.mem_map.mp hp
  rcases mem_join h with z | ⟨x, hx, z⟩
  · rw [tl_blank] at z
    simp at z
  · exact ((hf ws hw).2 x hx).2 z
theorem split_row {rows : List (List PySem.Str)} (hf : Free rows) {ws : List PySem.Str} (hw : ws ∈ rows) : Txt.split (Txt.join " " ws) " " = ws :=
  TL.split_join tl_blank (by decide +kernel) (hf ws hw).1 fun p hp h => ((hf ws hw).2 p hp).1 h
theorem stTxt_len {rows : List (List PySem.Str)} (h : Small rows) : (stTxt rows).length ≤ 901000 := by
  have z := len_join "\n" (rows.map (Txt.join " "))
  have e : ("\n" : PySem.Str).length = 1 := by decide +kernel
  have b1 := join_le (y := "\n") (n := 1000) (ps := rows.map (Txt.join " ")) fun p hp => by
    obtain ⟨ws, hm, rfl⟩ := List.mem_map.mp hp
    exact row_len (h.row ws hm).2.2
  rw [e] at z b1
  rw [List.length_map] at z b1
  have h1 := h.len
  have : rows.length * (1000 + 1) ≤ 900 * (1000 + 1) := Nat.mul_le_mul_right _ h1
  have : (stTxt rows).length ≤ _ := z
  omega
def spParSt (K : PySem.W.Frag) (C : Addr) : Sp := fun vs H Q E => ∃ (t : PySem.Str) (rows : List (List PySem.Str)), vs = [.str t] ∧ StT t rows ∧ match rows.all stpW with
  | true => ∀ (p : Addr) (ps : List V) (H' : Hp), Same H H' → H' p = some (.tup ps) → Paired (Ws K H') ps rows → Q (.ref p) H'
  | false => ∀ H', Same H H' → E (.ref C) none H'
/-- new tuples of texts -/
def W0 (H : Hp) (v : V) (ws : List PySem.Str) : Prop := ∃ a, v = .ref a ∧ H a = some (.tup (ws.map V.str))
theorem W0.ws {K : PySem.W.Frag} {H : Hp} {v : V} {ws : List PySem.Str} (h : W0 H v ws) : Ws K H v ws := by
  obtain ⟨a, rfl, e⟩ := h
  exact Ws.new e
theorem W0.same {H H' : Hp} {v : V} {ws : List PySem.Str} (h : W0 H v ws) (s : Same H H') : W0 H' v ws :=
  let ⟨a, e, q⟩ := h
  ⟨a, e, s _ _ q⟩
theorem W0.put {H : Hp} {v : V} {ws : List PySem.Str} {D : Addr} {xs ys : List V} (h : W0 H v ws) (e : H D = some (.lst xs)) : W0 (upd H D (.lst ys)) v ws := by
  obtain ⟨a, rfl, q⟩ := h
  exact ⟨a, rfl, by rw [upd_ne (ne_of q e (by intro z; cases z))] <;> exact q⟩
def spChkT : Sp := fun vs H Q _ => ∃ t : PySem.Str, vs = [.str t] ∧ Q .non H
def tSplit (to te : TE) : TE := tM1 (fun x xs H Q => ∃ a b, x = .str a ∧ xs = [.str b] ∧ (b.length == 0) = false ∧ a.length + 2 ≤ sizeLine ∧ rNewStrs (Txt.split a b) H Q) to te
theorem pe_splitJ {X : Cx} {o e : Expr} {to te : TE} {apos pos : Pos} (ho : PE X o to) (he : PE X e te) (hs : starEach [e] X.env = [(false, eval e X.env)] := by rfl) (hbase : attributeBase o "split" X.env (eval o X.env) = eval o X.env := by rfl) (hline : (apos.endLine == pos.line) = true := by rfl) :
    PE X (.Call (.Attribute o "split" apos) [e] [] pos) (tSplit to te) := pe_split ho he hs hbase hline
def rTupOf (K : PySem.W.Frag) : List V → Hp → VK → Prop := fun xs H Q => ∃ p ys, xs = [.ref p] ∧ ((SqL K H p ys ∧ ∀ l, H l = none → Q (.ref l) (upd H l (.tup ys))) ∨ (SqT K H p ys ∧ Q (.ref p) H))
def tTS (K : PySem.W.Frag) : TE := tCB (rTupOf K) (tCons (tSplit (tVar 2) (tC (.str " "))) tNil)
section
variable {P : Program} {w : World} {K : PySem.W.Frag} {mg : PySem.Str → Option Value} {base : Heap}
theorem scChkT : FnScope ["text"] ["text"] (defScope sChkT) := ⟨rfl, rfl, rfl, by decide +kernel, rfl, by decide +kernel, by decide +kernel⟩
theorem ok_chk_t {f CP : Addr} {fd : FuncData} (F : Fun K "_check_text" "_check_text" sChkT f fd) (T : Bare mg) (N : ExN K mg "ParseError" CP) : FnOk P w K mg base (L2.CX P w) 1 f fd ["text"] spChkT := by
  refine F.okX scChkT (fun vs H Q E h => ?_) (fun cdv A outer s H vs Q E hr h => ?_)
  · obtain ⟨v, rfl, _⟩ := h
    rfl
  · obtain ⟨t, rfl, q⟩ := h
    refine ⟨_, (pss_one (ps_if (pt_not (pt_val (pe_callB call_isi (by rfl) T.isi (by decide +kernel) (pa_cons (pv 0) (pa_cons (pe_bltn (v := .ty "str") (by rfl) T.str (by decide +kernel) rfl) pa_nil))))) (pss_one (ps_raise rfl (takes_of rfl rfl rfl rfl) (pmk_exm PySem.F.excBase_ValueError N.q N.i N.b N.t N.g N.k (by rfl) pe_str))) pss_nil)), ?_⟩
    exact ⟨_, rfl, _, .ty "str", _, .type "str", true, rfl, .ty _, .base (.str t), kit_ty (by decide +kernel), true, rfl, q⟩
theorem scParSt : FnScope ["text", "steps", "line", "step"] ["text"] (defScope sParSt) := ⟨rfl, rfl, rfl, by decide +kernel, rfl, by decide +kernel, by decide +kernel⟩
theorem ok_par_st {f fS fC CP : Addr} {fd fdS fdC : FuncData} (F : Fun K "parse_steps" "parse_steps" sParSt f fd) (T : Bare mg) (N : ExN K mg "ParseError" CP)
    (FC : Fun K "_check_text" "_check_text" sChkT fC fdC) (bC : Binds K fdC ["text"] []) (mC : mg "_check_text" = some (.ref fC))
    (kS : PySem.W.keepIn K (.ref fS) = true) (bS : Binds K fdS ["value"] []) (mS : mg "_is_step" = some (.ref fS)) (GS : FnOk P w K mg base CX0 3 fS fdS ["value"] (spIsStep K)) : FnOk P w K mg base (L2.CX P w) 4 f fd ["text"] (spParSt K CP) := by
  have GC : FnOk P w K mg base (L2.CX P w) 1 fC fdC ["text"] spChkT := ok_chk_t FC T N
  refine F.okX scParSt (fun vs H Q E h => ?_) (fun cdv A outer s H vs Q E hr h => ?_)
  · obtain ⟨t, rows, rfl, _⟩ := h
    rfl
  · obtain ⟨t, rows, rfl, Ht, q⟩ := h
    have rest : PSs (cxOf (L2.CX P w) P w K mg base ["text", "steps", "line", "step"] "parse_steps" (defScope sParSt) f cdv A outer s H E) ((defBody sParSt).drop 2)
        (fun D σ H1 => ∃ (p : Addr) (ps : List V) (i0 i2 i3 : Option V), σ = [i0, some (.ref p), i2, i3] ∧ H1 p = some (.tup ps) ∧ Paired (Ws K H1) ps rows ∧ match rows.all stpW with
          | true => ∀ H', Same H1 H' → D.rt (.ref p) H'
          | false => ∀ H', Same H1 H' → E (.ref CP) none H') := by
      refine pss_conv (pss_cons (ps_if (pt_not (pt_val (pe_callB (cr_all rfl) (by rfl) T.all (by decide +kernel) (pa_cons (pe_lc (own := [("step", 3)]) (g := gName 3) (tt := tYes) rfl scParSt.nd (pi_tup (pv 1)) (blkOk_by (own := [("step", 3)]) (N := ["text", "steps", "line", "step"]) (sc := defScope sParSt) (by decide +kernel)) (fun _ _ _ _ _ => pg_name (i := 3) scParSt.nd rfl (Or.inl rfl)) (fun _ _ _ _ _ => pts_nil) (fun _ _ _ _ _ => (pe_call GS (hr.mono (by decide)) (by rfl) mS kS bS .nil pass0 (pa_cons (pv 3) pa_nil)))) pa_nil))))
        (pss_one (ps_raise rfl (takes_of rfl rfl rfl rfl) (pmk_exm PySem.F.excBase_ValueError N.q N.i N.b N.t N.g N.k (by rfl) pe_str))) pss_nil)
        (pss_one (ps_ret (pv 1)))) fun pins s1 σ H1 D I h => ?_
      obtain ⟨p, ps, i0, i2, i3, rfl, hp, hs, q⟩ := h
      have sm := Ht.1
      have hsl := sm.len
      have hbl := paired_len hs
      refine ⟨_, rfl, p, rfl, ⟨_, SqT.of hp⟩, fun D2 n0 => ?_⟩
      have sD : ∀ o, Same H1 (upd H1 D2 o) := fun o b u e => by rw [upd_ne (ne_of_none e n0)] <;> exact e
      refine lc_tup (K := K) (a := p) (xs := ps) (fun i H' => H' D2 = some (.lst (((rows.map stpW).take i).map V.bl)) ∧ ∀ b u, H1 b = some u → H' b = some u) ⟨upd_same, sD _⟩ (fun i H' _ hP => sqT_same (SqT.of hp) hP.2) (fun i x H' hx hP => ⟨rfl, ?_⟩) (fun H' hP => ?_)
      · obtain ⟨b, hb, hv⟩ := paired_at (sm.sv hs) hx
        have hi : i < (rows.map stpW).length := (List.getElem?_eq_some_iff.mp hb).1
        rw [List.length_map] at hi
        refine ⟨_, rfl, x, b, rfl, hv.same hP.2, fun H2 s2 => ⟨_, s2 _ _ hP.1, ?_, ?_, fun c u ec => ?_⟩⟩
        · rw [List.length_map, List.length_take, List.length_map, sizeLine_eq]; omega
        · rw [upd_same, take_map_snoc (g := V.bl) hb]
        · rw [upd_ne (ne_of_none ec n0)] <;> exact s2 _ _ (hP.2 c u ec)
      · refine ⟨D2, rows.map stpW, rfl, SqL.of ?_, ?_⟩
        · rw [hP.1, hbl, show rows.length = (rows.map stpW).length by rw [List.length_map], List.take_length]
        · have ea : (rows.map stpW).all id = rows.all stpW := by rw [List.all_map]; rfl
          rw [show (rows.map stpW).all id = rows.all stpW from ea]
          cases hf : rows.all stpW with
          | true =>
            rw [hf] at q
            exact ⟨_, rfl, _, rfl, q _ hP.2⟩
          | false =>
            rw [hf] at q
            exact ⟨_, rfl, q _ hP.2⟩
    refine ⟨_, (pss_cons (ps_expr (pe_call (E := fun _ _ _ => False) GC (hr.mono (by decide)) (by rfl) mC FC.kp bC .nil (passes_call (takes_of rfl rfl rfl rfl) fun _ _ _ _ h => h.elim) (pa_cons (pv 0) pa_nil)))
      (pss_cons (ps_set (i := 1) scParSt.nd rfl (Or.inl rfl) (pe_ifExp (pt_truth (pv 0) (by intro _; rfl)) (pe_callTy call_tuple_of (by rfl) T.tup (by decide +kernel) (pa_cons
          (pe_lc (own := [("line", 2)]) (g := gName 2) (tt := tYes) (te := tTS K) rfl scParSt.nd (pi_list (pe_splitJ (pv 0) pe_str)) (blkOk_by (own := [("line", 2)]) (N := ["text", "steps", "line", "step"]) (sc := defScope sParSt) (by decide +kernel)) (fun _ _ _ _ _ => pg_name (i := 2) scParSt.nd rfl (Or.inl rfl)) (fun _ _ _ _ _ => pts_nil) (fun _ _ _ _ _ => by exact (pe_callTy call_tuple_of (by rfl) T.tup (by decide +kernel) (pa_cons (pe_splitJ (pv 2) pe_str) pa_nil)))) pa_nil)) (pe_tup pa_nil)))
      rest)), ?_⟩
    have q' : ∀ (p : Addr) (ps : List V) (H1 : Hp), Same H H1 → H1 p = some (.tup ps) → Paired (Ws K H1) ps rows → match rows.all stpW with
          | true => ∀ H', Same H1 H' → Q (.ref p) H'
          | false => ∀ H', Same H1 H' → E (.ref CP) none H' := fun p ps H1 s1 hp hs => by
      cases hf : rows.all stpW with
      | true =>
        rw [hf] at q
        exact fun H' s2 => q p ps H' (s1.trans s2) (s2 _ _ hp) (paired_map (fun a b z => z.same s2) hs)
      | false =>
        rw [hf] at q
        exact fun H' s2 => q H' (s1.trans s2)
    refine ⟨_, rfl, t, rfl, ?_⟩
    obtain ⟨sm, hcase⟩ := Ht
    have hsl := sm.len
    rcases hcase with ⟨h0, hrows⟩ | ⟨h0, hne, hfree, ht⟩
    · refine ⟨_, rfl, false, ⟨by omega, by rw [h0]; rfl⟩, ?_⟩
      refine ⟨by show 0 ≤ sizeLine; omega, fun p np => ?_⟩
      refine ⟨p, [], _, _, _, rfl, upd_same, by rw [hrows]; exact .nil, ?_⟩
      exact q' p [] _ (sn np) upd_same (by rw [hrows]; exact .nil)
    · have hz : t.length ≤ 901000 := by rw [ht]; exact stTxt_len sm
      refine ⟨_, rfl, true, ⟨by rw [sizeLine_eq]; omega, by symm; simpa using h0⟩, ?_⟩
      refine ⟨_, rfl, ⟨_, rfl⟩, t, "\n", rfl, rfl, by decide +kernel, by rw [sizeLine_eq]; omega, fun L nL => ?_⟩
      rw [ht, split_rows hne hfree]
      have sL : Same H _ := sn (o := .lst ((rows.map (Txt.join " ")).map V.str)) nL
      have eL : (upd H L (.lst ((rows.map (Txt.join " ")).map V.str))) L = some (.lst ((rows.map (Txt.join " ")).map V.str)) := upd_same
      generalize upd H L (.lst ((rows.map (Txt.join " ")).map V.str)) = H1 at sL eL ⊢
      refine ⟨L, rfl, ⟨_, SqL.of eL⟩, fun D nD => ?_⟩
      have sD : ∀ o, Same H1 (upd H1 D o) := fun o => sn nD
      refine lc_list (K := K) (a := L) (xs := (rows.map (Txt.join " ")).map V.str) (fun i H' => (∃ ps : List V, H' D = some (.lst ps) ∧ Paired (W0 H') ps (rows.take i)) ∧ ∀ b u, H1 b = some u → H' b = some u) ⟨⟨[], upd_same, .nil⟩, sD _⟩ (fun i H' _ hP => SqL.of (hP.2 _ _ eL)) (fun i x H' hx hP => ⟨rfl, ?_⟩) (fun H' hP => ?_)
      · obtain ⟨⟨ps, hD, hps⟩, hk⟩ := hP
        rw [List.getElem?_map, List.getElem?_map] at hx
        obtain ⟨ws, hw, hx⟩ : ∃ ws, rows[i]? = some ws ∧ V.str (Txt.join " " ws) = x := by
          cases e : rows[i]? with
          | none => rw [e] at hx; cases hx
          | some ws => rw [e] at hx; exact ⟨ws, rfl, Option.some.inj hx⟩
        subst hx
        have hm := List.mem_of_getElem? hw
        have hi : i < rows.length := (List.getElem?_eq_some_iff.mp hw).1
        have hlen := row_len (sm.row ws hm).2.2
        refine ⟨_, rfl, ⟨_, rfl⟩, _, " ", rfl, rfl, by decide +kernel, by rw [sizeLine_eq]; omega, fun l nl => ?_⟩
        rw [split_row hfree hm]
        have s1 : Same H' (upd H' l (.lst (ws.map V.str))) := sn nl
        refine ⟨l, ws.map V.str, rfl, .inl ⟨SqL.of upd_same, fun r nr => ?_⟩⟩
        have s2 := s1.trans (sn (o := .tup (ws.map V.str)) nr)
        have hpl := paired_len hps
        rw [List.length_take] at hpl
        refine ⟨ps, s2 _ _ hD, by rw [sizeLine_eq]; omega, ⟨_, upd_same, ?_⟩, fun b u e => ?_⟩
        · rw [List.take_add_one, hw]
          have e2 := s2 _ _ hD
          exact Paired.snoc (paired_map (fun a b z => (z.same s2).put e2) hps) (W0.put ⟨r, rfl, upd_same⟩ e2)
        · have bD : b ≠ D := ne_of_none e nD
          rw [upd_ne bD]
          exact s2 _ _ (hk b u e)
      · obtain ⟨⟨ps, hD, hps⟩, hk⟩ := hP
        rw [List.length_map, List.length_map, List.take_length] at hps
        refine ⟨D, ps, rfl, .inl ⟨SqL.of hD, fun p np => ?_⟩⟩
        have s3 : Same H (upd H' p (.tup ps)) := (sL.trans hk).trans (sn np)
        have hws : Paired (Ws K (upd H' p (.tup ps))) ps rows := paired_map (fun a b z => (z.same (sn np)).ws) hps
        exact ⟨p, ps, _, _, _, rfl, upd_same, hws, q' p ps _ s3 upd_same hws⟩
end
end K8
/-! Dicts whose keys are things of any of the kinds: numbers, texts, tuples of such. -/
namespace K8
open PySem PySem.Spec PyProof.Rows L2 K0
open PySem.SeqAt

/-- key, its value, what stands there -/
abbrev Row3 := NestedKey × Value × Value
def entN (w : World) (x : Row3) : DictEntry := ⟨x.1.hash w, x.2.1, x.2.2⟩
structure KeysN (h : Heap) (xs : List Row3) : Prop where
  is : ∀ x ∈ xs, NestedIs h x.1 x.2.1
  dp : ∀ x ∈ xs, x.1.depth ≤ 8
  nd : (xs.map (·.1)).Nodup
section
variable {prog : Program} {w : World} {A : Around} {E : Value → Shared → Prop} {s : Shared}
theorem ite_n {α : Type} {c : Prop} [Decidable c] {x y : Sem α} {Q : α → Shared → Prop} (h1 : c → wpAny (model prog w) A x Q E s) (h2 : ¬ c → wpAny (model prog w) A y Q E s) : wpAny (model prog w) A (if c then x else y) Q E s := by
  by_cases h : c
  · rw [if_pos h]; exact h1 h
  · rw [if_neg h]; exact h2 h
theorem tell_n {v : Value} {k : NestedKey} {st : List Value} {Q : Bool → Shared → Prop} (hk : NestedIs s.heap k v) (hd : k.depth ≤ 8) (hs : ∀ u ∈ st, ∃ k', NestedIs s.heap k' u ∧ k'.depth ≤ 8) (h : Q false s) :
    wpAny (model prog w) A (tableMayTell v st) Q E s := by
  unfold tableMayTell
  by_cases he : st.isEmpty = true
  · rw [if_pos he]; exact wpAny_pure h
  · rw [if_neg he]
    refine wpAny_bind (quiet_key k v 8 s hk hd _ _ _ ?_)
    rw [if_neg (by simp)]
    refine wpAny_bind (wpAny_forIn_list _ (fun rest r s1 => (s1 = s ∧ r = (none, ())) ∧ ∀ u ∈ rest, ∃ k', NestedIs s.heap k' u ∧ k'.depth ≤ 8) _ (fun u rest r s1 q => ?_) (fun r s1 q => ?_) _ _ ⟨⟨rfl, rfl⟩, hs⟩)
    · obtain ⟨⟨e1, e2⟩, q⟩ := q
      subst e1; subst e2
      obtain ⟨k', h1, h2⟩ := q u List.mem_cons_self
      refine wpAny_bind (quiet_key k' u 8 _ h1 h2 _ _ _ ?_)
      rw [if_neg (by simp)]
      exact wpAny_pure ⟨⟨rfl, rfl⟩, fun z hz => q z (List.mem_cons_of_mem _ hz)⟩
    · obtain ⟨⟨e1, e2⟩, _⟩ := q
      subst e1; subst e2
      exact wpAny_pure h
theorem find_n {d : Addr} {o : Obj} {es : Array DictEntry} {ep : Nat} {xs : List Row3} {k : NestedKey} {v : Value} {Q : Option Nat → Shared → Prop} (hu : A.units + 8 < cLine) (hk : NestedIs s.heap k v) (hdp : k.depth ≤ 8)
    (ho : s.heap.get? d = some o) (hd : o.data = .dict es ep) (he : es.toList = xs.map (entN w)) (hx : KeysN s.heap xs)
    (hQ : ∀ r : Option Nat, (∀ j, r = some j → (xs[j]?).map (·.1) = some k) → (r = none → k ∉ xs.map (·.1)) → Q r s) : wpAny (model prog w) A (dictFind d v (k.hash w)) Q E s := by
  have hsz : es.size = xs.length := by rw [← Array.length_toList, he, List.length_map]
  have eat : ∀ i : Nat, es[i]? = (xs[i]?).map (entN w) := fun i => by rw [← Array.getElem?_toList, he, List.getElem?_map]
  have heq : ∀ x ∈ xs, EqAt A s x.2.1 v (decide (x.1 = k)) := fun x h => by
    have := eqAt_key x.1 k A s x.2.1 v (hx.is x h) hk (by omega)
    rw [NestedKey.decide_eq]
    exact this
  generalize hpl : placesWithHash es.size (fun i => es[i]?.map (·.hash)) (k.hash w) = pl
  have plin : ∀ j : Nat, j ∈ pl ↔ j < es.size ∧ (es[j]?.map (·.hash)) = some (k.hash w) := fun j => by
    rw [← hpl]
    unfold placesWithHash
    rw [List.mem_filter, List.mem_range, beq_iff_eq]
  have plnd : pl.Nodup := by
    rw [← hpl]
    unfold placesWithHash
    exact List.Nodup.sublist List.filter_sublist List.nodup_range
  have plk : ∀ j : Nat, (xs[j]?).map (·.1) = some k → j ∈ pl := fun j hj => by
    cases e : xs[j]? with
    | none => rw [e] at hj; cases hj
    | some x =>
      rw [e] at hj
      have ek : x.1 = k := by injection hj
      refine (plin j).mpr ⟨by rw [hsz]; exact (List.getElem?_eq_some_iff.mp e).1, ?_⟩
      rw [eat, e]
      show some (x.1.hash w) = _
      rw [ek]
  have nk : (∀ j ∈ pl, (xs[j]?).map (·.1) ≠ some k) → k ∉ xs.map (·.1) := fun h hm => by
    obtain ⟨j, hj⟩ := List.mem_iff_getElem?.mp hm
    rw [List.getElem?_map] at hj
    exact h j (plk j hj) hj
  have uniq : ∀ i j : Nat, (xs[i]?).map (·.1) = some k → (xs[j]?).map (·.1) = some k → i = j := fun i j hi hj => by
    rw [← List.getElem?_map] at hi hj
    exact (List.getElem?_inj (List.getElem?_eq_some_iff.mp hi).1 hx.nd).mp (hi.trans hj.symm)
  have hst : ∀ u ∈ pl.filterMap (fun i => es[i]?.map (·.key)), ∃ k', NestedIs s.heap k' u ∧ k'.depth ≤ 8 := fun u hm => by
    obtain ⟨i, _, hi⟩ := List.mem_filterMap.mp hm
    rw [eat] at hi
    cases e : xs[i]? with
    | none => rw [e] at hi; cases hi
    | some x =>
      rw [e] at hi
      have eu : x.2.1 = u := by injection hi
      subst eu
      exact ⟨x.1, hx.is x (List.mem_of_getElem? e), hx.dp x (List.mem_of_getElem? e)⟩
  generalize hstd : pl.filterMap (fun i => es[i]?.map (·.key)) = st at hst
  have noref : ∀ a : Addr, v = .ref a → ¬ (es.any fun e => e.key == Value.ref a && e.hash != k.hash w) = true := fun a ea h => by
    rw [← Array.any_toList, he, List.any_eq_true] at h
    obtain ⟨e, hm, hc⟩ := h
    obtain ⟨x, hxm, rfl⟩ := List.mem_map.mp hm
    rw [Bool.and_eq_true] at hc
    have e1 : x.2.1 = Value.ref a := eq_of_beq hc.1
    have e2 : x.1 = k := NestedIs.inj _ _ _ (hx.is x hxm) (by rw [e1, ← ea]; exact hk)
    have e3 : ((x.1.hash w) != (k.hash w)) = true := hc.2
    rw [e2, bne_self_eq_false] at e3
    cases e3
  have plain : wpAny (model prog w) A (dictWalkPlain d v (k.hash w) es pl) Q E s := by
    unfold dictWalkPlain
    refine wpAny_bind (wpAny_forIn_list _ (fun rest b s1 => (s1 = s ∧ b = (none, ())) ∧ ∃ done, pl = done ++ rest ∧ ∀ j ∈ done, (xs[j]?).map (·.1) ≠ some k) _ (fun i rest b s1 q => ?_) (fun b s1 q => ?_) _ _ ⟨⟨rfl, rfl⟩, [], rfl, fun _ h => nomatch h⟩)
    · obtain ⟨⟨e1, e2⟩, done, ed, hno⟩ := q
      subst e1; subst e2
      have hi := (plin i).mp (by rw [ed]; simp)
      obtain ⟨x, hxi⟩ : ∃ x, xs[i]? = some x := ⟨xs[i]'(by rw [← hsz]; exact hi.1), List.getElem?_eq_getElem _⟩
      have hei : es[i]? = some (entN w x) := by rw [eat, hxi] <;> rfl
      have hh : (entN w x).hash = k.hash w := by
        have := hi.2
        rw [hei] at this
        injection this
      have hxm : x ∈ xs := List.mem_of_getElem? hxi
      have ed2 : pl = (done ++ [i]) ++ rest := by rw [ed, List.append_assoc] <;> rfl
      rw [hei]
      dsimp only
      rw [if_pos (beq_iff_eq.mpr hh)]
      refine wpAny_bind (wpAny_dictEpoch ho hd (wpAny_bind (heq x hxm _ _ _ _ (wpAny_bind (wpAny_dictEpoch ho hd ?_)))))
      rw [if_neg (by simp)]
      by_cases hkk : x.1 = k
      · rw [decide_eq_true hkk]
        exact wpAny_bind (wpAny_rule (wpAny_pure (wpAny_pure (hQ (some i) (fun j ej => by cases ej; rw [hxi]; exact congrArg some hkk) (fun h => nomatch h)))))
      · rw [decide_eq_false hkk]
        refine wpAny_bind (wpAny_rule (wpAny_pure ⟨⟨rfl, rfl⟩, done ++ [i], ed2, fun j hj => ?_⟩))
        rw [List.mem_append, List.mem_singleton] at hj
        rcases hj with hj | hj
        · exact hno j hj
        · subst hj
          rw [hxi]
          exact fun e => hkk (by injection e)
    · obtain ⟨⟨e1, e2⟩, done, ed, hno⟩ := q
      subst e1; subst e2
      rw [List.append_nil] at ed
      exact wpAny_pure (hQ none (fun _ h => nomatch h) (fun _ => nk (by rw [ed]; exact hno)))
  have found : ∀ (x : PySem.Str) (t : Tok), v = .str x t → (es.all fun e => isExactStrKey e.key) = true → wpAny (model prog w) A (foundByValue d v es x) Q E s := fun x t ev hall1 => by
    subst ev
    have hkx : k = .text x := by cases hk; rfl
    have hsk : ∀ y ∈ xs, y.2.1.isStr x = decide (y.1 = k) := fun y hy => by
      have hm : entN w y ∈ es := Array.mem_toList_iff.mp (by rw [he]; exact List.mem_map_of_mem hy)
      have h1 := Array.all_eq_true'.mp hall1 _ hm
      have h2 : isExactStrKey y.2.1 = true := h1
      have h3 := hx.is y hy
      generalize y.2.1 = yv at h2 h3 ⊢
      generalize y.1 = yk at h3 ⊢
      cases yv with
      | str z u =>
        have e1 : yk = .text z := by cases h3; rfl
        rw [e1, hkx, NestedKey.decide_eq]
        show (z == x) = decide (z = x)
        rw [Bool.eq_iff_iff, beq_iff_eq, decide_eq_true_iff]
      | _ => cases h2
    unfold foundByValue
    cases hf : es.findIdx? (fun e => e.key.isStr x) with
    | none =>
      refine wpAny_pure (hQ none (fun _ h => nomatch h) (fun _ hm => ?_))
      obtain ⟨y, hy, ey⟩ := List.mem_map.mp hm
      have h1 := Array.findIdx?_eq_none_iff.mp hf (entN w y) (Array.mem_toList_iff.mp (by rw [he]; exact List.mem_map_of_mem hy))
      have h2 : y.2.1.isStr x = false := h1
      rw [hsk y hy, decide_eq_true ey] at h2
      cases h2
    | some i =>
      obtain ⟨hlt, hi, _⟩ := Array.findIdx?_eq_some_iff_getElem.mp hf
      obtain ⟨y, hyi⟩ : ∃ y, xs[i]? = some y := ⟨xs[i]'(by rw [← hsz]; exact hlt), List.getElem?_eq_getElem _⟩
      have hei : es[i]? = some (entN w y) := by rw [eat, hyi] <;> rfl
      have hym : y ∈ xs := List.mem_of_getElem? hyi
      have eg : es[i] = entN w y := by rw [Array.getElem?_eq_getElem hlt] at hei; injection hei
      rw [eg] at hi
      have hi2 : y.2.1.isStr x = true := hi
      rw [hsk y hym] at hi2
      have hkk := of_decide_eq_true hi2
      dsimp only
      rw [hei]
      dsimp only
      refine wpAny_bind (wpAny_dictEpoch ho hd (wpAny_bind (heq y hym _ _ _ _ (wpAny_bind (wpAny_dictEpoch ho hd ?_)))))
      rw [if_neg (by simp), decide_eq_true hkk]
      exact wpAny_bind (wpAny_rule (wpAny_pure (hQ (some i) (fun j ej => by cases ej; rw [hyi]; exact congrArg some hkk) (fun h => nomatch h))))
  obtain ⟨IsK, hIs⟩ : ∃ f : Nat → Prop, ∀ j, f j ↔ (xs[j]?).map (·.1) = some k := ⟨_, fun _ => Iff.rfl⟩
  have hQ2 : ∀ r : Option Nat, (∀ j, r = some j → IsK j) → (r = none → ∀ j ∈ pl, ¬ IsK j) → Q r s := fun r h1 h2 => hQ r (fun j e => (hIs j).mp (h1 j e)) (fun e => nk fun j hj q => h2 e j hj ((hIs j).mpr q))
  have uniq2 : ∀ i j : Nat, IsK i → IsK j → i = j := fun i j h1 h2 => uniq i j ((hIs i).mp h1) ((hIs j).mp h2)
  have turn : ∀ i ∈ pl, ∃ e b, es[i]? = some e ∧ (e.hash == k.hash w) = true ∧ EqAt A s e.key v b ∧ (b = true ↔ IsK i) := fun i hi => by
    have h := (plin i).mp hi
    obtain ⟨x, hxi⟩ : ∃ x, xs[i]? = some x := ⟨xs[i]'(by rw [← hsz]; exact h.1), List.getElem?_eq_getElem _⟩
    have hei : es[i]? = some (entN w x) := by rw [eat, hxi] <;> rfl
    refine ⟨entN w x, decide (x.1 = k), hei, ?_, heq x (List.mem_of_getElem? hxi), ?_⟩
    · have := h.2
      rw [hei] at this
      exact beq_iff_eq.mpr (by injection this)
    · rw [decide_eq_true_iff, hIs, hxi]
      exact ⟨fun e => congrArg some e, fun e => by injection e⟩
  unfold dictFind
  try with_reducible refine wpAny_holding ?_
  refine wpAny_bind (wpAny_dictEntries ho hd ?_)
  dsimp only
  rw [hpl, hstd]
  by_cases hall : ((v :: st).all carriedByValue) = true
  · rw [if_pos hall]
    split
    next x t =>
      split
      next h1 => exact found x t rfl h1
      next => exact plain
    next => exact plain
  · rw [if_neg hall]
    have hk2 := hk
    cases hk2
    case text x t =>
      dsimp only
      refine ite_n (fun h1 => found x t rfl h1) (fun _ => ?_)
      refine ite_n (fun _ => wpAny_bind (wpAny_pure ?_)) (fun _ => wpAny_bind (tell_n hk hdp hst ?_))
      all_goals
        rw [if_neg (by simp)]
        refine wpAny_bind (wpAny_forIn_list _ (fun rest b s1 => s1 = s ∧ ∃ (hit : Option Nat) (done : List Nat), b = (none, hit) ∧ pl = done ++ rest ∧ (hit = none → ∀ j ∈ done, ¬ IsK j) ∧ ∀ j, hit = some j → j ∈ done ∧ IsK j) _ (fun i rest b s1 q => ?_) (fun b s1 q => ?_) _ _ ⟨rfl, none, [], rfl, rfl, (fun _ _ h => absurd h List.not_mem_nil), (fun _ h => by cases h)⟩)
        · obtain ⟨e1, hit, done, e2, ed, hno, hyes⟩ := q
          subst e1; subst e2
          obtain ⟨e, b, hei, hh, hE, hb⟩ := turn i (by rw [ed]; simp)
          have ed2 : pl = (done ++ [i]) ++ rest := by rw [ed, List.append_assoc] <;> rfl
          have nin : i ∉ done := fun hm => by
            have := plnd
            rw [ed, List.nodup_append] at this
            exact this.2.2 i hm i List.mem_cons_self rfl
          rw [hei]
          dsimp only
          rw [if_pos hh]
          refine wpAny_bind (wpAny_dictEpoch ho hd (wpAny_bind (hE _ _ _ _ (wpAny_bind (wpAny_dictEpoch ho hd ?_)))))
          rw [if_neg (by simp)]
          cases b with
          | true =>
            have hI := hb.mp rfl
            rw [if_pos rfl]
            cases hit with
            | some j => exact absurd (uniq2 j i (hyes j rfl).2 hI) (fun q => nin (q ▸ (hyes j rfl).1))
            | none =>
              rw [if_neg (by simp)]
              refine wpAny_bind (wpAny_rule (ite_n (fun _ => wpAny_pure (wpAny_pure (hQ2 (some i) (fun j ej => by cases ej; exact hI) (fun h => by cases h)))) (fun _ => wpAny_pure ⟨rfl, some i, done ++ [i], rfl, ed2, (fun h => by cases h), (fun j ej => by cases ej; exact ⟨by simp, hI⟩)⟩)))
          | false =>
            rw [if_neg (by simp)]
            refine wpAny_bind (wpAny_rule ?_)
            rw [if_neg (by simp)]
            refine wpAny_pure ⟨rfl, hit, done ++ [i], rfl, ed2, fun h j hj => ?_, fun j ej => ⟨List.mem_append_left _ (hyes j ej).1, (hyes j ej).2⟩⟩
            rw [List.mem_append, List.mem_singleton] at hj
            rcases hj with hj | hj
            · exact hno h j hj
            · subst hj
              exact fun q => by have := hb.mpr q; cases this
        · obtain ⟨e1, hit, done, e2, ed, hno, hyes⟩ := q
          subst e1; subst e2
          rw [List.append_nil] at ed
          exact wpAny_pure (hQ2 hit (fun j ej => (hyes j ej).2) (fun h => by rw [ed]; exact hno h))
    case tup =>
      dsimp only
      rw [if_neg (noref _ rfl)]
      refine ite_n (fun _ => wpAny_bind (wpAny_pure ?_)) (fun _ => wpAny_bind (tell_n hk hdp hst ?_))
      all_goals
        rw [if_neg (by simp)]
        refine wpAny_bind (wpAny_forIn_list _ (fun rest b s1 => s1 = s ∧ ∃ (hit : Option Nat) (done : List Nat), b = (none, hit) ∧ pl = done ++ rest ∧ (hit = none → ∀ j ∈ done, ¬ IsK j) ∧ ∀ j, hit = some j → j ∈ done ∧ IsK j) _ (fun i rest b s1 q => ?_) (fun b s1 q => ?_) _ _ ⟨rfl, none, [], rfl, rfl, (fun _ _ h => absurd h List.not_mem_nil), (fun _ h => by cases h)⟩)
        · obtain ⟨e1, hit, done, e2, ed, hno, hyes⟩ := q
          subst e1; subst e2
          obtain ⟨e, b, hei, hh, hE, hb⟩ := turn i (by rw [ed]; simp)
          have ed2 : pl = (done ++ [i]) ++ rest := by rw [ed, List.append_assoc] <;> rfl
          have nin : i ∉ done := fun hm => by
            have := plnd
            rw [ed, List.nodup_append] at this
            exact this.2.2 i hm i List.mem_cons_self rfl
          rw [hei]
          dsimp only
          rw [if_pos hh]
          refine wpAny_bind (wpAny_dictEpoch ho hd (wpAny_bind (hE _ _ _ _ (wpAny_bind (wpAny_dictEpoch ho hd ?_)))))
          rw [if_neg (by simp)]
          cases b with
          | true =>
            have hI := hb.mp rfl
            rw [if_pos rfl]
            cases hit with
            | some j => exact absurd (uniq2 j i (hyes j rfl).2 hI) (fun q => nin (q ▸ (hyes j rfl).1))
            | none =>
              rw [if_neg (by simp)]
              refine wpAny_bind (wpAny_rule (ite_n (fun _ => wpAny_pure (wpAny_pure (hQ2 (some i) (fun j ej => by cases ej; exact hI) (fun h => by cases h)))) (fun _ => wpAny_pure ⟨rfl, some i, done ++ [i], rfl, ed2, (fun h => by cases h), (fun j ej => by cases ej; exact ⟨by simp, hI⟩)⟩)))
          | false =>
            rw [if_neg (by simp)]
            refine wpAny_bind (wpAny_rule ?_)
            rw [if_neg (by simp)]
            refine wpAny_pure ⟨rfl, hit, done ++ [i], rfl, ed2, fun h j hj => ?_, fun j ej => ⟨List.mem_append_left _ (hyes j ej).1, (hyes j ej).2⟩⟩
            rw [List.mem_append, List.mem_singleton] at hj
            rcases hj with hj | hj
            · exact hno h j hj
            · subst hj
              exact fun q => by have := hb.mpr q; cases this
        · obtain ⟨e1, hit, done, e2, ed, hno, hyes⟩ := q
          subst e1; subst e2
          rw [List.append_nil] at ed
          exact wpAny_pure (hQ2 hit (fun j ej => (hyes j ej).2) (fun h => by rw [ed]; exact hno h))
    all_goals
      dsimp only
      refine ite_n (fun _ => wpAny_bind (wpAny_pure ?_)) (fun _ => wpAny_bind (tell_n hk hdp hst ?_))
      all_goals
        rw [if_neg (by simp)]
        refine wpAny_bind (wpAny_forIn_list _ (fun rest b s1 => s1 = s ∧ ∃ (hit : Option Nat) (done : List Nat), b = (none, hit) ∧ pl = done ++ rest ∧ (hit = none → ∀ j ∈ done, ¬ IsK j) ∧ ∀ j, hit = some j → j ∈ done ∧ IsK j) _ (fun i rest b s1 q => ?_) (fun b s1 q => ?_) _ _ ⟨rfl, none, [], rfl, rfl, (fun _ _ h => absurd h List.not_mem_nil), (fun _ h => by cases h)⟩)
        · obtain ⟨e1, hit, done, e2, ed, hno, hyes⟩ := q
          subst e1; subst e2
          obtain ⟨e, b, hei, hh, hE, hb⟩ := turn i (by rw [ed]; simp)
          have ed2 : pl = (done ++ [i]) ++ rest := by rw [ed, List.append_assoc] <;> rfl
          have nin : i ∉ done := fun hm => by
            have := plnd
            rw [ed, List.nodup_append] at this
            exact this.2.2 i hm i List.mem_cons_self rfl
          rw [hei]
          dsimp only
          rw [if_pos hh]
          refine wpAny_bind (wpAny_dictEpoch ho hd (wpAny_bind (hE _ _ _ _ (wpAny_bind (wpAny_dictEpoch ho hd ?_)))))
          rw [if_neg (by simp)]
          cases b with
          | true =>
            have hI := hb.mp rfl
            rw [if_pos rfl]
            cases hit with
            | some j => exact absurd (uniq2 j i (hyes j rfl).2 hI) (fun q => nin (q ▸ (hyes j rfl).1))
            | none =>
              rw [if_neg (by simp)]
              refine wpAny_bind (wpAny_rule (ite_n (fun _ => wpAny_pure (wpAny_pure (hQ2 (some i) (fun j ej => by cases ej; exact hI) (fun h => by cases h)))) (fun _ => wpAny_pure ⟨rfl, some i, done ++ [i], rfl, ed2, (fun h => by cases h), (fun j ej => by cases ej; exact ⟨by simp, hI⟩)⟩)))
          | false =>
            rw [if_neg (by simp)]
            refine wpAny_bind (wpAny_rule ?_)
            rw [if_neg (by simp)]
            refine wpAny_pure ⟨rfl, hit, done ++ [i], rfl, ed2, fun h j hj => ?_, fun j ej => ⟨List.mem_append_left _ (hyes j ej).1, (hyes j ej).2⟩⟩
            rw [List.mem_append, List.mem_singleton] at hj
            rcases hj with hj | hj
            · exact hno h j hj
            · subst hj
              exact fun q => by have := hb.mpr q; cases this
        · obtain ⟨e1, hit, done, e2, ed, hno, hyes⟩ := q
          subst e1; subst e2
          rw [List.append_nil] at ed
          exact wpAny_pure (hQ2 hit (fun j ej => (hyes j ej).2) (fun h => by rw [ed]; exact hno h))
end
end K8
/-! What such a dict answers, and how it takes another key. -/
namespace K8
open PySem PySem.Spec PyProof.Rows L2 K0
open PySem.SeqAt

/-- the dict's one object -/
def DictR (w : World) (h : Heap) (d : Addr) (xs : List Row3) : Prop := ∃ o es ep, h.get? d = some o ∧ o.ExactDict ∧ o.data = .dict es ep ∧ es.toList = xs.map (entN w)
section
variable {prog : Program} {w : World} {A : Around} {E : Value → Shared → Prop} {s : Shared} {d : Addr} {xs : List Row3} {k : NestedKey} {v : Value}
theorem DictR.ty (m : DictR w s.heap d xs) : s.TypeIs (.ref d) "dict" := let ⟨o, _, _, ho, hc, _⟩ := m; ⟨o, ho, hc.1⟩
theorem get_n {Q : Option Value → Shared → Prop} (hu : A.units + 8 < cLine) (hk : NestedIs s.heap k v) (hdp : k.depth ≤ 8) (m : DictR w s.heap d xs) (hx : KeysN s.heap xs)
    (hin : ∀ (j : Nat) (y : Row3), xs[j]? = some y → y.1 = k → Q (some y.2.2) { s with toks := s.toks + k.draws }) (hno : k ∉ xs.map (·.1) → Q none { s with toks := s.toks + k.draws }) : wpAny (model prog w) A (dictGet d v) Q E s := by
  obtain ⟨o, es, ep, ho, _, hd, he⟩ := m
  unfold dictGet
  try with_reducible refine wpAny_holding ?_
  refine wpAny_bind (pyHash_key k v A s _ hk (by omega) (wpAny_bind (find_n (s := { s with toks := s.toks + k.draws }) hu hk hdp ho hd he hx fun r h1 h2 => ?_)))
  cases r with
  | none => exact wpAny_pure (hno (h2 rfl))
  | some j =>
    have h := h1 j rfl
    cases e : xs[j]? with
    | none => rw [e] at h; cases h
    | some y =>
      rw [e] at h
      refine wpAny_bind (wpAny_dictEntries (s := { s with toks := s.toks + k.draws }) ho hd ?_)
      have ee : es[j]? = some (entN w y) := by rw [← Array.getElem?_toList, he, List.getElem?_map, e] <;> rfl
      rw [ee]
      exact wpAny_pure (hin j y e (by injection h))
theorem set_n {u : Value} {Q : Unit → Shared → Prop} (hu : A.units + 8 < cLine) (hk : NestedIs s.heap k v) (hdp : k.depth ≤ 8) (m : DictR w s.heap d xs) (hx : KeysN s.heap xs) (hnew : k ∉ xs.map (·.1)) (hz : xs.length ≤ sizeLine)
    (hQ : ∀ h', DictR w h' d (xs ++ [(k, v, u)]) → Heap.SameBut d s.heap h' → Q () { s with heap := h', toks := s.toks + k.draws }) : wpAny (model prog w) A (dictSet d v u) Q E s := by
  obtain ⟨o, es, ep, ho, hc, hd, he⟩ := m
  have hsz : es.size = xs.length := by rw [← Array.length_toList, he, List.length_map]
  unfold dictSet
  try with_reducible refine wpAny_holding ?_
  refine wpAny_bind (pyHash_key k v A s _ hk (by omega) ?_)
  unfold dictSetHashed
  try with_reducible refine wpAny_holding ?_
  refine wpAny_bind (find_n (s := { s with toks := s.toks + k.draws }) hu hk hdp ho hd he hx fun r h1 h2 => ?_)
  cases r with
  | some j =>
    have h := h1 j rfl
    rw [← List.getElem?_map] at h
    exact absurd (List.mem_of_getElem? h) hnew
  | none =>
    refine wpAny_bind (wpAny_rule (wpAny_updateDictKeys (hz := by omega) (s := { s with toks := s.toks + k.draws }) ho hd (hQ _ ⟨_, _, ep + 1, Heap.get?_update_self _ ho (Obj.isFreed_of_dict (Obj.data_mapDictKeys hd _)), hc.mapDictKeys _, Obj.data_mapDictKeys hd _, ?_⟩ (Heap.SameBut.update ..))))
    rw [Array.toList_push, he, List.map_append] <;> rfl
end
end K8
/-! Dicts whatever their keys: len, list of the values, behind a star, isinstance. -/
namespace K8
open PySem PySem.Spec PyProof.Rows L2 K0 K1

/-- key and value, and the entry -/
def EntR (r : V × V) (e : DictEntry) : Prop := RelV r.1 e.key ∧ RelV r.2 e.val
/-- a dict with these rows, whatever its keys -/
def DRo (a : Addr) (rows : List (V × V)) : HO := .ext fun h => (a == sysModules) = false ∧ rows.length ≤ sizeLine ∧ ∃ es ep, h.DictRaw a es ep ∧ Paired EntR rows es.toList
def DV (H : Hp) (a : Addr) (rows : List (V × V)) : Prop := (∃ kvs : List (Key × V), Rd H a (.dK kvs) ∧ rows = kvs.map fun kv => (kV kv.1, kv.2)) ∨ H a = some (DRo a rows)
theorem DV.same {H H' : Hp} {a : Addr} {rows : List (V × V)} (h : DV H a rows) (s : Same H H') : DV H' a rows := by
  rcases h with ⟨kvs, h, e⟩ | h
  · exact .inl ⟨kvs, by rcases h with h | ⟨o, h⟩; exact .inl (s _ _ h); exact .inr ⟨o, s _ _ h⟩, e⟩
  · exact .inr (s _ _ h)
section
variable {X : Cx} {pins : List (Addr × Obj)} {σ : L2.St} {H : Hp} {s : Shared}
theorem paired_ent {P : Program} {w : World} : ∀ {kvs : List (Key × V)} {vs : List (Key × Value)} {es : List DictEntry}, KV kvs vs → Pairs (mixKind P w) es vs → Paired EntR (kvs.map fun kv => (kV kv.1, kv.2)) es
  | _, _, _, .nil, .nil => .nil
  | _, _, _, .cons h t, .cons k e r => .cons ⟨by show RelV (kV _) _; rw [h.1]; exact keyIs_rel k, by show RelV _ _; rw [e]; exact h.2⟩ (paired_ent t r)
theorem dro_new {P : Program} {w : World} {H : Hp} {h : Heap} {a : Addr} {rows : List (V × V)} {es : Array DictEntry} {ep : Nat} (h1 : (a == sysModules) = false) (h2 : rows.length ≤ sizeLine) (h3 : h.DictRaw a es ep) (h4 : Paired EntR rows es.toList) : ObjOk P w H h a (DRo a rows) := by
  refine ⟨⟨h1, h2, es, ep, h3, h4⟩, let ⟨o, ho, _⟩ := h3; ⟨o, ho⟩, fun h1 h2 ⟨x1, x2, es, ep, x3, x4⟩ st => ⟨x1, x2, es, ep, x3.at fun o e => st _ e, x4⟩⟩
theorem dv_raw {a : Addr} {rows : List (V × V)} (I : Inv X pins σ H s) (h : DV H a rows) : (a == sysModules) = false ∧ rows.length ≤ sizeLine ∧ ∃ es ep, s.heap.DictRaw a es ep ∧ Paired EntR rows es.toList := by
  rcases h with ⟨kvs, h, rfl⟩ | h
  · obtain ⟨z, lo, vs, rk, o, es, ep, ho, hc, hd, _, hp, _⟩ := dk_rd I.hok h
    exact ⟨lo, by rw [List.length_map]; exact z, es, ep, ⟨o, ho, hc, hd⟩, paired_ent rk hp⟩
  · exact (I.hok a _ h).1
end
section
variable {prog : Program} {w : World} {A : Around} {E : Value → Shared → Prop} {s : Shared}
theorem len_raw {d : Addr} {es : Array DictEntry} {ep : Nat} {Q : Value → Shared → Prop} (hd : (d == sysModules) = false) (hm : s.heap.DictRaw d es ep) (hz : es.size ≤ sizeLine)
    (h : Q (.int es.size (s.toks + 1)) { s with toks := s.toks + 1 + 1 }) : wpAny (model prog w) A (call (.builtin "len") [.ref d]) Q E s := by
  rw [sizeLine_eq] at hz
  refine Calls.call_function_entry kind_len plain_len entry_len (args_len1 _) ?_
  unfold Builtin.«len»
  refine wpAny_bind (m := oneArg "len" _) (wpAny_pure ?_)
  refine wpAny_bind (m := callSpecial? (.ref d) (Str.ofString "__len__")) (wpAny_callSpecial?_slot (name := Str.ofString "__len__") hm.typeIs F.slot_dict_len
    (call_meetsIn F.slot_dict_len hm.typeIs F.entry_dict_len (F.args_dict_len_1 _) (meets_dict_len_raw d hd) ⟨es, ep, hm, ?_⟩))
  show wpAny _ _ _ _ _ { s with toks := s.toks + 1 }
  refine wpAny_bind (wpAny_holding (wpAny_pure (wpAny_bind (wpAny_letGo ?_))))
  show wpAny _ _ (if ((es.size : Nat) : Int) < 0 then _ else _) _ _ _
  rw [if_neg (by omega)]
  show wpAny _ _ (if ((es.size : Nat) : Int) ≥ 2 ^ 63 then _ else _) _ _ _
  rw [if_neg (by omega)]
  exact wpAny_bind (wpAny_mkInt (wpAny_pure ⟨_, rfl, h⟩))
theorem meets_values_raw (d : Addr) (hd : (d == sysModules) = false) :
    MeetsIn prog w (Builtin.«dict.values» ⟨[.ref d], []⟩) (fun _ R s => (∃ es ep, s.heap.DictRaw d es ep) ∧
      R (.ok (.ret (.ref s.heap.objs.size))) { s with heap := s.heap.push { cls := .type "dict_values", data := .fields #[.ref d] } }) :=
  .of_wp fun A R s ⟨⟨es, ep, hm⟩, h⟩ => by
    refine wpAny_bind ?_
    unfold Builtin.Dict.noArgs
    refine wpAny_bind (wpAny_notOrdered_dict hm.typeIs ?_)
    show wpAny _ _ (pure d) _ _ s
    refine wpAny_pure ?_
    show wpAny _ _ (Builtin.Dict.showsAll d >>= _) _ _ s
    unfold Builtin.Dict.showsAll
    rw [if_neg (by rw [hd]; exact Bool.false_ne_true)]
    refine wpAny_bind (wpAny_pure ?_)
    exact wpAny_bind (wpAny_newObj_type (wpAny_pure ⟨_, rfl, h⟩))
end
theorem keys_raw {rows : List (V × V)} {es : Array DictEntry} {acc : Array Value} (rk : Paired EntR rows es.toList) (h : ItemsOf (fun i v => ∃ hi : i < es.size, v = es[i].key) acc es.size) : Vals (rows.map (·.1)) acc.toList := by
  have hl := paired_len rk
  have el : acc.toList.length = acc.size := by simp
  refine vals_of_at (by rw [List.length_map, el, h.1, hl, Array.length_toList]) fun j x u h1 h2 => ?_
  obtain ⟨hi, e⟩ := h.2 j u (by rw [← Array.getElem?_toList]; exact h2)
  rw [List.getElem?_map] at h1
  cases er : rows[j]? with
  | none => rw [er] at h1; cases h1
  | some r =>
    rw [er] at h1
    cases h1
    obtain ⟨z, ez, hz⟩ := paired_at rk er
    rw [Array.getElem?_toList, Array.getElem?_eq_getElem hi] at ez
    cases ez
    rw [e]
    exact hz.1
theorem vals_raw {rows : List (V × V)} {es : Array DictEntry} {acc : Array Value} (rk : Paired EntR rows es.toList) (h : ItemsOf (fun i v => ∃ hi : i < es.size, v = es[i].val) acc es.size) : Vals (rows.map (·.2)) acc.toList := by
  have hl := paired_len rk
  have el : acc.toList.length = acc.size := by simp
  refine vals_of_at (by rw [List.length_map, el, h.1, hl, Array.length_toList]) fun j x u h1 h2 => ?_
  obtain ⟨hi, e⟩ := h.2 j u (by rw [← Array.getElem?_toList]; exact h2)
  rw [List.getElem?_map] at h1
  cases er : rows[j]? with
  | none => rw [er] at h1; cases h1
  | some r =>
    rw [er] at h1
    cases h1
    obtain ⟨z, ez, hz⟩ := paired_at rk er
    rw [Array.getElem?_toList, Array.getElem?_eq_getElem hi] at ez
    cases ez
    rw [e]
    exact hz.2
def tStarV (te : TE) (t : TA) : TA := fun σ H Q => te σ H fun x H1 => ∃ p rows, x = V.ref p ∧ DV H1 p rows ∧ t σ H1 fun ys H2 => Q (rows.map (·.1) ++ ys) H2
def ValV (q d : Addr) : HO := .ext fun h => h.IsValuesView q d
def tVals (td : TE) : TE := fun σ H Q => td σ H fun x H1 => ∃ d rows, x = V.ref d ∧ DV H1 d rows ∧ ∀ q, H1 q = none → Q (.ref q) (upd H1 q (ValV q d))
def rIsiD (K : PySem.W.Frag) : List V → Hp → VK → Prop := fun xs H Q => ∃ x, xs = [x, .ty "dict"] ∧ ((∃ a rows, x = .ref a ∧ DV H a rows ∧ Q (.bl true) H) ∨ ∃ t, TyX K H x (.type t) ∧ kitB t "dict" = some false ∧ Q (.bl false) H)
section
variable {X : Cx}
theorem call_lenV : CallR X (.builtin "len") (fun xs H Q => ∃ a rows, xs = [V.ref a] ∧ DV H a rows ∧ Q (.int ((rows.length : Nat) : Int)) H) := by
  intro pins s σ H xs us Q I r h
  obtain ⟨a, rows, rfl, hd, q⟩ := h
  obtain ⟨u, rfl, rx⟩ := vals1 r
  obtain rfl : u = .ref a := rx
  obtain ⟨lo, hz, es, ep, hm, rk⟩ := dv_raw I hd
  have hl : rows.length = es.size := (paired_len rk).trans Array.length_toList
  refine len_raw lo hm (by omega) ?_
  rw [← hl]
  exact ⟨.int ((rows.length : Nat) : Int), H, I.tok _, ⟨_, rfl⟩, q⟩
theorem pa_starV {e : Expr} {es : List Expr} {te : TE} {t : TA} {p : Pos} (hc : X.calm = true) (he : PE X e te) (hr : PA X es t) (hs : starEach (.Starred e p :: es) X.env = (true, eval e X.env) :: starEach es X.env := by rfl) : PA X (.Starred e p :: es) (tStarV te t) := by
  refine ⟨fun pos pins s σ H Q I h => ?_⟩
  refine PySem.W.items_star (thn (he.run pins s σ H _ I h) fun v s1 ⟨y, H1, I1, ry, a, rows, ey, hx, q⟩ => ?_) hs
  subst ey
  obtain rfl : v = Value.ref a := ry
  obtain ⟨lo, hz, es, ep, hm, rk⟩ := dv_raw I1 hx
  have hl : rows.length = es.size := (paired_len rk).trans Array.length_toList
  unfold PySem.W.StarOf notIterableAtAll
  refine wpAny_bind (wpAny_specialOf hm.typeIs PySem.F.slot_dict_iter.lookup (wpAny_pure ⟨rfl, ?_⟩))
  exact PySem.W.kdu_collect (KdlSrc.rawDict lo) (I1.ok.hd hc) hm (by omega) fun h' tk acc hk hacc =>
    thn (hr.run pos pins _ σ H1 _ (I1.kept (t' := tk) hk) q) fun ws s3 ⟨vs, H3, I3, r3, q3⟩ => ⟨_ ++ vs, H3, I3, (keys_raw rk hacc).append r3, q3⟩
theorem pe_vals {o : Expr} {td : TE} {apos cpos : Pos} (ho : PE X o td) (hbase : attributeBase o "values" X.env (eval o X.env) = eval o X.env := by rfl) (hline : (apos.endLine == cpos.line) = true := by rfl) : PE X (.Call (.Attribute o "values" apos) [] [] cpos) (tVals td) := by
  refine ⟨fun pins s σ H Q I h => ?_⟩
  refine wpAny_Call_method (T := "dict") (id := "dict.values") hbase rfl hline F.plainAttrs_dict F.slot_dict_values F.type_dict_values (thn (ho.run pins s σ H _ I h) fun u s1 ⟨x, H1, I1, rx, d, rows, ex, hd, q⟩ => ?_)
  subst ex
  obtain rfl : u = Value.ref d := rx
  obtain ⟨lo, hz, es, ep, hm, rk⟩ := dv_raw I1 hd
  have hno : ∀ a, Value.ref d = .ref a → ∃ ob, s1.heap.get? a = some ob ∧ ob.dict = none := fun a e => by
    cases e
    obtain ⟨ob, ho', hc, _⟩ := hm
    exact ⟨ob, ho', hc.2.1⟩
  refine ⟨hm.typeIs, hno, ?_⟩
  show wpAny _ _ (callWith cpos (.builtin "dict.values") [.ref d] [] []) _ X.xe s1
  have hn : H1 s1.heap.objs.size = none := I1.hok.fresh (Nat.le_refl _)
  refine method_meetsIn F.slot_dict_values F.entry_dict_values rfl (PySem.evalArgs_none ⟨rfl, hm.typeIs, F.args_dict_values_1 _, _, meets_values_raw d lo, ⟨es, ep, hm⟩, ?_⟩)
  refine ⟨.ref s1.heap.objs.size, _, I1.laid (a := s1.heap.objs.size) (o := ValV s1.heap.objs.size d) (t' := s1.toks) (fun _ _ q => Heap.get?_push_of_some _ q) (Nat.le_refl _) ?_, rfl, q _ hn⟩
  exact ⟨⟨_, Heap.get?_push_size _ rfl, rfl, rfl⟩, ⟨_, Heap.get?_push_size _ rfl⟩, fun h1 h2 ⟨o, e, r⟩ st => ⟨o, st _ e, r⟩⟩
theorem call_listV (hc : X.calm = true) : CallR X (.type "list") (fun xs H Q => ∃ q d rows, xs = [V.ref q] ∧ H q = some (ValV q d) ∧ DV H d rows ∧ ∀ p, H p = none → Q (.ref p) (upd H p (.lst (rows.map (·.2))))) := by
  intro pins s σ H xs us Q I r h
  obtain ⟨q, d, rows, rfl, hq, hd, k⟩ := h
  obtain ⟨u, rfl, rx⟩ := vals1 r
  obtain rfl : u = .ref q := rx
  obtain ⟨lo, hz, es, ep, hm, rk⟩ := dv_raw I hd
  have hl : rows.length = es.size := (paired_len rk).trans Array.length_toList
  have hv : s.heap.IsValuesView q d := (I.hok q _ hq).1
  refine PySem.W.kdl_call (KdlSrc.rawValues (r := q) (d := d) (es := es) (ep := ep)) (I.ok.hd hc) ⟨hv, hm⟩ (by omega) fun h' tk acc' c' hk hn hacc => ?_
  have hfr : H s.heap.objs.size = none := I.hok.fresh (Nat.le_refl _)
  refine ⟨.ref s.heap.objs.size, _, I.laid (a := s.heap.objs.size) (o := .lst (rows.map (·.2))) (t' := tk) hk (Nat.le_refl _) ?_, rfl, k _ hfr⟩
  have hv2 := vals_raw rk hacc
  refine ⟨by rw [List.length_map]; exact hz, acc'.toList, c', hv2, ?_⟩
  rw [hn]
/-- isinstance(x, dict) -/
theorem call_isiD : CallR X (.builtin "isinstance") (rIsiD X.K) := by
  intro pins s σ H xs us Q I r h
  obtain ⟨x, rfl, h⟩ := h
  rcases h with ⟨a, rows, rfl, hd, q⟩ | ⟨t, ty, hk, q⟩
  · obtain ⟨u1, u2, rfl, r1, r2⟩ := vals2 r
    obtain rfl : u1 = Value.ref a := r1
    have e2 : u2 = .type "dict" := r2
    subst e2
    obtain ⟨lo, hz, es, ep, ⟨o, ho, hc, hdt⟩, rk⟩ := dv_raw I hd
    exact PySem.W.kia_one (K := X.K) (t := .type "dict") PySem.W.kitx_dict I.kIn ⟨_, ho, hc.1⟩ (kit_ty (b := "dict") (r := true) (by decide +kernel)) (fun z => nomatch z) fun tk => ⟨.bl true, H, I.tok tk, rfl, q⟩
  · exact call_isi pins s σ H _ us Q I r ⟨x, .ty "dict", _, .type "dict", false, rfl, .ty _, ty, kit_ty hk, q⟩
end
end K8
/-! set(xs) of a list of texts, of any length below 4000; are_different. -/
namespace K8
open PySem PySem.Spec PyProof.Rows L2 K0 K1

/-- how many different ones stand among the first i -/
def cN (xs : List PySem.Str) : Nat → Nat
  | 0 => 0
  | i + 1 => if xs.getD i Str.empty ∈ xs.take i then cN xs i else cN xs i + 1
theorem cN_le (xs : List PySem.Str) : ∀ i, cN xs i ≤ i
  | 0 => Nat.le_refl _
  | i + 1 => by
    have := cN_le xs i
    unfold cN
    split <;> omega
theorem take_snoc {α : Type} {l : List α} {i : Nat} {d : α} (h : i < l.length) : l.take (i + 1) = l.take i ++ [l.getD i d] := by
  rw [List.take_add_one, List.getElem?_eq_getElem h]
  simp [List.getD, List.getElem?_eq_getElem h]
theorem cN_iff (xs : List PySem.Str) : ∀ i, i ≤ xs.length → (cN xs i = i ↔ (xs.take i).Nodup)
  | 0, _ => by simp [cN]
  | i + 1, h => by
    have ih := cN_iff xs i (by omega)
    have hle := cN_le xs i
    rw [take_snoc (d := Str.empty) (by omega), List.nodup_append]
    unfold cN
    by_cases hm : xs.getD i Str.empty ∈ xs.take i
    · rw [if_pos hm]
      refine ⟨fun e => by omega, fun e => ?_⟩
      exact absurd rfl (e.2.2 _ hm _ (List.mem_singleton.mpr rfl))
    · rw [if_neg hm]
      refine ⟨fun e => ⟨ih.mp (by omega), by simp, fun a ha b hb => ?_⟩, fun e => by rw [ih.mpr e.1]⟩
      rw [List.mem_singleton] at hb
      rw [hb]
      exact fun z => hm (z ▸ ha)
theorem text_at : ∀ {us : List Value} {xs : List PySem.Str}, StrsAre us xs → ∀ (i : Nat) (v : Value), us[i]? = some v → ∃ t, v = .str (xs.getD i Str.empty) t
  | _, _, .nil, _, _, h => nomatch h
  | _, _, .cons _ t _, 0, _, h => ⟨t, (Option.some.inj h).symm⟩
  | _, _, .cons _ _ r, i + 1, v, h => text_at r i v h
section
variable {prog : Program} {w : World} {A : Around} {R : Result → Shared → Prop} {I : Addr} {fp wr : List Addr} {G : Array GenState → Array GenState → Prop} {n : Nat} {P : Nat → Value → Prop} {St : Nat → Shared → Prop}
/-- one text after another goes into the set at D -/
theorem fill_set (W : WalksS prog w A.in1 I fp wr G n P St) (D : Addr) (off : D ∉ fp) (xs : List PySem.Str) (len : xs.length = n) (room : n + 1 < scanBound) (isT : ∀ i v, P i v → ∃ t, v = .str (xs.getD i Str.empty) t) :
    ∀ (left i : Nat) (s : Shared), n - i = left → i ≤ n → St i s → s.heap.SetOf (PySem.strKind prog w) D (fun k => decide (k ∈ xs.take i)) (cN xs i) →
      (∀ s', Moved (D :: wr) G s s' → s'.heap.SetOf (PySem.strKind prog w) D (fun k => decide (k ∈ xs.take n)) (cN xs n) → R (.ok (.ret .none)) s') →
      codeAny (model prog w) A (.builtin "set.update.loop" ⟨[.ref D, .ref I], []⟩) R s := by
  have offw : D ∉ wr := fun z => off (W.sub _ z)
  have more : ∀ b ∈ wr, b ∈ D :: wr := fun b hb => List.mem_cons_of_mem _ hb
  have carry : ∀ {s s' : Shared} {S : PySem.Str → Bool} {c : Nat}, Moved wr G s s' → s.heap.SetOf (PySem.strKind prog w) D S c → s'.heap.SetOf (PySem.strKind prog w) D S c := fun {s s' S c} m x => by
    obtain ⟨o, es, ep, t, ho, rest⟩ := x
    exact ⟨o, es, ep, t, m.heap D _ offw ho, rest⟩
  intro left
  induction left with
  | zero =>
    intro i s hl hi st hset fin
    obtain rfl : i = n := by omega
    refine codeAny_builtin PyProof.Rows.F.entry_set_update_loop ?_
    rw [Around.under_plainId PyProof.Rows.F.plain_set_update_loop _]
    show wpAny _ A.in1 (pyNext (.ref I) >>= _) _ _ s
    exact wpAny_bind (W.done s _ _ st fun s' m => wpAny_pure (fin s' (m.mono more) (carry m hset)))
  | succ left ih =>
    intro i s hl hi st hset fin
    have lt : i < n := by omega
    refine codeAny_builtin PyProof.Rows.F.entry_set_update_loop ?_
    rw [Around.under_plainId PyProof.Rows.F.plain_set_update_loop _]
    show wpAny _ A.in1 (pyNext (.ref I) >>= _) _ _ s
    refine wpAny_bind (W.item i s _ _ lt st fun v s1 hv st1 m => ?_)
    obtain ⟨t, rfl⟩ := isT i v hv
    have set1 := carry m hset
    generalize hx : xs.getD i Str.empty = x
    show wpAny _ A.in1 (holding [Value.str x t] (setAdd D (.str x t)) >>= _) _ _ s1
    refine wpAny_bind (wpAny_holding ?_)
    unfold setAdd
    refine wpAny_holding (wpAny_bind ((PySem.strKind prog w).pyHash (k := x) (strKind_is _ _ _ _) ?_))
    have hroom : cN xs i + 1 < scanBound := by have := cN_le xs i; omega
    refine wpAny_setAddHashed_of (knd := PySem.strKind prog w) (s := { s1 with toks := s1.toks + 1 }) (strKind_is _ _ _ _) rfl set1 hroom fun h2 sb set2 => ?_
    have set3 : h2.SetOf (PySem.strKind prog w) D (fun k => decide (k ∈ xs.take (i + 1))) (cN xs (i + 1)) := by
      refine SetOf_congr set2 (fun k => ?_) ?_
      · rw [take_snoc (d := Str.empty) (by omega), hx, Bool.eq_iff_iff]
        simp only [Bool.or_eq_true, decide_eq_true_eq, List.mem_append, List.mem_singleton]
      · show (if decide (x ∈ xs.take i) = true then cN xs i else cN xs i + 1) = cN xs (i + 1)
        rw [show cN xs (i + 1) = if xs.getD i Str.empty ∈ xs.take i then cN xs i else cN xs i + 1 from rfl, hx]
        simp only [decide_eq_true_eq]
    refine wpAny_pure ⟨plainId_quiet PyProof.Rows.F.plain_set_update_loop _, ih (i + 1) _ (by omega) lt (W.frame _ s1 _ _ st1 (Nat.le_succ _) fun b hb o e => ?_) set3 fun s3 m3 set4 => fin s3 (Moved.trans W.gtrans ((m.mono more).then_heap (Nat.le_succ _) fun b o hb e => ?_) m3) set4⟩
    · exact (sb.2 b fun z => off (z ▸ hb)).trans e
    · exact (sb.2 b fun z => hb (z ▸ List.mem_cons_self)).trans e
end
section
variable {prog : Program} {w : World} {A : Around} {E : Value → Shared → Prop} {s : Shared}
/-- what set.__init__ leaves of a new set at D -/
def Filled (prog : Program) (w : World) (s : Shared) (xs : List PySem.Str) (D : Addr) (Q : Value → Shared → Prop) : Prop :=
  ∀ (h' : Heap) (tk : Nat), h'.SetOf (PySem.strKind prog w) D (fun k => decide (k ∈ xs)) (cN xs xs.length) → (∀ b o, s.heap.get? b = some o → h'.get? b = some o) → Q (.ref D) { s with heap := h', toks := tk }
theorem set_of_texts {l : Addr} {vs : List Value} {xs : List PySem.Str} {Q : Value → Shared → Prop} (calm : A.handled = none) (isL : s.heap.IsList l vs.toArray) (are : PyProof.Rows.StrsAre vs xs) (len : vs.length = xs.length) (room : xs.length + 1 < scanBound)
    (fin : Filled prog w s xs s.heap.objs.size Q) : wpAny (model prog w) A (call (.type "set") [.ref l]) Q E s := by
  obtain ⟨c, tl, hmro⟩ := PySem.F.called_set.mro
  have m1 := PySem.F.called_set.made
  have m2 := PySem.F.called_set.sub
  have m3 := PySem.F.called_set.notType
  have m4 := PySem.F.called_set.canCreate
  have m5 := PySem.F.typeCall_set_1 (.ref l)
  generalize hD : s.heap.objs.size = D at fin
  refine wpAny_call (codeAny_of_tree ?_)
  show wpAny _ _ (callAny (.type "set") _) _ _ _
  refine wpAny_pure ⟨Code.quiet_builtin _ (by decide +kernel), codeAny_builtin PySem.F.entry_type_call ?_⟩
  rw [Around.under_plain (weight_type_call_type "set" [.ref l] []) rfl]
  repeat (any_goals (first | assumption | wp_step))
  refine codeAny_mono (code_set_new_1 (.ref l) (E := E) (Q₁ := fun v s1 => ∃ b : Bool, v = .ref D ∧ s1 = { s with heap := s.heap.push { cls := .type "set", dict := none, data := .set #[] 0 (.fresh 0 0 b) } }) fun b => ⟨b, by rw [hD], rfl⟩) fun r s1 hr => ?_
  match r, hr with
  | .error e, hr => exact hr
  | .ok .next, hr => exact hr.elim
  | .ok .brk, hr => exact hr.elim
  | .ok .cont, hr => exact hr.elim
  | .ok (.ret v), hr =>
    obtain ⟨b, rfl, rfl⟩ := hr
    generalize hh0 : s.heap.push { cls := .type "set", dict := none, data := .set #[] 0 (.fresh 0 0 b) } = h0
    have at0 : h0.get? D = some { cls := .type "set", dict := none, data := .set #[] 0 (.fresh 0 0 b) } := by rw [← hh0, ← hD]; exact Heap.get?_push_size _ rfl
    have kp0 : ∀ b o, s.heap.get? b = some o → h0.get? b = some o := fun b o e => by rw [← hh0]; exact Heap.get?_push_of_some _ e
    have ty : Shared.TypeIs { s with heap := h0 } (.ref D) "set" := ⟨_, at0, rfl⟩
    have n1 := PySem.F.called_set.init.lookup
    have n2 := PySem.F.called_set.init.bind (.ref D)
    repeat (any_goals (first | assumption | wp_step))
    refine codeAny_mono (codeAny_call_builtin (R := wants (fun u s2 => u = .none ∧ ∃ h' tk, s2 = { s with heap := h', toks := tk } ∧ h'.SetOf (PySem.strKind prog w) D (fun k => decide (k ∈ xs)) (cN xs xs.length) ∧ ∀ b o, s.heap.get? b = some o → h'.get? b = some o) E) PySem.F.called_set.init.plain PySem.F.entry_set_init (check_set_init_1 ty ?_)) fun r2 s2 hr2 => ?_
    · obtain ⟨ol, lat, lc, ln, ld⟩ := isL
      obtain ⟨lcls, ldict, ldata, lsl⟩ := ol
      simp only at lc ld
      subst lc; subst ld
      have lat0 := kp0 _ _ lat
      have isL0 : h0.IsList l vs.toArray := ⟨_, lat0, rfl, ln, rfl⟩
      have p1 := F.sub_list_set
      have p2 := F.sub_list_frozenset
      have p3 : (Value.type "list" == Value.type "dict") = false := by decide
      unfold Builtin.«set.__init__» noKeywords Builtin.Frozenset.updateFrom
      generalize hI : pyIter = iter
      wp_walk
      subst hI
      refine wpAny_pyIter_list isL0 ?_
      refine wpAny_bind (wpAny_runValue ?_)
      have lD : l ≠ D := fun z => by
        rw [z, ← hD] at lat
        exact absurd (Heap.lt_size lat) (Nat.lt_irrefl _)
      have sz0 : h0.objs.size = D + 1 := by rw [← hh0, Heap.size_push, hD]
      have lI : l ≠ h0.objs.size := by
        have q : l < D := hD ▸ Heap.lt_size lat
        rw [sz0]
        exact Nat.ne_of_lt (Nat.lt_succ_of_lt q)
      have calm3 : A.in1.in1.in1.handled = none := by simp [calm]
      have off : D ∉ [h0.objs.size, l] := by
        rw [sz0]
        simp only [List.mem_cons, List.not_mem_nil, or_false, not_or]
        exact ⟨by omega, Ne.symm lD⟩
      have isT : ∀ (i : Nat) (v : Value), vs.toArray[i]? = some v → ∃ t, v = .str (xs.getD i Str.empty) t := fun i v hv => text_at are i v (by simpa using hv)
      have size : vs.toArray.size = xs.length := by rw [List.size_toArray, len]
      refine fill_set ((Walks.list calm3 _ l lI vs.toArray).toS) D off xs size.symm (by rw [size]; exact room) isT (vs.toArray.size - 0) 0 _ (by omega) (Nat.zero_le _) ⟨⟨_, Heap.get?_push_size _ rfl, rfl, rfl⟩, isL0.push _⟩ ?_ fun s3 mv set3 => ?_
      · have e1 : (h0.push { cls := .type "list_iterator", data := .fields #[.ref l, .int 0 0] }).get? D = some { cls := .type "set", dict := none, data := .set #[] 0 (.fresh 0 0 b) } := Heap.get?_push_of_some _ at0
        exact SetOf_congr ((PyProof.Rows.setObjOf_fresh (knd := PySem.strKind prog w) b).setOf e1 (by unfold scanBound; omega)) (fun _ => by simp) rfl
      · obtain ⟨h3, g3, d3, t3, o3⟩ := s3
        have eg : g3 = s.gens := mv.gens
        have ed : d3 = s.drawn := mv.drawn
        have eo : o3 = s.os := mv.os
        subst eg; subst ed; subst eo
        show wpAny _ _ _ _ _ _
        refine wpAny_pure ?_
        show wpAny _ _ (ret Value.none) _ _ _
        rw [size, List.take_length] at set3
        refine wpAny_pure ⟨rfl, h3, t3, rfl, set3, fun b2 o2 e2 => ?_⟩
        have q2 : b2 < D := hD ▸ Heap.lt_size e2
        have k1 : b2 ≠ D := Nat.ne_of_lt q2
        have k2 : b2 ≠ h0.objs.size := by rw [sz0]; exact Nat.ne_of_lt (Nat.lt_succ_of_lt q2)
        exact mv.heap b2 o2 (by simp only [List.mem_cons, List.not_mem_nil, or_false, not_or]; exact ⟨k1, k2⟩) (Heap.get?_push_of_some _ (kp0 _ _ e2))
    · match r2, hr2 with
      | .error e, hr2 => exact hr2
      | .ok .next, hr2 => exact hr2.elim
      | .ok .brk, hr2 => exact hr2.elim
      | .ok .cont, hr2 => exact hr2.elim
      | .ok (.ret u), hr2 =>
        obtain ⟨rfl, h', tk, rfl, set4, keep⟩ := hr2
        repeat (any_goals (first | assumption | wp_step))
        exact fin h' tk set4 keep
end
/-- len(set(xs)) of a list of texts -/
def SetT (P : Program) (w : World) (a : Addr) (xs : List PySem.Str) : HO := .ext fun h => h.SetOf (PySem.strKind P w) a (fun k => decide (k ∈ xs)) (cN xs xs.length)
section
variable {X : Cx}
theorem call_setT (hc : X.calm = true) : CallR X (.type "set") (fun vs H Q => ∃ l, ∃ xs : List PySem.Str, vs = [V.ref l] ∧ SqL X.K H l (xs.map V.str) ∧ xs.length + 1 < scanBound ∧ ∀ p, H p = none → Q (.ref p) (upd H p (SetT X.prog X.w p xs))) := by
  intro pins s σ H vs us Q I r h
  obtain ⟨l, xs, rfl, hl, hz, q⟩ := h
  obtain ⟨u, rfl, rx⟩ := vals1 r
  obtain rfl : u = .ref l := rx
  obtain ⟨its, rv, pl, _⟩ := I.list hl
  have hlen := rv.length
  rw [List.length_map] at hlen
  have hfr : H s.heap.objs.size = none := I.hok.fresh (Nat.le_refl _)
  refine set_of_texts (I.ok.hd hc) pl.isList (strsAre_of rv) hlen.symm hz fun h' tk set kp => ?_
  refine ⟨.ref s.heap.objs.size, _, I.laid (a := s.heap.objs.size) (o := SetT X.prog X.w s.heap.objs.size xs) (t' := tk) kp (Nat.le_refl _) ?_, rfl, q _ hfr⟩
  obtain ⟨o, es, ep, t, ho, rest⟩ := set
  exact ⟨⟨o, es, ep, t, ho, rest⟩, ⟨o, ho⟩, fun h1 h2 ⟨o, es, ep, t, ho, rest⟩ st => ⟨o, es, ep, t, st _ ho, rest⟩⟩
end
end K8
/-! are_different, _is_placing. -/
namespace K8
open PySem PySem.Spec PyProof.Rows L2 K0 K1

section
variable {X : Cx}
theorem call_lenT : CallR X (.builtin "len") (fun vs H Q => ∃ p, ∃ xs : List PySem.Str, vs = [V.ref p] ∧ H p = some (SetT X.prog X.w p xs) ∧ xs.length + 1 < scanBound ∧ Q (.int ((cN xs xs.length : Nat) : Int)) H) := by
  intro pins s σ H vs us Q I r h
  obtain ⟨p, xs, rfl, hp, hz, q⟩ := h
  obtain ⟨u, rfl, rx⟩ := vals1 r
  obtain rfl : u = .ref p := rx
  obtain ⟨o, es, ep, t, ho, hex, hd, _, _, _, hf, hn⟩ := (I.hok p _ hp).1
  have hle := cN_le xs xs.length
  refine call_len_set ho hex hd hf (by rw [hn]; unfold scanBound at hz; omega) ⟨.int ((cN xs xs.length : Nat) : Int), H, I.tok _, ⟨_, by rw [hn]⟩, q⟩
end
def spDiff (K : PySem.W.Frag) : Sp := fun vs H Q _ => ∃ l, ∃ xs : List PySem.Str, vs = [V.ref l] ∧ SqL K H l (xs.map V.str) ∧ xs.length ≤ 1000 ∧ ∀ H', Same H H' → Q (.bl (decide xs.Nodup)) H'
/-- a value as a placing, with the answer -/
inductive Pv (K : PySem.W.Frag) (H : Hp) : V → Bool → Prop
  | no {v : V} {t : String} (ty : TyX K H v (.type t)) (h : kitB t "dict" = some false) : Pv K H v false
  | len {a : Addr} {rows : List (V × V)} (h : DV H a rows) (hl : rows.length = 0 ∨ 5 < rows.length) (hz : rows.length ≤ 1000) : Pv K H (.ref a) false
  | mid {a : Addr} {rows : List (V × V)} {os : List (Option PySem.Str)} {r : Bool} (h : DV H a rows) (h1 : 1 ≤ rows.length) (h5 : rows.length ≤ 5) (hs : Paired (Nv K H) (rows.map (·.1) ++ rows.map (·.2)) os)
      (hr : (os.all isNm = false ∧ r = false) ∨ (os.all isNm = true ∧ ∃ xs : List PySem.Str, rows.map (·.2) = xs.map V.str ∧ r = decide xs.Nodup)) : Pv K H (.ref a) r
/-- names to texts, as rows -/
def tx (ps : List (PySem.Str × PySem.Str)) : List (V × V) := ps.map fun p => (V.str p.1, V.str p.2)
theorem tx1 (ps : List (PySem.Str × PySem.Str)) : (tx ps).map (·.1) = (ps.map (·.1)).map V.str := by simp [tx, List.map_map, Function.comp_def]
theorem tx2 (ps : List (PySem.Str × PySem.Str)) : (tx ps).map (·.2) = (ps.map (·.2)).map V.str := by simp [tx, List.map_map, Function.comp_def]
theorem all_nm (xs : List PySem.Str) : (xs.map some).all isNm = xs.all nm := by rw [List.all_map]; rfl
theorem nvs2 {K : PySem.W.Frag} {H : Hp} {ps : List (PySem.Str × PySem.Str)} (hl : ∀ p ∈ ps, p.1.length ≤ 1000 ∧ p.2.length ≤ 1000) : Paired (Nv K H) ((tx ps).map (·.1) ++ (tx ps).map (·.2)) ((ps.map (·.1) ++ ps.map (·.2)).map some) := by
  rw [tx1, tx2, ← List.map_append]
  refine nvs fun w hw => ?_
  rcases List.mem_append.mp hw with hw | hw
  · obtain ⟨p, hp, rfl⟩ := List.mem_map.mp hw
    exact (hl p hp).1
  · obtain ⟨p, hp, rfl⟩ := List.mem_map.mp hw
    exact (hl p hp).2
/-- whether pairs of texts are a placing, but for their keys being different -/
def plB (ps : List (PySem.Str × PySem.Str)) : Bool := decide (1 ≤ ps.length) && decide (ps.length ≤ 5) && (ps.map (·.1) ++ ps.map (·.2)).all nm && decide (ps.map (·.2)).Nodup
theorem Pv.texts {K : PySem.W.Frag} {H : Hp} {a : Addr} {ps : List (PySem.Str × PySem.Str)} (h : DV H a (tx ps)) (hz : ps.length ≤ 1000) (hl : ∀ p ∈ ps, p.1.length ≤ 1000 ∧ p.2.length ≤ 1000) : Pv K H (.ref a) (plB ps) := by
  have el : (tx ps).length = ps.length := by simp [tx]
  by_cases h1 : 1 ≤ ps.length
  · by_cases h5 : ps.length ≤ 5
    · refine .mid h (by omega) (by omega) (nvs2 hl) ?_
      rw [all_nm]
      unfold plB
      rw [decide_eq_true h1, decide_eq_true h5]
      cases hn : (ps.map (·.1) ++ ps.map (·.2)).all nm with
      | false => exact .inl ⟨rfl, rfl⟩
      | true => exact .inr ⟨rfl, _, tx2 ps, rfl⟩
    · have e : plB ps = false := by unfold plB; rw [decide_eq_false h5]; simp
      rw [e]
      exact .len h (by omega) (by omega)
  · have e : plB ps = false := by unfold plB; rw [decide_eq_false h1]; simp
    rw [e]
    exact .len h (by omega) (by omega)
def spIsPl (K : PySem.W.Frag) : Sp := fun vs H Q _ => ∃ (v : V) (r : Bool), vs = [v] ∧ Pv K H v r ∧ ∀ H', Same H H' → Q (.bl r) H'
theorem paired_append {α β : Type} {F : α → β → Prop} : ∀ {xs : List α} {os : List β} {ys : List α} {ps : List β}, Paired F xs os → Paired F ys ps → Paired F (xs ++ ys) (os ++ ps)
  | _, _, _, _, .nil, h => h
  | _, _, _, _, .cons a t, h => .cons a (paired_append t h)
section
variable {P : Program} {w : World} {K : PySem.W.Frag} {mg : PySem.Str → Option Value} {base : Heap}
theorem scDiff : FnScope ["values"] ["values"] (defScope sDiff) := ⟨rfl, rfl, rfl, by decide +kernel, rfl, by decide +kernel, by decide +kernel⟩
theorem ok_diff {f : Addr} {fd : FuncData} (F : Fun K "are_different" "are_different" sDiff f fd) (T : Bare mg) : FnOk P w K mg base CX0 1 f fd ["values"] (spDiff K) := by
  refine F.ok scDiff (fun vs H Q E h => ?_) (fun cdv A outer s H vs Q E hr h => ?_)
  · obtain ⟨l, xs, rfl, _⟩ := h
    rfl
  · obtain ⟨l, xs, rfl, hl, hz, q⟩ := h
    refine ⟨_, (pss_one (ps_ret (pe_cmpR op_eq (pe_callB call_lenT (by rfl) T.len (by decide +kernel) (pa_cons (pe_callTy (call_setT rfl) (by rfl) T.set (by decide +kernel) (pa_cons (pv 0) pa_nil)) pa_nil)) (pe_callB call_len_seq (by rfl) T.len (by decide +kernel) (pa_cons (pv 0) pa_nil)) (nomark _)))), ?_⟩
    have hb : xs.length + 1 < scanBound := by unfold scanBound; omega
    refine ⟨_, rfl, l, xs, rfl, hl, hb, fun p np => ?_⟩
    refine ⟨p, xs, rfl, upd_same, hb, _, rfl, l, xs.map V.str, rfl, .inl (sqL_same hl (sn np)), rfl, ?_⟩
    have e : decide (V.int ((cN xs xs.length : Nat) : Int) = V.int (((xs.map V.str).length : Nat) : Int)) = decide xs.Nodup := by
      have := cN_iff xs xs.length (Nat.le_refl _)
      rw [List.take_length] at this
      rw [Bool.eq_iff_iff, decide_eq_true_eq, decide_eq_true_eq, List.length_map]
      refine ⟨fun h => this.mp (by have := V.int.inj h; omega), fun h => by rw [this.mpr h]⟩
    rw [e]
    exact q _ (sn np)
theorem scIsPl : FnScope ["value", "names", "name"] ["value"] (defScope sIsPl) := ⟨rfl, rfl, rfl, by decide +kernel, rfl, by decide +kernel, by decide +kernel⟩
theorem ok_is_pl {f fN fD : Addr} {fd fdN fdD : FuncData} (F : Fun K "_is_placing" "_is_placing" sIsPl f fd) (T : Bare mg) (C : Cons mg) (FN : Fun K "is_name" "is_name" sIsName fN fdN) (bN : Binds K fdN ["value"] []) (mN : mg "is_name" = some (.ref fN))
    (FD : Fun K "are_different" "are_different" sDiff fD fdD) (bD : Binds K fdD ["values"] []) (mD : mg "are_different" = some (.ref fD)) : FnOk P w K mg base CX0 2 f fd ["value"] (spIsPl K) := by
  have GN : FnOk P w K mg base CX0 1 fN fdN ["value"] (spIsName K) := ok_is_name FN T C
  have GD : FnOk P w K mg base CX0 1 fD fdD ["values"] (spDiff K) := ok_diff FD T
  obtain ⟨tmp, mmp⟩ := C.mp
  refine F.ok scIsPl (fun vs H Q E h => ?_) (fun cdv A outer s H vs Q E hr h => ?_)
  · obtain ⟨v, r, rfl, _⟩ := h
    rfl
  · obtain ⟨v, r, rfl, Hv, q⟩ := h
    refine ⟨_, (pss_cons (ps_if (PW.pt (pw_or (pt_not (pt_val (pe_callB call_isiD (by rfl) T.isi (by decide +kernel) (pa_cons (pv 0) (pa_cons (pe_bltn (v := .ty "dict") (by rfl) T.dict (by decide +kernel) rfl) pa_nil)))))
        (pw_or1 (pt_not (pt_chain op_le op_le pe_int (pe_callB call_lenV (by rfl) T.len (by decide +kernel) (pa_cons (pv 0) pa_nil)) (pe_glob (v := .int 5) rfl mmp ⟨_, rfl⟩)))))) (pss_one (ps_ret pe_bl)) pss_nil)
      (pss_cons (ps_set (i := 1) scIsPl.nd rfl (Or.inl rfl) (pe_callTy (call_listV rfl) (by rfl) T.list (by decide +kernel) (pa_cons (pe_vals (pv 0)) pa_nil)))
      (pss_one (ps_ret (pe_and (pe_callB (cr_all rfl) (by rfl) T.all (by decide +kernel) (pa_cons (pe_lc (own := [("name", 2)]) (g := gName 2) (tt := tYes) rfl scIsPl.nd (pi_tup (pe_tup (pa_starV rfl (pv 0) (StX.pa_star (pv 1) pa_nil)))) (blkOk_by (own := [("name", 2)]) (N := ["value", "names", "name"]) (sc := defScope sIsPl) (by decide +kernel)) (fun _ _ _ _ _ => pg_name (i := 2) scIsPl.nd rfl (Or.inl rfl)) (fun _ _ _ _ _ => pts_nil) (fun _ _ _ _ _ => (pe_call GN (hr.mono (by decide)) (by rfl) mN FN.kp bN .nil pass0 (pa_cons (pv 2) pa_nil)))) pa_nil))
        (pe_one (pe_call GD (hr.mono (by decide)) (by rfl) mD FD.kp bD .nil pass0 (pa_cons (pv 1) pa_nil)))))))), ?_⟩
    cases Hv with
    | no ty hk => exact ⟨v, rfl, v, rfl, .inr ⟨_, ty, hk, _, rfl, q _ (Same.refl _)⟩⟩
    | @len a rows h hl hz =>
      refine ⟨_, rfl, _, rfl, .inl ⟨a, rows, rfl, h, _, rfl, ?_⟩⟩
      refine ⟨_, rfl, a, rows, rfl, h, _, _, rfl, rfl, _, rfl, ?_⟩
      refine ite2 (fun h1 => ?_) (fun h1 => ⟨_, rfl, q _ (Same.refl _)⟩)
      refine ⟨_, _, rfl, rfl, _, rfl, ?_⟩
      have h1' : 1 ≤ rows.length := by have := of_decide_eq_true h1; omega
      have e : decide ((rows.length : Int) ≤ 5) = false := decide_eq_false (by omega)
      rw [e]
      exact q _ (Same.refl _)
    | @mid a rows os r h h1 h5 hs hr2 =>
      refine ⟨_, rfl, _, rfl, .inl ⟨a, rows, rfl, h, _, rfl, ?_⟩⟩
      refine ⟨_, rfl, a, rows, rfl, h, _, _, rfl, rfl, _, rfl, ?_⟩
      refine ite2 (fun _ => ?_) (fun z => absurd (decide_eq_true (by omega)) z)
      refine ⟨_, _, rfl, rfl, _, rfl, ?_⟩
      have e : decide ((rows.length : Int) ≤ 5) = true := decide_eq_true (by omega)
      rw [e]
      refine ⟨_, rfl, a, rows, rfl, h, fun v nv => ⟨v, a, rows, rfl, upd_same, h.same (sn nv), fun l nl => ?_⟩⟩
      have s1 : Same H _ := (sn (o := ValV v a) nv).trans (sn (o := .lst (rows.map (·.2))) nl)
      have el : (upd (upd H v (ValV v a)) l (.lst (rows.map (·.2)))) l = some (.lst (rows.map (·.2))) := upd_same
      generalize upd (upd H v (ValV v a)) l (.lst (rows.map (·.2))) = H1 at s1 el ⊢
      refine ⟨_, rfl, a, rows, rfl, h.same s1, _, rfl, l, rows.map (·.2), rfl, .inr (SqL.of el), ?_⟩
      have hol := paired_len hs
      rw [List.length_append, List.length_map, List.length_map] at hol
      have eL : rows.map (·.1) ++ (rows.map (·.2) ++ []) = rows.map (·.1) ++ rows.map (·.2) := by rw [List.append_nil]
      refine ⟨by rw [eL, List.length_append, List.length_map, List.length_map, sizeLine_eq]; omega, fun t nt => ?_⟩
      rw [eL]
      have s2 : Same H _ := s1.trans (sn (o := .tup (rows.map (·.1) ++ rows.map (·.2))) nt)
      have et : (upd H1 t (.tup (rows.map (·.1) ++ rows.map (·.2)))) t = some (.tup (rows.map (·.1) ++ rows.map (·.2))) := upd_same
      have el2 : (upd H1 t (.tup (rows.map (·.1) ++ rows.map (·.2)))) l = some (.lst (rows.map (·.2))) := sn nt _ _ el
      generalize upd H1 t (.tup (rows.map (·.1) ++ rows.map (·.2))) = H2 at s2 et el2 ⊢
      refine ⟨t, rfl, ⟨_, SqT.of et⟩, fun D n0 => ?_⟩
      have sD : ∀ o, Same H2 (upd H2 D o) := fun o => sn n0
      refine lc_tup (K := K) (a := t) (xs := rows.map (·.1) ++ rows.map (·.2)) (fun i H' => H' D = some (.lst ((os.take i).map fun o => V.bl (isNm o))) ∧ ∀ b u, H2 b = some u → H' b = some u) ⟨upd_same, sD _⟩ (fun i H' _ hP => SqT.of (hP.2 _ _ et)) (fun i x H' hx hP => ⟨rfl, ?_⟩) (fun H' hP => ?_)
      · obtain ⟨o, ho, hn⟩ := paired_at hs hx
        have hi : i < os.length := (List.getElem?_eq_some_iff.mp ho).1
        refine ⟨_, rfl, x, o, rfl, hn.same (Same.trans s2 hP.2), _, hP.1, ?_, ?_, fun b u eb => ?_⟩
        · rw [List.length_map, List.length_take, sizeLine_eq]; omega
        · rw [upd_same]
          rw [take_map_snoc (g := fun o => V.bl (isNm o)) ho]
        · rw [upd_ne (ne_of_none eb n0)] <;> exact hP.2 b u eb
      · refine ⟨D, os.map isNm, rfl, SqL.of ?_, ?_⟩
        · rw [hP.1, List.map_map, paired_len hs, List.take_length] <;> rfl
        · rw [List.all_map]
          rcases hr2 with ⟨hf, rfl⟩ | ⟨hf, xs, ex, rfl⟩
          · rw [show os.all (id ∘ isNm) = false from hf]
            exact ⟨_, rfl, q _ (Same.trans s2 hP.2)⟩
          · rw [show os.all (id ∘ isNm) = true from hf]
            refine ⟨_, rfl, _, rfl, l, xs, rfl, ?_, ?_, fun H3 s3 => q _ ((Same.trans s2 hP.2).trans s3)⟩
            · rw [← ex]
              exact SqL.of (hP.2 _ _ el2)
            · have := congrArg List.length ex
              rw [List.length_map, List.length_map] at this
              omega
end
end K8
/-! _parts, _check_same, _pairs_in. -/
namespace K8
open PySem PySem.Spec PyProof.Rows L2 K0 K1 M46

def spParts (C : Addr) : Sp := fun vs H Q E => ∃ (t g : PySem.Str) (m : Nat), vs = [.str t, .str g, .int (m : Int)] ∧ (g.length == 0) = false ∧ t.length + 2 ≤ sizeLine ∧
  if (Txt.split t g).length = m then ∀ p, H p = none → Q (.ref p) (upd H p (.lst ((Txt.split t g).map V.str))) else ∀ H', Same H H' → E (.ref C) none H'
def spSame (C : Addr) : Sp := fun vs H Q E => ∃ t u : PySem.Str, vs = [.str t, .str u] ∧ if t = u then Q .non H else E (.ref C) none H
/-- one part's two texts -/
def two (g p : PySem.Str) : PySem.Str × PySem.Str := ((Txt.split p g).getD 0 Str.empty, (Txt.split p g).getD 1 Str.empty)
def two? (g p : PySem.Str) : Bool := decide ((Txt.split p g).length = 2)
def fillS (ps : List (PySem.Str × PySem.Str)) : List (PySem.Str × PySem.Str) := ps.foldl (fun ws p => putS ws p.1 p.2) []
theorem fill_snoc (ps : List (PySem.Str × PySem.Str)) (p : PySem.Str × PySem.Str) : fillS (ps ++ [p]) = putS (fillS ps) p.1 p.2 := by unfold fillS; rw [List.foldl_append]; rfl
theorem fill_len : ∀ ps : List (PySem.Str × PySem.Str), (fillS ps).length ≤ ps.length := by
  intro ps
  have : ∀ (ps ws : List (PySem.Str × PySem.Str)), (ps.foldl (fun ws p => putS ws p.1 p.2) ws).length ≤ ws.length + ps.length := by
    intro ps
    induction ps with
    | nil => intro ws; simp
    | cons p r ih =>
      intro ws
      have h1 := ih (putS ws p.1 p.2)
      have h2 := len_put (ws := ws) (k := p.1) (v := p.2)
      simp only [List.foldl_cons, List.length_cons]
      omega
  have h := this ps []
  unfold fillS
  simpa using h
def spPairs (C : Addr) : Sp := fun vs H Q E => ∃ t g : PySem.Str, vs = [.str t, .str g] ∧ (g.length == 0) = false ∧ t.length ≤ 100000 ∧
  if (Txt.split t ", ").all (two? g) = true then ∀ (p : Addr) (H' : Hp), H p = none → Same H H' → H' p = some (.dK (wd (fillS ((Txt.split t ", ").map (two g))))) → Q (.ref p) H' else ∀ H', Same H H' → E (.ref C) none H'
theorem sub_le (t : PySem.Str) (i j : Nat) : (Builtin.Str.strSub t i j).length ≤ t.length := by
  show (t.cps.extract i j).size ≤ t.cps.size
  rw [Array.size_extract]
  omega
theorem split_part_le (t g : PySem.Str) : ∀ p ∈ Txt.split t g, p.length ≤ t.length := fun p hp => by
  unfold Txt.split at hp
  split at hp
  · rw [List.mem_singleton] at hp; rw [hp]; exact Nat.le_refl _
  · split at hp
    · rw [List.mem_singleton] at hp; rw [hp]; exact Nat.le_refl _
    · unfold Builtin.Str.partsBetween at hp
      obtain ⟨⟨i, j⟩, _, rfl⟩ := List.mem_map.mp hp
      exact sub_le t i j
section
variable {P : Program} {w : World} {K : PySem.W.Frag} {mg : PySem.Str → Option Value} {base : Heap}
theorem scParts : FnScope ["text", "sign", "many", "parts"] ["text", "sign", "many"] (defScope sParts) := ⟨rfl, rfl, rfl, by decide +kernel, rfl, by decide +kernel, by decide +kernel⟩
theorem ok_parts {f CP : Addr} {fd : FuncData} (F : Fun K "_parts" "_parts" sParts f fd) (T : Bare mg) (N : ExN K mg "ParseError" CP) : FnOk P w K mg base (L2.CX P w) 1 f fd ["text", "sign", "many"] (spParts CP) := by
  refine F.okX scParts (fun vs H Q E h => ?_) (fun cdv A outer s H vs Q E hr h => ?_)
  · obtain ⟨t, g, m, rfl, _⟩ := h
    rfl
  · obtain ⟨t, g, m, rfl, hg, ht, q⟩ := h
    refine ⟨_, (pss_cons (ps_set (i := 3) scParts.nd rfl (Or.inl rfl) (pe_splitJ (pv 0) (pv 1)))
      (pss_cons (ps_if (pt_cmpR op_ne (pe_callB call_len_seq (by rfl) T.len (by decide +kernel) (pa_cons (pv 3) pa_nil)) (pv 2) (nomark _)) (pss_one (ps_raise rfl (takes_of rfl rfl rfl rfl) (pmk_exm PySem.F.excBase_ValueError N.q N.i N.b N.t N.g N.k (by rfl) pe_str))) pss_nil)
      (pss_one (ps_ret (pv 3))))), ?_⟩
    refine ⟨_, rfl, ⟨_, rfl⟩, _, rfl, t, g, rfl, rfl, hg, ht, fun p np => ?_⟩
    refine ⟨_, rfl, p, _, rfl, .inl (SqL.of upd_same), _, rfl, rfl, _, rfl, ?_⟩
    rw [List.length_map]
    by_cases h : (Txt.split t g).length = m
    · rw [if_pos h] at q
      refine ite2 (fun z => absurd z (by simp [h])) (fun _ => ?_)
      exact ⟨_, rfl, q p np⟩
    · rw [if_neg h] at q
      refine ite2 (fun _ => q _ (sn np)) (fun z => absurd ?_ z)
      simp
      omega
theorem scSame : FnScope ["text", "wanted"] ["text", "wanted"] (defScope sChkS) := ⟨rfl, rfl, rfl, by decide +kernel, rfl, by decide +kernel, by decide +kernel⟩
theorem ok_same {f CP : Addr} {fd : FuncData} (F : Fun K "_check_same" "_check_same" sChkS f fd) (T : Bare mg) (N : ExN K mg "ParseError" CP) : FnOk P w K mg base (L2.CX P w) 1 f fd ["text", "wanted"] (spSame CP) := by
  refine F.okX scSame (fun vs H Q E h => ?_) (fun cdv A outer s H vs Q E hr h => ?_)
  · obtain ⟨t, u, rfl, _⟩ := h
    rfl
  · obtain ⟨t, u, rfl, q⟩ := h
    refine ⟨_, (pss_one (ps_if (pt_cmpR op_ne (pv 0) (pv 1) (nomark _)) (pss_one (ps_raise rfl (takes_of rfl rfl rfl rfl) (pmk_exm PySem.F.excBase_ValueError N.q N.i N.b N.t N.g N.k (by rfl) pe_str))) pss_nil)), ?_⟩
    refine ⟨_, rfl, _, rfl, rfl, _, rfl, ?_⟩
    by_cases h : t = u
    · rw [if_pos h] at q
      refine ite2 (fun z => absurd z (by simp [h])) (fun _ => q)
    · rw [if_neg h] at q
      refine ite2 (fun _ => q) (fun z => absurd ?_ z)
      simp [h]
theorem scPairs : FnScope ["text", "sign", "found", "part", "key", "value"] ["text", "sign"] (defScope sPairs) := ⟨rfl, rfl, rfl, by decide +kernel, rfl, by decide +kernel, by decide +kernel⟩
theorem ok_pairs {f fP CP : Addr} {fd fdP : FuncData} (F : Fun K "_pairs_in" "_pairs_in" sPairs f fd) (T : Bare mg) (N : ExN K mg "ParseError" CP) (FP : Fun K "_parts" "_parts" sParts fP fdP) (bP : Binds K fdP ["text", "sign", "many"] []) (mP : mg "_parts" = some (.ref fP)) : FnOk P w K mg base (L2.CX P w) 2 f fd ["text", "sign"] (spPairs CP) := by
  have GP : FnOk P w K mg base (L2.CX P w) 1 fP fdP ["text", "sign", "many"] (spParts CP) := ok_parts FP T N
  refine F.okX scPairs (fun vs H Q E h => ?_) (fun cdv A outer s H vs Q E hr h => ?_)
  · obtain ⟨t, g, rfl, _⟩ := h
    rfl
  · obtain ⟨t, g, rfl, hg, ht, q⟩ := h
    have hu := hr.units
    refine ⟨_, (pss_cons (ps_set (i := 2) scPairs.nd rfl (Or.inl rfl) pe_dnewK)
      (pss_cons (ps_for (passes_of rfl) rfl (pi_list (pe_splitJ (pv 0) pe_str)) (pg_name (i := 3) scPairs.nd rfl (Or.inl rfl))
        (pss_cons (ps_asg (pe_call (E := E) GP (hr.mono (by decide)) (by rfl) mP FP.kp bP .nil (passes_call (takes_of rfl rfl rfl rfl) fun _ _ _ _ h => h) (pa_cons (pv 3) (pa_cons (pv 1) (pa_cons pe_int pa_nil)))) (pg_lst rfl (pgs_cons (pg_name (i := 4) scPairs.nd rfl (Or.inl rfl)) (pgs_cons (pg_name (i := 5) scPairs.nd rfl (Or.inl rfl)) pgs_nil))))
        (pss_one (ps_asg (pv 5) (pg_sub (pv 2) (pv 4) (set_dict (Nat.lt_of_le_of_lt (Nat.add_le_add_left (show 1 ≤ 64 by decide) _) hu)))))))
      (pss_one (ps_ret (pv 2))))), ?_⟩
    refine fun d nd => ?_
    refine ⟨_, rfl, ⟨_, rfl⟩, t, ", ", rfl, rfl, by decide +kernel, by rw [sizeLine_eq]; omega, fun L nL => ?_⟩
    have hple := split_part_le t ", "
    have hpn : (Txt.split t ", ").length ≤ t.length + 2 := PyProof.Rows.split_le t ", "
    generalize hpc : Txt.split t ", " = pcs at q nL hple hpn ⊢
    have s0 : Same H (upd (upd H d (.dK [])) L (.lst (pcs.map V.str))) := (sn nd).trans (sn nL)
    have dL : d ≠ L := ne_of_none upd_same nL
    have eL : (upd (upd H d (.dK [])) L (.lst (pcs.map V.str))) L = some (.lst (pcs.map V.str)) := upd_same
    have ed : (upd (upd H d (.dK [])) L (.lst (pcs.map V.str))) d = some (.dK (wd (fillS []))) := by rw [upd_ne dL, upd_same]; rfl
    generalize upd (upd H d (.dK [])) L (.lst (pcs.map V.str)) = H1 at s0 eL ed ⊢
    refine ⟨L, rfl, ⟨_, SqL.of eL⟩, for_list (K := K) (a := L) (xs := pcs.map V.str) (fun i σ H' => (∃ v3 v4 v5, σ = [some (.str t), some (.str g), some (.ref d), v3, v4, v5]) ∧ (∀ p ∈ pcs.take i, two? g p = true) ∧ H' d = some (.dK (wd (fillS ((pcs.take i).map (two g))))) ∧ H' L = some (.lst (pcs.map V.str)) ∧ ∀ b o, H b = some o → H' b = some o)
      ⟨⟨_, _, _, rfl⟩, by simp, ed, eL, s0⟩ (fun i σ H' _ hP => SqL.of hP.2.2.2.1) ?_ ?_⟩
    · rintro i x σ H2 hx ⟨⟨v3, v4, v5, rfl⟩, hall, h2, hL2, hk⟩
      rw [List.getElem?_map] at hx
      obtain ⟨p, hp, rfl⟩ : ∃ p, pcs[i]? = some p ∧ V.str p = x := by
        cases e : pcs[i]? with
        | none => rw [e] at hx; cases hx
        | some p => rw [e] at hx; exact ⟨p, rfl, Option.some.inj hx⟩
      have hm := List.mem_of_getElem? hp
      have hpl := hple p hm
      have hi : i < pcs.length := (List.getElem?_eq_some_iff.mp hp).1
      refine ⟨_, rfl, _, rfl, p, g, 2, rfl, hg, by rw [sizeLine_eq]; omega, ?_⟩
      by_cases h : (Txt.split p g).length = 2
      · rw [if_pos h]
        intro r nr
        obtain ⟨a, b, hab⟩ : ∃ a b, Txt.split p g = [a, b] := by
          match hs : Txt.split p g, h with
          | [a, b], _ => exact ⟨a, b, rfl⟩
        have s1 : Same H2 (upd H2 r (.lst ((Txt.split p g).map V.str))) := sn nr
        have hr1 : (upd H2 r (.lst ((Txt.split p g).map V.str))) r = some (.lst [.str a, .str b]) := by rw [upd_same, hab]; rfl
        have h2' := s1 _ _ h2
        have hL2' := s1 _ _ hL2
        generalize upd H2 r (.lst ((Txt.split p g).map V.str)) = H3 at s1 hr1 h2' hL2' ⊢
        refine ⟨r, [.str a, .str b], rfl, SqL.of hr1, rfl, ?_⟩
        have hwl := fill_len ((pcs.take i).map (two g))
        rw [List.length_map, List.length_take] at hwl
        refine ⟨_, _, rfl, _, _, rfl, rfl, _, rfl, _, rfl, _, rfl, d, _, rfl, DPut.k (k := Sum.inr a) h2' (by rw [wd_len, sizeLine_eq]; omega), ?_⟩
        have dl : d ≠ L := ne_of h2' hL2' (by intro z; cases z)
        refine ⟨⟨_, _, _, rfl⟩, fun z hz => ?_, ?_, by rw [upd_ne (Ne.symm dl)]; exact hL2', fun c o e => ?_⟩
        · rw [List.take_add_one, hp, List.mem_append] at hz
          rcases hz with hz | hz
          · exact hall z hz
          · simp at hz
            subst hz
            exact decide_eq_true h
        · rw [upd_same, List.take_add_one, hp, List.map_append, put_wd]
          show _ = some (HO.dK (wd (fillS ((pcs.take i).map (two g) ++ [two g p]))))
          rw [fill_snoc]
          unfold two
          rw [hab]
          rfl
        · have cd : c ≠ d := ne_of_none e nd
          rw [upd_ne cd]
          exact s1 _ _ (hk c o e)
      · rw [if_neg h]
        intro H3 s3
        have hf : pcs.all (two? g) = false := by
          rw [Bool.eq_false_iff]
          intro z
          have := List.all_eq_true.mp z p hm
          exact h (of_decide_eq_true this)
        rw [hf] at q
        exact q H3 (Same.trans hk s3)
    · rintro σ H2 ⟨⟨v3, v4, v5, rfl⟩, hall, h2, hL2, hk⟩
      rw [List.length_map, List.take_length] at hall h2
      have hf : pcs.all (two? g) = true := List.all_eq_true.mpr hall
      rw [hf, if_pos rfl] at q
      exact ⟨_, rfl, q d H2 nd hk h2⟩
end
end K8
/-! format_placing, parse_placing. -/
namespace K8
open PySem PySem.Spec PyProof.Rows L2 K0 K1 M46 TL

def tEnt (t1 t2 t3 : TE) : TE := fun σ H Q => tJs [t1, t2, t3] Str.empty σ H fun out H1 => Q (.str out) H1
theorem pe_ent {X : Cx} {a b c : Expr} {t1 t2 t3 : TE} {pos : Pos} (h : PJ X [a, b, c] [t1, t2, t3]) : PE X (.JoinedStr [a, b, c] pos) (tEnt t1 t2 t3) := pe_joined h
def leS (a b : PySem.Str) : Bool := decide (a.cps.toList ≤ b.cps.toList)
def srt (ks : List PySem.Str) : List PySem.Str := ks.mergeSort leS
theorem srt_perm (ks : List PySem.Str) : (srt ks).Perm ks := List.mergeSort_perm ks leS
theorem leS_trans (a b c : PySem.Str) (h1 : leS a b = true) (h2 : leS b c = true) : leS a c = true := decide_eq_true (List.le_trans (of_decide_eq_true h1) (of_decide_eq_true h2))
theorem leS_total (a b : PySem.Str) : (leS a b || leS b a) = true := by
  unfold leS
  rcases List.le_total a.cps.toList b.cps.toList with h | h
  · rw [decide_eq_true h]; rfl
  · rw [decide_eq_true h, Bool.or_true]
theorem srt_le (ks : List PySem.Str) : (srt ks).Pairwise fun a b => a.cps.toList ≤ b.cps.toList := by
  have h : (srt ks).Pairwise fun a b => leS a b = true := List.pairwise_mergeSort leS_trans leS_total ks
  exact h.imp fun h => of_decide_eq_true h
theorem srt_eq {ys ks : List PySem.Str} (hp : ys.Perm ks) (hs : sortedS ys = true) : ys = srt ks := sorted_eq (sorted_le hs) (srt_le ks) (hp.trans (srt_perm ks).symm)
def entP (k v : PySem.Str) : PySem.Str := k ++ " = " ++ v
/-- the text of a placing -/
def plTxt (D : List (PySem.Str × PySem.Str)) : PySem.Str := Txt.join ", " ((srt (D.map (·.1))).map fun k => entP k (gw D Str.empty k))
theorem tx_wd (D : List (PySem.Str × PySem.Str)) : tx D = (wd D).map fun kv => (kV kv.1, kv.2) := by
  unfold tx wd
  rw [List.map_map]
  rfl
theorem dv_wd {H : Hp} {d : Addr} {D : List (PySem.Str × PySem.Str)} (h : H d = some (.dK (wd D))) : DV H d (tx D) := .inl ⟨wd D, .inl h, tx_wd D⟩
def spFmtPl (K : PySem.W.Frag) (C : Addr) : Sp := fun vs H Q E => ∃ v : V, vs = [v] ∧ ((Pv K H v false ∧ ∀ H', Same H H' → E (.ref C) none H') ∨
  ∃ (d : Addr) (D : List (PySem.Str × PySem.Str)), v = .ref d ∧ H d = some (.dK (wd D)) ∧ plB D = true ∧ (∀ p ∈ D, p.1.length ≤ 1000 ∧ p.2.length ≤ 1000) ∧ ∀ H', Same H H' → Q (.str (plTxt D)) H')
theorem plB_len {D : List (PySem.Str × PySem.Str)} (h : plB D = true) : 1 ≤ D.length ∧ D.length ≤ 5 ∧ (D.map (·.1) ++ D.map (·.2)).all nm = true ∧ (D.map (·.2)).Nodup := by
  unfold plB at h
  simp only [Bool.and_eq_true, decide_eq_true_eq] at h
  exact ⟨h.1.1.1, h.1.1.2, h.1.2, h.2⟩
section
variable {P : Program} {w : World} {K : PySem.W.Frag} {mg : PySem.Str → Option Value} {base : Heap}
theorem scFmtPl : FnScope ["placing", "name"] ["placing"] (defScope sFmtPl) := ⟨rfl, rfl, rfl, by decide +kernel, rfl, by decide +kernel, by decide +kernel⟩
theorem ok_fmt_pl {f fI CO : Addr} {fd fdI : FuncData} (F : Fun K "format_placing" "format_placing" sFmtPl f fd) (T : Bare mg) (N : ExN K mg "InvalidOperation" CO)
    (kI : PySem.W.keepIn K (.ref fI) = true) (bI : Binds K fdI ["value"] []) (mI : mg "_is_placing" = some (.ref fI)) (GI : FnOk P w K mg base CX0 2 fI fdI ["value"] (spIsPl K)) : FnOk P w K mg base (L2.CX P w) 3 f fd ["placing"] (spFmtPl K CO) := by
  refine F.okX scFmtPl (fun vs H Q E h => ?_) (fun cdv A outer s H vs Q E hr h => ?_)
  · obtain ⟨v, rfl, _⟩ := h
    rfl
  · obtain ⟨v, rfl, h⟩ := h
    have hu := hr.units
    refine ⟨_, (pss_cons (ps_if (pt_not (pt_val (pe_call GI (hr.mono (by decide)) (by rfl) mI kI bI .nil pass0 (pa_cons (pv 0) pa_nil)))) (pss_one (ps_raise rfl (takes_of rfl rfl rfl rfl) (pmk_exm PySem.F.excBase_ValueError N.q N.i N.b N.t N.g N.k (by rfl) pe_str))) pss_nil)
      (pss_one (ps_ret (pe_joinJ pe_str
        (pe_lc (own := [("name", 1)]) (g := gName 1) (tt := tYes) (te := tEnt (tFmt (tVar 1)) (tC (.str " = ")) (tFmt (tDGet (tVar 0) (tVar 1)))) rfl scFmtPl.nd (pi_list (pe_callB (R0.call_sortedD rfl) (by rfl) T.sorted (by decide +kernel) (pa_cons (pv 0) pa_nil))) (blkOk_by (own := [("name", 1)]) (N := ["placing", "name"]) (sc := defScope sFmtPl) (by decide +kernel)) (fun _ _ _ _ _ => pg_name (i := 1) scFmtPl.nd rfl (Or.inl rfl)) (fun _ _ _ _ _ => pts_nil) (fun _ _ _ _ _ => by exact (pe_ent (.cons (pe_fmt (pv 1)) (.cons pe_str (.cons (pe_fmt (pe_dget (Nat.lt_of_le_of_lt (Nat.add_le_add_left (show 1 ≤ 64 by decide) _) hu) (pv 0) (pv 1) (fun _ _ => rfl))) .nil)))))))))), ?_⟩
    rcases h with ⟨hp, e⟩ | ⟨d, D, rfl, hd, hp, hsz, q⟩
    · exact ⟨_, rfl, v, false, rfl, hp, fun H1 s1 => ⟨_, rfl, e H1 s1⟩⟩
    · obtain ⟨h1, h5, hn, hv⟩ := plB_len hp
      have pv0 := Pv.texts (K := K) (dv_wd hd) (by omega) hsz
      rw [hp] at pv0
      refine ⟨_, rfl, _, true, rfl, pv0, fun H1 s1 => ⟨_, rfl, ⟨_, rfl⟩, _, rfl, d, D, rfl, .inl (s1 _ _ hd), by omega, fun ys L hperm hsrt nL => ?_⟩⟩
      have ey := srt_eq hperm hsrt
      have s2 : Same H _ := s1.trans (sn (o := .lst (ys.map V.str)) nL)
      have eL : (upd H1 L (.lst (ys.map V.str))) L = some (.lst (ys.map V.str)) := upd_same
      generalize upd H1 L (.lst (ys.map V.str)) = H2 at s2 eL ⊢
      refine ⟨L, rfl, ⟨_, SqL.of eL⟩, fun R nR => ?_⟩
      have sR : ∀ o, Same H2 (upd H2 R o) := fun o => sn nR
      have hyl := hperm.length_eq
      rw [List.length_map] at hyl
      have small : ∀ y ∈ ys, y.length ≤ 1000 ∧ (gw D Str.empty y).length ≤ 1000 ∧ D.lookup y = some (gw D Str.empty y) := fun y hy => by
        have hm : y ∈ D.map (·.1) := hperm.mem_iff.mp hy
        have h2 := mem_of_gw (r := Str.empty) hm
        exact ⟨(hsz _ h2).1, (hsz _ h2).2, look_mem hm⟩
      have hent : ∀ y ∈ ys, (entP y (gw D Str.empty y)).length ≤ 2003 := fun y hy => by
        have := small y hy
        have e3 : (" = " : PySem.Str).length = 3 := by decide +kernel
        unfold entP
        rw [Str.length_append, Str.length_append]
        omega
      refine lc_list (K := K) (a := L) (xs := ys.map V.str) (fun i H' => H' R = some (.lst (((ys.take i).map fun y => entP y (gw D Str.empty y)).map V.str)) ∧ ∀ b u, H2 b = some u → H' b = some u) ⟨upd_same, sR _⟩ (fun i H' _ hP => SqL.of (hP.2 _ _ eL)) (fun i x H' hx hP => ⟨rfl, ?_⟩) (fun H' hP => ?_)
      · rw [List.getElem?_map] at hx
        obtain ⟨y, hy, rfl⟩ : ∃ y, ys[i]? = some y ∧ V.str y = x := by
          cases e : ys[i]? with
          | none => rw [e] at hx; cases hx
          | some p => rw [e] at hx; exact ⟨p, rfl, Option.some.inj hx⟩
        have hm := List.mem_of_getElem? hy
        have hi : i < ys.length := (List.getElem?_eq_some_iff.mp hy).1
        obtain ⟨l1, l2, lk⟩ := small y hm
        have e3 : (" = " : PySem.Str).length = 3 := by decide +kernel
        have e0 : (Str.empty : PySem.Str).length = 0 := rfl
        have ea : Str.empty ++ y = y := by obtain ⟨c⟩ := y; show (⟨#[] ++ c⟩ : PySem.Str) = ⟨c⟩; rw [Array.empty_append]
        have la : (Str.empty ++ y).length = y.length := by rw [ea]
        have lb : (Str.empty ++ y ++ (" = " : PySem.Str)).length = y.length + 3 := by rw [ea, Str.length_append, e3]
        have hz : (3000 : Nat) ≤ sizeLine := by rw [sizeLine_eq]; omega
        refine ⟨_, rfl, .inl ⟨y, rfl, by omega, y, rfl, by omega, _, rfl, by omega, _, rfl, _, rfl, d, .str (gw D Str.empty y), rfl, ?_, .inl ⟨_, rfl, by omega, _, rfl, ?_, ?_⟩⟩⟩
        · have z := DGet.k (k := Sum.inr y) (hP.2 _ _ (s2 _ _ hd))
          rw [val_mem (r := Str.empty) (hperm.mem_iff.mp hm)] at z
          exact z
        · rw [Str.length_append, lb]; omega
        · refine ⟨_, hP.1, ?_, ?_, fun c u ec => ?_⟩
          · rw [List.length_map, List.length_map, List.length_take]; omega
          · rw [upd_same, ea]
            rw [List.take_add_one, hy, List.map_append, List.map_append]
            rfl
          · rw [upd_ne (ne_of_none ec nR)]
            exact hP.2 c u ec
      · rw [List.length_map, List.take_length] at hP
        refine ⟨_, R, ys.map fun y => entP y (gw D Str.empty y), rfl, rfl, .inl (SqL.of hP.1), ?_, ?_⟩
        · have b1 := join_le (y := ", ") (n := 2003) (ps := ys.map fun y => entP y (gw D Str.empty y)) fun p hp => by
            obtain ⟨y, hm, rfl⟩ := List.mem_map.mp hp
            exact hent y hm
          have e2 : (", " : PySem.Str).length = 2 := by decide +kernel
          rw [e2] at b1 ⊢
          rw [List.length_map] at b1 ⊢
          have : ys.length * (2003 + 2) ≤ 5 * (2003 + 2) := Nat.mul_le_mul_right _ (by omega)
          omega
        · rw [ey]
          exact q _ (Same.trans s2 hP.2)
end
end K8
/-! parse_placing. -/
namespace K8
open PySem PySem.Spec PyProof.Rows L2 K0 K1 M46 TL

def parsePl (t : PySem.Str) : Option (List (PySem.Str × PySem.Str)) :=
  if (Txt.split t ", ").all (two? " = ") = true then
    if plB (fillS ((Txt.split t ", ").map (two " = "))) = true ∧ t = plTxt (fillS ((Txt.split t ", ").map (two " = "))) then some (fillS ((Txt.split t ", ").map (two " = "))) else none
  else none
def spParPl (C : Addr) : Sp := fun vs H Q E => ∃ t : PySem.Str, vs = [.str t] ∧ t.length ≤ 900 ∧ match parsePl t with
  | some D => ∀ (p : Addr) (H' : Hp), H p = none → Same H H' → H' p = some (.dK (wd D)) → Q (.ref p) H'
  | none => ∀ H', Same H H' → E (.ref C) none H'
theorem put_all {q : PySem.Str → Prop} {ws : List (PySem.Str × PySem.Str)} {k v : PySem.Str} (h : ∀ p ∈ ws, q p.1 ∧ q p.2) (hk : q k) (hv : q v) : ∀ p ∈ putS ws k v, q p.1 ∧ q p.2 := by
  intro p hp
  unfold putS at hp
  split at hp
  · obtain ⟨x, hx, rfl⟩ := List.mem_map.mp hp
    split
    · exact ⟨(h x hx).1, hv⟩
    · exact h x hx
  · rw [List.mem_append, List.mem_singleton] at hp
    rcases hp with hp | rfl
    · exact h p hp
    · exact ⟨hk, hv⟩
theorem fill_all {q : PySem.Str → Prop} {ps : List (PySem.Str × PySem.Str)} (h : ∀ p ∈ ps, q p.1 ∧ q p.2) : ∀ p ∈ fillS ps, q p.1 ∧ q p.2 := by
  have : ∀ (ps ws : List (PySem.Str × PySem.Str)), (∀ p ∈ ws, q p.1 ∧ q p.2) → (∀ p ∈ ps, q p.1 ∧ q p.2) → ∀ p ∈ ps.foldl (fun ws p => putS ws p.1 p.2) ws, q p.1 ∧ q p.2 := by
    intro ps
    induction ps with
    | nil => intro ws hw _; exact hw
    | cons p r ih =>
      intro ws hw hp
      have h0 := hp p (List.mem_cons_self ..)
      exact ih _ (put_all hw h0.1 h0.2) fun x hx => hp x (List.mem_cons_of_mem _ hx)
  exact this ps [] (fun _ h => nomatch h) h
theorem getD_le {l : List PySem.Str} {n i : Nat} (h : ∀ p ∈ l, p.length ≤ n) : (l.getD i Str.empty).length ≤ n := by
  rw [List.getD_eq_getElem?_getD]
  cases e : l[i]? with
  | none => exact Nat.zero_le _
  | some x => exact h x (List.mem_of_getElem? e)
theorem fill_len_le {t : PySem.Str} {n : Nat} (h : t.length ≤ n) : ∀ p ∈ fillS ((Txt.split t ", ").map (two " = ")), p.1.length ≤ n ∧ p.2.length ≤ n := by
  refine fill_all (q := fun x => x.length ≤ n) fun p hp => ?_
  obtain ⟨x, hx, rfl⟩ := List.mem_map.mp hp
  have hxl := Nat.le_trans (split_part_le t ", " x hx) h
  have := fun y hy => Nat.le_trans (split_part_le x " = " y hy) hxl
  exact ⟨getD_le this, getD_le this⟩
section
variable {P : Program} {w : World} {K : PySem.W.Frag} {mg : PySem.Str → Option Value} {base : Heap}
theorem scParPl : FnScope ["text", "placing"] ["text"] (defScope sParPl) := ⟨rfl, rfl, rfl, by decide +kernel, rfl, by decide +kernel, by decide +kernel⟩
theorem ok_par_pl {f fC fP fI fF fS CP CO : Addr} {fd fdC fdP fdI fdF fdS : FuncData} (F : Fun K "parse_placing" "parse_placing" sParPl f fd) (T : Bare mg) (N : ExN K mg "ParseError" CP)
    (kC : PySem.W.keepIn K (.ref fC) = true) (bC : Binds K fdC ["text"] []) (mC : mg "_check_text" = some (.ref fC)) (GC : FnOk P w K mg base (L2.CX P w) 1 fC fdC ["text"] spChkT)
    (kP : PySem.W.keepIn K (.ref fP) = true) (bP : Binds K fdP ["text", "sign"] []) (mP : mg "_pairs_in" = some (.ref fP)) (GP : FnOk P w K mg base (L2.CX P w) 2 fP fdP ["text", "sign"] (spPairs CP))
    (kI : PySem.W.keepIn K (.ref fI) = true) (bI : Binds K fdI ["value"] []) (mI : mg "_is_placing" = some (.ref fI)) (GI : FnOk P w K mg base CX0 2 fI fdI ["value"] (spIsPl K))
    (kF : PySem.W.keepIn K (.ref fF) = true) (bF : Binds K fdF ["placing"] []) (mF : mg "format_placing" = some (.ref fF)) (GF : FnOk P w K mg base (L2.CX P w) 3 fF fdF ["placing"] (spFmtPl K CO))
    (kS : PySem.W.keepIn K (.ref fS) = true) (bS : Binds K fdS ["text", "wanted"] []) (mS : mg "_check_same" = some (.ref fS)) (GS : FnOk P w K mg base (L2.CX P w) 1 fS fdS ["text", "wanted"] (spSame CP)) : FnOk P w K mg base (L2.CX P w) 4 f fd ["text"] (spParPl CP) := by
  refine F.okX scParPl (fun vs H Q E h => ?_) (fun cdv A outer s H vs Q E hr h => ?_)
  · obtain ⟨t, rfl, _⟩ := h
    rfl
  · obtain ⟨t, rfl, ht, q⟩ := h
    refine ⟨_, (pss_cons (ps_expr (pe_call (E := E) GC (hr.mono (by decide)) (by rfl) mC kC bC .nil (passes_call (takes_of rfl rfl rfl rfl) fun _ _ _ _ h => h) (pa_cons (pv 0) pa_nil)))
      (pss_cons (ps_set (i := 1) scParPl.nd rfl (Or.inl rfl) (pe_call (E := E) GP (hr.mono (by decide)) (by rfl) mP kP bP .nil (passes_call (takes_of rfl rfl rfl rfl) fun _ _ _ _ h => h) (pa_cons (pv 0) (pa_cons pe_str pa_nil))))
      (pss_cons (ps_if (pt_not (pt_val (pe_call GI (hr.mono (by decide)) (by rfl) mI kI bI .nil pass0 (pa_cons (pv 1) pa_nil)))) (pss_one (ps_raise rfl (takes_of rfl rfl rfl rfl) (pmk_exm PySem.F.excBase_ValueError N.q N.i N.b N.t N.g N.k (by rfl) pe_str))) pss_nil)
      (pss_cons (ps_expr (pe_call (E := E) GS (hr.mono (by decide)) (by rfl) mS kS bS .nil (passes_call (takes_of rfl rfl rfl rfl) fun _ _ _ _ h => h) (pa_cons (pv 0) (pa_cons (pe_call (E := E) GF (hr.mono (by decide)) (by rfl) mF kF bF .nil (passes_call (takes_of rfl rfl rfl rfl) fun _ _ _ _ h => h) (pa_cons (pv 1) pa_nil)) pa_nil))))
      (pss_one (ps_ret (pv 1))))))), ?_⟩
    refine ⟨_, rfl, t, rfl, _, rfl, t, " = ", rfl, by decide +kernel, by omega, ?_⟩
    have hfl := fill_len_le (n := 1000) (by omega : t.length ≤ 1000)
    have hfz := fill_len ((Txt.split t ", ").map (two " = "))
    have hpn : (Txt.split t ", ").length ≤ t.length + 2 := PyProof.Rows.split_le t ", "
    rw [List.length_map] at hfz
    unfold parsePl at q
    by_cases h : (Txt.split t ", ").all (two? " = ") = true
    · rw [if_pos h] at q ⊢
      intro p H1 np s1 hp
      generalize fillS ((Txt.split t ", ").map (two " = ")) = D at q hp hfl hfz
      have hz : D.length ≤ 1000 := by omega
      have pv0 := Pv.texts (K := K) (dv_wd hp) hz hfl
      refine ⟨_, rfl, _, _, rfl, pv0, fun H2 s2 => ⟨_, rfl, ?_⟩⟩
      cases hb : plB D with
      | false =>
        rw [hb, if_neg (fun z => by cases z.1)] at q
        exact q _ (s1.trans s2)
      | true =>
        refine ⟨_, rfl, _, rfl, _, rfl, .inr ⟨p, D, rfl, s2 _ _ hp, hb, hfl, fun H3 s3 => ?_⟩⟩
        refine ⟨t, plTxt D, rfl, ?_⟩
        by_cases ht2 : t = plTxt D
        · rw [if_pos ⟨hb, ht2⟩] at q
          rw [if_pos ht2]
          exact ⟨_, rfl, q p H3 np ((s1.trans s2).trans s3) (s3 _ _ (s2 _ _ hp))⟩
        · rw [if_neg (fun z => ht2 z.2)] at q
          rw [if_neg ht2]
          exact q _ ((s1.trans s2).trans s3)
    · rw [if_neg h] at q ⊢
      exact q
end
end K8
/-! The kinds drawn. -/
namespace K8
open PySem PySem.Spec PyProof.Rows L2 K0 K1 M46

/-- the kind drawn at place i -/
def Wn (i n : Nat) (k : S) : Prop := ∃ (c : Nat) (r : List Nat), k.cps.toList = c :: r ∧ 97 + 3 * i ≤ c ∧ c < 100 + 3 * i ∧ c ≤ 122 ∧ r.length ≤ n ∧ ∀ d ∈ r, low d = true
def Kinds (ks : List S) : Prop := ks.length ≤ 8 ∧ ∀ i k, ks[i]? = some k → Wn i 2 k
theorem wn_nm {i n : Nat} {k : S} (h : Wn i n k) (hn : n ≤ 2) : nm k = true ∧ k.length ≤ 3 := by
  obtain ⟨c, r, e, h1, h2, h3, h4, h5⟩ := h
  have hl : k.length = r.length + 1 := by
    show k.cps.size = _
    rw [← Array.length_toList, e, List.length_cons]
  refine ⟨?_, by omega⟩
  unfold nm
  rw [decide_eq_true (show 1 ≤ k.length by omega), decide_eq_true (show k.length ≤ 8 by omega), e, List.all_cons]
  have hc : low c = true := by unfold low; simp; omega
  rw [hc]
  simpa using h5
theorem kinds_nodup : ∀ {ks : List S}, (∀ i k, ks[i]? = some k → Wn i 2 k) → ks.Nodup := by
  intro ks h
  show ks.Pairwise (· ≠ ·)
  rw [List.pairwise_iff_getElem]
  intro i j hi hj hij e
  obtain ⟨c, r, e1, a1, a2, _⟩ := h i ks[i] (List.getElem?_eq_getElem hi)
  obtain ⟨c', r', e2, b1, b2, _⟩ := h j ks[j] (List.getElem?_eq_getElem hj)
  rw [e, e2] at e1
  injection e1 with e3 _
  omega
def spNames : Sp := fun vs H Q _ => ∃ (p : Addr) (x y z : Int) (m : Nat), vs = [.ref p, .int (m : Int)] ∧ Dice H p x y z ∧ m ≤ 8 ∧
  ∀ (q : Addr) (ks : List S) (x' z' : Int) (H' : Hp), Dice H' p x' y z' → (∀ b o, b ≠ p → H b = some o → H' b = some o) → H q = none → H' q = some (.lst (ks.map V.str)) → ks.length = m → Kinds ks → Q (.ref q) H'
theorem alpha_at {i : Nat} (h : i < 26) : alpha.cps.toList[i]? = some (97 + i) := by
  rw [alpha_list, List.getElem?_map, List.getElem?_range h]
  rfl
theorem alpha_len : alpha.length = 26 := by decide +kernel
theorem five_at : ∀ (j : Nat) (v : V), ([.int 0, .int 0, .int 0, .int 1, .int 2] : List V)[j]? = some v → ∃ m : Nat, v = .int (m : Int) ∧ m ≤ 2 := fun j v hv => match j, hv with
  | 0, hv => by cases hv; exact ⟨0, rfl, by decide⟩
  | 1, hv => by cases hv; exact ⟨0, rfl, by decide⟩
  | 2, hv => by cases hv; exact ⟨0, rfl, by decide⟩
  | 3, hv => by cases hv; exact ⟨1, rfl, by decide⟩
  | 4, hv => by cases hv; exact ⟨2, rfl, by decide⟩
  | j + 5, hv => by simp at hv
abbrev nNames : List S := ["_law_dice_here", "_law_total", "_law_alphabet", "_law_found", "_law_at", "_law_word", "_law_turn"]
section
variable {P : Program} {w : World} {K : PySem.W.Frag} {mg : PySem.Str → Option Value} {base : Heap}
theorem scNames : FnScope nNames ["_law_dice_here", "_law_total"] (defScope sNames) := ⟨rfl, rfl, rfl, by decide +kernel, rfl, by decide +kernel, by decide +kernel⟩
theorem ok_names {f fU : Addr} {fd fdU : FuncData} (F : Fun K "_law_names" "_law_names" sNames f fd) (T : Bare mg) (FU : Fun K "_law_pull" "_law_pull" sPull fU fdU) (bU : Binds K fdU ["_law_dice_here", "_law_total"] []) (mU : mg "_law_pull" = some (.ref fU)) : FnOk P w K mg base CX0 2 f fd ["_law_dice_here", "_law_total"] spNames := by
  have GU : FnOk P w K mg base CX0 1 fU fdU ["_law_dice_here", "_law_total"] spPull := ok_pull FU T
  refine F.ok scNames (fun vs H Q E h => ?_) (fun cdv A outer s H vs Q E hr h => ?_)
  · obtain ⟨p, x, y, z, m, rfl, _⟩ := h
    rfl
  · obtain ⟨p, x, y, z, m, rfl, D, hm, q⟩ := h
    have hr1 : Room 1 _ := hr
    refine ⟨_, (pss_cons (ps_par (i := 2) (j := 3) rfl scNames.nd rfl rfl (by decide) rfl rfl (pa_cons pe_str (pa_cons (pe_lst pa_nil) pa_nil)) (by rfl))
      (pss_cons (ps_for PassesOwn.never rfl (pi_range1 (by rfl) T.rng (pa_cons (pv 1) pa_nil)) (pg_name (i := 4) scNames.nd rfl (Or.inl rfl)) (pss_cons (ps_set (i := 5) scNames.nd rfl (Or.inl rfl) (pe_ix ix_str (pv 2) (pe_op op_add (pe_op op_mul pe_int (pv 4)) (pe_call GU hr1 (by rfl) mU FU.kp bU .nil pass0 (pa_cons (pv 0) (pa_cons pe_int pa_nil)))) (fun _ _ => rfl)))
      (pss_cons (ps_for PassesOwn.never rfl (pi_range1 (by rfl) T.rng (pa_cons (pe_ix ix_list (pe_lst (pa_cons pe_int (pa_cons pe_int (pa_cons pe_int (pa_cons pe_int (pa_cons pe_int pa_nil)))))) (pe_call GU hr1 (by rfl) mU FU.kp bU .nil pass0 (pa_cons (pv 0) (pa_cons pe_int pa_nil))) (fun _ _ => rfl)) pa_nil)) (pg_name (i := 6) scNames.nd rfl (Or.inl rfl)) (pss_one (ps_set (i := 5) scNames.nd rfl (Or.inl rfl) (pe_op op_add_str (pv 5) (pe_ix ix_str (pv 2) (pe_call GU hr1 (by rfl) mU FU.kp bU .nil pass0 (pa_cons (pv 0) (pa_cons pe_int pa_nil))) (fun _ _ => rfl))))))
      (pss_one (ps_expr (pe_bm PySem.F.plainAttrs_list PySem.F.slot_list_append PySem.F.type_list_append mt_append (pv 3) (pa_cons (pv 5) pa_nil)))))))
      (pss_one (ps_ret (pv 3))))), ?_⟩
    refine ⟨Nat.zero_le _, fun l hl => ⟨_, _, rfl, ?_⟩⟩
    have npl : p ≠ l := ne_of_none D.at_ hl
    refine ⟨_, rfl, (m : Int), rfl, by omega, by omega, for_range (n := m) (fun i σ G => ∃ (ks : List S) (x' z' : Int) (v4 v5 v6 : Option V), σ = [some (.ref p), some (.int (m : Int)), some (.str alpha), some (.ref l), v4, v5, v6] ∧ G l = some (.lst (ks.map V.str)) ∧ ks.length = i ∧ (∀ j k, ks[j]? = some k → Wn j 2 k) ∧ Dice G p x' y z' ∧ ∀ b o, b ≠ p → H b = some o → G b = some o)
      ⟨[], x, z, none, none, none, rfl, upd_same, rfl, fun j k e => by simp at e, D.upd hl, fun b o hb e => by rw [upd_ne (ne_of_none e hl)]; exact e⟩ ?_ ?_⟩
    · rintro i σ G hi ⟨ks, x1, z1, v4, v5, v6, rfl, hG, hks, hW, D1, s1⟩
      refine ⟨_, rfl, _, rfl, _, _, rfl, rfl, .inl ⟨by decide, by decide⟩, _, rfl, p, x1, y, z1, 3, rfl, D1, by decide, by decide, fun r x2 z2 G2 r0 r1 D2 hz2 s2 => ?_⟩
      obtain ⟨rn, rfl⟩ : ∃ rn : Nat, r = (rn : Int) := ⟨r.toNat, by omega⟩
      have ei : (3 * (0 + (i : Int)) + (rn : Int) : Int) = ((3 * i + rn : Nat) : Int) := by omega
      have hal := alpha_len
      refine ⟨_, _, rfl, rfl, alpha, _, 97 + (3 * i + rn), rfl, rfl, by rw [hal, sizeLine_eq]; decide, (by rw [ei]; exact atI_nat (alpha_at (by omega))), ?_⟩
      have hG2 := s2 _ _ npl.symm hG
      refine ⟨by rw [sizeLine_eq]; decide, fun u hu => ?_⟩
      have npu : p ≠ u := ne_of_none D2.at_ hu
      have nlu : l ≠ u := ne_of_none hG2 hu
      refine ⟨_, rfl, p, x2, y, z2, 5, rfl, D2.upd hu, by decide, by decide, fun r2 x3 z3 G3 a0 a1 D3 hz3 s3 => ?_⟩
      obtain ⟨an, rfl⟩ : ∃ an : Nat, r2 = (an : Int) := ⟨r2.toNat, by omega⟩
      have hu3 := s3 u _ npu.symm upd_same
      obtain ⟨v, hv⟩ : ∃ v, ([.int 0, .int 0, .int 0, .int 1, .int 2] : List V)[an]? = some v := ⟨_, List.getElem?_eq_getElem (by show an < 5; omega)⟩
      obtain ⟨m2, rfl, hm2⟩ := five_at an v hv
      refine ⟨u, _, _, .int (m2 : Int), rfl, rfl, SqL.of hu3, atI_nat hv, (m2 : Int), rfl, by omega, by omega, ?_⟩
      have sG : ∀ b o, b ≠ p → H b = some o → G3 b = some o := fun b o hb e => s3 b o hb (by rw [upd_ne (ne_of_none (s2 b o hb (s1 b o hb e)) hu)]; exact s2 b o hb (s1 b o hb e))
      have hG3 : G3 l = some (.lst (ks.map V.str)) := s3 l _ npl.symm (by rw [upd_ne nlu]; exact hG2)
      refine for_range (n := m2) (fun j σ G => ∃ (k : S) (x' z' : Int) (v6 : Option V), σ = [some (.ref p), some (.int (m : Int)), some (.str alpha), some (.ref l), some (.int (0 + (i : Int))), some (.str k), v6] ∧ Wn i j k ∧ G l = some (.lst (ks.map V.str)) ∧ Dice G p x' y z' ∧ ∀ b o, b ≠ p → H b = some o → G b = some o)
        ⟨⟨#[97 + (3 * i + rn)]⟩, x3, z3, v6, rfl, ⟨_, [], rfl, by omega, by omega, by omega, Nat.zero_le _, fun d h => by cases h⟩, hG3, D3, sG⟩ ?_ ?_
      · rintro j σ G4 hj ⟨k, x4, z4, w6, rfl, ⟨c, rs, e, c1, c2, c3, c4, c5⟩, hG4, D4, s4⟩
        have hkl : k.length = rs.length + 1 := by
          show k.cps.size = _
          rw [← Array.length_toList, e, List.length_cons]
        refine ⟨_, rfl, _, rfl, _, rfl, p, x4, y, z4, 26, rfl, D4, by decide, by decide, fun r4 x5 z5 G5 d0 d1 D5 hz5 s5 => ?_⟩
        obtain ⟨dn, rfl⟩ : ∃ dn : Nat, r4 = (dn : Int) := ⟨r4.toNat, by omega⟩
        refine ⟨alpha, _, 97 + dn, rfl, rfl, by rw [hal, sizeLine_eq]; decide, atI_nat (alpha_at (by omega)), _, _, rfl, rfl, ?_, ?_⟩
        · rw [hkl, sizeLine_eq]
          show rs.length + 1 + 1 ≤ _
          omega
        · refine ⟨k ++ ⟨#[97 + dn]⟩, x5, z5, _, rfl, ⟨c, rs ++ [97 + dn], ?_, c1, c2, c3, by rw [List.length_append, List.length_singleton]; omega, fun d hd => ?_⟩, s5 _ _ npl.symm hG4, D5, fun b o hb eb => s5 b o hb (s4 b o hb eb)⟩
          · show (k.cps ++ #[97 + dn]).toList = _
            rw [Array.toList_append, e]
            rfl
          · rcases List.mem_append.mp hd with hd | hd
            · exact c5 d hd
            · rw [List.mem_singleton.mp hd]
              unfold low
              simp
              omega
      · rintro σ G4 ⟨k, x4, z4, w6, rfl, hW4, hG4, D4, s4⟩
        have hks5 : ks.length ≤ 8 := by omega
        refine ⟨_, rfl, .inl ⟨rfl, _, SqL.of hG4⟩, _, rfl, l, _, _, rfl, rfl, hG4, by rw [List.length_map, sizeLine_eq]; omega, ?_⟩
        refine ⟨ks ++ [k], x4, z4, _, _, _, rfl, upd_same.trans (by rw [List.map_append]; rfl), by rw [List.length_append, List.length_singleton, hks], fun j k' hj => ?_, ⟨by rw [upd_ne npl]; exact D4.at_, D4.x0, D4.x1, D4.y0, D4.y1, D4.z0⟩, fun b o hb eb => by rw [upd_ne (ne_of_none eb hl)]; exact s4 b o hb eb⟩
        by_cases hjl : j < ks.length
        · rw [List.getElem?_append_left hjl] at hj
          exact hW j k' hj
        · rw [List.getElem?_append_right (by omega)] at hj
          have hj0 : j - ks.length = 0 := by
            cases h : j - ks.length with
            | zero => rfl
            | succ n => rw [h] at hj; simp at hj
          rw [hj0] at hj
          obtain rfl : k = k' := by simpa using hj
          have : j = i := by omega
          subst this
          obtain ⟨c, rs, e, c1, c2, c3, c4, c5⟩ := hW4
          exact ⟨c, rs, e, c1, c2, c3, by omega, c5⟩
    · rintro σ G ⟨ks, x1, z1, v4, v5, v6, rfl, hG, hks, hW, D1, s1⟩
      exact ⟨_, rfl, q l ks x1 z1 G D1 s1 hl hG hks ⟨by omega, hW⟩⟩
end
end K8
/-! Data written out: what a display of such data reads as; which of them are steps. -/
namespace K8
open PySem PySem.Spec PyProof.Rows L2 K0 K1 M46

section
variable {X : Cx}
theorem op_nine : OpR X (binaryOp .Mult) (fun x y H Q => x = .str "a" ∧ y = .int 9 ∧ Q (.str "aaaaaaaaa") H) := by
  intro pins s σ H x y v u Q I rx ry h
  obtain ⟨rfl, rfl, q⟩ := h
  obtain ⟨t, rfl⟩ := rx
  obtain ⟨t', rfl⟩ := ry
  have h1 : ("a" : PySem.Str).length = 1 := by decide +kernel
  refine PySem.P.mul_str (by decide) (fun a b => ?_) (fun a b => ?_) ?_
  · decide +kernel
  · refine decide_eq_false ?_
    rw [sizeLine_eq, h1]; decide
  · rw [if_neg (by decide), if_neg (by decide)]
    refine ⟨?_, ?_⟩
    · rw [sizeLine_eq]; decide +kernel
    · exact ⟨.str "aaaaaaaaa", H, I.tok _, ⟨s.toks, by rw [show (⟨List.foldl (fun x1 x2 => x1 ++ x2) #[] (List.replicate (Int.toNat 9) (Str.ofString "a").cps)⟩ : PySem.Str) = "aaaaaaaaa" by decide +kernel]⟩, q⟩
end
theorem tyx_tup {K : PySem.W.Frag} {H : Hp} {a : Addr} {xs : List V} (h : SqT K H a xs) : TyX K H (.ref a) (.type "tuple") := by
  rcases h with (h | ⟨o, h⟩) | ⟨o, its, n, h1, h2, _⟩
  · exact .base (.tup h)
  · exact .fTuple h
  · exact .kTuple h1 h2
theorem tyx_lst {K : PySem.W.Frag} {H : Hp} {a : Addr} {xs : List V} (h : SqL K H a xs) : TyX K H (.ref a) (.type "list") := by
  rcases h with (h | ⟨o, h⟩) | ⟨o, its, n, h1, h2, _⟩
  · exact .base (.lst h)
  · exact .base (.frz h)
  · exact .kList h1 h2
/-- what a reading keeps -/
def Kept (Pre : L2.St → Hp → Prop) : Prop := ∀ σ H H', Pre σ H → Same H H' → Pre σ H'
/-- a new value that reads as these data -/
def tDat (K : PySem.W.Frag) (Pre : L2.St → Hp → Prop) (d : PyData) : TE := fun σ H Q => Pre σ H ∧ ∀ v H', Same H H' → Dp K H' v d → Q v H'
def tDats (K : PySem.W.Frag) (Pre : L2.St → Hp → Prop) (ds : List PyData) : TA := fun σ H Q => Pre σ H ∧ ∀ vs H', Same H H' → DpAll K H' vs ds → Q vs H'
theorem pe_conv {X : Cx} {e : Expr} {t t' : TE} (h : PE X e t) (c : ∀ (pins : List (Addr × Obj)) (s : Shared) (σ : L2.St) (H : Hp) (Q : VK), Inv X pins σ H s → t' σ H Q → t σ H Q) : PE X e t' := ⟨fun pins s σ H Q I q => h.run pins s σ H Q I (c pins s σ H Q I q)⟩
theorem pa_conv {X : Cx} {es : List Expr} {t t' : TA} (h : PA X es t) (c : ∀ (pins : List (Addr × Obj)) (s : Shared) (σ : L2.St) (H : Hp) (Q : List V → Hp → Prop), Inv X pins σ H s → t' σ H Q → t σ H Q) : PA X es t' := ⟨fun pos pins s σ H Q I q => h.run pos pins s σ H Q I (c pins s σ H Q I q)⟩
theorem dps_len {K : PySem.W.Frag} {H : Hp} : ∀ {vs : List V} {ds : List PyData}, DpAll K H vs ds → vs.length = ds.length
  | _, _, .nil => rfl
  | _, _, .cons _ t => by simp [dps_len t]
section
variable {X : Cx} {Pre : L2.St → Hp → Prop}
theorem pd_nil : PA X [] (tDats X.K Pre []) := pa_conv pa_nil fun _ _ σ H Q _ h => h.2 _ _ (Same.refl _) .nil
theorem pd_cons {e : Expr} {es : List Expr} {d : PyData} {ds : List PyData} (kp : Kept Pre) (h : PE X e (tDat X.K Pre d)) (r : PA X es (tDats X.K Pre ds)) (hs : starEach (e :: es) X.env = (false, eval e X.env) :: starEach es X.env := by rfl) : PA X (e :: es) (tDats X.K Pre (d :: ds)) :=
  pa_conv (pa_cons h r hs) fun _ _ σ H Q _ q => ⟨q.1, fun v H1 s1 h1 => ⟨kp _ _ _ q.1 s1, fun vs H2 s2 h2 => q.2 _ _ (s1.trans s2) (.cons (dp_same s2 h1) h2)⟩⟩
theorem pd_str {x : PySem.Str} {k : Nat} {pos : Pos} : PE X (.Constant (.str x) k pos) (tDat X.K Pre (.str x)) := pe_conv pe_str fun _ _ σ H Q _ q => q.2 _ _ (Same.refl _) (.str x)
theorem pd_non {k : Nat} {pos : Pos} : PE X (.Constant .none k pos) (tDat X.K Pre .none) := pe_conv pe_non fun _ _ σ H Q _ q => q.2 _ _ (Same.refl _) .non
theorem pd_int {i : Int} {k : Nat} {pos : Pos} : PE X (.Constant (.int i) k pos) (tDat X.K Pre (.int i)) := pe_conv pe_int fun _ _ σ H Q _ q => q.2 _ _ (Same.refl _) (.int i)
theorem pd_tup {es : List Expr} {ds : List PyData} {k : Nat} {pos : Pos} (h : PA X es (tDats X.K Pre ds)) (hl : ds.length ≤ 1000) : PE X (.Tuple es k pos) (tDat X.K Pre (.tuple ds)) :=
  pe_conv (pe_tup h) fun _ _ σ H Q _ q => ⟨q.1, fun vs H1 s1 h1 => ⟨by rw [dps_len h1, sizeLine_eq]; omega, fun p np => q.2 _ _ (s1.trans (sn np)) (.tup (SqT.of upd_same) (dps_same (sn np) h1))⟩⟩
theorem pd_lst {es : List Expr} {ds : List PyData} {pos : Pos} (h : PA X es (tDats X.K Pre ds)) (hl : ds.length ≤ 1000) : PE X (.List es pos) (tDat X.K Pre (.list ds)) :=
  pe_conv (pe_lst h) fun _ _ σ H Q _ q => ⟨q.1, fun vs H1 s1 h1 => ⟨by rw [dps_len h1, sizeLine_eq]; omega, fun p np => q.2 _ _ (s1.trans (sn np)) (.lst (SqL.of upd_same) (dps_same (sn np) h1))⟩⟩
theorem pd_of {e : Expr} {t : TE} {d : PyData} (h : PE X e t) (c : ∀ (σ : L2.St) (H : Hp) (Q : VK), Pre σ H → (∀ v H', Same H H' → Dp X.K H' v d → Q v H') → t σ H Q) : PE X e (tDat X.K Pre d) := pe_conv h fun _ _ σ H Q _ q => c σ H Q q.1 q.2
end
/-- data that _is_step may be asked of, and the answer -/
def okStr (x : PySem.Str) : Bool := decide (x.length ≤ 1000) && PyData.strOk x
def nmD : PyData → Bool
  | .str x => nm x
  | _ => false
def okD : PyData → Bool
  | .str x => okStr x
  | _ => true
def optD : PyData → Option PySem.Str
  | .str x => some x
  | _ => none
def svD : PyData → Bool
  | .tuple (x :: ds) => ds.all nmD && stp x (ds.map optD)
  | _ => false
def okS : PyData → Bool
  | .tuple (x :: ds) => SeqAt.shaped x && ds.all okD && decide (ds.length ≤ 900)
  | _ => true
theorem dp_ty {K : PySem.W.Frag} {H : Hp} {v : V} {d : PyData} (h : Dp K H v d) : ∃ t : String, TyX K H v (.type t) ∧ ((∀ x, d ≠ .str x) → kitB t "str" = some false) ∧ ((∀ xs, d ≠ .tuple xs) → kitB t "tuple" = some false) := by
  cases h with
  | non => exact ⟨"NoneType", .base .non, fun _ => by decide +kernel, fun _ => by decide +kernel⟩
  | bl b => exact ⟨"bool", .base (.bl b), fun _ => by decide +kernel, fun _ => by decide +kernel⟩
  | int i => exact ⟨"int", .base (.int i), fun _ => by decide +kernel, fun _ => by decide +kernel⟩
  | str x => exact ⟨"str", .base (.str x), fun z => absurd rfl (z x), fun _ => by decide +kernel⟩
  | lst h _ => exact ⟨"list", tyx_lst h, fun _ => by decide +kernel, fun _ => by decide +kernel⟩
  | tup h _ => exact ⟨"tuple", tyx_tup h, fun _ => by decide +kernel, fun z => absurd rfl (z _)⟩
theorem dp_nv {K : PySem.W.Frag} {H : Hp} {v : V} {d : PyData} (h : Dp K H v d) (ok : okD d = true) : Nv K H v (optD d) := by
  obtain ⟨t, ty, n, _⟩ := dp_ty h
  cases h with
  | str x =>
    have ok' : okStr x = true := ok
    unfold okStr at ok'
    rw [Bool.and_eq_true, decide_eq_true_eq] at ok'
    exact .str x ok'.1
  | non => exact .no ty (n fun _ z => nomatch z)
  | bl b => exact .no ty (n fun _ z => nomatch z)
  | int i => exact .no ty (n fun _ z => nomatch z)
  | lst _ _ => exact .no ty (n fun _ z => nomatch z)
  | tup _ _ => exact .no ty (n fun _ z => nomatch z)
theorem dps_nv {K : PySem.W.Frag} {H : Hp} : ∀ {vs : List V} {ds : List PyData}, DpAll K H vs ds → ds.all okD = true → Paired (Nv K H) vs (ds.map optD)
  | _, _, .nil, _ => .nil
  | _, _, .cons h t, ok => by
    rw [List.all_cons, Bool.and_eq_true] at ok
    exact .cons (dp_nv h ok.1) (dps_nv t ok.2)
theorem all_opt : ∀ ds : List PyData, (ds.map optD).all isNm = ds.all nmD
  | [] => rfl
  | d :: ds => by
    rw [List.map_cons, List.all_cons, List.all_cons, all_opt ds]
    cases d <;> rfl
theorem dp_sv {K : PySem.W.Frag} {H : Hp} {v : V} {d : PyData} (h : Dp K H v d) (ok : okS d = true) : Sv K H v (svD d) := by
  obtain ⟨t, ty, _, n⟩ := dp_ty h
  cases h with
  | non => exact .no (.no ty (n fun _ z => nomatch z))
  | bl b => exact .no (.no ty (n fun _ z => nomatch z))
  | int i => exact .no (.no ty (n fun _ z => nomatch z))
  | str x => exact .no (.no ty (n fun _ z => nomatch z))
  | lst _ _ => exact .no (.no ty (n fun _ z => nomatch z))
  | tup e hs =>
    have tv : Tv K H _ (some _) := .tup e (tyx_tup e)
    cases hs with
    | nil => exact .nil tv
    | @cons x xs dx ds hx hxs =>
      have ok' : (SeqAt.shaped dx && ds.all okD && decide (ds.length ≤ 900)) = true := ok
      rw [Bool.and_eq_true, Bool.and_eq_true, decide_eq_true_eq] at ok'
      have hn := dps_nv hxs ok'.1.2
      have hl : xs.length ≤ 900 := by rw [dps_len hxs]; exact ok'.2
      cases hf : ds.all nmD with
      | false =>
        rw [show svD (.tuple (dx :: ds)) = false by simp [svD, hf]]
        exact .bad tv hn hl (by rw [all_opt]; exact hf)
      | true =>
        rw [show svD (.tuple (dx :: ds)) = stp dx (ds.map optD) by simp [svD, hf]]
        exact .tup tv hn hl (by rw [all_opt]; exact hf) hx ok'.1.1
end K8
/-! Kinds and steps drawn. -/
namespace K8
open PySem PySem.Spec PyProof.Rows L2 K0 K1 M46

/-- the dice may change, all else stays -/
def But (p : Addr) (H H' : Hp) : Prop := ∀ b o, b ≠ p → H b = some o → H' b = some o
theorem But.of {p : Addr} {H H' : Hp} (s : Same H H') : But p H H' := fun b o _ e => s b o e
theorem But.trans {p : Addr} {H H1 H2 : Hp} (a : But p H H1) (b : But p H1 H2) : But p H H2 := fun c o hc e => b c o hc (a c o hc e)
theorem none_but {p c : Addr} {H H' : Hp} {o : HO} (b : But p H H') (hp : H' p = some o) (h : H' c = none) : H c = none := by
  cases e : H c with
  | none => rfl
  | some u =>
    by_cases hc : c = p
    · rw [hc, hp] at h; cases h
    · rw [b c u hc e] at h; cases h
def spKinds : Sp := fun vs H Q _ => ∃ (p : Addr) (x y z : Int), vs = [.ref p, .int 1] ∧ Dice H p x y z ∧ ∀ (q : Addr) (ws : List S) (x' z' : Int) (H' : Hp), Dice H' p x' y z' → But p H H' → H q = none → H' q = some (.lst (ws.map V.str)) → ws.length ≤ 2 → (∀ w ∈ ws, nm w = true) → Q (.ref q) H'
theorem four_nm : ∀ v ∈ ([.str "ask", .str "order", .str "report", .str "zz"] : List V), ∃ w : S, v = .str w ∧ nm w = true := by
  intro v h
  simp only [List.mem_cons, List.not_mem_nil, or_false] at h
  rcases h with rfl | rfl | rfl | rfl
  · exact ⟨_, rfl, by decide +kernel⟩
  · exact ⟨_, rfl, by decide +kernel⟩
  · exact ⟨_, rfl, by decide +kernel⟩
  · exact ⟨_, rfl, by decide +kernel⟩
theorem cutTo (x : V) (xs : List V) : cutV (x :: xs) none (some 1) = [x] := by
  have h1 : HT.sIx (x :: xs).length 0 none = 0 := rfl
  have h2 : HT.sIx (x :: xs).length (x :: xs).length (some 1) = 1 := by unfold HT.sIx; simp
  unfold cutV
  rw [h1, h2]
  rfl
section
variable {P : Program} {w : World} {K : PySem.W.Frag} {mg : PySem.Str → Option Value} {base : Heap}
theorem scKinds : FnScope ["_law_dice_here", "_law_total", "_law_found"] ["_law_dice_here", "_law_total"] (defScope sKinds) := ⟨rfl, rfl, rfl, by decide +kernel, rfl, by decide +kernel, by decide +kernel⟩
theorem ok_kinds {f fU fM : Addr} {fd fdU fdM : FuncData} (F : Fun K "_law_kinds" "_law_kinds" sKinds f fd) (T : Bare mg) (FU : Fun K "_law_pull" "_law_pull" sPull fU fdU) (bU : Binds K fdU ["_law_dice_here", "_law_total"] []) (mU : mg "_law_pull" = some (.ref fU))
    (FM : Fun K "_law_mixed" "_law_mixed" sMixed fM fdM) (bM : Binds K fdM ["_law_dice_here", "_law_items"] []) (mM : mg "_law_mixed" = some (.ref fM)) : FnOk P w K mg base CX0 3 f fd ["_law_dice_here", "_law_total"] spKinds := by
  have GU : FnOk P w K mg base CX0 1 fU fdU ["_law_dice_here", "_law_total"] spPull := ok_pull FU T
  have GM : FnOk P w K mg base CX0 2 fM fdM ["_law_dice_here", "_law_items"] (spMixed K) := ok_mixed FM T FU bU mU
  refine F.ok scKinds (fun vs H Q E h => ?_) (fun cdv A outer s H vs Q E hr h => ?_)
  · obtain ⟨p, x, y, z, rfl, _⟩ := h
    rfl
  · obtain ⟨p, x, y, z, rfl, D, q⟩ := h
    refine ⟨_, (pss_cons (ps_set (i := 2) scKinds.nd rfl (Or.inl rfl) (pe_slice sl_list (pe_call GM (hr.mono (by decide)) (by rfl) mM FM.kp bM .nil pass0 (pa_cons (pv 0) (pa_cons (pe_lst (pa_cons pe_str (pa_cons pe_str (pa_cons pe_str (pa_cons pe_str pa_nil))))) pa_nil))) po_none (po_some (pv 1))))
      (pss_one (ps_ret (pe_ifExp (pt_cmpR op_eq (pe_call GU (hr.mono (by decide)) (by rfl) mU FU.kp bU .nil pass0 (pa_cons (pv 0) (pa_cons pe_int pa_nil))) pe_int (nomark _)) (pe_op op_cat (pv 2) (pe_lst (pa_cons pe_str pa_nil))) (pv 2))))), ?_⟩
    refine ⟨_, rfl, by rw [sizeLine_eq]; decide, fun l nl => ?_⟩
    refine ⟨p, l, x, y, z, _, rfl, D.upd nl, .inl (SqL.of upd_same), by decide, fun r ys x1 z1 H1 hp nr hr1 D1 k1 => ?_⟩
    obtain ⟨v, vs, rfl⟩ : ∃ v vs, ys = v :: vs := by
      cases ys with
      | nil => have := hp.length_eq; simp at this
      | cons v vs => exact ⟨v, vs, rfl⟩
    obtain ⟨w1, rfl, n1⟩ := four_nm v (hp.mem_iff.mp (List.mem_cons_self ..))
    have b1 : But p H H1 := (But.of (sn nl)).trans k1
    refine ⟨_, rfl, _, rfl, r, _, rfl, SqL.of hr1, fun c nc => ?_⟩
    rw [cutTo]
    have b2 : But p H (upd H1 c (.lst [.str w1])) := b1.trans (But.of (sn nc))
    have ec : (upd H1 c (.lst [.str w1])) c = some (.lst [.str w1]) := upd_same
    have D2 := D1.upd (o := .lst [.str w1]) nc
    have hcN : H c = none := none_but b1 D1.at_ nc
    generalize upd H1 c (.lst [.str w1]) = H2 at b2 ec D2 ⊢
    refine ⟨_, rfl, p, x1, y, z1, 3, rfl, D2, by decide, by decide, fun r1 x2 z2 H3 r0 r3 D3 _ k3 => ?_⟩
    have hpc : c ≠ p := fun e => by rw [e] at ec; rw [D2.at_] at ec; cases ec
    have ec3 := k3 c _ hpc ec
    have b3 : But p H H3 := b2.trans k3
    refine ⟨rfl, _, rfl, ?_⟩
    refine ite2 (fun _ => ?_) (fun _ => ?_)
    · refine ⟨_, rfl, by rw [sizeLine_eq]; decide, fun o no => ?_⟩
      have s4 := sn (o := .lst [.str "other"]) no
      refine ⟨c, o, _, _, rfl, rfl, s4 _ _ ec3, upd_same, by rw [sizeLine_eq]; show 2 ≤ 16777216; decide, fun t nt => ?_⟩
      have s5 := s4.trans (sn (o := .lst ([.str w1] ++ [.str "other"])) nt)
      have htN : H t = none := none_but b3 D3.at_ (by
        rw [← nt]
        by_cases e : t = o
        · rw [e, upd_same] at nt; cases nt
        · rw [upd_ne e])
      refine q t [w1, "other"] x2 z2 _ (D3.same s5) (b3.trans (But.of s5)) htN upd_same (Nat.le_refl 2) fun w hw => ?_
      rcases List.mem_cons.mp hw with rfl | hw
      · exact n1
      · rw [List.mem_singleton.mp hw]; decide +kernel
    · exact ⟨_, rfl, q c [w1] x2 z2 H3 D3 b3 hcN ec3 (by show 1 ≤ 2; decide) (fun w hw => by rw [List.mem_singleton.mp hw]; exact n1)⟩
/-- a step's words -/
inductive Row : List S → Prop
  | wish {n k b : S} (hn : nm n = true) (hk : nm k = true) (hb : b = "q" ∨ b = "pp" ∨ b = "read") : Row ["wish", n, k, "p", b]
  | two {w n : S} (hw : w = "send" ∨ w = "come" ∨ w = "read") (hn : nm n = true) : Row [w, n]
def spStep : Sp := fun vs H Q _ => ∃ (p q : Addr) (x y z : Int) (ws : List S), vs = [.ref p, .ref q] ∧ Dice H p x y z ∧ p ≠ q ∧ H q = some (.lst (ws.map V.str)) ∧ 0 < ws.length ∧ ws.length < 1000 ∧ (∀ w ∈ ws, nm w = true) ∧
  ∀ (r : Addr) (row : List S) (x' z' : Int) (H' : Hp), Row row → H r = none → H' r = some (.tup (row.map V.str)) → Dice H' p x' y z' → But p H H' → Q (.ref r) H'
theorem scStep : FnScope ["_law_dice_here", "_law_names_here", "_law_way", "_law_name", "_law_kind"] ["_law_dice_here", "_law_names_here"] (defScope sStep) := ⟨rfl, rfl, rfl, by decide +kernel, rfl, by decide +kernel, by decide +kernel⟩
theorem ok_step {f fU fP : Addr} {fd fdU fdP : FuncData} (F : Fun K "_law_step" "_law_step" sStep f fd) (T : Bare mg) (FU : Fun K "_law_pull" "_law_pull" sPull fU fdU) (bU : Binds K fdU ["_law_dice_here", "_law_total"] []) (mU : mg "_law_pull" = some (.ref fU))
    (FP : Fun K "_law_pick" "_law_pick" sPick fP fdP) (bP : Binds K fdP ["_law_dice_here", "_law_items"] []) (mP : mg "_law_pick" = some (.ref fP)) : FnOk P w K mg base CX0 3 f fd ["_law_dice_here", "_law_names_here"] spStep := by
  have GU : FnOk P w K mg base CX0 1 fU fdU ["_law_dice_here", "_law_total"] spPull := ok_pull FU T
  have GP : FnOk P w K mg base CX0 2 fP fdP ["_law_dice_here", "_law_items"] spPick := ok_pick FP T FU bU mU
  refine F.ok scStep (fun vs H Q E h => ?_) (fun cdv A outer s H vs Q E hr h => ?_)
  · obtain ⟨p, q, x, y, z, ws, rfl, _⟩ := h
    rfl
  · obtain ⟨p, q, x, y, z, ws, rfl, D, hpq, hq, h0, h1, hnm, k⟩ := h
    refine ⟨_, (pss_cons (ps_par (i := 2) (j := 3) rfl scStep.nd rfl rfl (by decide) rfl rfl (pa_cons (pe_call GU (hr.mono (by decide)) (by rfl) mU FU.kp bU .nil pass0 (pa_cons (pv 0) (pa_cons pe_int pa_nil))) (pa_cons (pe_call GP (hr.mono (by decide)) (by rfl) mP FP.kp bP .nil pass0 (pa_cons (pv 0) (pa_cons (pv 1) pa_nil))) pa_nil)) (by rfl))
      (pss_cons (ps_if (pt_cmpR op_eq (pv 2) pe_int (nomark _))
        (pss_cons (ps_set (i := 4) scStep.nd rfl (Or.inl rfl) (pe_call GP (hr.mono (by decide)) (by rfl) mP FP.kp bP .nil pass0 (pa_cons (pv 0) (pa_cons (pe_lst (pa_cons pe_str (pa_cons pe_str (pa_cons pe_str (pa_cons (pv 3) pa_nil))))) pa_nil))))
        (pss_one (ps_ret (pe_tup (pa_cons pe_str (pa_cons (pv 3) (pa_cons (pv 4) (pa_cons pe_str (pa_cons (pe_call GP (hr.mono (by decide)) (by rfl) mP FP.kp bP .nil pass0 (pa_cons (pv 0) (pa_cons (pe_lst (pa_cons pe_str (pa_cons pe_str (pa_cons pe_str pa_nil)))) pa_nil))) pa_nil)))))))) ) pss_nil)
      (pss_one (ps_ret (pe_tup (pa_cons (pe_ix ix_list (pe_lst (pa_cons pe_str (pa_cons pe_str (pa_cons pe_str (pa_cons pe_str pa_nil))))) (pv 2) (fun _ _ => rfl)) (pa_cons (pv 3) pa_nil))))))), ?_⟩
    refine ⟨_, rfl, p, x, y, z, 4, rfl, D, by decide, by decide, fun r1 x1 z1 H1 r0 r4 D1 _ k1 => ?_⟩
    have hq1 := k1 q _ hpq.symm hq
    refine ⟨_, rfl, _, rfl, p, q, x1, y, z1, _, rfl, D1, hpq, hq1, by rw [List.length_map]; exact h0, by rw [List.length_map]; exact h1, fun j v x2 z2 H2 hj D2 _ k2 => ?_⟩
    rw [List.getElem?_map] at hj
    obtain ⟨n, hn, rfl⟩ : ∃ n, ws[j]? = some n ∧ V.str n = v := by
      cases e : ws[j]? with
      | none => rw [e] at hj; cases hj
      | some n => rw [e] at hj; exact ⟨n, rfl, Option.some.inj hj⟩
    have nmn := hnm n (List.mem_of_getElem? hn)
    have b2 : But p H H2 := But.trans k1 k2
    refine ⟨_, _, rfl, ?_⟩
    refine ⟨_, rfl, rfl, _, rfl, ?_⟩
    have hqp : q ≠ p := hpq.symm
    have pn : H2 p = some _ := D2.at_
    refine ite2 (fun _ => ?_) (fun hw => ?_)
    · refine ⟨_, rfl, _, rfl, by rw [sizeLine_eq]; show 4 ≤ 16777216; decide, fun l nl => ?_⟩
      have npl : p ≠ l := ne_of_none pn nl
      refine ⟨p, l, x2, y, z2, _, rfl, D2.upd nl, npl, upd_same, by show 0 < 4; decide, by show 4 < 1000; decide, fun j3 v3 x3 z3 H3 hj3 D3 _ k3 => ?_⟩
      obtain ⟨kd, rfl, nkd⟩ : ∃ kd : S, v3 = .str kd ∧ nm kd = true := match j3, hj3 with
        | 0, hj => by cases hj; exact ⟨_, rfl, by decide +kernel⟩
        | 1, hj => by cases hj; exact ⟨_, rfl, by decide +kernel⟩
        | 2, hj => by cases hj; exact ⟨_, rfl, by decide +kernel⟩
        | 3, hj => by cases hj; exact ⟨_, rfl, nmn⟩
        | j + 4, hj => by simp at hj
      have b3 : But p H H3 := (b2.trans (But.of (sn nl))).trans k3
      have pn3 : H3 p = some _ := D3.at_
      refine ⟨_, rfl, _, rfl, _, rfl, by rw [sizeLine_eq]; show 3 ≤ 16777216; decide, fun m nm' => ?_⟩
      have npm : p ≠ m := ne_of_none pn3 nm'
      refine ⟨p, m, x3, y, z3, _, rfl, D3.upd nm', npm, upd_same, by show 0 < 3; decide, by show 3 < 1000; decide, fun j4 v4 x4 z4 H4 hj4 D4 _ k4 => ?_⟩
      obtain ⟨rd, rfl, hrd⟩ : ∃ rd : S, v4 = .str rd ∧ (rd = "q" ∨ rd = "pp" ∨ rd = "read") := match j4, hj4 with
        | 0, hj => by cases hj; exact ⟨_, rfl, .inl rfl⟩
        | 1, hj => by cases hj; exact ⟨_, rfl, .inr (.inl rfl)⟩
        | 2, hj => by cases hj; exact ⟨_, rfl, .inr (.inr rfl)⟩
        | j + 3, hj => by simp at hj
      have b4 : But p H H4 := (b3.trans (But.of (sn nm'))).trans k4
      refine ⟨by rw [sizeLine_eq]; show 5 ≤ 16777216; decide, fun t nt => ?_⟩
      exact k t ["wish", n, kd, "p", rd] x4 z4 _ (.wish nmn nkd hrd) (none_but b4 D4.at_ nt) upd_same (D4.upd nt) (b4.trans (But.of (sn nt)))
    · have hr1 : 1 ≤ r1 := by
        have : r1 ≠ 0 := fun e => hw (decide_eq_true (by rw [e]))
        omega
      refine ⟨by rw [sizeLine_eq]; show 4 ≤ 16777216; decide, fun l nl => ?_⟩
      obtain ⟨j, rfl⟩ : ∃ j : Nat, r1 = (j : Int) := ⟨r1.toNat, by omega⟩
      obtain ⟨wd', hwd, hw3⟩ : ∃ wd' : S, ([.str "", .str "send", .str "come", .str "read"] : List V)[j]? = some (.str wd') ∧ (wd' = "send" ∨ wd' = "come" ∨ wd' = "read") := match j, hr1, r4 with
        | 1, _, _ => ⟨_, rfl, .inl rfl⟩
        | 2, _, _ => ⟨_, rfl, .inr (.inl rfl)⟩
        | 3, _, _ => ⟨_, rfl, .inr (.inr rfl)⟩
        | 0, h, _ => absurd h (by decide)
        | j + 4, _, h => absurd h (by omega)
      refine ⟨_, rfl, l, _, _, .str wd', rfl, rfl, SqL.of upd_same, atI_nat hwd, _, rfl, by rw [sizeLine_eq]; show 2 ≤ 16777216; decide, fun t nt => ?_⟩
      have b3 := b2.trans (But.of (sn (o := .lst [.str "", .str "send", .str "come", .str "read"]) nl))
      have D3 := D2.upd (o := .lst [.str "", .str "send", .str "come", .str "read"]) nl
      exact k t [wd', n] x2 z2 _ (.two hw3 nmn) (none_but b3 D3.at_ nt) upd_same (D3.upd nt) (b3.trans (But.of (sn nt)))
end
end K8
/-! Values near steps that are none. -/
namespace K8
open PySem PySem.Spec PyProof.Rows L2 K0 K1 M46

def tps (ws : List S) : PyData := .tuple (ws.map .str)
def bads (row : List S) : List PyData :=
  [.none, .tuple [], .list (row.map .str), tps (row ++ (["a"] : List S)), tps row.dropLast, tps ((["wish"] : List S) ++ (row.drop 1).take 1), tps [row.headD ""], tps ((["hear"] : List S) ++ row.drop 1)]
  ++ [tps [row.headD "", "A"], .tuple [.str (row.headD ""), .none], tps [row.headD "", ""], tps ["Send", "a"], .tuple [.none, .str "a"]]
  ++ [tps ["send", "aaaaaaaaa"], .str "send a", tps ["wish", "a", "k", "p", "p"], tps ["wish", "a", "k", "p"]]
  ++ [tps ["wish", "a", "K", "p", "q"], .tuple [.str "send", tps ["a"]]]
  ++ [.tuple [.str "wish", .str "a", .none, .str "p", .str "q"], .tuple [.list [], .str "a"], tps ["wish", "", "k", "p", "q"], .tuple [.str "come", .int 3]]
theorem nm_facts {x : S} (h : nm x = true) : 1 ≤ x.length ∧ x.length ≤ 8 ∧ ∀ c ∈ x.cps.toList, 97 ≤ c ∧ c ≤ 122 := by
  unfold nm at h
  simp only [Bool.and_eq_true, decide_eq_true_eq, List.all_eq_true] at h
  refine ⟨h.1, h.2.1, fun c hc => ?_⟩
  have := h.2.2 c hc
  unfold low at this
  simpa using this
theorem nm_ok {x : S} (h : nm x = true) : okStr x = true ∧ PyData.strOk x = true := by
  obtain ⟨_, h2, h3⟩ := nm_facts h
  have e : PyData.strOk x = true := by
    unfold PyData.strOk
    rw [← Array.all_toList, List.all_eq_true]
    intro c hc
    have := h3 c hc
    exact decide_eq_true (by omega)
  exact ⟨by unfold okStr; rw [decide_eq_true (by omega), e]; rfl, e⟩
theorem w1 : isWish (.str "wish") = true := by decide +kernel
theorem w2 : isWish (.str "send") = false := by decide +kernel
theorem w3 : isWish (.str "come") = false := by decide +kernel
theorem w4 : isWish (.str "read") = false := by decide +kernel
theorem w5 : isWish (.str "hear") = false := by decide +kernel
theorem w6 : scr (.str "hear") = false := by decide +kernel
theorem q1 : SeqAt.shaped (.str "wish") = true := by decide +kernel
theorem q2 : SeqAt.shaped (.str "send") = true := by decide +kernel
theorem q3 : SeqAt.shaped (.str "come") = true := by decide +kernel
theorem q4 : SeqAt.shaped (.str "read") = true := by decide +kernel
theorem q5 : SeqAt.shaped (.str "hear") = true := by decide +kernel
theorem q6 : okStr "p" = true := by decide +kernel
theorem q7 : okStr "a" = true := by decide +kernel
theorem q8 : okStr "A" = true := by decide +kernel
theorem q9 : okStr "" = true := by decide +kernel
theorem bads_no {row : List S} (h : Row row) : ∀ d ∈ bads row, okS d = true ∧ svD d = false := by
  have sh : ∀ x : S, PyData.strOk x = true → SeqAt.shaped (.str x) = true := fun x hx => by simp [SeqAt.shaped, PyData.canLay0, PyData.depth, hx]
  cases h with
  | @wish n k b hn hk hb =>
    have hbn : nm b = true := by rcases hb with rfl | rfl | rfl <;> decide +kernel
    have o1 := (nm_ok hn).1
    have o2 := (nm_ok hk).1
    have o3 := (nm_ok hbn).1
    intro d hd
    simp only [bads, List.mem_append, List.mem_cons, List.not_mem_nil, or_false] at hd
    rcases hd with ((((rfl | rfl | rfl | rfl | rfl | rfl | rfl | rfl) | (rfl | rfl | rfl | rfl | rfl)) | (rfl | rfl | rfl | rfl)) | (rfl | rfl)) | (rfl | rfl | rfl | rfl)
    all_goals first
      | exact ⟨by decide +kernel, by decide +kernel⟩
      | (refine ⟨?_, ?_⟩
         · simp only [okS, tps, List.map_cons, List.map_nil, List.cons_append, List.nil_append, List.dropLast, List.drop, List.take, List.headD, List.all_cons, List.all_nil, okD, o1, o2, o3, q1, q2, q3, q4, q5, q6, q7, q8, q9, Bool.true_and, Bool.and_true, List.length_cons, List.length_nil]
           try rfl
         · simp only [svD, tps, List.map_cons, List.map_nil, List.cons_append, List.nil_append, List.dropLast, List.drop, List.take, List.headD, List.all_cons, List.all_nil, nmD, optD, hn, hk, hbn, Bool.true_and, Bool.and_true, Bool.false_and, Bool.and_false, stp, w1, w2, w3, w4, w5, w6, if_true, ne34, List.length_cons, List.length_nil, Bool.false_eq_true, if_false]
           try rfl)
  | @two w n hw hn =>
    have o1 := (nm_ok hn).1
    intro d hd
    simp only [bads, List.mem_append, List.mem_cons, List.not_mem_nil, or_false] at hd
    rcases hw with rfl | rfl | rfl
    all_goals
      rcases hd with ((((rfl | rfl | rfl | rfl | rfl | rfl | rfl | rfl) | (rfl | rfl | rfl | rfl | rfl)) | (rfl | rfl | rfl | rfl)) | (rfl | rfl)) | (rfl | rfl | rfl | rfl)
    all_goals first
      | exact ⟨by decide +kernel, by decide +kernel⟩
      | (refine ⟨?_, ?_⟩
         · simp only [okS, tps, List.map_cons, List.map_nil, List.cons_append, List.nil_append, List.dropLast, List.drop, List.take, List.headD, List.all_cons, List.all_nil, okD, o1, q1, q2, q3, q4, q5, q6, q7, q8, q9, Bool.true_and, Bool.and_true, List.length_cons, List.length_nil]
           try rfl
         · simp only [svD, tps, List.map_cons, List.map_nil, List.cons_append, List.nil_append, List.dropLast, List.drop, List.take, List.headD, List.all_cons, List.all_nil, nmD, optD, hn, Bool.true_and, Bool.and_true, Bool.false_and, Bool.and_false, stp, w1, w2, w3, w4, w5, w6, if_true, ne34, List.length_cons, List.length_nil, Bool.false_eq_true, if_false]
           try rfl)
theorem dp_strs {K : PySem.W.Frag} {H : Hp} : ∀ ws : List S, DpAll K H (ws.map V.str) (ws.map PyData.str)
  | [] => .nil
  | w :: r => .cons (.str w) (dp_strs r)
theorem dp_tps {K : PySem.W.Frag} {H : Hp} {a : Addr} {ws : List S} (h : SqT K H a (ws.map V.str)) : Dp K H (.ref a) (tps ws) := .tup h (dp_strs ws)
/-- the step stands in slot 1 -/
def PreS (K : PySem.W.Frag) (s : Addr) (row : List S) : L2.St → Hp → Prop := fun σ H => σ[1]? = some (some (.ref s)) ∧ SqT K H s (row.map V.str)
theorem PreS.kept {K : PySem.W.Frag} {s : Addr} {row : List S} : Kept (PreS K s row) := fun σ H H' h e => ⟨h.1, sqT_same h.2 e⟩
section
variable {X : Cx} {s : Addr} {row : List S}
theorem cut_last {xs : List V} : cutV xs none (some (-1)) = xs.dropLast := by
  unfold cutV
  rw [show HT.sIx xs.length 0 none = 0 from rfl]
  rw [List.dropLast_eq_take]
  have : HT.sIx xs.length xs.length (some (-1)) = xs.length - 1 := by unfold HT.sIx; simp; omega
  rw [this]
  simp
theorem cut_from1 {xs : List V} (h : 2 ≤ xs.length) : cutV xs (some 1) none = xs.drop 1 := by
  obtain ⟨x, r, rfl⟩ : ∃ x r, xs = x :: r := by
    cases xs with
    | nil => simp at h
    | cons x r => exact ⟨x, r, rfl⟩
  exact cut1 x r
theorem cut_12 {xs : List V} (h : 2 ≤ xs.length) : cutV xs (some 1) (some 2) = (xs.drop 1).take 1 := by
  unfold cutV
  have h1 : HT.sIx xs.length 0 (some 1) = 1 := by unfold HT.sIx; simp; omega
  have h2 : HT.sIx xs.length xs.length (some 2) = 2 := by unfold HT.sIx; simp; omega
  rw [h1, h2]
end
end K8
/-! _law_bad_step. -/
namespace K8
open PySem PySem.Spec PyProof.Rows L2 K0 K1 M46

def spBadSt (K : PySem.W.Frag) : Sp := fun vs H Q _ => ∃ (p s : Addr) (x y z : Int) (row : List S), vs = [.ref p, .ref s] ∧ Dice H p x y z ∧ SqT K H s (row.map V.str) ∧ Row row ∧
  ∀ (v : V) (d : PyData) (x' z' : Int) (H' : Hp), d ∈ bads row → Dp K H' v d → Dice H' p x' y z' → But p H H' → Q v H'
theorem Row.len {row : List S} (h : Row row) : 2 ≤ row.length ∧ row.length ≤ 5 := by cases h <;> simp
theorem Row.head {row : List S} (h : Row row) : ∃ w r, row = w :: r := by cases h <;> exact ⟨_, _, rfl⟩
theorem dps_strs_inv {K : PySem.W.Frag} {H : Hp} : ∀ {ws : List S} {xs : List V}, DpAll K H xs (ws.map PyData.str) → xs = ws.map V.str
  | [], _, .nil => rfl
  | w :: r, _, .cons h t => by
    cases h with
    | str x => rw [dps_strs_inv t]; rfl
theorem dp_tps_inv {K : PySem.W.Frag} {H : Hp} {v : V} {ws : List S} (h : Dp K H v (tps ws)) : ∃ a, v = .ref a ∧ SqT K H a (ws.map V.str) := by
  cases h with
  | @tup a xs ds e hs => exact ⟨a, rfl, by rw [← dps_strs_inv hs]; exact e⟩
theorem six1 {n : Nat} (h : 1 ≤ n) : HT.sIx n 0 (some 1) = 1 := by
  have e := HT.sIx_nat n 0 1
  have e' : HT.sIx n 0 (some 1) = min 1 n := e
  rw [e']
  omega
theorem row_ne {row : List S} (h : Row row) : row.map V.str ≠ [] := by cases h <;> simp
section
variable {X : Cx} {s : Addr} {row : List S} {e f : Expr} {p pos p2 q2 : Pos}
theorem pd_copy (T : X.mg "list" = none) (hg : Gl X "list") (h : PE X e (tVar 1)) (he : starEach [e] X.env = (false, eval e X.env) :: starEach [] X.env := by rfl) (hpl : (backTo pos (starEach [] X.env)).any (·.1) = false := by rfl) :
    PE X (.Call (.Name "list" p) [e] [] pos) (tDat X.K (PreS X.K s row) (.list (row.map .str))) :=
  pd_of (pe_callTy call_list_of hg T (by decide +kernel) (pa_cons h pa_nil he) (by decide) (by decide) he hpl) fun σ H Q pre q => ⟨_, pre.1, s, row.map V.str, rfl, .inr pre.2, fun l nl => q _ _ (sn nl) (.lst (SqL.of upd_same) (dp_strs row))⟩
theorem pd_more (hr : Row row) (h : PE X e (tVar 1)) (h2 : PE X f (tDat X.K (PreS X.K s row) (tps ["a"]))) : PE X (.BinOp e .Add f pos) (tDat X.K (PreS X.K s row) (tps (row ++ (["a"] : List S)))) :=
  pd_of (pe_op op_catT h h2) fun σ H Q pre q => ⟨_, pre.1, pre, fun v H1 s1 h1 => by
    obtain ⟨a, rfl, e1⟩ := dp_tps_inv h1
    refine ⟨s, a, _, _, rfl, rfl, sqT_same pre.2 s1, e1, row_ne hr, ?_, fun z => absurd z (by simp), fun _ r nr => q _ _ (s1.trans (sn nr)) ?_⟩
    · rw [List.length_map, sizeLine_eq]; have := hr.len; simp; omega
    · rw [← List.map_append]
      exact dp_tps (SqT.of upd_same)⟩
theorem pd_head (hr : Row row) (h : PE X e (tVar 1)) : PE X (.Subscript e (.Constant (.int 0) 0 q2) pos) (tDat X.K (PreS X.K s row) (.str (row.headD ""))) :=
  pd_of (pe_ix ix_tup h pe_int (fun _ _ => rfl)) fun σ H Q pre q => ⟨_, pre.1, s, _, 0, .str (row.headD ""), rfl, rfl, pre.2, (by obtain ⟨w, r, rfl⟩ := hr.head; exact atI_nat (j := 0) rfl), q _ _ (Same.refl _) (.str _)⟩
theorem slice_dp {K : PySem.W.Frag} {H : Hp} {Q : VK} {ws : List S} {lo hi : Option Int} (hx : SqT K H s (row.map V.str)) (hn : ¬ (HT.sIx (row.map V.str).length 0 lo = 0 ∧ HT.sIx (row.map V.str).length (row.map V.str).length hi = (row.map V.str).length)) (hc : cutV (row.map V.str) lo hi = ws.map V.str)
    (q : ∀ (v : V) (H' : Hp), Same H H' → Dp K H' v (tps ws) → Q v H') : rSlT K (.ref s) lo hi H Q := ⟨s, _, rfl, hx, hn, fun r nr => by rw [hc]; exact q _ _ (sn nr) (dp_tps (SqT.of upd_same))⟩
theorem pd_init (hr : Row row) (h : PE X e (tVar 1)) : PE X (.Subscript e (.Slice none (some (.UnaryOp .USub (.Constant (.int 1) 0 q2) p2)) none p) pos) (tDat X.K (PreS X.K s row) (tps row.dropLast)) :=
  pd_of (pe_slice sl_tup h po_none (po_some (pe_un un_neg pe_int))) fun σ H Q pre q => by
    have hl := hr.len
    refine ⟨_, pre.1, _, rfl, _, rfl, slice_dp pre.2 (fun z => ?_) ?_ q⟩
    · have z2 := z.2
      unfold HT.sIx at z2
      simp at z2
      omega
    · rw [cut_last, List.map_dropLast]
theorem pd_tail (hr : Row row) (h : PE X e (tVar 1)) : PE X (.Subscript e (.Slice (some (.Constant (.int 1) 0 q2)) none none p) pos) (tDat X.K (PreS X.K s row) (tps (row.drop 1))) :=
  pd_of (pe_slice sl_tup h (po_some pe_int) po_none) fun σ H Q pre q => by
    have hl := hr.len
    refine ⟨_, pre.1, _, rfl, slice_dp pre.2 (fun z => ?_) ?_ q⟩
    · have z1 := z.1
      rw [six1 (by rw [List.length_map]; omega)] at z1
      exact absurd z1 (by decide)
    · rw [cut_from1 (by rw [List.length_map]; omega), List.map_drop]
theorem pd_mid (hr : Row row) (h : PE X e (tVar 1)) : PE X (.Subscript e (.Slice (some (.Constant (.int 1) 0 q2)) (some (.Constant (.int 2) 0 p2)) none p) pos) (tDat X.K (PreS X.K s row) (tps ((row.drop 1).take 1))) :=
  pd_of (pe_slice sl_tup h (po_some pe_int) (po_some pe_int)) fun σ H Q pre q => by
    have hl := hr.len
    refine ⟨_, pre.1, _, rfl, _, rfl, slice_dp pre.2 (fun z => ?_) ?_ q⟩
    · have z1 := z.1
      rw [six1 (by rw [List.length_map]; omega)] at z1
      exact absurd z1 (by decide)
    · rw [cut_12 (by rw [List.length_map]; omega), List.map_take, List.map_drop]
theorem pd_cat {Pre : L2.St → Hp → Prop} {ws us : List S} (kp : Kept Pre) (h1 : ws ≠ []) (h2 : us ≠ []) (hl : ws.length + us.length ≤ 1000) (ha : PE X e (tDat X.K Pre (tps ws))) (hb : PE X f (tDat X.K Pre (tps us))) : PE X (.BinOp e .Add f pos) (tDat X.K Pre (tps (ws ++ us))) :=
  pd_of (pe_op op_catT ha hb) fun σ H Q pre q => ⟨pre, fun v H1 s1 d1 => ⟨kp _ _ _ pre s1, fun u H2 s2 d2 => by
    obtain ⟨a, rfl, e1⟩ := dp_tps_inv d1
    obtain ⟨b, rfl, e2⟩ := dp_tps_inv d2
    refine ⟨a, b, _, _, rfl, rfl, sqT_same e1 s2, e2, by simpa using h1, ?_, fun z => absurd z (by simpa using h2), fun _ r nr => q _ _ ((s1.trans s2).trans (sn nr)) ?_⟩
    · rw [List.length_map, List.length_map, sizeLine_eq]; omega
    · rw [← List.map_append]
      exact dp_tps (SqT.of upd_same)⟩⟩
end
theorem dps_app {K : PySem.W.Frag} {H : Hp} : ∀ {vs us : List V} {ds es : List PyData}, DpAll K H vs ds → DpAll K H us es → DpAll K H (vs ++ us) (ds ++ es)
  | _, _, _, _, .nil, h => h
  | _, _, _, _, .cons a t, h => .cons a (dps_app t h)
theorem dps_at {K : PySem.W.Frag} {H : Hp} : ∀ {vs : List V} {ds : List PyData} {j : Nat} {v : V}, DpAll K H vs ds → vs[j]? = some v → ∃ d, d ∈ ds ∧ Dp K H v d
  | _, _, _, _, .nil, h => by simp at h
  | _, _, 0, _, .cons a t, h => by simp at h; subst h; exact ⟨_, List.mem_cons_self .., a⟩
  | _, _, j + 1, _, .cons a t, h => by
    obtain ⟨d, hd, q⟩ := dps_at (j := j) t (by simpa using h)
    exact ⟨d, List.mem_cons_of_mem _ hd, q⟩
def headOk : List PyData → Bool
  | .int _ :: _ => false
  | _ => true
mutual
def clean : PyData → Bool
  | .list xs => headOk xs && cleanAll xs
  | .tuple xs => cleanAll xs
  | _ => true
def cleanAll : List PyData → Bool
  | [] => true
  | x :: xs => clean x && cleanAll xs
end
section
variable {K : PySem.W.Frag} {H H' : Hp} {p : Addr} {x : Int} {r : List V}
theorem sqT_but (hp : H p = some (.lst (.int x :: r))) (b : But p H H') {a : Addr} {xs : List V} (h : SqT K H a xs) : SqT K H' a xs := by
  rcases h with (h | ⟨o, h⟩) | h
  · exact .inl (.inl (b _ _ (ne_of h hp (by intro z; cases z)) h))
  · exact .inl (.inr ⟨o, b _ _ (ne_of h hp (by intro z; cases z)) h⟩)
  · exact .inr h
mutual
theorem dp_but (hp : H p = some (.lst (.int x :: r))) (b : But p H H') : ∀ {v : V} {d : PyData}, Dp K H v d → clean d = true → Dp K H' v d
  | _, _, .non, _ => .non
  | _, _, .bl y, _ => .bl y
  | _, _, .int i, _ => .int i
  | _, _, .str y, _ => .str y
  | _, _, .tup h hs, c => .tup (sqT_but hp b h) (dps_but hp b hs (by simpa [clean] using c))
  | _, _, .lst (a := a) (xs := xs) (ds := ds) h hs, c => by
    have c' : (headOk ds && cleanAll ds) = true := by simpa only [clean] using c
    rw [Bool.and_eq_true] at c'
    refine .lst ?_ (dps_but hp b hs c'.2)
    rcases h with (h | ⟨o, h⟩) | h
    · refine .inl (.inl (b _ _ (fun e => ?_) h))
      rw [e, hp] at h
      injection h with h
      injection h with h
      subst h
      cases hs with
      | cons h1 t => cases h1; exact absurd c'.1 (by simp [headOk])
    · exact .inl (.inr ⟨o, b _ _ (ne_of h hp (by intro z; cases z)) h⟩)
    · exact .inr h
theorem dps_but (hp : H p = some (.lst (.int x :: r))) (b : But p H H') : ∀ {vs : List V} {ds : List PyData}, DpAll K H vs ds → cleanAll ds = true → DpAll K H' vs ds
  | _, _, .nil, _ => .nil
  | _, _, .cons (d := d) (ds := ds) h t, c => by
    have c' : (clean d && cleanAll ds) = true := by simpa only [cleanAll] using c
    rw [Bool.and_eq_true] at c'
    exact .cons (dp_but hp b h c'.1) (dps_but hp b t c'.2)
end
end
theorem bads_clean {row : List S} (h : Row row) : ∀ d ∈ bads row, clean d = true := by
  intro d hd
  simp only [bads, List.mem_append, List.mem_cons, List.not_mem_nil, or_false] at hd
  cases h with
  | @wish n k b hn hk hb =>
    rcases hd with ((((rfl | rfl | rfl | rfl | rfl | rfl | rfl | rfl) | (rfl | rfl | rfl | rfl | rfl)) | (rfl | rfl | rfl | rfl)) | (rfl | rfl)) | (rfl | rfl | rfl | rfl)
    all_goals simp [clean, cleanAll, headOk, tps]
  | @two w n hw hn =>
    rcases hd with ((((rfl | rfl | rfl | rfl | rfl | rfl | rfl | rfl) | (rfl | rfl | rfl | rfl | rfl)) | (rfl | rfl | rfl | rfl)) | (rfl | rfl)) | (rfl | rfl | rfl | rfl)
    all_goals simp [clean, cleanAll, headOk, tps]
section
variable {P : Program} {w : World} {K : PySem.W.Frag} {mg : PySem.Str → Option Value} {base : Heap}
theorem scBadSt : FnScope ["_law_dice_here", "_law_step_here", "_law_some"] ["_law_dice_here", "_law_step_here"] (defScope sBadSt) := ⟨rfl, rfl, rfl, by decide +kernel, rfl, by decide +kernel, by decide +kernel⟩
theorem ok_bad_st {f fU fP : Addr} {fd fdU fdP : FuncData} (F : Fun K "_law_bad_step" "_law_bad_step" sBadSt f fd) (T : Bare mg) (FU : Fun K "_law_pull" "_law_pull" sPull fU fdU) (bU : Binds K fdU ["_law_dice_here", "_law_total"] []) (mU : mg "_law_pull" = some (.ref fU))
    (FP : Fun K "_law_pick" "_law_pick" sPick fP fdP) (bP : Binds K fdP ["_law_dice_here", "_law_items"] []) (mP : mg "_law_pick" = some (.ref fP)) : FnOk P w K mg base CX0 3 f fd ["_law_dice_here", "_law_step_here"] (spBadSt K) := by
  have GP : FnOk P w K mg base CX0 2 fP fdP ["_law_dice_here", "_law_items"] spPick := ok_pick FP T FU bU mU
  refine F.ok scBadSt (fun vs H Q E h => ?_) (fun cdv A outer s0 H vs Q E hr h => ?_)
  · obtain ⟨p, s, x, y, z, row, rfl, _⟩ := h
    rfl
  · obtain ⟨p, s, x, y, z, row, rfl, D, hs, hrow, k⟩ := h
    have kp : Kept (PreS K s row) := PreS.kept
    have hdr : row.drop 1 ≠ [] := by cases hrow <;> simp
    have hdt : (row.drop 1).take 1 ≠ [] := by cases hrow <;> simp
    have hl := hrow.len
    refine ⟨_, pss_cons (ps_set (i := 2) scBadSt.nd rfl (Or.inl rfl) (pe_lst (pd_cons kp pd_non (pd_cons kp (pd_tup pd_nil (by simp)) (pd_cons kp (pd_copy T.list (by rfl) (pv 1)) (pd_cons kp (pd_more hrow (pv 1) (pd_tup (pd_cons kp pd_str pd_nil) (by simp))) (pd_cons kp (pd_init hrow (pv 1)) (pd_cons kp (pd_cat (ws := ["wish"]) kp (by simp) hdt (by simp; omega) (pd_tup (pd_cons kp pd_str pd_nil) (by simp)) (pd_mid hrow (pv 1))) (pd_cons kp (pd_tup (pd_cons kp (pd_head hrow (pv 1)) pd_nil) (by simp)) (pd_cons kp (pd_cat (ws := ["hear"]) kp (by simp) hdr (by simp; omega) (pd_tup (pd_cons kp pd_str pd_nil) (by simp)) (pd_tail hrow (pv 1))) pd_nil))))))))))
      (pss_cons (ps_set (i := 2) scBadSt.nd rfl (Or.inl rfl) (pe_op op_cat (pv 2) (pe_lst (pd_cons kp (pd_tup (pd_cons kp (pd_head hrow (pv 1)) (pd_cons kp pd_str pd_nil)) (by simp)) (pd_cons kp (pd_tup (pd_cons kp (pd_head hrow (pv 1)) (pd_cons kp pd_non pd_nil)) (by simp)) (pd_cons kp (pd_tup (pd_cons kp (pd_head hrow (pv 1)) (pd_cons kp pd_str pd_nil)) (by simp)) (pd_cons kp (pd_tup (pd_cons kp pd_str (pd_cons kp pd_str pd_nil)) (by simp)) (pd_cons kp (pd_tup (pd_cons kp pd_non (pd_cons kp pd_str pd_nil)) (by simp)) pd_nil))))))))
      (pss_cons (ps_set (i := 2) scBadSt.nd rfl (Or.inl rfl) (pe_op op_cat (pv 2) (pe_lst (pd_cons kp (pd_tup (pd_cons kp pd_str (pd_cons kp (pd_of (pe_op op_nine pe_str pe_int) (fun σ H Q pre q => ⟨rfl, rfl, q _ _ (Same.refl _) (.str _)⟩)) pd_nil)) (by simp)) (pd_cons kp pd_str (pd_cons kp (pd_tup (pd_cons kp pd_str (pd_cons kp pd_str (pd_cons kp pd_str (pd_cons kp pd_str (pd_cons kp pd_str pd_nil))))) (by simp)) (pd_cons kp (pd_tup (pd_cons kp pd_str (pd_cons kp pd_str (pd_cons kp pd_str (pd_cons kp pd_str pd_nil)))) (by simp)) pd_nil)))))))
      (pss_cons (ps_set (i := 2) scBadSt.nd rfl (Or.inl rfl) (pe_op op_cat (pv 2) (pe_lst (pd_cons kp (pd_tup (pd_cons kp pd_str (pd_cons kp pd_str (pd_cons kp pd_str (pd_cons kp pd_str (pd_cons kp pd_str pd_nil))))) (by simp)) (pd_cons kp (pd_tup (pd_cons kp pd_str (pd_cons kp (pd_tup (pd_cons kp pd_str pd_nil) (by simp)) pd_nil)) (by simp)) pd_nil)))))
      (pss_one (ps_ret (pe_call GP (hr.mono (by decide)) (by rfl) mP FP.kp bP .nil pass0 (pa_cons (pv 0) (pa_cons (pe_op op_cat (pv 2) (pe_lst (pd_cons kp (pd_tup (pd_cons kp pd_str (pd_cons kp pd_str (pd_cons kp pd_non (pd_cons kp pd_str (pd_cons kp pd_str pd_nil))))) (by simp)) (pd_cons kp (pd_tup (pd_cons kp (pd_lst pd_nil (by simp)) (pd_cons kp pd_str pd_nil)) (by simp)) (pd_cons kp (pd_tup (pd_cons kp pd_str (pd_cons kp pd_str (pd_cons kp pd_str (pd_cons kp pd_str (pd_cons kp pd_str pd_nil))))) (by simp)) (pd_cons kp (pd_tup (pd_cons kp pd_str (pd_cons kp pd_int pd_nil)) (by simp)) pd_nil)))))) pa_nil)))))))), ?_⟩
    refine ⟨⟨rfl, hs⟩, fun v1 H1 s1 d1 => ⟨by rw [dps_len d1, sizeLine_eq]; simp, fun l1 n1 => ?_⟩⟩
    have c1 : Same H (upd H1 l1 (.lst v1)) := s1.trans (sn n1)
    have e1 : (upd H1 l1 (.lst v1)) l1 = some (.lst v1) := upd_same
    have a1 := dps_same (sn (o := .lst v1) n1) d1
    have z1 := dps_len d1
    clear d1 s1
    generalize upd H1 l1 (.lst v1) = G1 at c1 e1 a1 ⊢
    refine ⟨_, rfl, ⟨rfl, sqT_same hs c1⟩, fun v2 H2 s2 d2 => ⟨by rw [dps_len d2, sizeLine_eq]; simp, fun m2 nm2 => ?_⟩⟩
    have t2 := s2.trans (sn (o := .lst v2) nm2)
    refine ⟨l1, m2, _, _, rfl, rfl, t2 _ _ e1, upd_same, by rw [z1, dps_len d2, sizeLine_eq]; simp, fun l2 n2 => ?_⟩
    have u2 := t2.trans (sn (o := .lst (v1 ++ v2)) n2)
    have c2 := c1.trans u2
    have e2 := upd_same (H := upd H2 m2 (.lst v2)) (a := l2) (o := .lst (v1 ++ v2))
    have a2 := dps_app (dps_same u2 a1) (dps_same ((sn (o := .lst v2) nm2).trans (sn (o := .lst (v1 ++ v2)) n2)) d2)
    have z2 : (v1 ++ v2).length = 13 := by rw [List.length_append, z1, dps_len d2]; rfl
    generalize upd (upd H2 m2 (.lst v2)) l2 (.lst (v1 ++ v2)) = G2 at c2 e2 a2 ⊢
    generalize hv2 : v1 ++ v2 = y2 at e2 a2 z2 ⊢
    refine ⟨_, rfl, ⟨rfl, sqT_same hs c2⟩, fun v3 H3 s3 d3 => ⟨by rw [dps_len d3, sizeLine_eq]; simp, fun m3 nm3 => ?_⟩⟩
    have t3 := s3.trans (sn (o := .lst v3) nm3)
    refine ⟨l2, m3, _, _, rfl, rfl, t3 _ _ e2, upd_same, by rw [z2, dps_len d3, sizeLine_eq]; simp, fun l3 n3 => ?_⟩
    have u3 := t3.trans (sn (o := .lst (y2 ++ v3)) n3)
    have c3 := c2.trans u3
    have e3 := upd_same (H := upd H3 m3 (.lst v3)) (a := l3) (o := .lst (y2 ++ v3))
    have a3 := dps_app (dps_same u3 a2) (dps_same ((sn (o := .lst v3) nm3).trans (sn (o := .lst (y2 ++ v3)) n3)) d3)
    have z3 : (y2 ++ v3).length = 17 := by rw [List.length_append, z2, dps_len d3]; rfl
    generalize upd (upd H3 m3 (.lst v3)) l3 (.lst (y2 ++ v3)) = G3 at c3 e3 a3 ⊢
    generalize hv3 : y2 ++ v3 = y3 at e3 a3 z3 ⊢
    refine ⟨_, rfl, ⟨rfl, sqT_same hs c3⟩, fun v4 H4 s4 d4 => ⟨by rw [dps_len d4, sizeLine_eq]; simp, fun m4 nm4 => ?_⟩⟩
    have t4 := s4.trans (sn (o := .lst v4) nm4)
    refine ⟨l3, m4, _, _, rfl, rfl, t4 _ _ e3, upd_same, by rw [z3, dps_len d4, sizeLine_eq]; simp, fun l4 n4 => ?_⟩
    have u4 := t4.trans (sn (o := .lst (y3 ++ v4)) n4)
    have c4 := c3.trans u4
    have e4 := upd_same (H := upd H4 m4 (.lst v4)) (a := l4) (o := .lst (y3 ++ v4))
    have a4 := dps_app (dps_same u4 a3) (dps_same ((sn (o := .lst v4) nm4).trans (sn (o := .lst (y3 ++ v4)) n4)) d4)
    have z4 : (y3 ++ v4).length = 19 := by rw [List.length_append, z3, dps_len d4]; rfl
    generalize upd (upd H4 m4 (.lst v4)) l4 (.lst (y3 ++ v4)) = G4 at c4 e4 a4 ⊢
    generalize hv4 : y3 ++ v4 = y4 at e4 a4 z4 ⊢
    refine ⟨_, rfl, _, rfl, ⟨rfl, sqT_same hs c4⟩, fun v5 H5 s5 d5 => ⟨by rw [dps_len d5, sizeLine_eq]; simp, fun m5 nm5 => ?_⟩⟩
    have t5 := s5.trans (sn (o := .lst v5) nm5)
    have z5 : v5.length = 4 := by rw [dps_len d5]; rfl
    refine ⟨l4, m5, _, _, rfl, rfl, t5 _ _ e4, upd_same, by rw [z4, z5, sizeLine_eq]; simp, fun l5 n5 => ?_⟩
    have u5 := t5.trans (sn (o := .lst (y4 ++ v5)) n5)
    have c5 := c4.trans u5
    have a5 := dps_app (dps_same u5 a4) (dps_same ((sn (o := .lst v5) nm5).trans (sn (o := .lst (y4 ++ v5)) n5)) d5)
    have D5 := D.same c5
    have D4 := D.same (c4.trans t5)
    have hy : (y4 ++ v5).length = 23 := by rw [List.length_append, z4, z5]
    refine ⟨p, l5, x, y, z, _, rfl, D5, ne_of_none D4.at_ n5, upd_same, by rw [hy]; decide, by rw [hy]; decide, fun j v x' z' H' hj D' _ k' => ?_⟩
    obtain ⟨d, hd, dv⟩ := dps_at a5 hj
    have hb : d ∈ bads row := hd
    exact k v d x' z' H' hb (dp_but D5.at_ k' dv (bads_clean hrow d hb)) D' ((But.of c5).trans k')
end
end K8
/-! _law_told: what a call returns, or a word for its error. -/
namespace K8
open PySem PySem.Spec PyProof.Rows L2 K0 K1 M46 LamX

/-- the one of two words that an error of a lambda's call is told by -/
def TTold (CP CO : Addr) : (XK → Hp → VK → Prop) → Hp → VK → Prop := fun tl H Q =>
  tl (fun cls _ H' => (cls = .ref CP ∧ Q (.str "parse") H') ∨ (cls = .ref CO ∧ Q (.str "operation") H')) H Q
/-- what the top says of the two errors together -/
structure TwoX (K : PySem.W.Frag) (CP CO : Addr) : Prop where
  pp : PySem.W.exmOne K (.ref CP) (.ref CP) = some true
  op : PySem.W.exmOne K (.ref CO) (.ref CP) = some false
  oo : PySem.W.exmOne K (.ref CO) (.ref CO) = some true
theorem scTold : FnScope ["_law_call"] ["_law_call"] (defScope sTold) := ⟨rfl, rfl, rfl, by decide +kernel, rfl, by decide +kernel, by decide +kernel⟩
theorem two_gives {X : Cx} {Ng : List PySem.Str} {x a e1 e2 q r1 r2 : PySem.Str} {sg : Scope} {g C1 C2 : Addr} {cdg : Value} {j1 j2 : Nat} {p1 p2 p3 p4 p5 p6 p7 p8 p9 pa pb pc : Pos} (h1 : sg.names.lookup e1 = some .globalImplicit) (h2 : sg.names.lookup e2 = some .globalImplicit) (m1 : X.mg e1 = some (.ref C1)) (m2 : X.mg e2 = some (.ref C2))
    (d1 : (e1 == ("__debug__" : PySem.Str)) = false) (d2 : (e2 == ("__debug__" : PySem.Str)) = false) (h0 : ∀ f : Addr, (L2.start Ng [V.ref f])[0]? = some (some (V.ref f))) (TT : (XK → Hp → VK → Prop) → Hp → VK → Prop)
    (hTT : ∀ tl H Q, TT tl H Q → ∃ Ech : XK, tl Ech H Q ∧ ∀ cls d H', Ech cls d H' → ∃ b, PySem.W.exmOne X.K cls (.ref C1) = some b ∧ (b = true → Q (.str r1) H') ∧ (b = false → ∃ c, PySem.W.exmOne X.K cls (.ref C2) = some c ∧ (c = true → Q (.str r2) H') ∧ (c = false → False))) :
    GivesTo X Ng x sg g cdg [.Try [.Return (some (.Call (.Name a p1) [] [] p2)) p3] [.ExceptHandler (some (.Name e1 p4)) none [.Return (some (.Constant (.str r1) j1 p5)) p6] p7, .ExceptHandler (some (.Name e2 p8)) none [.Return (some (.Constant (.str r2) j2 p9)) pa] pb] [] [] pc] a q TT := by
  intro f c' s H Q tl act hc h
  have g1 : Gl (cxOf C8.CX0 X.prog X.w X.K X.mg X.base Ng x sg g cdg X.A X.stack s H C8.E0).nox e1 := h1
  have g2 : Gl (cxOf C8.CX0 X.prog X.w X.K X.mg X.base Ng x sg g cdg X.A X.stack s H C8.E0).nox e2 := h2
  refine ⟨_, pss_one (ps_try_many (X := (cxOf C8.CX0 X.prog X.w X.K X.mg X.base Ng x sg g cdg X.A X.stack s H C8.E0).nox) (l := [(.ref C1, fun _ _ _ => _), (.ref C2, fun _ _ _ => _)])
      (tb := fun W D σ H => ∃ Ech : XK, (∀ cls d σ' H', Ech cls d H' → W cls d σ' H') ∧ σ[0]? = some (some (.ref f)) ∧ H c' = some (CodeO c' q) ∧ tl Ech H D.rt)
      rfl rfl L2.takes0 (fun W pn xe tk _ => ?_) (.cons ⟨g1, d1, .inl m1⟩ (fun a oe cls d pn _ _ => pss_one (ps_ret pe_str)) (.cons ⟨g2, d2, .inl m2⟩ (fun a oe cls d pn _ _ => pss_one (ps_ret pe_str)) .nil))), ?_⟩
  · refine ⟨fun pins s' σ H' D I h' => ?_⟩
    obtain ⟨Ech, hW, k1, k2, k3⟩ := h'
    exact (pss_one (ps_ret (pos := p3) (act W pn xe Ech p1 p2 tk hW))).run pins s' σ H' D I ⟨k1, k2, k3⟩
  · obtain ⟨Ech, t1, t2⟩ := hTT _ _ _ h
    exact ⟨Ech, fun cls d σ' H' z => let ⟨b, z1, z2, z3⟩ := t2 cls d H' z; ⟨b, z1, fun hb a _ => z2 hb, fun hb => let ⟨c, y1, y2, y3⟩ := z3 hb; ⟨c, y1, fun hc a _ => y2 hc, fun hc => y3 hc⟩⟩, h0 f, hc, t1⟩
theorem told_two {X : Cx} {q : PySem.Str} {g CP CO : Addr} {cdg : Value} (mP : X.mg "ParseError" = some (.ref CP)) (mO : X.mg "InvalidOperation" = some (.ref CO)) (Z : TwoX X.K CP CO) :
    GivesTo X ["_law_call"] "_law_told" (defScope sTold) g cdg (defBody sTold) "_law_call" q (TTold CP CO) := by
  refine two_gives (e1 := "ParseError") (e2 := "InvalidOperation") rfl rfl mP mO (by decide) (by decide) (fun _ => rfl) _ fun tl H Q h => ?_
  refine ⟨_, h, fun cls d H' z => ?_⟩
  rcases z with ⟨rfl, z⟩ | ⟨rfl, z⟩
  · exact ⟨true, Z.pp, fun _ => z, (fun z => nomatch z)⟩
  · exact ⟨false, Z.op, (fun z => nomatch z), fun _ => ⟨true, Z.oo, fun _ => z, (fun z => nomatch z)⟩⟩
end K8
/-! What stays where tables of code objects grow (made by gG.py). -/
namespace K8
open PySem PySem.Spec PyProof.Rows L2 K0 K1 M46 LamX

section
variable {K : PySem.W.Frag} {H H' : Hp}
theorem ext_at {a : Addr} {o : HO} (s : ExtN H H') (e : H a = some o) (n : ∀ ps, o ≠ .tbl ps := by intro ps z; cases z) : H' a = some o := s a o e n
theorem tyx_ext {v : V} {t : Value} (h : TyX K H v t) (s : ExtN H H') : TyX K H' v t := by
  cases h with
  | base b =>
    refine .base ?_
    cases b with
    | non => exact .non
    | bl x => exact .bl x
    | int i => exact .int i
    | str x => exact .str x
    | flt x => exact .flt x
    | lst e => exact .lst (ext_at s e)
    | frz e => exact .frz (ext_at s e)
    | tup e => exact .tup (ext_at s e)
    | dK e => exact .dK (ext_at s e)
    | dT e => exact .dT (ext_at s e)
    | ins e cl ha hn htk hm => exact .ins (ext_at s e) cl ha hn htk hm
  | byt b => exact .byt b
  | set e => exact .set (ext_at s e)
  | kList e c => exact .kList e c
  | kTuple e c => exact .kTuple e c
  | kDict e c => exact .kDict e c
  | fTuple e => exact .fTuple (ext_at s e)
  | fDict e => exact .fDict (ext_at s e)
theorem sqT_ext {a : Addr} {xs : List V} (h : SqT K H a xs) (s : ExtN H H') : SqT K H' a xs := by
  rcases h with (h | ⟨o, h⟩) | h
  · exact .inl (.inl (ext_at s h))
  · exact .inl (.inr ⟨o, ext_at s h⟩)
  · exact .inr h
theorem sqL_ext {a : Addr} {xs : List V} (h : SqL K H a xs) (s : ExtN H H') : SqL K H' a xs := by
  rcases h with (h | ⟨o, h⟩) | h
  · exact .inl (.inl (ext_at s h))
  · exact .inl (.inr ⟨o, ext_at s h⟩)
  · exact .inr h
mutual
theorem dp_ext (s : ExtN H H') : ∀ {v : V} {d : PyData}, Dp K H v d → Dp K H' v d
  | _, _, .non => .non
  | _, _, .bl b => .bl b
  | _, _, .int i => .int i
  | _, _, .str x => .str x
  | _, _, .lst h hs => .lst (sqL_ext h s) (dps_ext s hs)
  | _, _, .tup h hs => .tup (sqT_ext h s) (dps_ext s hs)
theorem dps_ext (s : ExtN H H') : ∀ {vs : List V} {ds : List PyData}, DpAll K H vs ds → DpAll K H' vs ds
  | _, _, .nil => .nil
  | _, _, .cons h t => .cons (dp_ext s h) (dps_ext s t)
end
theorem nv_ext {v : V} {o : Option PySem.Str} (h : Nv K H v o) (s : ExtN H H') : Nv K H' v o := by
  cases h with
  | str x h => exact .str x h
  | no ty h => exact .no (tyx_ext ty s) h
theorem tv_ext {v : V} {o : Option (List V)} (h : Tv K H v o) (s : ExtN H H') : Tv K H' v o := by
  cases h with
  | tup e ty => exact .tup (sqT_ext e s) (tyx_ext ty s)
  | no ty h => exact .no (tyx_ext ty s) h
theorem ext_of (s : Same H H') : ExtN H H' := ExtN.of s
/-- the dice alone may change: the tables stand -/
theorem tabs_but {T : List (Addr × PySem.Str)} {p : Addr} {x y z : Int} (D : Dice H p x y z) (t : Tabs T H) (s : ∀ b o, b ≠ p → H b = some o → H' b = some o) : Tabs T H' := fun q hq => by
  obtain ⟨ps, h1, h2, h3⟩ := t q hq
  have hd := D.at_
  refine ⟨ps, s _ _ (ne_of h1 hd (by intro z; cases z)) h1, h2, fun pos cv hc => ?_⟩
  obtain ⟨c, e1, e2⟩ := h3 pos cv hc
  exact ⟨c, e1, s _ _ (ne_of e2 hd (by intro z; unfold CodeO at z; cases z)) e2⟩
theorem dice_ext {p : Addr} {x y z : Int} (D : Dice H p x y z) (s : ExtN H H') : Dice H' p x y z := ⟨ext_at s D.at_, D.x0, D.x1, D.y0, D.y1, D.z0⟩
end
/-- a def that is called where no repr is under way, whose code object is known -/
theorem fng_ofC {P : Program} {w : World} {K : PySem.W.Frag} {mg : PySem.Str → Option Value} {base : Heap} {k : Nat} {f c : Addr} {x qual : PySem.Str} {st : Stmt} {fd : FuncData} {N ps : List PySem.Str} {sp : Sp} (F : Fun K x qual st f fd) (hc : fd.code = .ref c) (S : FnScope N ps (defScope st)) (len : ∀ vs H Q E, sp vs H Q E → vs.length = ps.length)
    (hbody : ∀ (A : Around) (outer : List Env) (s : Shared) (H : Hp) (vs : List V) (Q : VK) (E : XK), A.guards = some [] → Room k (A.deeper (envOfC qual (defScope st) s.heap.objs.size f (.ref c))) → sp vs H Q E →
      ∃ t, PSs (cxOf CX0 P w K mg base N qual (defScope st) f (.ref c) A outer s H E).nox (defBody st) t ∧ t { nx := fun _ H' => Q .non H', rt := Q } (start N vs) H) : FnG P w K mg base (k + 1) f fd ps sp := by
  obtain ⟨oc, od, kV, doc, pm, an, cdv, ct, osl, rfl, lk, hcd⟩ := F.ex
  obtain rfl : cdv = .ref c := hc
  refine ⟨len, fun A outer s H args us vs Q E hg hr e0 hb r hsp => ?_⟩
  refine run_ofS (N := N) (ps := ps) lk hcd S hr e0 hb r (len _ _ _ _ hsp) fun hr' => ?_
  obtain ⟨t, ht, hq⟩ := hbody A outer s H vs Q E hg hr' hsp
  exact ⟨t, ht.nox, hq⟩
/-- the dice apart -/
def Bp (p : Addr) (H H' : Hp) : Prop := ∀ b o, b ≠ p → (∀ ps, o ≠ .tbl ps) → H b = some o → H' b = some o
theorem Bp.ext {p : Addr} {H H1 H2 : Hp} (a : Bp p H H1) (b : ExtN H1 H2) : Bp p H H2 := fun c o hc n e => b c o (a c o hc n e) n
theorem Bp.but {p : Addr} {H H1 H2 : Hp} (a : Bp p H H1) (b : ∀ c o, c ≠ p → H1 c = some o → H2 c = some o) : Bp p H H2 := fun c o hc n e => b c o hc (a c o hc n e)
theorem Bp.refl (p : Addr) (H : Hp) : Bp p H H := fun _ _ _ _ e => e
/-- a list that is written: the tables stand -/
theorem tabs_upd {T : List (Addr × PySem.Str)} {H : Hp} {l : Addr} {xs ys : List V} (t : Tabs T H) (h : H l = some (.lst xs)) : Tabs T (upd H l (.lst ys)) := fun q hq => by
  obtain ⟨ps, h1, h2, h3⟩ := t q hq
  refine ⟨ps, by rw [upd_ne (ne_of h1 h (by intro z; cases z))] <;> exact h1, h2, fun pos cv hc => ?_⟩
  obtain ⟨c, e1, e2⟩ := h3 pos cv hc
  exact ⟨c, e1, by rw [upd_ne (ne_of e2 h (by intro z; unfold CodeO at z; cases z))] <;> exact e2⟩
theorem ext_upd {H H' : Hp} {l : Addr} {o : HO} (s : ExtN H H') (n : H l = none) : ExtN H (upd H' l o) := fun b u e m => by
  rw [upd_ne (ne_of_none e n)]
  exact s b u e m
section
variable {K : PySem.W.Frag} {H H' : Hp}
theorem sv_ext {v : V} {r : Bool} (h : Sv K H v r) (s : ExtN H H') : Sv K H' v r := by
  cases h with
  | no h => exact .no (tv_ext h s)
  | nil h => exact .nil (tv_ext h s)
  | bad h hs hl hf => exact .bad (tv_ext h s) (paired_map (fun a b q => nv_ext q s) hs) hl hf
  | tup h hs hl hf hd sd => exact .tup (tv_ext h s) (paired_map (fun a b q => nv_ext q s) hs) hl hf (dp_ext s hd) sd
theorem ws_ext {v : V} {ws : List PySem.Str} (h : Ws K H v ws) (s : ExtN H H') : Ws K H' v ws :=
  let ⟨a, e, q, t⟩ := h
  ⟨a, e, sqT_ext q s, tyx_ext t s⟩
theorem fv_ext {v : V} {o : Option (List (List PySem.Str))} (h : Fv K H v o) (s : ExtN H H') : Fv K H' v o := by
  cases h with
  | no h => exact .no (tv_ext h s)
  | bad h hs hl hf => exact .bad (tv_ext h s) (paired_map (fun a b q => sv_ext q s) hs) hl hf
  | good h hs hl hf => exact .good (tv_ext h s) (paired_map (fun a b q => ws_ext q s) hs) hl hf
end
end K8
/-! Texts near the text of steps. -/
namespace K8
open PySem PySem.Spec PyProof.Rows L2 K0 K1 M46 TL

/-- words of a line -/
structure Wf (ws : List PySem.Str) : Prop where
  ne : ws ≠ []
  len : ws.length ≤ 8
  word : ∀ w ∈ ws, w.length ≤ 8 ∧ PyData.strOk w = true ∧ 32 ∉ tl w ∧ 10 ∉ tl w
structure Lines (rows : List (List PySem.Str)) : Prop where
  ne : rows ≠ []
  len : rows.length ≤ 20
  row : ∀ ws ∈ rows, Wf ws
theorem Wf.sum {ws : List PySem.Str} (h : Wf ws) : (ws.map (·.length)).sum + ws.length ≤ 1000 := by
  have b := join_le (y := " ") (n := 8) (ps := ws) fun p hp => (h.word p hp).1
  have e : (" " : PySem.Str).length = 1 := by decide +kernel
  rw [e] at b
  have := h.len
  have : ws.length * (8 + 1) ≤ 8 * (8 + 1) := Nat.mul_le_mul_right _ h.len
  omega
theorem Lines.small {rows : List (List PySem.Str)} (h : Lines rows) : Small rows :=
  ⟨by have := h.len; omega, fun ws hw => ⟨by have := (h.row ws hw).len; omega, fun w hw2 => ⟨by have := ((h.row ws hw).word w hw2).1; omega, ((h.row ws hw).word w hw2).2.1⟩, (h.row ws hw).sum⟩⟩
theorem Lines.free {rows : List (List PySem.Str)} (h : Lines rows) : Free rows := fun ws hw => ⟨(h.row ws hw).ne, fun w hw2 => ((h.row ws hw).word w hw2).2.2⟩
theorem Lines.stt {rows : List (List PySem.Str)} {t : PySem.Str} (h : Lines rows) (e : t = stTxt rows) (hn : t.length ≠ 0) : StT t rows := ⟨h.small, .inr ⟨hn, h.ne, h.free, e⟩⟩
/-- a text that parse_steps refuses -/
def NoSt (t : PySem.Str) : Prop := ∃ rows, StT t rows ∧ rows.all stpW = false
theorem noSt {rows : List (List PySem.Str)} {t : PySem.Str} (h : Lines rows) (e : t = stTxt rows) (hn : t.length ≠ 0) {ws : List PySem.Str} (hw : ws ∈ rows) (hb : stpW ws = false) : NoSt t :=
  ⟨rows, h.stt e hn, by rw [Bool.eq_false_iff]; intro z; rw [List.all_eq_true.mp z ws hw] at hb; cases hb⟩
theorem joinL_snoc {Z p : List Nat} : ∀ {ps : List (List Nat)}, ps ≠ [] → joinL Z (ps ++ [p]) = joinL Z ps ++ (Z ++ p)
  | [], h => absurd rfl h
  | [q], _ => rfl
  | q :: r :: rest, _ => by
    show q ++ (Z ++ joinL Z ((r :: rest) ++ [p])) = (q ++ (Z ++ joinL Z (r :: rest))) ++ (Z ++ p)
    rw [joinL_snoc (by simp), List.append_assoc, List.append_assoc]
theorem joinL_last {Z p x : List Nat} : ∀ {ps : List (List Nat)}, joinL Z (ps ++ [p ++ x]) = joinL Z (ps ++ [p]) ++ x
  | [] => rfl
  | [q] => by
    show q ++ (Z ++ (p ++ x)) = (q ++ (Z ++ p)) ++ x
    simp only [List.append_assoc]
  | q :: r :: rest => by
    rw [joinL_snoc (by simp), joinL_snoc (by simp)]
    simp only [List.append_assoc]
theorem joinL_first {Z p x : List Nat} : ∀ {ps : List (List Nat)}, joinL Z ((x ++ p) :: ps) = x ++ joinL Z (p :: ps)
  | [] => rfl
  | q :: r => by
    show (x ++ p) ++ (Z ++ joinL Z (q :: r)) = x ++ (p ++ (Z ++ joinL Z (q :: r)))
    rw [List.append_assoc]
theorem tl_txt (rows : List (List PySem.Str)) : tl (stTxt rows) = joinL [10] (rows.map fun ws => joinL [32] (ws.map tl)) := by
  unfold stTxt
  rw [TL.join_eq, tl_join, tl_line, List.map_map]
  congr 1
  refine List.map_congr_left fun ws _ => ?_
  show tl (Txt.join " " ws) = _
  rw [TL.join_eq, tl_join, tl_blank]
theorem txt_more {rows : List (List PySem.Str)} {ws : List PySem.Str} (h : rows ≠ []) : stTxt (rows ++ [ws]) = stTxt rows ++ ("\n" : PySem.Str) ++ Txt.join " " ws := by
  refine ext_tl ?_
  rw [tl_txt, List.map_append, tl_append, tl_append, tl_txt, tl_line]
  show joinL [10] (_ ++ [joinL [32] (ws.map tl)]) = _
  rw [joinL_snoc (by simpa using h), TL.join_eq, tl_join, tl_blank, List.append_assoc]
theorem tl_empty : tl ("" : PySem.Str) = [] := by decide +kernel
theorem txt_last {rows : List (List PySem.Str)} {ws : List PySem.Str} (h : ws ≠ []) : stTxt (rows ++ [ws ++ [("" : PySem.Str)]]) = stTxt (rows ++ [ws]) ++ (" " : PySem.Str) := by
  refine ext_tl ?_
  rw [tl_append, tl_txt, tl_txt, List.map_append, List.map_append, tl_blank]
  show joinL [10] (_ ++ [joinL [32] ((ws ++ [("" : PySem.Str)]).map tl)]) = joinL [10] (_ ++ [joinL [32] (ws.map tl)]) ++ [32]
  have e : joinL [32] ((ws ++ [("" : PySem.Str)]).map tl) = joinL [32] (ws.map tl) ++ [32] := by
    rw [List.map_append, show ([("" : PySem.Str)].map tl) = [[]] by rw [List.map_singleton, tl_empty], joinL_snoc (by simpa using h), List.append_nil]
  rw [e, joinL_last]
theorem txt_first {rows : List (List PySem.Str)} {ws : List PySem.Str} (h : ws ≠ []) : stTxt ((("" : PySem.Str) :: ws) :: rows) = (" " : PySem.Str) ++ stTxt (ws :: rows) := by
  refine ext_tl ?_
  rw [tl_append, tl_txt, tl_txt, tl_blank]
  obtain ⟨w, r, rfl⟩ : ∃ w r, ws = w :: r := by
    cases ws with
    | nil => exact absurd rfl h
    | cons w r => exact ⟨w, r, rfl⟩
  show joinL [10] ((tl ("" : PySem.Str) ++ ([32] ++ joinL [32] ((w :: r).map tl))) :: _) = [32] ++ joinL [10] (joinL [32] ((w :: r).map tl) :: _)
  rw [tl_empty, List.nil_append, joinL_first]
end K8
/-! The texts that the law says are none of steps. -/
namespace K8
open PySem PySem.Spec PyProof.Rows L2 K0 K1 M46 TL

theorem wf_nm {ws : List PySem.Str} (h0 : ws ≠ []) (hl : ws.length ≤ 8) (h : ∀ w ∈ ws, nm w = true ∨ w = "") : Wf ws := by
  refine ⟨h0, hl, fun w hw => ?_⟩
  rcases h w hw with h | rfl
  · obtain ⟨_, h2, h3⟩ := nm_facts h
    refine ⟨h2, (nm_ok h).2, fun z => ?_, fun z => ?_⟩
    · have := h3 _ z; omega
    · have := h3 _ z; omega
  · decide +kernel
theorem Row.nms {row : List PySem.Str} (h : Row row) : ∀ w ∈ row, nm w = true := by
  have a1 : nm "wish" = true := by decide +kernel
  have a2 : nm "p" = true := by decide +kernel
  cases h with
  | wish hn hk hb =>
    intro w hw
    simp only [List.mem_cons, List.not_mem_nil, or_false] at hw
    rcases hw with rfl | rfl | rfl | rfl | rfl
    · exact a1
    · exact hn
    · exact hk
    · exact a2
    · rcases hb with rfl | rfl | rfl <;> decide +kernel
  | two hw hn =>
    intro w h
    simp only [List.mem_cons, List.not_mem_nil, or_false] at h
    rcases h with rfl | rfl
    · rcases hw with rfl | rfl | rfl <;> decide +kernel
    · exact hn
theorem Row.wf {row : List PySem.Str} (h : Row row) : Wf row := wf_nm (by have := h.len; intro z; rw [z] at this; simp at this) (by have := h.len; omega) fun w hw => .inl (h.nms w hw)
theorem scr1 : scr (.str "send") = true := by decide +kernel
theorem scr2 : scr (.str "come") = true := by decide +kernel
theorem scr3 : scr (.str "read") = true := by decide +kernel
theorem Row.ok {row : List PySem.Str} (h : Row row) : stpW row = true := by
  cases h with
  | @wish n k b hn hk hb =>
    have a2 : nm "p" = true := by decide +kernel
    have hbn : nm b = true := by rcases hb with rfl | rfl | rfl <;> decide +kernel
    have hpb : ("p" : PySem.Str) ≠ b := by rcases hb with rfl | rfl | rfl <;> decide +kernel
    simp only [stpW, List.map_cons, List.map_nil, List.all_cons, List.all_nil, isNm, hn, hk, hbn, a2, stp, w1, if_true, ne34, Bool.true_and, Bool.and_true]
    rw [decide_eq_false (by simpa using hpb)]
    rfl
  | @two w n hw hn =>
    rcases hw with rfl | rfl | rfl
    · simp only [stpW, List.map_cons, List.map_nil, List.all_cons, List.all_nil, isNm, hn, stp, w2, Bool.true_and, Bool.and_true, Bool.false_eq_true, if_false, scr1, scr2, scr3]
      rfl
    · simp only [stpW, List.map_cons, List.map_nil, List.all_cons, List.all_nil, isNm, hn, stp, w3, Bool.true_and, Bool.and_true, Bool.false_eq_true, if_false, scr1, scr2, scr3]
      rfl
    · simp only [stpW, List.map_cons, List.map_nil, List.all_cons, List.all_nil, isNm, hn, stp, w4, Bool.true_and, Bool.and_true, Bool.false_eq_true, if_false, scr1, scr2, scr3]
      rfl
def few (t : PySem.Str) : List PySem.Str := [t ++ ("\n" : PySem.Str), t ++ (" " : PySem.Str), (" " : PySem.Str) ++ t, t ++ ("\nsend" : PySem.Str), t ++ ("\nsend  a" : PySem.Str), "send a\n\nread a"] ++ (["SEND a", "wish a k p p", "send a b", "come", "wish a k p q r", "send a,", "\n", " "] : List PySem.Str)
theorem few_lit : ∀ u ∈ (["send a\n\nread a", "SEND a", "wish a k p p", "send a b", "come", "wish a k p q r", "send a,", "\n", " "] : List PySem.Str), NoSt u := by
  have wfB : ∀ ws : List PySem.Str, (decide (ws ≠ []) && decide (ws.length ≤ 8) && ws.all fun w => decide (w.length ≤ 8) && PyData.strOk w && !(tl w).contains 32 && !(tl w).contains 10) = true → Wf ws := fun ws h => by
    simp only [Bool.and_eq_true, decide_eq_true_eq, List.all_eq_true, Bool.not_eq_true', List.contains_eq_mem, decide_eq_false_iff_not] at h
    exact ⟨h.1.1, h.1.2, fun w hw => ⟨(h.2 w hw).1.1.1, (h.2 w hw).1.1.2, (h.2 w hw).1.2, (h.2 w hw).2⟩⟩
  have mk : ∀ (u : PySem.Str) (rows : List (List PySem.Str)), (decide (rows ≠ []) && decide (rows.length ≤ 20) && (rows.all fun ws => decide (ws ≠ []) && decide (ws.length ≤ 8) && ws.all fun w => decide (w.length ≤ 8) && PyData.strOk w && !(tl w).contains 32 && !(tl w).contains 10) && decide (u = stTxt rows) && decide (u.length ≠ 0) && !rows.all stpW) = true → NoSt u := fun u rows h => by
    simp only [Bool.and_eq_true, decide_eq_true_eq, Bool.not_eq_true'] at h
    obtain ⟨⟨⟨⟨⟨h1, h2⟩, h3⟩, h4⟩, h5⟩, h6⟩ := h
    exact ⟨rows, Lines.stt ⟨h1, h2, fun ws hw => wfB ws (List.all_eq_true.mp h3 ws hw)⟩ h4 h5, h6⟩
  intro u hu
  simp only [List.mem_cons, List.not_mem_nil, or_false] at hu
  rcases hu with rfl | rfl | rfl | rfl | rfl | rfl | rfl | rfl | rfl
  · exact mk _ [["send", "a"], [""], ["read", "a"]] (by decide +kernel)
  · exact mk _ [["SEND", "a"]] (by decide +kernel)
  · exact mk _ [["wish", "a", "k", "p", "p"]] (by decide +kernel)
  · exact mk _ [["send", "a", "b"]] (by decide +kernel)
  · exact mk _ [["come"]] (by decide +kernel)
  · exact mk _ [["wish", "a", "k", "p", "q", "r"]] (by decide +kernel)
  · exact mk _ [["send", "a,"]] (by decide +kernel)
  · exact mk _ [[""], [""]] (by decide +kernel)
  · exact mk _ [["", ""]] (by decide +kernel)
theorem Wf.blank : Wf [("" : PySem.Str)] := wf_nm (by simp) (by simp) fun w hw => .inr (by simpa using hw)
theorem bad_blank : stpW [("" : PySem.Str)] = false := by decide +kernel
theorem bad_first (ws : List PySem.Str) : stpW (("" : PySem.Str) :: ws) = false := by
  have w0 : isWish (.str "") = false := by decide +kernel
  have s0 : scr (.str "") = false := by decide +kernel
  simp [stpW, stp, w0, s0]
theorem bad_last {w : PySem.Str} (ws : List PySem.Str) : stpW (w :: ws ++ [("" : PySem.Str)]) = false := by
  have n0 : nm "" = false := by decide +kernel
  simp [stpW, isNm, n0]
/-- rows that may stand as steps; no rows: a line of nothing -/
theorem few_no {rows : List (List PySem.Str)} (hr : ∀ ws ∈ rows, Row ws) (hl : rows.length ≤ 12) : ∀ u ∈ few (stTxt rows), NoSt u := by
  -- the same text, as lines
  obtain ⟨R, e, hR, hRl, hRn⟩ : ∃ R : List (List PySem.Str), stTxt R = stTxt rows ∧ (∀ ws ∈ R, Wf ws ∧ ws.length ≤ 5) ∧ R.length ≤ 12 ∧ R ≠ [] := by
    cases rows with
    | nil => exact ⟨[[""]], by decide +kernel, fun ws hw => by rw [List.mem_singleton.mp hw]; exact ⟨Wf.blank, by decide⟩, by decide, by simp⟩
    | cons a r => exact ⟨a :: r, rfl, fun ws hw => ⟨(hr ws hw).wf, (hr ws hw).len.2⟩, hl, by simp⟩
  rw [← e]
  clear hr e
  have e2 : ("\nsend" : PySem.Str) = ("\n" : PySem.Str) ++ ("send" : PySem.Str) := by decide +kernel
  have e3 : ("\nsend  a" : PySem.Str) = ("\n" : PySem.Str) ++ Txt.join " " ["send", "", "a"] := by decide +kernel
  have e4 : Txt.join " " [("" : PySem.Str)] = ("" : PySem.Str) := by decide +kernel
  have e5 : Txt.join " " [("send" : PySem.Str)] = ("send" : PySem.Str) := by decide +kernel
  have app0 : ∀ t : PySem.Str, t ++ ("" : PySem.Str) = t := fun t => ext_tl (by rw [tl_append, tl_empty, List.append_nil])
  have assoc : ∀ a b c : PySem.Str, a ++ b ++ c = a ++ (b ++ c) := fun a b c => ext_tl (by simp only [tl_append, List.append_assoc])
  have pos : ∀ a b : PySem.Str, b.length ≠ 0 → (a ++ b).length ≠ 0 := fun a b h => by rw [Str.length_append]; omega
  have pos' : ∀ a b : PySem.Str, a.length ≠ 0 → (a ++ b).length ≠ 0 := fun a b h => by rw [Str.length_append]; omega
  have add : ∀ ws : List PySem.Str, Wf ws → Lines (R ++ [ws]) := fun ws h => ⟨by simp, by rw [List.length_append, List.length_singleton]; omega, fun x hx => by
    rcases List.mem_append.mp hx with hx | hx
    · exact (hR x hx).1
    · rw [List.mem_singleton.mp hx]; exact h⟩
  have wf1 : Wf [("send" : PySem.Str)] := wf_nm (by simp) (by simp) fun w hw => .inl (by rw [List.mem_singleton.mp hw]; decide +kernel)
  have wf3 : Wf [("send" : PySem.Str), "", "a"] := wf_nm (by simp) (by simp) fun w hw => by
    simp only [List.mem_cons, List.not_mem_nil, or_false] at hw
    rcases hw with rfl | rfl | rfl
    · exact .inl (by decide +kernel)
    · exact .inr rfl
    · exact .inl (by decide +kernel)
  intro u hu
  simp only [few, List.mem_append, List.mem_cons, List.not_mem_nil, or_false] at hu
  rcases hu with (rfl | rfl | rfl | rfl | rfl | rfl) | hu
  · exact noSt (add _ Wf.blank) (by rw [txt_more hRn, e4, app0]) (pos _ _ (by decide +kernel)) (List.mem_append_right _ (List.mem_cons_self ..)) bad_blank
  · obtain ⟨A, r, rfl⟩ : ∃ A r, R = A ++ [r] := ⟨R.dropLast, R.getLast hRn, (List.dropLast_concat_getLast hRn).symm⟩
    obtain ⟨hr, hr5⟩ := hR r (List.mem_append_right _ (List.mem_cons_self ..))
    obtain ⟨w, ws, rfl⟩ : ∃ w ws, r = w :: ws := by
      cases r with
      | nil => exact absurd rfl hr.ne
      | cons w ws => exact ⟨w, ws, rfl⟩
    have hwf : Wf (w :: ws ++ [("" : PySem.Str)]) := ⟨by simp, by rw [List.length_append, List.length_singleton]; omega, fun x hx => by
      rcases List.mem_append.mp hx with hx | hx
      · exact hr.word x hx
      · exact Wf.blank.word x hx⟩
    refine noSt (rows := A ++ [w :: ws ++ [("" : PySem.Str)]]) ⟨by simp, by rw [List.length_append, List.length_singleton] at hRl ⊢; omega, fun x hx => ?_⟩ (txt_last (by simp)).symm (pos _ _ (by decide +kernel)) (List.mem_append_right _ (List.mem_cons_self ..)) (bad_last ws)
    rcases List.mem_append.mp hx with hx | hx
    · exact (hR x (List.mem_append_left _ hx)).1
    · rw [List.mem_singleton.mp hx]; exact hwf
  · obtain ⟨r, A, rfl⟩ : ∃ r A, R = r :: A := by
      cases R with
      | nil => exact absurd rfl hRn
      | cons r A => exact ⟨r, A, rfl⟩
    obtain ⟨hr, hr5⟩ := hR r (List.mem_cons_self ..)
    have hwf : Wf (("" : PySem.Str) :: r) := ⟨by simp, by rw [List.length_cons]; omega, fun x hx => by
      rcases List.mem_cons.mp hx with rfl | hx
      · exact Wf.blank.word _ (List.mem_cons_self ..)
      · exact hr.word x hx⟩
    refine noSt (rows := (("" : PySem.Str) :: r) :: A) ⟨by simp, by rw [List.length_cons] at hRl ⊢; omega, fun x hx => ?_⟩ (txt_first hr.ne).symm (pos' _ _ (by decide +kernel)) (List.mem_cons_self ..) (bad_first r)
    rcases List.mem_cons.mp hx with rfl | hx
    · exact hwf
    · exact (hR x (List.mem_cons_of_mem _ hx)).1
  · exact noSt (add _ wf1) (by rw [txt_more hRn, e5, e2, assoc]) (pos _ _ (by decide +kernel)) (List.mem_append_right _ (List.mem_cons_self ..)) (by decide +kernel)
  · exact noSt (add _ wf3) (by rw [txt_more hRn, e3, assoc]) (pos _ _ (by decide +kernel)) (List.mem_append_right _ (List.mem_cons_self ..)) (by decide +kernel)
  · exact few_lit _ (by simp)
  · exact few_lit _ (List.mem_cons_of_mem _ (by simpa using hu))
end K8
/-! str.replace with a count of one; a token that is out behind a written text. -/
namespace K8
open PySem PySem.Spec PyProof.Rows L2 PySem.Builtin PySem.Builtin.Str TL

/-- the first y of x made z -/
def rep1 (x y z : PySem.Str) : PySem.Str := if (occurrences x y 0 x.length 1).isEmpty = true then x else glued z (partsBetween x (occurrences x y 0 x.length 1) y.length)
theorem glued2 (z a b : PySem.Str) : glued z [a, b] = a ++ z ++ b := rfl
theorem rep1_app {y z : PySem.Str} {s : Nat} {S : List Nat} (ey : tl y = s :: S) {a b : PySem.Str} (h : s ∉ tl a) : rep1 (a ++ y ++ b) y z = a ++ z ++ b := by
  have hp := partition_app (a := a) (b := b) ey h
  unfold Txt.partition at hp
  unfold rep1
  have hl := StrLaws.occ_length_le (a ++ y ++ b) y 0 (a ++ y ++ b).length 1
  cases ho : occurrences (a ++ y ++ b) y 0 (a ++ y ++ b).length 1 with
  | nil =>
    rw [ho] at hp
    have h2 : y = Str.empty := by
      have := congrArg (fun p => p.2.1) hp
      exact this.symm
    rw [h2] at ey
    exact absurd ey (by intro z; cases z)
  | cons c r =>
    rw [ho] at hp hl
    have hr : r = [] := by
      cases r with
      | nil => rfl
      | cons d q => simp at hl
    subst hr
    have h1 := congrArg (fun p => p.1) hp
    have h2 := congrArg (fun p => p.2.2) hp
    rw [if_neg (by simp)]
    show glued z [strSub _ 0 c, strSub _ (c + y.length) _] = _
    rw [glued2]
    have h1 : strSub (a ++ y ++ b) 0 c = a := h1
    have h2 : strSub (a ++ y ++ b) (c + y.length) (a ++ y ++ b).length = b := h2
    rw [h1, h2]
section
variable {prog : Program} {w : World} {A : Around} {E : Value → Shared → Prop} {s : Shared} {x y z : PySem.Str} {t u v i : Tok} {Q : Value → Shared → Prop}
theorem gives_rep1 (x y z : PySem.Str) (t u v i : Tok) (h0 : u ≠ 0) (h1 : v ≠ 0) (huv : u ≠ v) (hyz : (y == z) = false) (hy : (y.length == 0) = false) (hl : tooLong (x.length + (occurrences x y 0 x.length 1).length * z.length) = false) :
    Gives («str.replace» ⟨[.str x t, .str y u, .str z v, .int 1 i], []⟩) (if (occurrences x y 0 x.length 1).isEmpty = true then .val (.str x t) else .str (glued z (partsBetween x (occurrences x y 0 x.length 1) y.length))) := by
  show Gives (if ((occurrences x y 0 x.length 1).isEmpty || (y.length == 0 && z.length == 0)) = true then (do rule "str.replace.nothing"; ret (.str x t)) else
          (do let same ← isSame (.str y u) (.str z v)
              if same = true then (do rule "str.replace.old-is-new"; ret (.str x t)) else
              if tooLong (x.length + (occurrences x y 0 x.length 1).length * z.length) = true then unsupported "str.replace:memory" else
              retStr (glued z (partsBetween x (occurrences x y 0 x.length 1) y.length)))) _
  rw [hy, Bool.false_and, Bool.or_false]
  cases hc : (occurrences x y 0 x.length 1).isEmpty
  · rw [isSame_str_other y z u v (by simp [h0, h1]) (by simp [huv]) hyz, hl]
    exact .of_eq rfl
  · exact .rule (.of_eq rfl)
end
end K8
/-! str.replace with a count of one: the reading; a token that is out. -/
namespace K8
open PySem PySem.Spec PyProof.Rows L2 PySem.Builtin PySem.Builtin.Str TL CwR

theorem rep1_len (x y z : PySem.Str) : (rep1 x y z).length ≤ x.length + z.length := by
  unfold rep1
  split
  · omega
  · have h1 := StrLaws.occ_length_le x y 0 x.length 1
    have hy : (glued y (partsBetween x (occurrences x y 0 x.length 1) y.length)).length = x.length := by rw [StrLaws.glued_between_self]
    rw [size_glued, length_partsBetween, Nat.add_sub_cancel] at hy
    rw [size_glued, length_partsBetween, Nat.add_sub_cancel]
    have h2 : (occurrences x y 0 x.length 1).length * z.length ≤ 1 * z.length := Nat.mul_le_mul_right _ h1
    omega
section
variable {prog : Program} {w : World} {A : Around} {E : Value → Shared → Prop} {s : Shared} {x y z : PySem.Str} {t u v i : Tok} {Q : Value → Shared → Prop}
theorem call_rep1 (h0 : u ≠ 0) (h1 : v ≠ 0) (huv : u ≠ v) (hyz : (y == z) = false) (hy : (y.length == 0) = false) (hb : x.length + z.length ≤ 1000000)
    (hq : ∀ t' k, Q (.str (rep1 x y z) t') { s with toks := k }) : wpAny (model prog w) A (call (.builtin "str.replace") [.str x t, .str y u, .str z v, .int 1 i]) Q E s := by
  have ho := StrLaws.occ_length_le x y 0 x.length 1
  have h2 : (occurrences x y 0 x.length 1).length * z.length ≤ 1 * z.length := Nat.mul_le_mul_right _ ho
  have hl : tooLong (x.length + (occurrences x y 0 x.length 1).length * z.length) = false := by
    unfold tooLong
    rw [sizeLine_eq]
    exact decide_eq_false (by omega)
  refine call_gives F.slot_str_replace (typeIs_str _ _ _) F.entry_str_replace (F.args_str_replace_4 _ _ _ _) (gives_rep1 x y z t u v i h0 h1 huv hyz hy hl) ?_
  have hz := rep1_len x y z
  unfold rep1 at hq hz
  cases hc : (occurrences x y 0 x.length 1).isEmpty
  · rw [hc] at hq hz
    simp only [Bool.false_eq_true, if_false] at hq hz ⊢
    exact ⟨by rw [sizeLine_eq]; omega, hq _ _⟩
  · rw [hc] at hq
    simp only [if_true] at hq ⊢
    exact hq t s.toks
end
def tRep1 (to : TE) (y z : PySem.Str) : TE := fun σ H Q => to σ H fun v H1 => ∃ x, v = .str x ∧ x.length + z.length ≤ 1000000 ∧ Q (.str (rep1 x y z)) H1
section
variable {X : Cx} {o e f : Expr} {te tf : TE} {to : TE} {y z : PySem.Str} {j k l : Nat} {c0 c1 c2 apos pos p p' : Pos}
theorem pet_rep1 (ho : PE X o to) (hyz : (y == z) = false := by decide) (hy : (y.length == 0) = false := by decide +kernel)
    (hst : starEach [.Constant (.str y) j c0, .Constant (.str z) k c1, .Constant (.int 1) l c2] X.env = [(false, eval (.Constant (.str y) j c0) X.env), (false, eval (.Constant (.str z) k c1) X.env), (false, eval (.Constant (.int 1) l c2) X.env)] := by rfl)
    (hbase : attributeBase o "replace" X.env (eval o X.env) = eval o X.env := by rfl) (hline : (apos.endLine == pos.line) = true := by rfl) :
    PET X (.Call (.Attribute o "replace" apos) [.Constant (.str y) j c0, .Constant (.str z) k c1, .Constant (.int 1) l c2] [] pos) (tRep1 to y z) := by
  intro pins s σ H Q h0 I h
  refine PySem.wpAny_Call_method_lateS hbase (by rw [hst]; rfl) hline ?_
  rw [hst]
  refine wpAny_mono (PySem.wpAny_toks (ho.run pins s σ H _ I h)) (fun v s1 q => ?_) fun _ _ z => z.2
  obtain ⟨hk, v', H1, I1, r1, x, e1, hb, q⟩ := q
  subst e1
  obtain ⟨tx, e2⟩ := r1
  subst e2
  refine ⟨"str", _, PySem.F.plainAttrs_str, PySem.F.slot_str_replace, PySem.F.type_str_replace, typeIs_str _ _ _, (fun _ e => nomatch e), Calls.callWith_builtin rfl (Calls.evalArgs_plain (Calls.spliced_cons ?_))⟩
  refine Calls.Constant_str (k := j) (pos := c0) (Calls.spliced_cons (Calls.Constant_str (k := k) (pos := c1) (Calls.spliced_cons (wpAny_Constant_int (k := l) (pos := c2) (Calls.spliced_nil ?_)))))
  exact call_rep1 (by show s1.toks ≠ 0; omega) (by show s1.toks + 1 ≠ 0; omega) (by show s1.toks ≠ s1.toks + 1; omega) hyz hy hb fun t' k => ⟨.str (rep1 x y z), H1, I1.tok k, ⟨t', rfl⟩, q⟩
/-- a list whose first item adds a written text: behind it a token is out; the name it is stored under, and what follows -/
theorem pss_tok {i : Nat} {n : PySem.Str} {c : PySem.Str} {es : List Expr} {rest : List Stmt} {op : Operator} {r : R2} {ta : TA} {u : TS} {c3 p1 p2 p3 p4 : Pos} {kk : Nat} (hN : X.N.Nodup) (hi : X.N[i]? = some n) (hx : Loc X.env.scope n) (hop : OpR X (binaryOp op) r) (he : PE X e te) (hr : PAT X es ta) (h2 : PSsT X rest u)
    (hst : starEach (.BinOp e op (.Constant (.str c) kk c3) p1 :: es) X.env = (false, eval (.BinOp e op (.Constant (.str c) kk c3) p1) X.env) :: starEach es X.env := by rfl)
    (hs : swapsWith (.List (.BinOp e op (.Constant (.str c) kk c3) p1 :: es) p2) (some (.Name n p3)) p4.line X.env = pure false := by rfl) (hf : X.fn n = true ∨ X.env.scope.names.lookup n = some .local := by first | exact .inl rfl | exact .inr rfl | assumption) :
    PSs X (.Assign [.Name n p3] (.List (.BinOp e op (.Constant (.str c) kk c3) p1 :: es) p2) p4 :: rest) (tSeq (tAsg (tLst (tCons (tOp r te (tC (.str c))) ta)) (gName i)) u) := by
  refine ⟨fun pins s σ H D I h => ?_⟩
  refine wpAny_execs_cons (wpAny_Assign_Name (wpAny_List_spliced ?_) hs)
  rw [hst]
  refine Calls.spliced_cons (wpAny_BinOp (wpAny_mono (PySem.wpAny_toks (he.run pins s σ H _ I h)) (fun v s1 q => ?_) fun _ _ z => z.2))
  obtain ⟨h1, x, H1, I1, r1, q1⟩ := q
  refine Calls.Constant_str ?_
  refine wpAny_mono (PySem.wpAny_toks (hop pins _ σ H1 x (.str c) v (.str c s1.toks) _ (I1.tok (s1.toks + 1)) r1 ⟨_, rfl⟩ q1)) (fun v2 s2 q => ?_) fun _ _ z => z.2
  obtain ⟨h2', x2, H2, I2, r2, q2⟩ := q
  have t2 : 1 ≤ s2.toks := by
    have : s1.toks + 1 ≤ s2.toks := h2'
    omega
  refine wpAny_mono (PySem.wpAny_toks (hr p2 pins s2 σ H2 _ t2 I2 q2)) (fun us s3 q => ?_) fun _ _ z => z.2
  obtain ⟨h3, xs, H3, I3, r3, z3, q3⟩ := q
  refine ⟨by rw [List.length_cons, ← r3.length]; exact z3, ?_⟩
  have hfr : H3 s3.heap.objs.size = none := I3.hok.fresh (Nat.le_refl _)
  have I4 : L2.Inv X pins σ (upd H3 s3.heap.objs.size (.lst (x2 :: xs))) _ := I3.laid (t' := s3.toks) (fun b u e => Heap.get?_push_of_some _ e) (Nat.le_refl _) ⟨z3, v2 :: us, 0, .cons r2 r3, Heap.get?_push_size _ rfl⟩
  refine wpAny_mono (PySem.wpAny_toks (store_ok (v := V.ref s3.heap.objs.size) (u := Value.ref s3.heap.objs.size) (Q := fun _ s4 => Inv X pins (σ.set i (some (V.ref s3.heap.objs.size))) (upd H3 s3.heap.objs.size (.lst (x2 :: xs))) s4) I4 hN hi hx rfl (fun _ I2 => I2) hf)) (fun _ s4 q => ?_) fun _ _ z => z.2
  have hk : s3.toks ≤ s4.toks := q.1
  exact h2 pins s4 _ _ D (by omega) q.2 (q3 _ hfr)
/-- name = e -/
theorem pst_set {i : Nat} {n : PySem.Str} {p3 p4 : Pos} (hN : X.N.Nodup) (hi : X.N[i]? = some n) (hx : Loc X.env.scope n) (he : PET X e te)
    (hs : swapsWith e (some (.Name n p3)) p4.line X.env = pure false := by rfl) (hf : X.fn n = true ∨ X.env.scope.names.lookup n = some .local := by first | exact .inl rfl | exact .inr rfl | assumption) :
    PST X (.Assign [.Name n p3] e p4) (tAsg te (gName i)) := by
  intro pins s σ H D h0 I h
  refine wpAny_Assign_Name (thn (he pins s σ H _ h0 I h) fun v s1 ⟨x, H1, I1, r1, q1⟩ => ?_) hs
  refine store_ok (Q := fun _ s2 => SP X pins D .next s2) I1 hN hi hx r1 (fun s2 I2 => ?_) hf
  exact ⟨_, H1, I2, q1⟩
end
end K8
/-! The text of a placing, read back; texts near it. -/
namespace K8
open PySem PySem.Spec PyProof.Rows L2 K0 K1 M46 TL

theorem nm_low {k : PySem.Str} (h : nm k = true) : ∀ c ∈ tl k, low c = true := by
  unfold nm at h
  simp only [Bool.and_eq_true, decide_eq_true_eq, List.all_eq_true] at h
  exact h.2.2
theorem low_no {c d : Nat} (h : low c = true) (hd : low d = false) : c ≠ d := fun e => by rw [e, hd] at h; cases h
theorem nm_cons {k : PySem.Str} (h : nm k = true) : ∃ c r, tl k = c :: r := by
  have := (nm_facts h).1
  rw [len_tl] at this
  cases e : tl k with
  | nil => rw [e] at this; simp at this
  | cons c r => exact ⟨c, r, rfl⟩
theorem tl_eqs : tl (" = " : PySem.Str) = [32, 61, 32] := by decide +kernel
theorem tl_comma : tl (", " : PySem.Str) = [44, 32] := by decide +kernel
theorem tl_ent (k v : PySem.Str) : tl (entP k v) = tl k ++ ([32, 61, 32] ++ tl v) := by
  unfold entP
  rw [tl_append, tl_append, tl_eqs, List.append_assoc]
/-- pairs of names -/
def Nms (ps : List (PySem.Str × PySem.Str)) : Prop := ∀ p ∈ ps, nm p.1 = true ∧ nm p.2 = true
def ents (ps : List (PySem.Str × PySem.Str)) : List PySem.Str := ps.map fun p => entP p.1 p.2
def prTxt (ps : List (PySem.Str × PySem.Str)) : PySem.Str := Txt.join ", " (ents ps)
theorem tl_pr (ps : List (PySem.Str × PySem.Str)) : tl (prTxt ps) = joinL [44, 32] ((ents ps).map tl) := by
  unfold prTxt
  rw [TL.join_eq, tl_join, tl_comma]
theorem ent_no44 {k v : PySem.Str} (hk : nm k = true) (hv : nm v = true) : 44 ∉ tl (entP k v) := fun h => by
  rw [tl_ent] at h
  simp only [List.mem_append] at h
  rcases h with h | h | h
  · exact low_no (nm_low hk _ h) (by decide) rfl
  · simp at h
  · exact low_no (nm_low hv _ h) (by decide) rfl
theorem split_pr {ps : List (PySem.Str × PySem.Str)} (h : Nms ps) (h0 : ps ≠ []) : Txt.split (prTxt ps) ", " = ents ps :=
  TL.split_join tl_comma (by decide +kernel) (by unfold ents; simpa using h0) fun p hp => by
    obtain ⟨x, hx, rfl⟩ := List.mem_map.mp hp
    exact ent_no44 (h x hx).1 (h x hx).2
theorem split_ent {k v : PySem.Str} (hk : nm k = true) (hv : nm v = true) : Txt.split (entP k v) " = " = [k, v] := by
  have e : entP k v = Txt.join " = " [k, v] := by rw [TL.join_eq]; rfl
  rw [e]
  refine TL.split_join tl_eqs (by decide +kernel) (by simp) fun p hp h => ?_
  simp only [List.mem_cons, List.not_mem_nil, or_false] at hp
  rcases hp with rfl | rfl
  · exact low_no (nm_low hk _ h) (by decide) rfl
  · exact low_no (nm_low hv _ h) (by decide) rfl
theorem two_ent {k v : PySem.Str} (hk : nm k = true) (hv : nm v = true) : two? " = " (entP k v) = true ∧ two " = " (entP k v) = (k, v) := by
  unfold two? two
  rw [split_ent hk hv]
  exact ⟨rfl, rfl⟩
theorem all_two {ps : List (PySem.Str × PySem.Str)} (h : Nms ps) : (ents ps).all (two? " = ") = true := by
  rw [List.all_eq_true]
  intro e he
  obtain ⟨x, hx, rfl⟩ := List.mem_map.mp he
  exact (two_ent (h x hx).1 (h x hx).2).1
theorem map_two : ∀ {ps : List (PySem.Str × PySem.Str)}, Nms ps → (ents ps).map (two " = ") = ps
  | [], _ => rfl
  | p :: r, h => by
    show two " = " (entP p.1 p.2) :: (ents r).map (two " = ") = p :: r
    rw [(two_ent (h p (List.mem_cons_self ..)).1 (h p (List.mem_cons_self ..)).2).2, map_two fun x hx => h x (List.mem_cons_of_mem _ hx)]
theorem fold_new : ∀ {ps pre : List (PySem.Str × PySem.Str)}, ((pre ++ ps).map (·.1)).Nodup → ps.foldl (fun ws p => putS ws p.1 p.2) pre = pre ++ ps
  | [], pre, _ => by simp
  | p :: r, pre, h => by
    have hn : p.1 ∉ pre.map (·.1) := fun z => by
      rw [List.map_append, List.nodup_append] at h
      exact h.2.2 _ z _ (List.mem_cons_self ..) rfl
    rw [List.foldl_cons, put_new hn]
    have e : pre ++ p :: r = (pre ++ [p]) ++ r := by simp
    rw [e] at h ⊢
    exact fold_new h
theorem fill_self {ps : List (PySem.Str × PySem.Str)} (h : (ps.map (·.1)).Nodup) : fillS ps = ps := by
  unfold fillS
  rw [fold_new (by simpa using h)]
  rfl
theorem put_same : ∀ {ps : List (PySem.Str × PySem.Str)} {k v : PySem.Str}, (ps.map (·.1)).Nodup → (k, v) ∈ ps → putS ps k v = ps := by
  intro ps k v hn hm
  unfold putS
  rw [if_pos (List.mem_map.mpr ⟨_, hm, rfl⟩)]
  have : ∀ x ∈ ps, (if x.1 = k then (x.1, v) else x) = x := fun x hx => by
    split
    · rename_i e
      have h1 := gw_of_mem (r := Str.empty) hn hm
      have h2 := gw_of_mem (r := Str.empty) (k := x.1) (v := x.2) hn hx
      rw [e, h1] at h2
      rw [h2]
    · rfl
  rw [List.map_congr_left this, List.map_id']
theorem fold_same {ps : List (PySem.Str × PySem.Str)} (hn : (ps.map (·.1)).Nodup) : ∀ {qs : List (PySem.Str × PySem.Str)}, (∀ q ∈ qs, q ∈ ps) → qs.foldl (fun ws p => putS ws p.1 p.2) ps = ps
  | [], _ => rfl
  | q :: r, h => by
    rw [List.foldl_cons, put_same hn (h q (List.mem_cons_self ..))]
    exact fold_same hn fun x hx => h x (List.mem_cons_of_mem _ hx)
theorem fill_nodup (ps : List (PySem.Str × PySem.Str)) : ((fillS ps).map (·.1)).Nodup := by
  have : ∀ (ps ws : List (PySem.Str × PySem.Str)), (ws.map (·.1)).Nodup → ((ps.foldl (fun ws p => putS ws p.1 p.2) ws).map (·.1)).Nodup := by
    intro ps
    induction ps with
    | nil => intro ws h; exact h
    | cons p r ih => intro ws h; exact ih _ (nodup_put h)
  exact this ps [] List.nodup_nil
/-- a placing's pairs, in their order -/
structure Pl (ps : List (PySem.Str × PySem.Str)) : Prop where
  n1 : 1 ≤ ps.length
  n5 : ps.length ≤ 5
  nms : Nms ps
  keys : (ps.map (·.1)).Nodup
  rise : (ps.map (·.1)).Pairwise fun a b => a.cps.toList ≤ b.cps.toList
  vals : (ps.map (·.2)).Nodup
theorem Pl.ne {ps : List (PySem.Str × PySem.Str)} (h : Pl ps) : ps ≠ [] := fun e => by have := h.n1; rw [e] at this; simp at this
theorem nms_all {ps : List (PySem.Str × PySem.Str)} (h : Nms ps) : (ps.map (·.1) ++ ps.map (·.2)).all nm = true := by
  rw [List.all_eq_true]
  intro x hx
  rcases List.mem_append.mp hx with hx | hx
  · obtain ⟨p, hp, rfl⟩ := List.mem_map.mp hx; exact (h p hp).1
  · obtain ⟨p, hp, rfl⟩ := List.mem_map.mp hx; exact (h p hp).2
theorem Pl.b {ps ds : List (PySem.Str × PySem.Str)} (h : Pl ps) (hp : ds.Perm ps) : plB ds = true := by
  unfold plB
  have hl := hp.length_eq
  have hn : Nms ds := fun p hm => h.nms p (hp.mem_iff.mp hm)
  have hv : (ds.map (·.2)).Nodup := (hp.map _).nodup_iff.mpr h.vals
  rw [decide_eq_true (by have := h.n1; omega), decide_eq_true (by have := h.n5; omega), nms_all hn, decide_eq_true hv]
  rfl
theorem Pl.txt {ps ds : List (PySem.Str × PySem.Str)} (h : Pl ps) (hp : ds.Perm ps) : plTxt ds = prTxt ps := by
  have e1 : srt (ds.map (·.1)) = ps.map (·.1) := sorted_eq (srt_le _) h.rise ((srt_perm _).trans (hp.map _))
  have hn : (ds.map (·.1)).Nodup := (hp.map _).nodup_iff.mpr h.keys
  unfold plTxt prTxt ents
  rw [e1, List.map_map]
  congr 1
  refine List.map_congr_left fun p hm => ?_
  show entP p.1 (gw ds Str.empty p.1) = _
  rw [gw_of_mem hn (k := p.1) (v := p.2) (hp.mem_iff.mpr hm)]
theorem parse_some {t : PySem.Str} {D : List (PySem.Str × PySem.Str)} (h : parsePl t = some D) : t = plTxt D ∧ plB D = true ∧ (D.map (·.1)).Nodup := by
  unfold parsePl at h
  split at h
  · split at h
    · rename_i h2
      injection h with h
      subst h
      exact ⟨h2.2, h2.1, fill_nodup _⟩
    · cases h
  · cases h
theorem Pl.parse {ps : List (PySem.Str × PySem.Str)} (h : Pl ps) : parsePl (prTxt ps) = some ps := by
  unfold parsePl
  rw [split_pr h.nms h.ne, all_two h.nms, if_pos rfl, map_two h.nms, fill_self h.keys, if_pos ⟨h.b (List.Perm.refl _), (h.txt (List.Perm.refl _)).symm⟩]
/-! ### what a placing's text looks like -/
theorem plB_nms {D : List (PySem.Str × PySem.Str)} (h : plB D = true) : ∀ k ∈ D.map (·.1), nm k = true ∧ nm (gw D Str.empty k) = true := fun k hk => by
  obtain ⟨_, _, h3, _⟩ := plB_len h
  rw [List.all_eq_true] at h3
  exact ⟨h3 _ (List.mem_append_left _ hk), h3 _ (List.mem_append_right _ (gw_mem hk))⟩
/-- t is the text of pairs of names, one at least -/
def Cn (t : PySem.Str) : Prop := ∃ ps, ps ≠ [] ∧ Nms ps ∧ t = prTxt ps
theorem parse_cn {t : PySem.Str} {D : List (PySem.Str × PySem.Str)} (h : parsePl t = some D) : Cn t := by
  obtain ⟨e, hb, _⟩ := parse_some h
  have hn := plB_nms hb
  refine ⟨(srt (D.map (·.1))).map fun k => (k, gw D Str.empty k), ?_, ?_, ?_⟩
  · intro z
    have h1 := (plB_len hb).1
    have h2 := (srt_perm (D.map (·.1))).length_eq
    rw [List.map_eq_nil_iff] at z
    rw [z] at h2
    simp at h2
    rw [← h2] at h1
    simp at h1
  · intro p hp
    obtain ⟨k, hk, rfl⟩ := List.mem_map.mp hp
    exact hn k ((srt_perm _).mem_iff.mp hk)
  · rw [e]
    unfold plTxt prTxt ents
    rw [List.map_map]
    rfl
theorem parse_no {t : PySem.Str} (h : ¬ Cn t) : parsePl t = none := by
  cases e : parsePl t with
  | none => rfl
  | some D => exact absurd (parse_cn e) h
theorem joinL_cons {Z p : List Nat} : ∀ {ps : List (List Nat)}, ∃ r, joinL Z (p :: ps) = p ++ r
  | [] => ⟨[], (List.append_nil p).symm⟩
  | q :: r => ⟨Z ++ joinL Z (q :: r), rfl⟩
/-- the first key, then its sign, then a letter -/
theorem Cn.first {t : PySem.Str} (h : Cn t) : ∃ k c r, tl t = k ++ ([32, 61, 32] ++ c :: r) ∧ k ≠ [] ∧ (∀ x ∈ k, low x = true) ∧ low c = true := by
  obtain ⟨ps, h0, hn, rfl⟩ := h
  cases ps with
  | nil => exact absurd rfl h0
  | cons p r =>
    obtain ⟨hk, hv⟩ := hn p (List.mem_cons_self ..)
    obtain ⟨c, q, e⟩ := nm_cons hv
    obtain ⟨d, q2, e2⟩ := nm_cons hk
    rw [tl_pr]
    obtain ⟨z, hz⟩ := joinL_cons (Z := [44, 32]) (p := tl (entP p.1 p.2)) (ps := (ents r).map tl)
    refine ⟨tl p.1, c, q ++ z, ?_, by rw [e2]; simp, nm_low hk, nm_low hv c (by rw [e]; exact List.mem_cons_self ..)⟩
    refine hz.trans ?_
    rw [tl_ent, e]
    simp
theorem Cn.last {t : PySem.Str} (h : Cn t) : ∃ r c, tl t = r ++ [c] ∧ low c = true := by
  obtain ⟨ps, h0, hn, rfl⟩ := h
  obtain ⟨A, p, rfl⟩ : ∃ A p, ps = A ++ [p] := ⟨ps.dropLast, ps.getLast h0, (List.dropLast_concat_getLast h0).symm⟩
  obtain ⟨hk, hv⟩ := hn p (List.mem_append_right _ (List.mem_singleton.mpr rfl))
  obtain ⟨B, c, e⟩ : ∃ B c, tl p.2 = B ++ [c] := by
    obtain ⟨c, q, e⟩ := nm_cons hv
    have : tl p.2 ≠ [] := by rw [e]; simp
    exact ⟨_, _, (List.dropLast_concat_getLast this).symm⟩
  have hc := nm_low hv c (by rw [e]; exact List.mem_append_right _ (List.mem_singleton.mpr rfl))
  rw [tl_pr]
  unfold ents
  rw [List.map_append, List.map_append]
  show ∃ r c, joinL [44, 32] (_ ++ [tl (entP p.1 p.2)]) = r ++ [c] ∧ _
  by_cases hA : A = []
  · subst hA
    refine ⟨tl p.1 ++ [32, 61, 32] ++ B, c, ?_, hc⟩
    show tl (entP p.1 p.2) = _
    rw [tl_ent, e]
    simp
  · rw [joinL_snoc (by simpa using hA), tl_ent, e]
    exact ⟨_ ++ [44, 32] ++ tl p.1 ++ [32, 61, 32] ++ B, c, by simp only [← List.append_assoc]; rfl, hc⟩
theorem Cn.mem {t : PySem.Str} (h : Cn t) : ∀ c ∈ tl t, low c = true ∨ c = 32 ∨ c = 61 ∨ c = 44 := fun c hc => by
  obtain ⟨ps, h0, hn, rfl⟩ := h
  rcases mem_join hc with z | ⟨x, hx, z⟩
  · rw [tl_comma] at z
    simp at z
    omega
  · obtain ⟨p, hp, rfl⟩ := List.mem_map.mp hx
    rw [tl_ent] at z
    simp only [List.mem_append] at z
    rcases z with z | z | z
    · exact .inl (nm_low (hn p hp).1 c z)
    · simp at z; omega
    · exact .inl (nm_low (hn p hp).2 c z)
theorem no_last {t : PySem.Str} {r : List Nat} {c : Nat} (e : tl t = r ++ [c]) (hc : low c = false) : parsePl t = none := parse_no fun h => by
  obtain ⟨r', c', e', h'⟩ := h.last
  rw [e] at e'
  have := List.append_inj_right' e' rfl
  injection this with this
  exact low_no h' hc this.symm
theorem no_first {t : PySem.Str} {r : List Nat} {c : Nat} (e : tl t = c :: r) (hc : low c = false) : parsePl t = none := parse_no fun h => by
  obtain ⟨k, c', r', e', h0, hk, _⟩ := h.first
  cases k with
  | nil => exact h0 rfl
  | cons x k =>
    rw [e] at e'
    injection e' with e1 e2
    exact low_no (hk x (List.mem_cons_self ..)) hc e1.symm
theorem no_mem {t : PySem.Str} {c : Nat} (e : c ∈ tl t) (hc : low c = false) (h3 : c ≠ 32 ∧ c ≠ 61 ∧ c ≠ 44) : parsePl t = none := parse_no fun h => by
  rcases h.mem c e with z | z | z | z
  · exact low_no z hc rfl
  · exact h3.1 z
  · exact h3.2.1 z
  · exact h3.2.2 z
theorem low_run {a b : List Nat} {x y : Nat} {p q : List Nat} (ha : ∀ c ∈ a, low c = true) (hb : ∀ c ∈ b, low c = true) (hx : low x = false) (hy : low y = false) (e : a ++ x :: p = b ++ y :: q) : a = b ∧ x :: p = y :: q := by
  induction a generalizing b with
  | nil =>
    cases b with
    | nil => exact ⟨rfl, e⟩
    | cons c b =>
      injection e with e1 _
      exact absurd e1.symm (low_no (hb c (List.mem_cons_self ..)) hx)
  | cons d a ih =>
    cases b with
    | nil =>
      injection e with e1 _
      exact absurd e1 (low_no (ha d (List.mem_cons_self ..)) hy)
    | cons c b =>
      injection e with e1 e2
      obtain ⟨h1, h2⟩ := ih (fun z hz => ha z (List.mem_cons_of_mem _ hz)) (fun z hz => hb z (List.mem_cons_of_mem _ hz)) e2
      exact ⟨by rw [e1, h1], h2⟩
/-- another sign behind the first key -/
theorem no_sign {t : PySem.Str} {k : List Nat} {x : Nat} {m : List Nat} (e : tl t = k ++ x :: m) (hk : ∀ c ∈ k, low c = true) (hx : low x = false) (hm : ∀ c r, low c = true → x :: m ≠ 32 :: 61 :: 32 :: c :: r) : parsePl t = none := parse_no fun h => by
  obtain ⟨k', c', r', e', h0, hk', hc⟩ := h.first
  rw [e] at e'
  exact hm c' r' hc (low_run hk hk' hx (by decide) e').2
theorem joinL_append {Z : List Nat} {b : List (List Nat)} (hb : b ≠ []) : ∀ {a : List (List Nat)}, a ≠ [] → joinL Z (a ++ b) = joinL Z a ++ (Z ++ joinL Z b)
  | [], h => absurd rfl h
  | [p], _ => by
    cases b with
    | nil => exact absurd rfl hb
    | cons q r => rfl
  | p :: q :: r, _ => by
    show p ++ (Z ++ joinL Z ((q :: r) ++ b)) = (p ++ (Z ++ joinL Z (q :: r))) ++ (Z ++ joinL Z b)
    rw [joinL_append hb (by simp)]
    simp only [List.append_assoc]
theorem pr_append {ps qs : List (PySem.Str × PySem.Str)} (hp : ps ≠ []) (hq : qs ≠ []) : prTxt (ps ++ qs) = prTxt ps ++ ", " ++ prTxt qs := ext_tl (by
  rw [tl_append, tl_append, tl_pr, tl_pr, tl_pr, tl_comma]
  unfold ents
  rw [List.map_append, List.map_append, joinL_append (by simpa using hq) (by simpa using hp), List.append_assoc])
/-- a text's pairs once more -/
theorem no_twice {ps : List (PySem.Str × PySem.Str)} (h : Pl ps) : parsePl (prTxt ps ++ ", " ++ prTxt ps) = none := by
  have hn : Nms (ps ++ ps) := fun p hp => h.nms p (by simpa using hp)
  rw [← pr_append h.ne h.ne]
  unfold parsePl
  rw [split_pr hn (by simp [h.ne]), all_two hn, if_pos rfl, map_two hn]
  have e : fillS (ps ++ ps) = ps := by
    unfold fillS
    rw [List.foldl_append]
    have := fill_self h.keys
    unfold fillS at this
    rw [this]
    exact fold_same h.keys fun q hq => hq
  rw [e, if_neg]
  rintro ⟨_, z⟩
  rw [h.txt (List.Perm.refl _), pr_append h.ne h.ne] at z
  have := congrArg (fun t => t.length) z
  simp only [Str.length_append] at this
  have e2 : (", " : PySem.Str).length = 2 := by decide +kernel
  omega
/-- a value once more -/
theorem no_more {ps : List (PySem.Str × PySem.Str)} {k v : PySem.Str} (h : Pl ps) (hk : nm k = true) (hv : v ∈ ps.map (·.2)) (hn : k ∉ ps.map (·.1)) : parsePl (prTxt ps ++ ", " ++ entP k v) = none := by
  have hvn : nm v = true := by
    obtain ⟨p, hp, rfl⟩ := List.mem_map.mp hv
    exact (h.nms p hp).2
  have hn2 : Nms (ps ++ [(k, v)]) := fun p hp => by
    rcases List.mem_append.mp hp with hp | hp
    · exact h.nms p hp
    · rw [List.mem_singleton.mp hp]; exact ⟨hk, hvn⟩
  have e1 : entP k v = prTxt [(k, v)] := rfl
  rw [e1, ← pr_append h.ne (by simp)]
  unfold parsePl
  rw [split_pr hn2 (by simp), all_two hn2, if_pos rfl, map_two hn2, fill_self, if_neg]
  · rintro ⟨z, _⟩
    obtain ⟨_, _, _, z⟩ := plB_len z
    rw [List.map_append, List.nodup_append] at z
    exact z.2.2 _ hv _ (List.mem_singleton.mpr rfl) rfl
  · rw [List.map_append, List.nodup_append]
    exact ⟨h.keys, by simp, fun a ha b hb z => by rw [List.mem_singleton.mp hb] at z; rw [z] at ha; exact hn ha⟩
end K8
/-! Texts near a placing's text: none is read. -/
namespace K8
open PySem PySem.Spec PyProof.Rows L2 K0 K1 M46 TL

theorem up26 : ∀ i : Fin 26, Unicode.upperOf (97 + i.val) = [65 + i.val] := by decide +kernel
theorem up_of {c : Nat} (h : low c = true) : Unicode.upperOf c = [c - 32] := by
  have hc : 97 ≤ c ∧ c ≤ 122 := by unfold low at h; simpa using h
  have := up26 ⟨c - 97, by omega⟩
  simp only at this
  rw [show 97 + (c - 97) = c by omega, show 65 + (c - 97) = c - 32 by omega] at this
  exact this
theorem upper_head {t : PySem.Str} {c : Nat} {r : List Nat} (e : tl t = c :: r) (h : low c = true) : ∃ r', tl (Txt.upper t) = (c - 32) :: r' := by
  show ∃ r', ((t.cps.mapIdx fun i c => (Unicode.upperOf c).toArray).flatten).toList = _
  rw [Array.toList_flatten, Array.toList_mapIdx, show t.cps.toList = c :: r from e]
  simp only [List.mapIdx_cons, List.map_cons, List.flatten_cons]
  rw [up_of h]
  exact ⟨_, rfl⟩
theorem pr_head {ps : List (PySem.Str × PySem.Str)} (h : Pl ps) : ∃ k v rest, (k, v) ∈ ps ∧ prTxt ps = k ++ (" = " : PySem.Str) ++ rest ∧ (∃ c r, tl rest = c :: r ∧ low c = true) := by
  cases ps with
  | nil => exact absurd rfl h.ne
  | cons p r =>
    obtain ⟨hk, hv⟩ := h.nms p (List.mem_cons_self ..)
    obtain ⟨c, q, e⟩ := nm_cons hv
    obtain ⟨z, hz⟩ := joinL_cons (Z := [44, 32]) (p := tl (entP p.1 p.2)) (ps := (ents r).map tl)
    refine ⟨p.1, p.2, ⟨(tl p.2 ++ z).toArray⟩, List.mem_cons_self .., ext_tl ?_, c, q ++ z, ?_, nm_low hv c (by rw [e]; exact List.mem_cons_self ..)⟩
    · rw [tl_append, tl_append, tl_eqs]
      show tl (prTxt (p :: r)) = tl p.1 ++ [32, 61, 32] ++ (tl p.2 ++ z)
      rw [tl_pr]
      refine hz.trans ?_
      rw [tl_ent]
      simp
    · rw [tl_mk, e]
      rfl
/-- the texts near t; v the first value -/
def fewP (t v : PySem.Str) : List PySem.Str :=
  [t ++ (",": PySem.Str), t ++ (" " : PySem.Str), (" " : PySem.Str) ++ t, "", rep1 t " = " "=", Txt.upper t, t ++ ("\n" : PySem.Str)]
  ++ [rep1 t " = " " <- ", rep1 t " = " " =  ", t ++ (", " : PySem.Str) ++ t, "x = "]
  ++ [t ++ (", zzzzz = " : PySem.Str) ++ v]
  ++ [t ++ (", Z = zz" : PySem.Str), "a = b, b = c, c = d, d = e, e = f, f = g", "x a", "x = a = b", "y = a, x = b"]
theorem lit1 : parsePl "" = none := by decide +kernel
theorem lit2 : parsePl "x = " = none := by decide +kernel
theorem lit3 : parsePl "a = b, b = c, c = d, d = e, e = f, f = g" = none := by decide +kernel
theorem lit4 : parsePl "x a" = none := by decide +kernel
theorem lit5 : parsePl "x = a = b" = none := by decide +kernel
theorem lit6 : parsePl "y = a, x = b" = none := by
  have hp : Pl [(("x" : PySem.Str), ("b" : PySem.Str)), ("y", "a")] := ⟨by decide, by decide, by
      intro p hp
      simp only [List.mem_cons, List.not_mem_nil, or_false] at hp
      rcases hp with rfl | rfl <;> exact ⟨by decide +kernel, by decide +kernel⟩, by decide +kernel, by decide +kernel, by decide +kernel⟩
  cases e : parsePl "y = a, x = b" with
  | none => rfl
  | some D =>
    have hb : (Txt.split "y = a, x = b" ", ").all (two? " = ") = true := by decide +kernel
    have hf : fillS ((Txt.split "y = a, x = b" ", ").map (two " = ")) = [(("y" : PySem.Str), ("a" : PySem.Str)), ("x", "b")] := by decide +kernel
    unfold parsePl at e
    rw [if_pos hb, hf] at e
    split at e
    · rename_i h2
      rw [hp.txt (ds := [(("y" : PySem.Str), ("a" : PySem.Str)), ("x", "b")]) (List.Perm.swap ..)] at h2
      exact absurd h2.2 (by decide +kernel)
    · cases e
theorem fewP_no {ps : List (PySem.Str × PySem.Str)} {v : PySem.Str} (h : Pl ps) (hv : v ∈ ps.map (·.2)) (h3 : ∀ p ∈ ps, p.1.length ≤ 3) : ∀ u ∈ fewP (prTxt ps) v, parsePl u = none := by
  obtain ⟨k, w, rest, hm, e, c, r, er, hc⟩ := pr_head h
  have hk := (h.nms _ hm).1
  have n32 : 32 ∉ tl k := fun z => low_no (nm_low hk _ z) (by decide) rfl
  obtain ⟨kc, kr, ek⟩ := nm_cons hk
  have hkc : low kc = true := nm_low hk kc (by rw [ek]; exact List.mem_cons_self ..)
  have et : tl (prTxt ps) = kc :: (kr ++ ([32, 61, 32] ++ tl rest)) := by
    rw [e, tl_append, tl_append, tl_eqs, ek, List.append_assoc] <;> rfl
  have rp : ∀ z : PySem.Str, rep1 (prTxt ps) " = " z = k ++ z ++ rest := fun z => by rw [e]; exact rep1_app tl_eqs n32
  intro u hu
  simp only [fewP, List.mem_append, List.mem_cons, List.not_mem_nil, or_false] at hu
  rcases hu with (((rfl | rfl | rfl | rfl | rfl | rfl | rfl) | (rfl | rfl | rfl | rfl)) | rfl) | (rfl | rfl | rfl | rfl | rfl)
  · exact no_last (tl_append _ _) (by decide)
  · exact no_last (tl_append _ _) (by decide)
  · exact no_first (c := 32) (r := tl (prTxt ps)) (by rw [tl_append]; rfl) (by decide)
  · exact lit1
  · rw [rp]
    refine no_sign (k := tl k) (x := 61) (m := tl rest) ?_ (nm_low hk) (by decide) fun d q hd z => by injection z with z; exact absurd z (by decide)
    rw [tl_append, tl_append, List.append_assoc]
    rfl
  · obtain ⟨r', e'⟩ := upper_head et hkc
    refine no_first e' ?_
    unfold low at hkc ⊢
    simp at hkc ⊢
    omega
  · exact no_last (tl_append _ _) (by decide)
  · rw [rp]
    refine no_sign (k := tl k) (x := 32) (m := 60 :: 45 :: 32 :: tl rest) ?_ (nm_low hk) (by decide) fun d q hd z => by
      injection z with _ z
      injection z with z _
      exact absurd z (by decide)
    rw [tl_append, tl_append, List.append_assoc]
    rfl
  · rw [rp]
    refine no_sign (k := tl k) (x := 32) (m := 61 :: 32 :: 32 :: tl rest) ?_ (nm_low hk) (by decide) fun d q hd z => by
      injection z with _ z
      injection z with _ z
      injection z with _ z
      injection z with z _
      exact low_no hd (by decide) z.symm
    rw [tl_append, tl_append, List.append_assoc]
    rfl
  · exact no_twice h
  · exact lit2
  · have e2 : prTxt ps ++ (", zzzzz = " : PySem.Str) ++ v = prTxt ps ++ ", " ++ entP "zzzzz" v := by
      refine ext_tl ?_
      rw [tl_append, tl_append, tl_append, tl_append, tl_ent, tl_comma, show tl (", zzzzz = " : PySem.Str) = [44, 32] ++ (tl ("zzzzz" : PySem.Str) ++ [32, 61, 32]) by decide +kernel]
      simp only [List.append_assoc]
    rw [e2]
    refine no_more h (by decide +kernel) hv fun z => ?_
    obtain ⟨p, hp, e3⟩ := List.mem_map.mp z
    have := h3 p hp
    rw [e3] at this
    exact absurd this (by decide +kernel)
  · exact no_mem (c := 90) (by rw [tl_append]; exact List.mem_append_right _ (by decide +kernel)) (by decide) (by decide)
  · exact lit3
  · exact lit4
  · exact lit5
  · exact lit6
end K8
/-! The end of _law_steps_right: few texts, none of them read. -/
namespace K8
open PySem PySem.Spec PyProof.Rows L2 K0 K1 M46 LamX

abbrev nSR : List PySem.Str := ["_law_dice_here", "_law_names_here", "_law_steps", "_law_step_here", "_law_text", "_law_at", "_law_few", "_law_bad", "_law_odd", "_law_turn", "_law_one"]
theorem scSR : FnScope nSR ["_law_dice_here"] (defScope sStRight) := ⟨rfl, rfl, rfl, by decide +kernel, rfl, by decide +kernel, by decide +kernel⟩
abbrev qA : PySem.Str := (envOfC "_law_steps_right" (defScope sStRight) 0 0 .none).qual ++ "<lambda>"
abbrev qB : PySem.Str := (envOfC "_law_placing_right" (defScope sPlRight) 0 0 .none).qual ++ "<lambda>"
abbrev Tb (P1 P2 : Addr) : List (Addr × PySem.Str) := [(P1, qA), (P2, qB)]
theorem tb_one {P1 P2 : Addr} (h : P1 ≠ P2) : ∀ p ∈ Tb P1 P2, p.1 = P1 → p.2 = qA := fun p hp e => by
  rcases List.mem_cons.mp hp with rfl | hp
  · rfl
  · rw [List.mem_singleton.mp hp] at e
    exact absurd e.symm h
theorem tb_two {P1 P2 : Addr} (h : P1 ≠ P2) : ∀ p ∈ Tb P1 P2, p.1 = P2 → p.2 = qB := fun p hp e => by
  rcases List.mem_cons.mp hp with rfl | hp
  · exact absurd e h
  · rw [List.mem_singleton.mp hp]
theorem rows_small {rows : List (List PySem.Str)} (hR : ∀ ws ∈ rows, Row ws) (hL : rows.length ≤ 12) : Small rows :=
  ⟨by omega, fun ws hw => ⟨by have := (hR ws hw).wf.len; omega, fun w hw2 => ⟨by have := ((hR ws hw).wf.word w hw2).1; omega, ((hR ws hw).wf.word w hw2).2.1⟩, (hR ws hw).wf.sum⟩⟩
abbrev fewA (t : PySem.Str) : List V := [.str (t ++ ("\n" : PySem.Str)), .str (t ++ (" " : PySem.Str)), .str ((" " : PySem.Str) ++ t), .str (t ++ ("\nsend" : PySem.Str)), .str (t ++ ("\nsend  a" : PySem.Str)), .str "send a\n\nread a"]
abbrev fewB : List V := [.str "SEND a", .str "wish a k p p", .str "send a b", .str "come", .str "wish a k p q r", .str "send a,", .str "\n", .str " "]
theorem few_map (t : PySem.Str) : fewA t ++ fewB = (few t).map V.str := rfl
def tFewE (P1 P2 : Addr) : TS := fun D σ H => ∃ (v0 v1 v2 v3 v5 v6 v7 v8 v9 v10 : Option V) (rows : List (List PySem.Str)), σ = [v0, v1, v2, v3, some (.str (stTxt rows)), v5, v6, v7, v8, v9, v10] ∧ Tabs (Tb P1 P2) H ∧ (∀ ws ∈ rows, Row ws) ∧ rows.length ≤ 12 ∧
  ∀ H', ExtN H H' → Tabs (Tb P1 P2) H' → D.rt (.bl true) H'
section
variable {P : Program} {w : World} {K : PySem.W.Frag} {mg : PySem.Str → Option Value} {base : Heap}
theorem few_turn {f c P1 P2 CP CO gT fS : Addr} {A : Around} {outer : List Env} {s : Shared} {H0 : Hp} {E0 : XK} {fdT fdS : FuncData}
    (hr : Room 6 (A.deeper (envOfC "_law_steps_right" (defScope sStRight) s.heap.objs.size f (.ref c)))) (T : Bare mg) (Z : TwoX K CP CO) (TB : TabB base mg c P1) (h12 : P1 ≠ P2) (mP : mg "ParseError" = some (.ref CP)) (mO : mg "InvalidOperation" = some (.ref CO))
    (FS : Fun K "parse_steps" "parse_steps" sParSt fS fdS) (bS : Binds K fdS ["text"] []) (mS : mg "parse_steps" = some (.ref fS)) (GS : FnOk P w K mg base (L2.CX P w) 4 fS fdS ["text"] (spParSt K CP))
    (FTold : Fun K "_law_told" "_law_told" sTold gT fdT) (bTold : Binds K fdT ["_law_call"] []) (mTold : mg "_law_told" = some (.ref gT)) :
    PSs (cxOf CX0 P w K mg base nSR "_law_steps_right" (defScope sStRight) f (.ref c) A outer s H0 E0).nox ((defBody sStRight).drop 9) (tFewE P1 P2) := by
  obtain ⟨oc, od, kV, doc, pm, an, cdvT, ct, osl, rfl, lkT, hcT⟩ := FTold.ex
  refine pss_conv (pss_cons (ps_set (i := 6) scSR.nd rfl (Or.inl rfl) (pe_lst (pa_cons (pe_op op_add_str (pv 4) pe_str) (pa_cons (pe_op op_add_str (pv 4) pe_str) (pa_cons (pe_op op_add_str pe_str (pv 4)) (pa_cons (pe_op op_add_str (pv 4) pe_str) (pa_cons (pe_op op_add_str (pv 4) pe_str) (pa_cons pe_str pa_nil))))))))
    (pss_cons (ps_set (i := 6) scSR.nd rfl (Or.inl rfl) (pe_op op_cat (pv 6) (pe_lst (pa_cons pe_str (pa_cons pe_str (pa_cons pe_str (pa_cons pe_str (pa_cons pe_str (pa_cons pe_str (pa_cons pe_str (pa_cons pe_str pa_nil))))))))))) 
    (pss_one (ps_ret (pe_cmpR (op_eqD hr.units)
      (pe_lc (own := [("_law_one", 10)]) (g := gName 10) (tt := tTest (tOp rNe (tLam (Tb P1 P2) (TTold CP CO) (fun E => tCall (spParSt K CP) [] E (tCons (tVar 10) tNil))) (tC (.str "parse")))) (te := tVar 10) rfl scSR.nd (pi_list (pv 6)) (blkOk_by (own := [("_law_one", 10)]) (N := nSR) (sc := defScope sStRight) (by decide +kernel)) (fun _ _ _ _ _ => pg_name (i := 10) scSR.nd rfl (Or.inr rfl))
        (fun _ _ _ _ _ => pts_one (pt_cmpR op_ne (pe_lamcall (T := Tb P1 P2) (TT := TTold CP CO) (x := "_law_told") (a := "_law_call") (k := 4) (t := fun E => tCall (spParSt K CP) [] E (tCons (tVar 10) tNil)) (by rfl) mTold FTold.kp lkT hcT bTold scTold rfl (.inl rfl) (told_two mP mO Z) TB rfl (.head _) (tb_one h12) hr (lamS_by (by rfl)) rfl (fun _ _ _ _ _ => rfl) (fun A outer s H E f c1 hr2 => (pe_call (E := E) GS hr2 (by rfl) mS FS.kp bS .nil (passes_call (takes_of rfl rfl rfl rfl) fun _ _ _ _ h => h) (pa_cons (pv 10) pa_nil)))) pe_str (nomark _)))
        (fun _ _ _ _ _ => by exact (pv 10)))
      (pe_lst pa_nil) (nomark _)))))) fun pins s1 σ H D I h => ?_
  obtain ⟨v0, v1, v2, v3, v5, v6, v7, v8, v9, v10, rows, rfl, hT, hR, hL, k⟩ := h
  have hsz := stTxt_len (rows_small hR hL)
  have hno := few_no hR hL
  have z1 : ("\n" : PySem.Str).length = 1 := by decide +kernel
  have z2 : (" " : PySem.Str).length = 1 := by decide +kernel
  have z3 : ("\nsend" : PySem.Str).length = 5 := by decide +kernel
  have z4 : ("\nsend  a" : PySem.Str).length = 8 := by decide +kernel
  generalize ht : stTxt rows = t at hsz hno
  have hz : (1000000 : Nat) ≤ sizeLine := by rw [sizeLine_eq]; omega
  refine ⟨_, rfl, _, _, rfl, rfl, by omega, _, rfl, _, _, rfl, rfl, by omega, _, rfl, _, _, rfl, rfl, by omega, _, rfl, _, _, rfl, rfl, by omega, _, rfl, _, _, rfl, rfl, by omega, by rw [sizeLine_eq]; show 6 ≤ 16777216; decide, fun l nl => ?_⟩
  have e1 : (upd H l (.lst (fewA t))) l = some (.lst (fewA t)) := upd_same
  have s1 : Same H (upd H l (.lst (fewA t))) := sn nl
  have hlen : (fewA t ++ fewB).length ≤ sizeLine := by rw [sizeLine_eq]; show 14 ≤ 16777216; decide
  generalize upd H l (.lst (fewA t)) = H1 at e1 s1 ⊢
  refine ⟨_, rfl, by rw [sizeLine_eq]; show 8 ≤ 16777216; decide, fun m nm => ⟨l, m, fewA t, fewB, rfl, rfl, sn nm _ _ e1, upd_same, by rw [List.length_append] at hlen; exact hlen, fun L nL => ?_⟩⟩
  rw [few_map]
  have hfl : ((few t).map V.str).length ≤ 100 := by show 14 ≤ 100; decide
  have s2 : Same H (upd (upd H1 m (.lst fewB)) L (.lst ((few t).map V.str))) := (s1.trans (sn nm)).trans (sn nL)
  have e2 : (upd (upd H1 m (.lst fewB)) L (.lst ((few t).map V.str))) L = some (.lst ((few t).map V.str)) := upd_same
  generalize upd (upd H1 m (.lst fewB)) L (.lst ((few t).map V.str)) = H2 at e2 s2 ⊢
  generalize few t = fs at hno e2 hfl
  refine ⟨_, rfl, L, rfl, ⟨_, SqL.of e2⟩, fun R nR => ?_⟩
  have eE : ∀ o, ExtN H2 (upd H2 R o) := fun o => ExtN.of (sn nR)
  refine lc_list (K := K) (a := L) (xs := fs.map V.str) (fun i H' => H' R = some (.lst []) ∧ ExtN H2 H' ∧ Tabs (Tb P1 P2) H') ⟨upd_same, eE _, (hT.ext s2).ext (sn nR)⟩ (fun i H' _ hP => SqL.of (ext_at hP.2.1 e2)) (fun i x H' hx hP => ⟨rfl, ?_⟩) (fun H' hP => ?_)
  · rw [List.getElem?_map] at hx
    obtain ⟨u, hu, rfl⟩ : ∃ u, fs[i]? = some u ∧ V.str u = x := by
      cases e : fs[i]? with
      | none => rw [e] at hx; cases hx
      | some p => rw [e] at hx; exact ⟨p, rfl, Option.some.inj hx⟩
    obtain ⟨rw', hst, hall⟩ := hno u (List.mem_of_getElem? hu)
    refine ⟨hP.2.2, fun H3 e3 T3 => ?_⟩
    refine ⟨_, rfl, u, rw', rfl, hst, ?_⟩
    rw [hall]
    intro H4 s4
    refine .inl ⟨rfl, rfl, _, rfl, ?_⟩
    have hd : (!decide (V.str ("parse" : PySem.Str) = V.str ("parse" : PySem.Str))) = false := by simp
    rw [hd]
    exact ⟨s4 _ _ (ext_at e3 hP.1), hP.2.1.trans (e3.trans (ext_of s4)), T3.ext s4⟩
  · refine ⟨by rw [sizeLine_eq]; show 0 ≤ 16777216; decide, fun q nq => ?_⟩
    refine ⟨.list [], .list [], .lst (SqL.of (sn nq _ _ hP.1)) .nil, .lst (SqL.of upd_same) .nil, by decide, by decide, ?_⟩
    exact k _ (((ext_of s2).trans hP.2.1).trans (ext_of (sn nq))) (hP.2.2.ext (sn nq))
end
end K8
/-! _law_steps_right: the two values that are none. -/
namespace K8
open PySem PySem.Spec PyProof.Rows L2 K0 K1 M46 LamX

def tOddE (K : PySem.W.Frag) (P1 P2 : Addr) : TS := fun D σ H => ∃ (v0 v1 v2 v3 v5 v6 v9 v10 : Option V) (vb vo : V) (rows : List (List PySem.Str)), σ = [v0, v1, v2, v3, some (.str (stTxt rows)), v5, v6, some vb, some vo, v9, v10] ∧ Fv K H vb none ∧ Fv K H vo none ∧ Tabs (Tb P1 P2) H ∧ (∀ ws ∈ rows, Row ws) ∧ rows.length ≤ 12 ∧
  ∀ H', ExtN H H' → Tabs (Tb P1 P2) H' → D.rt (.bl true) H'
section
variable {P : Program} {w : World} {K : PySem.W.Frag} {mg : PySem.Str → Option Value} {base : Heap}
theorem odd_turn {f c P1 P2 CP CO gT fS fF : Addr} {A : Around} {outer : List Env} {s : Shared} {H0 : Hp} {E0 : XK} {fdT fdS fdF : FuncData}
    (hr : Room 6 (A.deeper (envOfC "_law_steps_right" (defScope sStRight) s.heap.objs.size f (.ref c)))) (T : Bare mg) (Z : TwoX K CP CO) (TB : TabB base mg c P1) (h12 : P1 ≠ P2) (mP : mg "ParseError" = some (.ref CP)) (mO : mg "InvalidOperation" = some (.ref CO))
    (FS : Fun K "parse_steps" "parse_steps" sParSt fS fdS) (bS : Binds K fdS ["text"] []) (mS : mg "parse_steps" = some (.ref fS)) (GS : FnOk P w K mg base (L2.CX P w) 4 fS fdS ["text"] (spParSt K CP))
    (FF : Fun K "format_steps" "format_steps" sFmtSt fF fdF) (bF : Binds K fdF ["steps"] []) (mF : mg "format_steps" = some (.ref fF)) (GF : FnOk P w K mg base (L2.CX P w) 4 fF fdF ["steps"] (spFmtSt K CO))
    (FTold : Fun K "_law_told" "_law_told" sTold gT fdT) (bTold : Binds K fdT ["_law_call"] []) (mTold : mg "_law_told" = some (.ref gT)) :
    PSs (cxOf CX0 P w K mg base nSR "_law_steps_right" (defScope sStRight) f (.ref c) A outer s H0 E0).nox ((defBody sStRight).drop 7) (tOddE K P1 P2) := by
  have L := few_turn (E0 := E0) (outer := outer) (H0 := H0) (base := base) hr T Z TB h12 mP mO FS bS mS GS FTold bTold mTold
  obtain ⟨oc, od, kV, doc, pm, an, cdvT, ct, osl, rfl, lkT, hcT⟩ := FTold.ex
  refine pss_conv (pss_cons (ps_if (pt_cmpR op_ne (pe_lamcall (T := Tb P1 P2) (TT := TTold CP CO) (x := "_law_told") (a := "_law_call") (k := 4) (t := fun E => tCall (spFmtSt K CO) [] E (tCons (tVar 7) tNil)) (by rfl) mTold FTold.kp lkT hcT bTold scTold rfl (.inl rfl) (told_two mP mO Z) TB rfl (.head _) (tb_one h12) hr (lamS_by (by rfl)) rfl (fun _ _ _ _ _ => rfl) (fun A outer s H E f c1 hr2 => (pe_call (E := E) GF hr2 (by rfl) mF FF.kp bF .nil (passes_call (takes_of rfl rfl rfl rfl) fun _ _ _ _ h => h) (pa_cons (pv 7) pa_nil)))) pe_str (nomark _)) (pss_one (ps_ret pe_bl)) pss_nil)
    (pss_cons (ps_if (pt_cmpR op_ne (pe_lamcall (T := Tb P1 P2) (TT := TTold CP CO) (x := "_law_told") (a := "_law_call") (k := 4) (t := fun E => tCall (spFmtSt K CO) [] E (tCons (tVar 8) tNil)) (by rfl) mTold FTold.kp lkT hcT bTold scTold rfl (.inl rfl) (told_two mP mO Z) TB rfl (.head _) (tb_one h12) hr (lamS_by (by rfl)) rfl (fun _ _ _ _ _ => rfl) (fun A outer s H E f c1 hr2 => (pe_call (E := E) GF hr2 (by rfl) mF FF.kp bF .nil (passes_call (takes_of rfl rfl rfl rfl) fun _ _ _ _ h => h) (pa_cons (pv 8) pa_nil)))) pe_str (nomark _)) (pss_one (ps_ret pe_bl)) pss_nil) L)) fun pins s1 σ H D I h => ?_
  obtain ⟨v0, v1, v2, v3, v5, v6, v9, v10, vb, vo, rows, rfl, hb, ho, hT, hR, hL, k⟩ := h
  refine ⟨hT, fun H1 e1 T1 => ⟨_, rfl, vb, none, rfl, fv_ext hb e1, fun H2 s2 => .inr ⟨rfl, rfl, _, rfl, ite2 (fun z => absurd z (by simp)) fun _ => ?_⟩⟩⟩
  have x2 := e1.trans (ext_of s2)
  refine ⟨T1.ext s2, fun H3 e3 T3 => ⟨_, rfl, vo, none, rfl, fv_ext ho (x2.trans e3), fun H4 s4 => .inr ⟨rfl, rfl, _, rfl, ite2 (fun z => absurd z (by simp)) fun _ => ?_⟩⟩⟩
  have x4 := (x2.trans e3).trans (ext_of s4)
  exact ⟨v0, v1, v2, v3, v5, v6, some vb, some vo, v9, v10, rows, rfl, T3.ext s4, hR, hL, fun H' e t => k H' (x4.trans e) t⟩
end
end K8
/-! Slices and sums of tuples, rows as data: what _law_steps_right's middle asks. -/
namespace K8
open PySem PySem.Spec PyProof.Rows L2 K0 K1 M46 LamX

theorem slT {K : PySem.W.Frag} {H : Hp} {Q : VK} {a : Addr} {xs ys : List V} {lo hi : Option Int} (hx : SqT K H a xs) (hc : cutV xs lo hi = ys) (q : ∀ r H', Same H H' → SqT K H' r ys → Q (.ref r) H') : rSlA K (.ref a) lo hi H Q := by
  refine ⟨a, xs, rfl, hx, fun hw => ?_, fun _ p np => ?_⟩
  · have e : cutV xs lo hi = xs := by
      unfold cutV
      rw [hw.1, hw.2]
      simp
    rw [e] at hc
    rw [hc] at hx
    exact q a H (Same.refl _) hx
  · rw [hc]
    exact q p _ (sn np) (SqT.of upd_same)
theorem catT {K : PySem.W.Frag} {H : Hp} {Q : VK} {a b : Addr} {xs ys : List V} (hx : SqT K H a xs) (hy : SqT K H b ys) (hl : xs.length + ys.length ≤ sizeLine) (q : ∀ r H', Same H H' → SqT K H' r (xs ++ ys) → Q (.ref r) H') : rCatA K (.ref a) (.ref b) H Q := by
  refine ⟨a, b, xs, ys, rfl, rfl, hx, hy, hl, fun e => ?_, fun _ e => ?_, fun _ _ p np => q p _ (sn np) (SqT.of upd_same)⟩
  · subst e
    exact q b H (Same.refl _) hy
  · subst e
    refine q a H (Same.refl _) ?_
    rw [List.append_nil]
    exact hx
theorem cut_take {xs : List V} {n : Nat} (h : n ≤ xs.length) : cutV xs none (some (n : Int)) = xs.take n := by
  unfold cutV
  have h1 : HT.sIx xs.length 0 none = 0 := rfl
  have h2 : HT.sIx xs.length xs.length (some (n : Int)) = min n xs.length := HT.sIx_nat _ _ _
  rw [h1, h2, Nat.min_eq_left h]
  simp
theorem cut_drop {xs : List V} {n : Nat} (h : n ≤ xs.length) : cutV xs (some (n : Int)) none = xs.drop n := by
  unfold cutV
  have h1 : HT.sIx xs.length 0 (some (n : Int)) = min n xs.length := HT.sIx_nat _ _ _
  have h2 : HT.sIx xs.length xs.length none = xs.length := rfl
  rw [h1, h2, Nat.min_eq_left h]
  show (xs.drop n).take (xs.length - n) = _
  rw [List.take_of_length_le (by rw [List.length_drop] <;> omega)]
theorem paired_take {α β : Type} {F : α → β → Prop} : ∀ {xs : List α} {os : List β} (n : Nat), Paired F xs os → Paired F (xs.take n) (os.take n)
  | _, _, _, .nil => by simp; exact .nil
  | _, _, 0, .cons _ _ => .nil
  | _, _, n + 1, .cons h t => .cons h (paired_take n t)
theorem paired_drop {α β : Type} {F : α → β → Prop} : ∀ {xs : List α} {os : List β} (n : Nat), Paired F xs os → Paired F (xs.drop n) (os.drop n)
  | _, _, _, .nil => by simp; exact .nil
  | _, _, 0, .cons h t => .cons h t
  | _, _, n + 1, .cons _ t => paired_drop n t
/-! ### rows -/
theorem W0.bp {p : Addr} {x y z : Int} {H H' : Hp} {v : V} {ws : List PySem.Str} (D : Dice H p x y z) (b : Bp p H H') (h : W0 H v ws) : W0 H' v ws := by
  obtain ⟨a, rfl, h⟩ := h
  exact ⟨a, rfl, b _ _ (ne_of h D.at_ (by intro z; cases z)) (by intro ps z; cases z) h⟩
theorem But.bp {p : Addr} {H H' : Hp} (b : But p H H') : Bp p H H' := fun c o hc _ e => b c o hc e
theorem w0s_ws {K : PySem.W.Frag} {H : Hp} {refs : List V} {rows : List (List PySem.Str)} (h : Paired (W0 H) refs rows) : Paired (Ws K H) refs rows := paired_map (fun _ _ q => q.ws) h
theorem ws_dp {K : PySem.W.Frag} {H : Hp} : ∀ {refs : List V} {rows : List (List PySem.Str)}, Paired (Ws K H) refs rows → DpAll K H refs (rows.map tps)
  | _, _, .nil => .nil
  | _, _, .cons ⟨_, e, q, _⟩ t => by
    subst e
    exact .cons (dp_tps q) (ws_dp t)
def rowsD (rows : List (List PySem.Str)) : PyData := .tuple (rows.map tps)
theorem lay_strs : ∀ {ws : List PySem.Str}, (∀ w ∈ ws, PyData.strOk w = true) → PyData.canLayAll0 (ws.map .str) = true ∧ PyData.depthAll (ws.map .str) = 0
  | [], _ => ⟨rfl, rfl⟩
  | w :: r, h => by
    obtain ⟨h1, h2⟩ := lay_strs (ws := r) fun x hx => h x (List.mem_cons_of_mem _ hx)
    refine ⟨?_, ?_⟩
    · show (PyData.strOk w && PyData.canLayAll0 (r.map .str)) = true
      rw [h w (List.mem_cons_self ..), h1]
      rfl
    · show max 0 (PyData.depthAll (r.map .str)) = 0
      rw [h2]
      rfl
theorem lay_rows : ∀ {rows : List (List PySem.Str)}, (∀ ws ∈ rows, ∀ w ∈ ws, PyData.strOk w = true) → PyData.canLayAll0 (rows.map tps) = true ∧ PyData.depthAll (rows.map tps) ≤ 1
  | [], _ => ⟨rfl, Nat.zero_le _⟩
  | ws :: r, h => by
    obtain ⟨h1, h2⟩ := lay_rows (rows := r) fun x hx => h x (List.mem_cons_of_mem _ hx)
    obtain ⟨h3, h4⟩ := lay_strs (h ws (List.mem_cons_self ..))
    refine ⟨?_, ?_⟩
    · show (PyData.canLayAll0 (ws.map .str) && PyData.canLayAll0 (r.map tps)) = true
      rw [h3, h1]
      rfl
    · show max (PyData.depthAll (ws.map .str) + 1) (PyData.depthAll (r.map tps)) ≤ 1
      rw [h4]
      omega
theorem rows_shaped {rows : List (List PySem.Str)} (h : ∀ ws ∈ rows, ∀ w ∈ ws, PyData.strOk w = true) : SeqAt.shaped (rowsD rows) = true := by
  obtain ⟨h1, h2⟩ := lay_rows h
  show (PyData.canLayAll0 (rows.map tps) && decide (PyData.depthAll (rows.map tps) + 1 ≤ 64)) = true
  rw [h1, decide_eq_true (by omega)]
  rfl
theorem row_strOk {rows : List (List PySem.Str)} (hR : ∀ ws ∈ rows, Row ws) : ∀ ws ∈ rows, ∀ w ∈ ws, PyData.strOk w = true := fun ws hw w hw2 => (nm_ok ((hR ws hw).nms w hw2)).2
theorem tps_shaped {ws : List PySem.Str} (h : ∀ w ∈ ws, PyData.strOk w = true) : SeqAt.shaped (tps ws) = true := by
  obtain ⟨h1, h2⟩ := lay_strs h
  show (PyData.canLayAll0 (ws.map .str) && decide (PyData.depthAll (ws.map .str) + 1 ≤ 64)) = true
  rw [h1, h2]
  rfl
/-- steps are no step -/
theorem rows_sv {K : PySem.W.Frag} {H : Hp} {a : Addr} {refs : List V} {rows : List (List PySem.Str)} (h : H a = some (.tup refs)) (hs : Paired (Ws K H) refs rows) (hR : ∀ ws ∈ rows, Row ws) (hL : rows.length ≤ 12) : Sv K H (.ref a) false := by
  have hd := ws_dp hs
  have tv : Tv K H (.ref a) (some refs) := .tup (SqT.of h) (.base (.tup h))
  cases rows with
  | nil => cases hs; exact .nil tv
  | cons ws r =>
    have h1 : okS (rowsD (ws :: r)) = true := by
      show (SeqAt.shaped (tps ws) && (r.map tps).all okD && decide ((r.map tps).length ≤ 900)) = true
      have e1 : (r.map tps).all okD = true := by
        rw [List.all_eq_true]
        intro d hd
        obtain ⟨x, _, rfl⟩ := List.mem_map.mp hd
        rfl
      rw [tps_shaped (row_strOk hR ws (List.mem_cons_self ..)), e1, decide_eq_true (by rw [List.length_map]; simp at hL; omega)]
      rfl
    have h2 : svD (rowsD (ws :: r)) = false := by
      cases r with
      | nil =>
        have w : isWish (tps ws) = false := rfl
        simp [rowsD, svD, stp, w]
      | cons w2 r =>
        have : nmD (tps w2) = false := rfl
        simp [rowsD, svD, this]
    have hdp : Dp K H (.ref a) (rowsD (ws :: r)) := .tup (SqT.of h) hd
    have z := dp_sv hdp h1
    rw [h2] at z
    exact z
end K8
/-! _law_steps_right: from the text on. -/
namespace K8
open PySem PySem.Spec PyProof.Rows L2 K0 K1 M46 LamX TL

theorem rows_stt {rows : List (List PySem.Str)} (hR : ∀ ws ∈ rows, Row ws) (hL : rows.length ≤ 12) : StT (stTxt rows) rows := by
  cases rows with
  | nil => exact ⟨rows_small hR hL, .inl ⟨by decide +kernel, rfl⟩⟩
  | cons ws r =>
    refine Lines.stt ⟨by simp, by omega, fun x hx => (hR x hx).wf⟩ rfl ?_
    obtain ⟨w, q, e⟩ : ∃ w q, ws = w :: q := (hR ws (List.mem_cons_self ..)).head
    subst e
    obtain ⟨c, u, e⟩ := nm_cons ((hR _ (List.mem_cons_self ..)).nms w (List.mem_cons_self ..))
    rw [len_tl, tl_txt]
    obtain ⟨z1, h1⟩ := joinL_cons (Z := [10]) (p := joinL [32] ((w :: q).map tl)) (ps := r.map fun ws => joinL [32] (ws.map tl))
    obtain ⟨z2, h2⟩ := joinL_cons (Z := [32]) (p := tl w) (ps := q.map tl)
    have h2 : joinL [32] ((w :: q).map tl) = tl w ++ z2 := h2
    rw [List.map_cons, h1, h2, e]
    simp
theorem rows_ok {rows : List (List PySem.Str)} (hR : ∀ ws ∈ rows, Row ws) : rows.all stpW = true := by
  rw [List.all_eq_true]
  exact fun ws hw => (hR ws hw).ok
def tMidE (K : PySem.W.Frag) (P1 P2 : Addr) : TS := fun D σ H => ∃ (p N S : Addr) (x y z : Int) (ws : List PySem.Str) (refs : List V) (rows : List (List PySem.Str)) (v3 v5 v6 v7 v8 v9 v10 : Option V),
  σ = [some (.ref p), some (.ref N), some (.ref S), v3, some (.str (stTxt rows)), v5, v6, v7, v8, v9, v10] ∧ Dice H p x y z ∧ p ≠ N ∧ H N = some (.lst (ws.map V.str)) ∧ 0 < ws.length ∧ ws.length ≤ 10 ∧ (∀ w ∈ ws, nm w = true) ∧ H S = some (.tup refs) ∧ Paired (W0 H) refs rows ∧ Tabs (Tb P1 P2) H ∧ (∀ ws ∈ rows, Row ws) ∧ rows.length ≤ 12 ∧
  ∀ x' z' H', Dice H' p x' y z' → Bp p H H' → Tabs (Tb P1 P2) H' → D.rt (.bl true) H'
section
variable {P : Program} {w : World} {K : PySem.W.Frag} {mg : PySem.Str → Option Value} {base : Heap}
theorem mid_turn {f c P1 P2 CP CO gT fS fF fU fT fB fP : Addr} {A : Around} {outer : List Env} {s : Shared} {H0 : Hp} {E0 : XK} {fdT fdS fdF fdU fdSt fdB fdP : FuncData}
    (hr : Room 6 (A.deeper (envOfC "_law_steps_right" (defScope sStRight) s.heap.objs.size f (.ref c)))) (T : Bare mg) (Z : TwoX K CP CO) (TB : TabB base mg c P1) (h12 : P1 ≠ P2) (mP : mg "ParseError" = some (.ref CP)) (mO : mg "InvalidOperation" = some (.ref CO))
    (FS : Fun K "parse_steps" "parse_steps" sParSt fS fdS) (bS : Binds K fdS ["text"] []) (mS : mg "parse_steps" = some (.ref fS)) (GS : FnOk P w K mg base (L2.CX P w) 4 fS fdS ["text"] (spParSt K CP))
    (FF : Fun K "format_steps" "format_steps" sFmtSt fF fdF) (bF : Binds K fdF ["steps"] []) (mF : mg "format_steps" = some (.ref fF)) (GF : FnOk P w K mg base (L2.CX P w) 4 fF fdF ["steps"] (spFmtSt K CO))
    (FU : Fun K "_law_pull" "_law_pull" sPull fU fdU) (bU : Binds K fdU ["_law_dice_here", "_law_total"] []) (mU : mg "_law_pull" = some (.ref fU)) (GU : FnOk P w K mg base CX0 1 fU fdU ["_law_dice_here", "_law_total"] spPull)
    (FP : Fun K "_law_pick" "_law_pick" sPick fP fdP) (bP : Binds K fdP ["_law_dice_here", "_law_items"] []) (mPk : mg "_law_pick" = some (.ref fP)) (GP : FnOk P w K mg base CX0 2 fP fdP ["_law_dice_here", "_law_items"] spPick)
    (FT : Fun K "_law_step" "_law_step" sStep fT fdSt) (bT : Binds K fdSt ["_law_dice_here", "_law_names_here"] []) (mT : mg "_law_step" = some (.ref fT)) (GT : FnOk P w K mg base CX0 3 fT fdSt ["_law_dice_here", "_law_names_here"] spStep)
    (FB : Fun K "_law_bad_step" "_law_bad_step" sBadSt fB fdB) (bB : Binds K fdB ["_law_dice_here", "_law_step_here"] []) (mB : mg "_law_bad_step" = some (.ref fB)) (GB : FnOk P w K mg base CX0 3 fB fdB ["_law_dice_here", "_law_step_here"] (spBadSt K))
    (FTold : Fun K "_law_told" "_law_told" sTold gT fdT) (bTold : Binds K fdT ["_law_call"] []) (mTold : mg "_law_told" = some (.ref gT)) :
    PSs (cxOf CX0 P w K mg base nSR "_law_steps_right" (defScope sStRight) f (.ref c) A outer s H0 E0).nox ((defBody sStRight).drop 3) (tMidE K P1 P2) := by
  have L := odd_turn (E0 := E0) (outer := outer) (H0 := H0) (base := base) hr T Z TB h12 mP mO FS bS mS GS FF bF mF GF FTold bTold mTold
  refine pss_conv (pss_cons (ps_if (PW.pt (pw_or (pt_cmpR op_ne (pe_call (E := L2.E0) GF (hr.mono (by decide)) (by rfl) mF FF.kp bF .nil passL (pa_cons (pv 2) pa_nil)) (pv 4) (nomark _)) (pw_or1 (pt_cmpR (op_neD hr.units) (pe_call (E := L2.E0) GS (hr.mono (by decide)) (by rfl) mS FS.kp bS .nil passL (pa_cons (pv 4) pa_nil)) (pv 2) (nomark _))))) (pss_one (ps_ret pe_bl)) pss_nil)
    (pss_cons (ps_par (i := 5) (j := 3) rfl scSR.nd rfl rfl (by decide) rfl rfl (pa_cons (pe_call GU (hr.mono (by decide)) (by rfl) mU FU.kp bU .nil pass0 (pa_cons (pv 0) (pa_cons (pe_op op_add (pe_callB call_len_seq (by rfl) T.len (by decide +kernel) (pa_cons (pv 2) pa_nil)) pe_int) pa_nil))) (pa_cons (pe_call GT (hr.mono (by decide)) (by rfl) mT FT.kp bT .nil pass0 (pa_cons (pv 0) (pa_cons (pv 1) pa_nil))) pa_nil)) (by rfl))
    (pss_cons (ps_set (i := 7) scSR.nd rfl (Or.inr rfl) (pe_op op_catA (pe_op op_catA (pe_slice sl_tupA (pv 2) po_none (po_some (pv 5))) (pe_tup (pa_cons (pe_call GB (hr.mono (by decide)) (by rfl) mB FB.kp bB .nil pass0 (pa_cons (pv 0) (pa_cons (pv 3) pa_nil))) pa_nil))) (pe_slice sl_tupA (pv 2) (po_some (pv 5)) po_none)))
    (pss_cons (ps_set (i := 8) scSR.nd rfl (Or.inr rfl) (pe_call GP (hr.mono (by decide)) (by rfl) mPk FP.kp bP .nil pass0 (pa_cons (pv 0) (pa_cons (pe_lst (pa_cons pe_non (pa_cons (pe_callTy call_list_of (by rfl) T.list (by decide +kernel) (pa_cons (pv 2) pa_nil)) (pa_cons pe_str (pa_cons pe_dnewK (pa_cons pe_int (pa_cons (pe_tup (pa_cons (pv 2) pa_nil)) pa_nil))))))) pa_nil)))) L)))) fun pins s1 σ H D I h => ?_
  obtain ⟨p, N, S, x, y, z, ws, refs, rows, v3, v5, v6, v7, v8, v9, v10, rfl, D0, hpN, hN, h0, h10, hnm, hS, hs, hT, hR, hL, k⟩ := h
  have tvS : ∀ {G : Hp}, G S = some (.tup refs) → Tv K G (.ref S) (some refs) := fun e => .tup (SqT.of e) (.base (.tup e))
  have sh := rows_shaped (row_strOk hR)
  have hrl := paired_len hs
  -- the texts are right
  refine ⟨_, rfl, .ref S, some rows, rfl, .good (tvS hS) (w0s_ws hs) (rows_small hR hL) (rows_ok hR), fun H1 s1 => ?_⟩
  refine ⟨_, rfl, rfl, _, rfl, ite2 (fun z => absurd z (by simp)) fun _ => ?_⟩
  refine ⟨_, rfl, stTxt rows, rows, rfl, rows_stt hR hL, ?_⟩
  rw [rows_ok hR]
  intro q ps H2 s2 eq hps
  have c2 := s1.trans s2
  refine ⟨_, rfl, rowsD rows, rowsD rows, .tup (SqT.of eq) (ws_dp hps), .tup (SqT.of (c2 _ _ hS)) (ws_dp (w0s_ws (paired_map (fun _ _ q => q.same c2) hs))), sh, sh, _, rfl, ite2 (fun z => absurd z (by rw [SeqAt.eqv_refl _ (SeqAt.canLay_of_shaped sh)] <;> simp)) fun _ => ?_⟩
  have D2 := D0.same c2
  have hS2 := c2 _ _ hS
  have hN2 := c2 _ _ hN
  have hs2 := paired_map (fun _ _ q => q.same c2) hs
  have hT2 := hT.ext c2
  have k2 : ∀ x' z' H', Dice H' p x' y z' → Bp p H2 H' → Tabs (Tb P1 P2) H' → D.rt (.bl true) H' := fun x' z' H' d b t => k x' z' H' d (fun a o ha hn e => b a o ha hn (c2 _ _ e)) t
  clear k hS hN hs hT D0 s1 s2 c2 eq hps
  -- a place, a step
  refine ⟨_, rfl, _, rfl, S, refs, rfl, .inr (SqT.of hS2), _, _, rfl, rfl, p, x, y, z, _, rfl, D2, by omega, by omega, fun r x3 z3 H3 r0 r1 D3 _ k3 => ?_⟩
  have hSp : S ≠ p := ne_of hS2 D2.at_ (by intro z; cases z)
  have hN3 := k3 N _ hpN.symm hN2
  obtain ⟨n, rfl⟩ : ∃ n : Nat, r = (n : Int) := ⟨r.toNat, by omega⟩
  have hn : n ≤ refs.length := by omega
  refine ⟨_, rfl, _, rfl, p, N, x3, y, z3, ws, rfl, D3, hpN, hN3, h0, by omega, hnm, fun rr row x4 z4 H4 hrow nrr err D4 k4 => ?_⟩
  have b4 : But p H2 H4 := But.trans k3 k4
  have hS4 := b4 S _ hSp hS2
  -- a value that is none among them
  refine ⟨_, _, rfl, _, rfl, _, rfl, _, rfl, slT (SqT.of hS4) (cut_take hn) fun r1 H5 s5 q1 => ?_⟩
  refine ⟨_, rfl, _, rfl, p, rr, x4, y, z4, row, rfl, D4.same s5, SqT.of (s5 _ _ err), hrow, fun vb d x6 z6 H6 hd dvb D6 k6 => ?_⟩
  have b6 : But p H2 H6 := (b4.trans (But.of s5)).trans k6
  refine ⟨by rw [sizeLine_eq]; show 1 ≤ 16777216; decide, fun tb ntb => ?_⟩
  have s7 := sn (o := .tup [vb]) ntb
  refine catT (sqT_same (sqT_but (D4.same s5).at_ k6 q1) s7) (SqT.of upd_same) (by rw [List.length_take, sizeLine_eq]; simp; omega) fun r2 H8 s8 q2 => ?_
  have b8 : But p H2 H8 := b6.trans (But.of (s7.trans s8))
  have hS8 := b8 S _ hSp hS2
  refine ⟨_, rfl, _, rfl, _, rfl, ?_⟩
  delta tNoPart
  refine slT (SqT.of hS8) (cut_drop hn) fun r3 H9 s9 q3 => ?_
  refine catT (sqT_same q2 s9) q3 (by rw [List.length_append, List.length_take, List.length_drop, sizeLine_eq]; simp; omega) fun B HB sB qB => ?_
  have s6B : Same H6 HB := ((s7.trans s8).trans s9).trans sB
  have bB : But p H2 HB := b6.trans (But.of s6B)
  have DB := D6.same s6B
  have dB := dp_same s6B dvb
  have hSB := bB S _ hSp hS2
  clear q1 q2 q3 s5 s7 s8 s9 sB D3 D4 D6 b4 b6 b8 hS4 hS8 dvb k6 k3 k4 err
  -- a value that is no tuple of steps
  refine ⟨_, rfl, _, rfl, S, refs, rfl, .inr (SqT.of hSB), fun l nl => ?_⟩
  have sl := sn (o := .lst refs) nl
  refine fun dd ndd => ?_
  have sd := sl.trans (sn (o := .dK []) ndd)
  refine ⟨_, rfl, by rw [sizeLine_eq]; show 1 ≤ 16777216; decide, fun t nt => ?_⟩
  have st := sd.trans (sn (o := .tup [.ref S]) nt)
  refine ⟨by rw [sizeLine_eq]; show 6 ≤ 16777216; decide, fun L nL => ?_⟩
  have sL := st.trans (sn (o := .lst [.non, .ref l, .str "send a", .ref dd, .int 7, .ref t]) nL)
  have el := ((sn (o := .dK []) ndd).trans (sn (o := .tup [.ref S]) nt)).trans (sn (o := .lst [.non, .ref l, .str "send a", .ref dd, .int 7, .ref t]) nL) _ _ (upd_same (H := HB) (a := l) (o := .lst refs))
  have ed := ((sn (o := .tup [.ref S]) nt)).trans (sn (o := .lst [.non, .ref l, .str "send a", .ref dd, .int 7, .ref t]) nL) _ _ (upd_same (H := upd HB l (.lst refs)) (a := dd) (o := .dK []))
  have et := (sn (o := .lst [.non, .ref l, .str "send a", .ref dd, .int 7, .ref t]) nL) _ _ (upd_same (H := upd (upd HB l (.lst refs)) dd (.dK [])) (a := t) (o := .tup [.ref S]))
  have eL : (upd (upd (upd (upd HB l (.lst refs)) dd (.dK [])) t (.tup [.ref S])) L (.lst [.non, .ref l, .str "send a", .ref dd, .int 7, .ref t])) L = some (.lst [.non, .ref l, .str "send a", .ref dd, .int 7, .ref t]) := upd_same
  have hlp : p ≠ l := ne_of_none DB.at_ nl
  have hLp : p ≠ L := ne_of_none ((st) _ _ DB.at_) nL
  generalize upd (upd (upd (upd HB l (.lst refs)) dd (.dK [])) t (.tup [.ref S])) L (.lst [.non, .ref l, .str "send a", .ref dd, .int 7, .ref t]) = HL at sL el ed et eL ⊢
  have DL := DB.same sL
  have hdp : dd ≠ p := ne_of ed DL.at_ (by intro z; cases z)
  have htp : t ≠ p := ne_of et DL.at_ (by intro z; cases z)
  refine ⟨p, L, x6, y, z6, _, rfl, DL, hLp, eL, by show 0 < 6; decide, by show 6 < 1000; decide, fun j v x7 z7 HF hj DF _ kF => ?_⟩
  have bF : But p H2 HF := (bB.trans (But.of sL)).trans kF
  have hSF := bF S _ hSp hS2
  have hsF : Paired (Ws K HF) refs rows := w0s_ws (paired_map (fun _ _ q => q.bp D2 bF.bp) hs2)
  refine ⟨_, _, _, _, _, _, _, _, .ref B, v, rows, rfl, ?_, ?_, tabs_but D2 hT2 bF, hR, hL, fun H' e t => k2 _ _ H' (dice_ext DF e) (bF.bp.ext e) t⟩
  · have qF := sqT_but DL.at_ kF (sqT_same qB sL)
    have dF := dp_but DL.at_ kF (dp_same sL dB) (bads_clean hrow d hd)
    obtain ⟨ok, no⟩ := bads_no hrow d hd
    have svb := dp_sv dF ok
    rw [no] at svb
    have svs := (rows_small hR hL).sv hsF
    have pr : Paired (Sv K HF) (refs.take n ++ [vb] ++ refs.drop n) ((rows.map stpW).take n ++ [false] ++ (rows.map stpW).drop n) := paired_append (paired_append (paired_take n svs) (.cons svb .nil)) (paired_drop n svs)
    have tyB : TyX K HF (.ref B) (.type "tuple") := tyx_tup qF
    exact .bad (.tup qF tyB) pr (by rw [List.length_append, List.length_append, List.length_take, List.length_drop]; simp; omega) (by simp)
  · match j, hj with
    | 0, hj => cases hj; exact .no (.no (.base .non) (by decide +kernel))
    | 1, hj => cases hj; exact .no (.no (.base (.lst (kF _ _ hlp.symm el))) (by decide +kernel))
    | 2, hj => cases hj; exact .no (.no (.base (.str _)) (by decide +kernel))
    | 3, hj => cases hj; exact .no (.no (.base (.dK (kF _ _ hdp ed))) (by decide +kernel))
    | 4, hj => cases hj; exact .no (.no (.base (.int _)) (by decide +kernel))
    | 5, hj =>
      cases hj
      exact .bad (.tup (SqT.of (kF _ _ htp et)) (.base (.tup (kF _ _ htp et)))) (.cons (rows_sv hSF hsF hR hL) .nil) (by simp) rfl
    | j + 6, hj => simp at hj
end
end K8
/-! _law_steps_right. -/
namespace K8
open PySem PySem.Spec PyProof.Rows L2 K0 K1 M46 LamX TL

/-- a def whose code object is known -/
theorem fn_ofC {P : Program} {w : World} {K : PySem.W.Frag} {mg : PySem.Str → Option Value} {base : Heap} {k : Nat} {f c : Addr} {x qual : PySem.Str} {st : Stmt} {fd : FuncData} {N ps : List PySem.Str} {sp : Sp} (F : Fun K x qual st f fd) (hc : fd.code = .ref c) (S : FnScope N ps (defScope st)) (len : ∀ vs H Q E, sp vs H Q E → vs.length = ps.length)
    (hbody : ∀ (A : Around) (outer : List Env) (s : Shared) (H : Hp) (vs : List V) (Q : VK) (E : XK), Room k (A.deeper (envOfC qual (defScope st) s.heap.objs.size f (.ref c))) → sp vs H Q E →
      ∃ t, PSs (cxOf CX0 P w K mg base N qual (defScope st) f (.ref c) A outer s H E).nox (defBody st) t ∧ t { nx := fun _ H' => Q .non H', rt := Q } (start N vs) H) : FnOk P w K mg base CX0 (k + 1) f fd ps sp := by
  obtain ⟨oc, od, kV, doc, pm, an, cdv, ct, osl, rfl, lk, hcd⟩ := F.ex
  obtain rfl : cdv = .ref c := hc
  refine ⟨len, fun A outer s H args us vs Q E hr e0 hb r hsp => ?_⟩
  refine run_ofS (N := N) (ps := ps) lk hcd S hr e0 hb r (len _ _ _ _ hsp) fun hr' => ?_
  obtain ⟨t, ht, hq⟩ := hbody A outer s H vs Q E hr' hsp
  exact ⟨t, ht.nox, hq⟩
def spTurn (P1 P2 : Addr) : Sp := fun vs H Q _ => ∃ (p : Addr) (x y z : Int), vs = [.ref p] ∧ Dice H p x y z ∧ Tabs (Tb P1 P2) H ∧ ∀ x' z' H', Dice H' p x' y z' → Bp p H H' → Tabs (Tb P1 P2) H' → Q (.bl true) H'
theorem W0.but {p : Addr} {x y z : Int} {H H' : Hp} {v : V} {ws : List PySem.Str} (D : Dice H p x y z) (b : But p H H') (h : W0 H v ws) : W0 H' v ws := h.bp D b.bp
section
variable {P : Program} {w : World} {K : PySem.W.Frag} {mg : PySem.Str → Option Value} {base : Heap}
theorem ok_st_right {f c P1 P2 CP CO gT fS fF fU fT fB fP fK : Addr} {fd fdT fdS fdF fdU fdSt fdB fdP fdK : FuncData}
    (F : Fun K "_law_steps_right" "_law_steps_right" sStRight f fd) (hc : fd.code = .ref c) (T : Bare mg) (Z : TwoX K CP CO) (TB : TabB base mg c P1) (h12 : P1 ≠ P2) (mP : mg "ParseError" = some (.ref CP)) (mO : mg "InvalidOperation" = some (.ref CO))
    (FS : Fun K "parse_steps" "parse_steps" sParSt fS fdS) (bS : Binds K fdS ["text"] []) (mS : mg "parse_steps" = some (.ref fS)) (GS : FnOk P w K mg base (L2.CX P w) 4 fS fdS ["text"] (spParSt K CP))
    (FF : Fun K "format_steps" "format_steps" sFmtSt fF fdF) (bF : Binds K fdF ["steps"] []) (mF : mg "format_steps" = some (.ref fF)) (GF : FnOk P w K mg base (L2.CX P w) 4 fF fdF ["steps"] (spFmtSt K CO))
    (FU : Fun K "_law_pull" "_law_pull" sPull fU fdU) (bU : Binds K fdU ["_law_dice_here", "_law_total"] []) (mU : mg "_law_pull" = some (.ref fU)) (GU : FnOk P w K mg base CX0 1 fU fdU ["_law_dice_here", "_law_total"] spPull)
    (FP : Fun K "_law_pick" "_law_pick" sPick fP fdP) (bP : Binds K fdP ["_law_dice_here", "_law_items"] []) (mPk : mg "_law_pick" = some (.ref fP)) (GP : FnOk P w K mg base CX0 2 fP fdP ["_law_dice_here", "_law_items"] spPick)
    (FT : Fun K "_law_step" "_law_step" sStep fT fdSt) (bT : Binds K fdSt ["_law_dice_here", "_law_names_here"] []) (mT : mg "_law_step" = some (.ref fT)) (GT : FnOk P w K mg base CX0 3 fT fdSt ["_law_dice_here", "_law_names_here"] spStep)
    (FB : Fun K "_law_bad_step" "_law_bad_step" sBadSt fB fdB) (bB : Binds K fdB ["_law_dice_here", "_law_step_here"] []) (mB : mg "_law_bad_step" = some (.ref fB)) (GB : FnOk P w K mg base CX0 3 fB fdB ["_law_dice_here", "_law_step_here"] (spBadSt K))
    (FK : Fun K "_law_kinds" "_law_kinds" sKinds fK fdK) (bK : Binds K fdK ["_law_dice_here", "_law_total"] []) (mK : mg "_law_kinds" = some (.ref fK)) (GK : FnOk P w K mg base CX0 3 fK fdK ["_law_dice_here", "_law_total"] spKinds)
    (FTold : Fun K "_law_told" "_law_told" sTold gT fdT) (bTold : Binds K fdT ["_law_call"] []) (mTold : mg "_law_told" = some (.ref gT)) : FnOk P w K mg base CX0 7 f fd ["_law_dice_here"] (spTurn P1 P2) := by
  refine fn_ofC F hc scSR (fun vs H Q E h => ?_) (fun A outer s H vs Q E hr h => ?_)
  · obtain ⟨p, x, y, z, rfl, _⟩ := h
    rfl
  · obtain ⟨p, x, y, z, rfl, D, hT, k⟩ := h
    have L := mid_turn (E0 := E) (outer := outer) (H0 := H) (base := base) hr T Z TB h12 mP mO FS bS mS GS FF bF mF GF FU bU mU GU FP bP mPk GP FT bT mT GT FB bB mB GB FTold bTold mTold
    refine ⟨_, pss_cons (ps_set (i := 1) scSR.nd rfl (Or.inr rfl) (pe_op op_cat (pe_lst (pa_cons pe_str (pa_cons pe_str (pa_cons pe_str (pa_cons pe_str pa_nil))))) (pe_call GK (hr.mono (by decide)) (by rfl) mK FK.kp bK .nil pass0 (pa_cons (pv 0) (pa_cons pe_int pa_nil)))))
      (pss_cons (ps_set (i := 2) scSR.nd rfl (Or.inl rfl) (pe_callTy call_tuple_of (by rfl) T.tup (by decide +kernel) (pa_cons
        (pe_lc (own := [("_law_turn", 9)]) (g := gName 9) (tt := tYes) rfl scSR.nd (pi_range1 (by rfl) T.rng (pa_cons (pe_call GU (hr.mono (by decide)) (by rfl) mU FU.kp bU .nil pass0 (pa_cons (pv 0) (pa_cons pe_int pa_nil))) pa_nil)) (blkOk_by (own := [("_law_turn", 9)]) (N := nSR) (sc := defScope sStRight) (by decide +kernel)) (fun _ _ _ _ _ => pg_name (i := 9) scSR.nd rfl (Or.inl rfl)) (fun _ _ _ _ _ => pts_nil) (fun _ _ _ _ _ => (pe_call GT (hr.mono (by decide)) (by rfl) mT FT.kp bT .nil pass0 (pa_cons (pv 0) (pa_cons (pv 1) pa_nil))))) pa_nil)))
      (pss_cons (ps_set (i := 4) scSR.nd rfl (Or.inl rfl) (pe_joinJ pe_str
        (pe_lc (own := [("_law_step_here", 3)]) (g := gName 3) (tt := tYes) (te := tJoin K (tC (.str " ")) (tVar 3)) rfl scSR.nd (pi_tup (pv 2)) (blkOk_by (own := [("_law_step_here", 3)]) (N := nSR) (sc := defScope sStRight) (by decide +kernel)) (fun _ _ _ _ _ => pg_name (i := 3) scSR.nd rfl (Or.inl rfl)) (fun _ _ _ _ _ => pts_nil) (fun _ _ _ _ _ => by exact pe_joinJ pe_str (pv 3))))) L)), ?_⟩
    refine ⟨by rw [sizeLine_eq]; show 4 ≤ 16777216; decide, fun l nl => ?_⟩
    have e1 : (upd H l (.lst [.str "a", .str "b", .str "send", .str "zzzzzzzz"])) l = some (.lst [.str "a", .str "b", .str "send", .str "zzzzzzzz"]) := upd_same
    have D1 := D.upd (o := .lst [.str "a", .str "b", .str "send", .str "zzzzzzzz"]) nl
    have npl : p ≠ l := ne_of_none D.at_ nl
    have b1 : But p H (upd H l (.lst [.str "a", .str "b", .str "send", .str "zzzzzzzz"])) := But.of (sn nl)
    generalize upd H l (.lst [.str "a", .str "b", .str "send", .str "zzzzzzzz"]) = H1 at e1 D1 b1 ⊢
    refine ⟨_, rfl, p, x, y, z, rfl, D1, fun q ws x2 z2 H2 D2 k2 nq eq hws hnm => ?_⟩
    refine ⟨l, q, _, _, rfl, rfl, k2 _ _ npl.symm e1, eq, by rw [List.length_map, sizeLine_eq]; show 4 + ws.length ≤ 16777216; omega, fun N nN => ?_⟩
    have eN : (upd H2 N (.lst ([.str "a", .str "b", .str "send", .str "zzzzzzzz"] ++ ws.map V.str))) N = some (.lst ((("a" : PySem.Str) :: "b" :: "send" :: "zzzzzzzz" :: ws).map V.str)) := upd_same
    have D3 := D2.upd (o := .lst ([.str "a", .str "b", .str "send", .str "zzzzzzzz"] ++ ws.map V.str)) nN
    have npN : p ≠ N := ne_of_none D2.at_ nN
    have b3 : But p H (upd H2 N (.lst ([.str "a", .str "b", .str "send", .str "zzzzzzzz"] ++ ws.map V.str))) := (b1.trans k2).trans (But.of (sn nN))
    have hwl : (("a" : PySem.Str) :: "b" :: "send" :: "zzzzzzzz" :: ws).length ≤ 10 := by simp; omega
    have hwn : ∀ w ∈ (("a" : PySem.Str) :: "b" :: "send" :: "zzzzzzzz" :: ws), nm w = true := fun w hw => by
      simp only [List.mem_cons] at hw
      rcases hw with rfl | rfl | rfl | rfl | hw
      · decide +kernel
      · decide +kernel
      · decide +kernel
      · decide +kernel
      · exact hnm w hw
    have hw0 : 0 < (("a" : PySem.Str) :: "b" :: "send" :: "zzzzzzzz" :: ws).length := by simp
    generalize (("a" : PySem.Str) :: "b" :: "send" :: "zzzzzzzz" :: ws) = wsA at eN hwl hwn hw0
    generalize upd H2 N (.lst ([.str "a", .str "b", .str "send", .str "zzzzzzzz"] ++ ws.map V.str)) = H3 at eN D3 b3 ⊢
    clear D1 D2 e1 b1 k2 eq nq nl nN
    -- the steps
    refine ⟨_, rfl, p, x2, y, z2, 13, rfl, D3, by decide, by decide, fun r x4 z4 H4 r0 r1 D4 _ k4 => ?_⟩
    obtain ⟨n, rfl⟩ : ∃ n : Nat, r = (n : Int) := ⟨r.toNat, by omega⟩
    have b4 : But p H H4 := b3.trans k4
    have eN4 := k4 _ _ npN.symm eN
    refine ⟨(n : Int), rfl, by omega, by omega, fun R nR => ?_⟩
    have bR : ∀ {G : Hp} {u : HO}, But p H4 G → But p H4 (upd G R u) := fun b c o hc e => by rw [upd_ne (ne_of_none e nR)]; exact b c o hc e
    have npR : p ≠ R := ne_of_none D4.at_ nR
    refine lc_range (n := n) (fun i G => ∃ (refs : List V) (rows : List (List PySem.Str)) (x' z' : Int), G R = some (.lst refs) ∧ Paired (W0 G) refs rows ∧ (∀ ws ∈ rows, Row ws) ∧ rows.length = i ∧ Dice G p x' y z' ∧ But p H4 G)
      ⟨[], [], x4, z4, upd_same, .nil, (fun _ h => nomatch h), rfl, D4.upd nR, bR (fun _ _ _ e => e)⟩ (fun i G hi hP => ⟨rfl, ?_⟩) (fun G hP => ?_)
    · obtain ⟨refs, rows, x', z', hR, hs, hr2, hl, DG, bG⟩ := hP
      refine ⟨_, rfl, _, rfl, p, N, x', y, z', wsA, rfl, DG, npN, bG _ _ npN.symm eN4, hw0, by omega, hwn, fun rr row x5 z5 G2 hrow nrr err D5 k5 => ?_⟩
      have hR5 := k5 R _ npR.symm hR
      have hrl := paired_len hs
      have hRp : R ≠ rr := fun e => by rw [← e] at nrr; rw [nrr] at hR; cases hR
      refine ⟨refs, hR5, by rw [hrl, sizeLine_eq]; omega, refs ++ [.ref rr], rows ++ [row], x5, z5, upd_same, ?_, fun ws hw => ?_, by rw [List.length_append, List.length_singleton, hl], ⟨by rw [upd_ne npR]; exact D5.at_, D5.x0, D5.x1, D5.y0, D5.y1, D5.z0⟩, bR (bG.trans k5)⟩
      · refine paired_append (paired_map (fun _ _ q => (q.but DG k5).put hR5) hs) (.cons ⟨rr, rfl, ?_⟩ .nil)
        rw [upd_ne hRp.symm]
        exact err
      · rcases List.mem_append.mp hw with hw | hw
        · exact hr2 ws hw
        · rw [List.mem_singleton.mp hw]; exact hrow
    obtain ⟨refs, rows, x', z', hR, hs, hr2, hl, DG, bG⟩ := hP
    refine ⟨R, refs, rfl, .inl ⟨SqL.of hR, fun S nS => ?_⟩⟩
    have s5 := sn (o := .tup refs) nS
    have eS : (upd G S (.tup refs)) S = some (.tup refs) := upd_same
    have b5 : But p H (upd G S (.tup refs)) := (b4.trans bG).trans (But.of s5)
    have eN5 := s5 _ _ (bG _ _ npN.symm eN4)
    have D5 := DG.same s5
    have hs5 : Paired (W0 (upd G S (.tup refs))) refs rows := paired_map (fun _ _ q => q.same s5) hs
    have hw5 := w0s_ws (K := K) hs5
    have hbl := paired_len hs
    have hL : rows.length ≤ 12 := by omega
    have hsm := rows_small hr2 hL
    generalize upd G S (.tup refs) = H5 at eS b5 eN5 D5 hs5 hw5 ⊢
    refine ⟨⟨_, rfl⟩, _, rfl, S, rfl, ⟨_, SqT.of eS⟩, fun D2 n2 => ?_⟩
    have sD2 : ∀ o, Same H5 (upd H5 D2 o) := fun o => sn n2
    refine lc_tup (K := K) (a := S) (xs := refs) (fun i H2 => H2 D2 = some (.lst (((rows.map (Txt.join " ")).take i).map V.str)) ∧ ∀ b u, H5 b = some u → H2 b = some u) ⟨upd_same, sD2 _⟩ (fun i H2 _ hP2 => SqT.of (hP2.2 _ _ eS)) (fun i x H2 hx hP2 => ⟨rfl, ?_⟩) (fun H2 hP2 => ?_)
    · obtain ⟨ws, hb, hm, hv⟩ := getElem_rows hw5 hx
      have hi : i < rows.length := (List.getElem?_eq_some_iff.mp hb).1
      obtain ⟨a1, rfl, e1, _⟩ := hv
      have e1' := sqT_same e1 hP2.2
      have hw := hsm.row ws hm
      refine ⟨⟨_, rfl⟩, _, rfl, " ", a1, ws, rfl, rfl, .inr e1', ?_, _, hP2.1, ?_, ?_, fun c u ec => ?_⟩
      · have z : (" " : PySem.Str).length = 1 := by decide +kernel
        rw [z, Nat.mul_one]
        omega
      · rw [List.length_map, List.length_take, List.length_map, sizeLine_eq]; omega
      · rw [upd_same, take_map_snoc (g := V.str) (by rw [List.getElem?_map, hb]; rfl)]
      · rw [upd_ne (ne_of_none ec n2)] <;> exact hP2.2 c u ec
    · refine ⟨_, D2, rows.map (Txt.join " "), rfl, rfl, .inl (SqL.of ?_), ?_, ?_⟩
      · rw [hP2.1, hbl, show rows.length = (rows.map (Txt.join " ")).length by rw [List.length_map], List.take_length]
      · have z : ("\n" : PySem.Str).length = 1 := by decide +kernel
        have b1 := join_le (y := "\n") (n := 1000) (ps := rows.map (Txt.join " ")) fun p hp => by
          obtain ⟨ws, hm, rfl⟩ := List.mem_map.mp hp
          exact row_len (hsm.row ws hm).2.2
        rw [z] at b1 ⊢
        rw [List.length_map] at b1 ⊢
        have : rows.length * (1000 + 1) ≤ 12 * (1000 + 1) := Nat.mul_le_mul_right _ hL
        omega
      · have s6 : Same H5 H2 := hP2.2
        have b6 : But p H H2 := b5.trans (But.of s6)
        exact ⟨p, N, S, x', y, z', wsA, refs, rows, _, _, _, _, _, _, _, rfl, D5.same s6, npN, s6 _ _ eN5, hw0, hwl, hwn, s6 _ _ eS, paired_map (fun _ _ q => q.same s6) hs5, tabs_but D hT b6, hr2, hL, fun x9 z9 H9 D9 b9 T9 => k x9 z9 H9 D9 (fun c o hc hn e => b9 c o hc hn (b6 c o hc e)) T9⟩
end
end K8
/-! A dict of texts takes a key of another kind. -/
namespace K8
open PySem PySem.Spec PyProof.Rows L2 K0 K1 M46

def nk : Key → NestedKey
  | .inl i => .num i
  | .inr x => .text x
theorem nk_inj {a b : Key} (h : nk a = nk b) : a = b := by
  cases a <;> cases b <;> simp only [nk, NestedKey.num.injEq, NestedKey.text.injEq, reduceCtorEq] at h <;> rw [h]
theorem nk_hash (w : World) (k : Key) : (nk k).hash w = keyH w k := by cases k <;> simp [nk, NestedKey.hash, keyH]
theorem nk_is {h : Heap} {k : Key} {v : Value} (e : keyIs k v = true) : NestedIs h (nk k) v := by
  rcases keyIs_shape e with ⟨i, t, rfl, rfl⟩ | ⟨x, t, rfl, rfl⟩
  · exact .int i t
  · exact .text x t
theorem nk_depth (k : Key) : (nk k).depth ≤ 8 := by cases k <;> simp [nk, NestedKey.depth]
/-- the rows of a dict of texts and numbers, as rows of any keys -/
theorem rows_of {P : Program} {w : World} {h : Heap} {a : Addr} {vs : List (Key × Value)} (dd : h.DictOf (mixKind P w) a vs) : ∃ xs : List Row3, DictR w h a xs ∧ KeysN h xs ∧ xs.map (·.1) = vs.map (fun kv => nk kv.1) := by
  obtain ⟨o, es, ep, ho, hc, hd, hk, hp, hn⟩ := dd
  have main : ∀ (es : List DictEntry) (vs : List (Key × Value)), (∀ e ∈ es, ∃ k, (mixKind P w).is k e.key = true ∧ e.hash = (mixKind P w).hash k) → Pairs (mixKind P w) es vs → ∃ xs : List Row3, es = xs.map (entN w) ∧ (∀ x ∈ xs, NestedIs h x.1 x.2.1) ∧ (∀ x ∈ xs, x.1.depth ≤ 8) ∧ xs.map (·.1) = vs.map (fun kv => nk kv.1) := by
    intro es
    induction es with
    | nil =>
      intro vs _ hp
      cases hp
      exact ⟨[], rfl, (fun _ h => nomatch h), (fun _ h => nomatch h), rfl⟩
    | cons e es ih =>
      intro vs hk hp
      cases hp with
      | @cons _ kv _ vs h1 h2 h3 =>
        obtain ⟨xs, e1, e2, e3, e4⟩ := ih vs (fun z hz => hk z (List.mem_cons_of_mem _ hz)) h3
        obtain ⟨k, b1, b2⟩ := hk e (List.mem_cons_self ..)
        have ek : k = kv.1 := (mixKind P w).inj e.key _ _ b1 h1
        subst ek
        refine ⟨(nk kv.1, e.key, e.val) :: xs, ?_, ?_, ?_, ?_⟩
        · rw [List.map_cons, e1]
          congr 1
          show e = ⟨(nk kv.1).hash w, e.key, e.val⟩
          rw [nk_hash, show keyH w kv.1 = e.hash from b2.symm]
        · intro x hx
          rcases List.mem_cons.mp hx with rfl | hx
          · exact nk_is h1
          · exact e2 x hx
        · intro x hx
          rcases List.mem_cons.mp hx with rfl | hx
          · exact nk_depth _
          · exact e3 x hx
        · rw [List.map_cons, List.map_cons, e4]
  obtain ⟨xs, e1, e2, e3, e4⟩ := main es.toList vs (fun e he => hk e (by simpa using he)) hp
  refine ⟨xs, ⟨o, es, ep, ho, hc, hd, e1⟩, ⟨e2, e3, ?_⟩, e4⟩
  rw [e4]
  have : vs.map (fun kv => nk kv.1) = (vs.map (·.1)).map nk := by rw [List.map_map]; rfl
  rw [this]
  exact List.pairwise_map.mpr (List.Pairwise.imp (fun h z => h (nk_inj z)) hn)
section
variable {X : Cx} {pins : List (Addr × Obj)} {σ : L2.St} {H : Hp} {s : Shared} {A : Around} {E : Value → Shared → Prop}
theorem ents_raw {w : World} : ∀ {rows : List (V × V)} {vs : List Value} {xs : List Row3}, True → True := fun _ => trivial
/-- d[key] = v, the key of any kind and new -/
theorem set_raw {a : Addr} {kvs : List (Key × V)} {k : NestedKey} {kv u : Value} {k0 v : V} {Q : Unit → Shared → Prop} (hu : A.units + 8 < cLine) (I : Inv X pins σ H s) (e : H a = some (.dK kvs)) (hk : NestedIs s.heap k kv) (hd : k.depth ≤ 8) (rk : RelV k0 kv) (rv : RelV v u)
    (hn : ∀ k', k ≠ nk k') (hz : kvs.length < 1000) (h : ∀ s', Inv X pins σ (upd H a (DRo a (kvs.map (fun kv => (kV kv.1, kv.2)) ++ [(k0, v)]))) s' → Q () s') : wpAny (model X.prog X.w) A (dictSet a kv u) Q E s := by
  obtain ⟨_, lo, vs, rel, dd⟩ := dk_of I.hok e
  obtain ⟨xs, m, hx, ex⟩ := rows_of dd
  have hl : xs.length = vs.length := by have := congrArg List.length ex; simpa using this
  have hl2 := rel.length
  refine set_n hu hk hd m hx (fun z => ?_) (by rw [sizeLine_eq]; omega) fun h' m' hs => h _ ?_
  · rw [ex] at z
    obtain ⟨kv, _, z⟩ := List.mem_map.mp z
    exact hn _ z.symm
  · obtain ⟨o, es, ep, ho, hc, hd, hk, hp, _⟩ := dd
    obtain ⟨o2, es2, ep2, ho2, _, hd2, he2⟩ := m
    rw [ho] at ho2
    injection ho2 with ho2
    subst ho2
    rw [hd] at hd2
    injection hd2 with e1 e2
    subst e1
    obtain ⟨o3, es3, ep3, ho3, hc3, hd3, he3⟩ := m'
    refine d_write I (by rw [e]; exact True.intro) hs ⟨o3, ho3⟩ (dro_new lo (by rw [List.length_append, List.length_map, List.length_singleton, sizeLine_eq]; omega) ⟨o3, ho3, hc3, hd3⟩ ?_)
    rw [he3, List.map_append, ← he2]
    exact paired_append (paired_ent rel hp) (.cons ⟨rk, rv⟩ .nil)
end
end K8
/-! d[None] = v of a dict of texts; {(x,): v}. -/
namespace K8
open PySem PySem.Spec PyProof.Rows L2 K0 K1 M46
open Sem (wp)

section
variable {prog : Program} {w : World} {A : Around} {E : Value → Shared → Prop} {s : Shared} {d : Addr} {key v : Value}
/-- o[i] = v of a dict, over storing -/
theorem setItem_any {Q : Unit → Shared → Prop} (hm : s.TypeIs (.ref d) "dict") (h : ∀ A' : Around, A'.units ≤ A.units + 8 → wpAny (model prog w) A' (dictSet d key v) (fun _ s' => Q () s') (fun _ _ => False) s) : wpAny (model prog w) A (setItem (.ref d) key v) Q E s := by
  unfold setItem
  try with_reducible refine wpAny_holding ?_
  refine wpAny_bind (wpAny_sequenceKey hm (by decide) ?_)
  refine wpAny_bind (wpAny_callSpecial?_slot (name := Str.ofString "__setitem__") hm F.slot_dict_setitem
    (wpAny_call_entry F.slot_dict_setitem hm F.entry_dict_setitem ?_ (args_dict_setitem _ _ _)))
  show wpAny _ _ (Builtin.Dict.notOrdered "__setitem__" ⟨[.ref d, key, v], []⟩ >>= _) _ _ s
  refine wpAny_bind (wpAny_notOrdered_dict hm ?_)
  show wpAny _ _ (dictSet d key v >>= _) _ _ s
  refine wpAny_bind (wpAny_mono (h _ ?_) (fun _ s' q => wpAny_pure ⟨.none, rfl, wpAny_pure q⟩) fun _ _ e => e.elim)
  show A.units + 1 ≤ A.units + 8
  omega
end
section
variable {X : Cx}
/-- o[None] = v of a dict of texts, by values -/
def rSetN : TSet := fun o i v H Q => ∃ a kvs, o = .ref a ∧ i = .non ∧ H a = some (.dK kvs) ∧ kvs.length < 1000 ∧ Q (upd H a (DRo a (kvs.map (fun kv => (kV kv.1, kv.2)) ++ [(.non, v)])))
theorem set_none (hu : X.A.units + 64 < cLine) : PSet X rSetN := by
  intro pins s σ H o i v ov iv u Q I ro ri rv h
  obtain ⟨a, kvs, rfl, rfl, e, hz, q⟩ := h
  obtain rfl : ov = Value.ref a := ro
  obtain rfl : iv = Value.none := ri
  obtain ⟨_, _, vs, _, dd⟩ := dk_of I.hok e
  refine wpAny_mono (setItem_any (E := X.xe) dd.typeIs (Q := fun _ s' => ∃ H', Inv X pins σ H' s' ∧ Q H') fun A' hA => ?_) (fun _ _ q => q) fun _ _ e => e
  exact set_raw (k := .none) (k0 := .non) (by omega) I e .none (by simp [NestedKey.depth]) rfl rv (fun k' z => by cases k' <;> simp [nk] at z) hz fun s' I' => ⟨_, I', q⟩
/-- {(x,): v} -/
def tDispT (K : PySem.W.Frag) (x : PySem.Str) (tk tv : TE) : TE := fun σ H Q => ∀ p, H p = none → tk σ (upd H p (.dK [])) fun k H1 => tv σ H1 fun v H2 => H2 p = some (.dK []) ∧ ∃ a, k = .ref a ∧ SqT K H2 a [.str x] ∧ Q (.ref p) (upd H2 p (DRo p [(.ref a, v)]))
theorem pe_dispT {x : PySem.Str} {k v : Expr} {tk tv : TE} {pos : Pos} (hu : X.A.units + 64 < cLine) (hk : PE X k tk) (hv : PE X v tv) : PE X (.Dict [some k] [v] pos) (tDispT X.K x tk tv) := by
  refine ⟨fun pins s σ H Q I q => ?_⟩
  have hn := I.hok.fresh (Nat.le_refl s.heap.objs.size)
  have I1 := I.laid (a := s.heap.objs.size) (o := .dK []) (h' := s.heap.push { cls := .type "dict", data := .dict #[] }) (t' := s.toks) (fun _ _ q => Heap.get?_push_of_some _ q) (Nat.le_refl _) (dk_empty s.heap I.big)
  refine wpAny_Dict_any rfl rfl (by simp) (by show 1 ≤ 15; omega) (pairTrees_cons_walk (thn (hk.run pins _ σ _ _ I1 (q _ hn)) fun kv s2 ⟨kx, H2, I2, rk, q2⟩ => thn (hv.run pins s2 σ H2 _ I2 q2) fun vv s3 ⟨vx, H3, I3, rv, q3⟩ => pairTrees_nil_walk ?_))
  obtain ⟨e, a, rfl, ht, q⟩ := q3
  obtain rfl : kv = Value.ref a := rk
  obtain ⟨its, r, ⟨o, ho, hc, n, hd⟩, _⟩ := I3.tuple ht
  cases r with
  | @cons _ u _ us r1 r2 =>
    cases r2
    obtain ⟨t, rfl⟩ := r1
    unfold storeAll
    rw [List.forIn_cons]
    refine wpAny_bind (wpAny_bind (set_raw (k := .tup [.text x]) (k0 := .ref a) (by omega) I3 e (.tup ho hc hd (.cons (.text x t) .nil)) (by simp [NestedKey.depth, NestedKey.depthAll]) rfl rv (fun k' z => by cases k' <;> simp [nk] at z) (by simp) fun s' I' => wpAny_pure ?_))
    show wpAny _ _ (forIn [] _ _) _ _ _
    rw [List.forIn_nil]
    exact wpAny_pure ⟨.ref s.heap.objs.size, _, I', rfl, q⟩
end
end K8
/-! Values that are no placing. -/
namespace K8
open PySem PySem.Spec PyProof.Rows L2 K0 K1 M46

/-- no placing, whatever becomes of the dice -/
def Bv (K : PySem.W.Frag) (p : Addr) (H : Hp) (v : V) : Prop := ∀ H', But p H H' → Pv K H' v false
theorem Bv.but {K : PySem.W.Frag} {p : Addr} {H H' : Hp} {v : V} (h : Bv K p H v) (b : But p H H') : Bv K p H' v := fun G c => h G (b.trans c)
theorem Bv.same {K : PySem.W.Frag} {p : Addr} {H H' : Hp} {v : V} (h : Bv K p H v) (s : Same H H') : Bv K p H' v := h.but (But.of s)
theorem Pv.bad {K : PySem.W.Frag} {H : Hp} {a : Addr} {rows : List (V × V)} {os : List (Option PySem.Str)} (h : DV H a rows) (hz : rows.length ≤ 1000) (hs : Paired (Nv K H) (rows.map (·.1) ++ rows.map (·.2)) os) (hb : os.all isNm = false) : Pv K H (.ref a) false := by
  by_cases h1 : 1 ≤ rows.length
  · by_cases h5 : rows.length ≤ 5
    · exact .mid h h1 h5 hs (.inl ⟨hb, rfl⟩)
    · exact .len h (.inr (by omega)) hz
  · exact .len h (.inl (by omega)) hz
section
variable {K : PySem.W.Frag} {p : Addr} {H : Hp}
theorem bv_raw {a : Addr} {rows : List (V × V)} (e : H a = some (DRo a rows)) (ha : a ≠ p) (hz : rows.length ≤ 1000) (hs : ∀ H', But p H H' → ∃ os, Paired (Nv K H') (rows.map (·.1) ++ rows.map (·.2)) os ∧ os.all isNm = false) : Bv K p H (.ref a) := fun H' b => by
  obtain ⟨os, h1, h2⟩ := hs H' b
  exact .bad (.inr (b _ _ ha e)) hz h1 h2
theorem bv_dK {a : Addr} {kvs : List (Key × V)} (e : H a = some (.dK kvs)) (ha : a ≠ p) (hz : kvs.length ≤ 1000) (hs : ∀ H', But p H H' → ∃ os, Paired (Nv K H') ((kvs.map fun kv => kV kv.1) ++ kvs.map (·.2)) os ∧ os.all isNm = false) : Bv K p H (.ref a) := fun H' b => by
  obtain ⟨os, h1, h2⟩ := hs H' b
  refine .bad (rows := kvs.map fun kv => (kV kv.1, kv.2)) (.inl ⟨kvs, .inl (b _ _ ha e), rfl⟩) (by rw [List.length_map]; exact hz) ?_ h2
  rw [List.map_map, List.map_map]
  exact h1
theorem bv_wd {a : Addr} {D : List (PySem.Str × PySem.Str)} (e : H a = some (.dK (wd D))) (ha : a ≠ p) (hz : D.length ≤ 1000) (hl : ∀ q ∈ D, q.1.length ≤ 1000 ∧ q.2.length ≤ 1000) (hb : plB D = false) : Bv K p H (.ref a) := fun H' b => by
  have := Pv.texts (K := K) (dv_wd (b _ _ ha e)) hz hl
  rw [hb] at this
  exact this
theorem bv_big {a : Addr} {kvs : List (Key × V)} (e : H a = some (.dK kvs)) (ha : a ≠ p) (hz : kvs.length = 0 ∨ (5 < kvs.length ∧ kvs.length ≤ 1000)) : Bv K p H (.ref a) := fun H' b =>
  .len (rows := kvs.map fun kv => (kV kv.1, kv.2)) (.inl ⟨kvs, .inl (b _ _ ha e), rfl⟩) (by rw [List.length_map]; omega) (by rw [List.length_map]; omega)
theorem bv_lst {a : Addr} {xs : List V} (e : H a = some (.lst xs)) (ha : a ≠ p) : Bv K p H (.ref a) := fun H' b => .no (.base (.lst (b _ _ ha e))) (by decide +kernel)
theorem bv_none : Bv K p H .non := fun _ _ => .no (.base .non) (by decide +kernel)
theorem bv_str {x : PySem.Str} : Bv K p H (.str x) := fun _ _ => .no (.base (.str _)) (by decide +kernel)
theorem bv_int {x : Int} : Bv K p H (.int x) := fun _ _ => .no (.base (.int _)) (by decide +kernel)
end
/-- a new value that is no placing -/
def tBv (K : PySem.W.Frag) (p : Addr) (Pre : L2.St → Hp → Prop) : TE := fun σ H Q => Pre σ H ∧ ∀ v H', Same H H' → Bv K p H' v → Q v H'
def tBvs (K : PySem.W.Frag) (p : Addr) (Pre : L2.St → Hp → Prop) (n : Nat) : TA := fun σ H Q => Pre σ H ∧ ∀ vs H', Same H H' → (∀ v ∈ vs, Bv K p H' v) → vs.length = n → Q vs H'
section
variable {X : Cx} {Pre : L2.St → Hp → Prop} {p : Addr}
theorem bvs_nil : PA X [] (tBvs X.K p Pre 0) := pa_conv pa_nil fun _ _ σ H Q _ h => h.2 _ _ (Same.refl _) (fun _ h => nomatch h) rfl
theorem bvs_cons {e : Expr} {es : List Expr} {n : Nat} (kp : Kept Pre) (h : PE X e (tBv X.K p Pre)) (r : PA X es (tBvs X.K p Pre n)) (hs : starEach (e :: es) X.env = (false, eval e X.env) :: starEach es X.env := by rfl) : PA X (e :: es) (tBvs X.K p Pre (n + 1)) :=
  pa_conv (pa_cons h r hs) fun _ _ σ H Q _ q => ⟨q.1, fun v H1 s1 h1 => ⟨kp _ _ _ q.1 s1, fun vs H2 s2 h2 hl => q.2 _ _ (s1.trans s2) (fun u hu => by
    rcases List.mem_cons.mp hu with rfl | hu
    · exact h1.same s2
    · exact h2 u hu) (by rw [List.length_cons, hl])⟩⟩
theorem pb_of {e : Expr} {t : TE} (h : PE X e t) (c : ∀ (σ : L2.St) (H : Hp) (Q : VK), Pre σ H → (∀ v H', Same H H' → Bv X.K p H' v → Q v H') → t σ H Q) : PE X e (tBv X.K p Pre) := pe_conv h fun _ _ σ H Q _ q => c σ H Q q.1 q.2
theorem pb_str {x : PySem.Str} {k : Nat} {pos : Pos} : PE X (.Constant (.str x) k pos) (tBv X.K p Pre) := pb_of pe_str fun σ H Q _ q => q _ _ (Same.refl _) bv_str
theorem pb_non {k : Nat} {pos : Pos} : PE X (.Constant .none k pos) (tBv X.K p Pre) := pb_of pe_non fun σ H Q _ q => q _ _ (Same.refl _) bv_none
theorem pb_int {i : Int} {k : Nat} {pos : Pos} : PE X (.Constant (.int i) k pos) (tBv X.K p Pre) := pb_of pe_int fun σ H Q _ q => q _ _ (Same.refl _) bv_int
/-- where the dice lie -/
def Lies (p : Addr) (H : Hp) : Prop := ∃ o, H p = some o
theorem Lies.ne {p q : Addr} {H : Hp} (h : Lies p H) (n : H q = none) : q ≠ p := fun e => by
  obtain ⟨o, h⟩ := h
  rw [e, h] at n
  cases n
theorem Lies.same {p : Addr} {H H' : Hp} (h : Lies p H) (s : Same H H') : Lies p H' := let ⟨o, h⟩ := h; ⟨o, s _ _ h⟩
theorem pb_nil {pos : Pos} (hp : ∀ σ H, Pre σ H → Lies p H) : PE X (.List [] pos) (tBv X.K p Pre) := pb_of (pe_lst pa_nil) fun σ H Q pre q => ⟨by rw [sizeLine_eq]; simp, fun l nl => q _ _ (sn nl) (bv_lst upd_same ((hp _ _ pre).ne nl))⟩
theorem pb_new {pos : Pos} (hp : ∀ σ H, Pre σ H → Lies p H) : PE X (.Dict [] [] pos) (tBv X.K p Pre) := pb_of pe_dnewK fun σ H Q pre q => fun l nl => q _ _ (sn nl) (bv_big upd_same ((hp _ _ pre).ne nl) (.inl rfl))
theorem pb_var {i : Nat} {x : PySem.Str} {pos : Pos} (h : PE X (.Name x pos) (tVar i)) (hv : ∀ σ H, Pre σ H → ∃ v, σ[i]? = some (some v) ∧ Bv X.K p H v) : PE X (.Name x pos) (tBv X.K p Pre) := pb_of h fun σ H Q pre q => by
  obtain ⟨v, e, b⟩ := hv σ H pre
  exact ⟨v, e, q _ _ (Same.refl _) b⟩
end
end K8
/-! Displays that are no placing. -/
namespace K8
open PySem PySem.Spec PyProof.Rows L2 K0 K1 M46

theorem nx : isNm (some "x") = true := by decide +kernel
theorem pl1 : plB [("x", "aaaaaaaaa")] = false := by decide +kernel
theorem pl2 : plB [("x", "a"), ("y", "a")] = false := by decide +kernel
section
variable {X : Cx} {Pre : L2.St → Hp → Prop} {p : Addr}
theorem pb_d1 {k1 k2 : Nat} {p1 p2 p3 p4 : Pos} (hp : ∀ σ H, Pre σ H → Lies p H) : PE X (.Dict [some (.Constant (.str "x") k1 p1)] [.List [.Constant (.str "a") k2 p2] p3] p4) (tBv X.K p Pre) :=
  pb_of (pe_disp (pps_cons pe_str (pe_lst (pa_cons pe_str pa_nil)) pps_nil) rfl rfl (by simp) (by show 1 ≤ 15; omega)) fun σ H Q pre q => fun d nd => by
    have lp := hp _ _ pre
    have s1 := sn (o := .dK []) nd
    refine ⟨by rw [sizeLine_eq]; show 1 ≤ 16777216; decide, fun l nl => ?_⟩
    have hld : l ≠ d := fun e => by rw [e, upd_same] at nl; cases nl
    have hl : H l = none := by rw [upd_ne hld] at nl; exact nl
    refine ⟨by rw [upd_ne hld.symm, upd_same], [((Sum.inr "x" : Key), .ref l)], rfl, by show 1 ≤ 15; omega, ?_⟩
    have sL : Same H (upd (upd (upd H d (.dK [])) l (.lst [.str "a"])) d (.dK (mergeK [] [((Sum.inr "x" : Key), .ref l)]))) := fun b u e => by
      rw [upd_ne (ne_of_none e nd), upd_ne (ne_of_none e hl), upd_ne (ne_of_none e nd)]
      exact e
    refine q _ _ sL (bv_dK upd_same (lp.ne nd) (by show 1 ≤ 1000; omega) fun G b => ⟨[some "x", none], ?_, by decide +kernel⟩)
    have el := b l _ (lp.ne hl) (show (upd (upd (upd H d (.dK [])) l (.lst [.str "a"])) d (.dK (mergeK [] [((Sum.inr "x" : Key), .ref l)]))) l = some (.lst [.str "a"]) by rw [upd_ne hld, upd_same])
    exact .cons (.str "x" (by decide +kernel)) (.cons (.no (.base (.lst el)) (by decide +kernel)) .nil)
theorem pb_d2 {k1 k2 k3 : Nat} {p1 p2 p3 p4 p5 : Pos} (hp : ∀ σ H, Pre σ H → Lies p H) : PE X (.Dict [some (.Constant (.str "x") k1 p1)] [.BinOp (.Constant (.str "a") k2 p2) .Mult (.Constant (.int 9) k3 p3) p4] p5) (tBv X.K p Pre) :=
  pb_of (pe_disp (pps_cons pe_str (pe_op op_nine pe_str pe_int) pps_nil) rfl rfl (by simp) (by show 1 ≤ 15; omega)) fun σ H Q pre q => fun d nd => by
    have lp := hp _ _ pre
    refine ⟨rfl, rfl, upd_same, wd [("x", "aaaaaaaaa")], rfl, by show 1 ≤ 15; omega, ?_⟩
    have sL : Same H (upd (upd H d (.dK [])) d (.dK (mergeK [] (wd [("x", "aaaaaaaaa")])))) := fun b u e => by
      rw [upd_ne (ne_of_none e nd), upd_ne (ne_of_none e nd)]
      exact e
    exact q _ _ sL (bv_wd (D := [("x", "aaaaaaaaa")]) upd_same (lp.ne nd) (by simp) (fun r hr => by rw [List.mem_singleton.mp hr]; exact ⟨by decide +kernel, by decide +kernel⟩) pl1)
theorem pb_d3 {k1 k2 k3 : Nat} {p1 p2 p3 p4 : Pos} (hu : X.A.units + 64 < cLine) (hp : ∀ σ H, Pre σ H → Lies p H) : PE X (.Dict [some (.Tuple [.Constant (.str "x") k1 p1] k2 p2)] [.Constant (.str "a") k3 p3] p4) (tBv X.K p Pre) :=
  pb_of (pe_dispT (x := "x") hu (pe_tup (pa_cons pe_str pa_nil)) pe_str) fun σ H Q pre q => fun d nd => by
    have lp := hp _ _ pre
    refine ⟨by rw [sizeLine_eq]; show 1 ≤ 16777216; decide, fun l nl => ?_⟩
    have hld : l ≠ d := fun e => by rw [e, upd_same] at nl; cases nl
    have hl : H l = none := by rw [upd_ne hld] at nl; exact nl
    refine ⟨by rw [upd_ne hld.symm, upd_same], l, rfl, SqT.of upd_same, ?_⟩
    have sL : Same H (upd (upd (upd H d (.dK [])) l (.tup [.str "x"])) d (DRo d [(.ref l, .str "a")])) := fun b u e => by
      rw [upd_ne (ne_of_none e nd), upd_ne (ne_of_none e hl), upd_ne (ne_of_none e nd)]
      exact e
    refine q _ _ sL (bv_raw upd_same (lp.ne nd) (by show 1 ≤ 1000; omega) fun G b => ⟨[none, some "a"], ?_, by decide +kernel⟩)
    have el := b l _ (lp.ne hl) (show (upd (upd (upd H d (.dK [])) l (.tup [.str "x"])) d (DRo d [(.ref l, .str "a")])) l = some (.tup [.str "x"]) by rw [upd_ne hld, upd_same])
    exact .cons (.no (.base (.tup el)) (by decide +kernel)) (.cons (.str "a" (by decide +kernel)) .nil)
theorem pb_d4 {k1 k2 k3 k4 : Nat} {p1 p2 p3 p4 p5 : Pos} (hp : ∀ σ H, Pre σ H → Lies p H) : PE X (.Dict [some (.Constant (.str "x") k1 p1), some (.Constant (.str "y") k2 p2)] [.Constant (.str "a") k3 p3, .Constant (.str "a") k4 p4] p5) (tBv X.K p Pre) :=
  pb_of (pe_disp (pps_cons pe_str pe_str (pps_cons pe_str pe_str pps_nil)) rfl rfl (by simp) (by show 2 ≤ 15; omega)) fun σ H Q pre q => fun d nd => by
    have lp := hp _ _ pre
    refine ⟨upd_same, wd [("x", "a"), ("y", "a")], rfl, by show 2 ≤ 15; omega, ?_⟩
    have sL : Same H (upd (upd H d (.dK [])) d (.dK (mergeK [] (wd [("x", "a"), ("y", "a")])))) := fun b u e => by
      rw [upd_ne (ne_of_none e nd), upd_ne (ne_of_none e nd)]
      exact e
    refine q _ _ sL (bv_wd (D := [("x", "a"), ("y", "a")]) ?_ (lp.ne nd) (by simp) (fun r hr => ?_) pl2)
    · have e : mergeK [] (wd [("x", "a"), ("y", "a")]) = wd [("x", "a"), ("y", "a")] := by
        have h : ¬ ("x" : PySem.Str) = "y" := by decide +kernel
        simp [mergeK, wd, putK, h]
      rw [e]
      exact upd_same
    · simp only [List.mem_cons, List.not_mem_nil, or_false] at hr
      rcases hr with rfl | rfl <;> exact ⟨by decide +kernel, by decide +kernel⟩
/-- list(placing.items()), sorted(placing) -/
theorem pb_items {i : Nat} {x : PySem.Str} {q1 q2 q3 q4 pos : Pos} (hc : X.calm = true) (hg : Gl X "list") (hm : X.mg "list" = none) (hp : ∀ σ H, Pre σ H → Lies p H) (h : PE X (.Name x q1) (tVar i)) (hd : ∀ σ H, Pre σ H → ∃ d kvs, σ[i]? = some (some (.ref d)) ∧ H d = some (.dK kvs))
    (hbase : attributeBase (.Name x q1) "items" X.env (eval (.Name x q1) X.env) = eval (.Name x q1) X.env := by rfl) (hline : (q2.endLine == q3.line) = true := by rfl)
    (hs : starEach [.Call (.Attribute (.Name x q1) "items" q2) [] [] q3] X.env = (false, eval (.Call (.Attribute (.Name x q1) "items" q2) [] [] q3) X.env) :: starEach [] X.env := by rfl) :
    PE X (.Call (.Name "list" q4) [.Call (.Attribute (.Name x q1) "items" q2) [] [] q3] [] pos) (tBv X.K p Pre) :=
  pb_of (LiI.pe_listItems hc h hg hm (by decide +kernel) hbase hline hs) fun σ H Q pre q => by
    obtain ⟨d, kvs, e1, e2⟩ := hd _ _ pre
    exact ⟨_, e1, d, kvs, rfl, e2, fun H' l ts s nl _ _ el _ => q _ _ s (bv_lst el ((hp _ _ pre).ne nl))⟩
theorem pb_sorted {i : Nat} {x : PySem.Str} {q1 q4 pos : Pos} (hc : X.calm = true) (hg : Gl X "sorted") (hm : X.mg "sorted" = none) (hp : ∀ σ H, Pre σ H → Lies p H) (h : PE X (.Name x q1) (tVar i)) (hd : ∀ σ H, Pre σ H → ∃ d D, σ[i]? = some (some (.ref d)) ∧ H d = some (.dK (wd D)) ∧ D.length < 64)
    (hs : starEach [.Name x q1] X.env = (false, eval (.Name x q1) X.env) :: starEach [] X.env := by rfl) (hpl : (backTo pos (starEach [] X.env)).any (·.1) = false := by rfl) :
    PE X (.Call (.Name "sorted" q4) [.Name x q1] [] pos) (tBv X.K p Pre) :=
  pb_of (pe_callB (R0.call_sortedD hc) hg hm (by decide +kernel) (pa_cons h pa_nil hs)) fun σ H Q pre q => by
    obtain ⟨d, D, e1, e2, h6⟩ := hd _ _ pre
    exact ⟨_, e1, d, D, rfl, .inl e2, h6, fun ys l _ _ nl => q _ _ (sn nl) (bv_lst upd_same ((hp _ _ pre).ne nl))⟩
end
end K8
/-! _law_bad_placing. -/
namespace K8
open PySem PySem.Spec PyProof.Rows L2 K0 K1 M46

def optV : V → Option PySem.Str
  | .str x => some x
  | _ => none
theorem nvs_flat {K : PySem.W.Frag} {H : Hp} : ∀ {xs : List V}, (∀ v ∈ xs, (∃ x : PySem.Str, v = .str x ∧ x.length ≤ 1000) ∨ v = .non) → Paired (Nv K H) xs (xs.map optV)
  | [], _ => .nil
  | v :: r, h => by
    refine .cons ?_ (nvs_flat fun u hu => h u (List.mem_cons_of_mem _ hu))
    rcases h v (List.mem_cons_self ..) with ⟨x, rfl, hx⟩ | rfl
    · exact .str x hx
    · exact .no (.base .non) (by decide +kernel)
theorem flat_no {xs : List V} (h : V.non ∈ xs) : (xs.map optV).all isNm = false := by
  rw [List.all_eq_false]
  exact ⟨none, List.mem_map.mpr ⟨_, h, rfl⟩, by simp [isNm]⟩
theorem atI0 {α : Type} {x : α} {xs : List α} : atI (x :: xs) 0 = some x := by
  unfold atI ixN
  rw [if_pos (by decide), if_pos (by simp)]
  rfl
theorem puts_new {D : List (PySem.Str × PySem.Str)} {k v : PySem.Str} (h : k ∉ D.map (·.1)) : putK (wd D) (Sum.inr k : Key) (.str v) = wd (D ++ [(k, v)]) := by rw [put_wd, put_new h]
theorem put_mem {D : List (PySem.Str × PySem.Str)} {k : PySem.Str} {v : V} (h : k ∈ D.map (·.1)) : putK (wd D) (Sum.inr k : Key) v = (wd D).map fun kv => if kv.1 = (Sum.inr k : Key) then (kv.1, v) else kv := by
  unfold putK
  rw [if_pos (by rw [any_wd, decide_eq_true h])]
/-- what the law's placing is -/
structure Dp3 (D : List (PySem.Str × PySem.Str)) : Prop where
  n1 : 1 ≤ D.length
  n5 : D.length ≤ 5
  keys : (D.map (·.1)).Nodup
  l3 : ∀ q ∈ D, q.1.length ≤ 3 ∧ q.2.length ≤ 3
  lowZ : ∀ q ∈ D, q.1 ≠ "Z"
section
variable {K : PySem.W.Frag} {p : Addr} {H : Hp} {D : List (PySem.Str × PySem.Str)} {a : Addr}
theorem bad_more (hD : Dp3 D) (e : H a = some (.dK (wd (D ++ [(("Z" : PySem.Str), ("zz" : PySem.Str))])))) (ha : a ≠ p) : Bv K p H (.ref a) := by
  refine bv_wd e ha (by have := hD.n5; rw [List.length_append, List.length_singleton]; omega) (fun q hq => ?_) ?_
  · rcases List.mem_append.mp hq with hq | hq
    · have := hD.l3 q hq; omega
    · rw [List.mem_singleton.mp hq]; exact ⟨by decide +kernel, by decide +kernel⟩
  · have z : nm "Z" = false := by decide +kernel
    unfold plB
    simp [z]
theorem bad_same (hD : Dp3 D) {f : PySem.Str} (hf : f ∈ D.map (·.1)) (e : H a = some (.dK (wd (D ++ [(("qqqq" : PySem.Str), gw D Str.empty f)])))) (ha : a ≠ p) : Bv K p H (.ref a) := by
  have hm := gw_mem (r := Str.empty) hf
  refine bv_wd e ha (by have := hD.n5; rw [List.length_append, List.length_singleton]; omega) (fun q hq => ?_) ?_
  · rcases List.mem_append.mp hq with hq | hq
    · have := hD.l3 q hq; omega
    · rw [List.mem_singleton.mp hq]
      obtain ⟨r, hr, e⟩ := List.mem_map.mp hm
      have := hD.l3 r hr
      exact ⟨(show ("qqqq" : PySem.Str).length ≤ 1000 by decide +kernel), by show (gw D Str.empty f).length ≤ 1000; rw [← e]; omega⟩
  · have z : ¬ ((D ++ [(("qqqq" : PySem.Str), gw D Str.empty f)]).map (·.2)).Nodup := fun n => by
      rw [List.map_append, List.nodup_append] at n
      exact n.2.2 _ hm _ (List.mem_singleton.mpr rfl) rfl
    unfold plB
    rw [decide_eq_false z]
    simp
theorem bad_odd (hD : Dp3 D) {f : PySem.Str} (hf : f ∈ D.map (·.1)) (e : H a = some (.dK (putK (wd D) (Sum.inr f : Key) .non))) (ha : a ≠ p) : Bv K p H (.ref a) := by
  rw [put_mem hf] at e
  refine bv_dK e ha (by rw [List.length_map, wd_len]; have := hD.n5; omega) fun G b => ⟨_, nvs_flat fun v hv => ?_, flat_no (List.mem_append_right _ ?_)⟩
  · rcases List.mem_append.mp hv with hv | hv
    · obtain ⟨kv, hkv, rfl⟩ := List.mem_map.mp hv
      obtain ⟨q, hq, rfl⟩ := List.mem_map.mp hkv
      obtain ⟨r, hr, rfl⟩ := List.mem_map.mp hq
      refine .inl ⟨r.1, ?_, by have := hD.l3 r hr; omega⟩
      split <;> rfl
    · obtain ⟨kv, hkv, rfl⟩ := List.mem_map.mp hv
      obtain ⟨q, hq, rfl⟩ := List.mem_map.mp hkv
      obtain ⟨r, hr, rfl⟩ := List.mem_map.mp hq
      split
      · exact .inr rfl
      · exact .inl ⟨r.2, rfl, by have := hD.l3 r hr; omega⟩
  · obtain ⟨r, hr, rfl⟩ := List.mem_map.mp hf
    rw [List.map_map]
    refine List.mem_map.mpr ⟨((Sum.inr r.1 : Key), V.str r.2), List.mem_map.mpr ⟨r, hr, rfl⟩, ?_⟩
    show (if _ = _ then _ else _ : Key × V).2 = _
    rw [if_pos rfl]
theorem bad_key (hD : Dp3 D) (e : H a = some (DRo a ((wd D).map (fun kv => (kV kv.1, kv.2)) ++ [(.non, .str "zz")]))) (ha : a ≠ p) : Bv K p H (.ref a) := by
  refine bv_raw e ha (by rw [List.length_append, List.length_map, wd_len, List.length_singleton]; have := hD.n5; omega) fun G b => ⟨_, nvs_flat fun v hv => ?_, flat_no (List.mem_append_left _ (by simp))⟩
  simp only [List.map_append, List.map_map, List.mem_append, List.mem_map, List.map_cons, List.map_nil, List.mem_singleton] at hv
  rcases hv with (⟨kv, hkv, rfl⟩ | rfl) | (⟨kv, hkv, rfl⟩ | rfl)
  · obtain ⟨r, hr, rfl⟩ := List.mem_map.mp hkv
    exact .inl ⟨r.1, rfl, by have := hD.l3 r hr; omega⟩
  · exact .inr rfl
  · obtain ⟨r, hr, rfl⟩ := List.mem_map.mp hkv
    exact .inl ⟨r.2, rfl, by have := hD.l3 r hr; omega⟩
  · exact .inl ⟨"zz", rfl, by decide +kernel⟩
end
end K8
/-! _law_bad_placing. -/
namespace K8
open PySem PySem.Spec PyProof.Rows L2 K0 K1 M46

abbrev nBP : List PySem.Str := ["_law_dice_here", "_law_placing", "_law_first", "_law_many", "_law_name", "_law_more", "_law_odd", "_law_same", "_law_key", "_law_some"]
theorem scBP : FnScope nBP ["_law_dice_here", "_law_placing"] (defScope sBadPl) := ⟨rfl, rfl, rfl, by decide +kernel, rfl, by decide +kernel, by decide +kernel⟩
def spBadPl (K : PySem.W.Frag) : Sp := fun vs H Q _ => ∃ (p a : Addr) (x y z : Int) (D : List (PySem.Str × PySem.Str)), vs = [.ref p, .ref a] ∧ Dice H p x y z ∧ H a = some (.dK (wd D)) ∧ Dp3 D ∧
  ∀ (v : V) (x' z' : Int) (H' : Hp), Pv K H' v false → Dice H' p x' y z' → But p H H' → Q v H'
/-- where the values stand -/
def PreP (K : PySem.W.Frag) (p a : Addr) (D : List (PySem.Str × PySem.Str)) : L2.St → Hp → Prop := fun σ H => ∃ (v2 v4 v9 : Option V) (u3 u5 u6 u7 u8 : V), σ = [some (.ref p), some (.ref a), v2, some u3, v4, some u5, some u6, some u7, some u8, v9] ∧ Lies p H ∧ H a = some (.dK (wd D)) ∧ D.length < 64 ∧
  Bv K p H u3 ∧ Bv K p H u5 ∧ Bv K p H u6 ∧ Bv K p H u7 ∧ Bv K p H u8
theorem PreP.kept {K : PySem.W.Frag} {p a : Addr} {D : List (PySem.Str × PySem.Str)} : Kept (PreP K p a D) := fun σ H H' ⟨v2, v4, v9, u3, u5, u6, u7, u8, e, l, h, hl, b3, b5, b6, b7, b8⟩ s => ⟨v2, v4, v9, u3, u5, u6, u7, u8, e, l.same s, s _ _ h, hl, b3.same s, b5.same s, b6.same s, b7.same s, b8.same s⟩
theorem PreP.set9 {K : PySem.W.Frag} {p a : Addr} {D : List (PySem.Str × PySem.Str)} {σ : L2.St} {H : Hp} {v : V} (h : PreP K p a D σ H) : PreP K p a D (σ.set 9 (some v)) H := by
  obtain ⟨v2, v4, v9, u3, u5, u6, u7, u8, rfl, r⟩ := h
  exact ⟨v2, v4, some v, u3, u5, u6, u7, u8, rfl, r⟩
theorem none_same {H G : Hp} {c : Addr} (s : Same H G) (n : G c = none) : H c = none := by
  cases e : H c with
  | none => rfl
  | some o => rw [s _ _ e] at n; cases n
theorem same_at {H G : Hp} {c : Addr} {o : HO} (s : Same H G) (n : H c = none) : Same H (upd G c o) := fun b u e => by
  rw [upd_ne (ne_of_none e n)]
  exact s b u e
abbrev six : List PySem.Str := ["a", "b", "c", "d", "e", "f"]
abbrev sixK : List (Key × V) := six.map fun x => ((Sum.inr x : Key), V.str x)
theorem six_len : (mergeK [] sixK).length = 6 := by decide +kernel
section
variable {P : Program} {w : World} {K : PySem.W.Frag} {mg : PySem.Str → Option Value} {base : Heap}
theorem ok_bad_pl {f fU fP : Addr} {fd fdU fdP : FuncData} (F : Fun K "_law_bad_placing" "_law_bad_placing" sBadPl f fd) (T : Bare mg) (FU : Fun K "_law_pull" "_law_pull" sPull fU fdU) (bU : Binds K fdU ["_law_dice_here", "_law_total"] []) (mU : mg "_law_pull" = some (.ref fU))
    (FP : Fun K "_law_pick" "_law_pick" sPick fP fdP) (bP : Binds K fdP ["_law_dice_here", "_law_items"] []) (mP : mg "_law_pick" = some (.ref fP)) : FnOk P w K mg base CX0 3 f fd ["_law_dice_here", "_law_placing"] (spBadPl K) := by
  have GP : FnOk P w K mg base CX0 2 fP fdP ["_law_dice_here", "_law_items"] spPick := ok_pick FP T FU bU mU
  refine F.ok scBP (fun vs H Q E h => ?_) (fun cdv A outer s0 H vs Q E hr h => ?_)
  · obtain ⟨p, a, x, y, z, D, rfl, _⟩ := h
    rfl
  · obtain ⟨p, a, x, y, z, D, rfl, Dc, ha, hD, k⟩ := h
    have hu := hr.units
    have hu1 := Nat.lt_of_le_of_lt (Nat.add_le_add_left (show 1 ≤ 64 by decide) _) hu
    have kp : Kept (PreP K p a D) := PreP.kept
    have hp : ∀ σ H, PreP K p a D σ H → Lies p H := fun σ H ⟨_, _, _, _, _, _, _, _, _, l, _⟩ => l
    have hd : ∀ σ H, PreP K p a D σ H → ∃ d D', σ[1]? = some (some (.ref d)) ∧ H d = some (.dK (wd D')) ∧ D'.length < 64 := fun σ H ⟨_, _, _, _, _, _, _, _, e, l, h, hl, _⟩ => ⟨a, D, by rw [e]; rfl, h, hl⟩
    have hd2 : ∀ σ H, PreP K p a D σ H → ∃ d kvs, σ[1]? = some (some (.ref d)) ∧ H d = some (.dK kvs) := fun σ H ⟨_, _, _, _, _, _, _, _, e, l, h, hl, _⟩ => ⟨a, wd D, by rw [e]; rfl, h⟩
    have h3 : ∀ σ H, PreP K p a D σ H → ∃ v, σ[3]? = some (some v) ∧ Bv K p H v := fun σ H ⟨_, _, _, _, _, _, _, _, e, l, h, hl, b3, b5, b6, b7, b8⟩ => ⟨_, by rw [e]; rfl, b3⟩
    have h5 : ∀ σ H, PreP K p a D σ H → ∃ v, σ[5]? = some (some v) ∧ Bv K p H v := fun σ H ⟨_, _, _, _, _, _, _, _, e, l, h, hl, b3, b5, b6, b7, b8⟩ => ⟨_, by rw [e]; rfl, b5⟩
    have h6 : ∀ σ H, PreP K p a D σ H → ∃ v, σ[6]? = some (some v) ∧ Bv K p H v := fun σ H ⟨_, _, _, _, _, _, _, _, e, l, h, hl, b3, b5, b6, b7, b8⟩ => ⟨_, by rw [e]; rfl, b6⟩
    have h7 : ∀ σ H, PreP K p a D σ H → ∃ v, σ[7]? = some (some v) ∧ Bv K p H v := fun σ H ⟨_, _, _, _, _, _, _, _, e, l, h, hl, b3, b5, b6, b7, b8⟩ => ⟨_, by rw [e]; rfl, b7⟩
    have h8 : ∀ σ H, PreP K p a D σ H → ∃ v, σ[8]? = some (some v) ∧ Bv K p H v := fun σ H ⟨_, _, _, _, _, _, _, _, e, l, h, hl, b3, b5, b6, b7, b8⟩ => ⟨_, by rw [e]; rfl, b8⟩
    refine ⟨_, pss_cons (ps_set (i := 2) scBP.nd rfl (Or.inl rfl) (pe_ix ix_list (pe_callB (R0.call_sortedD rfl) (by rfl) T.sorted (by decide +kernel) (pa_cons (pv 1) pa_nil)) pe_int (fun _ _ => rfl)))
      (pss_cons (ps_set (i := 3) scBP.nd rfl (Or.inl rfl) (pe_callTy (call_dictP rfl) (by rfl) T.dict (by decide +kernel) (pa_cons
        (pe_lc (own := [("_law_name", 4)]) (g := gName 4) (tt := tYes) rfl scBP.nd (pi_list (pe_lst (pa_cons pe_str (pa_cons pe_str (pa_cons pe_str (pa_cons pe_str (pa_cons pe_str (pa_cons pe_str pa_nil)))))))) (blkOk_by (own := [("_law_name", 4)]) (N := nBP) (sc := defScope sBadPl) (by decide +kernel)) (fun _ _ _ _ _ => pg_name (i := 4) scBP.nd rfl (Or.inl rfl)) (fun _ _ _ _ _ => pts_nil) (fun _ _ _ _ _ => (pe_tup (pa_cons (pv 4) (pa_cons (pv 4) pa_nil))))) pa_nil)))
      (pss_cons (ps_par (i := 5) (j := 6) rfl scBP.nd rfl rfl (by decide) rfl rfl (pa_cons (pe_callTy call_dictD (by rfl) T.dict (by decide +kernel) (pa_cons (pv 1) pa_nil)) (pa_cons (pe_callTy call_dictD (by rfl) T.dict (by decide +kernel) (pa_cons (pv 1) pa_nil)) pa_nil)) (by rfl))
      (pss_cons (ps_par (i := 7) (j := 8) rfl scBP.nd rfl rfl (by decide) rfl rfl (pa_cons (pe_callTy call_dictD (by rfl) T.dict (by decide +kernel) (pa_cons (pv 1) pa_nil)) (pa_cons (pe_callTy call_dictD (by rfl) T.dict (by decide +kernel) (pa_cons (pv 1) pa_nil)) pa_nil)) (by rfl))
      (pss_cons (ps_asg (pe_tup (pa_cons pe_str (pa_cons pe_non pa_nil))) (pg_tup rfl (pgs_cons (pg_sub (pv 5) pe_str (set_dict hu1)) (pgs_cons (pg_sub (pv 6) (pv 2) (set_dict hu1)) pgs_nil))))
      (pss_cons (ps_asg (pe_tup (pa_cons (pe_dget hu1 (pv 1) (pv 2) (fun _ _ => rfl)) (pa_cons pe_str pa_nil))) (pg_tup rfl (pgs_cons (pg_sub (pv 7) pe_str (set_dict hu1)) (pgs_cons (pg_sub (pv 8) pe_non (set_none hu)) pgs_nil))))
      (pss_cons (ps_set (i := 9) scBP.nd rfl (Or.inl rfl) (pe_lst (bvs_cons kp (pb_new hp) (bvs_cons kp pb_non (bvs_cons kp (pb_nil hp) (bvs_cons kp (pb_items rfl (by rfl) T.list hp (pv 1) hd2) (bvs_cons kp (pb_sorted rfl (by rfl) T.sorted hp (pv 1) hd) (bvs_cons kp pb_str (bvs_cons kp pb_int bvs_nil)))))))))
      (pss_cons (ps_set (i := 9) scBP.nd rfl (Or.inl rfl) (pe_op op_cat (pv 9) (pe_lst (bvs_cons kp (pb_var (pv 3) h3) (bvs_cons kp (pb_var (pv 5) h5) (bvs_cons kp (pb_var (pv 6) h6) (bvs_cons kp (pb_var (pv 7) h7) (bvs_cons kp (pb_var (pv 8) h8) bvs_nil))))))))
      (pss_one (ps_ret (pe_call GP (hr.mono (by decide)) (by rfl) mP FP.kp bP .nil pass0 (pa_cons (pv 0) (pa_cons (pe_op op_cat (pv 9) (pe_lst (bvs_cons kp (pb_d1 hp) (bvs_cons kp (pb_d2 hp) (bvs_cons kp (pb_d3 hu hp) (bvs_cons kp (pb_d4 hp) bvs_nil)))))) pa_nil)))))))))))), ?_⟩
    -- the first key
    refine ⟨_, rfl, a, D, rfl, .inl ha, by have := hD.n5; omega, fun ys l hperm hsrt nl => ?_⟩
    obtain ⟨f, r, rfl⟩ : ∃ f r, ys = f :: r := by
      cases ys with
      | nil =>
        have := hperm.length_eq
        rw [List.length_map] at this
        have := hD.n1
        simp_all
      | cons f r => exact ⟨f, r, rfl⟩
    have hf : f ∈ D.map (·.1) := hperm.mem_iff.mp (List.mem_cons_self ..)
    refine ⟨l, _, 0, .str f, rfl, rfl, SqL.of upd_same, atI0, ?_⟩
    have s1 : Same H (upd H l (.lst ((f :: r).map V.str))) := sn nl
    generalize upd H l (.lst ((f :: r).map V.str)) = G1 at s1 ⊢
    clear hperm hsrt nl r
    -- many
    refine ⟨by rw [sizeLine_eq]; show 6 ≤ 16777216; decide, fun l2 n2 => ?_⟩
    have s2 : Same H (upd G1 l2 (.lst [.str "a", .str "b", .str "c", .str "d", .str "e", .str "f"])) := s1.trans (sn n2)
    have e2 : (upd G1 l2 (.lst [.str "a", .str "b", .str "c", .str "d", .str "e", .str "f"])) l2 = some (.lst (six.map V.str)) := upd_same
    generalize upd G1 l2 (.lst [.str "a", .str "b", .str "c", .str "d", .str "e", .str "f"]) = G2 at s2 e2 ⊢
    refine ⟨l2, rfl, ⟨_, SqL.of e2⟩, fun R nR => ?_⟩
    refine lc_list (K := K) (a := l2) (xs := six.map V.str) (fun i G => ∃ refs : List Addr, G R = some (.lst (refs.map V.ref)) ∧ refs.length = i ∧ Paired (fun (q : Addr) (kv : Key × V) => G q = some (.tup [kV kv.1, kv.2])) refs ((six.take i).map fun x => ((Sum.inr x : Key), V.str x)) ∧ Same G2 G)
      ⟨[], upd_same, rfl, .nil, sn nR⟩ (fun i G _ hP => let ⟨_, _, _, _, s⟩ := hP; SqL.of (s _ _ e2)) (fun i x G hx hP => ⟨rfl, ?_⟩) (fun G hP => ?_)
    · obtain ⟨refs, hR, hl, hpr, sG⟩ := hP
      rw [List.getElem?_map] at hx
      obtain ⟨u, hu, rfl⟩ : ∃ u, six[i]? = some u ∧ V.str u = x := by
        cases e : six[i]? with
        | none => rw [e] at hx; cases hx
        | some u => rw [e] at hx; exact ⟨u, rfl, Option.some.inj hx⟩
      have hi : i < 6 := (List.getElem?_eq_some_iff.mp hu).1
      refine ⟨_, rfl, _, rfl, by rw [sizeLine_eq]; show 2 ≤ 16777216; decide, fun t nt => ⟨refs.map V.ref, sn nt _ _ hR, by rw [List.length_map, hl, sizeLine_eq]; omega, refs ++ [t], by rw [upd_same, List.map_append]; rfl, by rw [List.length_append, List.length_singleton, hl], ?_, same_at (sG.trans (sn nt)) nR⟩⟩
      have hRt : t ≠ R := fun e => by rw [← e, nt] at hR; cases hR
      rw [← take_map_snoc (g := fun x => ((Sum.inr x : Key), V.str x)) hu]
      refine paired_append (paired_map (fun q kv e => ?_) hpr) (.cons (by rw [upd_ne hRt, upd_same] <;> rfl) .nil)
      have hq : q ≠ R := fun z => by rw [z, hR] at e; cases e
      rw [upd_ne hq]
      exact sn nt _ _ e
    obtain ⟨refs, hR, hl, hpr, sG⟩ := hP
    refine ⟨R, refs, sixK, rfl, SqL.of hR, paired_map (fun _ _ q => SqT.of q) hpr, fun m n3 => ?_⟩
    have s3 : Same H (upd G m (.dK (mergeK [] sixK))) := (s2.trans sG).trans (sn n3)
    have em : (upd G m (.dK (mergeK [] sixK))) m = some (.dK (mergeK [] sixK)) := upd_same
    have n0 : H m = none := none_same (s2.trans sG) n3
    generalize upd G m (.dK (mergeK [] sixK)) = G3 at s3 em ⊢
    clear hpr hR hl n3 nR e2 sG s2 s1
    -- four copies
    refine ⟨_, rfl, a, wd D, rfl, .inl (s3 _ _ ha), fun m1 n1 => ⟨_, rfl, a, wd D, rfl, .inl (sn n1 _ _ (s3 _ _ ha)), fun m2 n2 => ⟨_, _, rfl, ?_⟩⟩⟩
    have t5 : Same G3 (upd (upd G3 m1 (.dK (wd D))) m2 (.dK (wd D))) := (sn n1).trans (sn n2)
    have a1 : (upd (upd G3 m1 (.dK (wd D))) m2 (.dK (wd D))) m1 = some (.dK (wd D)) := sn n2 _ _ upd_same
    have a2 : (upd (upd G3 m1 (.dK (wd D))) m2 (.dK (wd D))) m2 = some (.dK (wd D)) := upd_same
    have z1 : H m1 = none := none_same s3 n1
    have z2 : H m2 = none := none_same (s3.trans (sn n1)) n2
    have d12 : m1 ≠ m2 := ne_of_none (upd_same (H := G3) (a := m1) (o := .dK (wd D))) n2
    have d01 : m ≠ m1 := ne_of_none em n1
    have d02 : m ≠ m2 := ne_of_none (sn n1 _ _ em) n2
    generalize upd (upd G3 m1 (.dK (wd D))) m2 (.dK (wd D)) = G5 at t5 a1 a2 ⊢
    have s5 := s3.trans t5
    have em5 := t5 _ _ em
    refine ⟨_, rfl, a, wd D, rfl, .inl (s5 _ _ ha), fun m3 n3 => ⟨_, rfl, a, wd D, rfl, .inl (sn n3 _ _ (s5 _ _ ha)), fun m4 n4 => ⟨_, _, rfl, ?_⟩⟩⟩
    have t7 : Same G5 (upd (upd G5 m3 (.dK (wd D))) m4 (.dK (wd D))) := (sn n3).trans (sn n4)
    have a3 : (upd (upd G5 m3 (.dK (wd D))) m4 (.dK (wd D))) m3 = some (.dK (wd D)) := sn n4 _ _ upd_same
    have a4 : (upd (upd G5 m3 (.dK (wd D))) m4 (.dK (wd D))) m4 = some (.dK (wd D)) := upd_same
    have z3 : H m3 = none := none_same s5 n3
    have z4 : H m4 = none := none_same (s5.trans (sn n3)) n4
    have d34 : m3 ≠ m4 := ne_of_none (upd_same (H := G5) (a := m3) (o := .dK (wd D))) n4
    have d03 : m ≠ m3 := ne_of_none em5 n3
    have d04 : m ≠ m4 := ne_of_none (sn n3 _ _ em5) n4
    have d13 : m1 ≠ m3 := ne_of_none a1 n3
    have d14 : m1 ≠ m4 := ne_of_none (sn n3 _ _ a1) n4
    have d23 : m2 ≠ m3 := ne_of_none a2 n3
    have d24 : m2 ≠ m4 := ne_of_none (sn n3 _ _ a2) n4
    generalize upd (upd G5 m3 (.dK (wd D))) m4 (.dK (wd D)) = G7 at t7 a3 a4 ⊢
    have s7 := s5.trans t7
    replace a1 := t7 _ _ a1
    replace a2 := t7 _ _ a2
    have em7 := t7 _ _ em5
    have hz : (wd D).length < sizeLine := by rw [wd_len, sizeLine_eq]; have := hD.n5; omega
    clear n1 n2 n3 n4 t5 t7 em em5 s3 s5
    -- more, odd
    refine ⟨by rw [sizeLine_eq]; show 2 ≤ 16777216; decide, fun t nt => ⟨t, _, rfl, SqT.of upd_same, rfl, ?_⟩⟩
    have st := sn (o := .tup [.str "zz", .non]) nt
    refine ⟨_, _, rfl, _, rfl, m1, _, rfl, DPut.k (k := Sum.inr "Z") (st _ _ a1) hz, ?_⟩
    refine ⟨_, _, rfl, _, rfl, _, rfl, m2, _, rfl, DPut.k (k := Sum.inr f) (by rw [upd_ne d12.symm]; exact st _ _ a2) hz, rfl, ?_⟩
    have hZ : ("Z" : PySem.Str) ∉ D.map (·.1) := fun z => by
      obtain ⟨q, hq, e⟩ := List.mem_map.mp z
      exact hD.lowZ q hq e
    rw [puts_new hZ]
    have s9 := same_at (o := .dK (putK (wd D) (Sum.inr f : Key) .non)) (same_at (o := .dK (wd (D ++ [(("Z" : PySem.Str), ("zz" : PySem.Str))]))) (s7.trans st) z1) z2
    have b1 : (upd (upd (upd G7 t (.tup [.str "zz", .non])) m1 (.dK (wd (D ++ [(("Z" : PySem.Str), ("zz" : PySem.Str))])))) m2 (.dK (putK (wd D) (Sum.inr f : Key) .non))) m1 = some (.dK (wd (D ++ [(("Z" : PySem.Str), ("zz" : PySem.Str))]))) := by rw [upd_ne d12, upd_same]
    have b2 : (upd (upd (upd G7 t (.tup [.str "zz", .non])) m1 (.dK (wd (D ++ [(("Z" : PySem.Str), ("zz" : PySem.Str))])))) m2 (.dK (putK (wd D) (Sum.inr f : Key) .non))) m2 = some (.dK (putK (wd D) (Sum.inr f : Key) .non)) := upd_same
    have b3 : (upd (upd (upd G7 t (.tup [.str "zz", .non])) m1 (.dK (wd (D ++ [(("Z" : PySem.Str), ("zz" : PySem.Str))])))) m2 (.dK (putK (wd D) (Sum.inr f : Key) .non))) m3 = some (.dK (wd D)) := by rw [upd_ne d23.symm, upd_ne d13.symm]; exact st _ _ a3
    have b4 : (upd (upd (upd G7 t (.tup [.str "zz", .non])) m1 (.dK (wd (D ++ [(("Z" : PySem.Str), ("zz" : PySem.Str))])))) m2 (.dK (putK (wd D) (Sum.inr f : Key) .non))) m4 = some (.dK (wd D)) := by rw [upd_ne d24.symm, upd_ne d14.symm]; exact st _ _ a4
    have b0 : (upd (upd (upd G7 t (.tup [.str "zz", .non])) m1 (.dK (wd (D ++ [(("Z" : PySem.Str), ("zz" : PySem.Str))])))) m2 (.dK (putK (wd D) (Sum.inr f : Key) .non))) m = some (.dK (mergeK [] sixK)) := by rw [upd_ne d02, upd_ne d01]; exact st _ _ em7
    generalize upd (upd (upd G7 t (.tup [.str "zz", .non])) m1 (.dK (wd (D ++ [(("Z" : PySem.Str), ("zz" : PySem.Str))])))) m2 (.dK (putK (wd D) (Sum.inr f : Key) .non)) = G9 at s9 b0 b1 b2 b3 b4 ⊢
    clear st nt t a1 a2 a3 a4 em7 s7
    -- same, key
    refine ⟨_, rfl, _, rfl, a, .str (gw D Str.empty f), rfl, by have := DGet.k (k := (Sum.inr f : Key)) (s9 _ _ ha); rw [val_mem (r := Str.empty) hf] at this; exact this, by rw [sizeLine_eq]; show 2 ≤ 16777216; decide, fun t nt => ⟨t, _, rfl, SqT.of upd_same, rfl, ?_⟩⟩
    have st := sn (o := .tup [.str (gw D Str.empty f), .str "zz"]) nt
    refine ⟨_, _, rfl, _, rfl, m3, _, rfl, DPut.k (k := Sum.inr "qqqq") (st _ _ b3) hz, ?_⟩
    refine ⟨_, _, rfl, _, rfl, m4, wd D, rfl, rfl, by rw [upd_ne d34.symm]; exact st _ _ b4, by rw [wd_len]; have := hD.n5; omega, rfl, ?_⟩
    have hq : ("qqqq" : PySem.Str) ∉ D.map (·.1) := fun z => by
      obtain ⟨q, hq, e⟩ := List.mem_map.mp z
      have := (hD.l3 q hq).1
      rw [e] at this
      exact absurd this (by decide +kernel)
    rw [puts_new hq]
    have sF := same_at (o := DRo m4 ((wd D).map (fun kv => (kV kv.1, kv.2)) ++ [(.non, .str "zz")])) (same_at (o := .dK (wd (D ++ [(("qqqq" : PySem.Str), gw D Str.empty f)]))) (s9.trans st) z3) z4
    have c3 : (upd (upd (upd G9 t (.tup [.str (gw D Str.empty f), .str "zz"])) m3 (.dK (wd (D ++ [(("qqqq" : PySem.Str), gw D Str.empty f)])))) m4 (DRo m4 ((wd D).map (fun kv => (kV kv.1, kv.2)) ++ [(.non, .str "zz")]))) m3 = some (.dK (wd (D ++ [(("qqqq" : PySem.Str), gw D Str.empty f)]))) := by rw [upd_ne d34, upd_same]
    have c4 : (upd (upd (upd G9 t (.tup [.str (gw D Str.empty f), .str "zz"])) m3 (.dK (wd (D ++ [(("qqqq" : PySem.Str), gw D Str.empty f)])))) m4 (DRo m4 ((wd D).map (fun kv => (kV kv.1, kv.2)) ++ [(.non, .str "zz")]))) m4 = some (DRo m4 ((wd D).map (fun kv => (kV kv.1, kv.2)) ++ [(.non, .str "zz")])) := upd_same
    have c1 : (upd (upd (upd G9 t (.tup [.str (gw D Str.empty f), .str "zz"])) m3 (.dK (wd (D ++ [(("qqqq" : PySem.Str), gw D Str.empty f)])))) m4 (DRo m4 ((wd D).map (fun kv => (kV kv.1, kv.2)) ++ [(.non, .str "zz")]))) m1 = some (.dK (wd (D ++ [(("Z" : PySem.Str), ("zz" : PySem.Str))]))) := by rw [upd_ne d14, upd_ne d13]; exact st _ _ b1
    have c2 : (upd (upd (upd G9 t (.tup [.str (gw D Str.empty f), .str "zz"])) m3 (.dK (wd (D ++ [(("qqqq" : PySem.Str), gw D Str.empty f)])))) m4 (DRo m4 ((wd D).map (fun kv => (kV kv.1, kv.2)) ++ [(.non, .str "zz")]))) m2 = some (.dK (putK (wd D) (Sum.inr f : Key) .non)) := by rw [upd_ne d24, upd_ne d23]; exact st _ _ b2
    have c0 : (upd (upd (upd G9 t (.tup [.str (gw D Str.empty f), .str "zz"])) m3 (.dK (wd (D ++ [(("qqqq" : PySem.Str), gw D Str.empty f)])))) m4 (DRo m4 ((wd D).map (fun kv => (kV kv.1, kv.2)) ++ [(.non, .str "zz")]))) m = some (.dK (mergeK [] sixK)) := by rw [upd_ne d04, upd_ne d03]; exact st _ _ b0
    generalize upd (upd (upd G9 t (.tup [.str (gw D Str.empty f), .str "zz"])) m3 (.dK (wd (D ++ [(("qqqq" : PySem.Str), gw D Str.empty f)])))) m4 (DRo m4 ((wd D).map (fun kv => (kV kv.1, kv.2)) ++ [(.non, .str "zz")])) = GF at sF c0 c1 c2 c3 c4 ⊢
    have lie : Lies p H := ⟨_, Dc.at_⟩
    have w3 := bad_same (K := K) hD hf c3 (lie.ne z3)
    have w4 := bad_key (K := K) hD c4 (lie.ne z4)
    have w1 := bad_more (K := K) hD c1 (lie.ne z1)
    have w2 := bad_odd (K := K) hD hf c2 (lie.ne z2)
    have w0 := bv_big (K := K) c0 (lie.ne n0) (.inr (by rw [six_len]; omega))
    have lieF := lie.same sF
    have haF := sF _ _ ha
    have hDl : D.length < 64 := by have := hD.n5; omega
    clear st nt t b0 b1 b2 b3 b4 c0 c1 c2 c3 c4 s9 lie d01 d02 d03 d04 d12 d13 d14 d23 d24 d34 z1 z2 z3 z4 n0
    -- the values
    have pre0 : PreP K p a D [some (.ref p), some (.ref a), some (.str f), some (.ref m), none, some (.ref m1), some (.ref m2), some (.ref m3), some (.ref m4), none] GF := ⟨_, _, _, _, _, _, _, _, rfl, lieF, haF, hDl, w0, w1, w2, w3, w4⟩
    refine ⟨pre0, fun v1 H1 t1 b1 z1 => ⟨by rw [z1, sizeLine_eq]; show 7 ≤ 16777216; decide, fun l1 nl1 => ?_⟩⟩
    have u1 := t1.trans (sn (o := .lst v1) nl1)
    have e1 : (upd H1 l1 (.lst v1)) l1 = some (.lst v1) := upd_same
    replace b1 : ∀ v ∈ v1, Bv K p (upd H1 l1 (.lst v1)) v := fun v hv => (b1 v hv).same (sn nl1)
    generalize upd H1 l1 (.lst v1) = K1 at u1 e1 b1 ⊢
    have pre1 := kp _ _ _ pre0 u1
    refine ⟨_, rfl, pre1.set9 (v := .ref l1), fun v2 H2 t2 b2 z2 => ⟨by rw [z2, sizeLine_eq]; show 5 ≤ 16777216; decide, fun l2 nl2 => ⟨l1, l2, v1, v2, rfl, rfl, sn nl2 _ _ (t2 _ _ e1), upd_same, by rw [z1, z2, sizeLine_eq]; show 12 ≤ 16777216; decide, fun l3 nl3 => ?_⟩⟩⟩
    have u2 := (t2.trans (sn (o := .lst v2) nl2)).trans (sn (o := .lst (v1 ++ v2)) nl3)
    have e3 : (upd (upd H2 l2 (.lst v2)) l3 (.lst (v1 ++ v2))) l3 = some (.lst (v1 ++ v2)) := upd_same
    have b12 : ∀ v ∈ v1 ++ v2, Bv K p (upd (upd H2 l2 (.lst v2)) l3 (.lst (v1 ++ v2))) v := fun v hv => by
      rcases List.mem_append.mp hv with hv | hv
      · exact (b1 v hv).same u2
      · exact (b2 v hv).same ((sn nl2).trans (sn nl3))
    generalize upd (upd H2 l2 (.lst v2)) l3 (.lst (v1 ++ v2)) = K2 at u2 e3 b12 ⊢
    have pre2 := kp _ _ _ pre1 u2
    refine ⟨_, rfl, _, rfl, (pre2.set9 (v := .ref l1)).set9 (v := .ref l3), fun v3 H3 t3 b3 z3 => ⟨by rw [z3, sizeLine_eq]; show 4 ≤ 16777216; decide, fun l4 nl4 => ⟨l3, l4, _, v3, rfl, rfl, sn nl4 _ _ (t3 _ _ e3), upd_same, by rw [List.length_append, z1, z2, z3, sizeLine_eq]; show 16 ≤ 16777216; decide, fun l5 nl5 => ?_⟩⟩⟩
    have u3 := (t3.trans (sn (o := .lst v3) nl4)).trans (sn (o := .lst (v1 ++ v2 ++ v3)) nl5)
    have c3 := ((sF.trans u1).trans u2).trans u3
    have DF := Dc.same c3
    have c4 := ((sF.trans u1).trans u2).trans (t3.trans (sn (o := .lst v3) nl4))
    have hlen : (v1 ++ v2 ++ v3).length = 16 := by rw [List.length_append, List.length_append, z1, z2, z3]
    refine ⟨p, l5, x, y, z, _, rfl, DF, ne_of_none (Dc.same c4).at_ nl5, upd_same, by rw [hlen]; decide, by rw [hlen]; decide, fun j v x' z' H' hj D' _ k' => ?_⟩
    have hv : Bv K p (upd (upd H3 l4 (.lst v3)) l5 (.lst (v1 ++ v2 ++ v3))) v := by
      rcases List.mem_append.mp (List.mem_of_getElem? hj) with hv | hv
      · exact (b12 v hv).same u3
      · exact (b3 v hv).same ((sn nl4).trans (sn nl5))
    exact k v x' z' H' (hv H' k') D' ((But.of c3).trans k')
end
end K8
/-! _law_placing_text. -/
namespace K8
open PySem PySem.Spec PyProof.Rows L2 K0 K1 M46

abbrev nPT : List PySem.Str := ["_law_pairs", "_law_rows", "_law_one", "_law_other"]
theorem scPT : FnScope nPT ["_law_pairs"] (defScope sPlText) := ⟨rfl, rfl, rfl, by decide +kernel, rfl, by decide +kernel, by decide +kernel⟩
/-- a pair of texts -/
def Pr (H : Hp) (v : V) (q : PySem.Str × PySem.Str) : Prop := ∃ a, v = .ref a ∧ H a = some (.tup [.str q.1, .str q.2])
theorem Pr.same {H H' : Hp} {v : V} {q : PySem.Str × PySem.Str} (h : Pr H v q) (s : Same H H') : Pr H' v q := let ⟨a, e, h⟩ := h; ⟨a, e, s _ _ h⟩
def spPlText : Sp := fun vs H Q _ => ∃ (a : Addr) (xs : List V) (ps : List (PySem.Str × PySem.Str)), vs = [.ref a] ∧ H a = some (.lst xs) ∧ Paired (Pr H) xs ps ∧ ps.length ≤ 5 ∧ (∀ q ∈ ps, q.1.length ≤ 3 ∧ q.2.length ≤ 3) ∧
  ∀ H', Same H H' → Q (.str (prTxt ps)) H'
section
variable {P : Program} {w : World} {K : PySem.W.Frag} {mg : PySem.Str → Option Value} {base : Heap}
theorem ok_pl_text {f : Addr} {fd : FuncData} (F : Fun K "_law_placing_text" "_law_placing_text" sPlText f fd) : FnOk P w K mg base CX0 1 f fd ["_law_pairs"] spPlText := by
  refine F.ok scPT (fun vs H Q E h => ?_) (fun cdv A outer s0 H vs Q E hr h => ?_)
  · obtain ⟨a, xs, ps, rfl, _⟩ := h
    rfl
  · obtain ⟨a, xs, ps, rfl, ha, hp, h5, h3, k⟩ := h
    refine ⟨_, pss_cons (ps_setLc (i := 1) (own := [("_law_one", 2), ("_law_other", 3)]) (g := gTup K 2 (gCons (gName 2) (gCons (gName 3) gNil))) (tt := tYes) rfl scPT.nd rfl rfl (sw_true rfl rfl rfl (by decide +kernel)) (pi_list (pv 0)) (blkOk_by (own := [("_law_one", 2), ("_law_other", 3)]) (N := nPT) (sc := defScope sPlText) (by decide +kernel)) (fun _ _ _ _ _ => pg_tup rfl (pgs_cons (pg_name (i := 2) scPT.nd rfl (Or.inl rfl)) (pgs_cons (pg_name (i := 3) scPT.nd rfl (Or.inl rfl)) pgs_nil))) (fun _ _ _ _ _ => pts_nil) (fun _ _ _ _ _ => pe_op op_add_str (pe_op op_add_str (pv 2) pe_str) (pv 3)))
      (pss_one (ps_ret (pe_joinJ pe_str (pv 1)))), ?_⟩
    refine ⟨_, rfl, a, rfl, ⟨_, SqL.of ha⟩, fun R nR => ?_⟩
    have hl := paired_len hp
    refine lc_list (K := K) (a := a) (xs := xs) (fun i G => G R = some (.lst (((ps.take i).map fun q => entP q.1 q.2).map V.str)) ∧ Same H G) ⟨upd_same, sn nR⟩ (fun i G _ hP => SqL.of (hP.2 _ _ ha)) (fun i x G hx hP => ?_) (fun G hP => ?_)
    · obtain ⟨q, hq, b, rfl, hb⟩ := paired_at hp hx
      have h3' := h3 q (List.mem_of_getElem? hq)
      have z : (" = " : PySem.Str).length = 3 := by decide +kernel
      have hi : i < ps.length := (List.getElem?_eq_some_iff.mp hq).1
      refine ⟨b, _, rfl, SqT.of (hP.2 _ _ hb), rfl, _, _, rfl, _, _, rfl, rfl, rfl, ?_⟩
      refine ⟨_, rfl, _, _, rfl, rfl, by rw [z, sizeLine_eq]; omega, _, rfl, _, _, rfl, rfl, by rw [Str.length_append, z, sizeLine_eq]; omega, _, hP.1, ?_, ?_, same_at hP.2 nR⟩
      · rw [List.length_map, List.length_map, List.length_take, sizeLine_eq]; omega
      · rw [upd_same, List.map_map, List.map_map, ← take_map_snoc (g := V.str ∘ fun q => entP q.1 q.2) hq]
        rfl
    · rw [hl, List.take_length] at hP
      refine ⟨⟨_, rfl⟩, _, rfl, ", ", R, _, rfl, rfl, .inl (SqL.of hP.1), ?_, k _ hP.2⟩
      have z : (", " : PySem.Str).length = 2 := by decide +kernel
      have z3 : (" = " : PySem.Str).length = 3 := by decide +kernel
      have b1 := join_le (y := ", ") (n := 9) (ps := ps.map fun q => entP q.1 q.2) fun p hp => by
        obtain ⟨q, hq, rfl⟩ := List.mem_map.mp hp
        have := h3 q hq
        unfold entP
        rw [Str.length_append, Str.length_append, z3]
        omega
      rw [z] at b1 ⊢
      rw [List.length_map] at b1 ⊢
      omega
end
end K8
/-! The end of _law_placing_right: few texts, none of them read. -/
namespace K8
open PySem PySem.Spec PyProof.Rows L2 K0 K1 M46 LamX CwR

abbrev nPR : List PySem.Str := ["_law_dice_here", "_law_names_here", "_law_others", "_law_pairs", "_law_placing", "_law_text", "_law_found", "_law_few", "_law_one"]
theorem scPR : FnScope nPR ["_law_dice_here"] (defScope sPlRight) := ⟨rfl, rfl, rfl, by decide +kernel, rfl, by decide +kernel, by decide +kernel⟩
theorem fewP_len {t v : PySem.Str} (ht : t.length ≤ 100) (hv : v.length ≤ 3) : ∀ u ∈ fewP t v, u.length ≤ 900 := fun u hu => by
  have r1 := rep1_len t " = " "="
  have r2 := rep1_len t " = " " <- "
  have r3 := rep1_len t " = " " =  "
  have up := PyProof.Rows.len_upper t
  have z1 : ("=" : PySem.Str).length = 1 := by decide +kernel
  have z2 : (" <- " : PySem.Str).length = 4 := by decide +kernel
  have z3 : (" =  " : PySem.Str).length = 4 := by decide +kernel
  simp only [fewP, List.mem_append, List.mem_cons, List.not_mem_nil, or_false] at hu
  rcases hu with (((rfl | rfl | rfl | rfl | rfl | rfl | rfl) | (rfl | rfl | rfl | rfl)) | rfl) | (rfl | rfl | rfl | rfl | rfl)
  · rw [Str.length_append, show ("," : PySem.Str).length = 1 by decide +kernel]; omega
  · rw [Str.length_append, show (" " : PySem.Str).length = 1 by decide +kernel]; omega
  · rw [Str.length_append, show (" " : PySem.Str).length = 1 by decide +kernel]; omega
  · decide +kernel
  · omega
  · omega
  · rw [Str.length_append, show ("\n" : PySem.Str).length = 1 by decide +kernel]; omega
  · omega
  · omega
  · rw [Str.length_append, Str.length_append, show (", " : PySem.Str).length = 2 by decide +kernel]; omega
  · decide +kernel
  · rw [Str.length_append, Str.length_append, show (", zzzzz = " : PySem.Str).length = 10 by decide +kernel]; omega
  · rw [Str.length_append, show (", Z = zz" : PySem.Str).length = 8 by decide +kernel]; omega
  · decide +kernel
  · decide +kernel
  · decide +kernel
  · decide +kernel
theorem prTxt_len {ps : List (PySem.Str × PySem.Str)} (h3 : ∀ q ∈ ps, q.1.length ≤ 3 ∧ q.2.length ≤ 3) (h5 : ps.length ≤ 5) : (prTxt ps).length ≤ 55 := by
  have z : (", " : PySem.Str).length = 2 := by decide +kernel
  have z3 : (" = " : PySem.Str).length = 3 := by decide +kernel
  have b1 := join_le (y := ", ") (n := 9) (ps := ents ps) fun p hp => by
    obtain ⟨q, hq, rfl⟩ := List.mem_map.mp hp
    have := h3 q hq
    unfold entP
    rw [Str.length_append, Str.length_append, z3]
    omega
  have b2 := len_join ", " (ents ps)
  have b3 : (ents ps).length = ps.length := by unfold ents; rw [List.length_map]
  rw [z] at b1 b2
  rw [b3] at b1 b2
  unfold prTxt
  omega
abbrev fA (t : PySem.Str) : List V := [.str (t ++ (",": PySem.Str)), .str (t ++ (" " : PySem.Str)), .str ((" " : PySem.Str) ++ t), .str "", .str (rep1 t " = " "="), .str (Txt.upper t), .str (t ++ ("\n" : PySem.Str))]
abbrev fB (t : PySem.Str) : List V := [.str (rep1 t " = " " <- "), .str (rep1 t " = " " =  "), .str (t ++ (", " : PySem.Str) ++ t), .str "x = "]
abbrev fC (t v : PySem.Str) : List V := [.str (t ++ (", zzzzz = " : PySem.Str) ++ v)]
abbrev fD (t : PySem.Str) : List V := [.str (t ++ (", Z = zz" : PySem.Str)), .str "a = b, b = c, c = d, d = e, e = f, f = g", .str "x a", .str "x = a = b", .str "y = a, x = b"]
theorem fewP_map (t v : PySem.Str) : fA t ++ fB t ++ fC t v ++ fD t = (fewP t v).map V.str := rfl
def tFewP (P1 P2 : Addr) : TS := fun D σ H => ∃ (v0 v1 v3 v4 v6 v7 v8 : Option V) (O : Addr) (ps : List (PySem.Str × PySem.Str)) (v : PySem.Str) (os : List V), σ = [v0, v1, some (.ref O), v3, v4, some (.str (prTxt ps)), v6, v7, v8] ∧ H O = some (.lst (.str v :: os)) ∧ Tabs (Tb P1 P2) H ∧ Pl ps ∧ v ∈ ps.map (·.2) ∧ (∀ q ∈ ps, q.1.length ≤ 3 ∧ q.2.length ≤ 3) ∧
  ∀ H', ExtN H H' → Tabs (Tb P1 P2) H' → D.rt (.bl true) H'
section
variable {P : Program} {w : World} {K : PySem.W.Frag} {mg : PySem.Str → Option Value} {base : Heap}
theorem few_pl {f c P1 P2 CP CO gT fS : Addr} {A : Around} {outer : List Env} {s : Shared} {H0 : Hp} {E0 : XK} {fdT fdS : FuncData}
    (hr : Room 6 (A.deeper (envOfC "_law_placing_right" (defScope sPlRight) s.heap.objs.size f (.ref c)))) (T : Bare mg) (Z : TwoX K CP CO) (TB : TabB base mg c P2) (h12 : P1 ≠ P2) (mP : mg "ParseError" = some (.ref CP)) (mO : mg "InvalidOperation" = some (.ref CO))
    (FS : Fun K "parse_placing" "parse_placing" sParPl fS fdS) (bS : Binds K fdS ["text"] []) (mS : mg "parse_placing" = some (.ref fS)) (GS : FnOk P w K mg base (L2.CX P w) 4 fS fdS ["text"] (spParPl CP))
    (FTold : Fun K "_law_told" "_law_told" sTold gT fdT) (bTold : Binds K fdT ["_law_call"] []) (mTold : mg "_law_told" = some (.ref gT)) :
    PSs (cxOf CX0 P w K mg base nPR "_law_placing_right" (defScope sPlRight) f (.ref c) A outer s H0 E0).nox ((defBody sPlRight).drop 7) (tFewP P1 P2) := by
  obtain ⟨oc, od, kV, doc, pm, an, cdvT, ct, osl, rfl, lkT, hcT⟩ := FTold.ex
  refine pss_conv (pss_tok (i := 7) scPR.nd rfl (Or.inl rfl) op_add_str (pv 5) (pat_cons (PET.of (pe_op op_add_str (pv 5) pe_str)) (pat_cons (PET.of (pe_op op_add_str pe_str (pv 5))) (pat_cons (PET.of pe_str) (pat_cons (pet_rep1 (pv 5)) (pat_cons (PET.of (pe_upper (pv 5))) (pat_cons (PET.of (pe_op op_add_str (pv 5) pe_str)) pat_nil))))))
    (psst_cons (pst_set (i := 7) scPR.nd rfl (Or.inl rfl) (pet_op op_cat (PET.of (pv 7)) (pet_lst (pat_cons (pet_rep1 (pv 5)) (pat_cons (pet_rep1 (pv 5)) (pat_cons (PET.of (pe_op op_add_str (pe_op op_add_str (pv 5) pe_str) (pv 5))) (pat_cons (PET.of pe_str) pat_nil)))))))
    (psst_cons (PST.of (ps_expr (pe_bm PySem.F.plainAttrs_list PySem.F.slot_list_append PySem.F.type_list_append mt_append (pv 7) (pa_cons (pe_op op_add_str (pe_op op_add_str (pv 5) pe_str) (pe_ix ix_list (pv 2) pe_int (fun _ _ => rfl))) pa_nil))))
    (PSsT.of (pss_cons (ps_set (i := 7) scPR.nd rfl (Or.inl rfl) (pe_op op_cat (pv 7) (pe_lst (pa_cons (pe_op op_add_str (pv 5) pe_str) (pa_cons pe_str (pa_cons pe_str (pa_cons pe_str (pa_cons pe_str pa_nil))))))))
    (pss_one (ps_ret (pe_cmpR (op_eqD hr.units)
      (pe_lc (own := [("_law_one", 8)]) (g := gName 8) (tt := tTest (tOp rNe (tLam (Tb P1 P2) (TTold CP CO) (fun E => tCall (spParPl CP) [] E (tCons (tVar 8) tNil))) (tC (.str "parse")))) (te := tVar 8) rfl scPR.nd (pi_list (pv 7)) (blkOk_by (own := [("_law_one", 8)]) (N := nPR) (sc := defScope sPlRight) (by decide +kernel)) (fun _ _ _ _ _ => pg_name (i := 8) scPR.nd rfl (Or.inr rfl))
        (fun _ _ _ _ _ => pts_one (pt_cmpR op_ne (pe_lamcall (T := Tb P1 P2) (TT := TTold CP CO) (x := "_law_told") (a := "_law_call") (k := 4) (t := fun E => tCall (spParPl CP) [] E (tCons (tVar 8) tNil)) (by rfl) mTold FTold.kp lkT hcT bTold scTold rfl (.inl rfl) (told_two mP mO Z) TB rfl (.tail _ (.head _)) (tb_two h12) hr (lamS_by (by rfl)) rfl (fun _ _ _ _ _ => rfl) (fun A outer s H E f c1 hr2 => (pe_call (E := E) GS hr2 (by rfl) mS FS.kp bS .nil (passes_call (takes_of rfl rfl rfl rfl) fun _ _ _ _ h => h) (pa_cons (pv 8) pa_nil)))) pe_str (nomark _)))
        (fun _ _ _ _ _ => by exact (pv 8)))
      (pe_lst pa_nil) (nomark _)))))))) ) fun pins s1 σ H D I h => ?_
  obtain ⟨v0, v1, v3, v4, v6, v7, v8, O, ps, v, os, rfl, hO, hT, hP, hv, h3, k⟩ := h
  have hl := prTxt_len h3 hP.n5
  have hv3 : v.length ≤ 3 := by
    obtain ⟨q, hq, rfl⟩ := List.mem_map.mp hv
    exact (h3 q hq).2
  have hno := fewP_no hP hv fun q hq => (h3 q hq).1
  have hln := fewP_len (t := prTxt ps) (v := v) (by omega) hv3
  generalize prTxt ps = t at hl hno hln ⊢
  have hz : (1000000 : Nat) ≤ sizeLine := by rw [sizeLine_eq]; omega
  have z1 : ("," : PySem.Str).length = 1 := by decide +kernel
  have z2 : (" " : PySem.Str).length = 1 := by decide +kernel
  have z3 : ("=" : PySem.Str).length = 1 := by decide +kernel
  have z4 : ("\n" : PySem.Str).length = 1 := by decide +kernel
  have z5 : (" <- " : PySem.Str).length = 4 := by decide +kernel
  have z6 : (" =  " : PySem.Str).length = 4 := by decide +kernel
  have z7 : (", " : PySem.Str).length = 2 := by decide +kernel
  have z8 : (", zzzzz = " : PySem.Str).length = 10 := by decide +kernel
  have z9 : (", Z = zz" : PySem.Str).length = 8 := by decide +kernel
  refine ⟨_, rfl, _, _, rfl, rfl, by omega, _, rfl, _, _, rfl, rfl, by omega, _, rfl, _, _, rfl, rfl, by omega, _, rfl, t, rfl, by omega, _, rfl, ⟨_, rfl⟩, t, rfl, rfl, by omega, _, rfl, _, _, rfl, rfl, by omega, by rw [sizeLine_eq]; show 7 ≤ 16777216; decide, fun l nl => ?_⟩
  have e1 : (upd H l (.lst (fA t))) l = some (.lst (fA t)) := upd_same
  have s1 : Same H (upd H l (.lst (fA t))) := sn nl
  generalize upd H l (.lst (fA t)) = H1 at e1 s1 ⊢
  refine ⟨_, rfl, _, rfl, t, rfl, by omega, _, rfl, t, rfl, by omega, _, rfl, _, _, rfl, rfl, by omega, _, rfl, _, _, rfl, rfl, by rw [Str.length_append]; omega, by rw [sizeLine_eq]; show 4 ≤ 16777216; decide, fun m nm => ⟨l, m, fA t, fB t, rfl, rfl, sn nm _ _ e1, upd_same, by rw [sizeLine_eq]; show 11 ≤ 16777216; decide, fun L nL => ?_⟩⟩
  have s2 : Same H (upd (upd H1 m (.lst (fB t))) L (.lst (fA t ++ fB t))) := (s1.trans (sn nm)).trans (sn nL)
  have e2 : (upd (upd H1 m (.lst (fB t))) L (.lst (fA t ++ fB t))) L = some (.lst (fA t ++ fB t)) := upd_same
  have nLH : H L = none := none_same (s1.trans (sn nm)) nL
  generalize upd (upd H1 m (.lst (fB t))) L (.lst (fA t ++ fB t)) = H2 at e2 s2 ⊢
  refine ⟨_, rfl, .inl ⟨rfl, _, SqL.of e2⟩, _, rfl, _, _, rfl, rfl, by omega, _, rfl, O, _, 0, .str v, rfl, rfl, SqL.of (s2 _ _ hO), atI0, _, _, rfl, rfl, by rw [Str.length_append]; omega, L, _, _, rfl, rfl, e2, by rw [sizeLine_eq]; show 11 < 16777216; decide, ?_⟩
  have e3 : (upd H2 L (.lst (fA t ++ fB t ++ fC t v))) L = some (.lst (fA t ++ fB t ++ fC t v)) := upd_same
  have s3 : Same H (upd H2 L (.lst (fA t ++ fB t ++ fC t v))) := same_at s2 nLH
  generalize upd H2 L (.lst (fA t ++ fB t ++ fC t v)) = H3 at e3 s3 ⊢
  refine ⟨_, rfl, _, rfl, _, _, rfl, rfl, by omega, by rw [sizeLine_eq]; show 5 ≤ 16777216; decide, fun m nm => ⟨L, m, fA t ++ fB t ++ fC t v, fD t, rfl, rfl, sn nm _ _ e3, upd_same, by rw [sizeLine_eq]; show 17 ≤ 16777216; decide, fun B nB => ?_⟩⟩
  rw [fewP_map]
  have hfl : ((fewP t v).map V.str).length ≤ 100 := by show 17 ≤ 100; decide
  have s4 : Same H (upd (upd H3 m (.lst (fD t))) B (.lst ((fewP t v).map V.str))) := (s3.trans (sn nm)).trans (sn nB)
  have e4 : (upd (upd H3 m (.lst (fD t))) B (.lst ((fewP t v).map V.str))) B = some (.lst ((fewP t v).map V.str)) := upd_same
  generalize upd (upd H3 m (.lst (fD t))) B (.lst ((fewP t v).map V.str)) = H4 at e4 s4 ⊢
  generalize fewP t v = fs at hno hln e4 hfl
  refine ⟨_, rfl, B, rfl, ⟨_, SqL.of e4⟩, fun R nR => ?_⟩
  have eE : ∀ o, ExtN H4 (upd H4 R o) := fun o => ExtN.of (sn nR)
  refine lc_list (K := K) (a := B) (xs := fs.map V.str) (fun i H' => H' R = some (.lst []) ∧ ExtN H4 H' ∧ Tabs (Tb P1 P2) H') ⟨upd_same, eE _, (hT.ext s4).ext (sn nR)⟩ (fun i H' _ hP => SqL.of (ext_at hP.2.1 e4)) (fun i x H' hx hP => ⟨rfl, ?_⟩) (fun H' hP => ?_)
  · rw [List.getElem?_map] at hx
    obtain ⟨u, hu, rfl⟩ : ∃ u, fs[i]? = some u ∧ V.str u = x := by
      cases e : fs[i]? with
      | none => rw [e] at hx; cases hx
      | some p => rw [e] at hx; exact ⟨p, rfl, Option.some.inj hx⟩
    have hum := List.mem_of_getElem? hu
    refine ⟨hP.2.2, fun H5 e5 T5 => ?_⟩
    refine ⟨_, rfl, u, rfl, hln u hum, ?_⟩
    rw [hno u hum]
    intro H6 s6
    refine .inl ⟨rfl, rfl, _, rfl, ?_⟩
    have hd : (!decide (V.str ("parse" : PySem.Str) = V.str ("parse" : PySem.Str))) = false := by simp
    rw [hd]
    exact ⟨s6 _ _ (ext_at e5 hP.1), hP.2.1.trans (e5.trans (ext_of s6)), T5.ext s6⟩
  · refine ⟨by rw [sizeLine_eq]; show 0 ≤ 16777216; decide, fun q nq => ?_⟩
    refine ⟨.list [], .list [], .lst (SqL.of (sn nq _ _ hP.1)) .nil, .lst (SqL.of upd_same) .nil, by decide, by decide, ?_⟩
    exact k _ (((ext_of s4).trans hP.2.1).trans (ext_of (sn nq))) (hP.2.2.ext (sn nq))
end
end K8
/-! _law_placing_right: the value that is no placing. -/
namespace K8
open PySem PySem.Spec PyProof.Rows L2 K0 K1 M46 LamX

/-- what stands when the texts are right -/
structure PlS (H : Hp) (p d O : Addr) (x y z : Int) (ps D : List (PySem.Str × PySem.Str)) (v : PySem.Str) (os : List V) : Prop where
  dice : Dice H p x y z
  at_ : H d = some (.dK (wd D))
  oth : H O = some (.lst (.str v :: os))
  dO : O ≠ p
  pl : Pl ps
  dp : Dp3 D
  mem : v ∈ ps.map (·.2)
  l3 : ∀ q ∈ ps, q.1.length ≤ 3 ∧ q.2.length ≤ 3
def tLamP (P1 P2 : Addr) : TS := fun D σ H => ∃ (v1 v3 v6 v7 v8 : Option V) (p d O : Addr) (x y z : Int) (ps Dd : List (PySem.Str × PySem.Str)) (v : PySem.Str) (os : List V), σ = [some (.ref p), v1, some (.ref O), v3, some (.ref d), some (.str (prTxt ps)), v6, v7, v8] ∧ PlS H p d O x y z ps Dd v os ∧ Tabs (Tb P1 P2) H ∧
  ∀ x' z' H', Dice H' p x' y z' → Bp p H H' → Tabs (Tb P1 P2) H' → D.rt (.bl true) H'
section
variable {P : Program} {w : World} {K : PySem.W.Frag} {mg : PySem.Str → Option Value} {base : Heap}
theorem lam_pl {f c P1 P2 CP CO gT fS fF fB : Addr} {A : Around} {outer : List Env} {s : Shared} {H0 : Hp} {E0 : XK} {fdT fdS fdF fdB : FuncData}
    (hr : Room 6 (A.deeper (envOfC "_law_placing_right" (defScope sPlRight) s.heap.objs.size f (.ref c)))) (T : Bare mg) (Z : TwoX K CP CO) (TB : TabB base mg c P2) (h12 : P1 ≠ P2) (mP : mg "ParseError" = some (.ref CP)) (mO : mg "InvalidOperation" = some (.ref CO))
    (FS : Fun K "parse_placing" "parse_placing" sParPl fS fdS) (bS : Binds K fdS ["text"] []) (mS : mg "parse_placing" = some (.ref fS)) (GS : FnOk P w K mg base (L2.CX P w) 4 fS fdS ["text"] (spParPl CP))
    (FF : Fun K "format_placing" "format_placing" sFmtPl fF fdF) (bF : Binds K fdF ["placing"] []) (mF : mg "format_placing" = some (.ref fF)) (GF : FnOk P w K mg base (L2.CX P w) 3 fF fdF ["placing"] (spFmtPl K CO))
    (FB : Fun K "_law_bad_placing" "_law_bad_placing" sBadPl fB fdB) (bB : Binds K fdB ["_law_dice_here", "_law_placing"] []) (mB : mg "_law_bad_placing" = some (.ref fB)) (GB : FnOk P w K mg base CX0 3 fB fdB ["_law_dice_here", "_law_placing"] (spBadPl K))
    (FTold : Fun K "_law_told" "_law_told" sTold gT fdT) (bTold : Binds K fdT ["_law_call"] []) (mTold : mg "_law_told" = some (.ref gT)) :
    PSs (cxOf CX0 P w K mg base nPR "_law_placing_right" (defScope sPlRight) f (.ref c) A outer s H0 E0).nox ((defBody sPlRight).drop 6) (tLamP P1 P2) := by
  have L := few_pl (E0 := E0) (outer := outer) (H0 := H0) (base := base) hr T Z TB h12 mP mO FS bS mS GS FTold bTold mTold
  obtain ⟨oc, od, kV, doc, pm, an, cdvT, ct, osl, rfl, lkT, hcT⟩ := FTold.ex
  refine pss_conv (pss_cons (ps_if (pt_cmpR op_ne (pe_lamcall (T := Tb P1 P2) (TT := TTold CP CO) (x := "_law_told") (a := "_law_call") (k := 4) (t := fun E => tCall (spFmtPl K CO) [] E (tCons (tCall (spBadPl K) [] L2.E0 (tCons (tVar 0) (tCons (tVar 4) tNil))) tNil)) (by rfl) mTold FTold.kp lkT hcT bTold scTold rfl (.inl rfl) (told_two mP mO Z) TB rfl (.tail _ (.head _)) (tb_two h12) hr (lamS_by (by rfl)) rfl (fun _ _ _ _ _ => rfl) (fun A outer s H E f c1 hr2 => (pe_call (E := E) GF (hr2.mono (by decide)) (by rfl) mF FF.kp bF .nil (passes_call (takes_of rfl rfl rfl rfl) fun _ _ _ _ h => h) (pa_cons (pe_call (E := L2.E0) GB (hr2.mono (by decide)) (by rfl) mB FB.kp bB .nil pass0 (pa_cons (pv 0) (pa_cons (pv 4) pa_nil))) pa_nil)))) pe_str (nomark _)) (pss_one (ps_ret pe_bl)) pss_nil) L) fun pins s1 σ H D I h => ?_
  obtain ⟨v1, v3, v6, v7, v8, p, d, O, x, y, z, ps, Dd, v, os, rfl, S, hT, k⟩ := h
  refine ⟨hT, fun H1 e1 T1 => ?_⟩
  refine ⟨_, rfl, _, rfl, p, d, x, y, z, Dd, rfl, dice_ext S.dice e1, ext_at e1 S.at_, S.dp, fun u x2 z2 H2 hu D2 b2 => ?_⟩
  refine ⟨u, rfl, .inl ⟨hu, fun H3 s3 => .inr ⟨rfl, rfl, _, rfl, ite2 (fun z => absurd z (by simp)) fun _ => ?_⟩⟩⟩
  have D3 := D2.same s3
  have b3 : But p H1 H3 := b2.trans (But.of s3)
  have T3 : Tabs (Tb P1 P2) H3 := tabs_but (dice_ext S.dice e1) T1 b3
  have bp : Bp p H H3 := fun a o ha hn e => b3 a o ha (e1 a o e hn)
  exact ⟨_, v1, v3, some (.ref d), v6, v7, v8, O, ps, v, os, rfl, bp _ _ S.dO (by intro ps z; cases z) S.oth, T3, S.pl, S.mem, S.l3, fun H' e t => k _ _ H' (dice_ext D3 e) (bp.ext e) t⟩
end
end K8
/-! list(zip(a, b)) of two lists. -/
namespace K8
open PySem PySem.Spec PyProof.Rows L2
open PySem.W (kdx_alive)

theorem no_zip_len : typeLookup (.type "zip") "__len__" = pure none := am_miss_of_fast (by decide +kernel)
theorem no_zip_hint : typeLookup (.type "zip") "__length_hint__" = pure none := am_miss_of_fast (by decide +kernel)
/-- a zip at turn i, while a list is filled at S -/
structure Zs (h : Heap) (z TI TO i1 i2 l1 l2 : Addr) (us vs : Array Value) (S : Addr) (i : Nat) : Prop where
  ti : IsPair h TI (.ref i1) (.ref i2)
  n1 : h.IsListIter i1 l1 i
  n2 : h.IsListIter i2 l2 i
  x1 : h.IsList l1 us
  x2 : h.IsList l2 vs
  zz : (IsZip h z TI TO .none ∧ ∃ a b, IsPair h TO a b) ∨ ∃ T f oT, IsZipHeld h z TI TO T f ∧ h.get? T = some oT ∧ T ≠ z ∧ T ≠ i1 ∧ T ≠ i2 ∧ T ≠ S
/-- where a zip's parts lie: apart from the list that is filled -/
structure Off (z TI TO i1 i2 l1 l2 S : Addr) : Prop where
  z : z ≠ S
  ti : TI ≠ S
  to_ : TO ≠ S
  i1 : i1 ≠ S
  i2 : i2 ≠ S
  l1 : l1 ≠ S
  l2 : l2 ≠ S
section
variable {z TI TO i1 i2 l1 l2 S : Addr} {us vs : Array Value} {i : Nat} {h h' : Heap}
theorem Zs.stay (x : Zs h z TI TO i1 i2 l1 l2 us vs S i) (o : Off z TI TO i1 i2 l1 l2 S) (hk : ∀ b ob, b ≠ S → h.get? b = some ob → h'.get? b = some ob) : Zs h' z TI TO i1 i2 l1 l2 us vs S i := by
  refine ⟨hk _ _ o.ti x.ti, x.n1.at fun q e => hk _ q o.i1 e, x.n2.at fun q e => hk _ q o.i2 e, x.x1.at fun q e => hk _ q o.l1 e, x.x2.at fun q e => hk _ q o.l2 e, ?_⟩
  rcases x.zz with ⟨h1, a, b, h2⟩ | ⟨T, f, oT, h1, h2, r1, r2, r3, r4⟩
  · exact .inl ⟨hk _ _ o.z h1, a, b, hk _ _ o.to_ h2⟩
  · exact .inr ⟨T, f, oT, hk _ _ o.z h1, hk _ _ r4 h2, r1, r2, r3, r4⟩
/-- kept but for what a zip turns -/
def Kz (z TO i1 i2 : Addr) (h h' : Heap) : Prop := ∀ c o, c ≠ z → c ≠ TO → c ≠ i1 → c ≠ i2 → h.get? c = some o → h'.get? c = some o
variable {prog : Program} {w : World} {A : Around} {E : Value → Shared → Prop} {s : Shared}
theorem zs_item {x y : Value} {Q : Option Value → Shared → Prop} (D : ZipApart z TI TO i1 i2 l1 l2) (hS : S < s.heap.objs.size) (st : Zs s.heap z TI TO i1 i2 l1 l2 us vs S i) (ex : us[i]? = some x) (ey : vs[i]? = some y)
    (hQ : ∀ h', Zs h' z TI TO i1 i2 l1 l2 us vs S (i + 1) → IsPair h' s.heap.objs.size x y → Kz z TO i1 i2 s.heap h' → Q (some (.ref s.heap.objs.size)) { s with heap := h' }) : wpAny (model prog w) A (pyNext (.ref z)) Q E s := by
  have far : ∀ {c : Addr} {o : Obj}, s.heap.get? c = some o → s.heap.objs.size ≠ c := fun e => Nat.ne_of_gt (Heap.lt_size e)
  have f1 : s.heap.objs.size ≠ i1 := let ⟨_, e, _⟩ := st.n1; far e
  have f2 : s.heap.objs.size ≠ i2 := let ⟨_, e, _⟩ := st.n2; far e
  rcases st.zz with ⟨hz, a, b, hTO⟩ | ⟨T, f, oT, hz, hT, r1, r2, r3, r4⟩
  · refine wpAny_pyNext_zip_item D hz st.ti hTO st.n1 st.n2 st.x1 st.x2 ex ey fun h' a1 a2 a3 a4 a5 a6 hk => hQ h' ?_ a5 hk
    exact ⟨hk _ _ D.TIz D.TITO D.TIi1 D.TIi2 st.ti, a3, a4, st.x1.at fun o e => hk _ o D.l1z D.l1TO D.l1i1 D.l1i2 e, st.x2.at fun o e => hk _ o D.l2z D.l2TO D.l2i1 D.l2i2 e, .inr ⟨_, false, _, a1, a5, far hz, f1, f2, Nat.ne_of_gt hS⟩⟩
  · refine wpAny_pyNext_zip_item_held D hz hT st.ti st.n1 st.n2 st.x1 st.x2 ex ey fun h' a1 a3 a4 a5 a6 hk => hQ h' ?_ a5 fun c o c1 _ c3 c4 e => hk c o c1 c3 c4 e
    exact ⟨hk _ _ D.TIz D.TIi1 D.TIi2 st.ti, a3, a4, st.x1.at fun o e => hk _ o D.l1z D.l1i1 D.l1i2 e, st.x2.at fun o e => hk _ o D.l2z D.l2i1 D.l2i2 e, .inr ⟨T, true, oT, a1, hk _ _ r1 r2 r3 hT, r1, r2, r3, r4⟩⟩
theorem zs_done {Q : Option Value → Shared → Prop} (hh : A.handled = none) (D : ZipApart z TI TO i1 i2 l1 l2) (st : Zs s.heap z TI TO i1 i2 l1 l2 us vs S i) (he : us[i]? = none)
    (hQ : ∀ h', Kz z TO i1 i2 s.heap h' → Q none { s with heap := h' }) : wpAny (model prog w) A (pyNext (.ref z)) Q E s := by
  rcases st.zz with ⟨hz, a, b, hTO⟩ | ⟨T, f, oT, hz, hT, r1, r2, r3, r4⟩
  · exact wpAny_pyNext_zip_end hh D hz st.ti hTO st.n1 st.n2 st.x1 st.x2 (.inl he) hQ
  · exact wpAny_pyNext_zip_end_held hh D hz hT st.ti st.n1 st.n2 st.x1 st.x2 (.inl he) fun h' hk => hQ h' fun c o c1 _ c3 c4 e => hk c o c1 c3 c4 e
/-- the pairs that were given out -/
structure Outs (us vs : Array Value) (lo : Addr) (h : Heap) (as : List Addr) : Prop where
  rise : as.Pairwise (· < ·)
  up : ∀ a ∈ as, lo ≤ a
  pairs : ∀ (j : Nat) (a : Addr), as[j]? = some a → ∃ x y, us[j]? = some x ∧ vs[j]? = some y ∧ IsPair h a x y
theorem Outs.low {lo : Addr} {as : List Addr} (g : Outs us vs lo h as) {a : Addr} (ha : a ∈ as) : a < h.objs.size := by
  obtain ⟨j, hj⟩ := List.mem_iff_getElem?.mp ha
  obtain ⟨_, _, _, _, e⟩ := g.pairs j a hj
  exact Heap.lt_size e
end
end K8
/-! list(zip(a, b)): the loop, the call. -/
namespace K8
open PySem PySem.Spec PyProof.Rows L2
open Sem (wp)

def LstAt (h : Heap) (S : Addr) (acc : Array Value) (c : Nat) : Prop := h.get? S = some { cls := .type "list", dict := none, data := .seq acc c, slots := #[] }
section
variable {prog : Program} {w : World} {A : Around} {s : Shared} {R : Result → Shared → Prop} {z TI TO i1 i2 l1 l2 S lo : Addr} {us vs : Array Value}
theorem lz_loop (hh : A.handled = none) (D : ZipApart z TI TO i1 i2 l1 l2) (off : Off z TI TO i1 i2 l1 l2 S) (b1 : z < lo) (b2 : TO < lo) (b3 : i1 < lo) (b4 : i2 < lo) (b5 : S < lo) (hn : us.size ≤ sizeLine) (hl : us.size = vs.size) (res : Value) {h1 : Heap}
    (hR : ∀ h' tk acc c as, (∀ b o, b ≠ S → b ≠ z → b ≠ TO → b ≠ i1 → b ≠ i2 → h1.get? b = some o → h'.get? b = some o) → LstAt h' S acc c → as.length = us.size → Outs us vs lo h' as → acc.toList = as.map Value.ref → R (.ok (.ret res)) { s with heap := h', toks := tk }) :
    ∀ (k i : Nat) (h : Heap) (tk c : Nat) (acc : Array Value) (as : List Addr), us.size - i = k → i ≤ us.size → Zs h z TI TO i1 i2 l1 l2 us vs S i → (∀ b o, b ≠ S → b ≠ z → b ≠ TO → b ≠ i1 → b ≠ i2 → h1.get? b = some o → h.get? b = some o) →
      LstAt h S acc c → acc.toList = as.map Value.ref → as.length = i → Outs us vs lo h as → lo ≤ h.objs.size → codeAny (model prog w) A (.builtin "list.extend.loop" ⟨[.ref S, .ref z, res], []⟩) R { s with heap := h, toks := tk } := by
  intro k
  induction k with
  | zero =>
    intro i h tk c acc as hk hi st kp hS ha hal hG hlo
    refine codeAny_builtin PySem.F.entry_extend_loop ?_
    rw [Around.under_plainId PySem.F.plain_extend_loop _]
    show wpAny _ A.in1 (pyNext (.ref z) >>= _) _ _ _
    refine wpAny_bind (zs_done (s := { s with heap := h, toks := tk }) (A := A.in1) hh D st (Array.getElem?_eq_none (by omega)) fun h' kz => ?_)
    refine wpAny_pure (hR h' tk acc c as (fun b o c0 c1 c2 c3 c4 e => kz b o c1 c2 c3 c4 (kp b o c0 c1 c2 c3 c4 e)) (kz S _ off.z.symm off.to_.symm off.i1.symm off.i2.symm hS) (by omega) ⟨hG.rise, hG.up, fun j a hj => ?_⟩ ha)
    obtain ⟨x, y, e1, e2, e3⟩ := hG.pairs j a hj
    have hb := hG.up a (List.mem_of_getElem? hj)
    exact ⟨x, y, e1, e2, kz a _ (Nat.ne_of_gt (Nat.lt_of_lt_of_le b1 hb)) (Nat.ne_of_gt (Nat.lt_of_lt_of_le b2 hb)) (Nat.ne_of_gt (Nat.lt_of_lt_of_le b3 hb)) (Nat.ne_of_gt (Nat.lt_of_lt_of_le b4 hb)) e3⟩
  | succ k ih =>
    intro i h tk c acc as hk hi st kp hS ha hal hG hlo
    have hlt : i < us.size := by omega
    have ex : us[i]? = some us[i] := Array.getElem?_eq_getElem hlt
    have ey : vs[i]? = some (vs[i]'(by omega)) := Array.getElem?_eq_getElem (by omega)
    have hsz : acc.size = i := by rw [← Array.length_toList, ha, List.length_map, hal]
    have hSl : S < h.objs.size := Heap.lt_size hS
    refine codeAny_builtin PySem.F.entry_extend_loop ?_
    rw [Around.under_plainId PySem.F.plain_extend_loop _]
    show wpAny _ A.in1 (pyNext (.ref z) >>= _) _ _ _
    refine wpAny_bind (zs_item (s := { s with heap := h, toks := tk }) D hSl st ex ey fun h' st' ht kz => ?_)
    dsimp only at ht kz ⊢
    have hS' : LstAt h' S acc c := kz S _ off.z.symm off.to_.symm off.i1.symm off.i2.symm hS
    have up : ∀ b o, b ≠ S → h'.get? b = some o → (h'.update S (Obj.mapSeq (·.push (Value.ref h.objs.size)))).get? b = some o := fun b o hb e => (Heap.get?_update_other _ _ (Ne.symm hb)).trans e
    have tS : h.objs.size ≠ S := Nat.ne_of_gt hSl
    have ht' := up _ _ tS ht
    show wpAny _ A.in1 (updateSeq S (·.push (Value.ref h.objs.size)) >>= _) _ _ _
    refine wpAny_bind ?_
    refine wpAny_updateSeq hS' rfl (wpAny_pure ⟨plainId_quiet PySem.F.plain_extend_loop _, ih (i + 1) _ tk _ (acc.push (Value.ref h.objs.size)) (as ++ [h.objs.size]) (by omega) hlt (st'.stay off up) (fun b o c0 c1 c2 c3 c4 e => up b o c0 (kz b o c1 c2 c3 c4 (kp b o c0 c1 c2 c3 c4 e)))
      (Heap.get?_update_self _ hS' rfl) (by rw [Array.toList_push, ha, List.map_append]; rfl) (by rw [List.length_append, hal]; rfl) ⟨?_, ?_, ?_⟩ (Nat.le_of_lt (Nat.lt_of_le_of_lt hlo (Heap.lt_size ht')))⟩) (by rw [hsz]; omega) (by show (acc.push (Value.ref h.objs.size)).size ≤ sizeLine + 1; rw [Array.size_push, hsz]; omega)
    · refine List.pairwise_append.mpr ⟨hG.rise, List.pairwise_singleton _ _, fun a ha b hb => ?_⟩
      rw [List.mem_singleton.mp hb]
      exact hG.low ha
    · intro a ha
      rcases List.mem_append.mp ha with ha | ha
      · exact hG.up a ha
      · rw [List.mem_singleton.mp ha]; exact hlo
    · intro j b hj
      rcases Nat.lt_trichotomy j as.length with q | q | q
      · rw [List.getElem?_append_left q] at hj
        obtain ⟨x, y, e1, e2, e3⟩ := hG.pairs j b hj
        have hb := hG.up b (List.mem_of_getElem? hj)
        exact ⟨x, y, e1, e2, up b _ (Nat.ne_of_gt (Nat.lt_of_lt_of_le b5 hb)) (kz b _ (Nat.ne_of_gt (Nat.lt_of_lt_of_le b1 hb)) (Nat.ne_of_gt (Nat.lt_of_lt_of_le b2 hb)) (Nat.ne_of_gt (Nat.lt_of_lt_of_le b3 hb)) (Nat.ne_of_gt (Nat.lt_of_lt_of_le b4 hb)) e3)⟩
      · subst q
        have hb : h.objs.size = b := by simpa using hj
        subst hb
        exact ⟨_, _, by rw [hal]; exact ex, by rw [hal]; exact ey, ht'⟩
      · have hnone : (as ++ [h.objs.size])[j]? = none := List.getElem?_eq_none (by rw [List.length_append, List.length_singleton]; omega)
        rw [hnone] at hj; cases hj
end
section
variable {prog : Program} {w : World} {A : Around} {E : Value → Shared → Prop} {s : Shared} {z TI TO i1 i2 l1 l2 : Addr} {us vs : Array Value}
theorem lz_hint {Q : Bool → Shared → Prop} (hT : s.TypeIs (.ref z) "zip") (h : Q true s) : wpAny (model prog w) A (Builtin.List.listLengthHint (.ref z)) Q E s := by
  unfold Builtin.List.listLengthHint
  refine wpAny_bind (wpAny_specialOf hT no_zip_len ?_)
  show wpAny _ _ (specialOf (Value.ref z) (Str.ofString "__length_hint__") >>= _) _ _ _
  refine wpAny_bind (wpAny_specialOf hT no_zip_hint ?_)
  exact wpAny_pure h
theorem lz_call {Q : Value → Shared → Prop} (hh : A.handled = none) (D : ZipApart z TI TO i1 i2 l1 l2) (hz : IsZip s.heap z TI TO .none) (ti : IsPair s.heap TI (.ref i1) (.ref i2)) (hTO : ∃ a b, IsPair s.heap TO a b) (n1 : s.heap.IsListIter i1 l1 0) (n2 : s.heap.IsListIter i2 l2 0) (x1 : s.heap.IsList l1 us) (x2 : s.heap.IsList l2 vs)
    (hn : us.size ≤ sizeLine) (hl : us.size = vs.size)
    (hQ : ∀ h' tk acc c as, (∀ b o, b ≠ z → b ≠ TO → b ≠ i1 → b ≠ i2 → s.heap.get? b = some o → h'.get? b = some o) → LstAt h' s.heap.objs.size acc c → as.length = us.size → Outs us vs (s.heap.objs.size + 1) h' as → acc.toList = as.map Value.ref → Q (.ref s.heap.objs.size) { s with heap := h', toks := tk }) :
    wpAny (model prog w) A (call (.type "list") [.ref z]) Q E s := by
  have k0 : ∀ b o, s.heap.get? b = some o → (s.heap.push { cls := .type "list", data := .seq #[] }).get? b = some o := fun b o e => Heap.get?_push_of_some _ e
  have lt : ∀ {b : Addr} {o : Obj}, s.heap.get? b = some o → b < s.heap.objs.size := fun e => Heap.lt_size e
  have z1 := lt hz
  have z2 := lt ti
  obtain ⟨ta, tb, hTO⟩ := hTO
  have z3 := lt hTO
  have z4 : i1 < s.heap.objs.size := let ⟨_, e, _⟩ := n1; lt e
  have z5 : i2 < s.heap.objs.size := let ⟨_, e, _⟩ := n2; lt e
  have z6 : l1 < s.heap.objs.size := let ⟨_, e, _⟩ := x1; lt e
  have z7 : l2 < s.heap.objs.size := let ⟨_, e, _⟩ := x2; lt e
  have off : Off z TI TO i1 i2 l1 l2 s.heap.objs.size := ⟨Nat.ne_of_lt z1, Nat.ne_of_lt z2, Nat.ne_of_lt z3, Nat.ne_of_lt z4, Nat.ne_of_lt z5, Nat.ne_of_lt z6, Nat.ne_of_lt z7⟩
  have st0 : Zs s.heap z TI TO i1 i2 l1 l2 us vs s.heap.objs.size 0 := ⟨ti, n1, n2, x1, x2, .inl ⟨hz, ta, tb, hTO⟩⟩
  refine callType_codes (Q₁ := fun obj s₁ => obj = .ref s.heap.objs.size ∧ s₁ = { s with heap := s.heap.push { cls := .type "list", data := .seq #[] } }) PySem.F.called_list (PySem.F.typeCall_list_1 _) PySem.F.entry_list_init
    (code_list_new _ ⟨rfl, rfl⟩) fun obj s1 h1 => ?_
  obtain ⟨rfl, rfl⟩ := h1
  have hS : (s.heap.push { cls := .type "list", data := .seq #[] }).get? s.heap.objs.size = some { cls := .type "list", data := .seq #[] } := Heap.get?_push_size _ rfl
  refine ⟨⟨_, hS, rfl⟩, PySem.F.args_list_init_2 _ _, ?_⟩
  have hsz : (s.heap.push { cls := .type "list", data := .seq #[] }).objs.size = s.heap.objs.size + 1 := Heap.size_push ..
  have st1 := st0.stay (h' := s.heap.push { cls := .type "list", data := .seq #[] }) off fun b ob _ e => k0 b ob e
  generalize hh0 : s.heap.push { cls := .type "list", data := .seq #[] } = g0 at hS hsz st1 k0 ⊢
  show wpAny _ _ (do let old ← Builtin.List.listItems (.ref s.heap.objs.size); Builtin.List.listUpdate (.ref s.heap.objs.size) (fun _ => #[]); letGo old.toList.reverse; Builtin.List.listExtendWith (.ref s.heap.objs.size) (.ref z) .none) _ _ _
  refine wpAny_bind ?_
  unfold Builtin.List.listItems
  refine wpAny_bind (wpAny_seqItems hS rfl (wpAny_pure ?_))
  show wpAny _ _ (updateSeq s.heap.objs.size (fun _ => #[]) >>= fun _ => letGo (#[] : Array Value).toList.reverse >>= fun _ => Builtin.List.listExtendWith (.ref s.heap.objs.size) (.ref z) .none) _ _ _
  refine wpAny_bind (wpAny_updateSeq hS rfl ?_)
  have hS2 := Heap.get?_update_self (Obj.mapSeq (fun _ => (#[] : Array Value))) hS rfl
  have o2 : ∀ b o, b ≠ s.heap.objs.size → g0.get? b = some o → (g0.update s.heap.objs.size (Obj.mapSeq (fun _ => (#[] : Array Value)))).get? b = some o := fun b o hb e => (Heap.get?_update_other _ _ (Ne.symm hb)).trans e
  have st2 := st1.stay off o2
  refine wpAny_bind (wpAny_letGo ?_)
  have hz2 : (g0.update s.heap.objs.size (Obj.mapSeq (fun _ => (#[] : Array Value)))).objs.size = g0.objs.size := Heap.size_update ..
  have k2 : ∀ b o, s.heap.get? b = some o → (g0.update s.heap.objs.size (Obj.mapSeq (fun _ => (#[] : Array Value)))).get? b = some o := fun b o e => o2 b o (Nat.ne_of_lt (lt e)) (k0 b o e)
  generalize g0.update s.heap.objs.size (Obj.mapSeq (fun _ => (#[] : Array Value))) = g2 at hS2 st2 hz2 k2 ⊢
  clear o2 st1 hS k0
  unfold Builtin.List.listExtendWith
  have hT2 : ∀ t, Shared.TypeIs { s with heap := g2, toks := t } (.ref z) "zip" := fun t => ⟨_, k2 _ _ hz, rfl⟩
  refine wpAny_bind (wpAny_typeOf (hT2 _) ?_)
  have e1 : Builtin.List.listSameRef (.ref s.heap.objs.size) (.ref z) = false := by simp [Builtin.List.listSameRef, off.z.symm]
  have e2 : (Value.type "zip" == Value.type "list") = false := by decide
  have e3 : (Value.type "zip" == Value.type "tuple") = false := by decide
  simp only [e1, e2, e3, Bool.or_false, Bool.false_eq_true, if_false]
  refine wpAny_bind (wpAny_pyIter_zip (k2 _ _ hz) ?_)
  refine wpAny_bind (wpAny_holding (lz_hint (hT2 _) ?_))
  show wpAny _ _ (rule "list.extend.makes-room" >>= fun _ => Builtin.List.listTouch (.ref s.heap.objs.size) >>= fun _ => again (.builtin "list.extend.loop" ⟨[.ref s.heap.objs.size, .ref z, .none], []⟩)) _ _ _
  refine wpAny_bind (wpAny_rule ?_)
  refine wpAny_bind ?_
  show wpAny _ _ (updateSeq s.heap.objs.size (·.push .none) >>= fun _ => updateSeq s.heap.objs.size (·.pop)) _ _ _
  refine wpAny_bind (wpAny_updateSeq hS2 rfl ?_)
  have hS3 := Heap.get?_update_self (Obj.mapSeq (·.push Value.none)) hS2 rfl
  refine wpAny_updateSeq (hz := by seq_fits) hS3 rfl ?_
  have hS4 := Heap.get?_update_self (Obj.mapSeq (·.pop)) hS3 rfl
  have o4 : ∀ b o, b ≠ s.heap.objs.size → g2.get? b = some o → ((g2.update s.heap.objs.size (Obj.mapSeq (·.push Value.none))).update s.heap.objs.size (Obj.mapSeq (·.pop))).get? b = some o := fun b o hb e => (Heap.get?_update_other _ _ (Ne.symm hb)).trans ((Heap.get?_update_other _ _ (Ne.symm hb)).trans e)
  have st4 := st2.stay off o4
  have hz4 : ((g2.update s.heap.objs.size (Obj.mapSeq (·.push Value.none))).update s.heap.objs.size (Obj.mapSeq (·.pop))).objs.size = s.heap.objs.size + 1 := by rw [Heap.size_update, Heap.size_update, hz2, hsz]
  refine wpAny_pure ⟨plainId_quiet PySem.F.plain_extend_loop _, lz_loop (A := A.in1) (s := s) (lo := s.heap.objs.size + 1) (h1 := s.heap) hh D off (Nat.lt_succ_of_lt z1) (Nat.lt_succ_of_lt z3) (Nat.lt_succ_of_lt z4) (Nat.lt_succ_of_lt z5) (Nat.lt_succ_self _) hn hl .none
    (fun h' tk acc c as kp hS' hl' hG ha => ⟨rfl, hQ h' tk acc c as (fun b o c1 c2 c3 c4 e => kp b o (Nat.ne_of_lt (lt e)) c1 c2 c3 c4 e) hS' hl' hG ha⟩)
    us.size 0 _ _ _ #[] [] (Nat.sub_zero _) (Nat.zero_le _) st4 (fun b o c0 _ _ _ _ e => o4 b o c0 (k2 b o e)) hS4 rfl rfl ⟨List.Pairwise.nil, (fun _ ha => nomatch ha), (fun j a hj => by simp at hj)⟩ (Nat.le_of_eq hz4.symm)⟩
end
end K8
/-! list(zip(a, b)) as a reading. -/
namespace K8
open PySem PySem.Spec PyProof.Rows L2 M46

theorem nadd {b n : Nat} (h : b < n) (k : Nat) : b ≠ n + k := Nat.ne_of_lt (Nat.lt_of_lt_of_le h (Nat.le_add_right _ _))
section
variable {X : Cx} {pins : List (Addr × Obj)} {σ : L2.St} {H : Hp} {s : Shared} {h' : Heap}
/-- many new objects tracked at once -/
theorem laid_many {t' : Nat} {H' : Hp} (I : Inv X pins σ H s) (hk : ∀ b o, s.heap.get? b = some o → h'.get? b = some o) (kp : ∀ b u, H b = some u → H' b = some u) (new : ∀ b u, H b = none → H' b = some u → s.heap.objs.size ≤ b ∧ ObjOk X.prog X.w H' h' b u) : Inv X pins σ H' { s with heap := h', toks := t' } := by
  refine I.un ⟨fun b o q _ _ _ => hk b o q, fun b o q _ _ _ => ⟨o.slots, hk b o q⟩, fun b o q n _ => ?_, fun b o q _ => ⟨o, hk b o q⟩, fun b xs q => kp b _ q, fun b o u q => kp b _ q, fun b ps q => ⟨#[], by rw [kp b _ q]; simp⟩⟩ fun b u q => ?_
  · cases e : H' b with
    | none => rfl
    | some u => exact absurd (Heap.lt_size q) (Nat.not_lt.mpr (new b u n e).1)
  · cases e : H b with
    | none => exact (new b u e q).2
    | some u' =>
      have := kp b u' e
      rw [q] at this
      cases this
      exact (I.hok b u e).stay (fun d v _ y => hk d v y) (fun d y => kp d _ y) fun d xs y => kp d _ y
def rZipL (K : PySem.W.Frag) : List V → Hp → VK → Prop := fun vs H Q => ∃ a b, ∃ ks os : List PySem.Str, vs = [V.ref a, V.ref b] ∧ SqL K H a (ks.map V.str) ∧ SqL K H b (os.map V.str) ∧ ks.length = os.length ∧ ks.length < 1000 ∧
  ∀ (H' : Hp) (S : Addr) (ts : List Addr), (∀ b o, H b = some o → H' b = some o) → H S = none → H' S = some (.lst (ts.map V.ref)) → Paired (fun (t : Addr) (q : PySem.Str × PySem.Str) => H' t = some (.tup [.str q.1, .str q.2])) ts (ks.zip os) → Q (.ref S) H'
def tListZip (K : PySem.W.Frag) (ta : TA) : TE := fun σ H Q => ta σ H fun vs H1 => rZipL K vs H1 Q
theorem rise_nodup {as : List Addr} (h : as.Pairwise (· < ·)) : as.Nodup := List.Pairwise.imp (fun {a b} (h : a < b) => Nat.ne_of_lt h) h
theorem vals_at {ks : List PySem.Str} {its : List Value} (r : Vals (ks.map V.str) its) {j : Nat} {u : Value} (e : its[j]? = some u) : ∃ k, ks[j]? = some k ∧ RelV (.str k) u := by
  have hl := r.length
  rw [List.length_map] at hl
  have hj : j < ks.length := by rw [hl]; exact (List.getElem?_eq_some_iff.mp e).1
  have h1 : (ks.map V.str)[j]? = some (V.str ks[j]) := by rw [List.getElem?_map, List.getElem?_eq_getElem hj] <;> rfl
  obtain ⟨u', e', r'⟩ := Vals.get r h1
  rw [e] at e'
  cases e'
  exact ⟨_, List.getElem?_eq_getElem hj, r'⟩
theorem pe_listZip {e e2 : Expr} {ta : TA} {p p2 pos pos2 : Pos} (hc : X.calm = true) (hg : Gl X "list") (hm : X.mg "list" = none) (hgz : Gl X "zip") (hmz : X.mg "zip" = none) (ha : PA X [e, e2] ta)
    (hs : starEach [.Call (.Name "zip" p2) [e, e2] [] pos2] X.env = (false, eval (.Call (.Name "zip" p2) [e, e2] [] pos2) X.env) :: starEach [] X.env := by rfl)
    (hs2 : starEach [e, e2] X.env = (false, eval e X.env) :: starEach [e2] X.env := by rfl) (hpl : (backTo pos2 (starEach [e2] X.env)).any (·.1) = false := by rfl) :
    PE X (.Call (.Name "list" p) [.Call (.Name "zip" p2) [e, e2] [] pos2] [] pos) (tListZip X.K ta) := by
  refine ⟨fun pins s σ H Q I hq => ?_⟩
  refine wpAny_Call_Name_kw (ld_blt I hg hm (show bootBuiltins "list" = some (.type "list") by decide +kernel) ?_)
  refine PyProof.Rows.callWith_type1 ?_ hs rfl
  rw [hs]
  show wpAny _ _ (spliced ((false, eval (.Call (.Name "zip" p2) [e, e2] [] pos2) X.env) :: backTo pos (starEach [] X.env))) _ _ s
  refine Calls.spliced_cons ?_
  refine Call_ (ld_blt I hgz hmz PyProof.Rows.boot_zip (PyProof.Rows.callWith_type1 (thn (ha.run pos2 pins s σ H _ I hq) fun us s1 ⟨vs, H1, I1, r1, q1⟩ => ?_) hs2 hpl))
  obtain ⟨a, b, ks, os, ex, ea, eb, hlen, hz, q⟩ := q1
  subst ex
  cases r1 with
  | cons r rr =>
    cases rr with
    | cons r' rr =>
      cases rr
      cases r
      cases r'
      obtain ⟨its, rv, p1, _⟩ := I1.list ea
      obtain ⟨its2, rv2, p2, _⟩ := I1.list eb
      have l1 := rv.length
      have l2 := rv2.length
      rw [List.length_map] at l1 l2
      refine call_zip_2 p1.isList p2.isList fun h1 hzp hTI hTO n1 n2 hsz hk => ?_
      refine Calls.spliced_nil ?_
      refine lz_call (s := { s1 with heap := h1 }) (I1.ok.hd hc) (PySem.W.ktu_apart s1.heap.objs.size a b p1.lt p2.lt) hzp hTI ⟨_, _, hTO⟩ n1 n2 (p1.isList.at fun o e => hk _ o e) (p2.isList.at fun o e => hk _ o e) (by rw [List.size_toArray, sizeLine_eq]; omega) (by rw [List.size_toArray, List.size_toArray]; omega) fun h2 tk acc c as kp hS hl hG hacc => ?_
      dsimp only at kp hS hG ⊢
      have low : ∀ {b : Addr} {o : Obj}, s1.heap.get? b = some o → b < s1.heap.objs.size := fun e => Heap.lt_size e
      have hk2 : ∀ b o, s1.heap.get? b = some o → h2.get? b = some o := fun b o e => by
        have hb := low e
        exact kp b o (nadd hb 4) (nadd hb 3) (nadd hb 0) (nadd hb 1) (hk b o e)
      rw [List.size_toArray] at hl
      have hle : s1.heap.objs.size ≤ h1.objs.size := by rw [hsz]; exact Nat.le_add_right _ _
      have nd : as.Nodup := rise_nodup hG.rise
      have hSn : h1.objs.size ∉ as := fun z => Nat.not_succ_le_self _ (hG.up _ z)
      have hzl : (ks.zip os).length = as.length := by rw [List.length_zip]; omega
      have hwl : as.length = (wd (ks.zip os)).length := by rw [wd_len, hzl]
      have newS : H1 h1.objs.size = none := I1.hok.fresh hle
      have new : ∀ t ∈ as, H1 t = none := fun t ht => I1.hok.fresh (Nat.le_trans hle (Nat.le_of_succ_le (hG.up t ht)))
      have offs : ∀ b, b ∉ as → b ≠ h1.objs.size → LiI.putT (upd H1 h1.objs.size (.lst (as.map V.ref))) as (wd (ks.zip os)) b = H1 b := fun b h1 h2 => by rw [LiI.putT_off as _ _ h1, upd_ne h2]
      have eS : LiI.putT (upd H1 h1.objs.size (.lst (as.map V.ref))) as (wd (ks.zip os)) h1.objs.size = some (.lst (as.map V.ref)) := by rw [LiI.putT_off as _ _ hSn, upd_same]
      have atP := LiI.putT_at as (wd (ks.zip os)) (upd H1 h1.objs.size (.lst (as.map V.ref))) hwl nd
      have kp2 : ∀ b u, H1 b = some u → LiI.putT (upd H1 h1.objs.size (.lst (as.map V.ref))) as (wd (ks.zip os)) b = some u := fun b u e => by
        rw [offs b (fun z => by rw [new b z] at e; cases e) (fun z => by rw [z, newS] at e; cases e)]
        exact e
      have J : Inv X pins σ (LiI.putT (upd H1 h1.objs.size (.lst (as.map V.ref))) as (wd (ks.zip os))) { s1 with heap := h2, toks := tk } := laid_many I1 hk2 kp2 fun b u e q => by
        by_cases hb : b ∈ as
        · obtain ⟨j, pk, e1, e2, e3⟩ := LiI.paired_ix atP hb
          rw [e3] at q
          cases q
          obtain ⟨x, y, f1, f2, f3⟩ := hG.pairs j b e1
          obtain ⟨k1, g1, r1⟩ := vals_at rv (show its[j]? = some x by simpa using f1)
          obtain ⟨k2, g2, r2⟩ := vals_at rv2 (show its2[j]? = some y by simpa using f2)
          have e4 : (wd (ks.zip os))[j]? = some ((Sum.inr k1 : Key), V.str k2) := by
            unfold wd
            rw [List.getElem?_map, show (ks.zip os)[j]? = some (k1, k2) from List.getElem?_zip_eq_some.mpr ⟨g1, g2⟩]
            rfl
          rw [e4] at e2
          cases e2
          exact ⟨Nat.le_trans hle (Nat.le_of_succ_le (hG.up b hb)), by show 2 ≤ sizeLine; decide, [x, y], .cons r1 (.cons r2 .nil), ⟨_, f3, rfl, _, rfl⟩⟩
        · by_cases hb2 : b = h1.objs.size
          · subst hb2
            rw [eS] at q
            cases q
            refine ⟨hle, by rw [List.length_map, sizeLine_eq]; omega, acc.toList, c, by rw [hacc]; exact LiI.vals_refs as, ?_⟩
            rw [Array.toArray_toList]
            exact hS
          · rw [offs b hb hb2, e] at q
            cases q
      refine ⟨.ref _, _, J, rfl, q _ _ as kp2 newS eS ?_⟩
      unfold wd at atP
      have main : ∀ (as : List Addr) (ps : List (PySem.Str × PySem.Str)) (G : Hp), Paired (fun (t : Addr) (p : Key × V) => G t = some (.tup [kV p.1, p.2])) as (ps.map fun x => ((Sum.inr x.1 : Key), V.str x.2)) → Paired (fun (t : Addr) (q : PySem.Str × PySem.Str) => G t = some (.tup [.str q.1, .str q.2])) as ps := by
        intro as ps G
        induction ps generalizing as with
        | nil => intro h; cases h; exact .nil
        | cons p r ih => intro h; cases h with | cons h1 h2 => exact .cons h1 (ih _ h2)
      exact main as _ _ atP
end
end K8
/-! A placing's pairs: names, others, in any order. -/
namespace K8
open PySem PySem.Spec PyProof.Rows L2 K0 K1 M46 LamX

theorem kinds_rise {ks : List PySem.Str} (h : ∀ i k, ks[i]? = some k → Wn i 2 k) : ks.Pairwise fun a b => a.cps.toList ≤ b.cps.toList := by
  rw [List.pairwise_iff_getElem]
  intro i j hi hj hij
  obtain ⟨c, r, e1, a1, a2, _⟩ := h i ks[i] (List.getElem?_eq_getElem hi)
  obtain ⟨c', r', e2, b1, b2, _⟩ := h j ks[j] (List.getElem?_eq_getElem hj)
  rw [e1, e2]
  exact List.le_of_lt (List.Lex.rel (by omega))
theorem kinds_nm {ks : List PySem.Str} (h : ∀ i k, ks[i]? = some k → Wn i 2 k) : ∀ k ∈ ks, nm k = true ∧ k.length ≤ 3 := fun k hk => by
  obtain ⟨i, e⟩ := List.mem_iff_getElem?.mp hk
  exact wn_nm (h i k e) (by decide)
def unV : V → PySem.Str
  | .str x => x
  | _ => Str.empty
theorem un_map (xs : List PySem.Str) : (xs.map V.str).map unV = xs := by
  rw [List.map_map]
  exact (List.map_congr_left fun x _ => rfl).trans (List.map_id _)
theorem perm_strs {ys : List V} {xs : List PySem.Str} (h : ys.Perm (xs.map V.str)) : ∃ zs : List PySem.Str, ys = zs.map V.str ∧ zs.Perm xs := by
  refine ⟨ys.map unV, ?_, ?_⟩
  · rw [List.map_map]
    have : ∀ v ∈ ys, (V.str ∘ unV) v = v := fun v hv => by
      obtain ⟨x, _, rfl⟩ := List.mem_map.mp (h.mem_iff.mp hv)
      rfl
    rw [List.map_congr_left this, List.map_id']
  · have := h.map unV
    rw [un_map] at this
    exact this
theorem paired_perm {α β : Type} {F : α → β → Prop} {xs ys : List α} (h : ys.Perm xs) : ∀ {os : List β}, Paired F xs os → ∃ qs : List β, qs.Perm os ∧ Paired F ys qs := by
  induction h with
  | nil => intro os p; exact ⟨os, .refl _, p⟩
  | cons x _ ih =>
    intro os p
    cases p with
    | cons h t =>
      obtain ⟨qs, h1, h2⟩ := ih t
      exact ⟨_ :: qs, .cons _ h1, .cons h h2⟩
  | swap x y l =>
    intro os p
    cases p with
    | cons h t =>
      cases t with
      | cons h2 t => exact ⟨_, .swap _ _ _, .cons h2 (.cons h t)⟩
  | trans _ _ ih1 ih2 =>
    intro os p
    obtain ⟨q1, h1, p1⟩ := ih2 p
    obtain ⟨q2, h2, p2⟩ := ih1 p1
    exact ⟨q2, h2.trans h1, p2⟩
theorem merge_wd : ∀ (D W : List (PySem.Str × PySem.Str)), mergeK (wd W) (wd D) = wd (D.foldl (fun ws p => putS ws p.1 p.2) W)
  | [], _ => rfl
  | p :: r, W => by
    show mergeK (putK (wd W) (Sum.inr p.1 : Key) (.str p.2)) (wd r) = _
    rw [put_wd]
    exact merge_wd r _
theorem merge_self {D : List (PySem.Str × PySem.Str)} (h : (D.map (·.1)).Nodup) : mergeK [] (wd D) = wd D := by
  have := merge_wd D []
  rw [show D.foldl (fun ws p => putS ws p.1 p.2) [] = D from fill_self h] at this
  exact this
theorem Pr.but {p : Addr} {x y z : Int} {H H' : Hp} {v : V} {q : PySem.Str × PySem.Str} (D : Dice H p x y z) (h : Pr H v q) (b : But p H H') : Pr H' v q := by
  obtain ⟨a, rfl, h⟩ := h
  exact ⟨a, rfl, b _ _ (ne_of h D.at_ (by intro z; cases z)) h⟩
theorem prs_dict {K : PySem.W.Frag} {H : Hp} : ∀ {ys : List V} {D : List (PySem.Str × PySem.Str)}, Paired (Pr H) ys D → ∃ as : List Addr, ys = as.map V.ref ∧ Paired (fun (a : Addr) (kv : Key × V) => SqT K H a [L2.kV kv.1, kv.2]) as (wd D)
  | _, _, .nil => ⟨[], rfl, .nil⟩
  | _, _, .cons h t => by
    obtain ⟨a, rfl, h⟩ := h
    obtain ⟨as, e, p⟩ := prs_dict (K := K) t
    exact ⟨a :: as, by rw [e]; rfl, .cons (SqT.of h) p⟩
theorem prs_of {H : Hp} : ∀ {ts : List Addr} {ps : List (PySem.Str × PySem.Str)}, Paired (fun (t : Addr) (q : PySem.Str × PySem.Str) => H t = some (.tup [.str q.1, .str q.2])) ts ps → Paired (Pr H) (ts.map V.ref) ps
  | _, _, .nil => .nil
  | _, _, .cons h t => .cons ⟨_, rfl, h⟩ (prs_of t)
/-- the law's names and others, as a placing's pairs -/
structure NmOt (ks zs : List PySem.Str) : Prop where
  kinds : ∀ i k, ks[i]? = some k → Wn i 2 k
  n1 : 1 ≤ ks.length
  n5 : ks.length ≤ 5
  len : zs.length = ks.length
  zn : ∀ k ∈ zs, nm k = true ∧ k.length ≤ 3
  nd : zs.Nodup
section
variable {ks zs : List PySem.Str} (h : NmOt ks zs)
include h
theorem NmOt.fst : (ks.zip zs).map (·.1) = ks := List.map_fst_zip (Nat.le_of_eq h.len.symm)
theorem NmOt.snd : (ks.zip zs).map (·.2) = zs := List.map_snd_zip (Nat.le_of_eq h.len)
theorem NmOt.zl : (ks.zip zs).length = ks.length := by rw [List.length_zip, h.len, Nat.min_self]
theorem NmOt.l3 : ∀ q ∈ ks.zip zs, q.1.length ≤ 3 ∧ q.2.length ≤ 3 := fun q hq => by
  have h1 : q.1 ∈ ks := by rw [← h.fst]; exact List.mem_map.mpr ⟨q, hq, rfl⟩
  have h2 : q.2 ∈ zs := by rw [← h.snd]; exact List.mem_map.mpr ⟨q, hq, rfl⟩
  exact ⟨(kinds_nm h.kinds _ h1).2, (h.zn _ h2).2⟩
theorem NmOt.pl : Pl (ks.zip zs) := ⟨by rw [h.zl]; exact h.n1, by rw [h.zl]; exact h.n5, fun q hq => by
    have h1 : q.1 ∈ ks := by rw [← h.fst]; exact List.mem_map.mpr ⟨q, hq, rfl⟩
    have h2 : q.2 ∈ zs := by rw [← h.snd]; exact List.mem_map.mpr ⟨q, hq, rfl⟩
    exact ⟨(kinds_nm h.kinds _ h1).1, (h.zn _ h2).1⟩, by rw [h.fst]; exact kinds_nodup h.kinds, by rw [h.fst]; exact kinds_rise h.kinds, by rw [h.snd]; exact h.nd⟩
theorem NmOt.dp {D : List (PySem.Str × PySem.Str)} (p : D.Perm (ks.zip zs)) : Dp3 D := by
  have hl := p.length_eq
  rw [h.zl] at hl
  refine ⟨by rw [hl]; exact h.n1, by rw [hl]; exact h.n5, (p.map _).nodup_iff.mpr h.pl.keys, fun q hq => h.l3 q (p.mem_iff.mp hq), fun q hq e => ?_⟩
  have := (h.pl.nms q (p.mem_iff.mp hq)).1
  rw [e] at this
  exact absurd this (by decide +kernel)
theorem NmOt.vals {D : List (PySem.Str × PySem.Str)} (p : D.Perm (ks.zip zs)) : ∀ q ∈ wd (ks.zip zs), valV (wd D) q.1 = some q.2 ∧ flatB q.2 = true := fun q hq => by
  obtain ⟨r, hr, rfl⟩ := List.mem_map.mp hq
  have hm : r ∈ D := p.mem_iff.mpr hr
  refine ⟨?_, rfl⟩
  rw [val_mem (r := Str.empty) (List.mem_map.mpr ⟨r, hm, rfl⟩)]
  have := gw_of_mem (r := Str.empty) (h.dp p).keys (k := r.1) (v := r.2) hm
  rw [this]
end
end K8
/-! _law_placing_right. -/
namespace K8
open PySem PySem.Spec PyProof.Rows L2 K0 K1 M46 LamX

section
variable {P : Program} {w : World} {K : PySem.W.Frag} {mg : PySem.Str → Option Value} {base : Heap}
theorem ok_pl_right {f c P1 P2 CP CO gT fS fF fB fU fM fN fX : Addr} {fd fdT fdS fdF fdB fdU fdM fdN fdX : FuncData}
    (F : Fun K "_law_placing_right" "_law_placing_right" sPlRight f fd) (hc : fd.code = .ref c) (T : Bare mg) (Z : TwoX K CP CO) (TB : TabB base mg c P2) (h12 : P1 ≠ P2) (mP : mg "ParseError" = some (.ref CP)) (mO : mg "InvalidOperation" = some (.ref CO))
    (FS : Fun K "parse_placing" "parse_placing" sParPl fS fdS) (bS : Binds K fdS ["text"] []) (mS : mg "parse_placing" = some (.ref fS)) (GS : FnOk P w K mg base (L2.CX P w) 4 fS fdS ["text"] (spParPl CP))
    (FF : Fun K "format_placing" "format_placing" sFmtPl fF fdF) (bF : Binds K fdF ["placing"] []) (mF : mg "format_placing" = some (.ref fF)) (GF : FnOk P w K mg base (L2.CX P w) 3 fF fdF ["placing"] (spFmtPl K CO))
    (FB : Fun K "_law_bad_placing" "_law_bad_placing" sBadPl fB fdB) (bB : Binds K fdB ["_law_dice_here", "_law_placing"] []) (mB : mg "_law_bad_placing" = some (.ref fB)) (GB : FnOk P w K mg base CX0 3 fB fdB ["_law_dice_here", "_law_placing"] (spBadPl K))
    (FU : Fun K "_law_pull" "_law_pull" sPull fU fdU) (bU : Binds K fdU ["_law_dice_here", "_law_total"] []) (mU : mg "_law_pull" = some (.ref fU)) (GU : FnOk P w K mg base CX0 1 fU fdU ["_law_dice_here", "_law_total"] spPull)
    (FM : Fun K "_law_mixed" "_law_mixed" sMixed fM fdM) (bM : Binds K fdM ["_law_dice_here", "_law_items"] []) (mM : mg "_law_mixed" = some (.ref fM)) (GM : FnOk P w K mg base CX0 2 fM fdM ["_law_dice_here", "_law_items"] (spMixed K))
    (FN : Fun K "_law_names" "_law_names" sNames fN fdN) (bN : Binds K fdN ["_law_dice_here", "_law_total"] []) (mN : mg "_law_names" = some (.ref fN)) (GN : FnOk P w K mg base CX0 2 fN fdN ["_law_dice_here", "_law_total"] spNames)
    (FX : Fun K "_law_placing_text" "_law_placing_text" sPlText fX fdX) (bX : Binds K fdX ["_law_pairs"] []) (mX : mg "_law_placing_text" = some (.ref fX)) (GX : FnOk P w K mg base CX0 1 fX fdX ["_law_pairs"] spPlText)
    (FTold : Fun K "_law_told" "_law_told" sTold gT fdT) (bTold : Binds K fdT ["_law_call"] []) (mTold : mg "_law_told" = some (.ref gT)) : FnOk P w K mg base CX0 7 f fd ["_law_dice_here"] (spTurn P1 P2) := by
  refine fn_ofC F hc scPR (fun vs H Q E h => ?_) (fun A outer s H vs Q E hr h => ?_)
  · obtain ⟨p, x, y, z, rfl, _⟩ := h
    rfl
  · obtain ⟨p, x, y, z, rfl, D, hT, k⟩ := h
    have hu := hr.units
    have L := lam_pl (E0 := E) (outer := outer) (H0 := H) (base := base) hr T Z TB h12 mP mO FS bS mS GS FF bF mF GF FB bB mB GB FTold bTold mTold
    refine ⟨_, pss_cons (ps_set (i := 1) scPR.nd rfl (Or.inl rfl) (pe_call GN (hr.mono (by decide)) (by rfl) mN FN.kp bN .nil pass0 (pa_cons (pv 0) (pa_cons (pe_op op_add pe_int (pe_call GU (hr.mono (by decide)) (by rfl) mU FU.kp bU .nil pass0 (pa_cons (pv 0) (pa_cons pe_int pa_nil)))) pa_nil))))
      (pss_cons (ps_set (i := 2) scPR.nd rfl (Or.inl rfl) (pe_slice sl_list (pe_call GM (hr.mono (by decide)) (by rfl) mM FM.kp bM .nil pass0 (pa_cons (pv 0) (pa_cons (pe_call GN (hr.mono (by decide)) (by rfl) mN FN.kp bN .nil pass0 (pa_cons (pv 0) (pa_cons pe_int pa_nil))) pa_nil))) po_none (po_some (pe_callB call_len_seq (by rfl) T.len (by decide +kernel) (pa_cons (pv 1) pa_nil)))))
      (pss_cons (ps_set (i := 3) scPR.nd rfl (Or.inl rfl) (pe_listZip rfl (by rfl) T.list (by rfl) T.zip (pa_cons (pv 1) (pa_cons (pv 2) pa_nil))))
      (pss_cons (ps_asg (pe_tup (pa_cons (pe_callTy (call_dictP rfl) (by rfl) T.dict (by decide +kernel) (pa_cons (pe_call GM (hr.mono (by decide)) (by rfl) mM FM.kp bM .nil pass0 (pa_cons (pv 0) (pa_cons (pv 3) pa_nil))) pa_nil)) (pa_cons (pe_call GX (hr.mono (by decide)) (by rfl) mX FX.kp bX .nil pass0 (pa_cons (pv 3) pa_nil)) pa_nil))) (pg_tup rfl (pgs_cons (pg_name (i := 4) scPR.nd rfl (Or.inr rfl)) (pgs_cons (pg_name (i := 5) scPR.nd rfl (Or.inl rfl)) pgs_nil))))
      (pss_cons (ps_set (i := 6) scPR.nd rfl (Or.inl rfl) (pe_call (E := L2.E0) GS (hr.mono (by decide)) (by rfl) mS FS.kp bS .nil passL (pa_cons (pv 5) pa_nil)))
      (pss_cons (ps_if (PW.pt (pw_or (pt_cmpR op_ne (pe_call (E := L2.E0) GF (hr.mono (by decide)) (by rfl) mF FF.kp bF .nil passL (pa_cons (pv 4) pa_nil)) (pv 5) (nomark _)) (pw_or (pt_cmpR (op_ne_dictA (Nat.lt_of_le_of_lt (Nat.le_add_right _ 64) hu)) (pv 6) (pv 4) (nomark _)) (pw_or1 (pt_cmpR (op_neD hr.units) (pe_callTy (call_listD rfl) (by rfl) T.list (by decide +kernel) (pa_cons (pv 6) pa_nil)) (pv 1) (nomark _)))))) (pss_one (ps_ret pe_bl)) pss_nil) L))))), ?_⟩
    -- the names
    refine ⟨_, rfl, _, rfl, p, x, y, z, 5, rfl, D, by decide, by decide, fun r x1 z1 H1 r0 r1 D1 _ k1 => ?_⟩
    obtain ⟨n, rfl⟩ : ∃ n : Nat, r = (n : Int) := ⟨r.toNat, by omega⟩
    have en : (1 + (n : Int)) = ((1 + n : Nat) : Int) := by omega
    refine ⟨1, (n : Int), rfl, rfl, ?_⟩
    refine ⟨p, x1, y, z1, 1 + n, by show [V.ref p, V.int (1 + (n : Int))] = _; rw [en], D1, by omega, fun N ks x2 z2 H2 D2 k2 nN eN hl hK => ?_⟩
    have b2 : But p H H2 := But.trans k1 k2
    have hNp : N ≠ p := (ne_of_none D1.at_ nN).symm
    clear k1 k2 nN D1
    -- the others
    refine ⟨_, rfl, _, rfl, p, x2, y, z2, 8, rfl, D2, by decide, fun M ms x3 z3 H3 D3 k3 nM eM hl8 hK8 => ?_⟩
    refine ⟨p, M, x3, y, z3, ms.map V.str, rfl, D3, .inl (SqL.of eM), by rw [List.length_map, hl8]; decide, fun r ys x4 z4 H4 hperm nr hr4 D4 k4 => ?_⟩
    obtain ⟨zs, rfl, hz⟩ := perm_strs hperm
    have b4 : But p H2 H4 := But.trans k3 k4
    have eN4 := b4 N _ hNp eN
    have hz8 : zs.length = 8 := hz.length_eq.trans hl8
    refine ⟨_, rfl, N, ks.map V.str, rfl, .inl (SqL.of eN4), _, rfl, r, _, rfl, SqL.of hr4, fun O nO => ?_⟩
    have hcut : cutV (zs.map V.str) none (some (((ks.map V.str).length : Nat) : Int)) = (zs.take ks.length).map V.str := by
      rw [cut_take (by rw [List.length_map, List.length_map]; omega), List.length_map, List.map_take]
    rw [hcut]
    have hm : NmOt ks (zs.take ks.length) := ⟨hK.2, by omega, by omega, by rw [List.length_take]; omega, fun k hk => kinds_nm hK8.2 k (hz.mem_iff.mp (List.mem_of_mem_take hk)), (hz.nodup_iff.mpr (kinds_nodup hK8.2)).sublist (List.take_sublist _ _)⟩
    have eO : (upd H4 O (.lst ((zs.take ks.length).map V.str))) O = some (.lst ((zs.take ks.length).map V.str)) := upd_same
    have s5 : Same H4 (upd H4 O (.lst ((zs.take ks.length).map V.str))) := sn nO
    have hOp : O ≠ p := (ne_of_none D4.at_ nO).symm
    generalize upd H4 O (.lst ((zs.take ks.length).map V.str)) = H5 at eO s5 ⊢
    have D5 := D4.same s5
    have b5 : But p H H5 := (b2.trans b4).trans (But.of s5)
    have eN5 := s5 _ _ eN4
    generalize zs.take ks.length = os at hm eO
    clear hz hz8 hperm hr4 nr k4 k3 nM eM hl8 hK8 D2 D3 D4 b2 b4 eN eN4 s5 nO hcut
    -- the pairs
    refine ⟨_, rfl, _, rfl, N, O, ks, os, rfl, SqL.of eN5, SqL.of eO, hm.len.symm, by have := hm.n5; omega, fun H6 S ts s6 nS eS hts => ?_⟩
    have D6 := D5.same s6
    have hSp : S ≠ p := (ne_of_none D5.at_ nS).symm
    have hpr := prs_of hts
    have hzl := hm.zl
    have htl := paired_len hpr
    have b6 : But p H H6 := b5.trans (But.of s6)
    have eN6 := s6 _ _ eN5
    have eO6 := s6 _ _ eO
    have h5 := hm.n5
    have hpl := hm.pl
    have hl3 := hm.l3
    clear hts nS s6 b5 D5 eN5 eO
    -- the placing, its text
    refine ⟨_, rfl, _, rfl, p, S, x4, y, z4, ts.map V.ref, rfl, D6, .inl (SqL.of eS), by omega, fun r2 ys2 x7 z7 H7 hperm2 nr2 hr7 D7 k7 => ?_⟩
    obtain ⟨Dd, hD, hpd⟩ := paired_perm hperm2 (paired_map (fun _ _ q => Pr.but D6 q k7) hpr)
    obtain ⟨as, e2, hda⟩ := prs_dict (K := K) hpd
    subst e2
    refine ⟨r2, as, wd Dd, rfl, SqL.of hr7, hda, fun d nd => ?_⟩
    have hdp := hm.dp hD
    rw [merge_self hdp.keys]
    have s8 : Same H7 (upd H7 d (.dK (wd Dd))) := sn nd
    have ed : (upd H7 d (.dK (wd Dd))) d = some (.dK (wd Dd)) := upd_same
    generalize upd H7 d (.dK (wd Dd)) = H8 at s8 ed ⊢
    have b8 : But p H6 H8 := But.trans k7 (But.of s8)
    refine ⟨_, rfl, S, ts.map V.ref, ks.zip os, rfl, b8 S _ hSp eS, paired_map (fun _ _ q => Pr.but D6 q b8) hpr, by omega, hl3, fun H9 s9 => ?_⟩
    refine ⟨by rw [sizeLine_eq]; show 2 ≤ 16777216; decide, fun t nt => ⟨t, _, rfl, SqT.of upd_same, rfl, _, _, rfl, _, _, rfl, rfl, ?_⟩⟩
    have sT := s9.trans (sn (o := .tup [.ref d, .str (prTxt (ks.zip os))]) nt)
    generalize upd H9 t (.tup [.ref d, .str (prTxt (ks.zip os))]) = HT at sT ⊢
    have DT := (D7.same s8).same sT
    have bT : But p H6 HT := b8.trans (But.of sT)
    have edT := sT _ _ ed
    clear s9 nt hda hpd hpr k7 nr2 hr7 hperm2 s8 b8 ed nd eS
    -- read back
    have hlen := prTxt_len hl3 (by omega)
    refine ⟨_, rfl, prTxt (ks.zip os), rfl, by omega, ?_⟩
    rw [hpl.parse]
    intro q HR nq sR eq
    have hwl : (wd (ks.zip os)).length = (wd Dd).length := by rw [wd_len, wd_len, hD.length_eq]
    refine ⟨_, rfl, .ref d, rfl, .inr ⟨d, Dd, rfl, sR _ _ edT, hpl.b hD, fun r hr => by have := hdp.l3 r hr; omega, fun HF sF => ?_⟩⟩
    rw [hpl.txt hD]
    refine ⟨_, rfl, rfl, _, rfl, ite2 (fun z => absurd z (by simp)) fun _ => ?_⟩
    refine ⟨_, rfl, _, rfl, q, d, wd (ks.zip os), wd Dd, rfl, rfl, sF _ _ eq, sF _ _ (sR _ _ edT), hwl, hm.vals hD, _, rfl, ite2 (fun z => absurd z (by simp)) fun _ => ?_⟩
    have hkeys : ((wd (ks.zip os)).map fun kv => L2.kV kv.1) = ks.map V.str := by
      have := hm.fst
      unfold wd
      rw [List.map_map]
      conv => rhs; rw [← this, List.map_map]
      rfl
    have hsh : SeqAt.shaped (.list (ks.map PyData.str)) = true := by
      obtain ⟨h1, h2⟩ := lay_strs fun w hw => (nm_ok (kinds_nm hK.2 w hw).1).2
      show (PyData.canLayAll0 (ks.map .str) && decide (PyData.depthAll (ks.map .str) + 1 ≤ 64)) = true
      rw [h1, h2]
      rfl
    refine ⟨_, rfl, q, wd (ks.zip os), rfl, .inl (sF _ _ eq), fun L nL => ?_⟩
    rw [hkeys]
    have sL := (sR.trans sF).trans (sn (o := .lst (ks.map V.str)) nL)
    have bL : But p H6 (upd HF L (.lst (ks.map V.str))) := bT.trans (But.of sL)
    refine ⟨_, rfl, .list (ks.map PyData.str), .list (ks.map PyData.str), .lst (SqL.of upd_same) (dp_strs ks), .lst (SqL.of (bL N _ hNp eN6)) (dp_strs ks), hsh, hsh, _, rfl, ite2 (fun z => absurd z (by rw [SeqAt.eqv_refl _ (SeqAt.canLay_of_shaped hsh)] <;> simp)) fun _ => ?_⟩
    have eOL := bL O _ hOp eO6
    have edL := sL _ _ edT
    have DL := DT.same sL
    generalize upd HF L (.lst (ks.map V.str)) = HL at sL bL eOL edL DL ⊢
    obtain ⟨v, os', rfl⟩ : ∃ v os', os = v :: os' := by
      cases os with
      | nil => have h1 := hm.len; have h2 := hm.n1; simp at h1; omega
      | cons v os' => exact ⟨v, os', rfl⟩
    have bH : But p H HL := b6.trans bL
    exact ⟨_, _, _, _, _, p, d, O, x7, y, z7, ks.zip (v :: os'), Dd, v, os'.map V.str, rfl, ⟨DL, edL, eOL, hOp, hpl, hdp, by rw [hm.snd]; exact List.mem_cons_self .., hl3⟩, tabs_but D hT bH, fun x' z' H' d' b t => k x' z' H' d' (fun a o ha hn e => b a o ha hn (bH a o ha e)) t⟩
end
end K8
/-! The law. -/
namespace K8
open PySem PySem.Spec PyProof.Rows L2 K0 K1 M46 LamX

abbrev nLaw : List PySem.Str := ["_law_script", "_law_at", "_law_dice_here", "_law_turn", "_law_told_here"]
theorem scLaw : FnScope nLaw ["_law_script"] (defScope sLaw) := ⟨rfl, rfl, rfl, by decide +kernel, rfl, by decide +kernel, by decide +kernel⟩
def spLaw (K : PySem.W.Frag) (P1 P2 : Addr) : Sp := fun vs H Q _ => ∃ (a : Addr) (ns : List Int), vs = [.ref a] ∧ SqL K H a (ns.map V.int) ∧ ns.length ≤ 63 ∧ Tabs (Tb P1 P2) H ∧ ∀ H', Q (.bl true) H'
abbrev rowsE : List (List PySem.Str) := [["wish", "a", "order", "p", "q"], ["read", "a"]]
theorem rowsE_row : ∀ ws ∈ rowsE, Row ws := fun ws hw => by
  simp only [List.mem_cons, List.not_mem_nil, or_false] at hw
  rcases hw with rfl | rfl
  · exact .wish (by decide +kernel) (by decide +kernel) (.inl rfl)
  · exact .two (.inr (.inr rfl)) (by decide +kernel)
theorem txt_none : stTxt [] = ("" : PySem.Str) := by decide +kernel
theorem txt_two : stTxt rowsE = ("wish a order p q\nread a" : PySem.Str) := by decide +kernel
theorem pl_ac : Pl [(("x" : PySem.Str), ("a" : PySem.Str)), ("y", "c")] := ⟨by decide, by decide, by
    intro p hp
    simp only [List.mem_cons, List.not_mem_nil, or_false] at hp
    rcases hp with rfl | rfl <;> exact ⟨by decide +kernel, by decide +kernel⟩, by decide +kernel, by decide +kernel, by decide +kernel⟩
theorem pl_xy : Pl [(("x" : PySem.Str), ("y" : PySem.Str)), ("y", "x")] := ⟨by decide, by decide, by
    intro p hp
    simp only [List.mem_cons, List.not_mem_nil, or_false] at hp
    rcases hp with rfl | rfl <;> exact ⟨by decide +kernel, by decide +kernel⟩, by decide +kernel, by decide +kernel, by decide +kernel⟩
theorem txt_ac : prTxt [(("x" : PySem.Str), ("a" : PySem.Str)), ("y", "c")] = "x = a, y = c" := by decide +kernel
theorem txt_xy : prTxt [(("x" : PySem.Str), ("y" : PySem.Str)), ("y", "x")] = "x = y, y = x" := by decide +kernel
theorem parse_xy : parsePl "x = y, y = x" = some [(("x" : PySem.Str), ("y" : PySem.Str)), ("y", "x")] := by
  have := pl_xy.parse
  rw [txt_xy] at this
  exact this
abbrev tolD : PyData := .list [.str "", .tuple [], .tuple [tps ["wish", "a", "order", "p", "q"], tps ["read", "a"]]]
theorem tolD_sh : SeqAt.shaped tolD = true := by decide +kernel
section
variable {P : Program} {w : World} {K : PySem.W.Frag} {mg : PySem.Str → Option Value} {base : Heap}
theorem ok_law {f fD fR fL fS fF fS2 fF2 P1 P2 CP CO : Addr} {fd fdD fdR fdL fdS fdF fdS2 fdF2 : FuncData} (F : Fun K "law" "law" sLaw f fd) (T : Bare mg)
    (FD : Fun K "_law_dice" "_law_dice" sDice fD fdD) (bD : Binds K fdD ["_law_script", "_law_at"] []) (mD : mg "_law_dice" = some (.ref fD))
    (FR : Fun K "_law_steps_right" "_law_steps_right" sStRight fR fdR) (bR : Binds K fdR ["_law_dice_here"] []) (mR : mg "_law_steps_right" = some (.ref fR)) (GR : FnOk P w K mg base CX0 7 fR fdR ["_law_dice_here"] (spTurn P1 P2))
    (FL : Fun K "_law_placing_right" "_law_placing_right" sPlRight fL fdL) (bL : Binds K fdL ["_law_dice_here"] []) (mL : mg "_law_placing_right" = some (.ref fL)) (GL : FnOk P w K mg base CX0 7 fL fdL ["_law_dice_here"] (spTurn P1 P2))
    (FS : Fun K "parse_steps" "parse_steps" sParSt fS fdS) (bS : Binds K fdS ["text"] []) (mS : mg "parse_steps" = some (.ref fS)) (GS : FnOk P w K mg base (L2.CX P w) 4 fS fdS ["text"] (spParSt K CP))
    (FF : Fun K "format_steps" "format_steps" sFmtSt fF fdF) (bF : Binds K fdF ["steps"] []) (mF : mg "format_steps" = some (.ref fF)) (GF : FnOk P w K mg base (L2.CX P w) 4 fF fdF ["steps"] (spFmtSt K CO))
    (FS2 : Fun K "parse_placing" "parse_placing" sParPl fS2 fdS2) (bS2 : Binds K fdS2 ["text"] []) (mS2 : mg "parse_placing" = some (.ref fS2)) (GS2 : FnOk P w K mg base (L2.CX P w) 4 fS2 fdS2 ["text"] (spParPl CP))
    (FF2 : Fun K "format_placing" "format_placing" sFmtPl fF2 fdF2) (bF2 : Binds K fdF2 ["placing"] []) (mF2 : mg "format_placing" = some (.ref fF2)) (GF2 : FnOk P w K mg base (L2.CX P w) 3 fF2 fdF2 ["placing"] (spFmtPl K CO)) : FnOk P w K mg base CX0 8 f fd ["_law_script"] (spLaw K P1 P2) := by
  have GD := ok_dice (P := P) (w := w) (base := base) FD T
  refine F.ok scLaw (fun vs H Q E h => ?_) (fun cdv A outer s H vs Q E hr h => ?_)
  · obtain ⟨a, ns, rfl, _⟩ := h
    rfl
  · obtain ⟨a, ns, rfl, hL, hlen, hT, k⟩ := h
    refine ⟨_, (pss_cons (ps_for PassesOwn.never rfl (pi_range1 (by rfl) T.rng (pa_cons (pe_callB (call_max2 rfl) (by rfl) T.max (by decide +kernel) (pa_cons pe_int (pa_cons (pe_callB (call_min2 rfl) (by rfl) T.min (by decide +kernel) (pa_cons pe_int (pa_cons (pe_callB call_len_seq (by rfl) T.len PySem.boot_len (pa_cons (pv 0) pa_nil)) pa_nil))) pa_nil))) pa_nil)) (pg_name (i := 1) scLaw.nd rfl (Or.inl rfl)) (pss_cons (ps_set (i := 2) scLaw.nd rfl (Or.inl rfl) (pe_call GD (hr.mono (by decide)) (by rfl) mD FD.kp bD .nil pass0 (pa_cons (pv 0) (pa_cons (pv 1) pa_nil))))
      (pss_one (ps_for PassesOwn.never rfl (pi_range1 (by rfl) T.rng (pa_cons pe_int pa_nil)) (pg_name (i := 3) scLaw.nd rfl (Or.inl rfl)) (pss_one (ps_if (PW.pt (pw_or (pt_not (pt_val (pe_call GR hr (by rfl) mR FR.kp bR .nil pass0 (pa_cons (pv 2) pa_nil)))) (pw_or1 (pt_not (pt_val (pe_call GL hr (by rfl) mL FL.kp bL .nil pass0 (pa_cons (pv 2) pa_nil))))))) (pss_one (ps_ret pe_bl)) pss_nil))))))
      (pss_cons (ps_set (i := 4) scLaw.nd rfl (Or.inl rfl) (pe_lst (pa_cons (pe_call (E := L2.E0) GF (hr.mono (by decide)) (by rfl) mF FF.kp bF .nil passL (pa_cons (pe_tup pa_nil) pa_nil)) (pa_cons (pe_call (E := L2.E0) GS (hr.mono (by decide)) (by rfl) mS FS.kp bS .nil passL (pa_cons pe_str pa_nil)) (pa_cons (pe_call (E := L2.E0) GS (hr.mono (by decide)) (by rfl) mS FS.kp bS .nil passL (pa_cons pe_str pa_nil)) pa_nil)))))
      (pss_cons (ps_if (pt_cmpR (op_neD hr.units) (pv 4) (pe_lst (pa_cons pe_str (pa_cons (pe_tup pa_nil) (pa_cons (pe_tup (pa_cons (pe_tup (pa_cons pe_str (pa_cons pe_str (pa_cons pe_str (pa_cons pe_str (pa_cons pe_str pa_nil)))))) (pa_cons (pe_tup (pa_cons pe_str (pa_cons pe_str pa_nil))) pa_nil))) pa_nil)))) (nomark _)) (pss_one (ps_ret pe_bl)) pss_nil)
      (pss_one (ps_ret (pe_and (pe_cmpR op_eq (pe_call (E := L2.E0) GF2 (hr.mono (by decide)) (by rfl) mF2 FF2.kp bF2 .nil passL (pa_cons (pe_disp (pps_cons pe_str pe_str (pps_cons pe_str pe_str pps_nil)) rfl rfl (by simp) (by show 2 ≤ 15; omega)) pa_nil)) pe_str (nomark _)) (pe_one (pe_cmpR (op_eqD hr.units) (pe_callTy (call_listD rfl) (by rfl) T.list (by decide +kernel) (pa_cons (pe_call (E := L2.E0) GS2 (hr.mono (by decide)) (by rfl) mS2 FS2.kp bS2 .nil passL (pa_cons pe_str pa_nil)) pa_nil)) (pe_lst (pa_cons pe_str (pa_cons pe_str pa_nil))) (nomark _))))))))), ?_⟩
    refine ⟨_, rfl, a, _, rfl, .inl hL, _, _, rfl, _, _, rfl, _, rfl, ?_, ?_, for_range (fun i σ H' => ∃ v1 v2 v3 v4 : Option V, σ = [some (.ref a), v1, v2, v3, v4] ∧ ExtN H H' ∧ Tabs (Tb P1 P2) H') ⟨none, none, none, none, rfl, ExtN.refl _, hT⟩ ?_ ?_⟩
    · split <;> split <;> omega
    · rw [List.length_map]
      split <;> split <;> omega
    · rintro i σ H0 hi ⟨v1, v2, v3, v4, rfl, x0, T0⟩
      refine ⟨_, rfl, _, rfl, a, ns, _, rfl, sqL_ext hL x0, by omega, by omega, fun p x y H1 s1 hp D => ?_⟩
      refine ⟨3, rfl, by decide, by decide, for_range (fun j σ H2 => ∃ (v3 v4 : Option V) (x z : Int), σ = [some (.ref a), some (.int (0 + (i : Int))), some (.ref p), v3, v4] ∧ Dice H2 p x y z ∧ Tabs (Tb P1 P2) H2 ∧ ExtN H H2) ⟨v3, v4, x, 0, rfl, D, T0.ext s1, x0.trans (ext_of s1)⟩ ?_ ?_⟩
      · rintro j σ H2 hj ⟨u3, u4, x2, z2, rfl, D2, T2, x2'⟩
        refine ⟨_, rfl, p, x2, y, z2, rfl, D2, T2, fun x3 z3 H3 D3 b3 T3 => ⟨true, rfl, ?_⟩⟩
        refine ⟨_, rfl, p, x3, y, z3, rfl, D3, T3, fun x4 z4 H4 D4 b4 T4 => ⟨true, rfl, ?_⟩⟩
        refine ⟨_, _, x4, z4, rfl, D4, T4, fun b o eb m => ?_⟩
        have hb : b ≠ p := ne_of_none (x0 b o eb m) hp
        exact b4 b o hb m (b3 b o hb m (x2' b o eb m))
      · rintro σ H2 ⟨u3, u4, x2, z2, rfl, D2, T2, x2'⟩
        exact ⟨_, _, _, _, rfl, x2', T2⟩
    · rintro σ H' ⟨v1, v2, v3, v4, rfl, x0, T0⟩
      -- three answers
      refine ⟨by rw [sizeLine_eq]; show 0 ≤ 16777216; decide, fun t1 nt1 => ?_⟩
      have et1 := upd_same (H := H') (a := t1) (o := .tup [])
      refine ⟨.ref t1, some [], rfl, .good (.tup (SqT.of et1) (.base (.tup et1))) .nil (rows_small (fun _ h => nomatch h) (by decide)) rfl, fun H1 s1 => ?_⟩
      rw [txt_none]
      refine ⟨"", [], rfl, by have := rows_stt (rows := []) (fun _ h => nomatch h) (by decide); rw [txt_none] at this; exact this, ?_⟩
      intro q1 ps1 H2 s2 eq1 hps1
      refine ⟨"wish a order p q\nread a", rowsE, rfl, by have := rows_stt (rows := rowsE) rowsE_row (by decide); rw [txt_two] at this; exact this, ?_⟩
      rw [rows_ok rowsE_row]
      intro q2 ps2 H3 s3 eq2 hps2
      cases hps1
      refine ⟨by rw [sizeLine_eq]; show 3 ≤ 16777216; decide, fun l nl => ?_⟩
      have el := upd_same (H := H3) (a := l) (o := .lst [.str "", .ref q1, .ref q2])
      have sl := sn (o := .lst [.str "", .ref q1, .ref q2]) nl
      have dq1 := sl _ _ (s3 _ _ eq1)
      have dq2 := sl _ _ eq2
      have dps2 := ws_dp (K := K) (paired_map (fun _ _ q => q.same sl) hps2)
      generalize upd H3 l (.lst [.str "", .ref q1, .ref q2]) = H4 at el dq1 dq2 dps2 ⊢
      refine ⟨_, rfl, by rw [sizeLine_eq]; show 0 ≤ 16777216; decide, fun a1 na1 => ?_⟩
      refine ⟨by rw [sizeLine_eq]; show 5 ≤ 16777216; decide, fun a2 na2 => ⟨by rw [sizeLine_eq]; show 2 ≤ 16777216; decide, fun a3 na3 => ⟨by rw [sizeLine_eq]; show 2 ≤ 16777216; decide, fun a4 na4 => ⟨by rw [sizeLine_eq]; show 3 ≤ 16777216; decide, fun l2 nl2 => ?_⟩⟩⟩⟩
      have z1 := sn (o := .tup []) na1
      have z2 := sn (o := .tup ((["wish", "a", "order", "p", "q"] : List PySem.Str).map V.str)) na2
      have z3 := sn (o := .tup ((["read", "a"] : List PySem.Str).map V.str)) na3
      have z4 := sn (o := .tup [.ref a2, .ref a3]) na4
      have z5 := sn (o := .lst [.str "", .ref a1, .ref a4]) nl2
      have w1 := ((z2.trans z3).trans z4).trans z5
      have w2 := (z3.trans z4).trans z5
      have dR : Dp K _ (.ref l2) tolD := .lst (SqL.of upd_same) (.cons (.str _) (.cons (.tup (SqT.of (w1 _ _ upd_same)) .nil) (.cons (.tup (SqT.of (z5 _ _ upd_same)) (.cons (dp_tps (ws := ["wish", "a", "order", "p", "q"]) (SqT.of (w2 _ _ upd_same))) (.cons (dp_tps (ws := ["read", "a"]) (SqT.of ((z4.trans z5) _ _ upd_same))) .nil))) .nil)))
      have w0 := z1.trans w1
      have dL := dp_same w0 (K := K) (v := .ref l) (d := tolD) (.lst (SqL.of el) (.cons (.str _) (.cons (.tup (SqT.of dq1) .nil) (.cons (.tup (SqT.of dq2) dps2) .nil))))
      refine ⟨tolD, tolD, dL, dR, tolD_sh, tolD_sh, _, rfl, ite2 (fun z => absurd z (by rw [SeqAt.eqv_refl _ (SeqAt.canLay_of_shaped tolD_sh)] <;> simp)) fun _ => ?_⟩
      -- a placing's text, and back
      refine fun d nd => ⟨upd_same, wd [(("y" : PySem.Str), ("c" : PySem.Str)), ("x", "a")], rfl, by show 2 ≤ 15; omega, ?_⟩
      have hperm : [(("y" : PySem.Str), ("c" : PySem.Str)), ("x", "a")].Perm [(("x" : PySem.Str), ("a" : PySem.Str)), ("y", "c")] := List.Perm.swap ..
      have hmg : mergeK [] (wd [(("y" : PySem.Str), ("c" : PySem.Str)), ("x", "a")]) = wd [(("y" : PySem.Str), ("c" : PySem.Str)), ("x", "a")] := merge_self (by decide +kernel)
      rw [hmg]
      refine ⟨_, rfl, .inr ⟨d, [(("y" : PySem.Str), ("c" : PySem.Str)), ("x", "a")], rfl, upd_same, pl_ac.b hperm, fun q hq => ?_, fun H5 s5 => ?_⟩⟩
      · simp only [List.mem_cons, List.not_mem_nil, or_false] at hq
        rcases hq with rfl | rfl <;> exact ⟨by decide +kernel, by decide +kernel⟩
      rw [pl_ac.txt hperm, txt_ac]
      refine ⟨rfl, true, by simp, ?_⟩
      rw [if_pos rfl]
      refine ⟨"x = y, y = x", rfl, by decide +kernel, ?_⟩
      rw [parse_xy]
      intro q H6 nq s6 eq
      refine ⟨q, wd [(("x" : PySem.Str), ("y" : PySem.Str)), ("y", "x")], rfl, .inl eq, fun L nL => ⟨by rw [sizeLine_eq]; show 2 ≤ 16777216; decide, fun l3 nl3 => ?_⟩⟩
      have sh : SeqAt.shaped (.list [.str "x", .str "y"]) = true := by decide +kernel
      have eL := sn (o := .lst [.str "x", .str "y"]) nl3 _ _ (upd_same (H := H6) (a := L) (o := .lst ((wd [(("x" : PySem.Str), ("y" : PySem.Str)), ("y", "x")]).map fun kv => L2.kV kv.1)))
      refine ⟨.list [.str "x", .str "y"], .list [.str "x", .str "y"], .lst (SqL.of eL) (.cons (.str _) (.cons (.str _) .nil)), .lst (SqL.of upd_same) (.cons (.str _) (.cons (.str _) .nil)), sh, sh, ?_⟩
      rw [SeqAt.eqv_refl _ (SeqAt.canLay_of_shaped sh)]
      exact k _
end
end K8
/-! The end of a law with two tables of code objects. -/
namespace K8
open PySem PySem.Spec PyProof.Rows L2 K0 K1 M46 LamX

theorem not_there {K : PySem.W.Frag} {h : Heap} {P0 : Addr} (X : K.In h) (n : PySem.W.noTabs K = true) (e : h.get? P0 = some { cls := .none, data := .fields #[] }) : K.lookup P0 = none := by
  cases q : K.lookup P0 with
  | none => rfl
  | some o =>
    have z := X _ _ q
    rw [e] at z
    cases z
    have z2 := List.all_eq_true.mp n (P0, _) (PySem.W.mem_of_lookupK q)
    exact absurd (show false = true from z2) Bool.false_ne_true
theorem walk_T2 {l : PySem.W.OpenLaw} {n k : Nat} {q : Program} {loose : List PySem.Str} {XP : (PySem.Str → Option Value) → Heap → Prop} {YP : World → Heap → Prop} {d : DefRec} {K : Params → PySem.W.Frag} {sp : World → Addr → Addr → Sp} {x y1 y2 : PySem.Str} (hn : l.most = some n) (hn2 : n ≤ sizeLine) (hdf : d.params.defaults = []) (hr : Room k callerA)
    (r1 : ((recsOf q).find? fun e => e.name == y1).isSome = true) (r2 : ((recsOf q).find? fun e => e.name == y2).isSome = true) (hY : ∀ (w : World) (h : Heap), YP w h → (K w.params).In h)
    (F : ∀ (w : World) (mg : PySem.Str → Option Value) (fa : Addr) (h : Heap), (K w.params).In h → h.Ns mainGlobals mg → mg d.name = some (.ref fa) →
      ∃ (c1 P1 c2 P2 : Addr) (fd : FuncData), PySem.W.tabIn (K w.params) y1 = some (c1, P1) ∧ PySem.W.tabIn (K w.params) y2 = some (c2, P2) ∧ PySem.W.noTabs (K w.params) = true ∧ (∀ (s : Shared) (u : Value), BindsTo s fd ⟨[u], []⟩ [(x, u)]) ∧
        ∀ base : Heap, (K w.params).In base → base.Ns mainGlobals mg → TabB base mg c1 P1 → TabB base mg c2 P2 → FnOk l.prog w (K w.params) mg base CX0 k fa fd [x] (sp w P1 P2))
    (hsp : ∀ (w : World) (P1 P2 : Addr) (H : Hp) (a : Addr) (ns : List Int), ns.length ≤ n → H P1 = some (.tbl #[]) → H P2 = some (.tbl #[]) → SqL (K w.params) H a (ns.map V.int) → sp w P1 P2 [.ref a] H (fun v _ => v = .bl true) fun _ _ _ => False) : PySem.W.WalkO q loose XP YP l.row.toRowW d [] (fun f vs => PySem.call f vs) := by
  refine Att.attach_call hn hdf fun w s0 s1 mg mb fa o pm cd doc a vs ns G Y ho hd hcd hmg hobj hints hlen hg => ?_
  have KX := hY w _ Y
  obtain ⟨c1, P1, c2, P2, fd, t1, t2, nt, hb, hF⟩ := F w mg fa _ KX G.T.g hmg
  obtain ⟨d1, e1⟩ := Option.isSome_iff_exists.mp r1
  obtain ⟨d2, e2⟩ := Option.isSome_iff_exists.mp r2
  obtain ⟨C1, T1⟩ := PySem.W.tab_of G.T KX e1 t1
  obtain ⟨C2, T2⟩ := PySem.W.tab_of G.T KX e2 t2
  have two : ∀ {A : Addr × Addr → Prop}, A (c1, P1) → A (c2, P2) → ∀ p ∈ [(c1, P1), (c2, P2)], A p := fun h1 h2 p hp => by
    rcases List.mem_cons.mp hp with rfl | hp
    · exact h1
    · rw [List.mem_singleton.mp hp]; exact h2
  exact law_callTs (cs := [(c1, P1), (c2, P2)]) KX G.T.g G.T.b G.T.builtins G.T.nolimit hg (two T1 T2) (two (not_there KX nt T1) (not_there KX nt T2)) (two C1 C2) G.T.bmain hobj hints (Nat.le_trans hlen hn2) hr
    (fun base X Nb tb => hF base X Nb (tb _ (.head _)) (tb _ (.tail _ (.head _)))) hb (fun H hH hS => hsp w P1 P2 H a ns hlen (hH _ (.head _)) (hH _ (.tail _ (.head _))) hS) fun H e s' h => h.elim
end K8
/-! What the top has written, and the law. -/
namespace K8
open PySem PySem.Spec PyProof.Rows L2 K0 K1 M46 LamX

theorem all_mk {l : PySem.W.OpenLaw} {w : World} {K : PySem.W.Frag} {h : Heap} {mg : PySem.Str → Option Value} {fa CP CO c1 P1 c2 P2 fA fB fC fD fE fF fG fH fI fJ fK fL fM fN fO fP fQ fR fS fT fU fV fW fX fY fZ fl : Addr} (X : K.In h) (G : h.Ns mainGlobals mg) (hfa : mg "law" = some (.ref fa))
    {odA odB odC odD odE odF odG odH odI odJ odK odL odM odN odO odP odQ odR odS odT odU odV odW odX odY odZ odl anA anB anC anD anE anF anG anH anI anJ anK anL anM anN anO anP anQ anR anS anT anU anV anW anX anY anZ anl : Option Addr} {slA slB slC slD slE slF slG slH slI slJ slK slL slM slN slO slP slQ slR slS slT slU slV slW slX slY slZ sll : Array (Option Value)} {tk0 tk1 : Tok}
    {ocA ocB ocC ocD ocE ocF ocG ocH ocI ocJ ocK ocL ocM ocN ocO ocP ocQ ocR ocS ocT ocU ocV ocW ocX ocY ocZ ocl kVA kVB kVC kVD kVE kVF kVG kVH kVI kVJ kVK kVL kVM kVN kVO kVP kVQ kVR kVS kVT kVU kVV kVW kVX kVY kVZ kVl dcA dcB dcC dcD dcE dcF dcG dcH dcI dcJ dcK dcL dcM dcN dcO dcP dcQ dcR dcS dcT dcU dcV dcW dcX dcY dcZ dcl pmA pmB pmC pmD pmE pmF pmG pmH pmI pmJ pmK pmL pmM pmN pmO pmP pmQ pmR pmS pmT pmU pmV pmW pmX pmY pmZ pml ctA ctB ctC ctD ctE ctF ctG ctH ctI ctJ ctK ctL ctM ctN ctO ctP ctQ ctR ctS ctT ctU ctV ctW ctX ctY ctZ ctl cdA cdB cdC cdD cdE cdF cdG cdH cdI cdJ cdK cdL cdM cdN cdO cdP cdQ cdR cdS cdT cdU cdV cdX cdY cdl : Value}
    (g_P : PySem.W.nsIn K mainGlobals "ParseError" = some (some (.ref CP)))
    (q_P : PySem.W.excInitIn K CP [.type "ValueError", .type "Exception", .type "BaseException", .type "object"] "ValueError.__new__" = true)
    (i_P : PySem.W.findIn K (.ref CP) "__init__" = some (some (.builtin "ValueError.__init__")))
    (b_P : PySem.W.subIn K (.ref CP) (.type "BaseException") = some true)
    (t_P : PySem.W.typeIn K (.ref CP) = some (.type "type"))
    (k_P : PySem.W.keepIn K (.ref CP) = true)
    (g_O : PySem.W.nsIn K mainGlobals "InvalidOperation" = some (some (.ref CO)))
    (q_O : PySem.W.excInitIn K CO [.type "ValueError", .type "Exception", .type "BaseException", .type "object"] "ValueError.__new__" = true)
    (i_O : PySem.W.findIn K (.ref CO) "__init__" = some (some (.builtin "ValueError.__init__")))
    (b_O : PySem.W.subIn K (.ref CO) (.type "BaseException") = some true)
    (t_O : PySem.W.typeIn K (.ref CO) = some (.type "type"))
    (k_O : PySem.W.keepIn K (.ref CO) = true)
    (mpp : PySem.W.exmOne K (.ref CP) (.ref CP) = some true)
    (mop : PySem.W.exmOne K (.ref CO) (.ref CP) = some false)
    (moo : PySem.W.exmOne K (.ref CO) (.ref CO) = some true)
    (cln : PySem.W.nsIn K mainGlobals "LONGEST_NAME" = some (some (.int 8 tk0)))
    (cmp : PySem.W.nsIn K mainGlobals "MOST_PLACED" = some (some (.int 5 tk1)))
    (z_int : PySem.W.nsIn K mainGlobals "int" = some none)
    (z_abs : PySem.W.nsIn K mainGlobals "abs" = some none)
    (z_max : PySem.W.nsIn K mainGlobals "max" = some none)
    (z_min : PySem.W.nsIn K mainGlobals "min" = some none)
    (z_len : PySem.W.nsIn K mainGlobals "len" = some none)
    (z_range : PySem.W.nsIn K mainGlobals "range" = some none)
    (z_list : PySem.W.nsIn K mainGlobals "list" = some none)
    (z_isinstance : PySem.W.nsIn K mainGlobals "isinstance" = some none)
    (z_str : PySem.W.nsIn K mainGlobals "str" = some none)
    (z_tuple : PySem.W.nsIn K mainGlobals "tuple" = some none)
    (z_dict : PySem.W.nsIn K mainGlobals "dict" = some none)
    (z_all : PySem.W.nsIn K mainGlobals "all" = some none)
    (z_set : PySem.W.nsIn K mainGlobals "set" = some none)
    (z_sorted : PySem.W.nsIn K mainGlobals "sorted" = some none)
    (z_zip : PySem.W.nsIn K mainGlobals "zip" = some none)
    (gA : PySem.W.nsIn K mainGlobals "are_different" = some (some (.ref fA)))
    (lA : K.lookup fA = some ⟨ocA, odA, .func (PySem.W.fnOf "are_different" "are_different" (defArgs sDiff) (defBody sDiff) (defScope sDiff) .none kVA dcA pmA anA cdA ctA), slA⟩)
    (cA : PySem.W.codeIn K cdA "are_different" = true)
    (kA : PySem.W.keepIn K (.ref fA) = true)
    (gB : PySem.W.nsIn K mainGlobals "is_name" = some (some (.ref fB)))
    (lB : K.lookup fB = some ⟨ocB, odB, .func (PySem.W.fnOf "is_name" "is_name" (defArgs sIsName) (defBody sIsName) (defScope sIsName) .none kVB dcB pmB anB cdB ctB), slB⟩)
    (cB : PySem.W.codeIn K cdB "is_name" = true)
    (kB : PySem.W.keepIn K (.ref fB) = true)
    (gC : PySem.W.nsIn K mainGlobals "are_names" = some (some (.ref fC)))
    (lC : K.lookup fC = some ⟨ocC, odC, .func (PySem.W.fnOf "are_names" "are_names" (defArgs sAre) (defBody sAre) (defScope sAre) .none kVC dcC pmC anC cdC ctC), slC⟩)
    (cC : PySem.W.codeIn K cdC "are_names" = true)
    (kC : PySem.W.keepIn K (.ref fC) = true)
    (gD : PySem.W.nsIn K mainGlobals "_is_placing" = some (some (.ref fD)))
    (lD : K.lookup fD = some ⟨ocD, odD, .func (PySem.W.fnOf "_is_placing" "_is_placing" (defArgs sIsPl) (defBody sIsPl) (defScope sIsPl) .none kVD dcD pmD anD cdD ctD), slD⟩)
    (cD : PySem.W.codeIn K cdD "_is_placing" = true)
    (kD : PySem.W.keepIn K (.ref fD) = true)
    (gE : PySem.W.nsIn K mainGlobals "format_placing" = some (some (.ref fE)))
    (lE : K.lookup fE = some ⟨ocE, odE, .func (PySem.W.fnOf "format_placing" "format_placing" (defArgs sFmtPl) (defBody sFmtPl) (defScope sFmtPl) .none kVE dcE pmE anE cdE ctE), slE⟩)
    (cE : PySem.W.codeIn K cdE "format_placing" = true)
    (kE : PySem.W.keepIn K (.ref fE) = true)
    (gF : PySem.W.nsIn K mainGlobals "_is_step" = some (some (.ref fF)))
    (lF : K.lookup fF = some ⟨ocF, odF, .func (PySem.W.fnOf "_is_step" "_is_step" (defArgs sIsStep) (defBody sIsStep) (defScope sIsStep) .none kVF dcF pmF anF cdF ctF), slF⟩)
    (cF : PySem.W.codeIn K cdF "_is_step" = true)
    (kF : PySem.W.keepIn K (.ref fF) = true)
    (gG : PySem.W.nsIn K mainGlobals "format_steps" = some (some (.ref fG)))
    (lG : K.lookup fG = some ⟨ocG, odG, .func (PySem.W.fnOf "format_steps" "format_steps" (defArgs sFmtSt) (defBody sFmtSt) (defScope sFmtSt) .none kVG dcG pmG anG cdG ctG), slG⟩)
    (cG : PySem.W.codeIn K cdG "format_steps" = true)
    (kG : PySem.W.keepIn K (.ref fG) = true)
    (gH : PySem.W.nsIn K mainGlobals "_parts" = some (some (.ref fH)))
    (lH : K.lookup fH = some ⟨ocH, odH, .func (PySem.W.fnOf "_parts" "_parts" (defArgs sParts) (defBody sParts) (defScope sParts) .none kVH dcH pmH anH cdH ctH), slH⟩)
    (cH : PySem.W.codeIn K cdH "_parts" = true)
    (kH : PySem.W.keepIn K (.ref fH) = true)
    (gI : PySem.W.nsIn K mainGlobals "_check_text" = some (some (.ref fI)))
    (lI : K.lookup fI = some ⟨ocI, odI, .func (PySem.W.fnOf "_check_text" "_check_text" (defArgs sChkT) (defBody sChkT) (defScope sChkT) .none kVI dcI pmI anI cdI ctI), slI⟩)
    (cI : PySem.W.codeIn K cdI "_check_text" = true)
    (kI : PySem.W.keepIn K (.ref fI) = true)
    (gJ : PySem.W.nsIn K mainGlobals "_check_same" = some (some (.ref fJ)))
    (lJ : K.lookup fJ = some ⟨ocJ, odJ, .func (PySem.W.fnOf "_check_same" "_check_same" (defArgs sChkS) (defBody sChkS) (defScope sChkS) .none kVJ dcJ pmJ anJ cdJ ctJ), slJ⟩)
    (cJ : PySem.W.codeIn K cdJ "_check_same" = true)
    (kJ : PySem.W.keepIn K (.ref fJ) = true)
    (gK : PySem.W.nsIn K mainGlobals "_pairs_in" = some (some (.ref fK)))
    (lK : K.lookup fK = some ⟨ocK, odK, .func (PySem.W.fnOf "_pairs_in" "_pairs_in" (defArgs sPairs) (defBody sPairs) (defScope sPairs) .none kVK dcK pmK anK cdK ctK), slK⟩)
    (cK : PySem.W.codeIn K cdK "_pairs_in" = true)
    (kK : PySem.W.keepIn K (.ref fK) = true)
    (gL : PySem.W.nsIn K mainGlobals "parse_placing" = some (some (.ref fL)))
    (lL : K.lookup fL = some ⟨ocL, odL, .func (PySem.W.fnOf "parse_placing" "parse_placing" (defArgs sParPl) (defBody sParPl) (defScope sParPl) .none kVL dcL pmL anL cdL ctL), slL⟩)
    (cL : PySem.W.codeIn K cdL "parse_placing" = true)
    (kL : PySem.W.keepIn K (.ref fL) = true)
    (gM : PySem.W.nsIn K mainGlobals "parse_steps" = some (some (.ref fM)))
    (lM : K.lookup fM = some ⟨ocM, odM, .func (PySem.W.fnOf "parse_steps" "parse_steps" (defArgs sParSt) (defBody sParSt) (defScope sParSt) .none kVM dcM pmM anM cdM ctM), slM⟩)
    (cM : PySem.W.codeIn K cdM "parse_steps" = true)
    (kM : PySem.W.keepIn K (.ref fM) = true)
    (gN : PySem.W.nsIn K mainGlobals "_law_dice" = some (some (.ref fN)))
    (lN : K.lookup fN = some ⟨ocN, odN, .func (PySem.W.fnOf "_law_dice" "_law_dice" (defArgs sDice) (defBody sDice) (defScope sDice) .none kVN dcN pmN anN cdN ctN), slN⟩)
    (cN : PySem.W.codeIn K cdN "_law_dice" = true)
    (kN : PySem.W.keepIn K (.ref fN) = true)
    (gO : PySem.W.nsIn K mainGlobals "_law_pull" = some (some (.ref fO)))
    (lO : K.lookup fO = some ⟨ocO, odO, .func (PySem.W.fnOf "_law_pull" "_law_pull" (defArgs sPull) (defBody sPull) (defScope sPull) .none kVO dcO pmO anO cdO ctO), slO⟩)
    (cO : PySem.W.codeIn K cdO "_law_pull" = true)
    (kO : PySem.W.keepIn K (.ref fO) = true)
    (gP : PySem.W.nsIn K mainGlobals "_law_pick" = some (some (.ref fP)))
    (lP : K.lookup fP = some ⟨ocP, odP, .func (PySem.W.fnOf "_law_pick" "_law_pick" (defArgs sPick) (defBody sPick) (defScope sPick) .none kVP dcP pmP anP cdP ctP), slP⟩)
    (cP : PySem.W.codeIn K cdP "_law_pick" = true)
    (kP : PySem.W.keepIn K (.ref fP) = true)
    (gQ : PySem.W.nsIn K mainGlobals "_law_mixed" = some (some (.ref fQ)))
    (lQ : K.lookup fQ = some ⟨ocQ, odQ, .func (PySem.W.fnOf "_law_mixed" "_law_mixed" (defArgs sMixed) (defBody sMixed) (defScope sMixed) .none kVQ dcQ pmQ anQ cdQ ctQ), slQ⟩)
    (cQ : PySem.W.codeIn K cdQ "_law_mixed" = true)
    (kQ : PySem.W.keepIn K (.ref fQ) = true)
    (gR : PySem.W.nsIn K mainGlobals "_law_names" = some (some (.ref fR)))
    (lR : K.lookup fR = some ⟨ocR, odR, .func (PySem.W.fnOf "_law_names" "_law_names" (defArgs sNames) (defBody sNames) (defScope sNames) .none kVR dcR pmR anR cdR ctR), slR⟩)
    (cR : PySem.W.codeIn K cdR "_law_names" = true)
    (kR : PySem.W.keepIn K (.ref fR) = true)
    (gS : PySem.W.nsIn K mainGlobals "_law_kinds" = some (some (.ref fS)))
    (lS : K.lookup fS = some ⟨ocS, odS, .func (PySem.W.fnOf "_law_kinds" "_law_kinds" (defArgs sKinds) (defBody sKinds) (defScope sKinds) .none kVS dcS pmS anS cdS ctS), slS⟩)
    (cS : PySem.W.codeIn K cdS "_law_kinds" = true)
    (kS : PySem.W.keepIn K (.ref fS) = true)
    (gT : PySem.W.nsIn K mainGlobals "_law_told" = some (some (.ref fT)))
    (lT : K.lookup fT = some ⟨ocT, odT, .func (PySem.W.fnOf "_law_told" "_law_told" (defArgs sTold) (defBody sTold) (defScope sTold) .none kVT dcT pmT anT cdT ctT), slT⟩)
    (cT : PySem.W.codeIn K cdT "_law_told" = true)
    (kT : PySem.W.keepIn K (.ref fT) = true)
    (gU : PySem.W.nsIn K mainGlobals "_law_step" = some (some (.ref fU)))
    (lU : K.lookup fU = some ⟨ocU, odU, .func (PySem.W.fnOf "_law_step" "_law_step" (defArgs sStep) (defBody sStep) (defScope sStep) .none kVU dcU pmU anU cdU ctU), slU⟩)
    (cU : PySem.W.codeIn K cdU "_law_step" = true)
    (kU : PySem.W.keepIn K (.ref fU) = true)
    (gV : PySem.W.nsIn K mainGlobals "_law_bad_step" = some (some (.ref fV)))
    (lV : K.lookup fV = some ⟨ocV, odV, .func (PySem.W.fnOf "_law_bad_step" "_law_bad_step" (defArgs sBadSt) (defBody sBadSt) (defScope sBadSt) .none kVV dcV pmV anV cdV ctV), slV⟩)
    (cV : PySem.W.codeIn K cdV "_law_bad_step" = true)
    (kV : PySem.W.keepIn K (.ref fV) = true)
    (gW : PySem.W.nsIn K mainGlobals "_law_steps_right" = some (some (.ref fW)))
    (lW : K.lookup fW = some ⟨ocW, odW, .func (PySem.W.fnOf "_law_steps_right" "_law_steps_right" (defArgs sStRight) (defBody sStRight) (defScope sStRight) .none kVW dcW pmW anW (.ref c1) ctW), slW⟩)
    (cW : PySem.W.codeIn K (.ref c1) "_law_steps_right" = true)
    (kW : PySem.W.keepIn K (.ref fW) = true)
    (gX : PySem.W.nsIn K mainGlobals "_law_bad_placing" = some (some (.ref fX)))
    (lX : K.lookup fX = some ⟨ocX, odX, .func (PySem.W.fnOf "_law_bad_placing" "_law_bad_placing" (defArgs sBadPl) (defBody sBadPl) (defScope sBadPl) .none kVX dcX pmX anX cdX ctX), slX⟩)
    (cX : PySem.W.codeIn K cdX "_law_bad_placing" = true)
    (kX : PySem.W.keepIn K (.ref fX) = true)
    (gY : PySem.W.nsIn K mainGlobals "_law_placing_text" = some (some (.ref fY)))
    (lY : K.lookup fY = some ⟨ocY, odY, .func (PySem.W.fnOf "_law_placing_text" "_law_placing_text" (defArgs sPlText) (defBody sPlText) (defScope sPlText) .none kVY dcY pmY anY cdY ctY), slY⟩)
    (cY : PySem.W.codeIn K cdY "_law_placing_text" = true)
    (kY : PySem.W.keepIn K (.ref fY) = true)
    (gZ : PySem.W.nsIn K mainGlobals "_law_placing_right" = some (some (.ref fZ)))
    (lZ : K.lookup fZ = some ⟨ocZ, odZ, .func (PySem.W.fnOf "_law_placing_right" "_law_placing_right" (defArgs sPlRight) (defBody sPlRight) (defScope sPlRight) .none kVZ dcZ pmZ anZ (.ref c2) ctZ), slZ⟩)
    (cZ : PySem.W.codeIn K (.ref c2) "_law_placing_right" = true)
    (kZ : PySem.W.keepIn K (.ref fZ) = true)
    (gl : PySem.W.nsIn K mainGlobals "law" = some (some (.ref fl)))
    (ll : K.lookup fl = some ⟨ocl, odl, .func (PySem.W.fnOf "law" "law" (defArgs sLaw) (defBody sLaw) (defScope sLaw) .none kVl dcl pml anl cdl ctl), sll⟩)
    (cl : PySem.W.codeIn K cdl "law" = true)
    (kl : PySem.W.keepIn K (.ref fl) = true)
    (tab1 : PySem.W.tabIn K "_law_steps_right" = some (c1, P1))
    (tab2 : PySem.W.tabIn K "_law_placing_right" = some (c2, P2))
    (h12 : P1 ≠ P2)
    (ntb : PySem.W.noTabs K = true) :
    ∃ (c1 P1 c2 P2 : Addr) (fd : FuncData), PySem.W.tabIn K "_law_steps_right" = some (c1, P1) ∧ PySem.W.tabIn K "_law_placing_right" = some (c2, P2) ∧ PySem.W.noTabs K = true ∧ (∀ (s : Shared) (v : Value), BindsTo s fd ⟨[v], []⟩ [("_law_script", v)]) ∧ ∀ base : Heap, K.In base → base.Ns mainGlobals mg → TabB base mg c1 P1 → TabB base mg c2 P2 → FnOk l.prog w K mg base CX0 8 fa fd ["_law_script"] (spLaw K P1 P2) := by
  have e := hfa.symm.trans (PySem.W.mg_of X G gl)
  cases e
  have T : Bare mg := ⟨PySem.W.mg_none_of X G z_int, PySem.W.mg_none_of X G z_abs, PySem.W.mg_none_of X G z_max, PySem.W.mg_none_of X G z_min, PySem.W.mg_none_of X G z_len, PySem.W.mg_none_of X G z_range, PySem.W.mg_none_of X G z_list, PySem.W.mg_none_of X G z_isinstance, PySem.W.mg_none_of X G z_str, PySem.W.mg_none_of X G z_tuple, PySem.W.mg_none_of X G z_dict, PySem.W.mg_none_of X G z_all, PySem.W.mg_none_of X G z_set, PySem.W.mg_none_of X G z_sorted, PySem.W.mg_none_of X G z_zip⟩
  have Cn : Cons mg := ⟨⟨_, PySem.W.mg_of X G cln⟩, ⟨_, PySem.W.mg_of X G cmp⟩⟩
  have XP : ExN K mg "ParseError" CP := ⟨PySem.W.mg_of X G g_P, q_P, i_P, b_P, t_P, k_P⟩
  have XO : ExN K mg "InvalidOperation" CO := ⟨PySem.W.mg_of X G g_O, q_O, i_O, b_O, t_O, k_O⟩
  have Z : TwoX K CP CO := ⟨mpp, mop, moo⟩
  have FA := fun_mk (st := sDiff) lA cA kA
  have bbA := FA.binds (ps := ["values"]) fun _ _ _ _ _ _ us hl => match us, hl with | [_], _ => rfl
  have mA := PySem.W.mg_of X G gA
  have FB := fun_mk (st := sIsName) lB cB kB
  have bbB := FB.binds (ps := ["value"]) fun _ _ _ _ _ _ us hl => match us, hl with | [_], _ => rfl
  have mB := PySem.W.mg_of X G gB
  have FC := fun_mk (st := sAre) lC cC kC
  have bbC := FC.binds (ps := ["value"]) fun _ _ _ _ _ _ us hl => match us, hl with | [_], _ => rfl
  have mC := PySem.W.mg_of X G gC
  have FD := fun_mk (st := sIsPl) lD cD kD
  have bbD := FD.binds (ps := ["value"]) fun _ _ _ _ _ _ us hl => match us, hl with | [_], _ => rfl
  have mD := PySem.W.mg_of X G gD
  have FE := fun_mk (st := sFmtPl) lE cE kE
  have bbE := FE.binds (ps := ["placing"]) fun _ _ _ _ _ _ us hl => match us, hl with | [_], _ => rfl
  have mE := PySem.W.mg_of X G gE
  have FF := fun_mk (st := sIsStep) lF cF kF
  have bbF := FF.binds (ps := ["value"]) fun _ _ _ _ _ _ us hl => match us, hl with | [_], _ => rfl
  have mF := PySem.W.mg_of X G gF
  have FG := fun_mk (st := sFmtSt) lG cG kG
  have bbG := FG.binds (ps := ["steps"]) fun _ _ _ _ _ _ us hl => match us, hl with | [_], _ => rfl
  have mG := PySem.W.mg_of X G gG
  have FH := fun_mk (st := sParts) lH cH kH
  have bbH := FH.binds (ps := ["text", "sign", "many"]) fun _ _ _ _ _ _ us hl => match us, hl with | [_, _, _], _ => rfl
  have mH := PySem.W.mg_of X G gH
  have FI := fun_mk (st := sChkT) lI cI kI
  have bbI := FI.binds (ps := ["text"]) fun _ _ _ _ _ _ us hl => match us, hl with | [_], _ => rfl
  have mI := PySem.W.mg_of X G gI
  have FJ := fun_mk (st := sChkS) lJ cJ kJ
  have bbJ := FJ.binds (ps := ["text", "wanted"]) fun _ _ _ _ _ _ us hl => match us, hl with | [_, _], _ => rfl
  have mJ := PySem.W.mg_of X G gJ
  have FK := fun_mk (st := sPairs) lK cK kK
  have bbK := FK.binds (ps := ["text", "sign"]) fun _ _ _ _ _ _ us hl => match us, hl with | [_, _], _ => rfl
  have mK := PySem.W.mg_of X G gK
  have FL := fun_mk (st := sParPl) lL cL kL
  have bbL := FL.binds (ps := ["text"]) fun _ _ _ _ _ _ us hl => match us, hl with | [_], _ => rfl
  have mL := PySem.W.mg_of X G gL
  have FM := fun_mk (st := sParSt) lM cM kM
  have bbM := FM.binds (ps := ["text"]) fun _ _ _ _ _ _ us hl => match us, hl with | [_], _ => rfl
  have mM := PySem.W.mg_of X G gM
  have FN := fun_mk (st := sDice) lN cN kN
  have bbN := FN.binds (ps := ["_law_script", "_law_at"]) fun _ _ _ _ _ _ us hl => match us, hl with | [_, _], _ => rfl
  have mN := PySem.W.mg_of X G gN
  have FO := fun_mk (st := sPull) lO cO kO
  have bbO := FO.binds (ps := ["_law_dice_here", "_law_total"]) fun _ _ _ _ _ _ us hl => match us, hl with | [_, _], _ => rfl
  have mO := PySem.W.mg_of X G gO
  have FP := fun_mk (st := sPick) lP cP kP
  have bbP := FP.binds (ps := ["_law_dice_here", "_law_items"]) fun _ _ _ _ _ _ us hl => match us, hl with | [_, _], _ => rfl
  have mP := PySem.W.mg_of X G gP
  have FQ := fun_mk (st := sMixed) lQ cQ kQ
  have bbQ := FQ.binds (ps := ["_law_dice_here", "_law_items"]) fun _ _ _ _ _ _ us hl => match us, hl with | [_, _], _ => rfl
  have mQ := PySem.W.mg_of X G gQ
  have FR := fun_mk (st := sNames) lR cR kR
  have bbR := FR.binds (ps := ["_law_dice_here", "_law_total"]) fun _ _ _ _ _ _ us hl => match us, hl with | [_, _], _ => rfl
  have mR := PySem.W.mg_of X G gR
  have FS := fun_mk (st := sKinds) lS cS kS
  have bbS := FS.binds (ps := ["_law_dice_here", "_law_total"]) fun _ _ _ _ _ _ us hl => match us, hl with | [_, _], _ => rfl
  have mS := PySem.W.mg_of X G gS
  have FT := fun_mk (st := sTold) lT cT kT
  have bbT := FT.binds (ps := ["_law_call"]) fun _ _ _ _ _ _ us hl => match us, hl with | [_], _ => rfl
  have mT := PySem.W.mg_of X G gT
  have FU := fun_mk (st := sStep) lU cU kU
  have bbU := FU.binds (ps := ["_law_dice_here", "_law_names_here"]) fun _ _ _ _ _ _ us hl => match us, hl with | [_, _], _ => rfl
  have mU := PySem.W.mg_of X G gU
  have FV := fun_mk (st := sBadSt) lV cV kV
  have bbV := FV.binds (ps := ["_law_dice_here", "_law_step_here"]) fun _ _ _ _ _ _ us hl => match us, hl with | [_, _], _ => rfl
  have mV := PySem.W.mg_of X G gV
  have FW := fun_mk (st := sStRight) lW cW kW
  have bbW := FW.binds (ps := ["_law_dice_here"]) fun _ _ _ _ _ _ us hl => match us, hl with | [_], _ => rfl
  have mW := PySem.W.mg_of X G gW
  have FX := fun_mk (st := sBadPl) lX cX kX
  have bbX := FX.binds (ps := ["_law_dice_here", "_law_placing"]) fun _ _ _ _ _ _ us hl => match us, hl with | [_, _], _ => rfl
  have mX := PySem.W.mg_of X G gX
  have FY := fun_mk (st := sPlText) lY cY kY
  have bbY := FY.binds (ps := ["_law_pairs"]) fun _ _ _ _ _ _ us hl => match us, hl with | [_], _ => rfl
  have mY := PySem.W.mg_of X G gY
  have FZ := fun_mk (st := sPlRight) lZ cZ kZ
  have bbZ := FZ.binds (ps := ["_law_dice_here"]) fun _ _ _ _ _ _ us hl => match us, hl with | [_], _ => rfl
  have mZ := PySem.W.mg_of X G gZ
  have Fl := fun_mk (st := sLaw) ll cl kl
  have ml := PySem.W.mg_of X G gl
  refine ⟨c1, P1, c2, P2, PySem.W.fnOf "law" "law" (defArgs sLaw) (defBody sLaw) (defScope sLaw) .none kVl dcl pml anl cdl ctl, tab1, tab2, ntb, fun s v => .of_eq rfl, fun base _ _ TB1 TB2 => ?_⟩
  have GD := ok_is_pl (P := l.prog) (w := w) (base := base) FD T Cn FB bbB mB FA bbA mA
  have GE := ok_fmt_pl (P := l.prog) (w := w) (base := base) FE T XO FD.kp bbD mD GD
  have GF := ok_is_step (P := l.prog) (w := w) (base := base) FF T Cn FB bbB mB FC bbC mC
  have GG := ok_fmt_st (P := l.prog) (w := w) (base := base) FG T XO FF.kp bbF mF GF
  have GI := ok_chk_t (P := l.prog) (w := w) (base := base) FI T XP
  have GJ := ok_same (P := l.prog) (w := w) (base := base) FJ T XP
  have GK := ok_pairs (P := l.prog) (w := w) (base := base) FK T XP FH bbH mH
  have GL := ok_par_pl (P := l.prog) (w := w) (base := base) FL T XP FI.kp bbI mI GI FK.kp bbK mK GK FD.kp bbD mD GD FE.kp bbE mE GE FJ.kp bbJ mJ GJ
  have GM := ok_par_st (P := l.prog) (w := w) (base := base) FM T XP FI bbI mI FF.kp bbF mF GF
  have GO := ok_pull (P := l.prog) (w := w) (base := base) FO T
  have GP := ok_pick (P := l.prog) (w := w) (base := base) FP T FO bbO mO
  have GQ := ok_mixed (P := l.prog) (w := w) (base := base) FQ T FO bbO mO
  have GR := ok_names (P := l.prog) (w := w) (base := base) FR T FO bbO mO
  have GS := ok_kinds (P := l.prog) (w := w) (base := base) FS T FO bbO mO FQ bbQ mQ
  have GU := ok_step (P := l.prog) (w := w) (base := base) FU T FO bbO mO FP bbP mP
  have GV := ok_bad_st (P := l.prog) (w := w) (base := base) FV T FO bbO mO FP bbP mP
  have GX := ok_bad_pl (P := l.prog) (w := w) (base := base) FX T FO bbO mO FP bbP mP
  have GY := ok_pl_text (P := l.prog) (w := w) (base := base) (mg := mg) FY
  have GW := ok_st_right (P := l.prog) (w := w) (base := base) FW rfl T Z TB1 h12 XP.g XO.g FM bbM mM GM FG bbG mG GG FO bbO mO GO FP bbP mP GP FU bbU mU GU FV bbV mV GV FS bbS mS GS FT bbT mT
  have GZ := ok_pl_right (P := l.prog) (w := w) (base := base) FZ rfl T Z TB2 h12 XP.g XO.g FL bbL mL GL FE bbE mE GE FX bbX mX GX FO bbO mO GO FQ bbQ mQ GQ FR bbR mR GR FY bbY mY GY FT bbT mT
  exact ok_law Fl T FN bbN mN FW bbW mW GW FZ bbZ mZ GZ FM bbM mM GM FG bbG mG GG FL bbL mL GL FE bbE mE GE
end K8
open PySem PySem.W PyProof.Rows
set_option maxRecDepth 100000 in
set_option maxHeartbeats 0 in
theorem PySem.Challenge.cw_letterrules_k83_texts_of_placings_and_st_holds : PySem.Challenge.rw_letterrules_k83_texts_of_placings_and_st.Holds := by
  w_on; o_law; k_head; (case hw => w_witness2)
  k_fill
  refine K8.walk_T2 (l := PySem.Challenge.rw_letterrules_k83_texts_of_placings_and_st) (n := 63) (k := 8) (x := "_law_script") (y1 := "_law_steps_right") (y2 := "_law_placing_right") (sp := fun w P1 P2 => K8.spLaw _ P1 P2) rfl (by decide) rfl ⟨rfl, by decide, by decide⟩ (by kernel_rfl) (by kernel_rfl) (fun w h Y => PySem.W.km_in_of Y) ?F (fun _ _ _ _ a ns hl h1 h2 hS => ⟨a, ns, rfl, hS, hl, fun p hp => by
    rcases List.mem_cons.mp hp with rfl | hp
    · exact LamX.TabS.nil h1
    · rw [List.mem_singleton.mp hp]; exact LamX.TabS.nil h2, fun _ => rfl⟩)
  case F =>
    intro w mg fa h KX G hmg
    refine' K8.all_mk (P1 := 197) (P2 := 212) KX G hmg ?g_P ?q_P ?i_P ?b_P ?t_P ?k_P ?g_O ?q_O ?i_O ?b_O ?t_O ?k_O ?mpp ?mop ?moo ?cln ?cmp ?z_int ?z_abs ?z_max ?z_min ?z_len ?z_range ?z_list ?z_isinstance ?z_str ?z_tuple ?z_dict ?z_all ?z_set ?z_sorted ?z_zip ?gA ?lA ?cA ?kA ?gB ?lB ?cB ?kB ?gC ?lC ?cC ?kC ?gD ?lD ?cD ?kD ?gE ?lE ?cE ?kE ?gF ?lF ?cF ?kF ?gG ?lG ?cG ?kG ?gH ?lH ?cH ?kH ?gI ?lI ?cI ?kI ?gJ ?lJ ?cJ ?kJ ?gK ?lK ?cK ?kK ?gL ?lL ?cL ?kL ?gM ?lM ?cM ?kM ?gN ?lN ?cN ?kN ?gO ?lO ?cO ?kO ?gP ?lP ?cP ?kP ?gQ ?lQ ?cQ ?kQ ?gR ?lR ?cR ?kR ?gS ?lS ?cS ?kS ?gT ?lT ?cT ?kT ?gU ?lU ?cU ?kU ?gV ?lV ?cV ?kV ?gW ?lW ?cW ?kW ?gX ?lX ?cX ?kX ?gY ?lY ?cY ?kY ?gZ ?lZ ?cZ ?kZ ?gl ?ll ?cl ?kl ?tab1 ?tab2 ?h12 ?ntb
    (case g_P => k_is)
    (case q_P => kernel_rfl)
    (case i_P => k_is)
    (case b_P => k_is)
    (case t_P => k_is)
    (case k_P => k_is)
    (case g_O => k_is)
    (case q_O => kernel_rfl)
    (case i_O => k_is)
    (case b_O => k_is)
    (case t_O => k_is)
    (case k_O => k_is)
    (case mpp => kernel_rfl)
    (case mop => kernel_rfl)
    (case moo => kernel_rfl)
    (case cln => k_is)
    (case cmp => k_is)
    (case z_int => k_is)
    (case z_abs => k_is)
    (case z_max => k_is)
    (case z_min => k_is)
    (case z_len => k_is)
    (case z_range => k_is)
    (case z_list => k_is)
    (case z_isinstance => k_is)
    (case z_str => k_is)
    (case z_tuple => k_is)
    (case z_dict => k_is)
    (case z_all => k_is)
    (case z_set => k_is)
    (case z_sorted => k_is)
    (case z_zip => k_is)
    (case gA => k_is)
    (case lA => k_is)
    (case cA => k_is)
    (case kA => k_is)
    (case gB => k_is)
    (case lB => k_is)
    (case cB => k_is)
    (case kB => k_is)
    (case gC => k_is)
    (case lC => k_is)
    (case cC => k_is)
    (case kC => k_is)
    (case gD => k_is)
    (case lD => k_is)
    (case cD => k_is)
    (case kD => k_is)
    (case gE => k_is)
    (case lE => k_is)
    (case cE => k_is)
    (case kE => k_is)
    (case gF => k_is)
    (case lF => k_is)
    (case cF => k_is)
    (case kF => k_is)
    (case gG => k_is)
    (case lG => k_is)
    (case cG => k_is)
    (case kG => k_is)
    (case gH => k_is)
    (case lH => k_is)
    (case cH => k_is)
    (case kH => k_is)
    (case gI => k_is)
    (case lI => k_is)
    (case cI => k_is)
    (case kI => k_is)
    (case gJ => k_is)
    (case lJ => k_is)
    (case cJ => k_is)
    (case kJ => k_is)
    (case gK => k_is)
    (case lK => k_is)
    (case cK => k_is)
    (case kK => k_is)
    (case gL => k_is)
    (case lL => k_is)
    (case cL => k_is)
    (case kL => k_is)
    (case gM => k_is)
    (case lM => k_is)
    (case cM => k_is)
    (case kM => k_is)
    (case gN => k_is)
    (case lN => k_is)
    (case cN => k_is)
    (case kN => k_is)
    (case gO => k_is)
    (case lO => k_is)
    (case cO => k_is)
    (case kO => k_is)
    (case gP => k_is)
    (case lP => k_is)
    (case cP => k_is)
    (case kP => k_is)
    (case gQ => k_is)
    (case lQ => k_is)
    (case cQ => k_is)
    (case kQ => k_is)
    (case gR => k_is)
    (case lR => k_is)
    (case cR => k_is)
    (case kR => k_is)
    (case gS => k_is)
    (case lS => k_is)
    (case cS => k_is)
    (case kS => k_is)
    (case gT => k_is)
    (case lT => k_is)
    (case cT => k_is)
    (case kT => k_is)
    (case gU => k_is)
    (case lU => k_is)
    (case cU => k_is)
    (case kU => k_is)
    (case gV => k_is)
    (case lV => k_is)
    (case cV => k_is)
    (case kV => k_is)
    (case gW => k_is)
    (case lW => k_is)
    (case cW => k_is)
    (case kW => k_is)
    (case gX => k_is)
    (case lX => k_is)
    (case cX => k_is)
    (case kX => k_is)
    (case gY => k_is)
    (case lY => k_is)
    (case cY => k_is)
    (case kY => k_is)
    (case gZ => k_is)
    (case lZ => k_is)
    (case cZ => k_is)
    (case kZ => k_is)
    (case gl => k_is)
    (case ll => k_is)
    (case cl => k_is)
    (case kl => k_is)
    (case tab1 => first | kernel_rfl | exact rfl | k_is)
    (case tab2 => first | kernel_rfl | exact rfl | k_is)
    (case h12 => decide)
    (case ntb => kernel_rfl)
    all_goals exact #[]
