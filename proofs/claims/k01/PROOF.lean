import PyProof.Rows.All
import Wide.All
import OpenK.AllK
import Wide.FinOn
import HandS.ForMost
import HandS.ForExc
import HandS.ExcInit
import HandS.IsInst
import PyProof.ExcBaseAll.LookupError
import PyProof.ExcBaseAll.ValueError
import HandS.MakeKw
import HandS.ExcIs
import HandS.ExcValue
import PyProof.ReprRoads
import HandS.Wide
import HandS.Style
import PyProof.ReprLen
import HandS.Walk
import HandS.TupAny
import PySem.Challenge.RW_undoamid_k01_errors_and_their_attributes
section
set_option Elab.async false
set_option linter.all false
set_option maxRecDepth 100000
set_option maxHeartbeats 4000000
namespace Und
open PySem PySem.F PySem.W PySem.HandSPX Builtin Builtin.ObjectAttr
/-- an own class over an exception class of the machine, by what is asked of its chain -/
structure Above (B : String) (bm : List Value) : Prop where
  own : bm.contains (.type B) = true
  att : bm.contains (.type "AttributeError") = false
  nam : bm.contains (.type "NameError") = false
section
variable {prog : Program} {w : World} {M : Model} {A : Around} {E : Value → Shared → Prop} {R : Result → Shared → Prop}
variable {h : Heap} {g : Array GenState} {d : Drawn} {t : Nat} {os : OsState}
variable {nm q : Str} {C N : Addr} {bs bm bmB : List Value} {hdct : Bool} {sn : List Str} {sub : List Value} {ab : Bool} {col : Option Bool}
variable {dd : Option Addr} {k0 k1 k2 k3 k5 : Option Value} {B newId initId : String}
theorem newCheck (F : ExcBaseFacts B newId initId bmB) (T : Above B bm) {args : List Value} {kw : List (Str × Value)} {Q : Unit → Shared → Prop}
    (hC : h.get? C = some (excClassObj nm q C N bs bm hdct sn sub ab col dd k0 k1 k2 k3 k5 newId)) (hq : Q () ⟨h, g, d, t, os⟩) :
    wpAny M A (checkBuiltinCall newId ⟨.ref C :: args, kw⟩) Q E ⟨h, g, d, t, os⟩ := by
  have z1 : (Value.ref C :: bm).contains (.type B) = true := by rw [List.contains_cons, T.own, Bool.or_true]
  have z2 := F.noStar
  simp only [checkBuiltinCall, F.newKind, F.newSplit, F.newRow]
  repeat (first
    | refine wpAny_loadPart_at hC ?_
    | (refine wpAny_isSubtype_exc hC ?_; rw [z1])
    | refine wpAny_staticBase_exc hC ?_
    | refine wpAny_madeBy_exc hC ?_
    | simp only [bne_self_eq_false, Bool.false_eq_true, if_false]
    | wp_step)
  exact hq
theorem newMade (F : ExcBaseFacts B newId initId bmB) (T : Above B bm) {args : List Value} {kw : List (Str × Value)}
    (hC : h.get? C = some (excClassObj nm q C N bs bm hdct sn sub ab col dd k0 k1 k2 k3 k5 newId)) (hz : args.length ≤ sizeLine)
    (hq : R (.ok (.ret (.ref (h.objs.size + 1)))) ⟨(h.push (kdv_tup args)).push (excO C h.objs.size), g, d, t, os⟩) :
    codeAny (model prog w) A (.builtin newId ⟨.ref C :: args, kw⟩) R ⟨h, g, d, t, os⟩ := by
  have zE := F.ends
  have zB : (Value.ref C :: bm).contains (.type B) = true := by rw [List.contains_cons, T.own, Bool.or_true]
  have zA : (Value.ref C :: bm).contains (.type "AttributeError") = false := by rw [List.contains_cons, T.att]; rfl
  have zN : (Value.ref C :: bm).contains (.type "NameError") = false := by rw [List.contains_cons, T.nam]; rfl
  refine codeAny_builtinAt F.entry ?_
  unfold Builtin.«BaseException.__new__»
  refine wpAt_bind ?_
  show wpAt _ _ _ (stack >>= _) _ _ _
  refine wpAt_bind (wpAt_stack fun p below => wpAt_of_wpAny ?_)
  wp_walk
  refine wpAt_of_wpAny ?_
  rw [F.owner]
  repeat (first
    | with_reducible refine wpAny_madeHere_exc F.canon hC ?_
    | with_reducible refine wpAny_loadPart_at hC ?_
    | (with_reducible refine wpAny_isSubtype_exc hC ?_; first | rw [zB] | rw [zA] | rw [zN])
    | wp_step)
  show R _ _
  rw [Heap.size_push]
  exact hq
theorem typeCall (F : ExcBaseFacts B newId initId bmB) (T : Above B bm) {args : List Value} {kw : List (Str × Value)} {fI : Addr} {Q : Fin → Shared → Prop}
    (hC : h.get? C = some (excClassObj nm q C N bs bm hdct sn sub ab col dd k0 k1 k2 k3 k5 newId)) (hz : args.length ≤ sizeLine)
    (look : Looks (model prog w) h (typeLookup (.ref C) "__init__") (some (.ref fI)))
    (bnd : ∀ self, Looks (model prog w) h (bindSpecial (.ref fI) self) (.ref fI, [self]))
    (hq : codeAny (model prog w) A (.call (.ref fI) ⟨.ref (h.objs.size + 1) :: args, kw⟩)
      (fun r s' => match r with
        | .ok (.ret v) => v = .none ∧ Q (.done (.ret (.ref (h.objs.size + 1)))) s'
        | .ok _ => False
        | .error e => E e s')
      ⟨(h.push (kdv_tup args)).push (excO C h.objs.size), g, d, t, os⟩) :
    wpAny (model prog w) A (Builtin.«type.__call__» ⟨.ref C :: args, kw⟩) Q E ⟨h, g, d, t, os⟩ := by
  repeat (first
    | with_reducible refine wpAny_loadPart_at hC ?_
    | with_reducible refine wpAny_madeBy_exc hC ?_
    | wp_step)
  refine codeAny_call_builtin_code (Code.quiet_builtin _ F.quiet) (newCheck F T hC ?_)
  refine newMade F T hC hz ?_
  show wpAny _ _ _ _ _ _
  have up : ∀ b o, h.get? b = some o → ((h.push (kdv_tup args)).push (excO C h.objs.size)).get? b = some o :=
    fun b o e => Heap.get?_push_of_some _ (Heap.get?_push_of_some _ e)
  have c1 := up _ _ hC
  have c2 : ((h.push (kdv_tup args)).push (excO C h.objs.size)).get? (h.objs.size + 1) = some (excO C h.objs.size) := by heap_get
  have c3 : (Value.ref C :: bm).contains (.ref C) = true := by simp
  have c4 := look.keeps up
  have c5 := (bnd (.ref (h.objs.size + 1))).keeps up
  unfold isInstance
  repeat (first
    | with_reducible refine wpAny_loadPart_at c2 ?_
    | (with_reducible refine wpAny_isSubtype_exc c1 ?_; rw [c3])
    | wp_step)
  show wpAny _ _ (typeLookup (.ref C) _) _ _ _
  refine c4.at ?_
  refine wpAny_holding (wpAny_bind (c5.at ?_))
  refine wpAny_bind (wpAny_call (codeAny_mono hq fun r s' z => ?_))
  rcases r with e | (v | _ | _ | _) <;> first | exact z | exact z.elim | skip
  obtain ⟨rfl, z⟩ := z
  first
    | exact wpAny_pure (wpAny_pure z)
    | (wp_walk; exact z)
theorem madeBy (F : ExcBaseFacts B newId initId bmB) (T : Above B bm) {args : List Value} {kw : List (Str × Value)} {fI : Addr}
    (hC : h.get? C = some (excClassObj nm q C N bs bm hdct sn sub ab col dd k0 k1 k2 k3 k5 newId)) (hz : args.length ≤ sizeLine)
    (look : Looks (model prog w) h (typeLookup (.ref C) "__init__") (some (.ref fI)))
    (bnd : ∀ self, Looks (model prog w) h (bindSpecial (.ref fI) self) (.ref fI, [self]))
    (hq : codeAny (model prog w) (A.under (.builtin "type.__call__" ⟨.ref C :: args, kw⟩)) (.call (.ref fI) ⟨.ref (h.objs.size + 1) :: args, kw⟩)
      (InitBack (h.objs.size + 1) R) ⟨(h.push (kdv_tup args)).push (excO C h.objs.size), g, d, t, os⟩) :
    codeAny (model prog w) A (.call (.ref C) ⟨args, kw⟩) R ⟨h, g, d, t, os⟩ := by
  have f1 := tc_lookup
  have f2 := tc_bind (.ref C)
  have ty : (⟨h, g, d, t, os⟩ : Shared).TypeIs (.ref C) "type" := ⟨_, hC, rfl⟩
  refine codeAny_of_tree ?_
  show wpAny _ _ (callAny (.ref C) _) _ _ _
  repeat (any_goals (first
    | assumption
    | with_reducible refine wpAny_loadPart_at hC ?_
    | wp_step))
  refine ⟨rfl, ?_⟩
  refine codeAny_call_builtin_at (Code.quiet_builtin _ (by decide +kernel)) entry_typeCall ?_
  refine wpAny_check_type_call_sub hC (typeCall F T hC hz look bnd ?_)
  refine codeAny_mono hq fun r s' z => ?_
  rcases r with e | (v | _ | _ | _) <;> exact z
end
end Und
end

section
set_option Elab.async false
set_option linter.all false
set_option maxRecDepth 100000
set_option maxHeartbeats 4000000
namespace Und
open PySem PySem.F PySem.W PySem.HandSPX Builtin Builtin.ObjectAttr
/-- a chain of classes along which nothing keeps a store away -/
structure Opens (l : List Value) : Prop where
  full : l.isEmpty = false
  obj : l.contains (.type "object") = true
  pass : ∀ self, refuseLoop self "__setattr__" l = pure ()
theorem Opens.ref {C : Addr} {l : List Value} (x : Opens l) : Opens (.ref C :: l) :=
  ⟨rfl, by rw [List.contains_cons, x.obj, Bool.or_true], fun self => by rw [refuseLoop_ref]; exact x.pass self⟩
theorem opens_VE : Opens veTail := ⟨rfl, by decide +kernel, fun self => F.store_ValueError.passes self⟩
abbrev keTail : List Value := [.type "KeyError", .type "LookupError", .type "Exception", .type "BaseException", .type "object"]
theorem opens_KE : Opens keTail := ⟨rfl, by decide +kernel, fun self => by kernel_rfl⟩
section
variable {prog : Program} {w : World} {M : Model} {A : Around} {E : Value → Shared → Prop} {R : Result → Shared → Prop}
variable {hp : Heap} {g : Array GenState} {d : Drawn} {t : Nat} {os : OsState} {K : Frag} {f : Str} {tk : Tok} {v : Value} {x C : Addr} {fv : Array Value} {cd : ClassData}
theorem putFirst (X : K.In hp) (hx : hp.get? x = some { cls := .ref C, data := .fields fv }) (hcd : clsIn K C = some cd) (hm : Opens cd.mro) (hh : cd.hasDict = true) (no : findIn K (.ref C) f = some none)
    (hq : ∀ h' tk' dx, (∀ b o, b ≠ x → hp.get? b = some o → h'.get? b = some o) → hp.objs.size ≤ dx → dx ≠ x →
      h'.get? x = some { cls := .ref C, dict := some dx, data := .fields fv } → h'.Ns1 dx (fun y => if y = f then some v else none) → R (.ok (.ret .none)) ⟨h', g, d, tk', os⟩) :
    codeAny (model prog w) A (.call (.builtin "object.__setattr__") ⟨[.ref x, .str f tk, v], []⟩) R ⟨hp, g, d, t, os⟩ := by
  have I : InstAt hp x { cls := .ref C, data := .fields fv } C none := ⟨hx, rfl, rfl, trivial⟩
  have S := F.store_object
  have xs : x ≠ hp.objs.size := Nat.ne_of_lt (Heap.lt_size hx)
  have isO : Looks (model prog w) hp (isInstance (.ref x) (.type "object")) true := by
    refine I.type.andThen (looks_mroIn X ?_)
    unfold mroIn
    rw [hcd, Option.bind_some, if_neg (by rw [hm.full]; decide), hm.obj]
  refine codeAny_call_builtin S.slot.plain S.entry ?_
  refine @check_slot (model prog w) _ _ ⟨hp, g, d, t, os⟩ "object.__setattr__" "object" "__setattr__" (.ref x) [.str f tk, v] [] _ S.kind S.split isO (S.args (.ref x) (.str f tk) v) ?_
  have c1 : Looks (model prog w) hp (mroOf (.ref C)) cd.mro := (looks_clsIn X hcd).andThen .now
  have c2 : Looks (model prog w) hp (storeTaker? none) none := .now
  have c3 : Looks (model prog w) hp (classData C) cd := looks_clsIn X hcd
  rw [osa_eq, refuse_eq]
  refine wpAny_bind (wpAny_bind (I.type.at (wpAny_bind (c1.at ?_))))
  rw [hm.pass]
  refine wpAny_pure (wpAny_bind (I.type.at (wpAny_bind ((looks_findIn X no).at (wpAny_bind (c2.at ?_))))))
  show wpAny _ _ (storeInOwnDict (.ref x) (.ref C) (.str f tk) f v false) _ _ _
  obtain ⟨nm, bs, mro, ns, qn, hd, sn, sb, ab, col, del⟩ := cd
  dsimp only at hh
  subst hh
  unfold storeInOwnDict ownDictForStores
  repeat (first
    | with_reducible refine store_in_new ?_ ?_
    | with_reducible refine wpAny_loadPart_at hx ?_
    | with_reducible refine c3.at ?_
    | wp_step)
  · refine ⟨_, #[], _, (Heap.get?_update_ne _ _ _ _ xs.symm).trans (Heap.get?_push_at rfl rfl), rfl, ?_, fun _ => rfl⟩
    exact fun e he => absurd he (by simp)
  · intro h' tk' hn' hs
    have hx1 : (hp.push { cls := .type "dict", data := .dict #[] }).get? x = some { cls := .ref C, data := .fields fv } := Heap.get?_push_of_some _ hx
    refine hq h' tk' hp.objs.size (fun b o hb ho => ?_) (Nat.le_refl _) xs.symm ?_ hn'
    · exact (hs.2 b (Nat.ne_of_lt (Heap.lt_size ho))).trans ((Heap.get?_update_ne _ _ _ _ hb).trans (Heap.get?_push_of_some _ ho))
    · exact (hs.2 x xs).trans (Heap.get?_update_self _ hx1 rfl)
theorem putMore {dx : Addr} {m0 : Str → Option Value} {nl : List Str} (X : K.In hp) (hx : hp.get? x = some { cls := .ref C, dict := some dx, data := .fields fv })
    (hns : hp.Ns1 dx m0) (hw : Within m0 nl) (hz : nl.length ≤ 1000) (hcd : clsIn K C = some cd) (hm : Opens cd.mro) (hh : cd.hasDict = true) (no : findIn K (.ref C) f = some none)
    (hq : ∀ h' tk', (∀ b o, b ≠ dx → hp.get? b = some o → h'.get? b = some o) → h'.Ns1 dx (fun y => if y = f then some v else m0 y) → R (.ok (.ret .none)) ⟨h', g, d, tk', os⟩) :
    codeAny (model prog w) A (.call (.builtin "object.__setattr__") ⟨[.ref x, .str f tk, v], []⟩) R ⟨hp, g, d, t, os⟩ := by
  obtain ⟨oD, esD, epD, hoD, hdD, _⟩ := hns.count hw
  have I : InstAt hp x { cls := .ref C, dict := some dx, data := .fields fv } C (some oD) := ⟨hx, rfl, rfl, hoD⟩
  have S := F.store_object
  have isO : Looks (model prog w) hp (isInstance (.ref x) (.type "object")) true := by
    refine I.type.andThen (looks_mroIn X ?_)
    unfold mroIn
    rw [hcd, Option.bind_some, if_neg (by rw [hm.full]; decide), hm.obj]
  refine codeAny_call_builtin S.slot.plain S.entry ?_
  refine @check_slot (model prog w) _ _ ⟨hp, g, d, t, os⟩ "object.__setattr__" "object" "__setattr__" (.ref x) [.str f tk, v] [] _ S.kind S.split isO (S.args (.ref x) (.str f tk) v) ?_
  have c1 : Looks (model prog w) hp (mroOf (.ref C)) cd.mro := (looks_clsIn X hcd).andThen .now
  have c2 : Looks (model prog w) hp (storeTaker? none) none := .now
  have c3 : Looks (model prog w) hp (classData C) cd := looks_clsIn X hcd
  rw [osa_eq, refuse_eq]
  refine wpAny_bind (wpAny_bind (I.type.at (wpAny_bind (c1.at ?_))))
  rw [hm.pass]
  refine wpAny_pure (wpAny_bind (I.type.at (wpAny_bind ((looks_findIn X no).at (wpAny_bind (c2.at ?_))))))
  show wpAny _ _ (storeInOwnDict (.ref x) (.ref C) (.str f tk) f v false) _ _ _
  obtain ⟨nm, bs, mro, ns, qn, hd, sn, sb, ab, col, del⟩ := cd
  dsimp only at hh
  subst hh
  unfold storeInOwnDict ownDictForStores
  repeat (first
    | with_reducible refine PySem.OEX.store_in_old hns hw hz ?_
    | with_reducible refine wpAny_loadPart_at hx ?_
    | with_reducible refine c3.at ?_
    | wp_step)
  intro h' tk' hn' hs
  exact hq h' tk' (fun b o hb ho => (hs.2 b hb).trans ho) hn'
end
end Und
end

section
set_option Elab.async false
set_option linter.all false
set_option maxRecDepth 100000
set_option maxHeartbeats 4000000
namespace L2.Und
open PySem PySem.Spec PyProof.Rows _root_.Und
open PySem.W (findIn keepIn subIn hasDictIn specialIn takesIn mroIn clsIn)
/-- what the written part says of an own exception class -/
structure ErrC (K : PySem.W.Frag) (C : Addr) : Prop where
  cls : ∃ B newId initId bmB nm q N bs bm sn sub ab col dd k0 k1 k2 k3 k5,
    ExcBaseFacts B newId initId bmB ∧ Above B bm ∧ Opens bm ∧ K.lookup C = some (excClassObj nm q C N bs bm true sn sub ab col dd k0 k1 k2 k3 k5 newId)
  keep : keepIn K (.ref C) = true
  sa : findIn K (.ref C) "__setattr__" = some (some (.builtin "object.__setattr__"))
  ga : findIn K (.ref C) "__getattribute__" = some (some (.builtin "BaseException.__getattribute__"))
  gg : findIn K (.ref C) "__getattr__" = some none
  exc : subIn K (.ref C) (.type "BaseException") = some true
  dct : hasDictIn K C = true
  kls : findIn K (.ref C) "__class__" = some (some (.builtin "object.__class__"))
  obj : mroIn K C (.type "object") = some true
/-- what is the same for all of them -/
structure ErrG (K : PySem.W.Frag) : Prop where
  get : specialIn K (.builtin "object.__class__") "__get__" = some (some (.builtin "getset_descriptor.__get__"))
  tak : takesIn K (.builtin "object.__class__") = some true
theorem ErrC.data {K : PySem.W.Frag} {C : Addr} (T : ErrC K C) : ∃ cd, clsIn K C = some cd ∧ Opens cd.mro ∧ cd.hasDict = true := by
  obtain ⟨B, newId, initId, bmB, nm, q, N, bs, bm, sn, sub, ab, col, dd, k0, k1, k2, k3, k5, F, U, O, l⟩ := T.cls
  refine ⟨{ name := nm, bases := bs, mro := .ref C :: bm, ns := N, qualname := q, hasDict := true, slotNames := sn, subclasses := sub, abstract := ab, collection := col, hasDel := false }, ?_, O.ref, rfl⟩
  unfold PySem.W.clsIn
  rw [l] <;> rfl
section
variable {X : Cx} {pins : List (Addr × Obj)} {σ : St} {H : Hp} {s : Shared} {a C dx : Addr} {f : Str} {y : V} {u : Value} {fs : List (Str × V)}
variable {Q : Unit → Shared → Prop} {E : Value → Shared → Prop} {A : Around}
/-- self.f = y, the first store -/
theorem put1 (T : ErrC X.K C) (I : Inv X pins σ H s) (e : H a = some (exo a C none)) (no : findIn X.K (.ref C) f = some none) (ry : RelV y u)
    (h : ∀ dx s', H dx = none → dx ≠ a → Inv X pins σ (upd (upd H dx (exd dx [(f, y)])) a (exo a C (some dx))) s' → Q () s') :
    wpAny (model X.prog X.w) A (setAttr (.ref a) f u) Q E s := by
  obtain ⟨cd, hcd, hO, hD⟩ := T.data
  obtain ⟨t1, ho⟩ := exo_at I.hok e
  obtain ⟨hp, g, d, t, os⟩ := s
  refine PySem.W.set_plain I.kIn (ox := { cls := .ref C, dict := none, data := .fields #[.ref t1, .none, .none, .none, .bool false, .none] }) (od := none) ⟨ho, rfl, rfl, trivial⟩ T.sa ?_
  refine putFirst I.kIn ho hcd hO hD no fun h' tk' dx k dn dne hx hn => ?_
  have nd : H dx = none := I.hok.fresh dn
  have old : ∀ {b : Addr} {o : Obj}, hp.get? b = some o → b ≠ dx := fun {b o} z => Nat.ne_of_lt (Nat.lt_of_lt_of_le (Heap.lt_size z) dn)
  have off : ∀ {b : Addr}, H b = none → b ≠ a := fun {b} n z => by
    rw [z, e] at n
    cases n
  have U : Un X.fs [] H (upd (upd H dx (exd dx [(f, y)])) a (exo a C (some dx))) hp h' := by
    refine ⟨fun b o z n _ _ => k b o (off n) z, fun b o z n _ _ => ⟨o.slots, k b o (off n) z⟩, fun b o z n _ => ?_, fun b o z _ => ?_, fun b xs z => ?_, fun b o v z => ?_, fun b ps z => ⟨#[], ?_⟩⟩
    · rw [upd_ne (off n), upd_ne (old z)]
      exact n
    · by_cases hb : b = a
      · exact ⟨_, hb ▸ hx⟩
      · exact ⟨o, k b o hb z⟩
    · rw [upd_ne (at_ne e z exo_tup), upd_ne (ne_of_none z nd)]
      exact z
    · rw [upd_ne (at_ne e z exo_frz), upd_ne (ne_of_none z nd)]
      exact z
    · rw [upd_ne (at_ne e z exo_tbl), upd_ne (ne_of_none z nd), z]
      simp
  refine h dx _ nd dne (I.un (t' := tk') U fun b o z => ?_)
  by_cases hb : b = a
  · subst hb
    rw [upd_same] at z
    cases z
    exact exo_ok hx
  · rw [upd_ne hb] at z
    by_cases hd : b = dx
    · subst hd
      rw [upd_same] at z
      cases z
      exact exd_ok hn (relO_put (fs := []) ry fun _ => True.intro)
    · rw [upd_ne hd] at z
      refine (I.hok b o z).stay (fun c v hc r => k c v ?_ r) (fun c hc => ?_) fun c xs hc => ?_
      · rcases hc with hc | hc
        · exact hc ▸ hb
        · exact at_ne e hc exo_own
      · rw [upd_ne (at_ne e hc exo_own), upd_ne (ne_of_none hc nd)]
        exact hc
      · rw [upd_ne (at_ne e hc exo_tup), upd_ne (ne_of_none hc nd)]
        exact hc
/-- self.f = y, a further store -/
theorem put2 (T : ErrC X.K C) (I : Inv X pins σ H s) (e : H a = some (exo a C (some dx))) (ed : H dx = some (exd dx fs)) (hl : fs.length ≤ 900)
    (no : findIn X.K (.ref C) f = some none) (ry : RelV y u) (h : ∀ s', Inv X pins σ (upd H dx (exd dx ((f, y) :: fs))) s' → Q () s') :
    wpAny (model X.prog X.w) A (setAttr (.ref a) f u) Q E s := by
  obtain ⟨cd, hcd, hO, hD⟩ := T.data
  obtain ⟨t1, ho⟩ := exo_at I.hok e
  obtain ⟨mA, hns, rel⟩ := exd_at I.hok ed
  have hw := within_of rel
  obtain ⟨hp, g, d, t, os⟩ := s
  obtain ⟨oD, _, _, hoD, _, _⟩ := hns.count hw
  refine PySem.W.set_plain I.kIn (ox := { cls := .ref C, dict := some dx, data := .fields #[.ref t1, .none, .none, .none, .bool false, .none] }) (od := some oD) ⟨ho, rfl, rfl, hoD⟩ T.sa ?_
  refine putMore I.kIn ho hns hw (by rw [List.length_map]; omega) hcd hO hD no fun h' tk' k hn => ?_
  have there : ∃ o, h'.get? dx = some o := by
    obtain ⟨o, _, _, z, _⟩ := hn
    exact ⟨o, z⟩
  exact h _ (I.write (t' := tk') (x := dx) (e := dx) (o := exd dx ((f, y) :: fs)) (by rw [ed]; exact True.intro) (.inl rfl) k there (exd_ok hn (relO_put ry rel)))
end
/-- o.f = e, o such an exception -/
def tPut (K : PySem.W.Frag) (f : Str) (to te : TE) : TS := fun D σ H => te σ H fun y H1 => to σ H1 fun x H2 => ∃ a C : Addr, x = .ref a ∧ ErrC K C ∧ findIn K (.ref C) f = some none ∧
  ((H2 a = some (exo a C none) ∧ ∀ dx, H2 dx = none → dx ≠ a → D.nx σ (upd (upd H2 dx (exd dx [(f, y)])) a (exo a C (some dx)))) ∨
    ∃ (dx : Addr) (fs : List (Str × V)), H2 a = some (exo a C (some dx)) ∧ H2 dx = some (exd dx fs) ∧ fs.length ≤ 900 ∧ D.nx σ (upd H2 dx (exd dx ((f, y) :: fs))))
theorem psPut {X : Cx} {o e : Expr} {to te : TE} {f : Str} {p' pos : Pos} (ho : PE X o to) (he : PE X e te) (hs : swapsWith e (some (.Attribute o f p')) pos.line X.env = pure false := by rfl) :
    PS X (.Assign [.Attribute o f p'] e pos) (tPut X.K f to te) := by
  refine ⟨fun pins s σ H D I h => ?_⟩
  refine plainObj_wpAny_Assign_Attribute (thn (he.run pins s σ H _ I h) fun v s1 ⟨y, H1, I1, r1, q1⟩ => ?_) hs
  refine thn (ho.run pins s1 σ H1 _ I1 q1) fun u s2 ⟨x, H2, I2, r2, a, C, ex, T, no, q⟩ => ?_
  subst ex
  obtain rfl : u = Value.ref a := r2
  rcases q with ⟨ea, q⟩ | ⟨dx, fs, ea, ed, hl, q⟩
  · exact put1 T I2 ea no r1 fun dx s' n ne J => ⟨σ, _, J, q dx n ne⟩
  · exact put2 T I2 ea ed hl no r1 fun s' J => ⟨σ, _, J, q⟩
/-- an error stands at a: of the class at C, with these fields -/
def ErrAt (H : Hp) (a C : Addr) (fs : List (Str × V)) : Prop := (fs = [] ∧ H a = some (exo a C none)) ∨ ∃ dx, H a = some (exo a C (some dx)) ∧ H dx = some (exd dx fs)
theorem ErrAt.mono {H H' : Hp} {a C : Addr} {fs : List (Str × V)} (x : ErrAt H a C fs) (k : ∀ b o, H b = some o → H' b = some o) : ErrAt H' a C fs := by
  rcases x with ⟨e, z⟩ | ⟨dx, z1, z2⟩
  · exact .inl ⟨e, k _ _ z⟩
  · exact .inr ⟨dx, k _ _ z1, k _ _ z2⟩
/-- e.f of such an exception -/
def tGet (K : PySem.W.Frag) (te : TE) (f : Str) : TE := fun σ H Q => te σ H fun x H1 => ∃ (a C : Addr) (fs : List (Str × V)) (v : V), x = .ref a ∧ ErrC K C ∧ findIn K (.ref C) f = some none ∧
  ErrAt H1 a C fs ∧ fs.lookup f = some v ∧ Q v H1
theorem peGet {X : Cx} {e : Expr} {te : TE} {pos : Pos} {f : Str} (he : PE X e te) (hb : attributeBase e f X.env (eval e X.env) = eval e X.env := by rfl) :
    PE X (.Attribute e f pos) (tGet X.K te f) := by
  refine ⟨fun pins s σ H Q I h => ?_⟩
  refine attr_of hb (thn (he.run pins s σ H _ I h) fun u s1 hh => ?_)
  obtain ⟨x, H1, I1, rx, a, C, fs, v, ex, T, no, ea, l, q⟩ := hh
  subst ex
  obtain rfl : u = Value.ref a := rx
  rcases ea with ⟨ef, _⟩ | ⟨dx, ea, ed⟩
  · subst ef
    cases l
  · obtain ⟨t1, ho⟩ := exo_at I1.hok ea
    obtain ⟨mA, hns, hr⟩ := exd_at I1.hok ed
    obtain ⟨od, hod, hl⟩ := lookIn_ns hns
    obtain ⟨u, hu, ru⟩ := RelO.some_of (v := v) (o := mA f) (by rw [← l]; exact hr f)
    have J : PySem.W.InstAt s1.heap a { cls := .ref C, dict := some dx, data := .fields #[.ref t1, .none, .none, .none, .bool false, .none] } C (some od) := ⟨ho, rfl, rfl, hod⟩
    exact HandSPX.exc_get I1.kIn J T.ga T.gg T.exc (PySem.W.findObj_own T.dct no rfl (by rw [hl, hu])) (handed_of ru) ⟨v, H1, I1.tok _, ru, q⟩
end L2.Und
end

section
set_option Elab.async false
set_option linter.all false
set_option maxRecDepth 100000
set_option maxHeartbeats 4000000
namespace Und
open PySem PySem.W PySem.Spec PySem.Calls PyProof.Rows
section
variable {prog : Program} {w : World} {A : Around} {E : Value → Shared → Prop} {s : Shared} {K : Frag} {x D : Addr} {ox : Obj} {od : Option Obj}
theorem find_class (hd : hasDictIn K D = true) (ha : findIn K (.ref D) "__class__" = some (some (.builtin "object.__class__")))
    (hn : specialIn K (.builtin "object.__class__") "__get__" = some (some (.builtin "getset_descriptor.__get__"))) (ht : takesIn K (.builtin "object.__class__") = some true) :
    findObj K D od "__class__" = some (.bind (.builtin "getset_descriptor.__get__") (.builtin "object.__class__")) := by
  obtain ⟨cd, hc, _⟩ := any_some hd
  unfold findObj
  rw [hc, Option.bind_some, ha, Option.bind_some]
  simp [hn, ht]
theorem ask_class {Q : Option Value → Shared → Prop} (ga : findIn K (.ref D) "__getattribute__" = some (some (.builtin "BaseException.__getattribute__")))
    (gg : findIn K (.ref D) "__getattr__" = some none) (exc : subIn K (.ref D) (.type "BaseException") = some true) (hd : hasDictIn K D = true)
    (ha : findIn K (.ref D) "__class__" = some (some (.builtin "object.__class__"))) (hn : specialIn K (.builtin "object.__class__") "__get__" = some (some (.builtin "getset_descriptor.__get__")))
    (ht : takesIn K (.builtin "object.__class__") = some true) (hm : mroIn K D (.type "object") = some true) (X : K.In s.heap) (I : InstAt s.heap x ox D od)
    (h : Q (some (.ref D)) { s with toks := s.toks + 1 }) : wpAny (model prog w) A (getAttr? (.ref x) "__class__") Q E s := by
  have hf := find_class (od := od) hd ha hn ht
  obtain ⟨hp, g, d, t, os⟩ := s
  have c0 := I.type (M := model prog w)
  have c1 := looks_findIn (M := model prog w) X ga
  have c2 := looks_findIn (M := model prog w) X gg
  have c3 := looks_find (M := model prog w) X I hf
  have c4 : Looks (model prog w) hp (isInstance (.ref x) (.type "BaseException")) true := c0.andThen (looks_subIn X exc)
  have z0 : (false && onTheHeap (Value.builtin "BaseException.__getattribute__")) = false := rfl
  have z2 : (Value.builtin "BaseException.__getattribute__" == Value.builtin "object.__getattribute__") = false := by decide +kernel
  have z1 : (onTheHeap (Value.ref D) && Value.builtin "BaseException.__getattribute__" == Value.builtin "object.__getattribute__") = false := by
    rw [z2]
    rfl
  unfold getAttr? getAttrBy? getAttrBy
  refine wpAny_bind (wpAny_mkText (wpAny_bind (wpAny_attempt (wpAny_holding (wpAny_bind (c0.at (wpAny_bind (c1.at ?_))))))))
  show wpAny _ _ (if (onTheHeap (Value.ref D) && Value.builtin "BaseException.__getattribute__" == Value.builtin "object.__getattribute__") = true then _ else _) _ _ _
  rw [z1, if_neg Bool.false_ne_true]
  unfold getAttrByItsOwn hookBefore
  refine wpAny_bind ?_
  rw [if_pos (show onTheHeap (Value.ref D) = true from rfl)]
  refine c2.at (wpAny_bind (wpAny_attempt (wpAny_holding ?_)))
  unfold callGetattribute
  rw [z0, if_neg Bool.false_ne_true]
  unfold boundAndCalled
  rw [PySem.F.excAttr_ValueError.ga.bind (.ref x)]
  refine wpAny_bind (wpAny_pure ?_)
  show wpAny _ _ (call (.builtin "BaseException.__getattribute__") [.ref x, .str "__class__" t]) _ _ _
  refine wpAny_call (codeAny_call_builtin PySem.F.excAttr_ValueError.ga.plain PySem.F.entry_bexc_ga ?_)
  have zk : builtinKind "BaseException.__getattribute__" = some .slot := by decide +kernel
  have zs : splitId "BaseException.__getattribute__" = some ("BaseException", "__getattribute__") := by decide +kernel
  refine @check_slot (model prog w) _ _ ⟨hp, g, d, t + 1, os⟩ "BaseException.__getattribute__" "BaseException" "__getattribute__" (.ref x) [.str "__class__" t] [] _ zk zs c4 (PySem.F.args_bexc_ga (.ref x) (.str "__class__" t)) ?_
  unfold Builtin.«object.__getattribute__»
  refine wpAny_bind (wpAny_of_eq (a := ((Value.ref x : Value), [Value.str "__class__" t])) (by first | rfl | (simp only [slotArgs]; rfl)) ?_)
  refine wpAny_bind (wpAny_pure (wpAny_bind (c0.at (wpAny_bind (c3.at ?_)))))
  show wpAny _ _ (holding [Value.builtin "object.__class__"] (call (.builtin "getset_descriptor.__get__") [.builtin "object.__class__", .ref x, .ref D]) >>= ret) _ _ _
  refine wpAny_bind (wpAny_holding (wpAny_call (class_get (s := ⟨hp, g, d, t + 1, os⟩) (ox := ox) (od := od) X I hm (wpAny_pure ?_))))
  show wpAny _ _ (handedOut (.ref D)) _ _ _
  rw [handedOut_of (v := .ref D) rfl]
  first
    | exact wpAny_pure (wpAny_pure h)
    | exact wpAny_pure h
    | exact wpAny_pure (wpAny_bind (wpAny_pure (wpAny_pure h)))
theorem kit_err (ga : findIn K (.ref D) "__getattribute__" = some (some (.builtin "BaseException.__getattribute__")))
    (gg : findIn K (.ref D) "__getattr__" = some none) (exc : subIn K (.ref D) (.type "BaseException") = some true) (hd : hasDictIn K D = true)
    (ha : findIn K (.ref D) "__class__" = some (some (.builtin "object.__class__"))) (hn : specialIn K (.builtin "object.__class__") "__get__" = some (some (.builtin "getset_descriptor.__get__")))
    (ht : takesIn K (.builtin "object.__class__") = some true) (hm : mroIn K D (.type "object") = some true) : KitX K (.ref x) (.ref D) (fun h => InstAt h x ox D od) := by
  obtain ⟨cd, hc, _⟩ := any_some hd
  have there : ∃ c' d' cd' sl', K.lookup D = some ⟨c', d', .cls cd', sl'⟩ := by
    unfold clsIn at hc
    split at hc
    · rename_i c' d' cd' sl' ho
      exact ⟨c', d', cd', sl', ho⟩
    · cases hc
  obtain ⟨c', d', cd', sl', ho⟩ := there
  refine ⟨fun _ _ _ I => I.type, fun _ _ X _ => ?_, fun h tp dd its n sl X htp => ?_, fun X I k => ask_class ga gg exc hd ha hn ht hm X I k⟩
  · intro A' Q' E' s' k q
    unfold isType loadHead
    exact wpAny_bind (wpAny_loadPart (k _ _ (X _ _ ho)) (wpAny_pure q))
  · refine Bool.eq_false_iff.mpr fun q => ?_
    have e : D = tp := Value.ref.inj (beq_iff_eq.mp q)
    subst e
    have z := (X _ _ ho).symm.trans htp
    cases z
end
end Und
namespace L2.Und
open PySem PySem.Spec PyProof.Rows _root_.Und
open PySem.W (findIn keepIn subIn hasDictIn specialIn takesIn mroIn clsIn typeIn)
section
variable {X : Cx} {CX : CXT} {k : Nat} {fI C : Addr} {fd : FuncData} {ps ks : List Str} {sp : Sp} {E : XK} {x : Str} {p pos : Pos} {e : Expr} {es : List Expr} {kws : List Keyword} {t tk : TA}
variable {g : List Value → List Value → List Value} {gV : List V → List V → List V} {n : Nat}
/-- the error is laid, then its own __init__ runs -/
theorem runErr {pins : List (Addr × Obj)} {σ : St} {H : Hp} {s : Shared} {Q : VK} {us ws : List Value} {vs zs : List V} (T : ErrC X.K C)
    (iC : findIn X.K (.ref C) "__init__" = some (some (.ref fI))) (tI : typeIn X.K (.ref fI) = some (.type "function"))
    (F : FnOk X.prog X.w X.K X.mg X.base CX k fI fd ps sp) (hr : Room (k + 1) X.A) (hb : KBn X.K fd ps (n + 1) ks g gV) (hx : Passes CX X E)
    (I : Inv X pins σ H s) (r : Vals vs us) (rz : Vals zs ws) (l1 : vs.length = n) (l2 : zs.length = ks.length) (l3 : n ≤ 1000)
    (h : ∀ a, H a = none → sp (gV (.ref a :: vs) zs) (upd H a (exo a C none)) (fun v H2 => v = .non ∧ Q (.ref a) H2) E) :
    wpAny (model X.prog X.w) X.A (call (.ref C) us (ks.zip ws)) (EP X pins σ Q) X.xe s := by
  obtain ⟨B, newId, initId, bmB, nm, q, N, bs, bm, sn, sub, ab, col, dd, k0, k1, k2, k3, k5, FB, U, O, hC⟩ := T.cls
  obtain ⟨hp, gs, dr, tk, os⟩ := s
  have big : hp.objs.size ≤ hp.objs.size + 1 := Nat.le_succ _
  have nn : H (hp.objs.size + 1) = none := I.hok.fresh big
  have hq := h (hp.objs.size + 1) nn
  have up : ∀ b o, hp.get? b = some o → ((hp.push (PySem.W.kdv_tup us)).push (PySem.HandSPX.excO C hp.objs.size)).get? b = some o :=
    fun b o z => Heap.get?_push_of_some _ (Heap.get?_push_of_some _ z)
  have laid : ((hp.push (PySem.W.kdv_tup us)).push (PySem.HandSPX.excO C hp.objs.size)).get? (hp.objs.size + 1) = some (PySem.HandSPX.excO C hp.objs.size) := by heap_get
  have I2 : Inv X pins σ (upd H (hp.objs.size + 1) (exo (hp.objs.size + 1) C none)) ⟨(hp.push (PySem.W.kdv_tup us)).push (PySem.HandSPX.excO C hp.objs.size), gs, dr, tk, os⟩ :=
    I.laid (t' := tk) (a := hp.objs.size + 1) up big (exo_ok laid)
  have r1 : Vals (V.ref (hp.objs.size + 1) :: vs) (Value.ref (hp.objs.size + 1) :: us) := .cons rfl r
  have e0 : us.length = n := r.length.symm.trans l1
  have e1 : (Value.ref (hp.objs.size + 1) :: us).length = n + 1 := congrArg Nat.succ e0
  have e2 : ws.length = ks.length := rz.length.symm.trans l2
  have hz : us.length ≤ sizeLine := by
    rw [e0, sizeLine_eq]
    omega
  refine wpAny_call (madeBy FB U (I.kIn _ _ hC) hz (PySem.W.looks_findIn I.kIn iC) (fun self => PySem.W.bind_fn I.kIn self tI) ?_)
  refine codeAny_mono (F.run _ X.stack _ _ ⟨Value.ref (hp.objs.size + 1) :: us, ks.zip ws⟩ (g (Value.ref (hp.objs.size + 1) :: us) ws) _ _ E (hr.make C us (ks.zip ws))
    (I2.env0.make C us (ks.zip ws)) (hb.to _ _ ws I2.kIn e1 e2) (hb.rel r1 rz) hq) fun r s' z => ?_
  cases r with
  | error e => exact hx pins σ _ _ e s' I2 z
  | ok fl =>
    cases fl with
    | ret u =>
      obtain ⟨v, H', I3, rv, ev, q3⟩ := I2.after z
      subst ev
      exact ⟨rv, V.ref (hp.objs.size + 1), H', I3, rfl, q3⟩
    | next => exact z.elim
    | brk => exact z.elim
    | cont => exact z.elim
/-- C(e, ..) -/
def tErr (C : Addr) (n : Nat) (sp : Sp) (gV : List V → List V → List V) (E : XK) (t : TA) : TE := fun σ H Q => t σ H fun vs H1 => vs.length = n ∧
  ∀ a, H1 a = none → sp (gV (.ref a :: vs) []) (upd H1 a (exo a C none)) (fun v H2 => v = .non ∧ Q (.ref a) H2) E
theorem peErr (T : ErrC X.K C) (iC : findIn X.K (.ref C) "__init__" = some (some (.ref fI))) (tI : typeIn X.K (.ref fI) = some (.type "function"))
    (F : FnOk X.prog X.w X.K X.mg X.base CX k fI fd ps sp) (hr : Room (k + 1) X.A) (hb : KBn X.K fd ps (n + 1) [] g gV) (hx : Passes CX X E) (hn : n ≤ 1000)
    (hg : Gl X x) (hm : X.mg x = some (.ref C)) (ha : PA X (e :: es) t) (hdb : (x == ("__debug__" : Str)) = false := by decide)
    (he : starEach (e :: es) X.env = (false, eval e X.env) :: starEach es X.env := by rfl) (hpl : (backTo pos (starEach es X.env)).any (·.1) = false := by rfl) :
    PE X (.Call (.Name x p) (e :: es) [] pos) (tErr C n sp gV E t) := by
  refine ⟨fun pins s σ H Q I h => ?_⟩
  refine wpAny_Call_Name_kw (ld_glob I hg hm ?_ hdb)
  refine PySem.W.callWith_K (h₀ := X.base) I.ok.mod.kin T.keep (thn (ha.run pos pins s σ H _ I h) fun us s1 ⟨vs, H1, I1, r, l1, q⟩ => ⟨I1.kIn, ?_⟩) he hpl
  exact runErr (ws := []) (zs := []) T iC tI F hr hb hx I1 r .nil l1 rfl hn q
/-- C(k = v, ..) -/
def tErrK (C : Addr) (m : Nat) (sp : Sp) (gV : List V → List V → List V) (E : XK) (tk : TA) : TE := fun σ H Q => tk σ H fun zs H1 => zs.length = m ∧
  ∀ a, H1 a = none → sp (gV [.ref a] zs) (upd H1 a (exo a C none)) (fun v H2 => v = .non ∧ Q (.ref a) H2) E
theorem peErrK (T : ErrC X.K C) (iC : findIn X.K (.ref C) "__init__" = some (some (.ref fI))) (tI : typeIn X.K (.ref fI) = some (.type "function"))
    (F : FnOk X.prog X.w X.K X.mg X.base CX k fI fd ps sp) (hr : Room (k + 1) X.A) (hb : KBn X.K fd ps 1 ks g gV) (hx : Passes CX X E)
    (hg : Gl X x) (hm : X.mg x = some (.ref C)) (hkw : PK X kws tk) (hall : (backToKw pos (keywordEach kws X.env)).all (·.1.isSome) = true := by rfl)
    (hks : (backToKw pos (keywordEach kws X.env)).filterMap (·.1) = ks := by rfl) (hdb : (x == ("__debug__" : Str)) = false := by decide)
    (hpl : ((backTo pos (starEach [] X.env)).any (·.1) || (backToKw pos (keywordEach kws X.env)).any (·.1.isNone)) = false := by rfl) :
    PE X (.Call (.Name x p) [] kws pos) (tErrK C ks.length sp gV E tk) := by
  refine ⟨fun pins s σ H Q I h => ?_⟩
  refine wpAny_Call_Name_kw (ld_glob I hg hm ?_ hdb)
  refine PySem.W.callWith_KW0 (h₀ := X.base) I.ok.mod.kin T.keep hall (thn (hkw.run pos pins s σ H _ I h) fun ws s1 ⟨zs, H1, I1, r, l1, q⟩ => ⟨I1.kIn, ?_⟩) hpl
  rw [hks]
  exact runErr (n := 0) (us := []) (vs := []) T iC tI F hr hb hx I1 .nil r rfl l1 (by omega) q
/-- C(), a class without an __init__ of its own -/
theorem peErr0 {bmB : List Value} {B newId initId : String} (FB : ExcBaseFacts B newId initId bmB) (q : PySem.W.excIn X.K C bmB newId = true) (kC : keepIn X.K (.ref C) = true)
    (hg : Gl X x) (hm : X.mg x = some (.ref C)) (hdb : (x == ("__debug__" : Str)) = false := by decide) :
    PE X (.Call (.Name x p) [] [] pos) (fun _ H Q => ∀ a, H a = none → Q (.ref a) (upd H a (exo a C none))) := by
  refine ⟨fun pins s σ H Q I h => ?_⟩
  refine wpAny_Call_Name_kw (ld_glob I hg hm ?_ hdb)
  refine PySem.W.callWith_K0 I.kIn kC ?_
  show wpAny _ _ (call (.ref C) []) _ _ _
  obtain ⟨bm, N, nm, qn, bs, hdct, sn, sub, ab, col, dd, k0, k1, k2, k3, k5, mN, hC, hN, hni, T⟩ := exc_obj I.kIn q
  refine wpAny_call_exc_subT FB T hC hN hni (fun h' a hm => ?_) (by show 0 ≤ sizeLine; omega)
  have hn : H a = none := I.hok.gone hm.new
  obtain ⟨t, ht, _, _⟩ := hm.there
  exact ⟨.ref a, upd H a (exo a C none), I.laidN hm.keeps hm.new hn (exo_ok ht), rfl, h a hn⟩
end
/-- isinstance(e, c), e such an error -/
def rIsErr (K : PySem.W.Frag) : List V → Hp → VK → Prop := fun xs H Q => ∃ (a C : Addr) (fs : List (Str × V)) (c : V) (u : Value) (b : Bool), xs = [.ref a, c] ∧ ClsV c u ∧ ErrC K C ∧ ErrAt H a C fs ∧
  PySem.W.kitOne K (.ref C) u = some b ∧ Q (.bl b) H
theorem callIsErr {X : Cx} (G : ErrG X.K) : CallR X (.builtin "isinstance") (rIsErr X.K) := by
  intro pins s σ H xs us Q I r h
  obtain ⟨a, C, fs, c, u, b, rfl, hc, T, ea, eb, q⟩ := h
  obtain ⟨u1, u2, rfl, r1, r2⟩ := vals2 r
  cases (show u1 = Value.ref a from r1)
  have e2 := hc.eq r2
  subst e2
  have fin : ∀ tk, EP X pins σ Q (.bool b) { s with toks := tk } := fun tk => ⟨.bl b, H, I.tok tk, rfl, q⟩
  rcases ea with ⟨_, ea⟩ | ⟨dx, ea, ed⟩
  · obtain ⟨t1, ho⟩ := exo_at I.hok ea
    have J : PySem.W.InstAt s.heap a { cls := .ref C, dict := none, data := .fields #[.ref t1, .none, .none, .none, .bool false, .none] } C none := ⟨ho, rfl, rfl, trivial⟩
    exact PySem.W.kia_one (kit_err T.ga T.gg T.exc T.dct T.kls G.get G.tak T.obj) I.kIn J eb (fun z => nomatch z) fin
  · obtain ⟨t1, ho⟩ := exo_at I.hok ea
    obtain ⟨mA, hns, _⟩ := exd_at I.hok ed
    obtain ⟨od, hod, _⟩ := lookIn_ns hns
    have J : PySem.W.InstAt s.heap a { cls := .ref C, dict := some dx, data := .fields #[.ref t1, .none, .none, .none, .bool false, .none] } C (some od) := ⟨ho, rfl, rfl, hod⟩
    exact PySem.W.kia_one (kit_err T.ga T.gg T.exc T.dct T.kls G.get G.tak T.obj) I.kIn J eb (fun z => nomatch z) fin
end L2.Und
end

section
set_option Elab.async false
set_option linter.all false
set_option maxRecDepth 100000
set_option maxHeartbeats 4000000
namespace L2.Und
open PySem PySem.Spec PyProof.Rows _root_.Und
/-- repr(x), x a list or a tuple of data -/
def rShow (K : PySem.W.Frag) : List V → Hp → VK → Prop := fun xs H Q => ∃ (a : Addr) (d : PyData), xs = [.ref a] ∧ Dp K H (.ref a) d ∧ d.showable = true ∧ d.hasDict = false ∧ d.depth ≤ 40 ∧
  d.shown.length ≤ sizeLine ∧ Q (.str d.shown) H
theorem callShow {X : Cx} (hg : X.A.guards = some []) (hu : X.A.units + 64 < cLine) : CallR X (.builtin "repr") (rShow X.K) := by
  intro pins s σ H xs us Q I r h
  obtain ⟨a, d, rfl, hd, h1, h2, h3, h4, q⟩ := h
  obtain ⟨u, rfl, ru⟩ := vals1 r
  cases (show u = Value.ref a from ru)
  obtain ⟨as, rd⟩ := Dp.reads I d (.ref a) (.ref a) hd rfl
  refine repr_of_reads' (h₀ := s.heap) rd h1 (fun z => ?_) hg (by omega) (fun _ _ e => e) (fun h' u tk k => ?_) h4
  · rw [h2] at z
    cases z
  · exact ⟨.str d.shown, H, I.kept (t' := tk) k, ⟨u, rfl⟩, q⟩
/-- a def that keeps its promise where no repr is under way -/
structure FnG (P : Program) (w : World) (K : PySem.W.Frag) (mg : Str → Option Value) (base : Heap) (k : Nat) (f : Addr) (fd : FuncData) (ps : List Str) (sp : Sp) : Prop where
  len : ∀ vs H Q E, sp vs H Q E → vs.length = ps.length
  run : ∀ (A : Around) (outer : List Env) (s : Shared) (H : Hp) (us : List Value) (vs : List V) (Q : VK) (E : XK), A.guards = some [] → Room k A →
    Env0 P w K mg base A outer s H → BindsTo s fd ⟨us, []⟩ (ps.zip us) → Vals vs us → sp vs H Q E → codeAny (model P w) A (.call (.ref f) ⟨us, []⟩) (CR CX0 outer P w H s Q E) s
section
variable {P : Program} {w : World} {K : PySem.W.Frag} {mg : Str → Option Value} {base : Heap}
theorem okG {x qual : Str} {st : Stmt} {f : Addr} {fd : FuncData} {N ps : List Str} {k : Nat} {sp : Sp} (F : Fun K x qual st f fd) (S : FnScope N ps (defScope st))
    (len : ∀ vs H Q E, sp vs H Q E → vs.length = ps.length)
    (body : ∀ (cdv : Value) (A : Around) (outer : List Env) (s : Shared) (H : Hp) (vs : List V) (Q : VK) (E : XK), A.guards = some [] →
      Room k (A.deeper (envOfC qual (defScope st) s.heap.objs.size f cdv)) → sp vs H Q E →
      ∃ t, PSs (cxOf CX0 P w K mg base N qual (defScope st) f cdv A outer s H E).nox (defBody st) t ∧ t { nx := fun _ H' => Q .non H', rt := Q } (start N vs) H) :
    FnG P w K mg base (k + 1) f fd ps sp := by
  obtain ⟨oc, od, kV, doc, pm, an, cdv, ct, osl, rfl, lk, hcd⟩ := F.ex
  refine ⟨len, fun A outer s H us vs Q E hA hr e0 hb r hsp => ?_⟩
  have hl := len _ _ _ _ hsp
  have up : ∀ b o, base.get? b = some o → s.heap.get? b = some o := fun b o e => (e0.bs b o e).1
  have KX : K.In s.heap := e0.mod.kin.keeps up
  have kinds : ∀ y ∈ ps.zip us, (defScope st).names.lookup y.1 = some .local ∨
      ((defScope st).names.lookup y.1 = some .cell ∧ ((cellsFrom (s.heap.objs.size + 1) (defScope st).names []).lookup y.1).isSome = true) := by
    rintro ⟨n, v⟩ hy
    rcases S.par n (List.of_mem_zip hy).1 with z | z
    · exact .inl z
    · exact .inr ⟨z, PySem.W.cellsFrom_some _ _ _ (.inl z)⟩
  refine codeAny_call_function hr.depth (KX _ _ lk) rfl S.co S.gen rfl (PySem.W.codeRec_of KX hcd) (hb _ _ _ _ ?_)
  refine wpAny_newFunctionEnv_cells S.kind kinds fun env he s1 x => ?_
  subst he
  refine ⟨(e0.mod.nolimit.keeps up).keeps x.toInCall.keep, codeAny_func ?_⟩
  obtain ⟨t, ht, hq⟩ := body cdv A outer s H vs Q E hA (hr.deeper _) hsp
  have I : Inv (cxOf CX0 P w K mg base N qual (defScope st) f cdv A outer s H E) [] (start N vs) H s1 := inv_start S hr.hd e0 hl r x
  refine wpAny_mono (ht.nox.run [] s1 (start N vs) H _ I hq) (fun fl s' z => ?_) fun _ _ z => z
  cases fl with
  | ret u =>
    obtain ⟨v, σ', H', J, rv, q⟩ := z
    exact ⟨v, H', J.os, J.bare, J.base, J.hok, rv, q⟩
  | next =>
    obtain ⟨σ', H', J, q⟩ := z
    exact ⟨.non, H', J.os, J.bare, J.base, J.hok, rfl, q⟩
  | brk =>
    obtain ⟨_, _, _, q⟩ := z
    exact q.elim
  | cont =>
    obtain ⟨_, _, _, q⟩ := z
    exact q.elim
end
section
variable {X : Cx} {k : Nat} {f : Addr} {fd : FuncData} {ps : List Str} {sp : Sp} {x : Str} {p pos : Pos} {e : Expr} {es : List Expr} {t : TA} {E : XK}
theorem peCallG (F : FnG X.prog X.w X.K X.mg X.base k f fd ps sp) (hA : X.A.guards = some []) (hr : Room k X.A) (hg : Gl X x) (hm : X.mg x = some (.ref f)) (hk : PySem.W.keepIn X.K (.ref f) = true)
    (hb : Binds X.K fd ps []) (ha : PA X (e :: es) t) (hdb : (x == ("__debug__" : Str)) = false := by decide)
    (he : starEach (e :: es) X.env = (false, eval e X.env) :: starEach es X.env := by rfl) (hpl : (backTo pos (starEach es X.env)).any (·.1) = false := by rfl) :
    PE X (.Call (.Name x p) (e :: es) [] pos) (tCall sp [] E0 t) := by
  refine ⟨fun pins s σ H Q I h => ?_⟩
  refine wpAny_Call_Name_kw (ld_glob I hg hm ?_ hdb)
  refine PySem.W.callWith_K (h₀ := X.base) I.ok.mod.kin hk (thn (ha.run pos pins s σ H _ I h) fun us s1 ⟨vs, H1, I1, r, q⟩ => ⟨I1.kIn, ?_⟩) he hpl
  have q : sp vs H1 Q E0 := by
    have z : sp (vs ++ []) H1 Q E0 := q
    rw [List.append_nil] at z
    exact z
  have hl : us.length = ps.length := r.length.symm.trans (F.len _ _ _ _ q)
  have b := hb s1 us I1.kIn (by rw [List.append_nil]; exact hl)
  rw [List.append_nil] at b
  show wpAny _ _ (call (.ref f) us) _ _ _
  refine wpAny_call (codeAny_mono (F.run X.A X.stack s1 H1 us vs Q E0 hA hr I1.env0 b r q) fun r s' z => ?_)
  cases r with
  | error _ => exact z.elim
  | ok fl =>
    cases fl with
    | ret u => exact I1.after z
    | next => exact z.elim
    | brk => exact z.elim
    | cont => exact z.elim
end
/-- the law's call, from its promise -/
theorem lawCall {P : Program} {w : World} {K : PySem.W.Frag} {mg mb : Str → Option Value} {k : Nat} {fa a : Addr} {fd : FuncData} {x : Str} {sp : Sp} {s0 : Shared} {vs : List Value} {ns : List Int}
    (KX : K.In s0.heap) (hns : s0.heap.Ns mainGlobals mg) (hb : s0.heap.Ns builtinsNs mb) (hbb : ∀ x : Str, x ≠ "__name__" → mb x = bootBuiltins x) (hlim : s0.heap.NoLimit) (hg : s0.gens = #[])
    (ha : s0.heap.get? a = some { cls := .type "list", data := .seq vs.toArray }) (hi : IntsAre vs ns) (hl : ns.length ≤ sizeLine) (hr : Room k callerA)
    (F : ∀ base : Heap, K.In base → base.Ns mainGlobals mg → FnG P w K mg base k fa fd [x] sp) (bind : ∀ (s : Shared) (u : Value), BindsTo s fd ⟨[u], []⟩ [(x, u)])
    (hsp : ∀ H : Hp, Only H → SqL K H a (ns.map V.int) → sp [.ref a] H (fun v _ => v = .bl true) fun _ _ _ => False) :
    codeAny (model P w) callerA (.call (.ref fa) ⟨[.ref a], []⟩) (fun r s' => r = .ok (.ret (.bool true)) ∧ OldK s0.heap s'.heap ∧ s'.os = s0.os ∧ AllBare s'.gens) s0 := by
  have rv := vals_ints hi
  have lenV := hi.length
  have main : ∀ H : Hp, Only H → SqL K H a (ns.map V.int) → HOk P w H s0.heap → (∀ b, H b ≠ none → b = a ∧ K.lookup a = none) →
      codeAny (model P w) callerA (.call (.ref fa) ⟨[.ref a], []⟩) (fun r s' => r = .ok (.ret (.bool true)) ∧ OldK s0.heap s'.heap ∧ s'.os = s0.os ∧ AllBare s'.gens) s0 := by
    intro H hO hS ok hA
    have notA : ∀ {b : Addr} {o : Obj} {es : Array DictEntry} {ep : Nat}, s0.heap.get? b = some o → o.data = .dict es ep → H b = none := by
      intro b o es ep e d
      cases z : H b with
      | none => rfl
      | some u =>
        obtain ⟨z1, _⟩ := hA b (by rw [z]; simp)
        subst z1
        rw [ha] at e
        cases e
        have d' : Data.seq vs.toArray _ = Data.dict es ep := d
        cases d'
    have keepNs : ∀ {b : Addr} {m : Str → Option Value}, s0.heap.Ns b m → (hidT s0.heap H).Ns b m := by
      rintro b m ⟨o, es, ep, e, d, r⟩
      exact ⟨o, es, ep, hidT_get e (notA e d), d, r⟩
    have KB : K.In (hidT s0.heap H) := by
      intro b o e
      refine hidT_get (KX b o e) ?_
      cases z : H b with
      | none => rfl
      | some u =>
        obtain ⟨z1, z2⟩ := hA b (by rw [z]; simp)
        subst z1
        rw [z2] at e
        cases e
    have lim : (hidT s0.heap H).NoLimit := by
      obtain ⟨mc, h1, h2⟩ := hlim
      exact ⟨mc, keepNs h1, h2⟩
    have M : Mod K mg (hidT s0.heap H) := ⟨KB, keepNs hns, ⟨mb, keepNs hb, hbb⟩, lim⟩
    have e0 : Env0 P w K mg (hidT s0.heap H) callerA [] s0 H :=
      ⟨rfl, M, fun b o e => of_hidT e, Nat.le_of_eq (hidT_size _ _), trivial, fun b z => absurd (show b ∈ ([] : List Addr) from z) (by simp), ok, .of_eq hg⟩
    refine codeAny_mono ((F _ KB (keepNs hns)).run callerA [] s0 H [.ref a] [.ref a] _ _ rfl hr e0 (bind s0 (.ref a)) (.cons rfl .nil) (hsp H hO hS)) fun r s' z => ?_
    cases r with
    | error e => exact z.elim
    | ok fl =>
      cases fl with
      | next => exact z.elim
      | brk => exact z.elim
      | cont => exact z.elim
      | ret u =>
        obtain ⟨v, H', os, bare, un, ok', r', q⟩ := z
        have q' : v = .bl true := q
        subst q'
        obtain rfl : u = Value.bool true := r'
        refine ⟨rfl, OldK.of_keep fun b o e => ?_, os, bare⟩
        rcases hO b with n | ⟨ob, xs, n⟩
        · exact un.keep b o e n (fun z => absurd (show b ∈ ([] : List Addr) from z) (by simp)) (by simp)
        · obtain ⟨e1, _⟩ := ok b _ n
          obtain ⟨e2, _⟩ := ok' b _ (un.frzs b ob _ n)
          rw [e] at e1
          cases e1
          exact e2
  cases hk : K.lookup a with
  | some o =>
    have e := KX a o hk
    rw [ha] at e
    cases e
    refine main (fun _ => none) (fun _ => .inl rfl) (.inr ⟨_, vs.toArray, _, hk, rfl, rfl, rfl, ?_, by simpa using rv⟩) (fun b u z => ?_) fun b z => absurd rfl z
    · rw [List.size_toArray, lenV]
      exact hl
    · have z' : (none : Option HO) = some u := z
      cases z'
  | none =>
    have at1 : ∀ b, b ≠ a → (fun c => if c = a then some (HO.frz { cls := .type "list", data := .seq vs.toArray } (.lst (ns.map V.int))) else none) b = none := fun b hb => if_neg hb
    refine main (fun c => if c = a then some (.frz { cls := .type "list", data := .seq vs.toArray } (.lst (ns.map V.int))) else none) (fun b => ?_) (.inl (.inr ⟨{ cls := .type "list", data := .seq vs.toArray }, if_pos rfl⟩)) (fun b u z => ?_) (fun b z => ?_)
    · by_cases hb : b = a
      · exact .inr ⟨_, _, if_pos hb⟩
      · exact .inl (if_neg hb)
    · by_cases hb : b = a
      · have z' := (if_pos hb).symm.trans z
        cases z'
        subst hb
        exact ⟨ha, by rw [List.length_map]; exact hl, vs, _, rv, ha⟩
      · have z' := (if_neg hb).symm.trans z
        cases z'
    · by_cases hb : b = a
      · exact ⟨hb, hk⟩
      · exact absurd (if_neg hb) z
/-- the goal behind the head, from the law's promise -/
theorem walkG {l : PySem.W.OpenLaw} {n k : Nat} {q : Program} {loose : List Str} {XP : (Str → Option Value) → Heap → Prop} {YP : World → Heap → Prop} {d : DefRec} {K : Params → PySem.W.Frag} {sp : World → Sp} {x : Str}
    (hn : l.most = some n) (hn2 : n ≤ sizeLine) (hdf : d.params.defaults = []) (hr : Room k callerA) (hY : ∀ (w : World) (h : Heap), YP w h → (K w.params).In h)
    (F : ∀ (w : World) (mg : Str → Option Value) (fa : Addr) (h : Heap), (K w.params).In h → h.Ns mainGlobals mg → mg d.name = some (.ref fa) →
      ∃ fd : FuncData, (∀ (s : Shared) (u : Value), BindsTo s fd ⟨[u], []⟩ [(x, u)]) ∧
        ∀ base : Heap, (K w.params).In base → base.Ns mainGlobals mg → FnG l.prog w (K w.params) mg base k fa fd [x] (sp w))
    (hsp : ∀ (w : World) (H : Hp) (a : Addr) (ns : List Int), ns.length ≤ n → Only H → SqL (K w.params) H a (ns.map V.int) → sp w [.ref a] H (fun v _ => v = .bl true) fun _ _ _ => False) :
    PySem.W.WalkO q loose XP YP l.row.toRowW d [] (fun f vs => PySem.call f vs) := by
  refine Att.attach_call hn hdf fun w s0 s1 mg mb fa o pm cd doc a vs ns G Y ho hd hcd hmg obj its len hg => ?_
  have KX := hY w _ Y
  obtain ⟨fd, hb, hF⟩ := F w mg fa _ KX G.T.g hmg
  exact lawCall KX G.T.g G.T.b G.T.builtins G.T.nolimit hg obj its (Nat.le_trans len hn2) hr hF hb fun H hO hS => hsp w H a ns len hO hS
end L2.Und
end

section
set_option Elab.async false
set_option linter.all false
set_option maxRecDepth 100000
set_option maxHeartbeats 4000000
namespace L2.Und
open PySem PySem.Spec PyProof.Rows _root_.Und
abbrev topS (i : Nat) : Stmt := PySem.Challenge.pw_undoamid_k01_errors_and_their_attributes.main.body.getD i (.Pass ⟨0, 0, 0, 0⟩)
abbrev sDeal : Stmt := topS 16
abbrev sDraw : Stmt := topS 17
abbrev nDeal : List Str := ["_law_script", "_law_base", "_law_cell", "_law_cells", "_law_mixed"]
abbrev nDraw : List Str := ["_law_deal_here", "_law_many", "_law_left", "_law_digit"]
theorem scDeal : FnScope nDeal ["_law_script", "_law_base"] (defScope sDeal) := ⟨rfl, rfl, rfl, by decide +kernel, rfl, by decide +kernel, by decide +kernel⟩
theorem scDraw : FnScope nDraw ["_law_deal_here", "_law_many"] (defScope sDraw) := ⟨rfl, rfl, rfl, by decide +kernel, rfl, by decide +kernel, by decide +kernel⟩
/-- the source of draws: the list at d, of the list of great cells at c and the mixed number -/
def Deal (H : Hp) (d c : Addr) : Prop := d ≠ c ∧ ∃ (xs : List Int) (m : Int), H d = some (.lst [.ref c, .int m]) ∧ H c = some (.lst (xs.map V.int)) ∧ (∀ x ∈ xs, 0 < x) ∧ xs.length ≤ 1000 ∧ 0 ≤ m
/-- all but the source stands -/
def Kept (d c : Addr) (H H' : Hp) : Prop := ∀ b o, b ≠ d → b ≠ c → H b = some o → H' b = some o
theorem Kept.refl (d c : Addr) (H : Hp) : Kept d c H H := fun _ _ _ _ h => h
theorem Kept.trans {d c : Addr} {H H1 H2 : Hp} (x : Kept d c H H1) (y : Kept d c H1 H2) : Kept d c H H2 := fun b o h1 h2 h => y b o h1 h2 (x b o h1 h2 h)
def spDraw : Sp := fun vs H Q _ => ∃ (d c : Addr) (n : Int), vs = [.ref d, .int n] ∧ Deal H d c ∧ 0 < n ∧ n.natAbs < 2 ^ 200 ∧ ∀ (r : Int) (H' : Hp), 0 ≤ r → r < n → Deal H' d c → Kept d c H H' → Q (.int r) H'
theorem atI_last {xs : List V} {y : V} (h : xs[xs.length - 1]? = some y) (hn : xs ≠ []) : atI xs ((xs.length : Int) - 1) = some y := by
  have hp : 0 < xs.length := List.length_pos_iff.mpr hn
  have e : (xs.length : Int) - 1 = ((xs.length - 1 : Nat) : Int) := by omega
  rw [e]
  exact atI_nat h
theorem dpAllInts {K : PySem.W.Frag} {H : Hp} : ∀ xs : List Int, DpAll K H (xs.map V.int) (xs.map PyData.int)
  | [] => .nil
  | x :: xs => .cons (.int x) (dpAllInts xs)
theorem dpInts {K : PySem.W.Frag} {H : Hp} {c : Addr} {xs : List Int} (h : SqL K H c (xs.map V.int)) : Dp K H (.ref c) (.list (xs.map PyData.int)) := .lst h (dpAllInts xs)
theorem layInts : ∀ xs : List Int, PyData.canLayAll0 (xs.map PyData.int) = true
  | [] => by simp [PyData.canLayAll0]
  | x :: xs => by simp [PyData.canLayAll0, PyData.canLay0, layInts xs]
theorem depInts : ∀ xs : List Int, PyData.depthAll (xs.map PyData.int) = 0
  | [] => by simp [PyData.depthAll]
  | x :: xs => by simp [PyData.depthAll, PyData.depth, depInts xs]
theorem shapedInts (xs : List Int) : SeqAt.shaped (.list (xs.map PyData.int)) = true := by
  have h := depInts xs
  show (PyData.canLay0 (.list (xs.map PyData.int)) && decide (PyData.depth (.list (xs.map PyData.int)) ≤ 64)) = true
  rw [Bool.and_eq_true]
  refine ⟨by simp only [PyData.canLay0]; exact layInts xs, decide_eq_true ?_⟩
  simp only [PyData.depth]
  omega
section
variable {P : Program} {w : World} {K : PySem.W.Frag} {mg : Str → Option Value} {base : Heap}
theorem okDraw {f : Addr} {fd : FuncData} (F : Fun K "_law_draw" "_law_draw" sDraw f fd) (ml : mg "len" = none) : FnOk P w K mg base CX0 1 f fd ["_law_deal_here", "_law_many"] spDraw := by
  refine F.ok scDraw (fun vs H Q E h => ?_) (fun cdv A outer s H vs Q E hr h => ?_)
  · obtain ⟨d, c, n, rfl, _⟩ := h
    rfl
  have hu : (A.deeper (envOfC "_law_draw" (defScope sDraw) s.heap.objs.size f cdv)).units + 64 < cLine := by have := hr.un; omega
  refine ⟨_, pss_cons (ps_if (pt_cmpR (op_neD hu) (pe_ix ix_list (pv 0) pe_int (fun _ _ => rfl)) (pe_lst pa_nil) (nomark _))
      (pss_cons (ps_set (i := 2) scDraw.nd rfl (Or.inl rfl) (pe_ix ix_list (pe_ix ix_list (pv 0) pe_int (fun _ _ => rfl)) (pe_op op_sub (pe_callB call_len_seq rfl ml PySem.boot_len (pa_cons (pe_ix ix_list (pv 0) pe_int (fun _ _ => rfl)) pa_nil)) pe_int) (fun _ _ => rfl)))
      (pss_cons (ps_set (i := 3) scDraw.nd rfl (Or.inl rfl) (pe_op op_mod (pv 2) (pv 1)))
      (pss_cons (ps_if (pt_cmpR op_gt (pe_op op_fdivW (pv 2) (pv 1)) pe_int (nomark _))
          (pss_one (ps_asg (pe_op op_fdivW (pv 2) (pv 1)) (pg_sub (pe_ix ix_list (pv 0) pe_int (fun _ _ => rfl)) (pe_op op_sub (pe_callB call_len_seq rfl ml PySem.boot_len (pa_cons (pe_ix ix_list (pv 0) pe_int (fun _ _ => rfl)) pa_nil)) pe_int) set_list)))
          (pss_one (ps_expr (pe_bm0 PySem.F.plainAttrs_list PySem.F.slot_list_pop PySem.F.type_list_pop mt_pop (pe_ix ix_list (pv 0) pe_int (fun _ _ => rfl))))))
      (pss_one (ps_ret (pv 3)))))) pss_nil)
    (pss_cons (ps_asg (pe_op op_mod (pe_op op_add (pe_op op_mul (pe_ix ix_list (pv 0) pe_int (fun _ _ => rfl)) pe_int) pe_int) pe_int) (pg_sub (pv 0) pe_int set_list))
    (pss_one (ps_ret (pe_op op_mod (pe_op op_fdiv (pe_ix ix_list (pv 0) pe_int (fun _ _ => rfl)) pe_int) (pv 1))))), ?_⟩
  obtain ⟨d, c, n, rfl, ⟨hdc, xs, m, hd, hc, pos, len, m0⟩, n0, nb, q⟩ := h
  have at0 : atI [V.ref c, .int m] 0 = some (.ref c) := rfl
  have at1 : atI [V.ref c, .int m] 1 = some (.int m) := rfl
  refine ⟨_, rfl, d, _, 0, _, rfl, rfl, SqL.of hd, at0, (by show 0 ≤ sizeLine; decide), fun p hp => ?_⟩
  have dp : d ≠ p := ne_of_none hd hp
  have cp : c ≠ p := ne_of_none hc hp
  have same : Same H (upd H p (.lst [])) := fun b o e => by rw [upd_ne (ne_of_none e hp)]; exact e
  have hd1 := same _ _ hd
  have hc1 := same _ _ hc
  have hp1 : upd H p (HO.lst []) p = some (HO.lst []) := upd_same
  have wd : CDivW (xs.getLast?.getD 0) n := wide_div n0 nb (by decide) (by decide)
  generalize upd H p (.lst []) = H1 at same hd1 hc1 hp1
  refine ⟨.list (xs.map PyData.int), .list [], dpInts (SqL.of hc1), .lst (SqL.of hp1) .nil, shapedInts xs, by decide +kernel, _, rfl, ?_⟩
  refine ite2 (fun t => ?_) (fun t => ?_)
  · have ne : xs ≠ [] := by
      intro z
      subst z
      revert t
      decide +kernel
    obtain ⟨y, hy⟩ : ∃ y, xs[xs.length - 1]? = some y := by
      have hp : 0 < xs.length := List.length_pos_iff.mpr ne
      exact ⟨xs[xs.length - 1], List.getElem?_eq_getElem (by omega)⟩
    have ym : y ∈ xs := List.mem_of_getElem? hy
    have y0 := pos y ym
    have hy1 : (xs.map V.int)[(xs.map V.int).length - 1]? = some (V.int y) := by rw [List.length_map, List.getElem?_map, hy]; rfl
    have ne1 : xs.map V.int ≠ [] := by simpa using ne
    have at2 := atI_last hy1 ne1
    have wy : CDivW y n := wide_div n0 nb (by decide) (by decide)
    have r0 : 0 ≤ y % n := Int.emod_nonneg _ (by omega)
    have rn : y % n < n := Int.emod_lt_of_pos _ n0
    refine ⟨_, rfl, d, _, 0, _, rfl, rfl, SqL.of hd1, at0, _, rfl, d, _, 0, _, rfl, rfl, SqL.of hd1, at0, c, _, rfl, .inl (SqL.of hc1), _, _, rfl, rfl, c, _, _, _, rfl, rfl, SqL.of hc1, at2, ?_⟩
    refine ⟨_, rfl, _, rfl, _, _, rfl, rfl, n0, ?_⟩
    refine ⟨_, rfl, _, rfl, _, _, rfl, rfl, wy, _, _, rfl, rfl, _, rfl, ?_⟩
    refine ite2 (fun g => ?_) (fun g => ?_)
    · have g0 : 0 < y / n := of_decide_eq_true g
      have hl := List.length_pos_iff.mpr ne1
      have ix : ixN (xs.map V.int).length (((xs.map V.int).length : Int) - 1) = some ((xs.map V.int).length - 1) := by
        unfold ixN
        rw [if_pos (by omega), if_pos (by omega)]
        exact congrArg some (by omega)
      refine ⟨_, rfl, _, rfl, _, _, rfl, rfl, wy, _, rfl, d, _, 0, _, rfl, rfl, SqL.of hd1, at0, _, rfl, d, _, 0, _, rfl, rfl, SqL.of hd1, at0, c, _, rfl, .inl (SqL.of hc1), _, _, rfl, rfl, c, _, _, _, rfl, rfl, hc1, ix, _, rfl, ?_⟩
      refine q _ _ r0 rn ⟨hdc, xs.set ((xs.map V.int).length - 1) (y / n), m, ?_, ?_, ?_, ?_, m0⟩ (fun b o b1 b2 e => ?_)
      · rw [upd_ne hdc]
        exact hd1
      · rw [upd_same, List.map_set]
      · intro x hx
        rcases List.mem_or_eq_of_mem_set hx with z | z
        · exact pos x z
        · rw [z]
          exact g0
      · rw [List.length_set]
        exact len
      · rw [upd_ne b2]
        exact same b o e
    · refine ⟨_, rfl, d, _, 0, _, rfl, rfl, SqL.of hd1, at0, .inl ⟨rfl, _, SqL.of hc1⟩, c, _, _, rfl, rfl, hc1, hy1, _, rfl, ?_⟩
      refine q _ _ r0 rn ⟨hdc, xs.dropLast, m, ?_, ?_, ?_, ?_, m0⟩ (fun b o b1 b2 e => ?_)
      · rw [upd_ne hdc]
        exact hd1
      · rw [upd_same, List.map_dropLast]
      · intro x hx
        exact pos x (List.dropLast_subset _ hx)
      · rw [List.length_dropLast]
        omega
      · rw [upd_ne b2]
        exact same b o e
  · refine ⟨_, rfl, d, _, 1, _, rfl, rfl, SqL.of hd1, at1, _, _, rfl, rfl, .inr (by decide), _, _, rfl, rfl, _, _, rfl, rfl, (by show (0 : Int) < 2147483647; decide), _, rfl, d, _, 1, 1, rfl, rfl, hd1, rfl, ?_⟩
    have z0 : (0 : Int) ≤ (m * 48271 + 11) % 2147483647 := Int.emod_nonneg _ (by decide)
    have e1 : [V.ref c, .int m].set 1 (.int ((m * 48271 + 11) % 2147483647)) = [V.ref c, .int ((m * 48271 + 11) % 2147483647)] := rfl
    rw [e1]
    generalize (m * 48271 + 11) % 2147483647 = m1 at z0
    have at3 : atI [V.ref c, .int m1] 1 = some (.int m1) := rfl
    refine ⟨_, rfl, d, _, 1, _, rfl, rfl, SqL.of upd_same, at3, _, _, rfl, rfl, ⟨by decide, by decide⟩, _, rfl, _, _, rfl, rfl, n0, ?_⟩
    refine q _ _ (Int.emod_nonneg _ (by omega)) (Int.emod_lt_of_pos _ n0) ⟨hdc, xs, m1, upd_same, ?_, pos, len, z0⟩ (fun b o b1 b2 e => ?_)
    · rw [upd_ne (Ne.symm hdc)]
      exact hc1
    · rw [upd_ne b1]
      exact same b o e
end
end L2.Und
end

section
set_option Elab.async false
set_option linter.all false
set_option maxRecDepth 100000
set_option maxHeartbeats 4000000
namespace L2.Und
open PySem PySem.Spec PyProof.Rows _root_.Und
def spDeal (K : PySem.W.Frag) : Sp := fun vs H Q _ => ∃ (a : Addr) (ns : List Int) (b : Int), vs = [.ref a, .int b] ∧ SqL K H a (ns.map V.int) ∧ ns.length ≤ 63 ∧ 0 ≤ b ∧ b ≤ 100 ∧
  ∀ (d c : Addr) (H' : Hp), Same H H' → H d = none → H c = none → Deal H' d c → Q (.ref d) H'
/-- the greater one of x and 0 - x -/
def absI (x : Int) : Int := if 0 - x > x then 0 - x else x
theorem absI_nn (x : Int) : 0 ≤ absI x := by
  unfold absI
  split <;> omega
theorem sameNew {H : Hp} {p : Addr} {o : HO} (h : H p = none) : Same H (upd H p o) := fun b u e => by rw [upd_ne (ne_of_none e h)]; exact e
theorem cut_ints (ns : List Int) (lo hi : Option Int) : ∃ zs : List Int, cutV (ns.map V.int) lo hi = zs.map V.int ∧ zs.length ≤ ns.length := by
  unfold cutV
  refine ⟨(ns.drop (HT.sIx (ns.map V.int).length 0 lo)).take (HT.sIx (ns.map V.int).length (ns.map V.int).length hi - HT.sIx (ns.map V.int).length 0 lo), ?_, ?_⟩
  · rw [List.map_take, List.map_drop]
  · rw [List.length_take, List.length_drop]
    omega
theorem fits {n : Nat} (h : n ≤ 1000) : n ≤ sizeLine := Nat.le_of_lt (small1000 h)
section
variable {P : Program} {w : World} {K : PySem.W.Frag} {mg : Str → Option Value} {base : Heap}
theorem okDeal {f : Addr} {fd : FuncData} (F : Fun K "_law_deal" "_law_deal" sDeal f fd) (mm : mg "max" = none) : FnOk P w K mg base CX0 1 f fd ["_law_script", "_law_base"] (spDeal K) := by
  refine F.ok scDeal (fun vs H Q E h => ?_) (fun cdv A outer s H vs Q E hr h => ?_)
  · obtain ⟨a, ns, b, rfl, _⟩ := h
    rfl
  refine ⟨_, pss_cons (ps_setLc (i := 3) (own := [("_law_cell", 2)]) (g := gName 2) (tt := tYes) rfl scDeal.nd rfl rfl (sw_true rfl rfl rfl (by decide +kernel))
        (pi_list (pe_slice sl_list (pv 0) (po_some (pv 1)) (po_some pe_int))) (blkOk_by (N := nDeal) (sc := defScope sDeal) (by decide +kernel))
        (fun _ _ _ _ _ => pg_name (i := 2) scDeal.nd rfl (Or.inl rfl)) (fun _ _ _ _ _ => pts_nil)
        (fun _ _ _ _ _ => pe_callB (call_max2 rfl) rfl mm PyProof.Rows.Boot.«max» (pa_cons (pv 2) (pa_cons (pe_op op_sub pe_int (pv 2)) pa_nil))))
    (pss_cons (ps_set (i := 4) scDeal.nd rfl (Or.inl rfl) (pe_op op_add pe_int (pe_op op_mul pe_int (pv 1))))
    (pss_cons (ps_for PassesOwn.never rfl (pi_list (pv 3)) (pg_name (i := 2) scDeal.nd rfl (Or.inl rfl))
        (pss_one (ps_set (i := 4) scDeal.nd rfl (Or.inl rfl) (pe_op op_mod (pe_op op_add (pe_op op_mul (pv 4) pe_int) (pe_op op_mod (pv 2) pe_int)) pe_int))))
    (pss_one (ps_ret (pe_lst (pa_cons (pe_revL (pe_lc (own := [("_law_cell", 2)]) (g := gName 2) rfl scDeal.nd (pi_list (pv 3)) (blkOk_by (N := nDeal) (sc := defScope sDeal) (by decide +kernel))
        (fun _ _ _ _ _ => pg_name (i := 2) scDeal.nd rfl (Or.inl rfl)) (fun _ _ _ _ _ => pts_one (pt_cmpR op_ge (pv 2) (pe_op op_pow pe_int pe_int) (nomark _)))
        (fun _ _ _ _ _ => pv 2))) (pa_cons (pv 4) pa_nil))))))), ?_⟩
  obtain ⟨a, ns, b, rfl, hS, h63, b0, b1, q⟩ := h
  obtain ⟨zs, hz, hzl⟩ := cut_ints ns (some b) (some 63)
  refine ⟨_, rfl, _, rfl, _, rfl, _, rfl, a, _, rfl, hS, fun p hp => ?_⟩
  rw [hz]
  have s0 : Same H (upd H p (.lst (zs.map V.int))) := sameNew hp
  refine ⟨p, rfl, ⟨_, SqL.of upd_same⟩, fun D hD => ?_⟩
  have hp1 : upd H p (HO.lst (zs.map V.int)) p = some (.lst (zs.map V.int)) := upd_same
  generalize upd H p (.lst (zs.map V.int)) = H1 at s0 hD hp1
  refine lc_list (K := K) (a := p) (xs := zs.map V.int) (fun i H' => Same H1 H' ∧ H' D = some (.lst ((zs.take i).map fun x => V.int (absI x)))) ⟨sameNew hD, upd_same⟩
    (fun i H' _ h => SqL.of (h.1 _ _ hp1)) ?_ ?_
  · rintro i x H' hx ⟨g1, g2⟩
    obtain ⟨z, hz, rfl⟩ : ∃ z, zs[i]? = some z ∧ x = V.int z := by
      rw [List.getElem?_map] at hx
      cases e : zs[i]? with
      | none => rw [e] at hx; cases hx
      | some z => rw [e] at hx; exact ⟨z, rfl, (Option.some.inj hx).symm⟩
    refine ⟨rfl, _, rfl, _, rfl, _, _, rfl, rfl, _, _, rfl, _, g2, ?_, ?_, ?_⟩
    · rw [List.length_map]
      exact Nat.lt_of_le_of_lt (Nat.le_trans (List.length_take_le' _ _) (Nat.le_trans hzl h63)) (by decide)
    · intro b' o e
      rw [upd_ne (ne_of_none e hD)]
      exact g1 b' o e
    · rw [upd_same, List.take_succ, hz, List.map_append]
      rfl
  · rintro H2 ⟨g1, g2⟩
    rw [List.length_map, List.take_length] at g2
    have g2 : H2 D = some (.lst ((zs.map absI).map V.int)) := by rw [g2, List.map_map]; rfl
    have s2 : Same H H2 := s0.trans g1
    have nn : ∀ x ∈ zs.map absI, 0 ≤ x := by
      intro x hx
      obtain ⟨z, _, rfl⟩ := List.mem_map.mp hx
      exact absI_nn z
    have nl : (zs.map absI).length ≤ 63 := by rw [List.length_map]; exact Nat.le_trans hzl h63
    generalize zs.map absI = ys at g2 nn nl
    refine ⟨_, rfl, _, _, rfl, rfl, .inl ⟨by decide, by decide⟩, _, _, rfl, rfl, ?_⟩
    refine ⟨_, rfl, D, rfl, ⟨_, SqL.of g2⟩, for_list (K := K) (a := D) (xs := ys.map V.int)
      (fun _ σ H' => H' = H2 ∧ ∃ (v : Option V) (m : Int), σ = [some (.ref a), some (.int b), v, some (.ref D), some (.int m)] ∧ 0 ≤ m) ⟨rfl, none, _, rfl, by omega⟩
      (fun i σ H' _ h => by rw [h.1]; exact SqL.of g2) ?_ ?_⟩
    · rintro i x σ H' hx ⟨rfl, v, m, rfl, m0⟩
      obtain ⟨z, rfl⟩ : ∃ z, x = V.int z := by
        rw [List.getElem?_map] at hx
        cases e : ys[i]? with
        | none => rw [e] at hx; cases hx
        | some z => rw [e] at hx; exact ⟨z, (Option.some.inj hx).symm⟩
      refine ⟨_, rfl, _, _, rfl, rfl, .inr ⟨by decide, by decide⟩, _, rfl, _, _, rfl, rfl, (by show (0 : Int) < 2147483629; decide), _, _, rfl, rfl, _, _, rfl, rfl, (by show (0 : Int) < 2147483647; decide), ?_⟩
      exact ⟨rfl, _, _, rfl, Int.emod_nonneg _ (by decide)⟩
    · rintro σ H' ⟨rfl, v, m, rfl, m0⟩
      refine ⟨_, rfl, D, rfl, ⟨_, SqL.of g2⟩, fun D2 hD2 => ?_⟩
      refine lc_list (K := K) (a := D) (xs := ys.map V.int) (fun i H3 => Same H' H3 ∧ ∃ us : List Int, H3 D2 = some (.lst (us.map V.int)) ∧ us.length ≤ i ∧ ∀ x ∈ us, 0 < x) ⟨sameNew hD2, [], upd_same, Nat.le_refl _, fun x hx => nomatch hx⟩
        (fun i H3 _ h => SqL.of (h.1 _ _ g2)) ?_ ?_
      · rintro i x H3 hx ⟨k1, us, k2, k3, k4⟩
        obtain ⟨z, hz, rfl⟩ : ∃ z, ys[i]? = some z ∧ x = V.int z := by
          rw [List.getElem?_map] at hx
          cases e : ys[i]? with
          | none => rw [e] at hx; cases hx
          | some z => rw [e] at hx; exact ⟨z, rfl, (Option.some.inj hx).symm⟩
        refine ⟨rfl, _, rfl, _, _, rfl, rfl, ⟨by decide, by decide, by decide⟩, _, _, rfl, rfl, _, rfl, ?_⟩
        refine ite2 (fun t => ?_) (fun t => ?_)
        · have t0 : (10 : Int) ^ (18 : Int).toNat ≤ z := of_decide_eq_true t
          refine ⟨_, rfl, _, k2, ?_, ?_, us ++ [z], ?_, ?_, ?_⟩
          · have := (List.getElem?_eq_some_iff.mp hz).1
            rw [List.length_map]
            exact Nat.lt_of_le_of_lt (Nat.le_trans k3 (by omega : i ≤ 63)) (by decide)
          · intro b' o e
            rw [upd_ne (ne_of_none e hD2)]
            exact k1 b' o e
          · rw [upd_same, List.map_append]
            rfl
          · rw [List.length_append, List.length_singleton]
            omega
          · intro x hx
            rcases List.mem_append.mp hx with hx | hx
            · exact k4 x hx
            · rw [List.mem_singleton.mp hx]
              exact Int.lt_of_lt_of_le (by decide) t0
        · exact ⟨k1, us, k2, by omega, k4⟩
      · rintro H3 ⟨k1, us, k2, k3, k4⟩
        rw [List.length_map] at k3
        refine ⟨D2, _, rfl, SqL.of k2, fun c hc => ⟨_, rfl, (by show 2 ≤ sizeLine; decide), fun d hd => ?_⟩⟩
        have dc : d ≠ c := fun z => by
          rw [z, upd_same] at hd
          cases hd
        have hd3 : H3 d = none := by rw [upd_ne dc] at hd; exact hd
        have sF : Same H (upd (upd H3 c (.lst (us.map V.int).reverse)) d (.lst [.ref c, .int m])) := s2.trans (k1.trans ((sameNew hc).trans (sameNew hd)))
        refine q d c _ sF ((s2.trans k1).free hd3) ((s2.trans k1).free hc) ⟨dc, us.reverse, m, upd_same, ?_, ?_, ?_, m0⟩
        · rw [upd_ne (Ne.symm dc), upd_same, List.map_reverse]
        · intro x hx
          exact k4 x (List.mem_reverse.mp hx)
        · rw [List.length_reverse]
          omega
end
end L2.Und
end

section
set_option Elab.async false
set_option linter.all false
set_option maxRecDepth 100000
set_option maxHeartbeats 4000000
namespace L2.Und
open PySem PySem.Spec PyProof.Rows _root_.Und
/-! ### data that can be shown -/
def bound : Nat → Nat
  | 0 => 100
  | k + 1 => 3 * bound k + 40
structure Nice (k : Nat) (t : PyData) : Prop where
  sh : t.showable = true
  nd : t.hasDict = false
  dp : t.depth ≤ 2 * k
  ln : t.shown.length ≤ bound k
theorem bound_le {j k : Nat} (h : j ≤ k) : bound j ≤ bound k := by
  induction h with
  | refl => exact Nat.le_refl _
  | step _ ih => exact Nat.le_trans ih (by rw [show ∀ m, bound (m + 1) = 3 * bound m + 40 from fun _ => rfl]; omega)
theorem Nice.mono {j k : Nat} {t : PyData} (x : Nice j t) (h : j ≤ k) : Nice k t := ⟨x.sh, x.nd, by have := x.dp; omega, Nat.le_trans x.ln (bound_le h)⟩
theorem niceNone : Nice 0 .none := ⟨by decide +kernel, by decide +kernel, by decide +kernel, by decide +kernel⟩
theorem niceBool (b : Bool) : Nice 0 (.bool b) := by cases b <;> exact ⟨by decide +kernel, by decide +kernel, by decide +kernel, by decide +kernel⟩
theorem niceS0 : Nice 0 (.str "") := ⟨by decide +kernel, by decide +kernel, by decide +kernel, by decide +kernel⟩
theorem niceS1 : Nice 0 (.str "a b") := ⟨by decide +kernel, by decide +kernel, by decide +kernel, by decide +kernel⟩
theorem niceS2 : Nice 0 (.str "zz") := ⟨by decide +kernel, by decide +kernel, by decide +kernel, by decide +kernel⟩
theorem niceInt (i : Int) (h : i.natAbs.log2 < 80) : Nice 0 (.int i) := by
  refine ⟨?_, by simp [PyData.hasDict], by simp [PyData.depth], ?_⟩
  · simp only [PyData.showable]
    exact decide_eq_true (by omega)
  · have q := int_text_length_le (a := i) (k := 80) (by decide) h
    simp only [PyData.shown]
    show (PySem.Str.ofString (toString i)).length ≤ 100
    rw [PySem.ofString_length]
    omega
theorem showAll {k : Nat} : ∀ {ts : List PyData}, (∀ t ∈ ts, Nice k t) → PyData.showableAll ts = true ∧ PyData.hasDictAll ts = false ∧ PyData.depthAll ts ≤ 2 * k ∧ ((PyData.shownAll ts).map (·.length)).sum ≤ ts.length * bound k ∧ (PyData.shownAll ts).length = ts.length
  | [], _ => by simp [PyData.showableAll, PyData.hasDictAll, PyData.depthAll, PyData.shownAll]
  | t :: ts, h => by
    have a := h t List.mem_cons_self
    obtain ⟨h1, h2, h3, h4, h5⟩ := showAll (k := k) (ts := ts) fun u hu => h u (List.mem_cons_of_mem _ hu)
    refine ⟨?_, ?_, ?_, ?_, ?_⟩
    · simp only [PyData.showableAll, a.sh, h1, Bool.and_true]
    · simp only [PyData.hasDictAll, a.nd, h2, Bool.or_false]
    · simp only [PyData.depthAll]
      have := a.dp
      omega
    · simp only [PyData.shownAll, List.map_cons, List.sum_cons, List.length_cons, Nat.add_mul, Nat.one_mul]
      have := a.ln
      omega
    · simp only [PyData.shownAll, List.length_cons, h5]
theorem three {n b : Nat} (h : n ≤ 3) : n * b ≤ 3 * b := Nat.mul_le_mul_right b h
theorem niceList {k : Nat} {ts : List PyData} (h3 : ts.length ≤ 3) (h : ∀ t ∈ ts, Nice k t) : Nice (k + 1) (.list ts) ∧ (PyData.list ts).depth ≤ 2 * k + 1 ∧ (PyData.list ts).shown.length ≤ 3 * bound k + 9 := by
  obtain ⟨h1, h2, h4, h5, h6⟩ := showAll h
  have z := three (b := bound k) h3
  have l := listText_len_le (PyData.shownAll ts)
  have l2 : (PyData.list ts).shown.length ≤ 3 * bound k + 9 := by
    simp only [PyData.shown]
    omega
  have d : (PyData.list ts).depth ≤ 2 * k + 1 := by
    simp only [PyData.depth]
    omega
  refine ⟨⟨by simp only [PyData.showable]; exact h1, by simp only [PyData.hasDict]; exact h2, by omega, ?_⟩, d, l2⟩
  rw [show bound (k + 1) = 3 * bound k + 40 from rfl]
  omega
theorem niceTup {k : Nat} {ts : List PyData} (h3 : ts.length ≤ 3) (h : ∀ t ∈ ts, Nice k t) : Nice (k + 1) (.tuple ts) := by
  obtain ⟨h1, h2, h4, h5, h6⟩ := showAll h
  have z := three (b := bound k) h3
  have l := tupleText_len_le (PyData.shownAll ts)
  refine ⟨by simp only [PyData.showable]; exact h1, by simp only [PyData.hasDict]; exact h2, by simp only [PyData.depth]; omega, ?_⟩
  rw [show bound (k + 1) = 3 * bound k + 40 from rfl]
  simp only [PyData.shown]
  omega
theorem niceWrap {k : Nat} {ts : List PyData} (h3 : ts.length ≤ 3) (h : ∀ t ∈ ts, Nice k t) : Nice (k + 1) (.tuple [.list ts]) := by
  obtain ⟨a, b, c⟩ := niceList h3 h
  have l := tupleText_len_le [(PyData.list ts).shown]
  refine ⟨?_, ?_, ?_, ?_⟩
  · simp only [PyData.showable, PyData.showableAll, Bool.and_true]
    have z := a.sh
    simp only [PyData.showable] at z
    exact z
  · simp only [PyData.hasDict, PyData.hasDictAll, Bool.or_false]
    have z := a.nd
    simp only [PyData.hasDict] at z
    exact z
  · have e : (PyData.tuple [PyData.list ts]).depth = (PyData.list ts).depth + 1 := by
      rw [show (PyData.tuple [PyData.list ts]).depth = PyData.depthAll [PyData.list ts] + 1 from by simp only [PyData.depth]]
      rw [show PyData.depthAll [PyData.list ts] = max (PyData.list ts).depth (PyData.depthAll []) from by simp only [PyData.depthAll]]
      rw [show PyData.depthAll [] = 0 from by simp only [PyData.depthAll]]
      omega
    omega
  · rw [show bound (k + 1) = 3 * bound k + 40 from rfl]
    have e : (PyData.tuple [PyData.list ts]).shown = tupleText [(PyData.list ts).shown] := by simp only [PyData.shown, PyData.shownAll]
    rw [e]
    simp only [List.map_cons, List.map_nil, List.sum_cons, List.sum_nil, List.length_cons, List.length_nil] at l
    omega
/-! ### data in a heap that goes on -/
theorem Same.tup {K : PySem.W.Frag} {H H' : Hp} {a : Addr} {xs : List V} (e : Same H H') (h : SqT K H a xs) : SqT K H' a xs := by
  rcases h with (h | ⟨o, h⟩) | h
  · exact .inl (.inl (e _ _ h))
  · exact .inl (.inr ⟨o, e _ _ h⟩)
  · exact .inr h
mutual
theorem dpSame {K : PySem.W.Frag} {H H' : Hp} (e : Same H H') : ∀ (d : PyData) (v : V), Dp K H v d → Dp K H' v d
  | .none, _, h => by cases h; exact .non
  | .bool _, _, h => by cases h; exact .bl _
  | .int _, _, h => by cases h; exact .int _
  | .str _, _, h => by cases h; exact .str _
  | .list ds, _, h => by
    cases h with
    | lst hs ha => exact .lst (e.seq hs) (dpSameAll e ds _ ha)
  | .tuple ds, _, h => by
    cases h with
    | tup hs ha => exact .tup (Same.tup e hs) (dpSameAll e ds _ ha)
  | .dict _, _, h => by cases h
theorem dpSameAll {K : PySem.W.Frag} {H H' : Hp} (e : Same H H') : ∀ (ds : List PyData) (vs : List V), DpAll K H vs ds → DpAll K H' vs ds
  | [], _, h => by cases h; exact .nil
  | d :: ds, _, h => by
    cases h with
    | cons h1 h2 => exact .cons (dpSame e d _ h1) (dpSameAll e ds _ h2)
end
/-- the objects of H' that are not in H -/
def newIn (H H' : Hp) : Hp := fun b => if (H b).isSome = true then none else H' b
theorem newIn_at {H H' : Hp} {b : Addr} {o : HO} (h : H b = none) (h' : H' b = some o) : newIn H H' b = some o := by
  unfold newIn
  rw [h]
  exact h'
theorem newIn_get {H H' : Hp} {b : Addr} {o : HO} (h : newIn H H' b = some o) : H b = none ∧ H' b = some o := by
  unfold newIn at h
  cases z : H b with
  | none =>
    rw [z] at h
    exact ⟨rfl, h⟩
  | some u =>
    rw [z] at h
    cases h
theorem newIn_in {H H' : Hp} : Same (newIn H H') H' := fun _ _ e => (newIn_get e).2
theorem newIn_on {H H' H2 : Hp} (k : ∀ b o, H b = none → H' b = some o → H2 b = some o) : Same (newIn H H') (newIn H H2) := fun b o e =>
  let ⟨h1, h2⟩ := newIn_get e
  newIn_at h1 (k b o h1 h2)
theorem newIn_back {H H1 H' : Hp} (k : ∀ b, H1 b = none → H b = none) : Same (newIn H1 H') (newIn H H') := fun b o e =>
  let ⟨h1, h2⟩ := newIn_get e
  newIn_at (k b h1) h2
theorem Kept.of {d c : Addr} {H H' : Hp} (s : Same H H') : Kept d c H H' := fun b o _ _ e => s b o e
theorem Deal.same {H H' : Hp} {d c : Addr} (x : Deal H d c) (s : Same H H') : Deal H' d c := by
  obtain ⟨ne, xs, m, h1, h2, r⟩ := x
  exact ⟨ne, xs, m, s _ _ h1, s _ _ h2, r⟩
theorem Deal.ned {H : Hp} {d c b : Addr} (x : Deal H d c) (h : H b = none) : b ≠ d := by
  obtain ⟨_, _, _, h1, _⟩ := x
  exact Ne.symm (ne_of_none h1 h)
theorem Deal.nec {H : Hp} {d c b : Addr} (x : Deal H d c) (h : H b = none) : b ≠ c := by
  obtain ⟨_, _, _, _, h1, _⟩ := x
  exact Ne.symm (ne_of_none h1 h)
/-- what was free is free in the heap before -/
theorem Kept.none {H H' : Hp} {d c b : Addr} (k : Kept d c H H') (x : Deal H' d c) (h : H' b = none) : H b = none := by
  cases z : H b with
  | none => rfl
  | some o =>
    have q := k b o (x.ned h) (x.nec h) z
    rw [h] at q
    cases q
theorem Kept.new {H0 H H' : Hp} {d c : Addr} (k : Kept d c H H') (x : Deal H0 d c) : Same (newIn H0 H) (newIn H0 H') :=
  newIn_on fun b o h h' => k b o (x.ned h) (x.nec h) h'
theorem Deal.ints {H : Hp} {d c b : Addr} (x : Deal H d c) {o : HO} (h : H b = some o) (h1 : ∀ xs : List Int, o ≠ .lst (xs.map V.int)) (h2 : ∀ m, o ≠ .lst [.ref c, .int m]) : b ≠ d ∧ b ≠ c := by
  obtain ⟨_, xs, m, e1, e2, _⟩ := x
  constructor
  · intro z
    rw [z, e1] at h
    exact h2 m (Option.some.inj h).symm
  · intro z
    rw [z, e2] at h
    exact h1 xs (Option.some.inj h).symm
end L2.Und
end

section
set_option Elab.async false
set_option linter.all false
set_option maxRecDepth 100000
set_option maxHeartbeats 4000000
namespace L2.Und
open PySem PySem.Spec PyProof.Rows _root_.Und
abbrev sAny : Stmt := topS 18
abbrev nAny : List Str := ["_law_deal_here", "_law_deep", "_law_form", "_law_found", "_law_k"]
theorem scAny : FnScope nAny ["_law_deal_here", "_law_deep"] (defScope sAny) := ⟨rfl, rfl, rfl, by decide +kernel, rfl, by decide +kernel, by decide +kernel⟩
/-- any value up to so deep, below n -/
def spAny (K : PySem.W.Frag) (n : Nat) : Sp := fun vs H Q _ => ∃ (d c : Addr) (i : Nat), vs = [.ref d, .int (i : Int)] ∧ i < n ∧ Deal H d c ∧
  ∀ (v : V) (t : PyData) (H' : Hp), Deal H' d c → Kept d c H H' → Dp K (newIn H H') v t → Nice i t → Q v H'
theorem dpSnoc {K : PySem.W.Frag} {H : Hp} {v : V} {t : PyData} : ∀ {vs : List V} {ts : List PyData}, DpAll K H vs ts → Dp K H v t → DpAll K H (vs ++ [v]) (ts ++ [t])
  | _, _, .nil, h => .cons h .nil
  | _, _, .cons h1 h2, h => .cons h1 (dpSnoc h2 h)
theorem dpLen {K : PySem.W.Frag} {H : Hp} : ∀ {vs : List V} {ts : List PyData}, DpAll K H vs ts → vs.length = ts.length
  | _, _, .nil => rfl
  | _, _, .cons _ h => congrArg Nat.succ (dpLen h)
section
variable {P : Program} {w : World} {K : PySem.W.Frag} {mg : Str → Option Value} {base : Heap}
theorem okAny {f fD : Addr} {fd fdD : FuncData} (F : Fun K "_law_any" "_law_any" sAny f fd) (mA : mg "_law_any" = some (.ref f)) (bA : Binds K fd ["_law_deal_here", "_law_deep"] [])
    (GD : FnOk P w K mg base CX0 1 fD fdD ["_law_deal_here", "_law_many"] spDraw) (mD : mg "_law_draw" = some (.ref fD)) (kD : PySem.W.keepIn K (.ref fD) = true) (bD : Binds K fdD ["_law_deal_here", "_law_many"] [])
    (mR : mg "range" = none) (mT : mg "tuple" = none) {n : Nat} (G : FnOk P w K mg base CX0 (n + 1) f fd ["_law_deal_here", "_law_deep"] (spAny K n)) :
    FnOk P w K mg base CX0 (n + 1 + 1) f fd ["_law_deal_here", "_law_deep"] (spAny K (n + 1)) := by
  refine F.ok scAny (fun vs H Q E h => ?_) (fun cdv A outer s H vs Q E hr h => ?_)
  · obtain ⟨d, c, i, rfl, _⟩ := h
    rfl
  have hr1 : Room 1 (A.deeper (envOfC "_law_any" (defScope sAny) s.heap.objs.size f cdv)) := hr.mono (by omega)
  refine ⟨_, pss_cons (ps_set (i := 2) scAny.nd rfl (Or.inl rfl) (pe_call GD hr1 rfl mD kD bD .nil pass0 (pa_cons (pv 0) (pa_cons pe_int pa_nil))))
    (pss_cons (ps_if (pw_and (pt_cmpR op_gt (pv 1) pe_int (nomark _)) (pw_and1 (pt_cmpR op_gt (pv 2) pe_int (nomark _)))).pt
        (pss_cons (ps_setLc (i := 3) (own := [("_law_k", 4)]) (g := gName 4) (tt := tYes) rfl scAny.nd rfl rfl (sw_true rfl rfl rfl (by decide +kernel))
            (pi_range1 rfl mR (pa_cons (pe_call GD hr1 rfl mD kD bD .nil pass0 (pa_cons (pv 0) (pa_cons pe_int pa_nil))) pa_nil)) (blkOk_by (N := nAny) (sc := defScope sAny) (by decide +kernel))
            (fun _ _ _ _ _ => pg_name (i := 4) scAny.nd rfl (Or.inl rfl)) (fun _ _ _ _ _ => pts_nil)
            (fun _ _ _ _ _ => pe_call G hr rfl mA F.kp bA .nil pass0 (pa_cons (pv 0) (pa_cons (pe_op op_sub (pv 1) pe_int) pa_nil))))
        (pss_one (ps_ret (pe_ix ix_list (pe_lst (pa_cons (pv 3) (pa_cons (pe_callTy call_tuple_of rfl mT PyProof.Rows.Boot.«tuple» (pa_cons (pv 3) pa_nil)) (pa_cons (pe_tup (pa_cons (pv 3) pa_nil)) pa_nil)))) (pe_op op_sub (pv 2) pe_int) (fun _ _ => rfl))))) pss_nil)
    (pss_cons (ps_if (pt_cmpR op_eq (pv 2) pe_int (nomark _))
        (pss_one (ps_ret (pe_op op_sub (pe_call GD hr1 rfl mD kD bD .nil pass0 (pa_cons (pv 0) (pa_cons (pe_op op_pow pe_int pe_int) pa_nil))) (pe_op op_mul pe_int (pe_op op_pow pe_int pe_int))))) pss_nil)
    (pss_one (ps_ret (pe_ix ix_list (pe_lst (pa_cons pe_non (pa_cons pe_bl (pa_cons pe_bl (pa_cons pe_str (pa_cons pe_str (pa_cons pe_str pa_nil)))))))
        (pe_call GD hr1 rfl mD kD bD .nil pass0 (pa_cons (pv 0) (pa_cons pe_int pa_nil))) (fun _ _ => rfl)))))), ?_⟩
  obtain ⟨d, c, i, rfl, hi, hD, q⟩ := h
  refine ⟨_, rfl, d, c, 9, rfl, hD, by decide, by decide, fun r H1 r0 r9 hD1 k1 => ?_⟩
  refine ⟨_, rfl, _, _, rfl, rfl, _, rfl, ?_⟩
  refine (fun rest => ite2 (fun a => ⟨_, rfl, _, _, rfl, rfl, _, rfl, ite2 (fun b => ?main) (fun _ => rest)⟩) (fun _ => rest)) ?rest
  case main =>
    have a0 : (0 : Int) < i := of_decide_eq_true a
    have b0 : (5 : Int) < r := of_decide_eq_true b
    refine ⟨_, rfl, d, c, 4, rfl, hD1, by decide, by decide, fun m H2 m0 m4 hD2 k2 => ⟨_, rfl, by omega, by omega, fun D hDn => ?_⟩⟩
    have hN := sameNew (o := .lst []) hDn
    have Dd := hD2.ned hDn
    have Dc := hD2.nec hDn
    have hH := (k1.trans k2).none hD2 hDn
    have hD3 := hD2.same hN
    have hB : upd H2 D (HO.lst []) D = some (.lst []) := upd_same
    have kB : Kept d c H (upd H2 D (.lst [])) := (k1.trans k2).trans (.of hN)
    obtain ⟨HB, eB⟩ : ∃ HB, HB = upd H2 D (HO.lst []) := ⟨_, rfl⟩
    rw [← eB] at hN hD3 hB kB
    refine lc_range (lo := 0) (n := m.toNat) (fun j H' => Deal H' d c ∧ (∀ b o, b ≠ D → b ≠ d → b ≠ c → HB b = some o → H' b = some o) ∧ ∃ (vs : List V) (ts : List PyData), H' D = some (.lst vs) ∧ vs.length = j ∧ DpAll K (newIn HB H') vs ts ∧ ∀ t ∈ ts, Nice (i - 1) t)
      (by rw [← eB]; exact ⟨hD3, fun b o _ _ _ e => e, [], [], hB, rfl, .nil, fun t ht => nomatch ht⟩) ?_ ?_
    · rintro j H' hj ⟨g1, g2, vs, ts, g3, g4, g5, g6⟩
      refine ⟨rfl, _, rfl, _, rfl, _, _, rfl, rfl, d, c, i - 1, ?_, by omega, g1, fun v t H3 h3 k3 dv nv => ⟨vs, k3 D _ Dd Dc g3, ?_, ?_, ?_, ?_⟩⟩
      · show [V.ref d, V.int ((i : Int) - 1)] = _
        rw [show (i : Int) - 1 = ((i - 1 : Nat) : Int) by omega]
      · rw [g4]
        exact Nat.lt_of_lt_of_le (by omega : j < 1000) (fits (Nat.le_refl _))
      · obtain ⟨ne, xs, m', e1, e2, z⟩ := h3
        exact ⟨ne, xs, m', by rw [upd_ne (Ne.symm Dd)]; exact e1, by rw [upd_ne (Ne.symm Dc)]; exact e2, z⟩
      · intro b o b1 b2 b3 e
        rw [upd_ne b1]
        exact k3 b o b2 b3 (g2 b o b1 b2 b3 e)
      · have nn : ∀ b, H' b = none → HB b = none := by
          intro b hb
          cases z : HB b with
          | none => rfl
          | some o =>
            have bD : b ≠ D := fun e => by
              rw [e, g3] at hb
              cases hb
            have q' := g2 b o bD (g1.ned hb) (g1.nec hb) z
            rw [hb] at q'
            cases q'
        have on : Same (newIn HB H3) (newIn HB (upd H3 D (.lst (vs ++ [v])))) := newIn_on fun b o h h' => by
          rw [upd_ne (fun e => by rw [e, hB] at h; cases h)]
          exact h'
        refine ⟨vs ++ [v], ts ++ [t], upd_same, by rw [List.length_append, g4]; rfl, dpSnoc (dpSameAll ((k3.new hD3).trans on) _ _ g5) (dpSame ((newIn_back nn).trans on) _ _ dv), fun u hu => ?_⟩
        rcases List.mem_append.mp hu with hu | hu
        · exact g6 u hu
        · rw [List.mem_singleton.mp hu]
          exact nv
    · rintro H' ⟨g1, g2, vs, ts, g3, g4, g5, g6⟩
      have lt := dpLen g5
      have l3 : ts.length ≤ 3 := by omega
      have kE : Kept d c H H' := fun b o b1 b2 e => g2 b o (fun z => by rw [z, hH] at e; cases e) b1 b2 (kB b o b1 b2 e)
      have up : Same (newIn HB H') (newIn H H') := newIn_back fun b hb => kB.none hD3 hb
      have all := dpSameAll up _ _ g5
      have dL : Dp K (newIn H H') (.ref D) (.list ts) := .lst (SqL.of (newIn_at hH g3)) all
      obtain ⟨e1, h1⟩ : ∃ k, i = k + 1 := ⟨i - 1, by omega⟩
      subst h1
      refine ⟨_, rfl, _, rfl, D, vs, rfl, .inl ⟨SqL.of g3, fun T hT => ?_⟩⟩
      have sT := sameNew (o := .tup vs) hT
      have hT1 : upd H' T (HO.tup vs) T = some (.tup vs) := upd_same
      generalize upd H' T (.tup vs) = HT at sT hT1
      refine ⟨_, rfl, (by show 1 ≤ sizeLine; decide), fun W hW => ?_⟩
      have sW := sameNew (o := .tup [.ref D]) hW
      have hW1 : upd HT W (HO.tup [.ref D]) W = some (.tup [.ref D]) := upd_same
      generalize upd HT W (.tup [.ref D]) = HW at sW hW1
      refine ⟨(by show 3 ≤ sizeLine; decide), fun L hL => ?_⟩
      have sL := sameNew (o := .lst [.ref D, .ref T, .ref W]) hL
      have hL1 : upd HW L (HO.lst [.ref D, .ref T, .ref W]) L = some (.lst [.ref D, .ref T, .ref W]) := upd_same
      generalize upd HW L (.lst [.ref D, .ref T, .ref W]) = HL at sL hL1
      have sA : Same H' HL := sT.trans (sW.trans sL)
      have dA : Deal HL d c := g1.same sA
      have kA : Kept d c H HL := kE.trans (.of sA)
      have nA : Same (newIn H H') (newIn H HL) := newIn_on fun b o _ h' => sA b o h'
      have frT : H T = none := kE.none g1 hT
      have frW : H W = none := kE.none g1 (sT.free hW)
      have r3 : r = 6 ∨ r = 7 ∨ r = 8 := by omega
      refine ⟨_, rfl, _, _, rfl, rfl, ?_⟩
      rcases r3 with rfl | rfl | rfl
      · exact ⟨L, _, _, .ref D, rfl, rfl, SqL.of hL1, rfl, q _ _ _ dA kA (dpSame nA _ _ dL) (niceList l3 g6).1⟩
      · exact ⟨L, _, _, .ref T, rfl, rfl, SqL.of hL1, rfl, q _ _ _ dA kA (.tup (SqT.of (newIn_at frT (sL _ _ (sW _ _ hT1)))) (dpSameAll nA _ _ all)) (niceTup l3 g6)⟩
      · exact ⟨L, _, _, .ref W, rfl, rfl, SqL.of hL1, rfl, q _ _ _ dA kA (.tup (SqT.of (newIn_at frW (sL _ _ hW1))) (.cons (dpSame nA _ _ dL) .nil)) (niceWrap l3 g6)⟩
  case rest =>
    refine ⟨_, rfl, rfl, _, rfl, ?_⟩
    refine ite2 (fun a => ?_) (fun a => ?_)
    · refine ⟨_, rfl, _, _, rfl, rfl, ⟨by decide, by decide, by decide⟩, d, c, _, rfl, hD1, by decide, by decide, fun r2 H2 z0 z1 hD2 k2 => ?_⟩
      refine ⟨_, _, rfl, rfl, ⟨by decide, by decide, by decide⟩, _, _, rfl, rfl, .inl ⟨by decide, by decide⟩, _, _, rfl, rfl, ?_⟩
      refine q _ _ H2 hD2 (k1.trans k2) (.int _) ((niceInt _ ?_).mono (Nat.zero_le _))
      have z2 : r2 < 100000000000000000000 := z1
      have e : (5 * (10 : Int) ^ (19 : Int).toNat) = 50000000000000000000 := by decide
      rw [e]
      exact PySem.Flt.log2_lt_of (by decide) (by show _ < 1208925819614629174706176; omega)
    · refine ⟨(by show 6 ≤ sizeLine; decide), fun L hL => ?_⟩
      have sL := sameNew (o := .lst [V.non, .bl true, .bl false, .str "", .str "a b", .str "zz"]) hL
      have hL1 : upd H1 L (HO.lst [V.non, .bl true, .bl false, .str "", .str "a b", .str "zz"]) L = some (.lst [V.non, .bl true, .bl false, .str "", .str "a b", .str "zz"]) := upd_same
      refine ⟨_, rfl, d, c, 6, rfl, hD1.same sL, by decide, by decide, fun r2 H2 z0 z1 hD2 k2 => ?_⟩
      have hL2 := k2 L _ (hD1.ned hL) (hD1.nec hL) hL1
      have kA : Kept d c H H2 := k1.trans ((Kept.of sL).trans k2)
      have r6 : r2 = 0 ∨ r2 = 1 ∨ r2 = 2 ∨ r2 = 3 ∨ r2 = 4 ∨ r2 = 5 := by omega
      have up := Nat.zero_le i
      rcases r6 with rfl | rfl | rfl | rfl | rfl | rfl
      · exact ⟨L, _, _, _, rfl, rfl, SqL.of hL2, rfl, q _ _ H2 hD2 kA .non (niceNone.mono up)⟩
      · exact ⟨L, _, _, _, rfl, rfl, SqL.of hL2, rfl, q _ _ H2 hD2 kA (.bl _) ((niceBool _).mono up)⟩
      · exact ⟨L, _, _, _, rfl, rfl, SqL.of hL2, rfl, q _ _ H2 hD2 kA (.bl _) ((niceBool _).mono up)⟩
      · exact ⟨L, _, _, _, rfl, rfl, SqL.of hL2, rfl, q _ _ H2 hD2 kA (.str _) (niceS0.mono up)⟩
      · exact ⟨L, _, _, _, rfl, rfl, SqL.of hL2, rfl, q _ _ H2 hD2 kA (.str _) (niceS1.mono up)⟩
      · exact ⟨L, _, _, _, rfl, rfl, SqL.of hL2, rfl, q _ _ H2 hD2 kA (.str _) (niceS2.mono up)⟩
theorem anyZero {f : Addr} {fd : FuncData} : FnOk P w K mg base CX0 1 f fd ["_law_deal_here", "_law_deep"] (spAny K 0) := by
  have no : ∀ vs H Q E, ¬ spAny K 0 vs H Q E := by
    rintro vs H Q E ⟨d, c, i, _, z, _⟩
    omega
  exact ⟨fun vs H Q E h => absurd h (no vs H Q E), fun A outer s H args us vs Q E _ _ _ _ h => absurd h (no vs H Q E)⟩
theorem okAnyAll {f fD : Addr} {fd fdD : FuncData} (F : Fun K "_law_any" "_law_any" sAny f fd) (mA : mg "_law_any" = some (.ref f)) (bA : Binds K fd ["_law_deal_here", "_law_deep"] [])
    (GD : FnOk P w K mg base CX0 1 fD fdD ["_law_deal_here", "_law_many"] spDraw) (mD : mg "_law_draw" = some (.ref fD)) (kD : PySem.W.keepIn K (.ref fD) = true) (bD : Binds K fdD ["_law_deal_here", "_law_many"] [])
    (mR : mg "range" = none) (mT : mg "tuple" = none) : ∀ n : Nat, FnOk P w K mg base CX0 (n + 1) f fd ["_law_deal_here", "_law_deep"] (spAny K n)
  | 0 => anyZero
  | n + 1 => okAny F mA bA GD mD kD bD mR mT (okAnyAll F mA bA GD mD kD bD mR mT n)
end
end L2.Und
end

section
set_option Elab.async false
set_option linter.all false
set_option maxRecDepth 100000
set_option maxHeartbeats 4000000
namespace L2.Und
open PySem PySem.Spec PyProof.Rows _root_.Und
open PySem.W (findIn keepIn typeIn)
/-! ### __init__ of one field, of two -/
def spInit (C : Addr) (n : Nat) (fs : List V → List (Str × V)) : Sp := fun vs H Q _ => ∃ (a : Addr) (ys : List V), vs = .ref a :: ys ∧ ys.length = n ∧ H a = some (exo a C none) ∧
  ∀ H', ErrAt H' a C (fs ys) → (∀ b o, b ≠ a → H b = some o → H' b = some o) → Q .non H'
def fs1 (x : Str) : List V → List (Str × V) := fun ys => [(x, ys.getD 0 .non)]
def fs2 (x y : Str) : List V → List (Str × V) := fun ys => [(y, ys.getD 1 .non), (x, ys.getD 0 .non)]
section
variable {P : Program} {w : World} {K : PySem.W.Frag} {mg : Str → Option Value} {base : Heap} {f C : Addr} {fd : FuncData} {qual x y : Str} {st : Stmt} {p1 p2 p3 p4 q1 q2 q3 q4 : Pos}
theorem vis_of {N ps : List Str} {sc : Scope} (S : FnScope N ps sc) {x : Str} (h : x ∈ ps) : Vis sc x := (S.par x h).elim .inl (fun z => .inr (.inl z))
theorem okInit1 (F : Fun K "__init__" qual st f fd) (S : FnScope ["self", x] ["self", x] (defScope st)) (hb : defBody st = [.Assign [.Attribute (.Name "self" p1) x p2] (.Name x p3) p4])
    (T : ErrC K C) (no : findIn K (.ref C) x = some none) (x1 : (x == ("__debug__" : Str)) = false) (x2 : (x == ("__classdict__" : Str)) = false) :
    FnOk P w K mg base CX0 1 f fd ["self", x] (spInit C 1 (fs1 x)) := by
  refine F.ok S (fun vs H Q E h => ?_) (fun cdv A outer s H vs Q E hr h => ?_)
  · obtain ⟨a, ys, rfl, h1, _⟩ := h
    simp [h1]
  rw [hb]
  refine ⟨_, pss_one (psPut (pv 0 rfl (vis_of S (by simp))) (pv 1 rfl (vis_of S (by simp)) x1 x2)), ?_⟩
  obtain ⟨a, ys, rfl, h1, h2, q⟩ := h
  match ys, h1 with
  | [v], _ =>
    refine ⟨_, rfl, _, rfl, a, C, rfl, T, no, .inl ⟨h2, fun dx n ne => ?_⟩⟩
    refine q _ (.inr ⟨dx, upd_same, ?_⟩) (fun b o hb e => ?_)
    · rw [upd_ne ne]
      exact upd_same
    · rw [upd_ne hb, upd_ne (ne_of_none e n)]
      exact e
theorem okInit2 (F : Fun K "__init__" qual st f fd) (S : FnScope ["self", x, y] ["self", x, y] (defScope st))
    (hb : defBody st = [.Assign [.Attribute (.Name "self" p1) x p2] (.Name x p3) p4, .Assign [.Attribute (.Name "self" q1) y q2] (.Name y q3) q4])
    (T : ErrC K C) (no : findIn K (.ref C) x = some none) (no2 : findIn K (.ref C) y = some none) (x1 : (x == ("__debug__" : Str)) = false) (x2 : (x == ("__classdict__" : Str)) = false)
    (y1 : (y == ("__debug__" : Str)) = false) (y2 : (y == ("__classdict__" : Str)) = false) :
    FnOk P w K mg base CX0 1 f fd ["self", x, y] (spInit C 2 (fs2 x y)) := by
  refine F.ok S (fun vs H Q E h => ?_) (fun cdv A outer s H vs Q E hr h => ?_)
  · obtain ⟨a, ys, rfl, h1, _⟩ := h
    simp [h1]
  rw [hb]
  refine ⟨_, pss_cons (psPut (pv 0 rfl (vis_of S (by simp))) (pv 1 rfl (vis_of S (by simp)) x1 x2)) (pss_one (psPut (pv 0 rfl (vis_of S (by simp))) (pv 2 rfl (vis_of S (by simp)) y1 y2))), ?_⟩
  obtain ⟨a, ys, rfl, h1, h2, q⟩ := h
  match ys, h1 with
  | [v, u], _ =>
    refine ⟨_, rfl, _, rfl, a, C, rfl, T, no, .inl ⟨h2, fun dx n ne => ?_⟩⟩
    refine ⟨_, rfl, _, rfl, a, C, rfl, T, no2, .inr ⟨dx, _, upd_same, (by rw [upd_ne ne]; exact upd_same), (by show 1 ≤ 900; decide), ?_⟩⟩
    refine q _ (.inr ⟨dx, ?_, upd_same⟩) (fun b o hb e => ?_)
    · rw [upd_ne (Ne.symm ne)]
      exact upd_same
    · rw [upd_ne (ne_of_none e n), upd_ne hb, upd_ne (ne_of_none e n)]
      exact e
/-! ### how the arguments bind -/
theorem knOf {ps : List Str} {n : Nat} (b : Binds K fd ps []) (h : n = ps.length) : KBn K fd ps n [] (fun us _ => us) (fun vs _ => vs) := by
  refine ⟨fun s us ws X h1 h2 => ?_, fun r _ => r⟩
  have z := b s us X (by rw [List.append_nil]; omega)
  rw [List.append_nil] at z
  exact z
theorem kw1 (F : Fun K "__init__" qual st f fd)
    (h : ∀ (kV doc pm : Value) (an : Option Addr) (cdv ct u v : Value), bindArgs (PySem.W.fnOf "__init__" qual (defArgs st) (defBody st) (defScope st) .none kV doc pm an cdv ct) ⟨[u], [(x, v)]⟩ = (pure [(("self" : Str), u), (x, v)] : Sem (List (Str × Value)))) :
    KBn K fd ["self", x] 1 [x] (fun us ws => us ++ ws) (fun vs zs => vs ++ zs) := by
  obtain ⟨oc, od, kV, doc, pm, an, cdv, ct, osl, rfl, lk, hcd⟩ := F.ex
  refine ⟨fun s us ws X h1 h2 => ?_, fun r z => r.append z⟩
  match us, ws, h1, h2 with
  | [u], [v], _, _ => exact .of_eq (h _ _ _ _ _ _ u v)
theorem kw2 (F : Fun K "__init__" qual st f fd)
    (h : ∀ (kV doc pm : Value) (an : Option Addr) (cdv ct u v z : Value), bindArgs (PySem.W.fnOf "__init__" qual (defArgs st) (defBody st) (defScope st) .none kV doc pm an cdv ct) ⟨[u], [(y, z), (x, v)]⟩ = (pure [(("self" : Str), u), (x, v), (y, z)] : Sem (List (Str × Value)))) :
    KBn K fd ["self", x, y] 1 [y, x] (fun us ws => us ++ ws.reverse) (fun vs zs => vs ++ zs.reverse) := by
  obtain ⟨oc, od, kV, doc, pm, an, cdv, ct, osl, rfl, lk, hcd⟩ := F.ex
  refine ⟨fun s us ws X h1 h2 => ?_, fun r z => r.append ?_⟩
  · match us, ws, h1, h2 with
    | [u], [z, v], _, _ => exact .of_eq (h _ _ _ _ _ _ u v z)
  · have rev : ∀ {l : List V} {m : List Value}, Vals l m → Vals l.reverse m.reverse := by
      intro l m h
      induction h with
      | nil => exact .nil
      | cons a b ih =>
        rw [List.reverse_cons, List.reverse_cons]
        exact ih.append (.cons a .nil)
    exact rev z
end
/-! ### a class, by what its calls give -/
structure One (P : Program) (w : World) (K : PySem.W.Frag) (mg : Str → Option Value) (base : Heap) (X x : Str) (C : Addr) : Prop where
  g : mg X = some (.ref C)
  T : ErrC K C
  no : findIn K (.ref C) x = some none
  run : ∃ fI fd, findIn K (.ref C) "__init__" = some (some (.ref fI)) ∧ typeIn K (.ref fI) = some (.type "function") ∧ FnOk P w K mg base CX0 1 fI fd ["self", x] (spInit C 1 (fs1 x)) ∧
    KBn K fd ["self", x] 2 [] (fun us _ => us) (fun vs _ => vs) ∧ KBn K fd ["self", x] 1 [x] (fun us ws => us ++ ws) (fun vs zs => vs ++ zs)
structure Two (P : Program) (w : World) (K : PySem.W.Frag) (mg : Str → Option Value) (base : Heap) (X x y : Str) (C : Addr) : Prop where
  g : mg X = some (.ref C)
  T : ErrC K C
  no : findIn K (.ref C) x = some none
  no2 : findIn K (.ref C) y = some none
  run : ∃ fI fd, findIn K (.ref C) "__init__" = some (some (.ref fI)) ∧ typeIn K (.ref fI) = some (.type "function") ∧ FnOk P w K mg base CX0 1 fI fd ["self", x, y] (spInit C 2 (fs2 x y)) ∧
    KBn K fd ["self", x, y] 3 [] (fun us _ => us) (fun vs _ => vs) ∧ KBn K fd ["self", x, y] 1 [y, x] (fun us ws => us ++ ws.reverse) (fun vs zs => vs ++ zs.reverse)
structure Nul (K : PySem.W.Frag) (mg : Str → Option Value) (X : Str) (C : Addr) : Prop where
  g : mg X = some (.ref C)
  T : ErrC K C
  q : PySem.W.excIn K C [.type "ValueError", .type "Exception", .type "BaseException", .type "object"] "ValueError.__new__" = true
/-- a new error of the class at C with these fields -/
def New (C : Addr) (fs : List (Str × V)) : Hp → VK → Prop := fun H Q => ∀ (a : Addr) (H2 : Hp), H a = none → ErrAt H2 a C fs → Same H H2 → Q (.ref a) H2
theorem new_of {C : Addr} {fs : List V → List (Str × V)} {n : Nat} {ys : List V} {H : Hp} {Q : VK} {E : XK} (h : New C (fs ys) H Q) (hn : ys.length = n) :
    ∀ a, H a = none → spInit C n fs (.ref a :: ys) (upd H a (exo a C none)) (fun v H2 => v = .non ∧ Q (.ref a) H2) E := fun a ha =>
  ⟨a, ys, rfl, hn, upd_same, fun H' e k => ⟨rfl, h a H' ha e fun b o z => k b o (ne_of_none z ha) (by rw [upd_ne (ne_of_none z ha)]; exact z)⟩⟩
section
variable {X : Cx} {nm x y : Str} {C fI : Addr} {fd : FuncData} {ps ks : List Str} {n : Nat} {fs : List V → List (Str × V)} {p pos : Pos} {e : Expr} {es : List Expr} {kws : List Keyword} {t tk : TA}
theorem peNew (T : ErrC X.K C) (iC : findIn X.K (.ref C) "__init__" = some (some (.ref fI))) (tI : typeIn X.K (.ref fI) = some (.type "function"))
    (F : FnOk X.prog X.w X.K X.mg X.base CX0 1 fI fd ps (spInit C n fs)) (hr : Room 2 X.A) (hb : KBn X.K fd ps (n + 1) [] (fun us _ => us) (fun vs _ => vs)) (hn : n ≤ 1000)
    (hg : Gl X nm) (hm : X.mg nm = some (.ref C)) (ha : PA X (e :: es) t) (hd : (nm == ("__debug__" : Str)) = false)
    (he : starEach (e :: es) X.env = (false, eval e X.env) :: starEach es X.env) (hp : (backTo pos (starEach es X.env)).any (·.1) = false) :
    PE X (.Call (.Name nm p) (e :: es) [] pos) (fun σ H Q => t σ H fun vs H1 => vs.length = n ∧ New C (fs vs) H1 Q) := by
  refine ⟨fun pins s σ H Q I h => ?_⟩
  refine wpAny_Call_Name_kw (ld_glob I hg hm ?_ hd)
  refine PySem.W.callWith_K (h₀ := X.base) I.ok.mod.kin T.keep (thn (ha.run pos pins s σ H _ I h) fun us s1 ⟨vs, H1, I1, r, l1, q⟩ => ⟨I1.kIn, ?_⟩) he hp
  exact runErr (ws := []) (zs := []) T iC tI F hr hb (E := E0) pass0 I1 r .nil l1 rfl hn fun a ha => new_of q l1 a ha
theorem peNewK {o : List V → List V} {g : List Value → List Value → List Value} (ho : ∀ l : List V, (o l).length = l.length) (T : ErrC X.K C) (iC : findIn X.K (.ref C) "__init__" = some (some (.ref fI))) (tI : typeIn X.K (.ref fI) = some (.type "function"))
    (F : FnOk X.prog X.w X.K X.mg X.base CX0 1 fI fd ps (spInit C n fs)) (hr : Room 2 X.A) (hb : KBn X.K fd ps 1 ks g (fun vs zs => vs ++ o zs)) (hn : ks.length = n)
    (hg : Gl X nm) (hm : X.mg nm = some (.ref C)) (hkw : PK X kws tk) (hd : (nm == ("__debug__" : Str)) = false) (hall : (backToKw pos (keywordEach kws X.env)).all (·.1.isSome) = true)
    (hks : (backToKw pos (keywordEach kws X.env)).filterMap (·.1) = ks) (hp : ((backTo pos (starEach [] X.env)).any (·.1) || (backToKw pos (keywordEach kws X.env)).any (·.1.isNone)) = false) :
    PE X (.Call (.Name nm p) [] kws pos) (fun σ H Q => tk σ H fun zs H1 => zs.length = n ∧ New C (fs (o zs)) H1 Q) := by
  refine ⟨fun pins s σ H Q I h => ?_⟩
  refine wpAny_Call_Name_kw (ld_glob I hg hm ?_ hd)
  refine PySem.W.callWith_KW0 (h₀ := X.base) I.ok.mod.kin T.keep hall (thn (hkw.run pos pins s σ H _ I h) fun ws s1 ⟨zs, H1, I1, r, l1, q⟩ => ⟨I1.kIn, ?_⟩) hp
  rw [hks]
  exact runErr (n := 0) (us := []) (vs := []) T iC tI F hr hb (E := E0) pass0 I1 .nil r rfl (l1.trans hn.symm) (by omega) fun a ha => new_of q ((ho zs).trans l1) a ha
variable {e2 : Expr} {te te2 : TE} {kp kp2 : Pos}
def tOne (C : Addr) (x : Str) (te : TE) : TE := fun σ H Q => te σ H fun v H1 => [v].length = 1 ∧ New C [(x, v)] H1 Q
def tTwo (C : Addr) (x y : Str) (te te2 : TE) : TE := fun σ H Q => te σ H fun v H1 => te2 σ H1 fun u H2 => [v, u].length = 2 ∧ New C [(y, u), (x, v)] H2 Q
/-- the other one is reckoned first -/
def tTwoK (C : Addr) (x y : Str) (te te2 : TE) : TE := fun σ H Q => te2 σ H fun u H1 => te σ H1 fun v H2 => [u, v].length = 2 ∧ New C [(y, u), (x, v)] H2 Q
theorem peOne (O : One X.prog X.w X.K X.mg X.base nm x C) (hr : Room 2 X.A) (hg : Gl X nm) (he : PE X e te) (hd : (nm == ("__debug__" : Str)) = false := by decide)
    (hs : starEach [e] X.env = (false, eval e X.env) :: starEach [] X.env := by rfl) (hp : (backTo pos (starEach [] X.env)).any (·.1) = false := by rfl) :
    PE X (.Call (.Name nm p) [e] [] pos) (tOne C x te) := by
  obtain ⟨fI, fd, iC, tI, F, b1, _⟩ := O.run
  exact peNew O.T iC tI F hr b1 (by decide) hg O.g (pa_cons he pa_nil hs) hd hs hp
theorem peTwo (O : Two X.prog X.w X.K X.mg X.base nm x y C) (hr : Room 2 X.A) (hg : Gl X nm) (he : PE X e te) (he2 : PE X e2 te2) (hd : (nm == ("__debug__" : Str)) = false := by decide)
    (hs : starEach [e, e2] X.env = (false, eval e X.env) :: starEach [e2] X.env := by rfl) (hs2 : starEach [e2] X.env = (false, eval e2 X.env) :: starEach [] X.env := by rfl)
    (hp : (backTo pos (starEach [e2] X.env)).any (·.1) = false := by rfl) : PE X (.Call (.Name nm p) [e, e2] [] pos) (tTwo C x y te te2) := by
  obtain ⟨fI, fd, iC, tI, F, b1, _⟩ := O.run
  exact peNew O.T iC tI F hr b1 (by decide) hg O.g (pa_cons he (pa_cons he2 pa_nil hs2) hs) hd hs hp
theorem peOneK {k : Option Str} (O : One X.prog X.w X.K X.mg X.base nm x C) (hr : Room 2 X.A) (hg : Gl X nm) (he : PE X e te) (hd : (nm == ("__debug__" : Str)) = false := by decide)
    (hall : (backToKw pos (keywordEach [⟨k, e, kp⟩] X.env)).all (·.1.isSome) = true := by rfl) (hks : (backToKw pos (keywordEach [⟨k, e, kp⟩] X.env)).filterMap (·.1) = [x] := by rfl)
    (hp : ((backTo pos (starEach [] X.env)).any (·.1) || (backToKw pos (keywordEach [⟨k, e, kp⟩] X.env)).any (·.1.isNone)) = false := by rfl) :
    PE X (.Call (.Name nm p) [] [⟨k, e, kp⟩] pos) (tOne C x te) := by
  obtain ⟨fI, fd, iC, tI, F, _, b2⟩ := O.run
  exact peNewK (o := fun l => l) (fun _ => rfl) O.T iC tI F hr b2 rfl hg O.g (pk_cons he pk_nil) hd hall hks hp
theorem peTwoK {k k2 : Option Str} (O : Two X.prog X.w X.K X.mg X.base nm x y C) (hr : Room 2 X.A) (hg : Gl X nm) (he2 : PE X e2 te2) (he : PE X e te) (hd : (nm == ("__debug__" : Str)) = false := by decide)
    (hall : (backToKw pos (keywordEach [⟨k2, e2, kp2⟩, ⟨k, e, kp⟩] X.env)).all (·.1.isSome) = true := by rfl) (hks : (backToKw pos (keywordEach [⟨k2, e2, kp2⟩, ⟨k, e, kp⟩] X.env)).filterMap (·.1) = [y, x] := by rfl)
    (hp : ((backTo pos (starEach [] X.env)).any (·.1) || (backToKw pos (keywordEach [⟨k2, e2, kp2⟩, ⟨k, e, kp⟩] X.env)).any (·.1.isNone)) = false := by rfl) :
    PE X (.Call (.Name nm p) [] [⟨k2, e2, kp2⟩, ⟨k, e, kp⟩] pos) (tTwoK C x y te te2) := by
  obtain ⟨fI, fd, iC, tI, F, _, b2⟩ := O.run
  exact peNewK (o := List.reverse) (fun l => List.length_reverse) O.T iC tI F hr b2 rfl hg O.g (pk_cons he2 (pk_cons he pk_nil)) hd hall hks hp
theorem peNul (O : Nul X.K X.mg nm C) (hg : Gl X nm) (hd : (nm == ("__debug__" : Str)) = false := by decide) : PE X (.Call (.Name nm p) [] [] pos) (fun _ H Q => New C [] H Q) := by
  refine ⟨fun pins s σ H Q I h => ?_⟩
  exact (peErr0 PySem.F.excBase_ValueError O.q O.T.keep hg O.g hd).run pins s σ H Q I fun a ha => h a _ ha (.inl ⟨rfl, upd_same⟩) (sameNew ha)
end
end L2.Und
end

section
set_option Elab.async false
set_option linter.all false
set_option maxRecDepth 100000
set_option maxHeartbeats 4000000
namespace L2.Und
open PySem PySem.Spec PyProof.Rows _root_.Und
abbrev sMade : Stmt := topS 21
abbrev sNamed : Stmt := topS 22
abbrev nMade : List Str := ["_law_a", "_law_b", "_law_errors"]
theorem scMade : FnScope nMade ["_law_a", "_law_b"] (defScope sMade) := ⟨rfl, rfl, rfl, by decide +kernel, rfl, by decide +kernel, by decide +kernel⟩
theorem scNamed : FnScope nMade ["_law_a", "_law_b"] (defScope sNamed) := ⟨rfl, rfl, rfl, by decide +kernel, rfl, by decide +kernel, by decide +kernel⟩
/-- the thirteen classes -/
structure Cs where
  c0 : Addr
  c1 : Addr
  c2 : Addr
  c3 : Addr
  c4 : Addr
  c5 : Addr
  c6 : Addr
  c7 : Addr
  c8 : Addr
  c9 : Addr
  c10 : Addr
  c11 : Addr
  c12 : Addr
def Cs.l (c : Cs) : List Addr := [c.c0, c.c1, c.c2, c.c3, c.c4, c.c5, c.c6, c.c7, c.c8, c.c9, c.c10, c.c11, c.c12]
structure Cls (P : Program) (w : World) (K : PySem.W.Frag) (mg : Str → Option Value) (base : Heap) (c : Cs) : Prop where
  k0 : Two P w K mg base "InvalidTable" "word" "at" c.c0
  k1 : One P w K mg base "InvalidText" "at" c.c1
  k2 : Two P w K mg base "InvalidStore" "word" "kind" c.c2
  k3 : Nul K mg "OtherTable" c.c3
  k4 : One P w K mg base "NoDeed" "at" c.c4
  k5 : One P w K mg base "NotShort" "at" c.c5
  k6 : One P w K mg base "TooMany" "count" c.c6
  k7 : Two P w K mg base "Barred" "one" "other" c.c7
  k8 : One P w K mg base "Clash" "version" c.c8
  k9 : One P w K mg base "Taken" "name" c.c9
  k10 : Nul K mg "InvalidCommand" c.c10
  k11 : One P w K mg base "UnknownKind" "name" c.c11
  k12 : One P w K mg base "UnknownBranch" "name" c.c12
def tab (va vb : V) : List (List (Str × V)) := [[("at", vb), ("word", va)], [("at", va)], [("kind", vb), ("word", va)], [], [("at", va)], [("at", va)], [("count", va)], [("other", vb), ("one", va)], [("version", va)], [("name", va)], [], [("name", va)], [("name", va)]]
inductive ErrL (H : Hp) : List Addr → List Addr → List (List (Str × V)) → Prop
  | nil : ErrL H [] [] []
  | cons {a C : Addr} {fs : List (Str × V)} {as cs : List Addr} {fss : List (List (Str × V))} : ErrAt H a C fs → ErrL H as cs fss → ErrL H (a :: as) (C :: cs) (fs :: fss)
theorem ErrL.mono {H H' : Hp} (k : ∀ b o, H b = some o → H' b = some o) : ∀ {as cs : List Addr} {fss : List (List (Str × V))}, ErrL H as cs fss → ErrL H' as cs fss
  | _, _, _, .nil => .nil
  | _, _, _, .cons h t => .cons (h.mono k) (t.mono k)
theorem ErrL.at {H : Hp} : ∀ {as cs : List Addr} {fss : List (List (Str × V))} {i : Nat} {C : Addr} {fs : List (Str × V)}, ErrL H as cs fss → cs[i]? = some C → fss[i]? = some fs → ∃ a, as[i]? = some a ∧ ErrAt H a C fs
  | _, _, _, 0, _, _, .cons h _, h1, h2 => by
    simp at h1 h2
    subst h1 h2
    exact ⟨_, rfl, h⟩
  | _, _, _, i + 1, _, _, .cons _ t, h1, h2 => by
    simp at h1 h2
    obtain ⟨a, e, z⟩ := t.at h1 h2
    exact ⟨a, by simpa using e, z⟩
  | _, _, _, 0, _, _, .nil, h1, _ => by simp at h1
  | _, _, _, i + 1, _, _, .nil, h1, _ => by simp at h1
def spMade (c : Cs) : Sp := fun vs H Q _ => ∃ va vb : V, vs = [va, vb] ∧ ∀ (r : Addr) (as : List Addr) (H' : Hp), Same H H' → H r = none → H' r = some (.lst (as.map V.ref)) → ErrL H' as c.l (tab va vb) → Q (.ref r) H'
section
variable {P : Program} {w : World} {K : PySem.W.Frag} {mg : Str → Option Value} {base : Heap}
theorem okMade {f : Addr} {fd : FuncData} {c : Cs} (F : Fun K "_law_made" "_law_made" sMade f fd) (T : Cls P w K mg base c) : FnOk P w K mg base CX0 3 f fd ["_law_a", "_law_b"] (spMade c) := by
  refine F.ok scMade (fun vs H Q E h => ?_) (fun cdv A outer s H vs Q E hr h => ?_)
  · obtain ⟨va, vb, rfl, _⟩ := h
    rfl
  refine ⟨_, pss_cons (ps_set (i := 2) scMade.nd rfl (Or.inl rfl) (pe_lst (pa_cons (peTwo T.k0 hr rfl (pv 0) (pv 1)) (pa_cons (peOne T.k1 hr rfl (pv 0)) (pa_cons (peTwo T.k2 hr rfl (pv 0) (pv 1)) (pa_cons (peNul T.k3 rfl)
      (pa_cons (peOne T.k4 hr rfl (pv 0)) (pa_cons (peOne T.k5 hr rfl (pv 0)) (pa_cons (peOne T.k6 hr rfl (pv 0)) pa_nil)))))))))
    (pss_one (ps_ret (pe_op op_cat (pv 2) (pe_lst (pa_cons (peTwo T.k7 hr rfl (pv 0) (pv 1)) (pa_cons (peOne T.k8 hr rfl (pv 0)) (pa_cons (peOne T.k9 hr rfl (pv 0)) (pa_cons (peNul T.k10 rfl)
      (pa_cons (peOne T.k11 hr rfl (pv 0)) (pa_cons (peOne T.k12 hr rfl (pv 0)) pa_nil)))))))))), ?_⟩
  obtain ⟨va, vb, rfl, q⟩ := h
  refine ⟨_, rfl, _, rfl, rfl, fun a0 H0 n0 e0 s0 => ⟨_, rfl, rfl, fun a1 H1 n1 e1 s1 => ⟨_, rfl, _, rfl, rfl, fun a2 H2 n2 e2 s2 => fun a3 H3 n3 e3 s3 => ⟨_, rfl, rfl, fun a4 H4 n4 e4 s4 => ⟨_, rfl, rfl, fun a5 H5 n5 e5 s5 => ⟨_, rfl, rfl, fun a6 H6 n6 e6 s6 => ⟨(by show 7 ≤ sizeLine; decide), fun l hl => ?_⟩⟩⟩⟩⟩⟩⟩
  have z7 := sameNew (o := .lst [.ref a0, .ref a1, .ref a2, .ref a3, .ref a4, .ref a5, .ref a6]) hl
  have l7 : upd H6 l (HO.lst [.ref a0, .ref a1, .ref a2, .ref a3, .ref a4, .ref a5, .ref a6]) l = some (.lst [.ref a0, .ref a1, .ref a2, .ref a3, .ref a4, .ref a5, .ref a6]) := upd_same
  refine ⟨_, rfl, _, rfl, _, rfl, rfl, fun a7 H7 n7 e7 s7 => ⟨_, rfl, rfl, fun a8 H8 n8 e8 s8 => ⟨_, rfl, rfl, fun a9 H9 n9 e9 s9 => fun a10 H10 n10 e10 s10 => ⟨_, rfl, rfl, fun a11 H11 n11 e11 s11 => ⟨_, rfl, rfl, fun a12 H12 n12 e12 s12 => ⟨(by show 6 ≤ sizeLine; decide), fun m hm => ?_⟩⟩⟩⟩⟩⟩
  have zm := sameNew (o := .lst [.ref a7, .ref a8, .ref a9, .ref a10, .ref a11, .ref a12]) hm
  have lm : upd H12 m (HO.lst [.ref a7, .ref a8, .ref a9, .ref a10, .ref a11, .ref a12]) m = some (.lst [.ref a7, .ref a8, .ref a9, .ref a10, .ref a11, .ref a12]) := upd_same
  have g12 := zm
  have g11 := s12.trans g12
  have g10 := s11.trans g11
  have g9 := s10.trans g10
  have g8 := s9.trans g9
  have g7 := s8.trans g8
  have gl := s7.trans g7
  have g6 := z7.trans gl
  have g5 := s6.trans g6
  have g4 := s5.trans g5
  have g3 := s4.trans g4
  have g2 := s3.trans g3
  have g1 := s2.trans g2
  have g0 := s1.trans g1
  have gH := s0.trans g0
  refine ⟨l, m, _, _, rfl, rfl, gl _ _ l7, lm, (by show 13 ≤ sizeLine; decide), fun r hr => ?_⟩
  have sr := sameNew (o := .lst ([V.ref a0, .ref a1, .ref a2, .ref a3, .ref a4, .ref a5, .ref a6] ++ [.ref a7, .ref a8, .ref a9, .ref a10, .ref a11, .ref a12])) hr
  refine q r [a0, a1, a2, a3, a4, a5, a6, a7, a8, a9, a10, a11, a12] _ (gH.trans sr) (gH.free hr) upd_same (ErrL.mono sr ?_)
  exact .cons (e0.mono g0) (.cons (e1.mono g1) (.cons (e2.mono g2) (.cons (e3.mono g3) (.cons (e4.mono g4) (.cons (e5.mono g5) (.cons (e6.mono g6) (.cons (e7.mono g7) (.cons (e8.mono g8)
    (.cons (e9.mono g9) (.cons (e10.mono g10) (.cons (e11.mono g11) (.cons (e12.mono g12) .nil))))))))))))
theorem okNamed {f : Addr} {fd : FuncData} {c : Cs} (F : Fun K "_law_named" "_law_named" sNamed f fd) (T : Cls P w K mg base c) : FnOk P w K mg base CX0 3 f fd ["_law_a", "_law_b"] (spMade c) := by
  refine F.ok scNamed (fun vs H Q E h => ?_) (fun cdv A outer s H vs Q E hr h => ?_)
  · obtain ⟨va, vb, rfl, _⟩ := h
    rfl
  refine ⟨_, pss_cons (ps_set (i := 2) scNamed.nd rfl (Or.inl rfl) (pe_lst (pa_cons (peTwoK T.k0 hr rfl (pv 1) (pv 0)) (pa_cons (peOneK T.k1 hr rfl (pv 0)) (pa_cons (peTwoK T.k2 hr rfl (pv 1) (pv 0)) (pa_cons (peNul T.k3 rfl)
      (pa_cons (peOneK T.k4 hr rfl (pv 0)) pa_nil)))))))
    (pss_cons (ps_set (i := 2) scNamed.nd rfl (Or.inl rfl) (pe_op op_cat (pv 2) (pe_lst (pa_cons (peOneK T.k5 hr rfl (pv 0)) (pa_cons (peOneK T.k6 hr rfl (pv 0)) (pa_cons (peTwoK T.k7 hr rfl (pv 1) (pv 0)) (pa_cons (peOneK T.k8 hr rfl (pv 0))
      (pa_cons (peOneK T.k9 hr rfl (pv 0)) pa_nil))))))))
    (pss_one (ps_ret (pe_op op_cat (pv 2) (pe_lst (pa_cons (peNul T.k10 rfl) (pa_cons (peOneK T.k11 hr rfl (pv 0)) (pa_cons (peOneK T.k12 hr rfl (pv 0)) pa_nil)))))))), ?_⟩
  obtain ⟨va, vb, rfl, q⟩ := h
  refine ⟨_, rfl, _, rfl, rfl, fun a0 H0 n0 e0 s0 => ⟨_, rfl, rfl, fun a1 H1 n1 e1 s1 => ⟨_, rfl, _, rfl, rfl, fun a2 H2 n2 e2 s2 => fun a3 H3 n3 e3 s3 => ⟨_, rfl, rfl, fun a4 H4 n4 e4 s4 => ⟨(by show 5 ≤ sizeLine; decide), fun l hl => ?_⟩⟩⟩⟩⟩
  have zl := sameNew (o := .lst [.ref a0, .ref a1, .ref a2, .ref a3, .ref a4]) hl
  have ll : upd H4 l (HO.lst [.ref a0, .ref a1, .ref a2, .ref a3, .ref a4]) l = some (.lst [.ref a0, .ref a1, .ref a2, .ref a3, .ref a4]) := upd_same
  refine ⟨_, rfl, _, rfl, rfl, fun a5 H5 n5 e5 s5 => ⟨_, rfl, rfl, fun a6 H6 n6 e6 s6 => ⟨_, rfl, _, rfl, rfl, fun a7 H7 n7 e7 s7 => ⟨_, rfl, rfl, fun a8 H8 n8 e8 s8 => ⟨_, rfl, rfl, fun a9 H9 n9 e9 s9 => ⟨(by show 5 ≤ sizeLine; decide), fun m hm => ?_⟩⟩⟩⟩⟩⟩
  have zm := sameNew (o := .lst [.ref a5, .ref a6, .ref a7, .ref a8, .ref a9]) hm
  have lm : upd H9 m (HO.lst [.ref a5, .ref a6, .ref a7, .ref a8, .ref a9]) m = some (.lst [.ref a5, .ref a6, .ref a7, .ref a8, .ref a9]) := upd_same
  have q5 := s6.trans (s7.trans (s8.trans (s9.trans zm)))
  refine ⟨l, m, _, _, rfl, rfl, (s5.trans q5) _ _ ll, lm, (by show 10 ≤ sizeLine; decide), fun k hk => ?_⟩
  have zk := sameNew (o := .lst ([V.ref a0, .ref a1, .ref a2, .ref a3, .ref a4] ++ [.ref a5, .ref a6, .ref a7, .ref a8, .ref a9])) hk
  have lk : upd (upd H9 m (HO.lst [.ref a5, .ref a6, .ref a7, .ref a8, .ref a9])) k (HO.lst ([V.ref a0, .ref a1, .ref a2, .ref a3, .ref a4] ++ [.ref a5, .ref a6, .ref a7, .ref a8, .ref a9])) k = some (.lst ([V.ref a0, .ref a1, .ref a2, .ref a3, .ref a4] ++ [.ref a5, .ref a6, .ref a7, .ref a8, .ref a9])) := upd_same
  refine ⟨_, rfl, fun a10 H10 n10 e10 s10 => ⟨_, rfl, rfl, fun a11 H11 n11 e11 s11 => ⟨_, rfl, rfl, fun a12 H12 n12 e12 s12 => ⟨(by show 3 ≤ sizeLine; decide), fun t ht => ?_⟩⟩⟩⟩
  have zt := sameNew (o := .lst [.ref a10, .ref a11, .ref a12]) ht
  have lt : upd H12 t (HO.lst [.ref a10, .ref a11, .ref a12]) t = some (.lst [.ref a10, .ref a11, .ref a12]) := upd_same
  have g12 := zt
  have g11 := s12.trans g12
  have g10 := s11.trans g11
  have gk := s10.trans g10
  have gm := zk.trans gk
  have g9 := zm.trans gm
  have g8 := s9.trans g9
  have g7 := s8.trans g8
  have g6 := s7.trans g7
  have g5 := s6.trans g6
  have gl := s5.trans g5
  have g4 := zl.trans gl
  have g3 := s4.trans g4
  have g2 := s3.trans g3
  have g1 := s2.trans g2
  have g0 := s1.trans g1
  have gH := s0.trans g0
  refine ⟨k, t, _, _, rfl, rfl, gk _ _ lk, lt, (by show 13 ≤ sizeLine; decide), fun r hr => ?_⟩
  have sr := sameNew (o := .lst (([V.ref a0, .ref a1, .ref a2, .ref a3, .ref a4] ++ [.ref a5, .ref a6, .ref a7, .ref a8, .ref a9]) ++ [.ref a10, .ref a11, .ref a12])) hr
  refine q r [a0, a1, a2, a3, a4, a5, a6, a7, a8, a9, a10, a11, a12] _ (gH.trans sr) (gH.free hr) upd_same (ErrL.mono sr ?_)
  exact .cons (e0.mono g0) (.cons (e1.mono g1) (.cons (e2.mono g2) (.cons (e3.mono g3) (.cons (e4.mono g4) (.cons (e5.mono g5) (.cons (e6.mono g6) (.cons (e7.mono g7) (.cons (e8.mono g8)
    (.cons (e9.mono g9) (.cons (e10.mono g10) (.cons (e11.mono g11) (.cons (e12.mono g12) .nil))))))))))))
end
end L2.Und
end

section
set_option Elab.async false
set_option linter.all false
set_option maxRecDepth 100000
set_option maxHeartbeats 4000000
namespace L2.Und
open PySem PySem.Spec PyProof.Rows _root_.Und
abbrev sCaught : Stmt := topS 20
abbrev nCaught : List Str := ["_law_error", "_law_own", "_law_spot", "_law_is_one"]
theorem scCaught : FnScope nCaught ["_law_error"] (defScope sCaught) := ⟨rfl, rfl, rfl, by decide +kernel, rfl, by decide +kernel, by decide +kernel⟩
/-- the places of the true ones -/
def picked : Nat → List Bool → List Int
  | _, [] => []
  | k, b :: bs => if b then (k : Int) :: picked (k + 1) bs else picked (k + 1) bs
theorem picked_snoc (b : Bool) : ∀ (l : List Bool) (k : Nat), picked k (l ++ [b]) = picked k l ++ if b then [((k + l.length : Nat) : Int)] else []
  | [], k => by cases b <;> rfl
  | a :: l, k => by
    have ih := picked_snoc b l (k + 1)
    have e : k + 1 + l.length = k + (a :: l).length := by rw [List.length_cons]; omega
    rw [e] at ih
    cases a with
    | true =>
      show (k : Int) :: picked (k + 1) (l ++ [b]) = (k : Int) :: picked (k + 1) l ++ _
      rw [ih]
      rfl
    | false =>
      show picked (k + 1) (l ++ [b]) = picked (k + 1) l ++ _
      exact ih
theorem picked_len : ∀ (l : List Bool) (k : Nat), (picked k l).length ≤ l.length
  | [], _ => Nat.le_refl _
  | b :: l, k => by
    have ih := picked_len l (k + 1)
    show (if b then (k : Int) :: picked (k + 1) l else picked (k + 1) l).length ≤ l.length + 1
    cases b with
    | true => exact Nat.succ_le_succ ih
    | false => exact Nat.le_succ_of_le ih
structure Kits (K : PySem.W.Frag) (C : Addr) (c : Cs) (b0 b1 b2 b3 b4 b5 b6 b7 b8 b9 b10 b11 b12 : Bool) : Prop where
  i0 : PySem.W.kitOne K (.ref C) (.ref c.c0) = some b0
  i1 : PySem.W.kitOne K (.ref C) (.ref c.c1) = some b1
  i2 : PySem.W.kitOne K (.ref C) (.ref c.c2) = some b2
  i3 : PySem.W.kitOne K (.ref C) (.ref c.c3) = some b3
  i4 : PySem.W.kitOne K (.ref C) (.ref c.c4) = some b4
  i5 : PySem.W.kitOne K (.ref C) (.ref c.c5) = some b5
  i6 : PySem.W.kitOne K (.ref C) (.ref c.c6) = some b6
  i7 : PySem.W.kitOne K (.ref C) (.ref c.c7) = some b7
  i8 : PySem.W.kitOne K (.ref C) (.ref c.c8) = some b8
  i9 : PySem.W.kitOne K (.ref C) (.ref c.c9) = some b9
  i10 : PySem.W.kitOne K (.ref C) (.ref c.c10) = some b10
  i11 : PySem.W.kitOne K (.ref C) (.ref c.c11) = some b11
  i12 : PySem.W.kitOne K (.ref C) (.ref c.c12) = some b12
def spCaught (K : PySem.W.Frag) (c : Cs) : Sp := fun vs H Q _ => ∃ (a C : Addr) (fs : List (Str × V)) (b0 b1 b2 b3 b4 b5 b6 b7 b8 b9 b10 b11 b12 : Bool), vs = [.ref a] ∧ ErrC K C ∧ ErrAt H a C fs ∧ Kits K C c b0 b1 b2 b3 b4 b5 b6 b7 b8 b9 b10 b11 b12 ∧
  ∀ (r : Addr) (H' : Hp), Same H H' → H r = none → H' r = some (.lst ((picked 0 [b0, b1, b2, b3, b4, b5, b6, b7, b8, b9, b10, b11, b12]).map V.int)) → Q (.ref r) H'
section
variable {P : Program} {w : World} {K : PySem.W.Frag} {mg : Str → Option Value} {base : Heap}
theorem okCaught {f : Addr} {fd : FuncData} {c : Cs} (F : Fun K "_law_caught" "_law_caught" sCaught f fd) (T : Cls P w K mg base c) (G : ErrG K) (mI : mg "isinstance" = none) (mE : mg "enumerate" = none) :
    FnOk P w K mg base CX0 1 f fd ["_law_error"] (spCaught K c) := by
  refine F.ok scCaught (fun vs H Q E h => ?_) (fun cdv A outer s H vs Q E hr h => ?_)
  · obtain ⟨a, C, fs, b0, b1, b2, b3, b4, b5, b6, b7, b8, b9, b10, b11, b12, rfl, _⟩ := h
    rfl
  have bI : bootBuiltins ("isinstance" : Str) = some (.builtin "isinstance") := by decide +kernel
  refine ⟨_, pss_cons (ps_set (i := 1) scCaught.nd rfl (Or.inl rfl) (pe_lst (pa_cons (pe_callB (callIsErr G) rfl mI bI (pa_cons (pv 0) (pa_cons (pe_glob (v := .ref c.c0) rfl T.k0.g rfl) pa_nil)))
      (pa_cons (pe_callB (callIsErr G) rfl mI bI (pa_cons (pv 0) (pa_cons (pe_glob (v := .ref c.c1) rfl T.k1.g rfl) pa_nil)))
      (pa_cons (pe_callB (callIsErr G) rfl mI bI (pa_cons (pv 0) (pa_cons (pe_glob (v := .ref c.c2) rfl T.k2.g rfl) pa_nil))) pa_nil)))))
    (pss_cons (ps_set (i := 1) scCaught.nd rfl (Or.inl rfl) (pe_op op_cat (pv 1) (pe_lst (pa_cons (pe_callB (callIsErr G) rfl mI bI (pa_cons (pv 0) (pa_cons (pe_glob (v := .ref c.c3) rfl T.k3.g rfl) pa_nil)))
      (pa_cons (pe_callB (callIsErr G) rfl mI bI (pa_cons (pv 0) (pa_cons (pe_glob (v := .ref c.c4) rfl T.k4.g rfl) pa_nil)))
      (pa_cons (pe_callB (callIsErr G) rfl mI bI (pa_cons (pv 0) (pa_cons (pe_glob (v := .ref c.c5) rfl T.k5.g rfl) pa_nil))) pa_nil))))))
    (pss_cons (ps_set (i := 1) scCaught.nd rfl (Or.inl rfl) (pe_op op_cat (pv 1) (pe_lst (pa_cons (pe_callB (callIsErr G) rfl mI bI (pa_cons (pv 0) (pa_cons (pe_glob (v := .ref c.c6) rfl T.k6.g rfl) pa_nil)))
      (pa_cons (pe_callB (callIsErr G) rfl mI bI (pa_cons (pv 0) (pa_cons (pe_glob (v := .ref c.c7) rfl T.k7.g rfl) pa_nil)))
      (pa_cons (pe_callB (callIsErr G) rfl mI bI (pa_cons (pv 0) (pa_cons (pe_glob (v := .ref c.c8) rfl T.k8.g rfl) pa_nil))) pa_nil))))))
    (pss_cons (ps_set (i := 1) scCaught.nd rfl (Or.inl rfl) (pe_op op_cat (pv 1) (pe_lst (pa_cons (pe_callB (callIsErr G) rfl mI bI (pa_cons (pv 0) (pa_cons (pe_glob (v := .ref c.c9) rfl T.k9.g rfl) pa_nil)))
      (pa_cons (pe_callB (callIsErr G) rfl mI bI (pa_cons (pv 0) (pa_cons (pe_glob (v := .ref c.c10) rfl T.k10.g rfl) pa_nil)))
      (pa_cons (pe_callB (callIsErr G) rfl mI bI (pa_cons (pv 0) (pa_cons (pe_glob (v := .ref c.c11) rfl T.k11.g rfl) pa_nil))) pa_nil))))))
    (pss_cons (ps_expr (pe_bm PySem.F.plainAttrs_list PySem.F.slot_list_append PySem.F.type_list_append mt_append (pv 1) (pa_cons (pe_callB (callIsErr G) rfl mI bI (pa_cons (pv 0) (pa_cons (pe_glob (v := .ref c.c12) rfl T.k12.g rfl) pa_nil))) pa_nil)))
    (pss_one (ps_ret (pe_lc (own := [("_law_spot", 2), ("_law_is_one", 3)]) (g := gTup K 2 (gCons (gName 2) (gCons (gName 3) gNil))) rfl scCaught.nd (pi_enum rfl mE (pa_cons (pv 1) pa_nil)) (blkOk_by (N := nCaught) (sc := defScope sCaught) (by decide +kernel))
        (fun _ _ _ _ _ => pg_tup rfl (pgs_cons (pg_name (i := 2) scCaught.nd rfl (Or.inl rfl)) (pgs_cons (pg_name (i := 3) scCaught.nd rfl (Or.inl rfl)) pgs_nil))) (fun _ _ _ _ _ => pts_one (pt_val (pv 3)))
        (fun _ _ _ _ _ => pv 2)))))))), ?_⟩
  obtain ⟨a, C, fs, b0, b1, b2, b3, b4, b5, b6, b7, b8, b9, b10, b11, b12, rfl, TC, ea, kk, q⟩ := h
  refine ⟨_, rfl, a, C, fs, _, _, b0, rfl, .own _, TC, ea, kk.i0, _, rfl, a, C, fs, _, _, b1, rfl, .own _, TC, ea, kk.i1, _, rfl, a, C, fs, _, _, b2, rfl, .own _, TC, ea, kk.i2, (by show 3 ≤ sizeLine; decide), fun l hl => ?_⟩
  have sl := sameNew (o := .lst [.bl b0, .bl b1, .bl b2]) hl
  have ll : upd H l (HO.lst [.bl b0, .bl b1, .bl b2]) l = some (.lst [.bl b0, .bl b1, .bl b2]) := upd_same
  generalize upd H l (HO.lst [.bl b0, .bl b1, .bl b2]) = H1 at sl ll
  have ea1 := ea.mono sl
  refine ⟨_, rfl, _, rfl, a, C, fs, _, _, b3, rfl, .own _, TC, ea1, kk.i3, _, rfl, a, C, fs, _, _, b4, rfl, .own _, TC, ea1, kk.i4, _, rfl, a, C, fs, _, _, b5, rfl, .own _, TC, ea1, kk.i5, (by show 3 ≤ sizeLine; decide), fun m2 h2 => ?_⟩
  have sm2 := sameNew (o := .lst [.bl b3, .bl b4, .bl b5]) h2
  refine ⟨l, m2, _, _, rfl, rfl, sm2 _ _ ll, upd_same, (by show 6 ≤ sizeLine; decide), fun l2 hl2 => ?_⟩
  have sl2 := sameNew (o := .lst ([V.bl b0, .bl b1, .bl b2] ++ [.bl b3, .bl b4, .bl b5])) hl2
  have ll2 : upd (upd H1 m2 (HO.lst [.bl b3, .bl b4, .bl b5])) l2 (.lst ([V.bl b0, .bl b1, .bl b2] ++ [.bl b3, .bl b4, .bl b5])) l2 = some (.lst [.bl b0, .bl b1, .bl b2, .bl b3, .bl b4, .bl b5]) := upd_same
  have s2 := sl.trans (sm2.trans sl2)
  generalize upd (upd H1 m2 (HO.lst [.bl b3, .bl b4, .bl b5])) l2 (.lst ([V.bl b0, .bl b1, .bl b2] ++ [.bl b3, .bl b4, .bl b5])) = H2 at s2 ll2
  clear sl2 sm2 h2 hl2 ea1
  have ea2 := ea.mono s2
  refine ⟨_, rfl, _, rfl, a, C, fs, _, _, b6, rfl, .own _, TC, ea2, kk.i6, _, rfl, a, C, fs, _, _, b7, rfl, .own _, TC, ea2, kk.i7, _, rfl, a, C, fs, _, _, b8, rfl, .own _, TC, ea2, kk.i8, (by show 3 ≤ sizeLine; decide), fun m3 h3 => ?_⟩
  have sm3 := sameNew (o := .lst [.bl b6, .bl b7, .bl b8]) h3
  refine ⟨l2, m3, _, _, rfl, rfl, sm3 _ _ ll2, upd_same, (by show 9 ≤ sizeLine; decide), fun l3 hl3 => ?_⟩
  have sl3 := sameNew (o := .lst ([V.bl b0, .bl b1, .bl b2, .bl b3, .bl b4, .bl b5] ++ [.bl b6, .bl b7, .bl b8])) hl3
  have ll3 : upd (upd H2 m3 (HO.lst [.bl b6, .bl b7, .bl b8])) l3 (.lst ([V.bl b0, .bl b1, .bl b2, .bl b3, .bl b4, .bl b5] ++ [.bl b6, .bl b7, .bl b8])) l3 = some (.lst [.bl b0, .bl b1, .bl b2, .bl b3, .bl b4, .bl b5, .bl b6, .bl b7, .bl b8]) := upd_same
  have s3 := s2.trans (sm3.trans sl3)
  generalize upd (upd H2 m3 (HO.lst [.bl b6, .bl b7, .bl b8])) l3 (.lst ([V.bl b0, .bl b1, .bl b2, .bl b3, .bl b4, .bl b5] ++ [.bl b6, .bl b7, .bl b8])) = H3 at s3 ll3
  clear sl3 sm3 h3 hl3 ea2
  have ea3 := ea.mono s3
  refine ⟨_, rfl, _, rfl, a, C, fs, _, _, b9, rfl, .own _, TC, ea3, kk.i9, _, rfl, a, C, fs, _, _, b10, rfl, .own _, TC, ea3, kk.i10, _, rfl, a, C, fs, _, _, b11, rfl, .own _, TC, ea3, kk.i11, (by show 3 ≤ sizeLine; decide), fun m4 h4 => ?_⟩
  have sm4 := sameNew (o := .lst [.bl b9, .bl b10, .bl b11]) h4
  refine ⟨l3, m4, _, _, rfl, rfl, sm4 _ _ ll3, upd_same, (by show 12 ≤ sizeLine; decide), fun l4 hl4 => ?_⟩
  have sl4 := sameNew (o := .lst ([V.bl b0, .bl b1, .bl b2, .bl b3, .bl b4, .bl b5, .bl b6, .bl b7, .bl b8] ++ [.bl b9, .bl b10, .bl b11])) hl4
  have ll4 : upd (upd H3 m4 (HO.lst [.bl b9, .bl b10, .bl b11])) l4 (.lst ([V.bl b0, .bl b1, .bl b2, .bl b3, .bl b4, .bl b5, .bl b6, .bl b7, .bl b8] ++ [.bl b9, .bl b10, .bl b11])) l4 = some (.lst [.bl b0, .bl b1, .bl b2, .bl b3, .bl b4, .bl b5, .bl b6, .bl b7, .bl b8, .bl b9, .bl b10, .bl b11]) := upd_same
  have s4 := s3.trans (sm4.trans sl4)
  have f4 : H l4 = none := s3.free (sm4.free hl4)
  generalize upd (upd H3 m4 (HO.lst [.bl b9, .bl b10, .bl b11])) l4 (.lst ([V.bl b0, .bl b1, .bl b2, .bl b3, .bl b4, .bl b5, .bl b6, .bl b7, .bl b8] ++ [.bl b9, .bl b10, .bl b11])) = H4 at s4 ll4
  clear sl4 sm4 h4 hl4 ea3
  have ea4 := ea.mono s4
  refine ⟨_, rfl, .inl ⟨rfl, _, SqL.of ll4⟩, _, rfl, a, C, fs, _, _, b12, rfl, .own _, TC, ea4, kk.i12, l4, _, _, rfl, rfl, ll4, (by show 12 < sizeLine; decide), ?_⟩
  have s5 : Same H (upd H4 l4 (.lst ([V.bl b0, .bl b1, .bl b2, .bl b3, .bl b4, .bl b5, .bl b6, .bl b7, .bl b8, .bl b9, .bl b10, .bl b11] ++ [.bl b12]))) := fun b o e => by
    rw [upd_ne (ne_of_none e f4)]
    exact s4 b o e
  have l5 : upd H4 l4 (.lst ([V.bl b0, .bl b1, .bl b2, .bl b3, .bl b4, .bl b5, .bl b6, .bl b7, .bl b8, .bl b9, .bl b10, .bl b11] ++ [.bl b12])) l4 = some (.lst ([b0, b1, b2, b3, b4, b5, b6, b7, b8, b9, b10, b11, b12].map V.bl)) := upd_same
  generalize upd H4 l4 (.lst ([V.bl b0, .bl b1, .bl b2, .bl b3, .bl b4, .bl b5, .bl b6, .bl b7, .bl b8, .bl b9, .bl b10, .bl b11] ++ [.bl b12])) = H5 at s5 l5
  have n13 : [b0, b1, b2, b3, b4, b5, b6, b7, b8, b9, b10, b11, b12].length = 13 := rfl
  generalize [b0, b1, b2, b3, b4, b5, b6, b7, b8, b9, b10, b11, b12] = bs at q l5 n13
  refine ⟨_, rfl, l4, _, rfl, SqL.of l5, fun D hD => ?_⟩
  refine lc_it (walk_enum (K := K) (a := l4) (xs := bs.map V.bl)) (fun i H' => Same H5 H' ∧ H' D = some (.lst ((picked 0 (bs.take i)).map V.int))) ⟨sameNew hD, upd_same⟩
    (fun i H' _ z => SqL.of (z.1 _ _ l5)) ?_ ?_
  · rintro i x Ha Hb hi ⟨g1, g2⟩ ⟨t, x1, x2, rfl, ht, rfl, y1, y2⟩
    rw [List.length_map] at hi
    obtain ⟨b, hb, rfl⟩ : ∃ b, bs[i]? = some b ∧ x2 = V.bl b := by
      have y3 : (bs.map V.bl)[i]? = some x2 := y2
      rw [List.getElem?_map] at y3
      cases e : bs[i]? with
      | none => rw [e] at y3; cases y3
      | some z => rw [e] at y3; exact ⟨z, rfl, (Option.some.inj y3).symm⟩
    have e1 : x1 = V.int (i : Nat) := (Option.some.inj y1).symm
    subst e1
    have nD : D ≠ t := ne_of_none g2 ht
    have pk := picked_snoc b (bs.take i) 0
    have tk : bs.take (i + 1) = bs.take i ++ [b] := by rw [List.take_succ, hb]; rfl
    have li : (bs.take i).length = i := by rw [List.length_take]; omega
    rw [li, Nat.zero_add] at pk
    have hs : Same H5 (upd Ha t (.tup [.int (i : Nat), .bl b])) := g1.trans (sameNew ht)
    refine ⟨t, _, rfl, SqT.of upd_same, rfl, _, _, rfl, _, _, rfl, rfl, rfl, _, rfl, b, rfl, ?_⟩
    cases b with
    | true =>
      refine ⟨_, rfl, _, (by rw [upd_ne nD]; exact g2), ?_, ?_, ?_⟩
      · have := picked_len (bs.take i) 0
        rw [List.length_map]
        exact Nat.lt_of_le_of_lt (Nat.le_trans this (by omega : (bs.take i).length ≤ 13)) (by decide)
      · intro b' o e
        rw [upd_ne (ne_of_none e hD)]
        exact hs b' o e
      · rw [upd_same, tk, pk, List.map_append]
        rfl
    | false =>
      refine ⟨hs, ?_⟩
      rw [upd_ne nD, tk, pk, g2, List.map_append]
      simp
  · rintro H' ⟨g1, g2⟩
    rw [List.length_map, List.take_length] at g2
    exact q D H' (s5.trans g1) (s5.free hD) g2
end
end L2.Und
end

section
set_option Elab.async false
set_option linter.all false
set_option maxRecDepth 100000
set_option maxHeartbeats 4000000
namespace L2.Und
open PySem PySem.Spec PyProof.Rows _root_.Und
/-- d.update(e), dicts of texts and ints -/
def rUpdate : V → List V → Hp → VK → Prop := fun x xs H Q => ∃ (a b : Addr) (ks ls : List (Key × V)), x = .ref a ∧ xs = [.ref b] ∧ a ≠ b ∧ H a = some (.dK ks) ∧ H b = some (.dK ls) ∧ ks.length + ls.length ≤ sizeLine ∧
  Q .non (upd H a (.dK (mergeK ks ls)))
theorem mergeK_len : ∀ (ls ks : List (Key × V)), (mergeK ks ls).length ≤ ks.length + ls.length
  | [], ks => Nat.le_refl _
  | p :: ls, ks => by
    have ih := mergeK_len ls (putK ks p.1 p.2)
    have e : (putK ks p.1 p.2).length ≤ ks.length + 1 := by
      unfold putK
      split
      · rw [List.length_map]
        omega
      · rw [List.length_append]
        exact Nat.le_refl _
    have z : mergeK ks (p :: ls) = mergeK (putK ks p.1 p.2) ls := rfl
    rw [z, List.length_cons]
    omega
theorem mtUpdate {X : Cx} : MtR X "dict.update" rUpdate := by
  intro pins s σ H x xs v us Q I rx rxs h
  obtain ⟨a, b, ks, ls, rfl, rfl, ne, ea, eb, hz, q⟩ := h
  cases (show v = Value.ref a from rx)
  obtain ⟨u, rfl, ru⟩ := vals1 rxs
  cases (show u = Value.ref b from ru)
  obtain ⟨z1, n1, vs, r1, d1⟩ := dk_of I.hok ea
  obtain ⟨z2, n2, ws, r2, d2⟩ := dk_of I.hok eb
  have hl : vs.length + ws.length ≤ sizeLine := by rw [← r1.length, ← r2.length]; exact hz
  refine call_meetsIn PySem.F.slot_dict_update d1.typeIs PySem.F.entry_dict_update (PySem.F.args_dict_update_2 _ _) (meets_dict_update (mixKind X.prog X.w) a b ne n2) ⟨vs, ws, d1, d2, hl, fun h' e1 e2 sb => ?_⟩
  have new : ObjOk X.prog X.w (upd H a (.dK (mergeK ks ls))) h' a (.dK (mergeK ks ls)) := ⟨Nat.le_trans (mergeK_len ls ks) hz, n1, _, KV.merge r2 r1, e1⟩
  have there : ∃ o, h'.get? a = some o := by
    obtain ⟨o, _, _, g, _⟩ := e1
    exact ⟨o, g⟩
  exact ⟨.non, _, I.write (t' := s.toks) (x := a) (e := a) (o := .dK (mergeK ks ls)) (by rw [ea]; exact True.intro) (.inl rfl) (fun c o hc e => (sb.2 c hc).trans e) there new, rfl, q⟩
end L2.Und
end

section
set_option Elab.async false
set_option linter.all false
set_option maxRecDepth 100000
set_option maxHeartbeats 4000000
namespace L2.Und
open PySem PySem.Spec PyProof.Rows _root_.Und
open PySem.W (findIn keepIn typeIn)
abbrev sKept : Stmt := topS 19
abbrev nKept : List Str := ["_law_error", "_law_names", "_law_values", "_law_told", "_law_key"]
theorem scKept : FnScope nKept ["_law_error", "_law_names", "_law_values"] (defScope sKept) := ⟨rfl, rfl, rfl, by decide +kernel, rfl, by decide +kernel, by decide +kernel⟩
theorem flatStrs : ∀ ns : List Str, (ns.map V.str).all flatV = true
  | [] => rfl
  | x :: ns => by rw [List.map_cons, List.all_cons, flatStrs ns]; rfl
theorem inStrs (x : Str) : ∀ ns : List Str, inV (.str x) (ns.map V.str) = decide (x ∈ ns)
  | [] => by simp [inV]
  | y :: ns => by
    have ih := inStrs x ns
    unfold inV at ih ⊢
    rw [List.map_cons, List.any_cons, ih]
    show ((y == x) || decide (x ∈ ns)) = _
    by_cases h : y = x
    · subst h
      simp
    · have h' : (y == x) = false := by simpa using h
      have h2 : ¬ x = y := fun z => h z.symm
      rw [h', Bool.false_or]
      simp [h2]
/-- all but the dict at d stands -/
def But (d : Addr) (H H' : Hp) : Prop := ∀ b o, b ≠ d → H b = some o → H' b = some o
section
variable {K : PySem.W.Frag} {C e n d : Addr} {fs : List (Str × V)} {ns : List Str} {val : Str → V} {tl : List (Key × V)} {x y : Str} {σ : St} {H : Hp}
/-- the names of an error's fields that are asked -/
def Asked (K : PySem.W.Frag) (C : Addr) (fs : List (Str × V)) (val : Str → V) (ns : List Str) (x : Str) : Prop := x ∈ ns → findIn K (.ref C) x = some none ∧ fs.lookup x = some (val x)
def tDict1 (K : PySem.W.Frag) (x : Str) : TE := tIf (tTest (tOp (rIn K false) (tC (.str x)) (tVar 1))) (tDisp [(tC (.str x), tGet K (tVar 0) x)]) tDNewK
def tDict2 (K : PySem.W.Frag) (x y : Str) : TE := tIf (tTest (tOp (rIn K false) (tC (.str x)) (tVar 1))) (tDisp [(tC (.str x), tGet K (tVar 0) x), (tC (.str y), tGet K (tVar 0) y)]) tDNewK
theorem dict1 {Q : VK} (h0 : σ[0]? = some (some (.ref e))) (h1 : σ[1]? = some (some (.ref n))) (TC : ErrC K C) (ea : ErrAt H e C fs) (hn : SqT K H n (ns.map V.str)) (gx : Asked K C fs val ns x)
    (q : ∀ (p : Addr) (H' : Hp), H p = none → Same H H' → H' p = some (.dK (if x ∈ ns then [(.inr x, val x)] else [])) → Q (.ref p) H') : tDict1 K x σ H Q := by
  refine ⟨_, h1, n, _, rfl, .inr hn, rfl, flatStrs ns, _, rfl, ?_⟩
  show if inV (.str x) (ns.map V.str) = true then _ else _
  rw [inStrs]
  by_cases hx : x ∈ ns
  · obtain ⟨g1, g2⟩ := gx hx
    rw [decide_eq_true hx]
    refine iteT fun p hp => ?_
    refine ⟨_, h0, e, C, fs, val x, rfl, TC, g1, ea.mono (sameNew hp), g2, upd_same, [(.inr x, val x)], rfl, (by show 1 ≤ 15; decide), ?_⟩
    rw [upd_upd]
    refine q p _ hp (sameNew hp) ?_
    rw [if_pos hx, upd_same]
    rfl
  · rw [decide_eq_false hx]
    refine iteF fun p hp => ?_
    refine q p _ hp (sameNew hp) ?_
    rw [if_neg hx, upd_same]
theorem dict2 {Q : VK} (h0 : σ[0]? = some (some (.ref e))) (h1 : σ[1]? = some (some (.ref n))) (TC : ErrC K C) (ea : ErrAt H e C fs) (hn : SqT K H n (ns.map V.str)) (gx : Asked K C fs val ns x) (gy : Asked K C fs val ns y)
    (xy : x ∈ ns → y ∈ ns) (ne : y ≠ x)
    (q : ∀ (p : Addr) (H' : Hp), H p = none → Same H H' → H' p = some (.dK (if x ∈ ns then [(.inr x, val x), (.inr y, val y)] else [])) → Q (.ref p) H') : tDict2 K x y σ H Q := by
  refine ⟨_, h1, n, _, rfl, .inr hn, rfl, flatStrs ns, _, rfl, ?_⟩
  show if inV (.str x) (ns.map V.str) = true then _ else _
  rw [inStrs]
  by_cases hx : x ∈ ns
  · obtain ⟨g1, g2⟩ := gx hx
    obtain ⟨g3, g4⟩ := gy (xy hx)
    rw [decide_eq_true hx]
    refine iteT fun p hp => ?_
    refine ⟨_, h0, e, C, fs, val x, rfl, TC, g1, ea.mono (sameNew hp), g2, _, h0, e, C, fs, val y, rfl, TC, g3, ea.mono (sameNew hp), g4, upd_same, [(.inr x, val x), (.inr y, val y)], rfl, (by show 2 ≤ 15; decide), ?_⟩
    rw [upd_upd]
    refine q p _ hp (sameNew hp) ?_
    rw [if_pos hx, upd_same]
    have e1 : (mergeK [] [((Sum.inr x : Key), val x), (Sum.inr y, val y)]) = [(Sum.inr x, val x), (Sum.inr y, val y)] := by
      show putK (putK [] (Sum.inr x) (val x)) (Sum.inr y) (val y) = _
      rw [putK_new (kvs := []) _ rfl, putK_new]
      · rfl
      · have : ¬ (Sum.inr x : Key) = Sum.inr y := fun z => ne (Sum.inr.inj z).symm
        simp [valV, this]
    rw [e1]
  · rw [decide_eq_false hx]
    refine iteF fun p hp => ?_
    refine q p _ hp (sameNew hp) ?_
    rw [if_neg hx, upd_same]
/-- what told holds of the names that were seen -/
def Told (ns : List Str) (val : Str → V) (done : List Str) (tl : List (Key × V)) : Prop := tl.length ≤ done.length ∧ ∀ x ∈ done, x ∈ ns → valV tl (.inr x) = some (val x)
theorem told_put {done : List Str} (t : Told ns val done tl) (h : x ∈ ns) : Told ns val (x :: done) (putK tl (.inr x) (val x)) := by
  refine ⟨?_, fun z hz hn => ?_⟩
  · have := length_putK tl (Sum.inr x) (val x)
    have := t.1
    rw [List.length_cons]
    omega
  · rw [valV_put]
    by_cases e : z = x
    · subst e
      rw [if_pos rfl]
    · rw [if_neg (fun q => e (Sum.inr.inj q))]
      rcases List.mem_cons.mp hz with hz | hz
      · exact absurd hz e
      · exact t.2 z hz hn
theorem told_not {done : List Str} (t : Told ns val done tl) (h : x ∉ ns) : Told ns val (x :: done) tl := by
  refine ⟨Nat.le_succ_of_le t.1, fun z hz hn => ?_⟩
  rcases List.mem_cons.mp hz with hz | hz
  · exact absurd (hz ▸ hn) h
  · exact t.2 z hz hn
theorem told1 {done : List Str} (t : Told ns val done tl) : Told ns val (x :: done) (mergeK tl (if x ∈ ns then [(.inr x, val x)] else [])) := by
  by_cases h : x ∈ ns
  · rw [if_pos h]
    exact told_put t h
  · rw [if_neg h]
    exact told_not t h
theorem told2 {done : List Str} (t : Told ns val done tl) (xy : x ∈ ns ↔ y ∈ ns) : Told ns val (y :: x :: done) (mergeK tl (if x ∈ ns then [(.inr x, val x), (.inr y, val y)] else [])) := by
  by_cases h : x ∈ ns
  · rw [if_pos h]
    exact told_put (told_put t h) (xy.mp h)
  · rw [if_neg h]
    exact told_not (told_not t h) (fun z => h (xy.mpr z))
def tUpd (K : PySem.W.Frag) (t : TE) : TS := tDrop (tBM K "dict" rUpdate (tVar 3) (tCons t tNil))
theorem upd1 {D : Ends} {done : List Str} (h0 : σ[0]? = some (some (.ref e))) (h1 : σ[1]? = some (some (.ref n))) (h3 : σ[3]? = some (some (.ref d))) (TC : ErrC K C) (ea : ErrAt H e C fs) (hn : SqT K H n (ns.map V.str))
    (gx : Asked K C fs val ns x) (hd : H d = some (.dK tl)) (t : Told ns val done tl) (hl : done.length ≤ 100)
    (q : ∀ (H' : Hp) (tl' : List (Key × V)), But d H H' → H' d = some (.dK tl') → Told ns val (x :: done) tl' → D.nx σ H') : tUpd K (tDict1 K x) D σ H := by
  refine ⟨_, h3, .inr (.inr (.inl ⟨rfl, .inl ⟨_, hd⟩⟩)), dict1 h0 h1 TC ea hn gx fun p H' hp s hp' => ?_⟩
  have dp := ne_of_none hd hp
  refine ⟨d, p, tl, _, rfl, rfl, dp, s _ _ hd, hp', ?_, q _ _ (fun b o hb z => ?_) upd_same (told1 t)⟩
  · have := t.1
    have : (if x ∈ ns then [((Sum.inr x : Key), val x)] else []).length ≤ 1 := by split <;> simp
    exact fits (by omega)
  · rw [upd_ne hb]
    exact s b o z
theorem upd2 {D : Ends} {done : List Str} (h0 : σ[0]? = some (some (.ref e))) (h1 : σ[1]? = some (some (.ref n))) (h3 : σ[3]? = some (some (.ref d))) (TC : ErrC K C) (ea : ErrAt H e C fs) (hn : SqT K H n (ns.map V.str))
    (gx : Asked K C fs val ns x) (gy : Asked K C fs val ns y) (xy : x ∈ ns ↔ y ∈ ns) (ne : y ≠ x) (hd : H d = some (.dK tl)) (t : Told ns val done tl) (hl : done.length ≤ 100)
    (q : ∀ (H' : Hp) (tl' : List (Key × V)), But d H H' → H' d = some (.dK tl') → Told ns val (y :: x :: done) tl' → D.nx σ H') : tUpd K (tDict2 K x y) D σ H := by
  refine ⟨_, h3, .inr (.inr (.inl ⟨rfl, .inl ⟨_, hd⟩⟩)), dict2 h0 h1 TC ea hn gx gy xy.mp ne fun p H' hp s hp' => ?_⟩
  have dp := ne_of_none hd hp
  refine ⟨d, p, tl, _, rfl, rfl, dp, s _ _ hd, hp', ?_, q _ _ (fun b o hb z => ?_) upd_same (told2 t xy)⟩
  · have := t.1
    have : (if x ∈ ns then [((Sum.inr x : Key), val x), (Sum.inr y, val y)] else []).length ≤ 2 := by split <;> simp
    exact fits (by omega)
  · rw [upd_ne hb]
    exact s b o z
end
def allNames : List Str := ["name", "version", "other", "one", "count", "kind", "at", "word"]
def spKept (K : PySem.W.Frag) : Sp := fun vs H Q _ => ∃ (e n v C : Addr) (fs : List (Str × V)) (ns : List Str) (val : Str → V) (ts : List PyData), vs = [.ref e, .ref n, .ref v] ∧ ErrC K C ∧ ErrAt H e C fs ∧
  SqT K H n (ns.map V.str) ∧ SqT K H v (ns.map val) ∧ DpAll K H (ns.map val) ts ∧ (∀ t ∈ ts, Nice 6 t) ∧ ns.length ≤ 3 ∧ (∀ x ∈ ns, x ∈ allNames) ∧ (∀ x, Asked K C fs val ns x) ∧ (("one" : Str) ∈ ns ↔ ("other" : Str) ∈ ns) ∧
  ∀ H', Same H H' → Q (.bl true) H'
section
variable {P : Program} {w : World} {K : PySem.W.Frag} {mg : Str → Option Value} {base : Heap}
theorem okKept {f : Addr} {fd : FuncData} (F : Fun K "_law_kept" "_law_kept" sKept f fd) (mR : mg "repr" = none) (mL : mg "list" = none) : FnG P w K mg base 1 f fd ["_law_error", "_law_names", "_law_values"] (spKept K) := by
  refine okG F scKept (fun vs H Q E h => ?_) (fun cdv A outer s H vs Q E hA hr h => ?_)
  · obtain ⟨e, n, v, C, fs, ns, val, ts, rfl, _⟩ := h
    rfl
  have hu : (A.deeper (envOfC "_law_kept" (defScope sKept) s.heap.objs.size f cdv)).units + 64 < cLine := by have := hr.un; omega
  have hu1 : (A.deeper (envOfC "_law_kept" (defScope sKept) s.heap.objs.size f cdv)).units + 1 < cLine := by omega
  have hG : (A.deeper (envOfC "_law_kept" (defScope sKept) s.heap.objs.size f cdv)).guards = some [] := hA
  refine ⟨tSeq (tAsg (tDict1 K "word") (gName 3)) (tSeq (tUpd K (tDict1 K "at")) (tSeq (tUpd K (tDict1 K "kind")) (tSeq (tUpd K (tDict1 K "count")) (tSeq (tUpd K (tDict2 K "one" "other")) (tSeq (tUpd K (tDict1 K "version")) (tSeq (tUpd K (tDict1 K "name")) _)))))), pss_cons (ps_set (i := 3) scKept.nd rfl (Or.inr rfl) (pe_ifExp (pt_cmpR op_in_seq pe_str (pv 1) rfl) (pe_disp (pps_cons pe_str (peGet (pv 0)) pps_nil) rfl rfl (by decide) (by decide)) pe_dnewK))
    (pss_cons (ps_expr (pe_bm PySem.F.plainAttrs_dict PySem.F.slot_dict_update PySem.F.type_dict_update mtUpdate (pv 3) (pa_cons (pe_ifExp (pt_cmpR op_in_seq pe_str (pv 1) rfl) (pe_disp (pps_cons pe_str (peGet (pv 0)) pps_nil) rfl rfl (by decide) (by decide)) pe_dnewK) pa_nil)))
    (pss_cons (ps_expr (pe_bm PySem.F.plainAttrs_dict PySem.F.slot_dict_update PySem.F.type_dict_update mtUpdate (pv 3) (pa_cons (pe_ifExp (pt_cmpR op_in_seq pe_str (pv 1) rfl) (pe_disp (pps_cons pe_str (peGet (pv 0)) pps_nil) rfl rfl (by decide) (by decide)) pe_dnewK) pa_nil)))
    (pss_cons (ps_expr (pe_bm PySem.F.plainAttrs_dict PySem.F.slot_dict_update PySem.F.type_dict_update mtUpdate (pv 3) (pa_cons (pe_ifExp (pt_cmpR op_in_seq pe_str (pv 1) rfl) (pe_disp (pps_cons pe_str (peGet (pv 0)) pps_nil) rfl rfl (by decide) (by decide)) pe_dnewK) pa_nil)))
    (pss_cons (ps_expr (pe_bm PySem.F.plainAttrs_dict PySem.F.slot_dict_update PySem.F.type_dict_update mtUpdate (pv 3) (pa_cons (pe_ifExp (pt_cmpR op_in_seq pe_str (pv 1) rfl) (pe_disp (pps_cons pe_str (peGet (pv 0)) (pps_cons pe_str (peGet (pv 0)) pps_nil)) rfl rfl (by decide) (by decide)) pe_dnewK) pa_nil)))
    (pss_cons (ps_expr (pe_bm PySem.F.plainAttrs_dict PySem.F.slot_dict_update PySem.F.type_dict_update mtUpdate (pv 3) (pa_cons (pe_ifExp (pt_cmpR op_in_seq pe_str (pv 1) rfl) (pe_disp (pps_cons pe_str (peGet (pv 0)) pps_nil) rfl rfl (by decide) (by decide)) pe_dnewK) pa_nil)))
    (pss_cons (ps_expr (pe_bm PySem.F.plainAttrs_dict PySem.F.slot_dict_update PySem.F.type_dict_update mtUpdate (pv 3) (pa_cons (pe_ifExp (pt_cmpR op_in_seq pe_str (pv 1) rfl) (pe_disp (pps_cons pe_str (peGet (pv 0)) pps_nil) rfl rfl (by decide) (by decide)) pe_dnewK) pa_nil)))
    (pss_one (ps_ret (pe_cmpR op_eq (pe_callB (callShow hG hu) rfl mR PyProof.Rows.boot_repr (pa_cons (pe_lc (own := [("_law_key", 4)]) (g := gName 4) (tt := tYes) rfl scKept.nd (pi_tup (pv 1)) (blkOk_by (N := nKept) (sc := defScope sKept) (by decide +kernel))
        (fun _ _ _ _ _ => pg_name (i := 4) scKept.nd rfl (Or.inl rfl)) (fun _ _ _ _ _ => pts_nil) (fun _ _ _ _ _ => pe_dget hu1 (pv 3) (pv 4) (fun _ _ => rfl))) pa_nil))
      (pe_callB (callShow hG hu) rfl mR PyProof.Rows.boot_repr (pa_cons (pe_callTy call_list_of rfl mL PyProof.Rows.Boot.«list» (pa_cons (pv 2) pa_nil)) pa_nil)) (nomark _)))))))))), ?_⟩
  obtain ⟨e, n, v, C, fs, ns, val, ts, rfl, TC, ea, hn, hv, dv, nice, n3, names, gx, xy, q⟩ := h
  refine dict1 (e := e) (n := n) rfl rfl TC ea hn (gx _) fun d H1 hd s1 d1 => ?_
  have t1 : Told ns val ["word"] (if ("word" : Str) ∈ ns then [((Sum.inr "word" : Key), val "word")] else []) := by
    have z := told1 (ns := ns) (val := val) (x := "word") (done := []) (tl := []) ⟨Nat.le_refl _, fun x hx => nomatch hx⟩
    have e1 : mergeK [] (if ("word" : Str) ∈ ns then [((Sum.inr "word" : Key), val "word")] else []) = (if ("word" : Str) ∈ ns then [((Sum.inr "word" : Key), val "word")] else []) := by split <;> rfl
    rw [e1] at z
    exact z
  have go : ∀ {Ha Hb : Hp}, Same H Ha → But d Ha Hb → Same H Hb := fun s b c o z => b c o (ne_of_none z hd) (s c o z)
  refine upd1 (e := e) (n := n) (d := d) rfl rfl rfl TC (ea.mono s1) (Same.tup s1 hn) (gx _) d1 t1 (by decide) fun H2 tl2 b2 d2 t2 => ?_
  have s2 := go s1 b2
  refine upd1 (e := e) (n := n) (d := d) rfl rfl rfl TC (ea.mono s2) (Same.tup s2 hn) (gx _) d2 t2 (by decide) fun H3 tl3 b3 d3 t3 => ?_
  have s3 := go s2 b3
  refine upd1 (e := e) (n := n) (d := d) rfl rfl rfl TC (ea.mono s3) (Same.tup s3 hn) (gx _) d3 t3 (by decide) fun H4 tl4 b4 d4 t4 => ?_
  have s4 := go s3 b4
  refine upd2 (e := e) (n := n) (d := d) rfl rfl rfl TC (ea.mono s4) (Same.tup s4 hn) (gx _) (gx _) xy (by decide +kernel) d4 t4 (by decide) fun H5 tl5 b5 d5 t5 => ?_
  have s5 := go s4 b5
  refine upd1 (e := e) (n := n) (d := d) rfl rfl rfl TC (ea.mono s5) (Same.tup s5 hn) (gx _) d5 t5 (by decide) fun H6 tl6 b6 d6 t6 => ?_
  have s6 := go s5 b6
  refine upd1 (e := e) (n := n) (d := d) rfl rfl rfl TC (ea.mono s6) (Same.tup s6 hn) (gx _) d6 t6 (by decide) fun H7 tl7 b7 d7 t7 => ?_
  have s7 := go s6 b7
  have hn7 := Same.tup s7 hn
  have lt : ts.length ≤ 3 := by
    have z := dpLen dv
    rw [List.length_map] at z
    omega
  have N := (niceList lt nice).1
  have hb : bound 7 ≤ sizeLine := by decide +kernel
  have nl : (PyData.list ts).shown.length ≤ sizeLine := Nat.le_trans N.ln hb
  have nd : (PyData.list ts).depth ≤ 40 := by have := N.dp; omega
  refine ⟨_, rfl, n, rfl, ⟨_, hn7⟩, fun D hD => ?_⟩
  refine lc_tup (K := K) (a := n) (xs := ns.map V.str) (fun i H' => Same H7 H' ∧ H' D = some (.lst ((ns.take i).map val))) ⟨sameNew hD, upd_same⟩ (fun i H' _ z => Same.tup z.1 hn7) ?_ ?_
  · rintro i x H' hx ⟨g1, g2⟩
    obtain ⟨z, hz, rfl⟩ : ∃ z, ns[i]? = some z ∧ x = V.str z := by
      rw [List.getElem?_map] at hx
      cases e : ns[i]? with
      | none => rw [e] at hx; cases hx
      | some z => rw [e] at hx; exact ⟨z, rfl, (Option.some.inj hx).symm⟩
    have zm := List.mem_of_getElem? hz
    have vz := t7.2 z (names z zm) zm
    have dg : DGet H' d (.str z) (some (val z)) := by
      have q0 : DGet H' d (kV (.inr z)) (valV tl7 (.inr z)) := DGet.k (g1 _ _ d7)
      rw [vz] at q0
      exact q0
    refine ⟨rfl, _, rfl, _, rfl, d, val z, rfl, dg, _, g2, ?_, ?_, ?_⟩
    · rw [List.length_map]
      exact Nat.lt_of_le_of_lt (Nat.le_trans (List.length_take_le' _ _) n3) (by decide)
    · intro b' o e
      rw [upd_ne (ne_of_none e hD)]
      exact g1 b' o e
    · rw [upd_same, List.take_succ, hz, List.map_append]
      rfl
  · rintro H' ⟨g1, g2⟩
    rw [List.length_map, List.take_length] at g2
    have sA := s7.trans g1
    refine ⟨D, .list ts, rfl, .lst (SqL.of g2) (dpSameAll sA _ _ dv), N.sh, N.nd, nd, nl, ?_⟩
    refine ⟨_, rfl, v, _, rfl, .inr (Same.tup sA hv), fun L hL => ?_⟩
    refine ⟨L, .list ts, rfl, .lst (SqL.of upd_same) (dpSameAll (sA.trans (sameNew hL)) _ _ dv), N.sh, N.nd, nd, nl, rfl, ?_⟩
    rw [decide_eq_true rfl]
    exact q _ (sA.trans (sameNew hL))
end
end L2.Und
end

section
set_option Elab.async false
set_option linter.all false
set_option maxRecDepth 100000
set_option maxHeartbeats 8000000
namespace L2.Und
open PySem PySem.Spec PyProof.Rows _root_.Und
open PySem.W (findIn keepIn typeIn)
abbrev sLaw : Stmt := topS 23
abbrev nLaw : List Str := ["_law_script", "_law_deal_here", "_law_names", "_law_box", "_law_errors", "_law_turn", "_law_a", "_law_b", "_law_others", "_law_spot", "_law_kept_here", "_law_error", "_law_bases"]
theorem scLaw : FnScope nLaw ["_law_script"] (defScope sLaw) := ⟨rfl, rfl, rfl, by decide +kernel, rfl, by decide +kernel, by decide +kernel⟩
def nameTab : List (List Str) := [["word", "at"], ["at"], ["word", "kind"], [], ["at"], ["at"], ["count"], ["one", "other"], ["version"], ["name"], [], ["name"], ["name"]]
inductive TupL (H : Hp) : List Addr → List (List Str) → Prop
  | nil : TupL H [] []
  | cons {t : Addr} {ns : List Str} {ts : List Addr} {nss : List (List Str)} : H t = some (.tup (ns.map V.str)) → TupL H ts nss → TupL H (t :: ts) (ns :: nss)
theorem TupL.mono {H H' : Hp} (k : ∀ b o, H b = some o → H' b = some o) : ∀ {ts : List Addr} {nss : List (List Str)}, TupL H ts nss → TupL H' ts nss
  | _, _, .nil => .nil
  | _, _, .cons h t => .cons (k _ _ h) (t.mono k)
theorem TupL.at {H : Hp} : ∀ {ts : List Addr} {nss : List (List Str)} {i : Nat} {t : Addr}, TupL H ts nss → ts[i]? = some t → ∃ ns, nss[i]? = some ns ∧ H t = some (.tup (ns.map V.str))
  | _, _, 0, _, .cons h _, e => by
    simp at e
    subst e
    exact ⟨_, rfl, h⟩
  | _, _, i + 1, _, .cons _ t, e => by
    simp at e
    obtain ⟨ns, e1, e2⟩ := t.at e
    exact ⟨ns, by simpa using e1, e2⟩
  | _, _, 0, _, .nil, e => by simp at e
  | _, _, i + 1, _, .nil, e => by simp at e
theorem TupL.len {H : Hp} : ∀ {ts : List Addr} {nss : List (List Str)}, TupL H ts nss → ts.length = nss.length
  | _, _, .nil => rfl
  | _, _, .cons _ t => congrArg Nat.succ t.len
/-- what the written part says of the class at a spot -/
structure Spot (K : PySem.W.Frag) (c : Cs) (U : Addr) (i : Nat) (C : Addr) (ns : List Str) : Prop where
  T : ErrC K C
  kits : ∃ b0 b1 b2 b3 b4 b5 b6 b7 b8 b9 b10 b11 b12, Kits K C c b0 b1 b2 b3 b4 b5 b6 b7 b8 b9 b10 b11 b12 ∧ picked 0 [b0, b1, b2, b3, b4, b5, b6, b7, b8, b9, b10, b11, b12] = [(i : Int)]
  undo : PySem.W.kitOne K (.ref C) (.ref U) = some (decide (i ≤ 10))
  value : PySem.W.kitOne K (.ref C) (.type "ValueError") = some (decide (i ≤ 10))
  key : PySem.W.kitOne K (.ref C) (.type "KeyError") = some (!decide (i ≤ 10))
  no : ∀ x ∈ ns, findIn K (.ref C) x = some none
/-- t[lo:hi], whether it is t itself or a new one -/
def rSlN (K : PySem.W.Frag) : V → Option Int → Option Int → Hp → VK → Prop := fun x lo hi H Q => ∃ a xs, x = .ref a ∧ SqT K H a xs ∧ ∀ (p : Addr) (H' : Hp), Same H H' → SqT K H' p (cutV xs lo hi) → Q (.ref p) H'
theorem slN_A {K : PySem.W.Frag} {x : V} {lo hi : Option Int} {H : Hp} {Q : VK} (h : rSlN K x lo hi H Q) : rSlA K x lo hi H Q := by
  obtain ⟨a, xs, rfl, hs, q⟩ := h
  refine ⟨a, xs, rfl, hs, fun w => q a H (Same.refl H) ?_, fun _ p hp => q p _ (sameNew hp) (SqT.of upd_same)⟩
  unfold cutV
  rw [w.1, w.2, List.drop_zero, Nat.sub_zero, List.take_length]
  exact hs
theorem sl_tupN {X : Cx} : SlR X (rSlN X.K) := fun pins s σ H x v vl vu lo hi sl Q I rx hs pl pu h => sl_tupA pins s σ H x v vl vu lo hi sl Q I rx hs pl pu (slN_A h)
theorem ifNo {c : Bool} {A B : Prop} (h : c = false) (b : B) : if c = true then A else B := by
  rw [h]
  exact iteF b
/-- what is kept at a spot -/
theorem spotVals (va vb : V) : ∀ (i : Nat) (ns : List Str) (fs : List (Str × V)), nameTab[i]? = some ns → (tab va vb)[i]? = some fs →
    ∃ val : Str → V, ns.map val = [va, vb].take ns.length ∧ (∀ x ∈ ns, fs.lookup x = some (val x)) ∧ ns.length ≤ 2 ∧ (∀ x ∈ ns, x ∈ allNames) ∧ (("one" : Str) ∈ ns ↔ ("other" : Str) ∈ ns) := by
  intro i ns fs h1 h2
  have hi : i < 13 := by
    obtain ⟨z, _⟩ := List.getElem?_eq_some_iff.mp h1
    exact z
  refine ⟨fun x => (fs.lookup x).getD .non, ?_⟩
  match i, hi with
  | 0, _ => cases h1; cases h2; exact ⟨rfl, by intro x hx; simp only [List.mem_cons, List.not_mem_nil, or_false] at hx; rcases hx with rfl | rfl <;> rfl, by decide, by decide +kernel, by decide +kernel⟩
  | 1, _ => cases h1; cases h2; exact ⟨rfl, by intro x hx; simp only [List.mem_cons, List.not_mem_nil, or_false] at hx; subst hx; rfl, by decide, by decide +kernel, by decide +kernel⟩
  | 2, _ => cases h1; cases h2; exact ⟨rfl, by intro x hx; simp only [List.mem_cons, List.not_mem_nil, or_false] at hx; rcases hx with rfl | rfl <;> rfl, by decide, by decide +kernel, by decide +kernel⟩
  | 3, _ => cases h1; cases h2; exact ⟨rfl, (fun x hx => nomatch hx), by decide, by decide +kernel, by decide +kernel⟩
  | 4, _ => cases h1; cases h2; exact ⟨rfl, by intro x hx; simp only [List.mem_cons, List.not_mem_nil, or_false] at hx; subst hx; rfl, by decide, by decide +kernel, by decide +kernel⟩
  | 5, _ => cases h1; cases h2; exact ⟨rfl, by intro x hx; simp only [List.mem_cons, List.not_mem_nil, or_false] at hx; subst hx; rfl, by decide, by decide +kernel, by decide +kernel⟩
  | 6, _ => cases h1; cases h2; exact ⟨rfl, by intro x hx; simp only [List.mem_cons, List.not_mem_nil, or_false] at hx; subst hx; rfl, by decide, by decide +kernel, by decide +kernel⟩
  | 7, _ => cases h1; cases h2; exact ⟨rfl, by intro x hx; simp only [List.mem_cons, List.not_mem_nil, or_false] at hx; rcases hx with rfl | rfl <;> rfl, by decide, by decide +kernel, by decide +kernel⟩
  | 8, _ => cases h1; cases h2; exact ⟨rfl, by intro x hx; simp only [List.mem_cons, List.not_mem_nil, or_false] at hx; subst hx; rfl, by decide, by decide +kernel, by decide +kernel⟩
  | 9, _ => cases h1; cases h2; exact ⟨rfl, by intro x hx; simp only [List.mem_cons, List.not_mem_nil, or_false] at hx; subst hx; rfl, by decide, by decide +kernel, by decide +kernel⟩
  | 10, _ => cases h1; cases h2; exact ⟨rfl, (fun x hx => nomatch hx), by decide, by decide +kernel, by decide +kernel⟩
  | 11, _ => cases h1; cases h2; exact ⟨rfl, by intro x hx; simp only [List.mem_cons, List.not_mem_nil, or_false] at hx; subst hx; rfl, by decide, by decide +kernel, by decide +kernel⟩
  | 12, _ => cases h1; cases h2; exact ⟨rfl, by intro x hx; simp only [List.mem_cons, List.not_mem_nil, or_false] at hx; subst hx; rfl, by decide, by decide +kernel, by decide +kernel⟩
theorem TupL.tups {H H' : Hp} (k : ∀ t xs, H t = some (.tup xs) → H' t = some (.tup xs)) : ∀ {ts : List Addr} {nss : List (List Str)}, TupL H ts nss → TupL H' ts nss
  | _, _, .nil => .nil
  | _, _, .cons h t => .cons (k _ _ h) (t.tups k)
/-- what stands through all turns -/
structure Stand (d c nl : Addr) (ts : List Addr) (H : Hp) : Prop where
  deal : Deal H d c
  names : H nl = some (.lst (ts.map V.ref))
  tups : TupL H ts nameTab
theorem Stand.same {d c nl : Addr} {ts : List Addr} {H H' : Hp} (x : Stand d c nl ts H) (s : Same H H') : Stand d c nl ts H' := ⟨x.deal.same s, s _ _ x.names, x.tups.mono s⟩
theorem Deal.tup {H : Hp} {d c t : Addr} {xs : List V} (x : Deal H d c) (h : H t = some (.tup xs)) : t ≠ d ∧ t ≠ c := x.ints h (fun _ z => nomatch z) (fun _ z => nomatch z)
theorem Stand.kept {d c nl : Addr} {ts : List Addr} {H H' : Hp} (x : Stand d c nl ts H) (k : Kept d c H H') (D : Deal H' d c) (n1 : nl ≠ d) (n2 : nl ≠ c) : Stand d c nl ts H' :=
  ⟨D, k _ _ n1 n2 x.names, x.tups.tups fun t xs h => k _ _ (x.deal.tup h).1 (x.deal.tup h).2 h⟩
theorem dpTake {K : PySem.W.Frag} {H : Hp} : ∀ (n : Nat) {vs : List V} {ts : List PyData}, DpAll K H vs ts → (∀ u ∈ ts, Nice 6 u) → ∃ tds, DpAll K H (vs.take n) tds ∧ ∀ u ∈ tds, Nice 6 u
  | 0, _, _, _, _ => ⟨[], .nil, fun u hu => nomatch hu⟩
  | n + 1, _, _, .nil, _ => ⟨[], .nil, fun u hu => nomatch hu⟩
  | n + 1, _, _, .cons h t, q => by
    obtain ⟨tds, d, z⟩ := dpTake n t fun u hu => q u (List.mem_cons_of_mem _ hu)
    refine ⟨_ :: tds, .cons h d, fun u hu => ?_⟩
    rcases List.mem_cons.mp hu with rfl | hu
    · exact q _ List.mem_cons_self
    · exact z u hu
theorem atRef {as : List Addr} {i : Nat} {e : Addr} (h : as[i]? = some e) : atI (as.map V.ref) (i : Int) = some (.ref e) := atI_nat (by rw [List.getElem?_map, h]; rfl)
theorem ErrAt.updL {H : Hp} {a C b : Addr} {fs : List (Str × V)} {xs : List V} {o : HO} (x : ErrAt H a C fs) (h : H b = some (.lst xs)) : ErrAt (upd H b o) a C fs := by
  have n1 : ∀ (e D : Addr) (d : Option Addr), exo e D d ≠ .lst xs := fun e D d z => by
    have z' : HO.ext _ = HO.lst xs := z
    cases z'
  have n2 : ∀ (e : Addr) (gs : List (Str × V)), exd e gs ≠ .lst xs := fun e gs z => by
    have z' : HO.ext _ = HO.lst xs := z
    cases z'
  rcases x with ⟨e, z⟩ | ⟨dx, z1, z2⟩
  · exact .inl ⟨e, by rw [upd_ne (ne_of z h (n1 _ _ _))]; exact z⟩
  · exact .inr ⟨dx, by rw [upd_ne (ne_of z1 h (n1 _ _ _))]; exact z1, by rw [upd_ne (ne_of z2 h (n2 _ _))]; exact z2⟩
def spLaw (K : PySem.W.Frag) : Sp := fun vs H Q _ => ∃ (a : Addr) (ns : List Int), vs = [.ref a] ∧ SqL K H a (ns.map V.int) ∧ ns.length ≤ 63 ∧ ∀ H', Q (.bl true) H'
/-- the defs and the built-in names that the law calls -/
structure Env1 (P : Program) (w : World) (K : PySem.W.Frag) (mg : Str → Option Value) (base : Heap) (c : Cs) (U : Addr) : Prop where
  cls : Cls P w K mg base c
  g : ErrG K
  deal : ∃ f fd, mg "_law_deal" = some (.ref f) ∧ keepIn K (.ref f) = true ∧ FnOk P w K mg base CX0 1 f fd ["_law_script", "_law_base"] (spDeal K) ∧ Binds K fd ["_law_script", "_law_base"] []
  any : ∃ f fd, mg "_law_any" = some (.ref f) ∧ keepIn K (.ref f) = true ∧ FnOk P w K mg base CX0 5 f fd ["_law_deal_here", "_law_deep"] (spAny K 4) ∧ Binds K fd ["_law_deal_here", "_law_deep"] []
  kept : ∃ f fd, mg "_law_kept" = some (.ref f) ∧ keepIn K (.ref f) = true ∧ FnG P w K mg base 1 f fd ["_law_error", "_law_names", "_law_values"] (spKept K) ∧ Binds K fd ["_law_error", "_law_names", "_law_values"] []
  caught : ∃ f fd, mg "_law_caught" = some (.ref f) ∧ keepIn K (.ref f) = true ∧ FnOk P w K mg base CX0 1 f fd ["_law_error"] (spCaught K c) ∧ Binds K fd ["_law_error"] []
  made : ∃ f fd, mg "_law_made" = some (.ref f) ∧ keepIn K (.ref f) = true ∧ FnOk P w K mg base CX0 3 f fd ["_law_a", "_law_b"] (spMade c) ∧ Binds K fd ["_law_a", "_law_b"] []
  named : ∃ f fd, mg "_law_named" = some (.ref f) ∧ keepIn K (.ref f) = true ∧ FnOk P w K mg base CX0 3 f fd ["_law_a", "_law_b"] (spMade c) ∧ Binds K fd ["_law_a", "_law_b"] []
  undo : mg "UndoError" = some (.ref U)
  bR : mg "repr" = none
  bN : mg "range" = none
  bE : mg "enumerate" = none
  bL : mg "len" = none
  bI : mg "isinstance" = none
  bV : mg "ValueError" = none
  bK : mg "KeyError" = none
  bT : mg "int" = none
  spots : ∀ i C ns, c.l[i]? = some C → nameTab[i]? = some ns → Spot K c U i C ns
section
variable {P : Program} {w : World} {K : PySem.W.Frag} {mg : Str → Option Value} {base : Heap}
theorem okLaw {f : Addr} {fd : FuncData} {c : Cs} {U : Addr} (F : Fun K "law" "law" sLaw f fd) (Z : Env1 P w K mg base c U) : FnG P w K mg base 6 f fd ["_law_script"] (spLaw K) := by
  refine okG F scLaw (fun vs H Q E h => ?_) (fun cdv A outer s H vs Q E hA hr h => ?_)
  · obtain ⟨a, ns, rfl, _⟩ := h
    rfl
  have hu : (A.deeper (envOfC "law" (defScope sLaw) s.heap.objs.size f cdv)).units + 64 < cLine := by have := hr.un; omega
  have hG : (A.deeper (envOfC "law" (defScope sLaw) s.heap.objs.size f cdv)).guards = some [] := hA
  have hr1 : Room 1 (A.deeper (envOfC "law" (defScope sLaw) s.heap.objs.size f cdv)) := hr.mono (by decide)
  have hr3 : Room 3 (A.deeper (envOfC "law" (defScope sLaw) s.heap.objs.size f cdv)) := hr.mono (by decide)
  obtain ⟨fD, fdD, mD, kD, GD, bD⟩ := Z.deal
  obtain ⟨fA, fdA, mA, kA, GA, bA⟩ := Z.any
  obtain ⟨fK, fdK, mK, kK, GK, bK⟩ := Z.kept
  obtain ⟨fC, fdC, mC, kC, GC, bC⟩ := Z.caught
  obtain ⟨fM, fdM, mM, kM, GM, bM⟩ := Z.made
  obtain ⟨fN, fdN, mN, kN, GN, bN⟩ := Z.named
  have bI : bootBuiltins ("isinstance" : Str) = some (.builtin "isinstance") := by decide +kernel
  have bV : bootBuiltins ("ValueError" : Str) = some (.type "ValueError") := by decide +kernel
  have bY : bootBuiltins ("KeyError" : Str) = some (.type "KeyError") := by decide +kernel
  have nm := Z.bI
  refine ⟨_, pss_cons (ps_set (i := 1) scLaw.nd rfl (Or.inl rfl) (pe_call GD hr1 rfl mD kD bD .nil pass0 (pa_cons (pv 0) (pa_cons pe_int pa_nil))))
    (pss_cons (ps_set (i := 2) scLaw.nd rfl (Or.inl rfl) (pe_lst (pa_cons (pe_tup (pa_cons pe_str (pa_cons pe_str pa_nil))) (pa_cons (pe_tup (pa_cons pe_str pa_nil)) (pa_cons (pe_tup (pa_cons pe_str (pa_cons pe_str pa_nil))) (pa_cons (pe_tup pa_nil)
      (pa_cons (pe_tup (pa_cons pe_str pa_nil)) (pa_cons (pe_tup (pa_cons pe_str pa_nil)) (pa_cons (pe_tup (pa_cons pe_str pa_nil)) (pa_cons (pe_tup (pa_cons pe_str (pa_cons pe_str pa_nil))) pa_nil))))))))))
    (pss_cons (ps_set (i := 2) scLaw.nd rfl (Or.inl rfl) (pe_op op_cat (pv 2) (pe_lst (pa_cons (pe_tup (pa_cons pe_str pa_nil)) (pa_cons (pe_tup (pa_cons pe_str pa_nil)) (pa_cons (pe_tup pa_nil) (pa_cons (pe_tup (pa_cons pe_str pa_nil)) (pa_cons (pe_tup (pa_cons pe_str pa_nil)) pa_nil))))))))
    (pss_cons (ps_set (i := 3) scLaw.nd rfl (Or.inl rfl) (pe_lst (pa_cons pe_int pa_nil)))
    (pss_cons (ps_set (i := 4) scLaw.nd rfl (Or.inl rfl) (pe_call GM hr3 rfl mM kM bM .nil pass0 (pa_cons (pv 3) (pa_cons (pe_tup (pa_cons (pv 3) pa_nil)) pa_nil))))
    (pss_cons (ps_expr (pe_bm PySem.F.plainAttrs_list PySem.F.slot_list_append PySem.F.type_list_append mt_append (pv 3) (pa_cons pe_int pa_nil)))
    (pss_cons (ps_if (pt_cmpR (op_neD hu) (pe_tup (pa_cons (pe_callB (callShow hG hu) rfl Z.bR PyProof.Rows.boot_repr (pa_cons (peGet (pe_ix ix_list (pv 4) pe_int (fun _ _ => rfl))) pa_nil))
        (pa_cons (pe_callB (callShow hG hu) rfl Z.bR PyProof.Rows.boot_repr (pa_cons (peGet (pe_ix ix_list (pv 4) pe_int (fun _ _ => rfl))) pa_nil))
        (pa_cons (pe_callB (callShow hG hu) rfl Z.bR PyProof.Rows.boot_repr (pa_cons (peGet (pe_ix ix_list (pv 4) pe_int (fun _ _ => rfl))) pa_nil)) pa_nil))))
        (pe_tup (pa_cons pe_str (pa_cons pe_str (pa_cons pe_str pa_nil)))) (nomark _)) (pss_one (ps_ret pe_bl)) pss_nil)
    (pss_cons (ps_for PassesOwn.never rfl (pi_range1 rfl Z.bN (pa_cons pe_int pa_nil)) (pg_name (i := 5) scLaw.nd rfl (Or.inl rfl))
      (pss_cons (ps_par (i := 6) (j := 7) rfl scLaw.nd rfl rfl (by decide) rfl rfl (pa_cons (pe_call GA hr rfl mA kA bA .nil pass0 (pa_cons (pv 1) (pa_cons pe_int pa_nil))) (pa_cons (pe_call GA hr rfl mA kA bA .nil pass0 (pa_cons (pv 1) (pa_cons pe_int pa_nil))) pa_nil)) rfl)
      (pss_cons (ps_par (i := 4) (j := 8) rfl scLaw.nd rfl rfl (by decide) rfl rfl (pa_cons (pe_call GM hr3 rfl mM kM bM .nil pass0 (pa_cons (pv 6) (pa_cons (pv 7) pa_nil))) (pa_cons (pe_call GN hr3 rfl mN kN bN .nil pass0 (pa_cons (pv 6) (pa_cons (pv 7) pa_nil))) pa_nil)) rfl)
      (pss_one (ps_for PassesOwn.never rfl (pi_enum rfl Z.bE (pa_cons (pv 2) pa_nil)) (pg_tup rfl (pgs_cons (pg_name (i := 9) scLaw.nd rfl (Or.inl rfl)) (pgs_cons (pg_name (i := 10) scLaw.nd rfl (Or.inl rfl)) pgs_nil)))
        (pss_one (ps_for PassesOwn.never rfl (pi_tup (pe_tup (pa_cons (pe_ix ix_list (pv 4) (pv 9) (fun _ _ => rfl)) (pa_cons (pe_ix ix_list (pv 8) (pv 9) (fun _ _ => rfl)) pa_nil)))) (pg_name (i := 11) scLaw.nd rfl (Or.inl rfl))
          (pss_cons (ps_if (PW.pt (pw_or (pt_not (pt_val (peCallG GK hG hr1 rfl mK kK bK (pa_cons (pv 11) (pa_cons (pv 10) (pa_cons (pe_slice sl_tupN (pe_tup (pa_cons (pv 6) (pa_cons (pv 7) pa_nil))) po_none (po_some (pe_callB call_len_seq rfl Z.bL PySem.boot_len (pa_cons (pv 10) pa_nil)))) pa_nil))))))
              (pw_or1 (pt_cmpR (op_neD hu) (pe_call GC hr1 rfl mC kC bC .nil pass0 (pa_cons (pv 11) pa_nil)) (pe_lst (pa_cons (pv 9) pa_nil)) (nomark _))))) (pss_one (ps_ret pe_bl)) pss_nil)
          (pss_cons (ps_set (i := 12) scLaw.nd rfl (Or.inl rfl) (pe_lst (pa_cons (pe_callB (callIsErr Z.g) rfl nm bI (pa_cons (pv 11) (pa_cons (pe_glob (v := .ref U) rfl Z.undo rfl) pa_nil)))
              (pa_cons (pe_callB (callIsErr Z.g) rfl nm bI (pa_cons (pv 11) (pa_cons (pe_bltn (v := .ty "ValueError") rfl Z.bV bV rfl) pa_nil))) (pa_cons (pe_callB (callIsErr Z.g) rfl nm bI (pa_cons (pv 11) (pa_cons (pe_bltn (v := .ty "KeyError") rfl Z.bK bY rfl) pa_nil))) pa_nil)))))
          (pss_one (ps_if (pt_cmpR (op_neD hu) (pv 12) (pe_ix ix_list (pe_lst (pa_cons (pe_lst (pa_cons pe_bl (pa_cons pe_bl (pa_cons pe_bl pa_nil)))) (pa_cons (pe_lst (pa_cons pe_bl (pa_cons pe_bl (pa_cons pe_bl pa_nil)))) pa_nil)))
              (pe_callTy call_int1 rfl Z.bT PyProof.Rows.Boot.«int» (pa_cons (pe_cmpR op_gt (pv 9) pe_int (nomark _)) pa_nil)) (fun _ _ => rfl)) (nomark _)) (pss_one (ps_ret pe_bl)) pss_nil)))))))))))
    (pss_one (ps_ret pe_bl))))))))), ?_⟩
  obtain ⟨a, ns, rfl, hS, h63, q⟩ := h
  refine ⟨_, rfl, a, ns, 0, rfl, hS, h63, by decide, by decide, fun d cA H1 s1 nd nc hD => ?_⟩
  have l2 : 2 ≤ sizeLine := by decide
  have l1 : 1 ≤ sizeLine := by decide
  have l0 : 0 ≤ sizeLine := by decide
  refine ⟨l2, fun t0 f0 => ⟨l1, fun t1 f1 => ⟨l2, fun t2 f2 => ⟨l0, fun t3 f3 => ⟨l1, fun t4 f4 => ⟨l1, fun t5 f5 => ⟨l1, fun t6 f6 => ⟨l2, fun t7 f7 => ⟨(by show 8 ≤ sizeLine; decide), fun la ga => ?_⟩⟩⟩⟩⟩⟩⟩⟩⟩
  refine ⟨_, rfl, l1, fun t8 f8 => ⟨l1, fun t9 f9 => ⟨l0, fun t10 f10 => ⟨l1, fun t11 f11 => ⟨l1, fun t12 f12 => ⟨(by show 5 ≤ sizeLine; decide), fun lb gb => ?_⟩⟩⟩⟩⟩⟩
  have z0 := sameNew (o := .tup [V.str "word", .str "at"]) f0
  have z1 := sameNew (o := .tup [V.str "at"]) f1
  have z2 := sameNew (o := .tup [V.str "word", .str "kind"]) f2
  have z3 := sameNew (o := .tup []) f3
  have z4 := sameNew (o := .tup [V.str "at"]) f4
  have z5 := sameNew (o := .tup [V.str "at"]) f5
  have z6 := sameNew (o := .tup [V.str "count"]) f6
  have z7 := sameNew (o := .tup [V.str "one", .str "other"]) f7
  have za := sameNew (o := .lst [V.ref t0, .ref t1, .ref t2, .ref t3, .ref t4, .ref t5, .ref t6, .ref t7]) ga
  have z8 := sameNew (o := .tup [V.str "version"]) f8
  have z9 := sameNew (o := .tup [V.str "name"]) f9
  have z10 := sameNew (o := .tup []) f10
  have z11 := sameNew (o := .tup [V.str "name"]) f11
  have z12 := sameNew (o := .tup [V.str "name"]) f12
  have zb := sameNew (o := .lst [V.ref t8, .ref t9, .ref t10, .ref t11, .ref t12]) gb
  refine ⟨la, lb, _, _, rfl, rfl, zb _ _ (z12 _ _ (z11 _ _ (z10 _ _ (z9 _ _ (z8 _ _ upd_same))))), upd_same, (by show 13 ≤ sizeLine; decide), fun nl gn => ?_⟩
  have zn := sameNew (o := .lst ([V.ref t0, .ref t1, .ref t2, .ref t3, .ref t4, .ref t5, .ref t6, .ref t7] ++ [V.ref t8, .ref t9, .ref t10, .ref t11, .ref t12])) gn
  have y12 := zb.trans zn
  have y11 := z12.trans y12
  have y10 := z11.trans y11
  have y9 := z10.trans y10
  have y8 := z9.trans y9
  have yb := z8.trans y8
  have y7 := za.trans yb
  have y6 := z7.trans y7
  have y5 := z6.trans y6
  have y4 := z5.trans y5
  have y3 := z4.trans y4
  have y2 := z3.trans y3
  have y1 := z2.trans y2
  have y0 := z1.trans y1
  have yH := z0.trans y0
  have TL := TupL.cons (ns := ["word", "at"]) (y0 _ _ upd_same) (.cons (ns := ["at"]) (y1 _ _ upd_same) (.cons (ns := ["word", "kind"]) (y2 _ _ upd_same) (.cons (ns := []) (y3 _ _ upd_same) (.cons (ns := ["at"]) (y4 _ _ upd_same)
    (.cons (ns := ["at"]) (y5 _ _ upd_same) (.cons (ns := ["count"]) (y6 _ _ upd_same) (.cons (ns := ["one", "other"]) (y7 _ _ upd_same) (.cons (ns := ["version"]) (y8 _ _ upd_same) (.cons (ns := ["name"]) (y9 _ _ upd_same)
    (.cons (ns := []) (y10 _ _ upd_same) (.cons (ns := ["name"]) (y11 _ _ upd_same) (.cons (ns := ["name"]) (y12 _ _ upd_same) .nil))))))))))))
  -- the box, and the errors that are made of it
  refine ⟨l1, fun b fb => ?_⟩
  have zx := sameNew (o := .lst [V.int 1]) fb
  have hnl := zx nl _ upd_same
  have TLx := TL.mono zx
  refine ⟨_, rfl, _, rfl, l1, fun T fT => ?_⟩
  have zT := sameNew (o := .tup [V.ref b]) fT
  refine ⟨.ref b, .ref T, rfl, fun r as H2 s2 nr hr2 el => ?_⟩
  have hb1 := s2 _ _ (zT _ _ (upd_same (a := b)))
  have hT1 := s2 _ _ (upd_same (a := T))
  have yN := zx.trans (zT.trans s2)
  refine ⟨_, rfl, .inl ⟨rfl, _, SqL.of hb1⟩, b, _, _, rfl, rfl, hb1, (by show 1 < sizeLine; decide), ?_⟩
  have rb : r ≠ b := fun z => by
    have q1 := zT _ _ (upd_same (a := b))
    rw [z, q1] at nr
    cases nr
  have Tb : T ≠ b := fun z => by
    rw [z, upd_same] at fT
    cases fT
  have hb3 : upd H2 b (HO.lst ([V.int 1] ++ [.int 2])) b = some (.lst [.int 1, .int 2]) := upd_same
  have hr3' : upd H2 b (HO.lst ([V.int 1] ++ [.int 2])) r = some (.lst (as.map V.ref)) := by rw [upd_ne rb]; exact hr2
  have hT3 : upd H2 b (HO.lst ([V.int 1] ++ [.int 2])) T = some (.tup [.ref b]) := by rw [upd_ne Tb]; exact hT1
  obtain ⟨e0, ae0, er0⟩ := el.at (i := 0) (C := c.c0) rfl rfl
  obtain ⟨e12, ae12, er12⟩ := el.at (i := 12) (C := c.c12) rfl rfl
  have er0' := er0.updL (o := HO.lst ([V.int 1] ++ [.int 2])) hb1
  have er12' := er12.updL (o := HO.lst ([V.int 1] ++ [.int 2])) hb1
  have at0 : atI (as.map V.ref) 0 = some (.ref e0) := atRef ae0
  have at12 : atI (as.map V.ref) 12 = some (.ref e12) := atRef ae12
  have keepN : Kept b b _ (upd H2 b (HO.lst ([V.int 1] ++ [.int 2]))) := fun x o h1 _ e => by rw [upd_ne h1]; exact yN x o e
  have dB : Dp K (upd H2 b (HO.lst ([V.int 1] ++ [.int 2]))) (.ref b) (.list [.int 1, .int 2]) := .lst (SqL.of hb3) (.cons (.int 1) (.cons (.int 2) .nil))
  have dT : Dp K (upd H2 b (HO.lst ([V.int 1] ++ [.int 2]))) (.ref T) (.tuple [.list [.int 1, .int 2]]) := .tup (SqT.of hT3) (.cons dB .nil)
  refine ⟨_, rfl, r, _, 0, _, rfl, rfl, SqL.of hr3', at0, e0, c.c0, _, .ref b, rfl, Z.cls.k0.T, Z.cls.k0.no, er0', rfl, b, _, rfl, dB, by decide +kernel, by decide +kernel, by decide +kernel, by decide +kernel, ?_⟩
  refine ⟨_, rfl, r, _, 0, _, rfl, rfl, SqL.of hr3', at0, e0, c.c0, _, .ref T, rfl, Z.cls.k0.T, Z.cls.k0.no2, er0', rfl, T, _, rfl, dT, by decide +kernel, by decide +kernel, by decide +kernel, by decide +kernel, ?_⟩
  refine ⟨_, rfl, r, _, 12, _, rfl, rfl, SqL.of hr3', at12, e12, c.c12, _, .ref b, rfl, Z.cls.k12.T, Z.cls.k12.no, er12', rfl, b, _, rfl, dB, by decide +kernel, by decide +kernel, by decide +kernel, by decide +kernel, ?_⟩
  refine ⟨(by show 3 ≤ sizeLine; decide), fun p1 g1 => ⟨(by show 3 ≤ sizeLine; decide), fun p2 g2 => ?_⟩⟩
  refine ⟨.tuple [.str _, .str _, .str _], .tuple [.str _, .str _, .str _], .tup (SqT.of ((sameNew g2) p1 _ upd_same)) (.cons (.str _) (.cons (.str _) (.cons (.str _) .nil))), .tup (SqT.of upd_same) (.cons (.str _) (.cons (.str _) (.cons (.str _) .nil))),
    by decide +kernel, by decide +kernel, _, rfl, ifNo (by decide +kernel) ?_⟩
  have kN : Same _ (upd H2 b (HO.lst ([V.int 1] ++ [.int 2]))) := fun x o e => by
    rw [upd_ne (ne_of_none e fb)]
    exact yN x o e
  have kL := kN.trans ((sameNew g1).trans (sameNew (o := HO.tup [V.str "[1, 2]", .str "([1, 2],)", .str "[1, 2]"]) g2))
  have DN := hD.same yH
  have nlN := DN.ints (b := nl) upd_same (fun xs z => by
    have z' := HO.lst.inj z
    match xs, z' with
    | [], z' => cases z'
    | x :: xs, z' => cases z') (fun m z => by
    have z' := HO.lst.inj z
    cases z')
  have S0 : Stand d cA nl [t0, t1, t2, t3, t4, t5, t6, t7, t8, t9, t10, t11, t12] _ := ⟨DN.same kL, kL nl _ upd_same, TL.mono kL⟩
  have ts13 : ([t0, t1, t2, t3, t4, t5, t6, t7, t8, t9, t10, t11, t12] : List Addr).length = 13 := rfl
  generalize [t0, t1, t2, t3, t4, t5, t6, t7, t8, t9, t10, t11, t12] = ts at S0 ts13
  refine ⟨4, rfl, by decide, by decide, for_range (lo := 0) (n := 4) (fun _ σ H' => Stand d cA nl ts H' ∧ ∃ v3 v4 v5 v6 v7 v8 v9 v10 v11 v12 : Option V, σ = [some (.ref a), some (.ref d), some (.ref nl), v3, v4, v5, v6, v7, v8, v9, v10, v11, v12])
    ⟨S0, _, _, _, _, _, _, _, _, _, _, rfl⟩ ?_ ?_⟩
  · rintro j σ H' hj ⟨S, v3, v4, v5, v6, v7, v8, v9, v10, v11, v12, rfl⟩
    refine ⟨_, rfl, d, cA, 3, rfl, by decide, S.deal, fun va ta Ha Da ka pa na => ⟨_, rfl, d, cA, 3, rfl, by decide, Da, fun vb tb Hb Db kb pb nb => ⟨va, vb, rfl, ?_⟩⟩⟩
    have SB := (S.kept ka Da nlN.1 nlN.2).kept kb Db nlN.1 nlN.2
    have dA : Dp K Hb va ta := dpSame (((kb.new S.deal).trans newIn_in)) _ _ pa
    have dB2 : Dp K Hb vb tb := dpSame newIn_in _ _ pb
    refine ⟨_, rfl, _, rfl, va, vb, rfl, fun r1 as1 Hc sc nr1 hr1 el1 => ⟨_, rfl, _, rfl, va, vb, rfl, fun r2 as2 Hd sd nr2 hr2' el2 => ⟨.ref r1, .ref r2, rfl, ?_⟩⟩⟩
    have SD := SB.same (sc.trans sd)
    have hr1d := sd _ _ hr1
    have el1d := el1.mono sd
    have dAd := dpSame (sc.trans sd) _ _ dA
    have dBd := dpSame (sc.trans sd) _ _ dB2
    refine ⟨_, rfl, nl, _, rfl, SqL.of SD.names, for_it (walk_enum (K := K) (a := nl) (xs := ts.map V.ref)) (fun i σ H' => Same Hd H' ∧ ∃ u9 u10 u11 u12 : Option V, σ = [some (.ref a), some (.ref d), some (.ref nl), v3, some (.ref r1), some (.int (0 + (j : Nat))), some va, some vb, some (.ref r2), u9, u10, u11, u12])
      ⟨Same.refl _, _, _, _, _, rfl⟩ (fun i σ H' _ z => SqL.of (z.1 _ _ SD.names)) ?_ ?_⟩
    · rintro i x σ He Hf hi ⟨g1, u9, u10, u11, u12, rfl⟩ ⟨T2, x1, x2, rfl, hT2, rfl, y1, y2⟩
      rw [List.length_map, ts13] at hi
      obtain ⟨t, ht, rfl⟩ : ∃ t, ts[i]? = some t ∧ x2 = V.ref t := by
        have y3 : (ts.map V.ref)[i]? = some x2 := y2
        rw [List.getElem?_map] at y3
        cases e : ts[i]? with
        | none => rw [e] at y3; cases y3
        | some z => rw [e] at y3; exact ⟨z, rfl, (Option.some.inj y3).symm⟩
      have e1 : x1 = V.int (i : Nat) := (Option.some.inj y1).symm
      subst e1
      obtain ⟨ns, hns, htd⟩ := SD.tups.at ht
      obtain ⟨C, hC⟩ : ∃ C, c.l[i]? = some C := ⟨c.l[i], List.getElem?_eq_getElem (by exact hi)⟩
      obtain ⟨fs, hfs⟩ : ∃ fs, (tab va vb)[i]? = some fs := ⟨(tab va vb)[i]'(by exact hi), List.getElem?_eq_getElem (by exact hi)⟩
      obtain ⟨a1, i1, er1⟩ := el1d.at hC hfs
      obtain ⟨a2, i2, er2⟩ := el2.at hC hfs
      have SP := Z.spots i C ns hC hns
      obtain ⟨val, mv, look, n2, names, xy⟩ := spotVals va vb i ns fs hns hfs
      obtain ⟨b0, b1, b2, b3, b4, b5, b6, b7, b8, b9, b10, b11, b12, kits, pk⟩ := SP.kits
      have sE : Same Hd (upd He T2 (.tup [.int (i : Nat), .ref t])) := g1.trans (sameNew hT2)
      refine ⟨T2, _, rfl, SqT.of upd_same, rfl, _, _, rfl, _, _, rfl, rfl, ?_⟩
      refine ⟨_, rfl, _, rfl, r1, _, _, _, rfl, rfl, SqL.of (sE _ _ hr1d), atRef i1, _, rfl, _, rfl, r2, _, _, _, rfl, rfl, SqL.of (sE _ _ hr2'), atRef i2, (by show 2 ≤ sizeLine; decide), fun Pt fPt => ?_⟩
      have sP := sE.trans (sameNew (o := .tup [.ref a1, .ref a2]) fPt)
      refine ⟨Pt, rfl, ⟨_, SqT.of upd_same⟩, for_tup (K := K) (a := Pt) (xs := [.ref a1, .ref a2]) (fun _ σ H' => Same (upd (upd He T2 (.tup [.int (i : Nat), .ref t])) Pt (.tup [.ref a1, .ref a2])) H' ∧ ∃ w11 w12 : Option V,
          σ = [some (.ref a), some (.ref d), some (.ref nl), v3, some (.ref r1), some (.int (0 + (j : Nat))), some va, some vb, some (.ref r2), some (.int (i : Nat)), some (.ref t), w11, w12])
        ⟨Same.refl _, _, _, rfl⟩ (fun k σ H' _ z => SqT.of (z.1 _ _ upd_same)) ?_ ?_⟩
      · rintro k x σ Hg hx ⟨g3, w11, w12, rfl⟩
        have sG := sP.trans g3
        obtain ⟨er, rfl, erd⟩ : ∃ er, x = V.ref er ∧ ErrAt Hd er C fs := by
          match k, hx with
          | 0, hx => exact ⟨a1, (Option.some.inj hx).symm, er1⟩
          | 1, hx => exact ⟨a2, (Option.some.inj hx).symm, er2⟩
        have erg := erd.mono sG
        have htg := sG _ _ htd
        refine ⟨_, rfl, _, rfl, _, rfl, _, rfl, (by show 2 ≤ sizeLine; decide), fun Q1 fQ1 => ⟨_, rfl, t, _, rfl, .inr (SqT.of ((sameNew fQ1) _ _ htg)), _, rfl, Q1, _, rfl, SqT.of upd_same, fun pv Hp sPv hPv => ?_⟩⟩
        have sV := sG.trans ((sameNew fQ1).trans sPv)
        have cutN : cutV [va, vb] none (some (((ns.map V.str).length : Nat) : Int)) = ns.map val := by
          rw [mv, List.length_map]
          unfold cutV
          rw [HT.sIx_none, HT.sIx_nat, List.drop_zero, Nat.sub_zero]
          rw [show min ns.length [va, vb].length = ns.length from Nat.min_eq_left n2]
        rw [cutN] at hPv
        have dv : ∃ tds : List PyData, DpAll K Hp (ns.map val) tds ∧ ∀ u ∈ tds, Nice 6 u := by
          have both : DpAll K Hp [va, vb] [ta, tb] := .cons (dpSame sV _ _ dAd) (.cons (dpSame sV _ _ dBd) .nil)
          have nice : ∀ u ∈ [ta, tb], Nice 6 u := by
            intro u hu
            rcases List.mem_cons.mp hu with rfl | hu
            · exact na.mono (by decide)
            · rw [List.mem_singleton.mp hu]
              exact nb.mono (by decide)
          rw [mv]
          exact dpTake ns.length both nice
        obtain ⟨tds, dv, nice⟩ := dv
        refine ⟨er, t, pv, C, fs, ns, val, tds, rfl, SP.T, erd.mono sV, SqT.of (sV _ _ htd), hPv, dv, nice, by omega, names, fun x hx => ⟨SP.no x hx, look x hx⟩, xy, fun Hy sy => ⟨true, rfl, ?_⟩⟩
        have sY := sV.trans sy
        refine ⟨_, rfl, er, C, fs, b0, b1, b2, b3, b4, b5, b6, b7, b8, b9, b10, b11, b12, rfl, SP.T, erd.mono sY, kits, fun rr Hz sz nrr hrr => ⟨_, rfl, (by show 1 ≤ sizeLine; decide), fun L fL => ?_⟩⟩
        rw [pk] at hrr
        refine ⟨.list [.int i], .list [.int i], .lst (SqL.of ((sameNew fL) _ _ hrr)) (.cons (.int _) .nil), .lst (SqL.of upd_same) (.cons (.int _) .nil), shapedInts [(i : Int)], shapedInts [(i : Int)], _, rfl, ifNo (by simp [PyData.eqv, PyData.eqvAll]) ?_⟩
        have sL := sY.trans (sz.trans (sameNew (o := .lst [.int (i : Nat)]) fL))
        have ten : V.int (if decide ((10 : Int) < (i : Nat)) = true then 1 else 0) = V.int (if i ≤ 10 then 0 else 1) := by
          by_cases h : i ≤ 10
          · rw [if_pos h, decide_eq_false (by omega), if_neg (by decide)]
          · rw [if_neg h, decide_eq_true (by omega), if_pos rfl]
        have sGL : Same Hg (upd Hz L (.lst [.int (i : Nat)])) := (sameNew fQ1).trans (sPv.trans (sy.trans (sz.trans (sameNew fL))))
        by_cases h10 : i ≤ 10
        · have k1 := SP.undo
          have k2 := SP.value
          have k3 := SP.key
          rw [decide_eq_true h10] at k1 k2 k3
          rw [if_pos h10] at ten
          refine ⟨_, rfl, er, C, fs, .ref U, _, _, rfl, .own _, SP.T, erd.mono sL, k1, _, rfl, er, C, fs, .ty "ValueError", _, _, rfl, .ty _, SP.T, erd.mono sL, k2, _, rfl, er, C, fs, .ty "KeyError", _, _, rfl, .ty _, SP.T, erd.mono sL, k3, (by show 3 ≤ sizeLine; decide), fun B fB => ?_⟩
          refine ⟨_, rfl, (by show 3 ≤ sizeLine; decide), fun M1 f1 => ⟨(by show 3 ≤ sizeLine; decide), fun M2 f2 => ⟨(by show 2 ≤ sizeLine; decide), fun M3 f3 => ⟨_, rfl, _, _, rfl, rfl, .inr ⟨_, rfl, M3, _, 0, .ref M1, rfl, ten, SqL.of upd_same, rfl, ?_⟩⟩⟩⟩⟩
          have w3 := sameNew (o := .lst [.ref M1, .ref M2]) f3
          have w2 := (sameNew (o := .lst [.bl false, .bl false, .bl true]) f2).trans w3
          have w1 := (sameNew (o := .lst [.bl true, .bl true, .bl false]) f1).trans w2
          have w0 := (sameNew (o := .lst [.bl true, .bl true, .bl !true]) fB).trans w1
          refine ⟨.list [.bool true, .bool true, .bool false], .list [.bool true, .bool true, .bool false], .lst (SqL.of (w1 _ _ upd_same)) (.cons (.bl _) (.cons (.bl _) (.cons (.bl _) .nil))), .lst (SqL.of (w2 _ _ upd_same)) (.cons (.bl _) (.cons (.bl _) (.cons (.bl _) .nil))), by decide +kernel, by decide +kernel, _, rfl, ifNo (by decide +kernel) ?_⟩
          exact ⟨g3.trans (sGL.trans w0), _, _, rfl⟩
        · have k1 := SP.undo
          have k2 := SP.value
          have k3 := SP.key
          rw [decide_eq_false h10] at k1 k2 k3
          rw [if_neg h10] at ten
          refine ⟨_, rfl, er, C, fs, .ref U, _, _, rfl, .own _, SP.T, erd.mono sL, k1, _, rfl, er, C, fs, .ty "ValueError", _, _, rfl, .ty _, SP.T, erd.mono sL, k2, _, rfl, er, C, fs, .ty "KeyError", _, _, rfl, .ty _, SP.T, erd.mono sL, k3, (by show 3 ≤ sizeLine; decide), fun B fB => ?_⟩
          refine ⟨_, rfl, (by show 3 ≤ sizeLine; decide), fun M1 f1 => ⟨(by show 3 ≤ sizeLine; decide), fun M2 f2 => ⟨(by show 2 ≤ sizeLine; decide), fun M3 f3 => ⟨_, rfl, _, _, rfl, rfl, .inr ⟨_, rfl, M3, _, 1, .ref M2, rfl, ten, SqL.of upd_same, rfl, ?_⟩⟩⟩⟩⟩
          have w3 := sameNew (o := .lst [.ref M1, .ref M2]) f3
          have w2 := (sameNew (o := .lst [.bl false, .bl false, .bl true]) f2).trans w3
          have w1 := (sameNew (o := .lst [.bl true, .bl true, .bl false]) f1).trans w2
          have w0 := (sameNew (o := .lst [.bl false, .bl false, .bl !false]) fB).trans w1
          refine ⟨.list [.bool false, .bool false, .bool true], .list [.bool false, .bool false, .bool true], .lst (SqL.of (w1 _ _ upd_same)) (.cons (.bl _) (.cons (.bl _) (.cons (.bl _) .nil))), .lst (SqL.of (w3 _ _ upd_same)) (.cons (.bl _) (.cons (.bl _) (.cons (.bl _) .nil))), by decide +kernel, by decide +kernel, _, rfl, ifNo (by decide +kernel) ?_⟩
          exact ⟨g3.trans (sGL.trans w0), _, _, rfl⟩
      · rintro σ Hg ⟨g3, w11, w12, rfl⟩
        exact ⟨sP.trans g3, _, _, _, _, rfl⟩
    · rintro σ He ⟨g1, u9, u10, u11, u12, rfl⟩
      exact ⟨SD.same g1, _, _, _, _, _, _, _, _, _, _, rfl⟩
  · rintro σ H' ⟨S, v3, v4, v5, v6, v7, v8, v9, v10, v11, v12, rfl⟩
    exact q H'
end
end L2.Und
end

section
set_option Elab.async false
set_option linter.all false
set_option maxRecDepth 100000
set_option maxHeartbeats 8000000
namespace L2.Und
open PySem PySem.Spec PyProof.Rows _root_.Und
open PySem.W (findIn keepIn typeIn subIn mroIn hasDictIn isClsIn specialIn takesIn nsIn codeIn)
/-- what is written of a class -/
structure Txt (K : PySem.W.Frag) (C : Addr) : Prop where
  keep : keepIn K (.ref C) = true
  sa : findIn K (.ref C) "__setattr__" = some (some (.builtin "object.__setattr__"))
  ga : findIn K (.ref C) "__getattribute__" = some (some (.builtin "BaseException.__getattribute__"))
  gg : findIn K (.ref C) "__getattr__" = some none
  exc : subIn K (.ref C) (.type "BaseException") = some true
  dct : hasDictIn K C = true
  kls : findIn K (.ref C) "__class__" = some (some (.builtin "object.__class__"))
  obj : mroIn K C (.type "object") = some true
  isc : isClsIn K C = true
  ty : typeIn K (.ref C) = some (.type "type")
  self : subIn K (.ref C) (.ref C) = some true
section
variable {P : Program} {w : World} {K : PySem.W.Frag} {mg : Str → Option Value} {h : Heap} {C D U N fI : Addr} {nm q : Str} {bs : List Value} {sn : List Str} {sub : List Value} {ab : Bool} {col : Option Bool}
variable {dd : Option Addr} {m0 m1 m2 m3 m5 : Option Value} {b : Bool}
abbrev veT : List Value := [.type "ValueError", .type "Exception", .type "BaseException", .type "object"]
theorem aboveV : Above "ValueError" (.ref U :: veT) := ⟨(by rw [List.contains_cons, show veT.contains (.type "ValueError") = true from by decide +kernel, Bool.or_true]), (by rw [List.contains_cons, show veT.contains (.type "AttributeError") = false from by decide +kernel, Bool.or_false]; rfl), (by rw [List.contains_cons, show veT.contains (.type "NameError") = false from by decide +kernel, Bool.or_false]; rfl)⟩
theorem aboveK : Above "LookupError" keTail := ⟨by decide +kernel, by decide +kernel, by decide +kernel⟩
theorem mkV (T : Txt K C) (l : K.lookup C = some (excClassObj nm q C N bs (.ref U :: veT) true sn sub ab col dd m0 m1 m2 m3 m5 "ValueError.__new__")) : ErrC K C :=
  ⟨⟨_, _, _, _, _, _, _, _, _, _, _, _, _, _, _, _, _, _, _, PySem.F.excBase_ValueError, aboveV, opens_VE.ref, l⟩, T.keep, T.sa, T.ga, T.gg, T.exc, T.dct, T.kls, T.obj⟩
theorem mkK (T : Txt K C) (l : K.lookup C = some (excClassObj nm q C N bs keTail true sn sub ab col dd m0 m1 m2 m3 m5 "LookupError.__new__")) : ErrC K C :=
  ⟨⟨_, _, _, _, _, _, _, _, _, _, _, _, _, _, _, _, _, _, _, PySem.F.excBase_LookupError, aboveK, opens_KE, l⟩, T.keep, T.sa, T.ga, T.gg, T.exc, T.dct, T.kls, T.obj⟩
theorem kitRef (TD : Txt K D) (TC : Txt K C) (s : subIn K (.ref C) (.ref D) = some b) : PySem.W.kitOne K (.ref C) (.ref D) = some b := by
  unfold PySem.W.kitOne
  by_cases e : C = D
  · subst e
    rw [if_pos (by simp)]
    rw [TC.self] at s
    exact s
  · rw [if_neg (by simpa using e)]
    have i : (PySem.W.clsIn K D).isSome = true := TD.isc
    show (if ((PySem.W.clsIn K D).isSome && typeIn K (.ref D) == some (.type "type")) = true then subIn K (.ref C) (.ref D) else none) = some b
    rw [i, TD.ty, if_pos (by decide)]
    exact s
theorem kitTy {T : String} (m : PySem.W.kitMeta T = true) (s : subIn K (.ref C) (.type T) = some b) : PySem.W.kitOne K (.ref C) (.type T) = some b := by
  unfold PySem.W.kitOne
  rw [if_neg (by simp)]
  show (if PySem.W.kitMeta T = true then subIn K (.ref C) (.type T) else none) = some b
  rw [if_pos m]
  exact s
section
variable {X qual x y : Str} {st : Stmt} {oc : Value} {od an : Option Addr} {osl : Array (Option Value)} {kV doc pm cdv ct : Value}
theorem mkOne (E : ErrC K C) (KX : K.In h) (G : h.Ns mainGlobals mg) (S : FnScope ["self", x] ["self", x] (defScope st)) (hb : ∃ p1 p2 p3 p4, defBody st = [.Assign [.Attribute (.Name "self" p1) x p2] (.Name x p3) p4])
    (h1 : ∀ (kV doc pm : Value) (an : Option Addr) (cdv ct : Value) (us : List Value), us.length = (["self", x] : List Str).length → bindArgs (PySem.W.fnOf "__init__" qual (defArgs st) (defBody st) (defScope st) .none kV doc pm an cdv ct) ⟨us, []⟩ = (pure ((["self", x] : List Str).zip us) : Sem (List (Str × Value))))
    (h2 : ∀ (kV doc pm : Value) (an : Option Addr) (cdv ct u v : Value), bindArgs (PySem.W.fnOf "__init__" qual (defArgs st) (defBody st) (defScope st) .none kV doc pm an cdv ct) ⟨[u], [(x, v)]⟩ = (pure [(("self" : Str), u), (x, v)] : Sem (List (Str × Value))))
    (x1 : (x == ("__debug__" : Str)) = false) (x2 : (x == ("__classdict__" : Str)) = false)
    (g : nsIn K mainGlobals X = some (some (.ref C))) (no : findIn K (.ref C) x = some none) (iC : findIn K (.ref C) "__init__" = some (some (.ref fI))) (tI : typeIn K (.ref fI) = some (.type "function"))
    (l : K.lookup fI = some ⟨oc, od, .func (PySem.W.fnOf "__init__" qual (defArgs st) (defBody st) (defScope st) .none kV doc pm an cdv ct), osl⟩) (cc : codeIn K cdv qual = true) (k : keepIn K (.ref fI) = true) (base : Heap) : One P w K mg base X x C := by
  obtain ⟨p1, p2, p3, p4, hb⟩ := hb
  have F : Fun K "__init__" qual st fI _ := fun_mk (st := st) l cc k
  exact ⟨PySem.W.mg_of KX G g, E, no, fI, _, iC, tI, okInit1 F S hb E no x1 x2, knOf (F.binds h1) rfl, kw1 F h2⟩
theorem mkTwo (E : ErrC K C) (KX : K.In h) (G : h.Ns mainGlobals mg) (S : FnScope ["self", x, y] ["self", x, y] (defScope st)) (hb : ∃ p1 p2 p3 p4 q1 q2 q3 q4, defBody st = [.Assign [.Attribute (.Name "self" p1) x p2] (.Name x p3) p4, .Assign [.Attribute (.Name "self" q1) y q2] (.Name y q3) q4])
    (h1 : ∀ (kV doc pm : Value) (an : Option Addr) (cdv ct : Value) (us : List Value), us.length = (["self", x, y] : List Str).length → bindArgs (PySem.W.fnOf "__init__" qual (defArgs st) (defBody st) (defScope st) .none kV doc pm an cdv ct) ⟨us, []⟩ = (pure ((["self", x, y] : List Str).zip us) : Sem (List (Str × Value))))
    (h2 : ∀ (kV doc pm : Value) (an : Option Addr) (cdv ct u v z : Value), bindArgs (PySem.W.fnOf "__init__" qual (defArgs st) (defBody st) (defScope st) .none kV doc pm an cdv ct) ⟨[u], [(y, z), (x, v)]⟩ = (pure [(("self" : Str), u), (x, v), (y, z)] : Sem (List (Str × Value))))
    (x1 : (x == ("__debug__" : Str)) = false) (x2 : (x == ("__classdict__" : Str)) = false) (y1 : (y == ("__debug__" : Str)) = false) (y2 : (y == ("__classdict__" : Str)) = false) (xy : x ≠ y)
    (g : nsIn K mainGlobals X = some (some (.ref C))) (no : findIn K (.ref C) x = some none) (no2 : findIn K (.ref C) y = some none) (iC : findIn K (.ref C) "__init__" = some (some (.ref fI))) (tI : typeIn K (.ref fI) = some (.type "function"))
    (l : K.lookup fI = some ⟨oc, od, .func (PySem.W.fnOf "__init__" qual (defArgs st) (defBody st) (defScope st) .none kV doc pm an cdv ct), osl⟩) (cc : codeIn K cdv qual = true) (k : keepIn K (.ref fI) = true) (base : Heap) : Two P w K mg base X x y C := by
  obtain ⟨p1, p2, p3, p4, q1, q2, q3, q4, hb⟩ := hb
  have F : Fun K "__init__" qual st fI _ := fun_mk (st := st) l cc k
  exact ⟨PySem.W.mg_of KX G g, E, no, no2, fI, _, iC, tI, okInit2 F S hb E no no2 x1 x2 y1 y2, knOf (F.binds h1) rfl, kw2 F h2⟩
end
end
/-- which of the classes a class is below -/
structure Subs (K : PySem.W.Frag) (C U C0 C1 C2 C3 C4 C5 C6 C7 C8 C9 C10 C11 C12 : Addr) (b0 b1 b2 b3 b4 b5 b6 b7 b8 b9 b10 b11 b12 o : Bool) : Prop where
  i0 : subIn K (.ref C) (.ref C0) = some b0
  i1 : subIn K (.ref C) (.ref C1) = some b1
  i2 : subIn K (.ref C) (.ref C2) = some b2
  i3 : subIn K (.ref C) (.ref C3) = some b3
  i4 : subIn K (.ref C) (.ref C4) = some b4
  i5 : subIn K (.ref C) (.ref C5) = some b5
  i6 : subIn K (.ref C) (.ref C6) = some b6
  i7 : subIn K (.ref C) (.ref C7) = some b7
  i8 : subIn K (.ref C) (.ref C8) = some b8
  i9 : subIn K (.ref C) (.ref C9) = some b9
  i10 : subIn K (.ref C) (.ref C10) = some b10
  i11 : subIn K (.ref C) (.ref C11) = some b11
  i12 : subIn K (.ref C) (.ref C12) = some b12
  iU : subIn K (.ref C) (.ref U) = some o
  iV : subIn K (.ref C) (.type "ValueError") = some o
  iK : subIn K (.ref C) (.type "KeyError") = some (!o)
section
variable {K : PySem.W.Frag} {C U C0 C1 C2 C3 C4 C5 C6 C7 C8 C9 C10 C11 C12 : Addr} {b0 b1 b2 b3 b4 b5 b6 b7 b8 b9 b10 b11 b12 o : Bool}
abbrev csOf (C0 C1 C2 C3 C4 C5 C6 C7 C8 C9 C10 C11 C12 : Addr) : Cs := ⟨C0, C1, C2, C3, C4, C5, C6, C7, C8, C9, C10, C11, C12⟩
theorem Subs.kits (S : Subs K C U C0 C1 C2 C3 C4 C5 C6 C7 C8 C9 C10 C11 C12 b0 b1 b2 b3 b4 b5 b6 b7 b8 b9 b10 b11 b12 o) (T : Txt K C) (T0 : Txt K C0) (T1 : Txt K C1) (T2 : Txt K C2) (T3 : Txt K C3) (T4 : Txt K C4) (T5 : Txt K C5) (T6 : Txt K C6) (T7 : Txt K C7) (T8 : Txt K C8) (T9 : Txt K C9) (T10 : Txt K C10) (T11 : Txt K C11) (T12 : Txt K C12) : Kits K C (csOf C0 C1 C2 C3 C4 C5 C6 C7 C8 C9 C10 C11 C12) b0 b1 b2 b3 b4 b5 b6 b7 b8 b9 b10 b11 b12 :=
  ⟨kitRef T0 T S.i0, kitRef T1 T S.i1, kitRef T2 T S.i2, kitRef T3 T S.i3, kitRef T4 T S.i4, kitRef T5 T S.i5, kitRef T6 T S.i6, kitRef T7 T S.i7, kitRef T8 T S.i8, kitRef T9 T S.i9, kitRef T10 T S.i10, kitRef T11 T S.i11, kitRef T12 T S.i12⟩
end
structure TxtF (K : PySem.W.Frag) (x : Str) (st : Stmt) (f : Addr) (fd : FuncData) : Prop where
  here : nsIn K mainGlobals x = some (some (.ref f))
  fn : Fun K x x st f fd
theorem mkF {K : PySem.W.Frag} {x : Str} {st : Stmt} {f : Addr} {oc : Value} {od an : Option Addr} {osl : Array (Option Value)} {kV doc pm cdv ct : Value} (a : nsIn K mainGlobals x = some (some (.ref f))) (l : K.lookup f = some ⟨oc, od, .func (PySem.W.fnOf x x (defArgs st) (defBody st) (defScope st) .none kV doc pm an cdv ct), osl⟩)
    (c : codeIn K cdv x = true) (k : keepIn K (.ref f) = true) : TxtF K x st f (PySem.W.fnOf x x (defArgs st) (defBody st) (defScope st) .none kV doc pm an cdv ct) := ⟨a, fun_mk (st := st) l c k⟩
theorem finMk {l : PySem.W.OpenLaw} {w : World} {K : PySem.W.Frag} {h : Heap} {mg : Str → Option Value} {U C0 C1 C2 C3 C4 C5 C6 C7 C8 C9 C10 C11 C12 fa f0 f1 f2 f3 f4 f5 f6 f7 : Addr} {fd0 fd1 fd2 fd3 fd4 fd5 fd6 fd7 : FuncData} (KX : K.In h) (G : h.Ns mainGlobals mg) (hfa : mg "law" = some (.ref fa))
    (g0 : nsIn K mainGlobals "InvalidTable" = some (some (.ref C0)))
    (g1 : nsIn K mainGlobals "InvalidText" = some (some (.ref C1)))
    (g2 : nsIn K mainGlobals "InvalidStore" = some (some (.ref C2)))
    (g3 : nsIn K mainGlobals "OtherTable" = some (some (.ref C3)))
    (g4 : nsIn K mainGlobals "NoDeed" = some (some (.ref C4)))
    (g5 : nsIn K mainGlobals "NotShort" = some (some (.ref C5)))
    (g6 : nsIn K mainGlobals "TooMany" = some (some (.ref C6)))
    (g7 : nsIn K mainGlobals "Barred" = some (some (.ref C7)))
    (g8 : nsIn K mainGlobals "Clash" = some (some (.ref C8)))
    (g9 : nsIn K mainGlobals "Taken" = some (some (.ref C9)))
    (g10 : nsIn K mainGlobals "InvalidCommand" = some (some (.ref C10)))
    (g11 : nsIn K mainGlobals "UnknownKind" = some (some (.ref C11)))
    (g12 : nsIn K mainGlobals "UnknownBranch" = some (some (.ref C12)))
    (k0 : ∀ base, Two l.prog w K mg base "InvalidTable" "word" "at" C0)
    (k1 : ∀ base, One l.prog w K mg base "InvalidText" "at" C1)
    (k2 : ∀ base, Two l.prog w K mg base "InvalidStore" "word" "kind" C2)
    (k3 : Nul K mg "OtherTable" C3)
    (k4 : ∀ base, One l.prog w K mg base "NoDeed" "at" C4)
    (k5 : ∀ base, One l.prog w K mg base "NotShort" "at" C5)
    (k6 : ∀ base, One l.prog w K mg base "TooMany" "count" C6)
    (k7 : ∀ base, Two l.prog w K mg base "Barred" "one" "other" C7)
    (k8 : ∀ base, One l.prog w K mg base "Clash" "version" C8)
    (k9 : ∀ base, One l.prog w K mg base "Taken" "name" C9)
    (k10 : Nul K mg "InvalidCommand" C10)
    (k11 : ∀ base, One l.prog w K mg base "UnknownKind" "name" C11)
    (k12 : ∀ base, One l.prog w K mg base "UnknownBranch" "name" C12) (g : ErrG K) (gU : nsIn K mainGlobals "UndoError" = some (some (.ref U))) (TU : Txt K U)
    (T0 : Txt K C0) (T1 : Txt K C1) (T2 : Txt K C2) (T3 : Txt K C3) (T4 : Txt K C4) (T5 : Txt K C5) (T6 : Txt K C6) (T7 : Txt K C7) (T8 : Txt K C8) (T9 : Txt K C9) (T10 : Txt K C10) (T11 : Txt K C11) (T12 : Txt K C12)
    (S0 : Subs K C0 U C0 C1 C2 C3 C4 C5 C6 C7 C8 C9 C10 C11 C12 true false false false false false false false false false false false false true)
    (S1 : Subs K C1 U C0 C1 C2 C3 C4 C5 C6 C7 C8 C9 C10 C11 C12 false true false false false false false false false false false false false true)
    (S2 : Subs K C2 U C0 C1 C2 C3 C4 C5 C6 C7 C8 C9 C10 C11 C12 false false true false false false false false false false false false false true)
    (S3 : Subs K C3 U C0 C1 C2 C3 C4 C5 C6 C7 C8 C9 C10 C11 C12 false false false true false false false false false false false false false true)
    (S4 : Subs K C4 U C0 C1 C2 C3 C4 C5 C6 C7 C8 C9 C10 C11 C12 false false false false true false false false false false false false false true)
    (S5 : Subs K C5 U C0 C1 C2 C3 C4 C5 C6 C7 C8 C9 C10 C11 C12 false false false false false true false false false false false false false true)
    (S6 : Subs K C6 U C0 C1 C2 C3 C4 C5 C6 C7 C8 C9 C10 C11 C12 false false false false false false true false false false false false false true)
    (S7 : Subs K C7 U C0 C1 C2 C3 C4 C5 C6 C7 C8 C9 C10 C11 C12 false false false false false false false true false false false false false true)
    (S8 : Subs K C8 U C0 C1 C2 C3 C4 C5 C6 C7 C8 C9 C10 C11 C12 false false false false false false false false true false false false false true)
    (S9 : Subs K C9 U C0 C1 C2 C3 C4 C5 C6 C7 C8 C9 C10 C11 C12 false false false false false false false false false true false false false true)
    (S10 : Subs K C10 U C0 C1 C2 C3 C4 C5 C6 C7 C8 C9 C10 C11 C12 false false false false false false false false false false true false false true)
    (S11 : Subs K C11 U C0 C1 C2 C3 C4 C5 C6 C7 C8 C9 C10 C11 C12 false false false false false false false false false false false true false false)
    (S12 : Subs K C12 U C0 C1 C2 C3 C4 C5 C6 C7 C8 C9 C10 C11 C12 false false false false false false false false false false false false true false)
    (z0 : nsIn K mainGlobals "repr" = some none)
    (z1 : nsIn K mainGlobals "range" = some none)
    (z2 : nsIn K mainGlobals "enumerate" = some none)
    (z3 : nsIn K mainGlobals "len" = some none)
    (z4 : nsIn K mainGlobals "isinstance" = some none)
    (z5 : nsIn K mainGlobals "ValueError" = some none)
    (z6 : nsIn K mainGlobals "KeyError" = some none)
    (z7 : nsIn K mainGlobals "int" = some none)
    (z8 : nsIn K mainGlobals "max" = some none)
    (z9 : nsIn K mainGlobals "tuple" = some none)
    (z10 : nsIn K mainGlobals "list" = some none)
    (F0 : TxtF K "_law_deal" sDeal f0 fd0)
    (F1 : TxtF K "_law_draw" sDraw f1 fd1)
    (F2 : TxtF K "_law_any" sAny f2 fd2)
    (F3 : TxtF K "_law_kept" sKept f3 fd3)
    (F4 : TxtF K "_law_caught" sCaught f4 fd4)
    (F5 : TxtF K "_law_made" sMade f5 fd5)
    (F6 : TxtF K "_law_named" sNamed f6 fd6)
    (F7 : TxtF K "law" sLaw f7 fd7)
    (b7 : ∀ (s : Shared) (v : Value), BindsTo s fd7 ⟨[v], []⟩ [("_law_script", v)])
    : ∃ fd : FuncData, (∀ (s : Shared) (v : Value), BindsTo s fd ⟨[v], []⟩ [("_law_script", v)]) ∧ ∀ base : Heap, K.In base → base.Ns mainGlobals mg → FnG l.prog w K mg base 6 fa fd ["_law_script"] (spLaw K) := by
  have e := hfa.symm.trans (PySem.W.mg_of KX G F7.here)
  cases e
  refine ⟨fd7, b7, fun base _ _ => ?_⟩
  have Z : Cls l.prog w K mg base (csOf C0 C1 C2 C3 C4 C5 C6 C7 C8 C9 C10 C11 C12) := ⟨k0 base, k1 base, k2 base, k3, k4 base, k5 base, k6 base, k7 base, k8 base, k9 base, k10, k11 base, k12 base⟩
  have n : ∀ {x : Str}, nsIn K mainGlobals x = some none → mg x = none := fun z => PySem.W.mg_none_of KX G z
  have bD := F0.fn.binds (ps := ["_law_script", "_law_base"]) fun _ _ _ _ _ _ us hl => match us, hl with | [_, _], _ => rfl
  have bW := F1.fn.binds (ps := ["_law_deal_here", "_law_many"]) fun _ _ _ _ _ _ us hl => match us, hl with | [_, _], _ => rfl
  have bA := F2.fn.binds (ps := ["_law_deal_here", "_law_deep"]) fun _ _ _ _ _ _ us hl => match us, hl with | [_, _], _ => rfl
  have bK := F3.fn.binds (ps := ["_law_error", "_law_names", "_law_values"]) fun _ _ _ _ _ _ us hl => match us, hl with | [_, _, _], _ => rfl
  have bC := F4.fn.binds (ps := ["_law_error"]) fun _ _ _ _ _ _ us hl => match us, hl with | [_], _ => rfl
  have bM := F5.fn.binds (ps := ["_law_a", "_law_b"]) fun _ _ _ _ _ _ us hl => match us, hl with | [_, _], _ => rfl
  have bN := F6.fn.binds (ps := ["_law_a", "_law_b"]) fun _ _ _ _ _ _ us hl => match us, hl with | [_, _], _ => rfl
  have mA := PySem.W.mg_of KX G F2.here
  have GW : FnOk l.prog w K mg base CX0 1 f1 fd1 ["_law_deal_here", "_law_many"] spDraw := okDraw F1.fn (n z3)
  refine okLaw F7.fn ⟨Z, g, ⟨f0, fd0, PySem.W.mg_of KX G F0.here, F0.fn.kp, okDeal F0.fn (n z8), bD⟩,
    ⟨f2, fd2, mA, F2.fn.kp, okAnyAll F2.fn mA bA GW (PySem.W.mg_of KX G F1.here) F1.fn.kp bW (n z1) (n z9) 4, bA⟩,
    ⟨f3, fd3, PySem.W.mg_of KX G F3.here, F3.fn.kp, okKept F3.fn (n z0) (n z10), bK⟩,
    ⟨f4, fd4, PySem.W.mg_of KX G F4.here, F4.fn.kp, okCaught F4.fn Z g (n z4) (n z2), bC⟩,
    ⟨f5, fd5, PySem.W.mg_of KX G F5.here, F5.fn.kp, okMade F5.fn Z, bM⟩,
    ⟨f6, fd6, PySem.W.mg_of KX G F6.here, F6.fn.kp, okNamed F6.fn Z, bN⟩,
    PySem.W.mg_of KX G gU, n z0, n z1, n z2, n z3, n z4, n z5, n z6, n z7, ?_⟩
  have mV : PySem.W.kitMeta "ValueError" = true := by decide +kernel
  have mK : PySem.W.kitMeta "KeyError" = true := by decide +kernel
  intro i C ns hc hn
  match i, hc, hn with
  | 0, hc, hn => cases hc; cases hn; exact ⟨Z.k0.T, ⟨_, _, _, _, _, _, _, _, _, _, _, _, _, S0.kits T0 T0 T1 T2 T3 T4 T5 T6 T7 T8 T9 T10 T11 T12, rfl⟩, kitRef TU T0 S0.iU, kitTy mV S0.iV, kitTy mK S0.iK, fun x hx => (List.mem_cons.mp hx).elim (fun r => r ▸ Z.k0.no) (fun r => List.mem_singleton.mp r ▸ Z.k0.no2)⟩
  | 1, hc, hn => cases hc; cases hn; exact ⟨Z.k1.T, ⟨_, _, _, _, _, _, _, _, _, _, _, _, _, S1.kits T1 T0 T1 T2 T3 T4 T5 T6 T7 T8 T9 T10 T11 T12, rfl⟩, kitRef TU T1 S1.iU, kitTy mV S1.iV, kitTy mK S1.iK, fun x hx => List.mem_singleton.mp hx ▸ Z.k1.no⟩
  | 2, hc, hn => cases hc; cases hn; exact ⟨Z.k2.T, ⟨_, _, _, _, _, _, _, _, _, _, _, _, _, S2.kits T2 T0 T1 T2 T3 T4 T5 T6 T7 T8 T9 T10 T11 T12, rfl⟩, kitRef TU T2 S2.iU, kitTy mV S2.iV, kitTy mK S2.iK, fun x hx => (List.mem_cons.mp hx).elim (fun r => r ▸ Z.k2.no) (fun r => List.mem_singleton.mp r ▸ Z.k2.no2)⟩
  | 3, hc, hn => cases hc; cases hn; exact ⟨Z.k3.T, ⟨_, _, _, _, _, _, _, _, _, _, _, _, _, S3.kits T3 T0 T1 T2 T3 T4 T5 T6 T7 T8 T9 T10 T11 T12, rfl⟩, kitRef TU T3 S3.iU, kitTy mV S3.iV, kitTy mK S3.iK, fun x hx => by cases hx⟩
  | 4, hc, hn => cases hc; cases hn; exact ⟨Z.k4.T, ⟨_, _, _, _, _, _, _, _, _, _, _, _, _, S4.kits T4 T0 T1 T2 T3 T4 T5 T6 T7 T8 T9 T10 T11 T12, rfl⟩, kitRef TU T4 S4.iU, kitTy mV S4.iV, kitTy mK S4.iK, fun x hx => List.mem_singleton.mp hx ▸ Z.k4.no⟩
  | 5, hc, hn => cases hc; cases hn; exact ⟨Z.k5.T, ⟨_, _, _, _, _, _, _, _, _, _, _, _, _, S5.kits T5 T0 T1 T2 T3 T4 T5 T6 T7 T8 T9 T10 T11 T12, rfl⟩, kitRef TU T5 S5.iU, kitTy mV S5.iV, kitTy mK S5.iK, fun x hx => List.mem_singleton.mp hx ▸ Z.k5.no⟩
  | 6, hc, hn => cases hc; cases hn; exact ⟨Z.k6.T, ⟨_, _, _, _, _, _, _, _, _, _, _, _, _, S6.kits T6 T0 T1 T2 T3 T4 T5 T6 T7 T8 T9 T10 T11 T12, rfl⟩, kitRef TU T6 S6.iU, kitTy mV S6.iV, kitTy mK S6.iK, fun x hx => List.mem_singleton.mp hx ▸ Z.k6.no⟩
  | 7, hc, hn => cases hc; cases hn; exact ⟨Z.k7.T, ⟨_, _, _, _, _, _, _, _, _, _, _, _, _, S7.kits T7 T0 T1 T2 T3 T4 T5 T6 T7 T8 T9 T10 T11 T12, rfl⟩, kitRef TU T7 S7.iU, kitTy mV S7.iV, kitTy mK S7.iK, fun x hx => (List.mem_cons.mp hx).elim (fun r => r ▸ Z.k7.no) (fun r => List.mem_singleton.mp r ▸ Z.k7.no2)⟩
  | 8, hc, hn => cases hc; cases hn; exact ⟨Z.k8.T, ⟨_, _, _, _, _, _, _, _, _, _, _, _, _, S8.kits T8 T0 T1 T2 T3 T4 T5 T6 T7 T8 T9 T10 T11 T12, rfl⟩, kitRef TU T8 S8.iU, kitTy mV S8.iV, kitTy mK S8.iK, fun x hx => List.mem_singleton.mp hx ▸ Z.k8.no⟩
  | 9, hc, hn => cases hc; cases hn; exact ⟨Z.k9.T, ⟨_, _, _, _, _, _, _, _, _, _, _, _, _, S9.kits T9 T0 T1 T2 T3 T4 T5 T6 T7 T8 T9 T10 T11 T12, rfl⟩, kitRef TU T9 S9.iU, kitTy mV S9.iV, kitTy mK S9.iK, fun x hx => List.mem_singleton.mp hx ▸ Z.k9.no⟩
  | 10, hc, hn => cases hc; cases hn; exact ⟨Z.k10.T, ⟨_, _, _, _, _, _, _, _, _, _, _, _, _, S10.kits T10 T0 T1 T2 T3 T4 T5 T6 T7 T8 T9 T10 T11 T12, rfl⟩, kitRef TU T10 S10.iU, kitTy mV S10.iV, kitTy mK S10.iK, fun x hx => by cases hx⟩
  | 11, hc, hn => cases hc; cases hn; exact ⟨Z.k11.T, ⟨_, _, _, _, _, _, _, _, _, _, _, _, _, S11.kits T11 T0 T1 T2 T3 T4 T5 T6 T7 T8 T9 T10 T11 T12, rfl⟩, kitRef TU T11 S11.iU, kitTy mV S11.iV, kitTy mK S11.iK, fun x hx => List.mem_singleton.mp hx ▸ Z.k11.no⟩
  | 12, hc, hn => cases hc; cases hn; exact ⟨Z.k12.T, ⟨_, _, _, _, _, _, _, _, _, _, _, _, _, S12.kits T12 T0 T1 T2 T3 T4 T5 T6 T7 T8 T9 T10 T11 T12, rfl⟩, kitRef TU T12 S12.iU, kitTy mV S12.iV, kitTy mK S12.iK, fun x hx => List.mem_singleton.mp hx ▸ Z.k12.no⟩
  | i + 13, hc, hn =>
    have z : (csOf C0 C1 C2 C3 C4 C5 C6 C7 C8 C9 C10 C11 C12).l[i + 13]? = none := List.getElem?_eq_none (by show 13 ≤ i + 13; omega)
    rw [z] at hc
    cases hc
end L2.Und
end

section
set_option Elab.async false
set_option linter.all false
set_option maxRecDepth 100000
set_option maxHeartbeats 8000000
namespace L2.Und
open PySem PySem.Spec PyProof.Rows _root_.Und
open PySem.W (findIn keepIn typeIn subIn mroIn hasDictIn isClsIn specialIn takesIn nsIn codeIn)
section
variable {P : Program} {w : World} {K : PySem.W.Frag} {mg : Str → Option Value} {h : Heap} {C fI : Addr} {oc : Value} {od an : Option Addr} {osl : Array (Option Value)} {kV doc pm cdv ct : Value}
theorem mk0 (E : ErrC K C) (KX : K.In h) (G : h.Ns mainGlobals mg) (g : nsIn K mainGlobals "InvalidTable" = some (some (.ref C))) (no : findIn K (.ref C) "word" = some none) (no1 : findIn K (.ref C) "at" = some none) (iC : findIn K (.ref C) "__init__" = some (some (.ref fI))) (tI : typeIn K (.ref fI) = some (.type "function"))
    (l : K.lookup fI = some ⟨oc, od, .func (PySem.W.fnOf "__init__" "InvalidTable.__init__" (defArgs (inClass (topS 2) 0)) (defBody (inClass (topS 2) 0)) (defScope (inClass (topS 2) 0)) .none kV doc pm an cdv ct), osl⟩) (cc : codeIn K cdv "InvalidTable.__init__" = true) (k : keepIn K (.ref fI) = true) (base : Heap) : Two P w K mg base "InvalidTable" "word" "at" C :=
  mkTwo (st := (inClass (topS 2) 0)) (qual := "InvalidTable.__init__") E KX G ⟨rfl, rfl, rfl, by decide +kernel, rfl, by decide +kernel, by decide +kernel⟩ ⟨_, _, _, _, _, _, _, _, rfl⟩ (fun _ _ _ _ _ _ us hl => match us, hl with | [_, _, _], _ => rfl) (fun _ _ _ _ _ _ _ _ _ => rfl) (by decide) (by decide) (by decide) (by decide) (by decide) g no no1 iC tI l cc k base
theorem mk1 (E : ErrC K C) (KX : K.In h) (G : h.Ns mainGlobals mg) (g : nsIn K mainGlobals "InvalidText" = some (some (.ref C))) (no : findIn K (.ref C) "at" = some none) (iC : findIn K (.ref C) "__init__" = some (some (.ref fI))) (tI : typeIn K (.ref fI) = some (.type "function"))
    (l : K.lookup fI = some ⟨oc, od, .func (PySem.W.fnOf "__init__" "InvalidText.__init__" (defArgs (inClass (topS 3) 0)) (defBody (inClass (topS 3) 0)) (defScope (inClass (topS 3) 0)) .none kV doc pm an cdv ct), osl⟩) (cc : codeIn K cdv "InvalidText.__init__" = true) (k : keepIn K (.ref fI) = true) (base : Heap) : One P w K mg base "InvalidText" "at" C :=
  mkOne (st := (inClass (topS 3) 0)) (qual := "InvalidText.__init__") E KX G ⟨rfl, rfl, rfl, by decide +kernel, rfl, by decide +kernel, by decide +kernel⟩ ⟨_, _, _, _, rfl⟩ (fun _ _ _ _ _ _ us hl => match us, hl with | [_, _], _ => rfl) (fun _ _ _ _ _ _ _ _ => rfl) (by decide) (by decide) g no iC tI l cc k base
theorem mk2 (E : ErrC K C) (KX : K.In h) (G : h.Ns mainGlobals mg) (g : nsIn K mainGlobals "InvalidStore" = some (some (.ref C))) (no : findIn K (.ref C) "word" = some none) (no1 : findIn K (.ref C) "kind" = some none) (iC : findIn K (.ref C) "__init__" = some (some (.ref fI))) (tI : typeIn K (.ref fI) = some (.type "function"))
    (l : K.lookup fI = some ⟨oc, od, .func (PySem.W.fnOf "__init__" "InvalidStore.__init__" (defArgs (inClass (topS 4) 0)) (defBody (inClass (topS 4) 0)) (defScope (inClass (topS 4) 0)) .none kV doc pm an cdv ct), osl⟩) (cc : codeIn K cdv "InvalidStore.__init__" = true) (k : keepIn K (.ref fI) = true) (base : Heap) : Two P w K mg base "InvalidStore" "word" "kind" C :=
  mkTwo (st := (inClass (topS 4) 0)) (qual := "InvalidStore.__init__") E KX G ⟨rfl, rfl, rfl, by decide +kernel, rfl, by decide +kernel, by decide +kernel⟩ ⟨_, _, _, _, _, _, _, _, rfl⟩ (fun _ _ _ _ _ _ us hl => match us, hl with | [_, _, _], _ => rfl) (fun _ _ _ _ _ _ _ _ _ => rfl) (by decide) (by decide) (by decide) (by decide) (by decide) g no no1 iC tI l cc k base
theorem mk3 (E : ErrC K C) (KX : K.In h) (G : h.Ns mainGlobals mg) (g : nsIn K mainGlobals "OtherTable" = some (some (.ref C))) (q : PySem.W.excIn K C [.type "ValueError", .type "Exception", .type "BaseException", .type "object"] "ValueError.__new__" = true) : Nul K mg "OtherTable" C :=
  ⟨PySem.W.mg_of KX G g, E, q⟩
theorem mk4 (E : ErrC K C) (KX : K.In h) (G : h.Ns mainGlobals mg) (g : nsIn K mainGlobals "NoDeed" = some (some (.ref C))) (no : findIn K (.ref C) "at" = some none) (iC : findIn K (.ref C) "__init__" = some (some (.ref fI))) (tI : typeIn K (.ref fI) = some (.type "function"))
    (l : K.lookup fI = some ⟨oc, od, .func (PySem.W.fnOf "__init__" "NoDeed.__init__" (defArgs (inClass (topS 6) 0)) (defBody (inClass (topS 6) 0)) (defScope (inClass (topS 6) 0)) .none kV doc pm an cdv ct), osl⟩) (cc : codeIn K cdv "NoDeed.__init__" = true) (k : keepIn K (.ref fI) = true) (base : Heap) : One P w K mg base "NoDeed" "at" C :=
  mkOne (st := (inClass (topS 6) 0)) (qual := "NoDeed.__init__") E KX G ⟨rfl, rfl, rfl, by decide +kernel, rfl, by decide +kernel, by decide +kernel⟩ ⟨_, _, _, _, rfl⟩ (fun _ _ _ _ _ _ us hl => match us, hl with | [_, _], _ => rfl) (fun _ _ _ _ _ _ _ _ => rfl) (by decide) (by decide) g no iC tI l cc k base
theorem mk5 (E : ErrC K C) (KX : K.In h) (G : h.Ns mainGlobals mg) (g : nsIn K mainGlobals "NotShort" = some (some (.ref C))) (no : findIn K (.ref C) "at" = some none) (iC : findIn K (.ref C) "__init__" = some (some (.ref fI))) (tI : typeIn K (.ref fI) = some (.type "function"))
    (l : K.lookup fI = some ⟨oc, od, .func (PySem.W.fnOf "__init__" "NotShort.__init__" (defArgs (inClass (topS 7) 0)) (defBody (inClass (topS 7) 0)) (defScope (inClass (topS 7) 0)) .none kV doc pm an cdv ct), osl⟩) (cc : codeIn K cdv "NotShort.__init__" = true) (k : keepIn K (.ref fI) = true) (base : Heap) : One P w K mg base "NotShort" "at" C :=
  mkOne (st := (inClass (topS 7) 0)) (qual := "NotShort.__init__") E KX G ⟨rfl, rfl, rfl, by decide +kernel, rfl, by decide +kernel, by decide +kernel⟩ ⟨_, _, _, _, rfl⟩ (fun _ _ _ _ _ _ us hl => match us, hl with | [_, _], _ => rfl) (fun _ _ _ _ _ _ _ _ => rfl) (by decide) (by decide) g no iC tI l cc k base
theorem mk6 (E : ErrC K C) (KX : K.In h) (G : h.Ns mainGlobals mg) (g : nsIn K mainGlobals "TooMany" = some (some (.ref C))) (no : findIn K (.ref C) "count" = some none) (iC : findIn K (.ref C) "__init__" = some (some (.ref fI))) (tI : typeIn K (.ref fI) = some (.type "function"))
    (l : K.lookup fI = some ⟨oc, od, .func (PySem.W.fnOf "__init__" "TooMany.__init__" (defArgs (inClass (topS 8) 0)) (defBody (inClass (topS 8) 0)) (defScope (inClass (topS 8) 0)) .none kV doc pm an cdv ct), osl⟩) (cc : codeIn K cdv "TooMany.__init__" = true) (k : keepIn K (.ref fI) = true) (base : Heap) : One P w K mg base "TooMany" "count" C :=
  mkOne (st := (inClass (topS 8) 0)) (qual := "TooMany.__init__") E KX G ⟨rfl, rfl, rfl, by decide +kernel, rfl, by decide +kernel, by decide +kernel⟩ ⟨_, _, _, _, rfl⟩ (fun _ _ _ _ _ _ us hl => match us, hl with | [_, _], _ => rfl) (fun _ _ _ _ _ _ _ _ => rfl) (by decide) (by decide) g no iC tI l cc k base
theorem mk7 (E : ErrC K C) (KX : K.In h) (G : h.Ns mainGlobals mg) (g : nsIn K mainGlobals "Barred" = some (some (.ref C))) (no : findIn K (.ref C) "one" = some none) (no1 : findIn K (.ref C) "other" = some none) (iC : findIn K (.ref C) "__init__" = some (some (.ref fI))) (tI : typeIn K (.ref fI) = some (.type "function"))
    (l : K.lookup fI = some ⟨oc, od, .func (PySem.W.fnOf "__init__" "Barred.__init__" (defArgs (inClass (topS 9) 0)) (defBody (inClass (topS 9) 0)) (defScope (inClass (topS 9) 0)) .none kV doc pm an cdv ct), osl⟩) (cc : codeIn K cdv "Barred.__init__" = true) (k : keepIn K (.ref fI) = true) (base : Heap) : Two P w K mg base "Barred" "one" "other" C :=
  mkTwo (st := (inClass (topS 9) 0)) (qual := "Barred.__init__") E KX G ⟨rfl, rfl, rfl, by decide +kernel, rfl, by decide +kernel, by decide +kernel⟩ ⟨_, _, _, _, _, _, _, _, rfl⟩ (fun _ _ _ _ _ _ us hl => match us, hl with | [_, _, _], _ => rfl) (fun _ _ _ _ _ _ _ _ _ => rfl) (by decide) (by decide) (by decide) (by decide) (by decide) g no no1 iC tI l cc k base
theorem mk8 (E : ErrC K C) (KX : K.In h) (G : h.Ns mainGlobals mg) (g : nsIn K mainGlobals "Clash" = some (some (.ref C))) (no : findIn K (.ref C) "version" = some none) (iC : findIn K (.ref C) "__init__" = some (some (.ref fI))) (tI : typeIn K (.ref fI) = some (.type "function"))
    (l : K.lookup fI = some ⟨oc, od, .func (PySem.W.fnOf "__init__" "Clash.__init__" (defArgs (inClass (topS 10) 0)) (defBody (inClass (topS 10) 0)) (defScope (inClass (topS 10) 0)) .none kV doc pm an cdv ct), osl⟩) (cc : codeIn K cdv "Clash.__init__" = true) (k : keepIn K (.ref fI) = true) (base : Heap) : One P w K mg base "Clash" "version" C :=
  mkOne (st := (inClass (topS 10) 0)) (qual := "Clash.__init__") E KX G ⟨rfl, rfl, rfl, by decide +kernel, rfl, by decide +kernel, by decide +kernel⟩ ⟨_, _, _, _, rfl⟩ (fun _ _ _ _ _ _ us hl => match us, hl with | [_, _], _ => rfl) (fun _ _ _ _ _ _ _ _ => rfl) (by decide) (by decide) g no iC tI l cc k base
theorem mk9 (E : ErrC K C) (KX : K.In h) (G : h.Ns mainGlobals mg) (g : nsIn K mainGlobals "Taken" = some (some (.ref C))) (no : findIn K (.ref C) "name" = some none) (iC : findIn K (.ref C) "__init__" = some (some (.ref fI))) (tI : typeIn K (.ref fI) = some (.type "function"))
    (l : K.lookup fI = some ⟨oc, od, .func (PySem.W.fnOf "__init__" "Taken.__init__" (defArgs (inClass (topS 11) 0)) (defBody (inClass (topS 11) 0)) (defScope (inClass (topS 11) 0)) .none kV doc pm an cdv ct), osl⟩) (cc : codeIn K cdv "Taken.__init__" = true) (k : keepIn K (.ref fI) = true) (base : Heap) : One P w K mg base "Taken" "name" C :=
  mkOne (st := (inClass (topS 11) 0)) (qual := "Taken.__init__") E KX G ⟨rfl, rfl, rfl, by decide +kernel, rfl, by decide +kernel, by decide +kernel⟩ ⟨_, _, _, _, rfl⟩ (fun _ _ _ _ _ _ us hl => match us, hl with | [_, _], _ => rfl) (fun _ _ _ _ _ _ _ _ => rfl) (by decide) (by decide) g no iC tI l cc k base
theorem mk10 (E : ErrC K C) (KX : K.In h) (G : h.Ns mainGlobals mg) (g : nsIn K mainGlobals "InvalidCommand" = some (some (.ref C))) (q : PySem.W.excIn K C [.type "ValueError", .type "Exception", .type "BaseException", .type "object"] "ValueError.__new__" = true) : Nul K mg "InvalidCommand" C :=
  ⟨PySem.W.mg_of KX G g, E, q⟩
theorem mk11 (E : ErrC K C) (KX : K.In h) (G : h.Ns mainGlobals mg) (g : nsIn K mainGlobals "UnknownKind" = some (some (.ref C))) (no : findIn K (.ref C) "name" = some none) (iC : findIn K (.ref C) "__init__" = some (some (.ref fI))) (tI : typeIn K (.ref fI) = some (.type "function"))
    (l : K.lookup fI = some ⟨oc, od, .func (PySem.W.fnOf "__init__" "UnknownKind.__init__" (defArgs (inClass (topS 13) 0)) (defBody (inClass (topS 13) 0)) (defScope (inClass (topS 13) 0)) .none kV doc pm an cdv ct), osl⟩) (cc : codeIn K cdv "UnknownKind.__init__" = true) (k : keepIn K (.ref fI) = true) (base : Heap) : One P w K mg base "UnknownKind" "name" C :=
  mkOne (st := (inClass (topS 13) 0)) (qual := "UnknownKind.__init__") E KX G ⟨rfl, rfl, rfl, by decide +kernel, rfl, by decide +kernel, by decide +kernel⟩ ⟨_, _, _, _, rfl⟩ (fun _ _ _ _ _ _ us hl => match us, hl with | [_, _], _ => rfl) (fun _ _ _ _ _ _ _ _ => rfl) (by decide) (by decide) g no iC tI l cc k base
theorem mk12 (E : ErrC K C) (KX : K.In h) (G : h.Ns mainGlobals mg) (g : nsIn K mainGlobals "UnknownBranch" = some (some (.ref C))) (no : findIn K (.ref C) "name" = some none) (iC : findIn K (.ref C) "__init__" = some (some (.ref fI))) (tI : typeIn K (.ref fI) = some (.type "function"))
    (l : K.lookup fI = some ⟨oc, od, .func (PySem.W.fnOf "__init__" "UnknownBranch.__init__" (defArgs (inClass (topS 14) 0)) (defBody (inClass (topS 14) 0)) (defScope (inClass (topS 14) 0)) .none kV doc pm an cdv ct), osl⟩) (cc : codeIn K cdv "UnknownBranch.__init__" = true) (k : keepIn K (.ref fI) = true) (base : Heap) : One P w K mg base "UnknownBranch" "name" C :=
  mkOne (st := (inClass (topS 14) 0)) (qual := "UnknownBranch.__init__") E KX G ⟨rfl, rfl, rfl, by decide +kernel, rfl, by decide +kernel, by decide +kernel⟩ ⟨_, _, _, _, rfl⟩ (fun _ _ _ _ _ _ us hl => match us, hl with | [_, _], _ => rfl) (fun _ _ _ _ _ _ _ _ => rfl) (by decide) (by decide) g no iC tI l cc k base
end
theorem walkL {l : PySem.W.OpenLaw} {q : Program} {loose : List Str} {XP : (Str → Option Value) → Heap → Prop} {YP : World → Heap → Prop} {d : DefRec} {K : Params → PySem.W.Frag} (hn : l.most = some 63) (hdf : d.params.defaults = [])
    (hY : ∀ (w : World) (h : Heap), YP w h → (K w.params).In h)
    (F : ∀ (w : World) (mg : Str → Option Value) (fa : Addr) (h : Heap), (K w.params).In h → h.Ns mainGlobals mg → mg d.name = some (.ref fa) →
      ∃ fd : FuncData, (∀ (s : Shared) (u : Value), BindsTo s fd ⟨[u], []⟩ [("_law_script", u)]) ∧ ∀ base : Heap, (K w.params).In base → base.Ns mainGlobals mg → FnG l.prog w (K w.params) mg base 6 fa fd ["_law_script"] (spLaw (K w.params))) :
    PySem.W.WalkO q loose XP YP l.row.toRowW d [] (fun f vs => PySem.call f vs) :=
  walkG (n := 63) (k := 6) (x := "_law_script") (sp := fun w => spLaw (K w.params)) hn (by decide) hdf ⟨rfl, by decide, by decide⟩ hY F fun _ _ a ns hl _ hS => ⟨a, ns, rfl, hS, hl, fun _ => rfl⟩
end L2.Und
end

section
open PySem PySem.W PyProof.Rows
set_option Elab.async false
set_option maxRecDepth 100000 in
set_option maxHeartbeats 0 in
theorem PySem.Challenge.cw_undoamid_k01_errors_and_their_attributes_holds : PySem.Challenge.rw_undoamid_k01_errors_and_their_attributes.Holds := by
  w_on; o_law; k_head; (case hw => w_witness2)
  k_fill
  refine L2.Und.walkL (l := PySem.Challenge.rw_undoamid_k01_errors_and_their_attributes) rfl rfl (fun w h Y => PySem.W.kIn_of Y) ?F
  case F =>
    intro w mg fa h KX G hmg
    refine' L2.Und.finMk KX G hmg ?und_g0 ?und_g1 ?und_g2 ?und_g3 ?und_g4 ?und_g5 ?und_g6 ?und_g7 ?und_g8 ?und_g9 ?und_g10 ?und_g11 ?und_g12 ?und_k0 ?und_k1 ?und_k2 ?und_k3 ?und_k4 ?und_k5 ?und_k6 ?und_k7 ?und_k8 ?und_k9 ?und_k10 ?und_k11 ?und_k12 ?und_g ?und_gU ?und_TU ?und_T0 ?und_T1 ?und_T2 ?und_T3 ?und_T4 ?und_T5 ?und_T6 ?und_T7 ?und_T8 ?und_T9 ?und_T10 ?und_T11 ?und_T12 ?und_S0 ?und_S1 ?und_S2 ?und_S3 ?und_S4 ?und_S5 ?und_S6 ?und_S7 ?und_S8 ?und_S9 ?und_S10 ?und_S11 ?und_S12 ?und_z0 ?und_z1 ?und_z2 ?und_z3 ?und_z4 ?und_z5 ?und_z6 ?und_z7 ?und_z8 ?und_z9 ?und_z10 ?und_F0 ?und_F1 ?und_F2 ?und_F3 ?und_F4 ?und_F5 ?und_F6 ?und_F7 ?und_b7
    case und_g0 => k_is
    case und_g1 => k_is
    case und_g2 => k_is
    case und_g3 => k_is
    case und_g4 => k_is
    case und_g5 => k_is
    case und_g6 => k_is
    case und_g7 => k_is
    case und_g8 => k_is
    case und_g9 => k_is
    case und_g10 => k_is
    case und_g11 => k_is
    case und_g12 => k_is
    case und_k0 => refine' L2.Und.mk0 ?e0E KX G ?e0g ?e0no ?e0no1 ?e0iC ?e0tI ?e0l ?e0cc ?e0k; (case e0g => k_is); (case e0no => k_is); (case e0no1 => k_is); (case e0iC => k_is); (case e0tI => k_is); (case e0l => k_is); (case e0cc => k_is); (case e0k => k_is); (case e0E => refine' L2.Und.mkV ⟨by k_is, by k_is, by k_is, by k_is, by k_is, by k_is, by k_is, by k_is, by k_is, by k_is, by first | rfl | k_is⟩ ?e0m; (case e0m => k_is))
    case und_k1 => refine' L2.Und.mk1 ?e1E KX G ?e1g ?e1no ?e1iC ?e1tI ?e1l ?e1cc ?e1k; (case e1g => k_is); (case e1no => k_is); (case e1iC => k_is); (case e1tI => k_is); (case e1l => k_is); (case e1cc => k_is); (case e1k => k_is); (case e1E => refine' L2.Und.mkV ⟨by k_is, by k_is, by k_is, by k_is, by k_is, by k_is, by k_is, by k_is, by k_is, by k_is, by first | rfl | k_is⟩ ?e1m; (case e1m => k_is))
    case und_k2 => refine' L2.Und.mk2 ?e2E KX G ?e2g ?e2no ?e2no1 ?e2iC ?e2tI ?e2l ?e2cc ?e2k; (case e2g => k_is); (case e2no => k_is); (case e2no1 => k_is); (case e2iC => k_is); (case e2tI => k_is); (case e2l => k_is); (case e2cc => k_is); (case e2k => k_is); (case e2E => refine' L2.Und.mkV ⟨by k_is, by k_is, by k_is, by k_is, by k_is, by k_is, by k_is, by k_is, by k_is, by k_is, by first | rfl | k_is⟩ ?e2m; (case e2m => k_is))
    case und_k3 => refine' L2.Und.mk3 ?e3E KX G ?e3g ?e3q; (case e3g => k_is); (case e3q => k_exc); (case e3E => refine' L2.Und.mkV ⟨by k_is, by k_is, by k_is, by k_is, by k_is, by k_is, by k_is, by k_is, by k_is, by k_is, by first | rfl | k_is⟩ ?e3m; (case e3m => k_is))
    case und_k4 => refine' L2.Und.mk4 ?e4E KX G ?e4g ?e4no ?e4iC ?e4tI ?e4l ?e4cc ?e4k; (case e4g => k_is); (case e4no => k_is); (case e4iC => k_is); (case e4tI => k_is); (case e4l => k_is); (case e4cc => k_is); (case e4k => k_is); (case e4E => refine' L2.Und.mkV ⟨by k_is, by k_is, by k_is, by k_is, by k_is, by k_is, by k_is, by k_is, by k_is, by k_is, by first | rfl | k_is⟩ ?e4m; (case e4m => k_is))
    case und_k5 => refine' L2.Und.mk5 ?e5E KX G ?e5g ?e5no ?e5iC ?e5tI ?e5l ?e5cc ?e5k; (case e5g => k_is); (case e5no => k_is); (case e5iC => k_is); (case e5tI => k_is); (case e5l => k_is); (case e5cc => k_is); (case e5k => k_is); (case e5E => refine' L2.Und.mkV ⟨by k_is, by k_is, by k_is, by k_is, by k_is, by k_is, by k_is, by k_is, by k_is, by k_is, by first | rfl | k_is⟩ ?e5m; (case e5m => k_is))
    case und_k6 => refine' L2.Und.mk6 ?e6E KX G ?e6g ?e6no ?e6iC ?e6tI ?e6l ?e6cc ?e6k; (case e6g => k_is); (case e6no => k_is); (case e6iC => k_is); (case e6tI => k_is); (case e6l => k_is); (case e6cc => k_is); (case e6k => k_is); (case e6E => refine' L2.Und.mkV ⟨by k_is, by k_is, by k_is, by k_is, by k_is, by k_is, by k_is, by k_is, by k_is, by k_is, by first | rfl | k_is⟩ ?e6m; (case e6m => k_is))
    case und_k7 => refine' L2.Und.mk7 ?e7E KX G ?e7g ?e7no ?e7no1 ?e7iC ?e7tI ?e7l ?e7cc ?e7k; (case e7g => k_is); (case e7no => k_is); (case e7no1 => k_is); (case e7iC => k_is); (case e7tI => k_is); (case e7l => k_is); (case e7cc => k_is); (case e7k => k_is); (case e7E => refine' L2.Und.mkV ⟨by k_is, by k_is, by k_is, by k_is, by k_is, by k_is, by k_is, by k_is, by k_is, by k_is, by first | rfl | k_is⟩ ?e7m; (case e7m => k_is))
    case und_k8 => refine' L2.Und.mk8 ?e8E KX G ?e8g ?e8no ?e8iC ?e8tI ?e8l ?e8cc ?e8k; (case e8g => k_is); (case e8no => k_is); (case e8iC => k_is); (case e8tI => k_is); (case e8l => k_is); (case e8cc => k_is); (case e8k => k_is); (case e8E => refine' L2.Und.mkV ⟨by k_is, by k_is, by k_is, by k_is, by k_is, by k_is, by k_is, by k_is, by k_is, by k_is, by first | rfl | k_is⟩ ?e8m; (case e8m => k_is))
    case und_k9 => refine' L2.Und.mk9 ?e9E KX G ?e9g ?e9no ?e9iC ?e9tI ?e9l ?e9cc ?e9k; (case e9g => k_is); (case e9no => k_is); (case e9iC => k_is); (case e9tI => k_is); (case e9l => k_is); (case e9cc => k_is); (case e9k => k_is); (case e9E => refine' L2.Und.mkV ⟨by k_is, by k_is, by k_is, by k_is, by k_is, by k_is, by k_is, by k_is, by k_is, by k_is, by first | rfl | k_is⟩ ?e9m; (case e9m => k_is))
    case und_k10 => refine' L2.Und.mk10 ?e10E KX G ?e10g ?e10q; (case e10g => k_is); (case e10q => k_exc); (case e10E => refine' L2.Und.mkV ⟨by k_is, by k_is, by k_is, by k_is, by k_is, by k_is, by k_is, by k_is, by k_is, by k_is, by first | rfl | k_is⟩ ?e10m; (case e10m => k_is))
    case und_k11 => refine' L2.Und.mk11 ?e11E KX G ?e11g ?e11no ?e11iC ?e11tI ?e11l ?e11cc ?e11k; (case e11g => k_is); (case e11no => k_is); (case e11iC => k_is); (case e11tI => k_is); (case e11l => k_is); (case e11cc => k_is); (case e11k => k_is); (case e11E => refine' L2.Und.mkK ⟨by k_is, by k_is, by k_is, by k_is, by k_is, by k_is, by k_is, by k_is, by k_is, by k_is, by first | rfl | k_is⟩ ?e11m; (case e11m => k_is))
    case und_k12 => refine' L2.Und.mk12 ?e12E KX G ?e12g ?e12no ?e12iC ?e12tI ?e12l ?e12cc ?e12k; (case e12g => k_is); (case e12no => k_is); (case e12iC => k_is); (case e12tI => k_is); (case e12l => k_is); (case e12cc => k_is); (case e12k => k_is); (case e12E => refine' L2.Und.mkK ⟨by k_is, by k_is, by k_is, by k_is, by k_is, by k_is, by k_is, by k_is, by k_is, by k_is, by first | rfl | k_is⟩ ?e12m; (case e12m => k_is))
    case und_g => exact ⟨by k_is, by k_is⟩
    case und_gU => k_is
    case und_TU => exact ⟨by k_is, by k_is, by k_is, by k_is, by k_is, by k_is, by k_is, by k_is, by k_is, by k_is, by first | rfl | k_is⟩
    case und_T0 => exact ⟨by k_is, by k_is, by k_is, by k_is, by k_is, by k_is, by k_is, by k_is, by k_is, by k_is, by first | rfl | k_is⟩
    case und_T1 => exact ⟨by k_is, by k_is, by k_is, by k_is, by k_is, by k_is, by k_is, by k_is, by k_is, by k_is, by first | rfl | k_is⟩
    case und_T2 => exact ⟨by k_is, by k_is, by k_is, by k_is, by k_is, by k_is, by k_is, by k_is, by k_is, by k_is, by first | rfl | k_is⟩
    case und_T3 => exact ⟨by k_is, by k_is, by k_is, by k_is, by k_is, by k_is, by k_is, by k_is, by k_is, by k_is, by first | rfl | k_is⟩
    case und_T4 => exact ⟨by k_is, by k_is, by k_is, by k_is, by k_is, by k_is, by k_is, by k_is, by k_is, by k_is, by first | rfl | k_is⟩
    case und_T5 => exact ⟨by k_is, by k_is, by k_is, by k_is, by k_is, by k_is, by k_is, by k_is, by k_is, by k_is, by first | rfl | k_is⟩
    case und_T6 => exact ⟨by k_is, by k_is, by k_is, by k_is, by k_is, by k_is, by k_is, by k_is, by k_is, by k_is, by first | rfl | k_is⟩
    case und_T7 => exact ⟨by k_is, by k_is, by k_is, by k_is, by k_is, by k_is, by k_is, by k_is, by k_is, by k_is, by first | rfl | k_is⟩
    case und_T8 => exact ⟨by k_is, by k_is, by k_is, by k_is, by k_is, by k_is, by k_is, by k_is, by k_is, by k_is, by first | rfl | k_is⟩
    case und_T9 => exact ⟨by k_is, by k_is, by k_is, by k_is, by k_is, by k_is, by k_is, by k_is, by k_is, by k_is, by first | rfl | k_is⟩
    case und_T10 => exact ⟨by k_is, by k_is, by k_is, by k_is, by k_is, by k_is, by k_is, by k_is, by k_is, by k_is, by first | rfl | k_is⟩
    case und_T11 => exact ⟨by k_is, by k_is, by k_is, by k_is, by k_is, by k_is, by k_is, by k_is, by k_is, by k_is, by first | rfl | k_is⟩
    case und_T12 => exact ⟨by k_is, by k_is, by k_is, by k_is, by k_is, by k_is, by k_is, by k_is, by k_is, by k_is, by first | rfl | k_is⟩
    case und_S0 => exact ⟨by first | k_is | rfl, by first | k_is | rfl, by first | k_is | rfl, by first | k_is | rfl, by first | k_is | rfl, by first | k_is | rfl, by first | k_is | rfl, by first | k_is | rfl, by first | k_is | rfl, by first | k_is | rfl, by first | k_is | rfl, by first | k_is | rfl, by first | k_is | rfl, by first | k_is | rfl, by first | k_is | rfl, by first | k_is | rfl⟩
    case und_S1 => exact ⟨by first | k_is | rfl, by first | k_is | rfl, by first | k_is | rfl, by first | k_is | rfl, by first | k_is | rfl, by first | k_is | rfl, by first | k_is | rfl, by first | k_is | rfl, by first | k_is | rfl, by first | k_is | rfl, by first | k_is | rfl, by first | k_is | rfl, by first | k_is | rfl, by first | k_is | rfl, by first | k_is | rfl, by first | k_is | rfl⟩
    case und_S2 => exact ⟨by first | k_is | rfl, by first | k_is | rfl, by first | k_is | rfl, by first | k_is | rfl, by first | k_is | rfl, by first | k_is | rfl, by first | k_is | rfl, by first | k_is | rfl, by first | k_is | rfl, by first | k_is | rfl, by first | k_is | rfl, by first | k_is | rfl, by first | k_is | rfl, by first | k_is | rfl, by first | k_is | rfl, by first | k_is | rfl⟩
    case und_S3 => exact ⟨by first | k_is | rfl, by first | k_is | rfl, by first | k_is | rfl, by first | k_is | rfl, by first | k_is | rfl, by first | k_is | rfl, by first | k_is | rfl, by first | k_is | rfl, by first | k_is | rfl, by first | k_is | rfl, by first | k_is | rfl, by first | k_is | rfl, by first | k_is | rfl, by first | k_is | rfl, by first | k_is | rfl, by first | k_is | rfl⟩
    case und_S4 => exact ⟨by first | k_is | rfl, by first | k_is | rfl, by first | k_is | rfl, by first | k_is | rfl, by first | k_is | rfl, by first | k_is | rfl, by first | k_is | rfl, by first | k_is | rfl, by first | k_is | rfl, by first | k_is | rfl, by first | k_is | rfl, by first | k_is | rfl, by first | k_is | rfl, by first | k_is | rfl, by first | k_is | rfl, by first | k_is | rfl⟩
    case und_S5 => exact ⟨by first | k_is | rfl, by first | k_is | rfl, by first | k_is | rfl, by first | k_is | rfl, by first | k_is | rfl, by first | k_is | rfl, by first | k_is | rfl, by first | k_is | rfl, by first | k_is | rfl, by first | k_is | rfl, by first | k_is | rfl, by first | k_is | rfl, by first | k_is | rfl, by first | k_is | rfl, by first | k_is | rfl, by first | k_is | rfl⟩
    case und_S6 => exact ⟨by first | k_is | rfl, by first | k_is | rfl, by first | k_is | rfl, by first | k_is | rfl, by first | k_is | rfl, by first | k_is | rfl, by first | k_is | rfl, by first | k_is | rfl, by first | k_is | rfl, by first | k_is | rfl, by first | k_is | rfl, by first | k_is | rfl, by first | k_is | rfl, by first | k_is | rfl, by first | k_is | rfl, by first | k_is | rfl⟩
    case und_S7 => exact ⟨by first | k_is | rfl, by first | k_is | rfl, by first | k_is | rfl, by first | k_is | rfl, by first | k_is | rfl, by first | k_is | rfl, by first | k_is | rfl, by first | k_is | rfl, by first | k_is | rfl, by first | k_is | rfl, by first | k_is | rfl, by first | k_is | rfl, by first | k_is | rfl, by first | k_is | rfl, by first | k_is | rfl, by first | k_is | rfl⟩
    case und_S8 => exact ⟨by first | k_is | rfl, by first | k_is | rfl, by first | k_is | rfl, by first | k_is | rfl, by first | k_is | rfl, by first | k_is | rfl, by first | k_is | rfl, by first | k_is | rfl, by first | k_is | rfl, by first | k_is | rfl, by first | k_is | rfl, by first | k_is | rfl, by first | k_is | rfl, by first | k_is | rfl, by first | k_is | rfl, by first | k_is | rfl⟩
    case und_S9 => exact ⟨by first | k_is | rfl, by first | k_is | rfl, by first | k_is | rfl, by first | k_is | rfl, by first | k_is | rfl, by first | k_is | rfl, by first | k_is | rfl, by first | k_is | rfl, by first | k_is | rfl, by first | k_is | rfl, by first | k_is | rfl, by first | k_is | rfl, by first | k_is | rfl, by first | k_is | rfl, by first | k_is | rfl, by first | k_is | rfl⟩
    case und_S10 => exact ⟨by first | k_is | rfl, by first | k_is | rfl, by first | k_is | rfl, by first | k_is | rfl, by first | k_is | rfl, by first | k_is | rfl, by first | k_is | rfl, by first | k_is | rfl, by first | k_is | rfl, by first | k_is | rfl, by first | k_is | rfl, by first | k_is | rfl, by first | k_is | rfl, by first | k_is | rfl, by first | k_is | rfl, by first | k_is | rfl⟩
    case und_S11 => exact ⟨by first | k_is | rfl, by first | k_is | rfl, by first | k_is | rfl, by first | k_is | rfl, by first | k_is | rfl, by first | k_is | rfl, by first | k_is | rfl, by first | k_is | rfl, by first | k_is | rfl, by first | k_is | rfl, by first | k_is | rfl, by first | k_is | rfl, by first | k_is | rfl, by first | k_is | rfl, by first | k_is | rfl, by first | k_is | rfl⟩
    case und_S12 => exact ⟨by first | k_is | rfl, by first | k_is | rfl, by first | k_is | rfl, by first | k_is | rfl, by first | k_is | rfl, by first | k_is | rfl, by first | k_is | rfl, by first | k_is | rfl, by first | k_is | rfl, by first | k_is | rfl, by first | k_is | rfl, by first | k_is | rfl, by first | k_is | rfl, by first | k_is | rfl, by first | k_is | rfl, by first | k_is | rfl⟩
    case und_z0 => k_is
    case und_z1 => k_is
    case und_z2 => k_is
    case und_z3 => k_is
    case und_z4 => k_is
    case und_z5 => k_is
    case und_z6 => k_is
    case und_z7 => k_is
    case und_z8 => k_is
    case und_z9 => k_is
    case und_z10 => k_is
    case und_F0 => refine' L2.Und.mkF ?d0a ?d0l ?d0c ?d0k; (case d0a => k_is); (case d0l => k_is); (case d0c => k_is); (case d0k => k_is)
    case und_F1 => refine' L2.Und.mkF ?d1a ?d1l ?d1c ?d1k; (case d1a => k_is); (case d1l => k_is); (case d1c => k_is); (case d1k => k_is)
    case und_F2 => refine' L2.Und.mkF ?d2a ?d2l ?d2c ?d2k; (case d2a => k_is); (case d2l => k_is); (case d2c => k_is); (case d2k => k_is)
    case und_F3 => refine' L2.Und.mkF ?d3a ?d3l ?d3c ?d3k; (case d3a => k_is); (case d3l => k_is); (case d3c => k_is); (case d3k => k_is)
    case und_F4 => refine' L2.Und.mkF ?d4a ?d4l ?d4c ?d4k; (case d4a => k_is); (case d4l => k_is); (case d4c => k_is); (case d4k => k_is)
    case und_F5 => refine' L2.Und.mkF ?d5a ?d5l ?d5c ?d5k; (case d5a => k_is); (case d5l => k_is); (case d5c => k_is); (case d5k => k_is)
    case und_F6 => refine' L2.Und.mkF ?d6a ?d6l ?d6c ?d6k; (case d6a => k_is); (case d6l => k_is); (case d6c => k_is); (case d6k => k_is)
    case und_F7 => refine' L2.Und.mkF ?d7a ?d7l ?d7c ?d7k; (case d7a => k_is); (case d7l => k_is); (case d7c => k_is); (case d7k => k_is)
    case und_b7 => exact fun s v => .of_eq rfl
#print axioms PySem.Challenge.cw_undoamid_k01_errors_and_their_attributes_holds
end
