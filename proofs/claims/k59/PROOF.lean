import PyProof.Rows.All
import Wide.All
import OpenK.AllK
import Wide.FinOn
import KE.OsRunLaw
import HandS.ForMost
import HandS.ForExc
import HandS.ExcInit
import HandS.IsInst
import PyProof.ExcBaseAll.LookupError
import PyProof.ExcBaseAll.ValueError
import HandS.MakeKw
import HandS.ExcIs
import HandS.ExcValue
import PyProof.ReprRoads
import HandS.Wide
import HandS.Style
import HandS.Walk
import HandS.Codes
import HandS.ExcField
import HandS.TupSets
import HandS.SetBool
import KE.SortData
import PyProof.TupleOfSeq
import HandS.DictComp
import KE.GoesEnum
import HandS.TupAny
import HandS.Defaults
import HandS.OwnEq
import HandS.More
import KE.KCallOwn
import KE.KOpsOwn
import PyProof.InstNe
import HandS.FStr
import HandS.Deep
import PyProof.ReprLen
import PyProof.CallFns
import HandS.List
import HandS.Star
import KE.KExcIs
import PySem.Str
import KE.DataMinMax
import HandS.SortKw
import HandS.CallLocal
import PyProof.Conv_bool
import PyProof.Rows.TupMore
import PyProof.Rows.Range3
import KE.KRevSl
import HandS.Small
import HandS.ClsMeth
import HandS.RaiseMore
import HandS.TryOnly
import PySem.Challenge.RW_undoamid_k59_exchangeable_versions
section
open PySem PySem.W PyProof.Rows
set_option Elab.async false
set_option maxRecDepth 100000
set_option maxHeartbeats 0
/-! the program's top, by one kernel run a look, ahead of all else (a run's memory is given back before the next one): each of the looks behind the top is asked of a run of its own -/
namespace UndTop
open HeadRun PySem.Calls
section
variable {p q : Program} {loose : List PySem.Str} {Xt : Shared → Bool} {M : Nat}
/-- one look behind the top -/
abbrev LookAt {β : Type} (p : Program) (M : Nat) (f : Shared → β) (b : β) : Prop := ∀ (w : World) (os : OsState), (endF (stepQ (denQ tabQ) p w) M p w os).map (fun s => f s.abs) = some b
theorem LookAt.of {β : Type} {f : Shared → β} {b : β} (h : LookAt p M f b) {w : World} {os : OsState} {s : SharedT} (e : endF (stepQ (denQ tabQ) p w) M p w os = some s) : f s.abs = b := by
  have := h w os
  rw [e] at this
  exact Option.some.inj this
theorem left_parts {K : Params → Frag} {as : List Addr} {ek : ∀ P, as = (K P).map (·.1)} {N : Nat} (vw : Program) (lo : List PySem.Str) (xt : Shared → Bool)
    (e : opening p = plainProg p.main.scope.names) (hN : Nat.ble 600 N = true) (f : ∀ s, fenceModules? p s = some s) (le : Nat.ble M N = true) (hq : q = vw) (hl : loose = lo) (hx : Xt = xt)
    (g1 : LookAt p M (fun s => PySem.W.Fast.tw5160383126252970620 (PySem.W.R.mapR (fun x => x.name) (PySem.W.Fast.tw3399658132070893891 vw)) (PySem.W.Fast.tw5991557255702980513 vw) [] { heap := s.heap, drawn := s.drawn, toks := s.toks, os := s.os }) (expectedOf vw))
    (g2 : LookAt p M (fun s => (s.heap.bltView, PySem.W.Fast.tw11698064438423848299 vw lo s, PySem.W.Fast.tw7317090234206586261 vw s, PySem.W.Fast.tw7369524293546568484 vw lo s)) ((bltViewBooted, plainGoodD vw lo, wideGood vw, clsGoodW vw lo)))
    (g3 : LookAt p M (fun s => ((PySem.W.Fast.tw10880121769531294198 s.heap (PySem.W.Fast.tw821141287760084731 vw lo) (PySem.W.R.mapR (fun x => x.name) (PySem.W.Fast.tw3399658132070893891 vw)) (PySem.W.R.mapR (fun x => x.fst) (PySem.W.Fast.tw7409074990110511671 vw)) (PySem.W.R.mapR (fun x => x.name) (PySem.W.Fast.tw13664370479719496447 vw (PySem.W.Fast.tw821141287760084731 vw lo))) && PySem.W.Fast.tw14722251495701143533 s.heap (importedModules p.main.body) && s.heap.isNs PySem.mainGlobals && s.heap.isNs PySem.builtinsNs && PySem.W.Fast.tw10994771534591457954 vw s.heap && xt s && s.gens.size == 0), PySem.W.Fast.tw16090120013241838585 vw (PySem.W.Fast.tw3247288618530077131 vw) s)) ((true, pinGoodD (drecsOf vw))))
    (g4 : LookAt p M (fun s => PySem.W.Fast.tw479339242167458305 vw s) (true))
    (g5 : LookAt p M (fun s => PySem.W.Fast.tw2386780881361962483 vw (PySem.W.Fast.tw821141287760084731 vw lo) s) (plainGoodE vw (looseW vw lo)))
    (run : ∀ (w : World) (os : OsState), (endF (stepQ (denQ tabQ) p w) M p w os).map (fun s => (looksF p (boot_heap w.params) s.abs, as.map (getT s))) = some (true, (K w.params).map fun x => some x.2)) :
    LeftO p q loose Xt (Hook.obs (kHook K as ek)) (Hook.val (kHook K as ek)) N true := by
  subst hq hl hx
  refine left_oneK (M := M) e hN f le fun w os => ?_
  cases E : endF (stepQ (denQ tabQ) p w) M p w os with
  | none =>
    have := run w os
    rw [E] at this
    cases this
  | some s =>
    have r := run w os
    rw [E] at r
    have r2 := Option.some.inj r
    have a1 := (Prod.mk.inj r2).1
    have a2 := (Prod.mk.inj r2).2
    refine congrArg some (Prod.ext a1 (Prod.ext ?_ a2))
    have h1 := g1.of E
    obtain ⟨h2, h789⟩ := Prod.mk.inj (g2.of E)
    obtain ⟨h7, h89⟩ := Prod.mk.inj h789
    obtain ⟨h8, h9⟩ := Prod.mk.inj h89
    obtain ⟨h3, h5⟩ := Prod.mk.inj (g3.of E)
    exact Prod.ext h1 (Prod.ext h2 (Prod.ext h3 (Prod.ext (g4.of E) (Prod.ext h5 (Prod.ext (g5.of E) (Prod.ext h7 (Prod.ext h8 h9)))))))
end
end UndTop
namespace UndTop
open HeadRun PySem.Calls
abbrev pg : Program := PySem.Challenge.pw_undoamid_k59_exchangeable_versions
def vw : Program := PySem.W.view pg [0, 2, 3, 4, 5, 6, 7, 8, 9, 11, 12, 13, 14, 15, 16, 17, 19, 20, 21, 22, 23, 24, 25, 26, 27, 29, 30, 31, 32, 33, 35, 36, 37, 38, 39, 40, 41, 42, 43, 44, 45, 46, 47, 48, 49, 51, 53, 54, 55, 56, 57, 58, 59, 60, 61, 62, 63, 64, 65, 66, 67, 68, 69]
def lo : List PySem.Str := [PySem.Str.ofString "PIECE", PySem.Str.ofString "Table", PySem.Str.ofString "Row", PySem.Str.ofString "Version"]
def xt : Shared → Bool := fun s => xlAt vw [(PySem.Str.ofString "PIECE", WData.int 10000000000000000000000000000000000000000000000000000000000000000)] s && recOk PySem.Challenge.rw_undoamid_k59_exchangeable_versions.row.records s
theorem look1 : LookAt pg 12430 (fun s => PySem.W.Fast.tw5160383126252970620 (PySem.W.R.mapR (fun x => x.name) (PySem.W.Fast.tw3399658132070893891 vw)) (PySem.W.Fast.tw5991557255702980513 vw) [] { heap := s.heap, drawn := s.drawn, toks := s.toks, os := s.os }) (expectedOf vw) := by
  intro w os
  kernel_rfl
theorem look2 : LookAt pg 12430 (fun s => (s.heap.bltView, PySem.W.Fast.tw11698064438423848299 vw lo s, PySem.W.Fast.tw7317090234206586261 vw s, PySem.W.Fast.tw7369524293546568484 vw lo s)) ((bltViewBooted, plainGoodD vw lo, wideGood vw, clsGoodW vw lo)) := by
  intro w os
  kernel_rfl
theorem look3 : LookAt pg 12430 (fun s => ((PySem.W.Fast.tw10880121769531294198 s.heap (PySem.W.Fast.tw821141287760084731 vw lo) (PySem.W.R.mapR (fun x => x.name) (PySem.W.Fast.tw3399658132070893891 vw)) (PySem.W.R.mapR (fun x => x.fst) (PySem.W.Fast.tw7409074990110511671 vw)) (PySem.W.R.mapR (fun x => x.name) (PySem.W.Fast.tw13664370479719496447 vw (PySem.W.Fast.tw821141287760084731 vw lo))) && PySem.W.Fast.tw14722251495701143533 s.heap (importedModules pg.main.body) && s.heap.isNs PySem.mainGlobals && s.heap.isNs PySem.builtinsNs && PySem.W.Fast.tw10994771534591457954 vw s.heap && xt s && s.gens.size == 0), PySem.W.Fast.tw16090120013241838585 vw (PySem.W.Fast.tw3247288618530077131 vw) s)) ((true, pinGoodD (drecsOf vw))) := by
  intro w os
  kernel_rfl
theorem look4 : LookAt pg 12430 (fun s => PySem.W.Fast.tw479339242167458305 vw s) (true) := by
  intro w os
  kernel_rfl
theorem look5 : LookAt pg 12430 (fun s => PySem.W.Fast.tw2386780881361962483 vw (PySem.W.Fast.tw821141287760084731 vw lo) s) (plainGoodE vw (looseW vw lo)) := by
  intro w os
  kernel_rfl
local macro_rules | `(tactic| k_head) => `(tactic| k_headL)
local macro_rules | `(tactic| refine $f:ident (M := $m) $x $y $z $t ?_) => `(tactic| refine left_parts (M := $m) vw lo xt $x $y $z $t (by kernel_rfl) (by kernel_rfl) (by kernel_rfl) look1 look2 look3 look4 look5 ?_)
open_top top for PySem.Challenge.rw_undoamid_k59_exchangeable_versions
end UndTop
end

section
set_option Elab.async false
set_option linter.all false
set_option maxRecDepth 100000
set_option maxHeartbeats 4000000
namespace Und
open PySem PySem.F PySem.W PySem.HandSPX Builtin Builtin.ObjectAttr
/-- an own class over an exception class of the machine, by what is asked of its chain -/
structure Above (B : String) (bm : List Value) : Prop where
  own : bm.contains (.type B) = true
  att : bm.contains (.type "AttributeError") = false
  nam : bm.contains (.type "NameError") = false
section
variable {prog : Program} {w : World} {M : Model} {A : Around} {E : Value → Shared → Prop} {R : Result → Shared → Prop}
variable {h : Heap} {g : Array GenState} {d : Drawn} {t : Nat} {os : OsState}
variable {nm q : Str} {C N : Addr} {bs bm bmB : List Value} {hdct : Bool} {sn : List Str} {sub : List Value} {ab : Bool} {col : Option Bool}
variable {dd : Option Addr} {k0 k1 k2 k3 k5 : Option Value} {B newId initId : String}
theorem newCheck (F : ExcBaseFacts B newId initId bmB) (T : Above B bm) {args : List Value} {kw : List (Str × Value)} {Q : Unit → Shared → Prop}
    (hC : h.get? C = some (excClassObj nm q C N bs bm hdct sn sub ab col dd k0 k1 k2 k3 k5 newId)) (hq : Q () ⟨h, g, d, t, os⟩) :
    wpAny M A (checkBuiltinCall newId ⟨.ref C :: args, kw⟩) Q E ⟨h, g, d, t, os⟩ := by
  have z1 : (Value.ref C :: bm).contains (.type B) = true := by rw [List.contains_cons, T.own, Bool.or_true]
  have z2 := F.noStar
  simp only [checkBuiltinCall, F.newKind, F.newSplit, F.newRow]
  repeat (first
    | refine wpAny_loadPart_at hC ?_
    | (refine wpAny_isSubtype_exc hC ?_; rw [z1])
    | refine wpAny_staticBase_exc hC ?_
    | refine wpAny_madeBy_exc hC ?_
    | simp only [bne_self_eq_false, Bool.false_eq_true, if_false]
    | wp_step)
  exact hq
theorem newMade (F : ExcBaseFacts B newId initId bmB) (T : Above B bm) {args : List Value} {kw : List (Str × Value)}
    (hC : h.get? C = some (excClassObj nm q C N bs bm hdct sn sub ab col dd k0 k1 k2 k3 k5 newId)) (hz : args.length ≤ sizeLine)
    (hq : R (.ok (.ret (.ref (h.objs.size + 1)))) ⟨(h.push (kdv_tup args)).push (excO C h.objs.size), g, d, t, os⟩) :
    codeAny (model prog w) A (.builtin newId ⟨.ref C :: args, kw⟩) R ⟨h, g, d, t, os⟩ := by
  have zE := F.ends
  have zB : (Value.ref C :: bm).contains (.type B) = true := by rw [List.contains_cons, T.own, Bool.or_true]
  have zA : (Value.ref C :: bm).contains (.type "AttributeError") = false := by rw [List.contains_cons, T.att]; rfl
  have zN : (Value.ref C :: bm).contains (.type "NameError") = false := by rw [List.contains_cons, T.nam]; rfl
  refine codeAny_builtinAt F.entry ?_
  unfold Builtin.«BaseException.__new__»
  refine wpAt_bind ?_
  show wpAt _ _ _ (stack >>= _) _ _ _
  refine wpAt_bind (wpAt_stack fun p below => wpAt_of_wpAny ?_)
  wp_walk
  refine wpAt_of_wpAny ?_
  rw [F.owner]
  repeat (first
    | with_reducible refine wpAny_madeHere_exc F.canon hC ?_
    | with_reducible refine wpAny_loadPart_at hC ?_
    | (with_reducible refine wpAny_isSubtype_exc hC ?_; first | rw [zB] | rw [zA] | rw [zN])
    | wp_step)
  show R _ _
  rw [Heap.size_push]
  exact hq
theorem typeCall (F : ExcBaseFacts B newId initId bmB) (T : Above B bm) {args : List Value} {kw : List (Str × Value)} {fI : Addr} {Q : Fin → Shared → Prop}
    (hC : h.get? C = some (excClassObj nm q C N bs bm hdct sn sub ab col dd k0 k1 k2 k3 k5 newId)) (hz : args.length ≤ sizeLine)
    (look : Looks (model prog w) h (typeLookup (.ref C) "__init__") (some (.ref fI)))
    (bnd : ∀ self, Looks (model prog w) h (bindSpecial (.ref fI) self) (.ref fI, [self]))
    (hq : codeAny (model prog w) A (.call (.ref fI) ⟨.ref (h.objs.size + 1) :: args, kw⟩)
      (fun r s' => match r with
        | .ok (.ret v) => v = .none ∧ Q (.done (.ret (.ref (h.objs.size + 1)))) s'
        | .ok _ => False
        | .error e => E e s')
      ⟨(h.push (kdv_tup args)).push (excO C h.objs.size), g, d, t, os⟩) :
    wpAny (model prog w) A (Builtin.«type.__call__» ⟨.ref C :: args, kw⟩) Q E ⟨h, g, d, t, os⟩ := by
  repeat (first
    | with_reducible refine wpAny_loadPart_at hC ?_
    | with_reducible refine wpAny_madeBy_exc hC ?_
    | wp_step)
  refine codeAny_call_builtin_code (Code.quiet_builtin _ F.quiet) (newCheck F T hC ?_)
  refine newMade F T hC hz ?_
  show wpAny _ _ _ _ _ _
  have up : ∀ b o, h.get? b = some o → ((h.push (kdv_tup args)).push (excO C h.objs.size)).get? b = some o :=
    fun b o e => Heap.get?_push_of_some _ (Heap.get?_push_of_some _ e)
  have c1 := up _ _ hC
  have c2 : ((h.push (kdv_tup args)).push (excO C h.objs.size)).get? (h.objs.size + 1) = some (excO C h.objs.size) := by heap_get
  have c3 : (Value.ref C :: bm).contains (.ref C) = true := by simp
  have c4 := look.keeps up
  have c5 := (bnd (.ref (h.objs.size + 1))).keeps up
  unfold isInstance
  repeat (first
    | with_reducible refine wpAny_loadPart_at c2 ?_
    | (with_reducible refine wpAny_isSubtype_exc c1 ?_; rw [c3])
    | wp_step)
  show wpAny _ _ (typeLookup (.ref C) _) _ _ _
  refine c4.at ?_
  refine wpAny_holding (wpAny_bind (c5.at ?_))
  refine wpAny_bind (wpAny_call (codeAny_mono hq fun r s' z => ?_))
  rcases r with e | (v | _ | _ | _) <;> first | exact z | exact z.elim | skip
  obtain ⟨rfl, z⟩ := z
  first
    | exact wpAny_pure (wpAny_pure z)
    | (wp_walk; exact z)
theorem madeBy (F : ExcBaseFacts B newId initId bmB) (T : Above B bm) {args : List Value} {kw : List (Str × Value)} {fI : Addr}
    (hC : h.get? C = some (excClassObj nm q C N bs bm hdct sn sub ab col dd k0 k1 k2 k3 k5 newId)) (hz : args.length ≤ sizeLine)
    (look : Looks (model prog w) h (typeLookup (.ref C) "__init__") (some (.ref fI)))
    (bnd : ∀ self, Looks (model prog w) h (bindSpecial (.ref fI) self) (.ref fI, [self]))
    (hq : codeAny (model prog w) (A.under (.builtin "type.__call__" ⟨.ref C :: args, kw⟩)) (.call (.ref fI) ⟨.ref (h.objs.size + 1) :: args, kw⟩)
      (InitBack (h.objs.size + 1) R) ⟨(h.push (kdv_tup args)).push (excO C h.objs.size), g, d, t, os⟩) :
    codeAny (model prog w) A (.call (.ref C) ⟨args, kw⟩) R ⟨h, g, d, t, os⟩ := by
  have f1 := tc_lookup
  have f2 := tc_bind (.ref C)
  have ty : (⟨h, g, d, t, os⟩ : Shared).TypeIs (.ref C) "type" := ⟨_, hC, rfl⟩
  refine codeAny_of_tree ?_
  show wpAny _ _ (callAny (.ref C) _) _ _ _
  repeat (any_goals (first
    | assumption
    | with_reducible refine wpAny_loadPart_at hC ?_
    | wp_step))
  refine ⟨rfl, ?_⟩
  refine codeAny_call_builtin_at (Code.quiet_builtin _ (by decide +kernel)) entry_typeCall ?_
  refine wpAny_check_type_call_sub hC (typeCall F T hC hz look bnd ?_)
  refine codeAny_mono hq fun r s' z => ?_
  rcases r with e | (v | _ | _ | _) <;> exact z
end
end Und
end

section
set_option Elab.async false
set_option linter.all false
set_option maxRecDepth 100000
set_option maxHeartbeats 4000000
namespace Und
open PySem PySem.F PySem.W PySem.HandSPX Builtin Builtin.ObjectAttr
/-- a chain of classes along which nothing keeps a store away -/
structure Opens (l : List Value) : Prop where
  full : l.isEmpty = false
  obj : l.contains (.type "object") = true
  pass : ∀ self, refuseLoop self "__setattr__" l = pure ()
theorem Opens.ref {C : Addr} {l : List Value} (x : Opens l) : Opens (.ref C :: l) :=
  ⟨rfl, by rw [List.contains_cons, x.obj, Bool.or_true], fun self => by rw [refuseLoop_ref]; exact x.pass self⟩
theorem opens_VE : Opens veTail := ⟨rfl, by decide +kernel, fun self => F.store_ValueError.passes self⟩
abbrev keTail : List Value := [.type "KeyError", .type "LookupError", .type "Exception", .type "BaseException", .type "object"]
theorem opens_KE : Opens keTail := ⟨rfl, by decide +kernel, fun self => by kernel_rfl⟩
section
variable {prog : Program} {w : World} {M : Model} {A : Around} {E : Value → Shared → Prop} {R : Result → Shared → Prop}
variable {hp : Heap} {g : Array GenState} {d : Drawn} {t : Nat} {os : OsState} {K : Frag} {f : Str} {tk : Tok} {v : Value} {x C : Addr} {fv : Array Value} {cd : ClassData}
theorem putFirst (X : K.In hp) (hx : hp.get? x = some { cls := .ref C, data := .fields fv }) (hcd : clsIn K C = some cd) (hm : Opens cd.mro) (hh : cd.hasDict = true) (no : findIn K (.ref C) f = some none)
    (hq : ∀ h' tk' dx, (∀ b o, b ≠ x → hp.get? b = some o → h'.get? b = some o) → hp.objs.size ≤ dx → dx ≠ x →
      h'.get? x = some { cls := .ref C, dict := some dx, data := .fields fv } → h'.Ns1 dx (fun y => if y = f then some v else none) → R (.ok (.ret .none)) ⟨h', g, d, tk', os⟩) :
    codeAny (model prog w) A (.call (.builtin "object.__setattr__") ⟨[.ref x, .str f tk, v], []⟩) R ⟨hp, g, d, t, os⟩ := by
  have I : InstAt hp x { cls := .ref C, data := .fields fv } C none := ⟨hx, rfl, rfl, trivial⟩
  have S := F.store_object
  have xs : x ≠ hp.objs.size := Nat.ne_of_lt (Heap.lt_size hx)
  have isO : Looks (model prog w) hp (isInstance (.ref x) (.type "object")) true := by
    refine I.type.andThen (looks_mroIn X ?_)
    unfold mroIn
    rw [hcd, Option.bind_some, if_neg (by rw [hm.full]; decide), hm.obj]
  refine codeAny_call_builtin S.slot.plain S.entry ?_
  refine @check_slot (model prog w) _ _ ⟨hp, g, d, t, os⟩ "object.__setattr__" "object" "__setattr__" (.ref x) [.str f tk, v] [] _ S.kind S.split isO (S.args (.ref x) (.str f tk) v) ?_
  have c1 : Looks (model prog w) hp (mroOf (.ref C)) cd.mro := (looks_clsIn X hcd).andThen .now
  have c2 : Looks (model prog w) hp (storeTaker? none) none := .now
  have c3 : Looks (model prog w) hp (classData C) cd := looks_clsIn X hcd
  rw [osa_eq, refuse_eq]
  refine wpAny_bind (wpAny_bind (I.type.at (wpAny_bind (c1.at ?_))))
  rw [hm.pass]
  refine wpAny_pure (wpAny_bind (I.type.at (wpAny_bind ((looks_findIn X no).at (wpAny_bind (c2.at ?_))))))
  show wpAny _ _ (storeInOwnDict (.ref x) (.ref C) (.str f tk) f v false) _ _ _
  obtain ⟨nm, bs, mro, ns, qn, hd, sn, sb, ab, col, del⟩ := cd
  dsimp only at hh
  subst hh
  unfold storeInOwnDict ownDictForStores
  repeat (first
    | with_reducible refine store_in_new ?_ ?_
    | with_reducible refine wpAny_loadPart_at hx ?_
    | with_reducible refine c3.at ?_
    | wp_step)
  · refine ⟨_, #[], _, (Heap.get?_update_ne _ _ _ _ xs.symm).trans (Heap.get?_push_at rfl rfl), rfl, ?_, fun _ => rfl⟩
    exact fun e he => absurd he (by simp)
  · intro h' tk' hn' hs
    have hx1 : (hp.push { cls := .type "dict", data := .dict #[] }).get? x = some { cls := .ref C, data := .fields fv } := Heap.get?_push_of_some _ hx
    refine hq h' tk' hp.objs.size (fun b o hb ho => ?_) (Nat.le_refl _) xs.symm ?_ hn'
    · exact (hs.2 b (Nat.ne_of_lt (Heap.lt_size ho))).trans ((Heap.get?_update_ne _ _ _ _ hb).trans (Heap.get?_push_of_some _ ho))
    · exact (hs.2 x xs).trans (Heap.get?_update_self _ hx1 rfl)
theorem putMore {dx : Addr} {m0 : Str → Option Value} {nl : List Str} (X : K.In hp) (hx : hp.get? x = some { cls := .ref C, dict := some dx, data := .fields fv })
    (hns : hp.Ns1 dx m0) (hw : Within m0 nl) (hz : nl.length ≤ 1000) (hcd : clsIn K C = some cd) (hm : Opens cd.mro) (hh : cd.hasDict = true) (no : findIn K (.ref C) f = some none)
    (hq : ∀ h' tk', (∀ b o, b ≠ dx → hp.get? b = some o → h'.get? b = some o) → h'.Ns1 dx (fun y => if y = f then some v else m0 y) → R (.ok (.ret .none)) ⟨h', g, d, tk', os⟩) :
    codeAny (model prog w) A (.call (.builtin "object.__setattr__") ⟨[.ref x, .str f tk, v], []⟩) R ⟨hp, g, d, t, os⟩ := by
  obtain ⟨oD, esD, epD, hoD, hdD, _⟩ := hns.count hw
  have I : InstAt hp x { cls := .ref C, dict := some dx, data := .fields fv } C (some oD) := ⟨hx, rfl, rfl, hoD⟩
  have S := F.store_object
  have isO : Looks (model prog w) hp (isInstance (.ref x) (.type "object")) true := by
    refine I.type.andThen (looks_mroIn X ?_)
    unfold mroIn
    rw [hcd, Option.bind_some, if_neg (by rw [hm.full]; decide), hm.obj]
  refine codeAny_call_builtin S.slot.plain S.entry ?_
  refine @check_slot (model prog w) _ _ ⟨hp, g, d, t, os⟩ "object.__setattr__" "object" "__setattr__" (.ref x) [.str f tk, v] [] _ S.kind S.split isO (S.args (.ref x) (.str f tk) v) ?_
  have c1 : Looks (model prog w) hp (mroOf (.ref C)) cd.mro := (looks_clsIn X hcd).andThen .now
  have c2 : Looks (model prog w) hp (storeTaker? none) none := .now
  have c3 : Looks (model prog w) hp (classData C) cd := looks_clsIn X hcd
  rw [osa_eq, refuse_eq]
  refine wpAny_bind (wpAny_bind (I.type.at (wpAny_bind (c1.at ?_))))
  rw [hm.pass]
  refine wpAny_pure (wpAny_bind (I.type.at (wpAny_bind ((looks_findIn X no).at (wpAny_bind (c2.at ?_))))))
  show wpAny _ _ (storeInOwnDict (.ref x) (.ref C) (.str f tk) f v false) _ _ _
  obtain ⟨nm, bs, mro, ns, qn, hd, sn, sb, ab, col, del⟩ := cd
  dsimp only at hh
  subst hh
  unfold storeInOwnDict ownDictForStores
  repeat (first
    | with_reducible refine PySem.OEX.store_in_old hns hw hz ?_
    | with_reducible refine wpAny_loadPart_at hx ?_
    | with_reducible refine c3.at ?_
    | wp_step)
  intro h' tk' hn' hs
  exact hq h' tk' (fun b o hb ho => (hs.2 b hb).trans ho) hn'
end
end Und
end

section
set_option Elab.async false
set_option linter.all false
set_option maxRecDepth 100000
set_option maxHeartbeats 4000000
namespace L2.Und
open PySem PySem.Spec PyProof.Rows _root_.Und
open PySem.W (findIn keepIn subIn hasDictIn specialIn takesIn mroIn clsIn)
/-- what the written part says of an own exception class -/
structure ErrC (K : PySem.W.Frag) (C : Addr) : Prop where
  cls : ∃ B newId initId bmB nm q N bs bm sn sub ab col dd k0 k1 k2 k3 k5,
    ExcBaseFacts B newId initId bmB ∧ Above B bm ∧ Opens bm ∧ K.lookup C = some (excClassObj nm q C N bs bm true sn sub ab col dd k0 k1 k2 k3 k5 newId)
  keep : keepIn K (.ref C) = true
  sa : findIn K (.ref C) "__setattr__" = some (some (.builtin "object.__setattr__"))
  ga : findIn K (.ref C) "__getattribute__" = some (some (.builtin "BaseException.__getattribute__"))
  gg : findIn K (.ref C) "__getattr__" = some none
  exc : subIn K (.ref C) (.type "BaseException") = some true
  dct : hasDictIn K C = true
  kls : findIn K (.ref C) "__class__" = some (some (.builtin "object.__class__"))
  obj : mroIn K C (.type "object") = some true
/-- what is the same for all of them -/
structure ErrG (K : PySem.W.Frag) : Prop where
  get : specialIn K (.builtin "object.__class__") "__get__" = some (some (.builtin "getset_descriptor.__get__"))
  tak : takesIn K (.builtin "object.__class__") = some true
theorem ErrC.data {K : PySem.W.Frag} {C : Addr} (T : ErrC K C) : ∃ cd, clsIn K C = some cd ∧ Opens cd.mro ∧ cd.hasDict = true := by
  obtain ⟨B, newId, initId, bmB, nm, q, N, bs, bm, sn, sub, ab, col, dd, k0, k1, k2, k3, k5, F, U, O, l⟩ := T.cls
  refine ⟨{ name := nm, bases := bs, mro := .ref C :: bm, ns := N, qualname := q, hasDict := true, slotNames := sn, subclasses := sub, abstract := ab, collection := col, hasDel := false }, ?_, O.ref, rfl⟩
  unfold PySem.W.clsIn
  rw [l] <;> rfl
section
variable {X : Cx} {pins : List (Addr × Obj)} {σ : St} {H : Hp} {s : Shared} {a C dx : Addr} {f : Str} {y : V} {u : Value} {fs : List (Str × V)}
variable {Q : Unit → Shared → Prop} {E : Value → Shared → Prop} {A : Around}
/-- self.f = y, the first store -/
theorem put1 (T : ErrC X.K C) (I : Inv X pins σ H s) (e : H a = some (exo a C none)) (no : findIn X.K (.ref C) f = some none) (ry : RelV y u)
    (h : ∀ dx s', H dx = none → dx ≠ a → Inv X pins σ (upd (upd H dx (exd dx [(f, y)])) a (exo a C (some dx))) s' → Q () s') :
    wpAny (model X.prog X.w) A (setAttr (.ref a) f u) Q E s := by
  obtain ⟨cd, hcd, hO, hD⟩ := T.data
  obtain ⟨t1, ho⟩ := exo_at I.hok e
  obtain ⟨hp, g, d, t, os⟩ := s
  refine PySem.W.set_plain I.kIn (ox := { cls := .ref C, dict := none, data := .fields #[.ref t1, .none, .none, .none, .bool false, .none] }) (od := none) ⟨ho, rfl, rfl, trivial⟩ T.sa ?_
  refine putFirst I.kIn ho hcd hO hD no fun h' tk' dx k dn dne hx hn => ?_
  have nd : H dx = none := I.hok.fresh dn
  have old : ∀ {b : Addr} {o : Obj}, hp.get? b = some o → b ≠ dx := fun {b o} z => Nat.ne_of_lt (Nat.lt_of_lt_of_le (Heap.lt_size z) dn)
  have off : ∀ {b : Addr}, H b = none → b ≠ a := fun {b} n z => by
    rw [z, e] at n
    cases n
  have U : Un X.fs [] H (upd (upd H dx (exd dx [(f, y)])) a (exo a C (some dx))) hp h' := by
    refine ⟨fun b o z n _ _ => k b o (off n) z, fun b o z n _ _ => ⟨o.slots, k b o (off n) z⟩, fun b o z n _ => ?_, fun b o z _ => ?_, fun b xs z => ?_, fun b o v z => ?_, fun b ps z => ⟨#[], ?_⟩⟩
    · rw [upd_ne (off n), upd_ne (old z)]
      exact n
    · by_cases hb : b = a
      · exact ⟨_, hb ▸ hx⟩
      · exact ⟨o, k b o hb z⟩
    · rw [upd_ne (at_ne e z exo_tup), upd_ne (ne_of_none z nd)]
      exact z
    · rw [upd_ne (at_ne e z exo_frz), upd_ne (ne_of_none z nd)]
      exact z
    · rw [upd_ne (at_ne e z exo_tbl), upd_ne (ne_of_none z nd), z]
      simp
  refine h dx _ nd dne (I.un (t' := tk') U fun b o z => ?_)
  by_cases hb : b = a
  · subst hb
    rw [upd_same] at z
    cases z
    exact exo_ok hx
  · rw [upd_ne hb] at z
    by_cases hd : b = dx
    · subst hd
      rw [upd_same] at z
      cases z
      exact exd_ok hn (relO_put (fs := []) ry fun _ => True.intro)
    · rw [upd_ne hd] at z
      refine (I.hok b o z).stay (fun c v hc r => k c v ?_ r) (fun c hc => ?_) fun c xs hc => ?_
      · rcases hc with hc | hc
        · exact hc ▸ hb
        · exact at_ne e hc exo_own
      · rw [upd_ne (at_ne e hc exo_own), upd_ne (ne_of_none hc nd)]
        exact hc
      · rw [upd_ne (at_ne e hc exo_tup), upd_ne (ne_of_none hc nd)]
        exact hc
/-- self.f = y, a further store -/
theorem put2 (T : ErrC X.K C) (I : Inv X pins σ H s) (e : H a = some (exo a C (some dx))) (ed : H dx = some (exd dx fs)) (hl : fs.length ≤ 900)
    (no : findIn X.K (.ref C) f = some none) (ry : RelV y u) (h : ∀ s', Inv X pins σ (upd H dx (exd dx ((f, y) :: fs))) s' → Q () s') :
    wpAny (model X.prog X.w) A (setAttr (.ref a) f u) Q E s := by
  obtain ⟨cd, hcd, hO, hD⟩ := T.data
  obtain ⟨t1, ho⟩ := exo_at I.hok e
  obtain ⟨mA, hns, rel⟩ := exd_at I.hok ed
  have hw := within_of rel
  obtain ⟨hp, g, d, t, os⟩ := s
  obtain ⟨oD, _, _, hoD, _, _⟩ := hns.count hw
  refine PySem.W.set_plain I.kIn (ox := { cls := .ref C, dict := some dx, data := .fields #[.ref t1, .none, .none, .none, .bool false, .none] }) (od := some oD) ⟨ho, rfl, rfl, hoD⟩ T.sa ?_
  refine putMore I.kIn ho hns hw (by rw [List.length_map]; omega) hcd hO hD no fun h' tk' k hn => ?_
  have there : ∃ o, h'.get? dx = some o := by
    obtain ⟨o, _, _, z, _⟩ := hn
    exact ⟨o, z⟩
  exact h _ (I.write (t' := tk') (x := dx) (e := dx) (o := exd dx ((f, y) :: fs)) (by rw [ed]; exact True.intro) (.inl rfl) k there (exd_ok hn (relO_put ry rel)))
end
/-- o.f = e, o such an exception -/
def tPut (K : PySem.W.Frag) (f : Str) (to te : TE) : TS := fun D σ H => te σ H fun y H1 => to σ H1 fun x H2 => ∃ a C : Addr, x = .ref a ∧ ErrC K C ∧ findIn K (.ref C) f = some none ∧
  ((H2 a = some (exo a C none) ∧ ∀ dx, H2 dx = none → dx ≠ a → D.nx σ (upd (upd H2 dx (exd dx [(f, y)])) a (exo a C (some dx)))) ∨
    ∃ (dx : Addr) (fs : List (Str × V)), H2 a = some (exo a C (some dx)) ∧ H2 dx = some (exd dx fs) ∧ fs.length ≤ 900 ∧ D.nx σ (upd H2 dx (exd dx ((f, y) :: fs))))
theorem psPut {X : Cx} {o e : Expr} {to te : TE} {f : Str} {p' pos : Pos} (ho : PE X o to) (he : PE X e te) (hs : swapsWith e (some (.Attribute o f p')) pos.line X.env = pure false := by rfl) :
    PS X (.Assign [.Attribute o f p'] e pos) (tPut X.K f to te) := by
  refine ⟨fun pins s σ H D I h => ?_⟩
  refine plainObj_wpAny_Assign_Attribute (thn (he.run pins s σ H _ I h) fun v s1 ⟨y, H1, I1, r1, q1⟩ => ?_) hs
  refine thn (ho.run pins s1 σ H1 _ I1 q1) fun u s2 ⟨x, H2, I2, r2, a, C, ex, T, no, q⟩ => ?_
  subst ex
  obtain rfl : u = Value.ref a := r2
  rcases q with ⟨ea, q⟩ | ⟨dx, fs, ea, ed, hl, q⟩
  · exact put1 T I2 ea no r1 fun dx s' n ne J => ⟨σ, _, J, q dx n ne⟩
  · exact put2 T I2 ea ed hl no r1 fun s' J => ⟨σ, _, J, q⟩
/-- an error stands at a: of the class at C, with these fields -/
def ErrAt (H : Hp) (a C : Addr) (fs : List (Str × V)) : Prop := (fs = [] ∧ H a = some (exo a C none)) ∨ ∃ dx, H a = some (exo a C (some dx)) ∧ H dx = some (exd dx fs)
theorem ErrAt.mono {H H' : Hp} {a C : Addr} {fs : List (Str × V)} (x : ErrAt H a C fs) (k : ∀ b o, H b = some o → H' b = some o) : ErrAt H' a C fs := by
  rcases x with ⟨e, z⟩ | ⟨dx, z1, z2⟩
  · exact .inl ⟨e, k _ _ z⟩
  · exact .inr ⟨dx, k _ _ z1, k _ _ z2⟩
/-- e.f of such an exception -/
def tGet (K : PySem.W.Frag) (te : TE) (f : Str) : TE := fun σ H Q => te σ H fun x H1 => ∃ (a C : Addr) (fs : List (Str × V)) (v : V), x = .ref a ∧ ErrC K C ∧ findIn K (.ref C) f = some none ∧
  ErrAt H1 a C fs ∧ fs.lookup f = some v ∧ Q v H1
theorem peGet {X : Cx} {e : Expr} {te : TE} {pos : Pos} {f : Str} (he : PE X e te) (hb : attributeBase e f X.env (eval e X.env) = eval e X.env := by rfl) :
    PE X (.Attribute e f pos) (tGet X.K te f) := by
  refine ⟨fun pins s σ H Q I h => ?_⟩
  refine attr_of hb (thn (he.run pins s σ H _ I h) fun u s1 hh => ?_)
  obtain ⟨x, H1, I1, rx, a, C, fs, v, ex, T, no, ea, l, q⟩ := hh
  subst ex
  obtain rfl : u = Value.ref a := rx
  rcases ea with ⟨ef, _⟩ | ⟨dx, ea, ed⟩
  · subst ef
    cases l
  · obtain ⟨t1, ho⟩ := exo_at I1.hok ea
    obtain ⟨mA, hns, hr⟩ := exd_at I1.hok ed
    obtain ⟨od, hod, hl⟩ := lookIn_ns hns
    obtain ⟨u, hu, ru⟩ := RelO.some_of (v := v) (o := mA f) (by rw [← l]; exact hr f)
    have J : PySem.W.InstAt s1.heap a { cls := .ref C, dict := some dx, data := .fields #[.ref t1, .none, .none, .none, .bool false, .none] } C (some od) := ⟨ho, rfl, rfl, hod⟩
    exact HandSPX.exc_get I1.kIn J T.ga T.gg T.exc (PySem.W.findObj_own T.dct no rfl (by rw [hl, hu])) (handed_of ru) ⟨v, H1, I1.tok _, ru, q⟩
end L2.Und
end

section
set_option Elab.async false
set_option linter.all false
set_option maxRecDepth 100000
set_option maxHeartbeats 4000000
namespace Und
open PySem PySem.W PySem.Spec PySem.Calls PyProof.Rows
section
variable {prog : Program} {w : World} {A : Around} {E : Value → Shared → Prop} {s : Shared} {K : Frag} {x D : Addr} {ox : Obj} {od : Option Obj}
theorem find_class (hd : hasDictIn K D = true) (ha : findIn K (.ref D) "__class__" = some (some (.builtin "object.__class__")))
    (hn : specialIn K (.builtin "object.__class__") "__get__" = some (some (.builtin "getset_descriptor.__get__"))) (ht : takesIn K (.builtin "object.__class__") = some true) :
    findObj K D od "__class__" = some (.bind (.builtin "getset_descriptor.__get__") (.builtin "object.__class__")) := by
  obtain ⟨cd, hc, _⟩ := any_some hd
  unfold findObj
  rw [hc, Option.bind_some, ha, Option.bind_some]
  simp [hn, ht]
theorem ask_class {Q : Option Value → Shared → Prop} (ga : findIn K (.ref D) "__getattribute__" = some (some (.builtin "BaseException.__getattribute__")))
    (gg : findIn K (.ref D) "__getattr__" = some none) (exc : subIn K (.ref D) (.type "BaseException") = some true) (hd : hasDictIn K D = true)
    (ha : findIn K (.ref D) "__class__" = some (some (.builtin "object.__class__"))) (hn : specialIn K (.builtin "object.__class__") "__get__" = some (some (.builtin "getset_descriptor.__get__")))
    (ht : takesIn K (.builtin "object.__class__") = some true) (hm : mroIn K D (.type "object") = some true) (X : K.In s.heap) (I : InstAt s.heap x ox D od)
    (h : Q (some (.ref D)) { s with toks := s.toks + 1 }) : wpAny (model prog w) A (getAttr? (.ref x) "__class__") Q E s := by
  have hf := find_class (od := od) hd ha hn ht
  obtain ⟨hp, g, d, t, os⟩ := s
  have c0 := I.type (M := model prog w)
  have c1 := looks_findIn (M := model prog w) X ga
  have c2 := looks_findIn (M := model prog w) X gg
  have c3 := looks_find (M := model prog w) X I hf
  have c4 : Looks (model prog w) hp (isInstance (.ref x) (.type "BaseException")) true := c0.andThen (looks_subIn X exc)
  have z0 : (false && onTheHeap (Value.builtin "BaseException.__getattribute__")) = false := rfl
  have z2 : (Value.builtin "BaseException.__getattribute__" == Value.builtin "object.__getattribute__") = false := by decide +kernel
  have z1 : (onTheHeap (Value.ref D) && Value.builtin "BaseException.__getattribute__" == Value.builtin "object.__getattribute__") = false := by
    rw [z2]
    rfl
  unfold getAttr? getAttrBy? getAttrBy
  refine wpAny_bind (wpAny_mkText (wpAny_bind (wpAny_attempt (wpAny_holding (wpAny_bind (c0.at (wpAny_bind (c1.at ?_))))))))
  show wpAny _ _ (if (onTheHeap (Value.ref D) && Value.builtin "BaseException.__getattribute__" == Value.builtin "object.__getattribute__") = true then _ else _) _ _ _
  rw [z1, if_neg Bool.false_ne_true]
  unfold getAttrByItsOwn hookBefore
  refine wpAny_bind ?_
  rw [if_pos (show onTheHeap (Value.ref D) = true from rfl)]
  refine c2.at (wpAny_bind (wpAny_attempt (wpAny_holding ?_)))
  unfold callGetattribute
  rw [z0, if_neg Bool.false_ne_true]
  unfold boundAndCalled
  rw [PySem.F.excAttr_ValueError.ga.bind (.ref x)]
  refine wpAny_bind (wpAny_pure ?_)
  show wpAny _ _ (call (.builtin "BaseException.__getattribute__") [.ref x, .str "__class__" t]) _ _ _
  refine wpAny_call (codeAny_call_builtin PySem.F.excAttr_ValueError.ga.plain PySem.F.entry_bexc_ga ?_)
  have zk : builtinKind "BaseException.__getattribute__" = some .slot := by decide +kernel
  have zs : splitId "BaseException.__getattribute__" = some ("BaseException", "__getattribute__") := by decide +kernel
  refine @check_slot (model prog w) _ _ ⟨hp, g, d, t + 1, os⟩ "BaseException.__getattribute__" "BaseException" "__getattribute__" (.ref x) [.str "__class__" t] [] _ zk zs c4 (PySem.F.args_bexc_ga (.ref x) (.str "__class__" t)) ?_
  unfold Builtin.«object.__getattribute__»
  refine wpAny_bind (wpAny_of_eq (a := ((Value.ref x : Value), [Value.str "__class__" t])) (by first | rfl | (simp only [slotArgs]; rfl)) ?_)
  refine wpAny_bind (wpAny_pure (wpAny_bind (c0.at (wpAny_bind (c3.at ?_)))))
  show wpAny _ _ (holding [Value.builtin "object.__class__"] (call (.builtin "getset_descriptor.__get__") [.builtin "object.__class__", .ref x, .ref D]) >>= ret) _ _ _
  refine wpAny_bind (wpAny_holding (wpAny_call (class_get (s := ⟨hp, g, d, t + 1, os⟩) (ox := ox) (od := od) X I hm (wpAny_pure ?_))))
  show wpAny _ _ (handedOut (.ref D)) _ _ _
  rw [handedOut_of (v := .ref D) rfl]
  first
    | exact wpAny_pure (wpAny_pure h)
    | exact wpAny_pure h
    | exact wpAny_pure (wpAny_bind (wpAny_pure (wpAny_pure h)))
theorem kit_err (ga : findIn K (.ref D) "__getattribute__" = some (some (.builtin "BaseException.__getattribute__")))
    (gg : findIn K (.ref D) "__getattr__" = some none) (exc : subIn K (.ref D) (.type "BaseException") = some true) (hd : hasDictIn K D = true)
    (ha : findIn K (.ref D) "__class__" = some (some (.builtin "object.__class__"))) (hn : specialIn K (.builtin "object.__class__") "__get__" = some (some (.builtin "getset_descriptor.__get__")))
    (ht : takesIn K (.builtin "object.__class__") = some true) (hm : mroIn K D (.type "object") = some true) : KitX K (.ref x) (.ref D) (fun h => InstAt h x ox D od) := by
  obtain ⟨cd, hc, _⟩ := any_some hd
  have there : ∃ c' d' cd' sl', K.lookup D = some ⟨c', d', .cls cd', sl'⟩ := by
    unfold clsIn at hc
    split at hc
    · rename_i c' d' cd' sl' ho
      exact ⟨c', d', cd', sl', ho⟩
    · cases hc
  obtain ⟨c', d', cd', sl', ho⟩ := there
  refine ⟨fun _ _ _ I => I.type, fun _ _ X _ => ?_, fun h tp dd its n sl X htp => ?_, fun X I k => ask_class ga gg exc hd ha hn ht hm X I k⟩
  · intro A' Q' E' s' k q
    unfold isType loadHead
    exact wpAny_bind (wpAny_loadPart (k _ _ (X _ _ ho)) (wpAny_pure q))
  · refine Bool.eq_false_iff.mpr fun q => ?_
    have e : D = tp := Value.ref.inj (beq_iff_eq.mp q)
    subst e
    have z := (X _ _ ho).symm.trans htp
    cases z
end
end Und
namespace L2.Und
open PySem PySem.Spec PyProof.Rows _root_.Und
open PySem.W (findIn keepIn subIn hasDictIn specialIn takesIn mroIn clsIn typeIn)
section
variable {X : Cx} {CX : CXT} {k : Nat} {fI C : Addr} {fd : FuncData} {ps ks : List Str} {sp : Sp} {E : XK} {x : Str} {p pos : Pos} {e : Expr} {es : List Expr} {kws : List Keyword} {t tk : TA}
variable {g : List Value → List Value → List Value} {gV : List V → List V → List V} {n : Nat}
/-- the error is laid, then its own __init__ runs -/
theorem runErr {pins : List (Addr × Obj)} {σ : St} {H : Hp} {s : Shared} {Q : VK} {us ws : List Value} {vs zs : List V} (T : ErrC X.K C)
    (iC : findIn X.K (.ref C) "__init__" = some (some (.ref fI))) (tI : typeIn X.K (.ref fI) = some (.type "function"))
    (F : FnOk X.prog X.w X.K X.mg X.base CX k fI fd ps sp) (hr : Room (k + 1) X.A) (hb : KBn X.K fd ps (n + 1) ks g gV) (hx : Passes CX X E)
    (I : Inv X pins σ H s) (r : Vals vs us) (rz : Vals zs ws) (l1 : vs.length = n) (l2 : zs.length = ks.length) (l3 : n ≤ 1000)
    (h : ∀ a, H a = none → sp (gV (.ref a :: vs) zs) (upd H a (exo a C none)) (fun v H2 => v = .non ∧ Q (.ref a) H2) E) :
    wpAny (model X.prog X.w) X.A (call (.ref C) us (ks.zip ws)) (EP X pins σ Q) X.xe s := by
  obtain ⟨B, newId, initId, bmB, nm, q, N, bs, bm, sn, sub, ab, col, dd, k0, k1, k2, k3, k5, FB, U, O, hC⟩ := T.cls
  obtain ⟨hp, gs, dr, tk, os⟩ := s
  have big : hp.objs.size ≤ hp.objs.size + 1 := Nat.le_succ _
  have nn : H (hp.objs.size + 1) = none := I.hok.fresh big
  have hq := h (hp.objs.size + 1) nn
  have up : ∀ b o, hp.get? b = some o → ((hp.push (PySem.W.kdv_tup us)).push (PySem.HandSPX.excO C hp.objs.size)).get? b = some o :=
    fun b o z => Heap.get?_push_of_some _ (Heap.get?_push_of_some _ z)
  have laid : ((hp.push (PySem.W.kdv_tup us)).push (PySem.HandSPX.excO C hp.objs.size)).get? (hp.objs.size + 1) = some (PySem.HandSPX.excO C hp.objs.size) := by heap_get
  have I2 : Inv X pins σ (upd H (hp.objs.size + 1) (exo (hp.objs.size + 1) C none)) ⟨(hp.push (PySem.W.kdv_tup us)).push (PySem.HandSPX.excO C hp.objs.size), gs, dr, tk, os⟩ :=
    I.laid (t' := tk) (a := hp.objs.size + 1) up big (exo_ok laid)
  have r1 : Vals (V.ref (hp.objs.size + 1) :: vs) (Value.ref (hp.objs.size + 1) :: us) := .cons rfl r
  have e0 : us.length = n := r.length.symm.trans l1
  have e1 : (Value.ref (hp.objs.size + 1) :: us).length = n + 1 := congrArg Nat.succ e0
  have e2 : ws.length = ks.length := rz.length.symm.trans l2
  have hz : us.length ≤ sizeLine := by
    rw [e0, sizeLine_eq]
    omega
  refine wpAny_call (madeBy FB U (I.kIn _ _ hC) hz (PySem.W.looks_findIn I.kIn iC) (fun self => PySem.W.bind_fn I.kIn self tI) ?_)
  refine codeAny_mono (F.run _ X.stack _ _ ⟨Value.ref (hp.objs.size + 1) :: us, ks.zip ws⟩ (g (Value.ref (hp.objs.size + 1) :: us) ws) _ _ E (hr.make C us (ks.zip ws))
    (I2.env0.make C us (ks.zip ws)) (hb.to _ _ ws I2.kIn e1 e2) (hb.rel r1 rz) hq) fun r s' z => ?_
  cases r with
  | error e => exact hx pins σ _ _ e s' I2 z
  | ok fl =>
    cases fl with
    | ret u =>
      obtain ⟨v, H', I3, rv, ev, q3⟩ := I2.after z
      subst ev
      exact ⟨rv, V.ref (hp.objs.size + 1), H', I3, rfl, q3⟩
    | next => exact z.elim
    | brk => exact z.elim
    | cont => exact z.elim
/-- C(e, ..) -/
def tErr (C : Addr) (n : Nat) (sp : Sp) (gV : List V → List V → List V) (E : XK) (t : TA) : TE := fun σ H Q => t σ H fun vs H1 => vs.length = n ∧
  ∀ a, H1 a = none → sp (gV (.ref a :: vs) []) (upd H1 a (exo a C none)) (fun v H2 => v = .non ∧ Q (.ref a) H2) E
theorem peErr (T : ErrC X.K C) (iC : findIn X.K (.ref C) "__init__" = some (some (.ref fI))) (tI : typeIn X.K (.ref fI) = some (.type "function"))
    (F : FnOk X.prog X.w X.K X.mg X.base CX k fI fd ps sp) (hr : Room (k + 1) X.A) (hb : KBn X.K fd ps (n + 1) [] g gV) (hx : Passes CX X E) (hn : n ≤ 1000)
    (hg : Gl X x) (hm : X.mg x = some (.ref C)) (ha : PA X (e :: es) t) (hdb : (x == ("__debug__" : Str)) = false := by decide)
    (he : starEach (e :: es) X.env = (false, eval e X.env) :: starEach es X.env := by rfl) (hpl : (backTo pos (starEach es X.env)).any (·.1) = false := by rfl) :
    PE X (.Call (.Name x p) (e :: es) [] pos) (tErr C n sp gV E t) := by
  refine ⟨fun pins s σ H Q I h => ?_⟩
  refine wpAny_Call_Name_kw (ld_glob I hg hm ?_ hdb)
  refine PySem.W.callWith_K (h₀ := X.base) I.ok.mod.kin T.keep (thn (ha.run pos pins s σ H _ I h) fun us s1 ⟨vs, H1, I1, r, l1, q⟩ => ⟨I1.kIn, ?_⟩) he hpl
  exact runErr (ws := []) (zs := []) T iC tI F hr hb hx I1 r .nil l1 rfl hn q
/-- C(k = v, ..) -/
def tErrK (C : Addr) (m : Nat) (sp : Sp) (gV : List V → List V → List V) (E : XK) (tk : TA) : TE := fun σ H Q => tk σ H fun zs H1 => zs.length = m ∧
  ∀ a, H1 a = none → sp (gV [.ref a] zs) (upd H1 a (exo a C none)) (fun v H2 => v = .non ∧ Q (.ref a) H2) E
theorem peErrK (T : ErrC X.K C) (iC : findIn X.K (.ref C) "__init__" = some (some (.ref fI))) (tI : typeIn X.K (.ref fI) = some (.type "function"))
    (F : FnOk X.prog X.w X.K X.mg X.base CX k fI fd ps sp) (hr : Room (k + 1) X.A) (hb : KBn X.K fd ps 1 ks g gV) (hx : Passes CX X E)
    (hg : Gl X x) (hm : X.mg x = some (.ref C)) (hkw : PK X kws tk) (hall : (backToKw pos (keywordEach kws X.env)).all (·.1.isSome) = true := by rfl)
    (hks : (backToKw pos (keywordEach kws X.env)).filterMap (·.1) = ks := by rfl) (hdb : (x == ("__debug__" : Str)) = false := by decide)
    (hpl : ((backTo pos (starEach [] X.env)).any (·.1) || (backToKw pos (keywordEach kws X.env)).any (·.1.isNone)) = false := by rfl) :
    PE X (.Call (.Name x p) [] kws pos) (tErrK C ks.length sp gV E tk) := by
  refine ⟨fun pins s σ H Q I h => ?_⟩
  refine wpAny_Call_Name_kw (ld_glob I hg hm ?_ hdb)
  refine PySem.W.callWith_KW0 (h₀ := X.base) I.ok.mod.kin T.keep hall (thn (hkw.run pos pins s σ H _ I h) fun ws s1 ⟨zs, H1, I1, r, l1, q⟩ => ⟨I1.kIn, ?_⟩) hpl
  rw [hks]
  exact runErr (n := 0) (us := []) (vs := []) T iC tI F hr hb hx I1 .nil r rfl l1 (by omega) q
/-- C(), a class without an __init__ of its own -/
theorem peErr0 {bmB : List Value} {B newId initId : String} (FB : ExcBaseFacts B newId initId bmB) (q : PySem.W.excIn X.K C bmB newId = true) (kC : keepIn X.K (.ref C) = true)
    (hg : Gl X x) (hm : X.mg x = some (.ref C)) (hdb : (x == ("__debug__" : Str)) = false := by decide) :
    PE X (.Call (.Name x p) [] [] pos) (fun _ H Q => ∀ a, H a = none → Q (.ref a) (upd H a (exo a C none))) := by
  refine ⟨fun pins s σ H Q I h => ?_⟩
  refine wpAny_Call_Name_kw (ld_glob I hg hm ?_ hdb)
  refine PySem.W.callWith_K0 I.kIn kC ?_
  show wpAny _ _ (call (.ref C) []) _ _ _
  obtain ⟨bm, N, nm, qn, bs, hdct, sn, sub, ab, col, dd, k0, k1, k2, k3, k5, mN, hC, hN, hni, T⟩ := exc_obj I.kIn q
  refine wpAny_call_exc_subT FB T hC hN hni (fun h' a hm => ?_) (by show 0 ≤ sizeLine; omega)
  have hn : H a = none := I.hok.gone hm.new
  obtain ⟨t, ht, _, _⟩ := hm.there
  exact ⟨.ref a, upd H a (exo a C none), I.laidN hm.keeps hm.new hn (exo_ok ht), rfl, h a hn⟩
end
/-- isinstance(e, c), e such an error -/
def rIsErr (K : PySem.W.Frag) : List V → Hp → VK → Prop := fun xs H Q => ∃ (a C : Addr) (fs : List (Str × V)) (c : V) (u : Value) (b : Bool), xs = [.ref a, c] ∧ ClsV c u ∧ ErrC K C ∧ ErrAt H a C fs ∧
  PySem.W.kitOne K (.ref C) u = some b ∧ Q (.bl b) H
theorem callIsErr {X : Cx} (G : ErrG X.K) : CallR X (.builtin "isinstance") (rIsErr X.K) := by
  intro pins s σ H xs us Q I r h
  obtain ⟨a, C, fs, c, u, b, rfl, hc, T, ea, eb, q⟩ := h
  obtain ⟨u1, u2, rfl, r1, r2⟩ := vals2 r
  cases (show u1 = Value.ref a from r1)
  have e2 := hc.eq r2
  subst e2
  have fin : ∀ tk, EP X pins σ Q (.bool b) { s with toks := tk } := fun tk => ⟨.bl b, H, I.tok tk, rfl, q⟩
  rcases ea with ⟨_, ea⟩ | ⟨dx, ea, ed⟩
  · obtain ⟨t1, ho⟩ := exo_at I.hok ea
    have J : PySem.W.InstAt s.heap a { cls := .ref C, dict := none, data := .fields #[.ref t1, .none, .none, .none, .bool false, .none] } C none := ⟨ho, rfl, rfl, trivial⟩
    exact PySem.W.kia_one (kit_err T.ga T.gg T.exc T.dct T.kls G.get G.tak T.obj) I.kIn J eb (fun z => nomatch z) fin
  · obtain ⟨t1, ho⟩ := exo_at I.hok ea
    obtain ⟨mA, hns, _⟩ := exd_at I.hok ed
    obtain ⟨od, hod, _⟩ := lookIn_ns hns
    have J : PySem.W.InstAt s.heap a { cls := .ref C, dict := some dx, data := .fields #[.ref t1, .none, .none, .none, .bool false, .none] } C (some od) := ⟨ho, rfl, rfl, hod⟩
    exact PySem.W.kia_one (kit_err T.ga T.gg T.exc T.dct T.kls G.get G.tak T.obj) I.kIn J eb (fun z => nomatch z) fin
end L2.Und
end

section
set_option Elab.async false
set_option linter.all false
set_option maxRecDepth 100000
set_option maxHeartbeats 4000000
namespace L2.Und
open PySem PySem.Spec PyProof.Rows _root_.Und
/-- repr(x), x a list or a tuple of data -/
def rShow (K : PySem.W.Frag) : List V → Hp → VK → Prop := fun xs H Q => ∃ (a : Addr) (d : PyData), xs = [.ref a] ∧ Dp K H (.ref a) d ∧ d.showable = true ∧ d.hasDict = false ∧ d.depth ≤ 40 ∧
  d.shown.length ≤ sizeLine ∧ Q (.str d.shown) H
theorem callShow {X : Cx} (hg : X.A.guards = some []) (hu : X.A.units + 64 < cLine) : CallR X (.builtin "repr") (rShow X.K) := by
  intro pins s σ H xs us Q I r h
  obtain ⟨a, d, rfl, hd, h1, h2, h3, h4, q⟩ := h
  obtain ⟨u, rfl, ru⟩ := vals1 r
  cases (show u = Value.ref a from ru)
  obtain ⟨as, rd⟩ := Dp.reads I d (.ref a) (.ref a) hd rfl
  refine repr_of_reads' (h₀ := s.heap) rd h1 (fun z => ?_) hg (by omega) (fun _ _ e => e) (fun h' u tk k => ?_) h4
  · rw [h2] at z
    cases z
  · exact ⟨.str d.shown, H, I.kept (t' := tk) k, ⟨u, rfl⟩, q⟩
/-- a def that keeps its promise where no repr is under way -/
structure FnG (P : Program) (w : World) (K : PySem.W.Frag) (mg : Str → Option Value) (base : Heap) (k : Nat) (f : Addr) (fd : FuncData) (ps : List Str) (sp : Sp) : Prop where
  len : ∀ vs H Q E, sp vs H Q E → vs.length = ps.length
  run : ∀ (A : Around) (outer : List Env) (s : Shared) (H : Hp) (us : List Value) (vs : List V) (Q : VK) (E : XK), A.guards = some [] → Room k A →
    Env0 P w K mg base A outer s H → BindsTo s fd ⟨us, []⟩ (ps.zip us) → Vals vs us → sp vs H Q E → codeAny (model P w) A (.call (.ref f) ⟨us, []⟩) (CR CX0 outer P w H s Q E) s
section
variable {P : Program} {w : World} {K : PySem.W.Frag} {mg : Str → Option Value} {base : Heap}
theorem okG {x qual : Str} {st : Stmt} {f : Addr} {fd : FuncData} {N ps : List Str} {k : Nat} {sp : Sp} (F : Fun K x qual st f fd) (S : FnScope N ps (defScope st))
    (len : ∀ vs H Q E, sp vs H Q E → vs.length = ps.length)
    (body : ∀ (cdv : Value) (A : Around) (outer : List Env) (s : Shared) (H : Hp) (vs : List V) (Q : VK) (E : XK), A.guards = some [] →
      Room k (A.deeper (envOfC qual (defScope st) s.heap.objs.size f cdv)) → sp vs H Q E →
      ∃ t, PSs (cxOf CX0 P w K mg base N qual (defScope st) f cdv A outer s H E).nox (defBody st) t ∧ t { nx := fun _ H' => Q .non H', rt := Q } (start N vs) H) :
    FnG P w K mg base (k + 1) f fd ps sp := by
  obtain ⟨oc, od, kV, doc, pm, an, cdv, ct, osl, rfl, lk, hcd⟩ := F.ex
  refine ⟨len, fun A outer s H us vs Q E hA hr e0 hb r hsp => ?_⟩
  have hl := len _ _ _ _ hsp
  have up : ∀ b o, base.get? b = some o → s.heap.get? b = some o := fun b o e => (e0.bs b o e).1
  have KX : K.In s.heap := e0.mod.kin.keeps up
  have kinds : ∀ y ∈ ps.zip us, (defScope st).names.lookup y.1 = some .local ∨
      ((defScope st).names.lookup y.1 = some .cell ∧ ((cellsFrom (s.heap.objs.size + 1) (defScope st).names []).lookup y.1).isSome = true) := by
    rintro ⟨n, v⟩ hy
    rcases S.par n (List.of_mem_zip hy).1 with z | z
    · exact .inl z
    · exact .inr ⟨z, PySem.W.cellsFrom_some _ _ _ (.inl z)⟩
  refine codeAny_call_function hr.depth (KX _ _ lk) rfl S.co S.gen rfl (PySem.W.codeRec_of KX hcd) (hb _ _ _ _ ?_)
  refine wpAny_newFunctionEnv_cells S.kind kinds fun env he s1 x => ?_
  subst he
  refine ⟨(e0.mod.nolimit.keeps up).keeps x.toInCall.keep, codeAny_func ?_⟩
  obtain ⟨t, ht, hq⟩ := body cdv A outer s H vs Q E hA (hr.deeper _) hsp
  have I : Inv (cxOf CX0 P w K mg base N qual (defScope st) f cdv A outer s H E) [] (start N vs) H s1 := inv_start S hr.hd e0 hl r x
  refine wpAny_mono (ht.nox.run [] s1 (start N vs) H _ I hq) (fun fl s' z => ?_) fun _ _ z => z
  cases fl with
  | ret u =>
    obtain ⟨v, σ', H', J, rv, q⟩ := z
    exact ⟨v, H', J.os, J.bare, J.base, J.hok, rv, q⟩
  | next =>
    obtain ⟨σ', H', J, q⟩ := z
    exact ⟨.non, H', J.os, J.bare, J.base, J.hok, rfl, q⟩
  | brk =>
    obtain ⟨_, _, _, q⟩ := z
    exact q.elim
  | cont =>
    obtain ⟨_, _, _, q⟩ := z
    exact q.elim
end
section
variable {X : Cx} {k : Nat} {f : Addr} {fd : FuncData} {ps : List Str} {sp : Sp} {x : Str} {p pos : Pos} {e : Expr} {es : List Expr} {t : TA} {E : XK}
theorem peCallG (F : FnG X.prog X.w X.K X.mg X.base k f fd ps sp) (hA : X.A.guards = some []) (hr : Room k X.A) (hg : Gl X x) (hm : X.mg x = some (.ref f)) (hk : PySem.W.keepIn X.K (.ref f) = true)
    (hb : Binds X.K fd ps []) (ha : PA X (e :: es) t) (hdb : (x == ("__debug__" : Str)) = false := by decide)
    (he : starEach (e :: es) X.env = (false, eval e X.env) :: starEach es X.env := by rfl) (hpl : (backTo pos (starEach es X.env)).any (·.1) = false := by rfl) :
    PE X (.Call (.Name x p) (e :: es) [] pos) (tCall sp [] E0 t) := by
  refine ⟨fun pins s σ H Q I h => ?_⟩
  refine wpAny_Call_Name_kw (ld_glob I hg hm ?_ hdb)
  refine PySem.W.callWith_K (h₀ := X.base) I.ok.mod.kin hk (thn (ha.run pos pins s σ H _ I h) fun us s1 ⟨vs, H1, I1, r, q⟩ => ⟨I1.kIn, ?_⟩) he hpl
  have q : sp vs H1 Q E0 := by
    have z : sp (vs ++ []) H1 Q E0 := q
    rw [List.append_nil] at z
    exact z
  have hl : us.length = ps.length := r.length.symm.trans (F.len _ _ _ _ q)
  have b := hb s1 us I1.kIn (by rw [List.append_nil]; exact hl)
  rw [List.append_nil] at b
  show wpAny _ _ (call (.ref f) us) _ _ _
  refine wpAny_call (codeAny_mono (F.run X.A X.stack s1 H1 us vs Q E0 hA hr I1.env0 b r q) fun r s' z => ?_)
  cases r with
  | error _ => exact z.elim
  | ok fl =>
    cases fl with
    | ret u => exact I1.after z
    | next => exact z.elim
    | brk => exact z.elim
    | cont => exact z.elim
end
/-- the law's call, from its promise -/
theorem lawCall {P : Program} {w : World} {K : PySem.W.Frag} {mg mb : Str → Option Value} {k : Nat} {fa a : Addr} {fd : FuncData} {x : Str} {sp : Sp} {s0 : Shared} {vs : List Value} {ns : List Int}
    (KX : K.In s0.heap) (hns : s0.heap.Ns mainGlobals mg) (hb : s0.heap.Ns builtinsNs mb) (hbb : ∀ x : Str, x ≠ "__name__" → mb x = bootBuiltins x) (hlim : s0.heap.NoLimit) (hg : s0.gens = #[])
    (ha : s0.heap.get? a = some { cls := .type "list", data := .seq vs.toArray }) (hi : IntsAre vs ns) (hl : ns.length ≤ sizeLine) (hr : Room k callerA)
    (F : ∀ base : Heap, K.In base → base.Ns mainGlobals mg → FnG P w K mg base k fa fd [x] sp) (bind : ∀ (s : Shared) (u : Value), BindsTo s fd ⟨[u], []⟩ [(x, u)])
    (hsp : ∀ H : Hp, Only H → SqL K H a (ns.map V.int) → sp [.ref a] H (fun v _ => v = .bl true) fun _ _ _ => False) :
    codeAny (model P w) callerA (.call (.ref fa) ⟨[.ref a], []⟩) (fun r s' => r = .ok (.ret (.bool true)) ∧ OldK s0.heap s'.heap ∧ s'.os = s0.os ∧ AllBare s'.gens) s0 := by
  have rv := vals_ints hi
  have lenV := hi.length
  have main : ∀ H : Hp, Only H → SqL K H a (ns.map V.int) → HOk P w H s0.heap → (∀ b, H b ≠ none → b = a ∧ K.lookup a = none) →
      codeAny (model P w) callerA (.call (.ref fa) ⟨[.ref a], []⟩) (fun r s' => r = .ok (.ret (.bool true)) ∧ OldK s0.heap s'.heap ∧ s'.os = s0.os ∧ AllBare s'.gens) s0 := by
    intro H hO hS ok hA
    have notA : ∀ {b : Addr} {o : Obj} {es : Array DictEntry} {ep : Nat}, s0.heap.get? b = some o → o.data = .dict es ep → H b = none := by
      intro b o es ep e d
      cases z : H b with
      | none => rfl
      | some u =>
        obtain ⟨z1, _⟩ := hA b (by rw [z]; simp)
        subst z1
        rw [ha] at e
        cases e
        have d' : Data.seq vs.toArray _ = Data.dict es ep := d
        cases d'
    have keepNs : ∀ {b : Addr} {m : Str → Option Value}, s0.heap.Ns b m → (hidT s0.heap H).Ns b m := by
      rintro b m ⟨o, es, ep, e, d, r⟩
      exact ⟨o, es, ep, hidT_get e (notA e d), d, r⟩
    have KB : K.In (hidT s0.heap H) := by
      intro b o e
      refine hidT_get (KX b o e) ?_
      cases z : H b with
      | none => rfl
      | some u =>
        obtain ⟨z1, z2⟩ := hA b (by rw [z]; simp)
        subst z1
        rw [z2] at e
        cases e
    have lim : (hidT s0.heap H).NoLimit := by
      obtain ⟨mc, h1, h2⟩ := hlim
      exact ⟨mc, keepNs h1, h2⟩
    have M : Mod K mg (hidT s0.heap H) := ⟨KB, keepNs hns, ⟨mb, keepNs hb, hbb⟩, lim⟩
    have e0 : Env0 P w K mg (hidT s0.heap H) callerA [] s0 H :=
      ⟨rfl, M, fun b o e => of_hidT e, Nat.le_of_eq (hidT_size _ _), trivial, fun b z => absurd (show b ∈ ([] : List Addr) from z) (by simp), ok, .of_eq hg⟩
    refine codeAny_mono ((F _ KB (keepNs hns)).run callerA [] s0 H [.ref a] [.ref a] _ _ rfl hr e0 (bind s0 (.ref a)) (.cons rfl .nil) (hsp H hO hS)) fun r s' z => ?_
    cases r with
    | error e => exact z.elim
    | ok fl =>
      cases fl with
      | next => exact z.elim
      | brk => exact z.elim
      | cont => exact z.elim
      | ret u =>
        obtain ⟨v, H', os, bare, un, ok', r', q⟩ := z
        have q' : v = .bl true := q
        subst q'
        obtain rfl : u = Value.bool true := r'
        refine ⟨rfl, OldK.of_keep fun b o e => ?_, os, bare⟩
        rcases hO b with n | ⟨ob, xs, n⟩
        · exact un.keep b o e n (fun z => absurd (show b ∈ ([] : List Addr) from z) (by simp)) (by simp)
        · obtain ⟨e1, _⟩ := ok b _ n
          obtain ⟨e2, _⟩ := ok' b _ (un.frzs b ob _ n)
          rw [e] at e1
          cases e1
          exact e2
  cases hk : K.lookup a with
  | some o =>
    have e := KX a o hk
    rw [ha] at e
    cases e
    refine main (fun _ => none) (fun _ => .inl rfl) (.inr ⟨_, vs.toArray, _, hk, rfl, rfl, rfl, ?_, by simpa using rv⟩) (fun b u z => ?_) fun b z => absurd rfl z
    · rw [List.size_toArray, lenV]
      exact hl
    · have z' : (none : Option HO) = some u := z
      cases z'
  | none =>
    have at1 : ∀ b, b ≠ a → (fun c => if c = a then some (HO.frz { cls := .type "list", data := .seq vs.toArray } (.lst (ns.map V.int))) else none) b = none := fun b hb => if_neg hb
    refine main (fun c => if c = a then some (.frz { cls := .type "list", data := .seq vs.toArray } (.lst (ns.map V.int))) else none) (fun b => ?_) (.inl (.inr ⟨{ cls := .type "list", data := .seq vs.toArray }, if_pos rfl⟩)) (fun b u z => ?_) (fun b z => ?_)
    · by_cases hb : b = a
      · exact .inr ⟨_, _, if_pos hb⟩
      · exact .inl (if_neg hb)
    · by_cases hb : b = a
      · have z' := (if_pos hb).symm.trans z
        cases z'
        subst hb
        exact ⟨ha, by rw [List.length_map]; exact hl, vs, _, rv, ha⟩
      · have z' := (if_neg hb).symm.trans z
        cases z'
    · by_cases hb : b = a
      · exact ⟨hb, hk⟩
      · exact absurd (if_neg hb) z
/-- the goal behind the head, from the law's promise -/
theorem walkG {l : PySem.W.OpenLaw} {n k : Nat} {q : Program} {loose : List Str} {XP : (Str → Option Value) → Heap → Prop} {YP : World → Heap → Prop} {d : DefRec} {K : Params → PySem.W.Frag} {sp : World → Sp} {x : Str}
    (hn : l.most = some n) (hn2 : n ≤ sizeLine) (hdf : d.params.defaults = []) (hr : Room k callerA) (hY : ∀ (w : World) (h : Heap), YP w h → (K w.params).In h)
    (F : ∀ (w : World) (mg : Str → Option Value) (fa : Addr) (h : Heap), (K w.params).In h → h.Ns mainGlobals mg → mg d.name = some (.ref fa) →
      ∃ fd : FuncData, (∀ (s : Shared) (u : Value), BindsTo s fd ⟨[u], []⟩ [(x, u)]) ∧
        ∀ base : Heap, (K w.params).In base → base.Ns mainGlobals mg → FnG l.prog w (K w.params) mg base k fa fd [x] (sp w))
    (hsp : ∀ (w : World) (H : Hp) (a : Addr) (ns : List Int), ns.length ≤ n → Only H → SqL (K w.params) H a (ns.map V.int) → sp w [.ref a] H (fun v _ => v = .bl true) fun _ _ _ => False) :
    PySem.W.WalkO q loose XP YP l.row.toRowW d [] (fun f vs => PySem.call f vs) := by
  refine Att.attach_call hn hdf fun w s0 s1 mg mb fa o pm cd doc a vs ns G Y ho hd hcd hmg obj its len hg => ?_
  have KX := hY w _ Y
  obtain ⟨fd, hb, hF⟩ := F w mg fa _ KX G.T.g hmg
  exact lawCall KX G.T.g G.T.b G.T.builtins G.T.nolimit hg obj its (Nat.le_trans len hn2) hr hF hb fun H hO hS => hsp w H a ns len hO hS
end L2.Und
end

section
set_option Elab.async false
set_option linter.all false
set_option maxRecDepth 100000
set_option maxHeartbeats 4000000
namespace L2.Und
open PySem PySem.Spec PyProof.Rows _root_.Und
/-- the source of draws: the list at d, of the list of great cells at c and the mixed number -/
def Deal (H : Hp) (d c : Addr) : Prop := d ≠ c ∧ ∃ (xs : List Int) (m : Int), H d = some (.lst [.ref c, .int m]) ∧ H c = some (.lst (xs.map V.int)) ∧ (∀ x ∈ xs, 0 < x) ∧ xs.length ≤ 1000 ∧ 0 ≤ m
/-- all but the source stands -/
def Kept (d c : Addr) (H H' : Hp) : Prop := ∀ b o, b ≠ d → b ≠ c → H b = some o → H' b = some o
theorem Kept.refl (d c : Addr) (H : Hp) : Kept d c H H := fun _ _ _ _ h => h
theorem Kept.trans {d c : Addr} {H H1 H2 : Hp} (x : Kept d c H H1) (y : Kept d c H1 H2) : Kept d c H H2 := fun b o h1 h2 h => y b o h1 h2 (x b o h1 h2 h)
def spDraw : Sp := fun vs H Q _ => ∃ (d c : Addr) (n : Int), vs = [.ref d, .int n] ∧ Deal H d c ∧ 0 < n ∧ n.natAbs < 2 ^ 200 ∧ ∀ (r : Int) (H' : Hp), 0 ≤ r → r < n → Deal H' d c → Kept d c H H' → Q (.int r) H'
theorem atI_last {xs : List V} {y : V} (h : xs[xs.length - 1]? = some y) (hn : xs ≠ []) : atI xs ((xs.length : Int) - 1) = some y := by
  have hp : 0 < xs.length := List.length_pos_iff.mpr hn
  have e : (xs.length : Int) - 1 = ((xs.length - 1 : Nat) : Int) := by omega
  rw [e]
  exact atI_nat h
theorem dpAllInts {K : PySem.W.Frag} {H : Hp} : ∀ xs : List Int, DpAll K H (xs.map V.int) (xs.map PyData.int)
  | [] => .nil
  | x :: xs => .cons (.int x) (dpAllInts xs)
theorem dpInts {K : PySem.W.Frag} {H : Hp} {c : Addr} {xs : List Int} (h : SqL K H c (xs.map V.int)) : Dp K H (.ref c) (.list (xs.map PyData.int)) := .lst h (dpAllInts xs)
theorem layInts : ∀ xs : List Int, PyData.canLayAll0 (xs.map PyData.int) = true
  | [] => by simp [PyData.canLayAll0]
  | x :: xs => by simp [PyData.canLayAll0, PyData.canLay0, layInts xs]
theorem depInts : ∀ xs : List Int, PyData.depthAll (xs.map PyData.int) = 0
  | [] => by simp [PyData.depthAll]
  | x :: xs => by simp [PyData.depthAll, PyData.depth, depInts xs]
theorem shapedInts (xs : List Int) : SeqAt.shaped (.list (xs.map PyData.int)) = true := by
  have h := depInts xs
  show (PyData.canLay0 (.list (xs.map PyData.int)) && decide (PyData.depth (.list (xs.map PyData.int)) ≤ 64)) = true
  rw [Bool.and_eq_true]
  refine ⟨by simp only [PyData.canLay0]; exact layInts xs, decide_eq_true ?_⟩
  simp only [PyData.depth]
  omega
def spDeal (K : PySem.W.Frag) : Sp := fun vs H Q _ => ∃ (a : Addr) (ns : List Int) (b : Int), vs = [.ref a, .int b] ∧ SqL K H a (ns.map V.int) ∧ ns.length ≤ 63 ∧ 0 ≤ b ∧ b ≤ 100 ∧
  ∀ (d c : Addr) (H' : Hp), Same H H' → H d = none → H c = none → Deal H' d c → Q (.ref d) H'
/-- the greater one of x and 0 - x -/
def absI (x : Int) : Int := if 0 - x > x then 0 - x else x
theorem absI_nn (x : Int) : 0 ≤ absI x := by
  unfold absI
  split <;> omega
theorem sameNew {H : Hp} {p : Addr} {o : HO} (h : H p = none) : Same H (upd H p o) := fun b u e => by rw [upd_ne (ne_of_none e h)]; exact e
theorem cut_ints (ns : List Int) (lo hi : Option Int) : ∃ zs : List Int, cutV (ns.map V.int) lo hi = zs.map V.int ∧ zs.length ≤ ns.length := by
  unfold cutV
  refine ⟨(ns.drop (HT.sIx (ns.map V.int).length 0 lo)).take (HT.sIx (ns.map V.int).length (ns.map V.int).length hi - HT.sIx (ns.map V.int).length 0 lo), ?_, ?_⟩
  · rw [List.map_take, List.map_drop]
  · rw [List.length_take, List.length_drop]
    omega
theorem fits {n : Nat} (h : n ≤ 1000) : n ≤ sizeLine := Nat.le_of_lt (small1000 h)
theorem Same.tup {K : PySem.W.Frag} {H H' : Hp} {a : Addr} {xs : List V} (e : Same H H') (h : SqT K H a xs) : SqT K H' a xs := by
  rcases h with (h | ⟨o, h⟩) | h
  · exact .inl (.inl (e _ _ h))
  · exact .inl (.inr ⟨o, e _ _ h⟩)
  · exact .inr h
mutual
theorem dpSame {K : PySem.W.Frag} {H H' : Hp} (e : Same H H') : ∀ (d : PyData) (v : V), Dp K H v d → Dp K H' v d
  | .none, _, h => by cases h; exact .non
  | .bool _, _, h => by cases h; exact .bl _
  | .int _, _, h => by cases h; exact .int _
  | .str _, _, h => by cases h; exact .str _
  | .list ds, _, h => by
    cases h with
    | lst hs ha => exact .lst (e.seq hs) (dpSameAll e ds _ ha)
  | .tuple ds, _, h => by
    cases h with
    | tup hs ha => exact .tup (Same.tup e hs) (dpSameAll e ds _ ha)
  | .dict _, _, h => by cases h
theorem dpSameAll {K : PySem.W.Frag} {H H' : Hp} (e : Same H H') : ∀ (ds : List PyData) (vs : List V), DpAll K H vs ds → DpAll K H' vs ds
  | [], _, h => by cases h; exact .nil
  | d :: ds, _, h => by
    cases h with
    | cons h1 h2 => exact .cons (dpSame e d _ h1) (dpSameAll e ds _ h2)
end
/-- the objects of H' that are not in H -/
def newIn (H H' : Hp) : Hp := fun b => if (H b).isSome = true then none else H' b
theorem newIn_at {H H' : Hp} {b : Addr} {o : HO} (h : H b = none) (h' : H' b = some o) : newIn H H' b = some o := by
  unfold newIn
  rw [h]
  exact h'
theorem newIn_get {H H' : Hp} {b : Addr} {o : HO} (h : newIn H H' b = some o) : H b = none ∧ H' b = some o := by
  unfold newIn at h
  cases z : H b with
  | none =>
    rw [z] at h
    exact ⟨rfl, h⟩
  | some u =>
    rw [z] at h
    cases h
theorem newIn_in {H H' : Hp} : Same (newIn H H') H' := fun _ _ e => (newIn_get e).2
theorem newIn_on {H H' H2 : Hp} (k : ∀ b o, H b = none → H' b = some o → H2 b = some o) : Same (newIn H H') (newIn H H2) := fun b o e =>
  let ⟨h1, h2⟩ := newIn_get e
  newIn_at h1 (k b o h1 h2)
theorem newIn_back {H H1 H' : Hp} (k : ∀ b, H1 b = none → H b = none) : Same (newIn H1 H') (newIn H H') := fun b o e =>
  let ⟨h1, h2⟩ := newIn_get e
  newIn_at (k b h1) h2
theorem Kept.of {d c : Addr} {H H' : Hp} (s : Same H H') : Kept d c H H' := fun b o _ _ e => s b o e
theorem Deal.same {H H' : Hp} {d c : Addr} (x : Deal H d c) (s : Same H H') : Deal H' d c := by
  obtain ⟨ne, xs, m, h1, h2, r⟩ := x
  exact ⟨ne, xs, m, s _ _ h1, s _ _ h2, r⟩
theorem Deal.ned {H : Hp} {d c b : Addr} (x : Deal H d c) (h : H b = none) : b ≠ d := by
  obtain ⟨_, _, _, h1, _⟩ := x
  exact Ne.symm (ne_of_none h1 h)
theorem Deal.nec {H : Hp} {d c b : Addr} (x : Deal H d c) (h : H b = none) : b ≠ c := by
  obtain ⟨_, _, _, _, h1, _⟩ := x
  exact Ne.symm (ne_of_none h1 h)
/-- what was free is free in the heap before -/
theorem Kept.none {H H' : Hp} {d c b : Addr} (k : Kept d c H H') (x : Deal H' d c) (h : H' b = none) : H b = none := by
  cases z : H b with
  | none => rfl
  | some o =>
    have q := k b o (x.ned h) (x.nec h) z
    rw [h] at q
    cases q
theorem Kept.new {H0 H H' : Hp} {d c : Addr} (k : Kept d c H H') (x : Deal H0 d c) : Same (newIn H0 H) (newIn H0 H') :=
  newIn_on fun b o h h' => k b o (x.ned h) (x.nec h) h'
theorem Deal.ints {H : Hp} {d c b : Addr} (x : Deal H d c) {o : HO} (h : H b = some o) (h1 : ∀ xs : List Int, o ≠ .lst (xs.map V.int)) (h2 : ∀ m, o ≠ .lst [.ref c, .int m]) : b ≠ d ∧ b ≠ c := by
  obtain ⟨_, xs, m, e1, e2, _⟩ := x
  constructor
  · intro z
    rw [z, e1] at h
    exact h2 m (Option.some.inj h).symm
  · intro z
    rw [z, e2] at h
    exact h1 xs (Option.some.inj h).symm
/-- data that no draw touches -/
def Off (K : PySem.W.Frag) (d c : Addr) (H : Hp) (xs : List V) : Prop :=
  ∃ H0 : Hp, H0 d = none ∧ H0 c = none ∧ Same H0 H ∧ ∀ x ∈ xs, ∃ t : PyData, Dp K H0 x t ∧ PyData.canLay0 t = true ∧ t.depth ≤ 60
theorem Off.sub {K : PySem.W.Frag} {d c : Addr} {H : Hp} {xs ys : List V} (h : Off K d c H xs) (k : ∀ y ∈ ys, y ∈ xs) : Off K d c H ys := by
  obtain ⟨H0, a, b, e, f⟩ := h
  exact ⟨H0, a, b, e, fun y hy => f y (k y hy)⟩
theorem Off.kept {K : PySem.W.Frag} {d c : Addr} {H H' : Hp} {xs : List V} (h : Off K d c H xs) (k : Kept d c H H') : Off K d c H' xs := by
  obtain ⟨H0, a, b, e, f⟩ := h
  exact ⟨H0, a, b, fun z o q => k z o (fun y => by rw [y, a] at q; cases q) (fun y => by rw [y, b] at q; cases q) (e z o q), f⟩
theorem Off.strs {K : PySem.W.Frag} {d c : Addr} {H : Hp} {ss : List Str} (ok : ∀ s ∈ ss, PyData.strOk s = true) : Off K d c H (ss.map V.str) :=
  ⟨fun _ => none, rfl, rfl, fun _ _ q => (nomatch q), fun x hx => by
    obtain ⟨s, hs, rfl⟩ := List.mem_map.mp hx
    exact ⟨.str s, .str s, by simp [PyData.canLay0, ok s hs], by simp [PyData.depth]⟩⟩
theorem Off.all {K : PySem.W.Frag} {d c : Addr} {H : Hp} : ∀ {xs : List V}, Off K d c H xs → ∃ ds, DpAll K H xs ds ∧ PyData.canLayAll0 ds = true ∧ PyData.depthAll ds ≤ 60 ∧ ds.length = xs.length
  | [], _ => ⟨[], .nil, by simp [PyData.canLayAll0], by simp [PyData.depthAll], rfl⟩
  | x :: xs, h => by
    obtain ⟨ds, h1, h2, h3, h4⟩ := (h.sub (ys := xs) fun y hy => List.mem_cons_of_mem _ hy).all
    obtain ⟨H0, a, b, e, f⟩ := h
    obtain ⟨t, g1, g2, g3⟩ := f x List.mem_cons_self
    refine ⟨t :: ds, .cons (dpSame e _ _ g1) h1, by simp [PyData.canLayAll0, g2, h2], ?_, by rw [List.length_cons, List.length_cons, h4]⟩
    simp only [PyData.depthAll]
    omega
theorem Off.list {K : PySem.W.Frag} {d c a : Addr} {H : Hp} {xs : List V} (h : Off K d c H xs) (s : SqL K H a xs) : ∃ ds, Dp K H (.ref a) (.list ds) ∧ SeqAt.shaped (.list ds) = true ∧ ds.length = xs.length := by
  obtain ⟨ds, h1, h2, h3, h4⟩ := h.all
  refine ⟨ds, .lst s h1, ?_, h4⟩
  show (PyData.canLay0 (.list ds) && decide (PyData.depth (.list ds) ≤ 64)) = true
  rw [Bool.and_eq_true]
  refine ⟨by simp only [PyData.canLay0]; exact h2, decide_eq_true ?_⟩
  simp only [PyData.depth]
  omega
theorem eqvNil {ds : List PyData} : (!PyData.eqv (.list ds) (.list [])) = !ds.isEmpty := by
  cases ds <;> simp [PyData.eqv, PyData.eqvAll]
theorem permErase {α : Type} {l : List α} {k : Nat} (h : k < l.length) : (l[k] :: l.eraseIdx k).Perm l := by
  have e : l.take k ++ l[k] :: l.drop (k + 1) = l := by
    rw [← List.drop_eq_getElem_cons h, List.take_append_drop]
  rw [List.eraseIdx_eq_take_drop_succ]
  have p : (l.take k ++ l[k] :: l.drop (k + 1)).Perm (l[k] :: (l.take k ++ l.drop (k + 1))) := List.perm_middle
  rw [e] at p
  exact p.symm
/-- a name of a kind -/
def IsName (s : Str) : Bool := decide (1 ≤ s.cps.size) && decide (s.cps.size ≤ 6) && s.cps.all fun x => decide (97 ≤ x) && decide (x ≤ 122)
structure GoodNames (ss : List Str) (n : Nat) : Prop where
  len : ss.length = n
  nd : ss.Nodup
  nm : ∀ s ∈ ss, IsName s = true
  zq : ("zqzqzq" : Str) ∉ ss
  qz : ∀ s ∈ ss, s.cps.toList.take 4 ≠ [113, 122, 113, 122]
theorem Deal.upd {H : Hp} {d c D : Addr} {o : HO} (x : Deal H d c) (h1 : D ≠ d) (h2 : D ≠ c) : Deal (L2.upd H D o) d c := by
  obtain ⟨ne, us, m, w1, w2, z⟩ := x
  exact ⟨ne, us, m, by rw [upd_ne h1.symm]; exact w1, by rw [upd_ne h2.symm]; exact w2, z⟩
theorem Kept.upd {H H' : Hp} {d c D : Addr} {o : HO} (k : Kept d c H H') (h : H D = Option.none) : Kept d c H (L2.upd H' D o) := fun b u b1 b2 e => by
  rw [upd_ne (ne_of_none e h)]
  exact k b u b1 b2 e
theorem Same.upd {H H' : Hp} {D : Addr} {o : HO} (k : Same H H') (h : H D = none) : Same H (L2.upd H' D o) := fun b u e => by
  rw [upd_ne (ne_of_none e h)]
  exact k b u e
end L2.Und
end

section
set_option Elab.async false
set_option linter.all false
set_option maxRecDepth 100000
set_option maxHeartbeats 4000000
namespace L2.Und
open PySem PySem.Spec PyProof.Rows _root_.Und
abbrev topS (i : Nat) : Stmt := PySem.Challenge.pw_undoamid_k59_exchangeable_versions.main.body.getD i (.Pass ⟨0, 0, 0, 0⟩)
abbrev sDeal : Stmt := topS 58
abbrev sDraw : Stmt := topS 59
abbrev nDeal : List Str := ["_law_script", "_law_base", "_law_cell", "_law_cells", "_law_mixed_here"]
abbrev nDraw : List Str := ["_law_deal_here", "_law_many", "_law_left", "_law_digit"]
theorem scDeal : FnScope nDeal ["_law_script", "_law_base"] (defScope sDeal) := ⟨rfl, rfl, rfl, by decide +kernel, rfl, by decide +kernel, by decide +kernel⟩
theorem scDraw : FnScope nDraw ["_law_deal_here", "_law_many"] (defScope sDraw) := ⟨rfl, rfl, rfl, by decide +kernel, rfl, by decide +kernel, by decide +kernel⟩
section
variable {P : Program} {w : World} {K : PySem.W.Frag} {mg : Str → Option Value} {base : Heap}
theorem okDraw {f : Addr} {fd : FuncData} (F : Fun K "_law_draw" "_law_draw" sDraw f fd) (ml : mg "len" = none) : FnOk P w K mg base CX0 1 f fd ["_law_deal_here", "_law_many"] spDraw := by
  refine F.ok scDraw (fun vs H Q E h => ?_) (fun cdv A outer s H vs Q E hr h => ?_)
  · obtain ⟨d, c, n, rfl, _⟩ := h
    rfl
  have hu : (A.deeper (envOfC "_law_draw" (defScope sDraw) s.heap.objs.size f cdv)).units + 64 < cLine := by have := hr.un; omega
  refine ⟨_, pss_cons (ps_if (pt_cmpR (op_neD hu) (pe_ix ix_list (pv 0) pe_int (fun _ _ => rfl)) (pe_lst pa_nil) (nomark _))
      (pss_cons (ps_set (i := 2) scDraw.nd rfl (Or.inl rfl) (pe_ix ix_list (pe_ix ix_list (pv 0) pe_int (fun _ _ => rfl)) (pe_op op_sub (pe_callB call_len_seq rfl ml PySem.boot_len (pa_cons (pe_ix ix_list (pv 0) pe_int (fun _ _ => rfl)) pa_nil)) pe_int) (fun _ _ => rfl)))
      (pss_cons (ps_set (i := 3) scDraw.nd rfl (Or.inl rfl) (pe_op op_mod (pv 2) (pv 1)))
      (pss_cons (ps_if (pt_cmpR op_gt (pe_op op_fdivW (pv 2) (pv 1)) pe_int (nomark _))
          (pss_one (ps_asg (pe_op op_fdivW (pv 2) (pv 1)) (pg_sub (pe_ix ix_list (pv 0) pe_int (fun _ _ => rfl)) (pe_op op_sub (pe_callB call_len_seq rfl ml PySem.boot_len (pa_cons (pe_ix ix_list (pv 0) pe_int (fun _ _ => rfl)) pa_nil)) pe_int) set_list)))
          (pss_one (ps_expr (pe_bm0 PySem.F.plainAttrs_list PySem.F.slot_list_pop PySem.F.type_list_pop mt_pop (pe_ix ix_list (pv 0) pe_int (fun _ _ => rfl))))))
      (pss_one (ps_ret (pv 3)))))) pss_nil)
    (pss_cons (ps_asg (pe_op op_mod (pe_op op_add (pe_op op_mul (pe_ix ix_list (pv 0) pe_int (fun _ _ => rfl)) pe_int) pe_int) pe_int) (pg_sub (pv 0) pe_int set_list))
    (pss_one (ps_ret (pe_op op_mod (pe_op op_fdiv (pe_ix ix_list (pv 0) pe_int (fun _ _ => rfl)) pe_int) (pv 1))))), ?_⟩
  obtain ⟨d, c, n, rfl, ⟨hdc, xs, m, hd, hc, pos, len, m0⟩, n0, nb, q⟩ := h
  have at0 : atI [V.ref c, .int m] 0 = some (.ref c) := rfl
  have at1 : atI [V.ref c, .int m] 1 = some (.int m) := rfl
  refine ⟨_, rfl, d, _, 0, _, rfl, rfl, SqL.of hd, at0, (by show 0 ≤ sizeLine; decide), fun p hp => ?_⟩
  have dp : d ≠ p := ne_of_none hd hp
  have cp : c ≠ p := ne_of_none hc hp
  have same : Same H (upd H p (.lst [])) := fun b o e => by rw [upd_ne (ne_of_none e hp)]; exact e
  have hd1 := same _ _ hd
  have hc1 := same _ _ hc
  have hp1 : upd H p (HO.lst []) p = some (HO.lst []) := upd_same
  have wd : CDivW (xs.getLast?.getD 0) n := wide_div n0 nb (by decide) (by decide)
  generalize upd H p (.lst []) = H1 at same hd1 hc1 hp1
  refine ⟨.list (xs.map PyData.int), .list [], dpInts (SqL.of hc1), .lst (SqL.of hp1) .nil, shapedInts xs, by decide +kernel, _, rfl, ?_⟩
  refine ite2 (fun t => ?_) (fun t => ?_)
  · have ne : xs ≠ [] := by
      intro z
      subst z
      revert t
      decide +kernel
    obtain ⟨y, hy⟩ : ∃ y, xs[xs.length - 1]? = some y := by
      have hp : 0 < xs.length := List.length_pos_iff.mpr ne
      exact ⟨xs[xs.length - 1], List.getElem?_eq_getElem (by omega)⟩
    have ym : y ∈ xs := List.mem_of_getElem? hy
    have y0 := pos y ym
    have hy1 : (xs.map V.int)[(xs.map V.int).length - 1]? = some (V.int y) := by rw [List.length_map, List.getElem?_map, hy]; rfl
    have ne1 : xs.map V.int ≠ [] := by simpa using ne
    have at2 := atI_last hy1 ne1
    have wy : CDivW y n := wide_div n0 nb (by decide) (by decide)
    have r0 : 0 ≤ y % n := Int.emod_nonneg _ (by omega)
    have rn : y % n < n := Int.emod_lt_of_pos _ n0
    refine ⟨_, rfl, d, _, 0, _, rfl, rfl, SqL.of hd1, at0, _, rfl, d, _, 0, _, rfl, rfl, SqL.of hd1, at0, c, _, rfl, .inl (SqL.of hc1), _, _, rfl, rfl, c, _, _, _, rfl, rfl, SqL.of hc1, at2, ?_⟩
    refine ⟨_, rfl, _, rfl, _, _, rfl, rfl, n0, ?_⟩
    refine ⟨_, rfl, _, rfl, _, _, rfl, rfl, wy, _, _, rfl, rfl, _, rfl, ?_⟩
    refine ite2 (fun g => ?_) (fun g => ?_)
    · have g0 : 0 < y / n := of_decide_eq_true g
      have hl := List.length_pos_iff.mpr ne1
      have ix : ixN (xs.map V.int).length (((xs.map V.int).length : Int) - 1) = some ((xs.map V.int).length - 1) := by
        unfold ixN
        rw [if_pos (by omega), if_pos (by omega)]
        exact congrArg some (by omega)
      refine ⟨_, rfl, _, rfl, _, _, rfl, rfl, wy, _, rfl, d, _, 0, _, rfl, rfl, SqL.of hd1, at0, _, rfl, d, _, 0, _, rfl, rfl, SqL.of hd1, at0, c, _, rfl, .inl (SqL.of hc1), _, _, rfl, rfl, c, _, _, _, rfl, rfl, hc1, ix, _, rfl, ?_⟩
      refine q _ _ r0 rn ⟨hdc, xs.set ((xs.map V.int).length - 1) (y / n), m, ?_, ?_, ?_, ?_, m0⟩ (fun b o b1 b2 e => ?_)
      · rw [upd_ne hdc]
        exact hd1
      · rw [upd_same, List.map_set]
      · intro x hx
        rcases List.mem_or_eq_of_mem_set hx with z | z
        · exact pos x z
        · rw [z]
          exact g0
      · rw [List.length_set]
        exact len
      · rw [upd_ne b2]
        exact same b o e
    · refine ⟨_, rfl, d, _, 0, _, rfl, rfl, SqL.of hd1, at0, .inl ⟨rfl, _, SqL.of hc1⟩, c, _, _, rfl, rfl, hc1, hy1, _, rfl, ?_⟩
      refine q _ _ r0 rn ⟨hdc, xs.dropLast, m, ?_, ?_, ?_, ?_, m0⟩ (fun b o b1 b2 e => ?_)
      · rw [upd_ne hdc]
        exact hd1
      · rw [upd_same, List.map_dropLast]
      · intro x hx
        exact pos x (List.dropLast_subset _ hx)
      · rw [List.length_dropLast]
        omega
      · rw [upd_ne b2]
        exact same b o e
  · refine ⟨_, rfl, d, _, 1, _, rfl, rfl, SqL.of hd1, at1, _, _, rfl, rfl, .inr (by decide), _, _, rfl, rfl, _, _, rfl, rfl, (by show (0 : Int) < 2147483647; decide), _, rfl, d, _, 1, 1, rfl, rfl, hd1, rfl, ?_⟩
    have z0 : (0 : Int) ≤ (m * 48271 + 11) % 2147483647 := Int.emod_nonneg _ (by decide)
    have e1 : [V.ref c, .int m].set 1 (.int ((m * 48271 + 11) % 2147483647)) = [V.ref c, .int ((m * 48271 + 11) % 2147483647)] := rfl
    rw [e1]
    generalize (m * 48271 + 11) % 2147483647 = m1 at z0
    have at3 : atI [V.ref c, .int m1] 1 = some (.int m1) := rfl
    refine ⟨_, rfl, d, _, 1, _, rfl, rfl, SqL.of upd_same, at3, _, _, rfl, rfl, ⟨by decide, by decide⟩, _, rfl, _, _, rfl, rfl, n0, ?_⟩
    refine q _ _ (Int.emod_nonneg _ (by omega)) (Int.emod_lt_of_pos _ n0) ⟨hdc, xs, m1, upd_same, ?_, pos, len, z0⟩ (fun b o b1 b2 e => ?_)
    · rw [upd_ne (Ne.symm hdc)]
      exact hc1
    · rw [upd_ne b1]
      exact same b o e
end
end L2.Und
end

section
set_option Elab.async false
set_option linter.all false
set_option maxRecDepth 100000
set_option maxHeartbeats 4000000
namespace L2.Und
open PySem PySem.Spec PyProof.Rows _root_.Und
section
variable {P : Program} {w : World} {K : PySem.W.Frag} {mg : Str → Option Value} {base : Heap}
theorem okDeal {f : Addr} {fd : FuncData} (F : Fun K "_law_deal" "_law_deal" sDeal f fd) (mm : mg "max" = none) : FnOk P w K mg base CX0 1 f fd ["_law_script", "_law_base"] (spDeal K) := by
  refine F.ok scDeal (fun vs H Q E h => ?_) (fun cdv A outer s H vs Q E hr h => ?_)
  · obtain ⟨a, ns, b, rfl, _⟩ := h
    rfl
  refine ⟨_, pss_cons (ps_setLc (i := 3) (own := [("_law_cell", 2)]) (g := gName 2) (tt := tYes) rfl scDeal.nd rfl rfl (sw_true rfl rfl rfl (by decide +kernel))
        (pi_list (pe_slice sl_list (pv 0) (po_some (pv 1)) (po_some pe_int))) (blkOk_by (N := nDeal) (sc := defScope sDeal) (by decide +kernel))
        (fun _ _ _ _ _ => pg_name (i := 2) scDeal.nd rfl (Or.inl rfl)) (fun _ _ _ _ _ => pts_nil)
        (fun _ _ _ _ _ => pe_callB (call_max2 rfl) rfl mm PyProof.Rows.Boot.«max» (pa_cons (pv 2) (pa_cons (pe_op op_sub pe_int (pv 2)) pa_nil))))
    (pss_cons (ps_set (i := 4) scDeal.nd rfl (Or.inl rfl) (pe_op op_add pe_int (pe_op op_mul pe_int (pv 1))))
    (pss_cons (ps_for PassesOwn.never rfl (pi_list (pv 3)) (pg_name (i := 2) scDeal.nd rfl (Or.inl rfl))
        (pss_one (ps_set (i := 4) scDeal.nd rfl (Or.inl rfl) (pe_op op_mod (pe_op op_add (pe_op op_mul (pv 4) pe_int) (pe_op op_mod (pv 2) pe_int)) pe_int))))
    (pss_one (ps_ret (pe_lst (pa_cons (pe_revL (pe_lc (own := [("_law_cell", 2)]) (g := gName 2) rfl scDeal.nd (pi_list (pv 3)) (blkOk_by (N := nDeal) (sc := defScope sDeal) (by decide +kernel))
        (fun _ _ _ _ _ => pg_name (i := 2) scDeal.nd rfl (Or.inl rfl)) (fun _ _ _ _ _ => pts_one (pt_cmpR op_ge (pv 2) (pe_op op_pow pe_int pe_int) (nomark _)))
        (fun _ _ _ _ _ => pv 2))) (pa_cons (pv 4) pa_nil))))))), ?_⟩
  obtain ⟨a, ns, b, rfl, hS, h63, b0, b1, q⟩ := h
  obtain ⟨zs, hz, hzl⟩ := cut_ints ns (some b) (some 63)
  refine ⟨_, rfl, _, rfl, _, rfl, _, rfl, a, _, rfl, hS, fun p hp => ?_⟩
  rw [hz]
  have s0 : Same H (upd H p (.lst (zs.map V.int))) := sameNew hp
  refine ⟨p, rfl, ⟨_, SqL.of upd_same⟩, fun D hD => ?_⟩
  have hp1 : upd H p (HO.lst (zs.map V.int)) p = some (.lst (zs.map V.int)) := upd_same
  generalize upd H p (.lst (zs.map V.int)) = H1 at s0 hD hp1
  refine lc_list (K := K) (a := p) (xs := zs.map V.int) (fun i H' => Same H1 H' ∧ H' D = some (.lst ((zs.take i).map fun x => V.int (absI x)))) ⟨sameNew hD, upd_same⟩
    (fun i H' _ h => SqL.of (h.1 _ _ hp1)) ?_ ?_
  · rintro i x H' hx ⟨g1, g2⟩
    obtain ⟨z, hz, rfl⟩ : ∃ z, zs[i]? = some z ∧ x = V.int z := by
      rw [List.getElem?_map] at hx
      cases e : zs[i]? with
      | none => rw [e] at hx; cases hx
      | some z => rw [e] at hx; exact ⟨z, rfl, (Option.some.inj hx).symm⟩
    refine ⟨rfl, _, rfl, _, rfl, _, _, rfl, rfl, _, _, rfl, _, g2, ?_, ?_, ?_⟩
    · rw [List.length_map]
      exact Nat.lt_of_le_of_lt (Nat.le_trans (List.length_take_le' _ _) (Nat.le_trans hzl h63)) (by decide)
    · intro b' o e
      rw [upd_ne (ne_of_none e hD)]
      exact g1 b' o e
    · rw [upd_same, List.take_succ, hz, List.map_append]
      rfl
  · rintro H2 ⟨g1, g2⟩
    rw [List.length_map, List.take_length] at g2
    have g2 : H2 D = some (.lst ((zs.map absI).map V.int)) := by rw [g2, List.map_map]; rfl
    have s2 : Same H H2 := s0.trans g1
    have nn : ∀ x ∈ zs.map absI, 0 ≤ x := by
      intro x hx
      obtain ⟨z, _, rfl⟩ := List.mem_map.mp hx
      exact absI_nn z
    have nl : (zs.map absI).length ≤ 63 := by rw [List.length_map]; exact Nat.le_trans hzl h63
    generalize zs.map absI = ys at g2 nn nl
    refine ⟨_, rfl, _, _, rfl, rfl, .inl ⟨by decide, by decide⟩, _, _, rfl, rfl, ?_⟩
    refine ⟨_, rfl, D, rfl, ⟨_, SqL.of g2⟩, for_list (K := K) (a := D) (xs := ys.map V.int)
      (fun _ σ H' => H' = H2 ∧ ∃ (v : Option V) (m : Int), σ = [some (.ref a), some (.int b), v, some (.ref D), some (.int m)] ∧ 0 ≤ m) ⟨rfl, none, _, rfl, by omega⟩
      (fun i σ H' _ h => by rw [h.1]; exact SqL.of g2) ?_ ?_⟩
    · rintro i x σ H' hx ⟨rfl, v, m, rfl, m0⟩
      obtain ⟨z, rfl⟩ : ∃ z, x = V.int z := by
        rw [List.getElem?_map] at hx
        cases e : ys[i]? with
        | none => rw [e] at hx; cases hx
        | some z => rw [e] at hx; exact ⟨z, (Option.some.inj hx).symm⟩
      refine ⟨_, rfl, _, _, rfl, rfl, .inr ⟨by decide, by decide⟩, _, rfl, _, _, rfl, rfl, (by show (0 : Int) < 2147483629; decide), _, _, rfl, rfl, _, _, rfl, rfl, (by show (0 : Int) < 2147483647; decide), ?_⟩
      exact ⟨rfl, _, _, rfl, Int.emod_nonneg _ (by decide)⟩
    · rintro σ H' ⟨rfl, v, m, rfl, m0⟩
      refine ⟨_, rfl, D, rfl, ⟨_, SqL.of g2⟩, fun D2 hD2 => ?_⟩
      refine lc_list (K := K) (a := D) (xs := ys.map V.int) (fun i H3 => Same H' H3 ∧ ∃ us : List Int, H3 D2 = some (.lst (us.map V.int)) ∧ us.length ≤ i ∧ ∀ x ∈ us, 0 < x) ⟨sameNew hD2, [], upd_same, Nat.le_refl _, fun x hx => nomatch hx⟩
        (fun i H3 _ h => SqL.of (h.1 _ _ g2)) ?_ ?_
      · rintro i x H3 hx ⟨k1, us, k2, k3, k4⟩
        obtain ⟨z, hz, rfl⟩ : ∃ z, ys[i]? = some z ∧ x = V.int z := by
          rw [List.getElem?_map] at hx
          cases e : ys[i]? with
          | none => rw [e] at hx; cases hx
          | some z => rw [e] at hx; exact ⟨z, rfl, (Option.some.inj hx).symm⟩
        refine ⟨rfl, _, rfl, _, _, rfl, rfl, ⟨by decide, by decide, by decide⟩, _, _, rfl, rfl, _, rfl, ?_⟩
        refine ite2 (fun t => ?_) (fun t => ?_)
        · have t0 : (10 : Int) ^ (18 : Int).toNat ≤ z := of_decide_eq_true t
          refine ⟨_, rfl, _, k2, ?_, ?_, us ++ [z], ?_, ?_, ?_⟩
          · have := (List.getElem?_eq_some_iff.mp hz).1
            rw [List.length_map]
            exact Nat.lt_of_le_of_lt (Nat.le_trans k3 (by omega : i ≤ 63)) (by decide)
          · intro b' o e
            rw [upd_ne (ne_of_none e hD2)]
            exact k1 b' o e
          · rw [upd_same, List.map_append]
            rfl
          · rw [List.length_append, List.length_singleton]
            omega
          · intro x hx
            rcases List.mem_append.mp hx with hx | hx
            · exact k4 x hx
            · rw [List.mem_singleton.mp hx]
              exact Int.lt_of_lt_of_le (by decide) t0
        · exact ⟨k1, us, k2, by omega, k4⟩
      · rintro H3 ⟨k1, us, k2, k3, k4⟩
        rw [List.length_map] at k3
        refine ⟨D2, _, rfl, SqL.of k2, fun c hc => ⟨_, rfl, (by show 2 ≤ sizeLine; decide), fun d hd => ?_⟩⟩
        have dc : d ≠ c := fun z => by
          rw [z, upd_same] at hd
          cases hd
        have hd3 : H3 d = none := by rw [upd_ne dc] at hd; exact hd
        have sF : Same H (upd (upd H3 c (.lst (us.map V.int).reverse)) d (.lst [.ref c, .int m])) := s2.trans (k1.trans ((sameNew hc).trans (sameNew hd)))
        refine q d c _ sF ((s2.trans k1).free hd3) ((s2.trans k1).free hc) ⟨dc, us.reverse, m, upd_same, ?_, ?_, ?_, m0⟩
        · rw [upd_ne (Ne.symm dc), upd_same, List.map_reverse]
        · intro x hx
          exact k4 x (List.mem_reverse.mp hx)
        · rw [List.length_reverse]
          omega
end
end L2.Und
end

section
set_option Elab.async false
set_option linter.all false
set_option maxRecDepth 100000
set_option maxHeartbeats 4000000
namespace L2.Und
open PySem PySem.Spec PyProof.Rows _root_.Und
abbrev sMixed : Stmt := topS 60
abbrev nMixed : List Str := ["_law_deal_here", "_law_items", "_law_left", "_law_found"]
theorem scMixed : FnScope nMixed ["_law_deal_here", "_law_items"] (defScope sMixed) := ⟨rfl, rfl, rfl, by decide +kernel, rfl, by decide +kernel, by decide +kernel⟩
/-- the items in some order -/
def spMixed (K : PySem.W.Frag) : Sp := fun vs H Q _ => ∃ (d c a : Addr) (xs : List V), vs = [.ref d, .ref a] ∧ Deal H d c ∧ (SqL K H a xs ∨ SqT K H a xs) ∧ Off K d c H xs ∧ xs.length ≤ 1000 ∧
  ∀ (r : Addr) (ys : List V) (H' : Hp), H r = none → Deal H' d c → Kept d c H H' → H' r = some (.lst ys) → ys.Perm xs → Q (.ref r) H'
section
variable {P : Program} {w : World} {K : PySem.W.Frag} {mg : Str → Option Value} {base : Heap}
theorem okMixed {f fD : Addr} {fd fdD : FuncData} (F : Fun K "_law_mixed" "_law_mixed" sMixed f fd)
    (GD : FnOk P w K mg base CX0 1 fD fdD ["_law_deal_here", "_law_many"] spDraw) (mD : mg "_law_draw" = some (.ref fD)) (kD : PySem.W.keepIn K (.ref fD) = true) (bD : Binds K fdD ["_law_deal_here", "_law_many"] [])
    (mN : mg "len" = none) (mL : mg "list" = none) : FnOk P w K mg base CX0 2 f fd ["_law_deal_here", "_law_items"] (spMixed K) := by
  refine F.ok scMixed (fun vs H Q E h => ?_) (fun cdv A outer s H vs Q E hr h => ?_)
  · obtain ⟨d, c, a, xs, rfl, _⟩ := h
    rfl
  have hu : (A.deeper (envOfC "_law_mixed" (defScope sMixed) s.heap.objs.size f cdv)).units + 64 < cLine := by have := hr.un; omega
  refine ⟨_, pss_cons (ps_par (i := 2) (j := 3) rfl scMixed.nd rfl rfl (by decide) rfl rfl (pa_cons (pe_callTy call_list_of rfl mL PyProof.Rows.Boot.«list» (pa_cons (pv 1) pa_nil)) (pa_cons (pe_lst pa_nil) pa_nil)) rfl)
    (pss_cons (ps_while PassesOwn.never (pt_cmpR (op_neD hu) (pv 2) (pe_lst pa_nil) (nomark _))
      (pss_one (ps_expr (pe_bm PySem.F.plainAttrs_list PySem.F.slot_list_append PySem.F.type_list_append mt_append (pv 3)
        (pa_cons (pe_bm PySem.F.plainAttrs_list PySem.F.slot_list_pop PySem.F.type_list_pop mt_popAt (pv 2)
          (pa_cons (pe_call GD hr rfl mD kD bD .nil pass0 (pa_cons (pv 0) (pa_cons (pe_callB call_len_seq rfl mN PySem.boot_len (pa_cons (pv 2) pa_nil)) pa_nil))) pa_nil)) pa_nil)))))
    (pss_one (ps_ret (pv 3)))), ?_⟩
  obtain ⟨d, c, a, xs, rfl, hD, hS, hO, hl, q⟩ := h
  refine ⟨_, rfl, a, xs, rfl, hS, fun l hl1 => ?_⟩
  have s1 := sameNew (o := .lst xs) hl1
  have e1 : upd H l (HO.lst xs) l = some (.lst xs) := upd_same
  generalize upd H l (.lst xs) = H1 at s1 e1
  refine ⟨(by show 0 ≤ sizeLine; decide), fun r hr1 => ?_⟩
  have s2 := sameNew (o := .lst []) hr1
  have e2 : upd H1 r (HO.lst []) r = some (.lst []) := upd_same
  have lr : l ≠ r := ne_of_none e1 hr1
  have e1' := s2 _ _ e1
  generalize upd H1 r (.lst []) = H2 at s2 e2 e1'
  have s12 := s1.trans s2
  have hr0 : H r = none := s1.free hr1
  have ld := hD.ned hl1
  have lc := hD.nec hl1
  have rd := (hD.same s1).ned hr1
  have rc := (hD.same s1).nec hr1
  refine ⟨_, _, rfl, while_by (fun σ H' => ∃ ls ys : List V, σ = [some (.ref d), some (.ref a), some (.ref l), some (.ref r)] ∧ H' l = some (.lst ls) ∧ H' r = some (.lst ys) ∧ (ys ++ ls).Perm xs ∧ Deal H' d c ∧ Kept d c H H')
    (fun _ H' => match H' l with | some (.lst ls) => ls.length | _ => 0) ⟨xs, [], rfl, e1', e2, by simp, hD.same s12, .of s12⟩ ?_ ?_⟩
  · rintro σ H3 ⟨ls, ys, rfl, g1, g2, g3, g4, g5⟩
    refine ⟨_, rfl, (by show 0 ≤ sizeLine; decide), fun p hp => ?_⟩
    have s3 := sameNew (o := .lst []) hp
    have hp1 : upd H3 p (HO.lst []) p = some (.lst []) := upd_same
    have g1' := s3 _ _ g1
    have g2' := s3 _ _ g2
    have g4' := g4.same s3
    have g5' := g5.trans (.of s3)
    generalize upd H3 p (.lst []) = H4 at s3 hp1 g1' g2' g4' g5'
    have O4 : Off K d c H4 ls := (hO.kept g5').sub fun y hy => g3.mem_iff.mp (List.mem_append_right _ hy)
    obtain ⟨ds, q1, q2, q3⟩ := O4.list (SqL.of g1')
    refine ⟨.list ds, .list [], q1, .lst (SqL.of hp1) .nil, q2, by decide +kernel, _, rfl, ?_⟩
    have ll : (ys ++ ls).length = xs.length := g3.length_eq
    rw [List.length_append] at ll
    have emp : (!PyData.eqv (.list ds) (.list [])) = !ls.isEmpty := by
      rw [eqvNil]
      cases ds <;> cases ls <;> first | rfl | cases q3
    show if (!PyData.eqv (.list ds) (.list [])) = true then _ else _
    rw [emp]
    cases ls with
    | nil =>
      refine iteF ?_
      refine ⟨_, rfl, ?_⟩
      rw [List.append_nil] at g3
      exact q r ys H4 hr0 g4' g5' g2' g3
    | cons y0 ls0 =>
      refine iteT ?_
      refine ⟨_, rfl, .inl ⟨rfl, _, SqL.of g2'⟩, _, rfl, .inl ⟨rfl, _, SqL.of g1'⟩, _, rfl, _, rfl, l, _, rfl, .inl (SqL.of g1'), d, c, _, rfl, g4', ?_, ?_, fun z H5 z0 z1 hD5 k5 => ?_⟩
      · show (0 : Int) < (((y0 :: ls0).length : Nat) : Int)
        rw [List.length_cons]
        omega
      · show (((y0 :: ls0).length : Nat) : Int).natAbs < 2 ^ 200
        have : (y0 :: ls0).length < 2 ^ 200 := Nat.lt_of_le_of_lt (by omega : (y0 :: ls0).length ≤ 1000) (by decide)
        omega
      · obtain ⟨k, rfl⟩ : ∃ k : Nat, z = (k : Int) := ⟨z.toNat, by omega⟩
        have kl : k < (y0 :: ls0).length := by
          have z2 : (k : Int) < (((y0 :: ls0).length : Nat) : Int) := z1
          omega
        have hk := List.getElem?_eq_getElem kl
        have l5 : H5 l = some (.lst (y0 :: ls0)) := k5 _ _ ld lc g1'
        have r5 : H5 r = some (.lst ys) := k5 _ _ rd rc g2'
        have ix : seqIndex? (k : Int) (y0 :: ls0).length = some k := seqIndex_of (Int.natCast_nonneg k) (Int.ofNat_lt.mpr kl)
        refine ⟨l, y0 :: ls0, (k : Int), k, _, rfl, rfl, l5, by omega, ?_, ix, hk, r, ys, _, rfl, rfl, ?_, ?_, ?_⟩
        · have : (2 : Int) ^ 63 = 9223372036854775808 := by decide
          omega
        · rw [upd_ne lr.symm]
          exact r5
        · exact small1000 (by omega)
        have el : ((y0 :: ls0).eraseIdx k).length + 1 = (y0 :: ls0).length := by
          rw [List.length_eraseIdx_of_lt kl]
          omega
        refine ⟨⟨(y0 :: ls0).eraseIdx k, ys ++ [(y0 :: ls0)[k]], rfl, ?_, upd_same, ?_, ?_, ?_⟩, ?_⟩
        · rw [upd_ne lr]
          exact upd_same
        · have pm : ((y0 :: ls0)[k] :: (y0 :: ls0).eraseIdx k).Perm (y0 :: ls0) := permErase kl
          rw [List.append_assoc]
          exact (List.Perm.append_left ys pm).trans g3
        · obtain ⟨ne, us, m', w1, w2, z⟩ := hD5
          exact ⟨ne, us, m', by rw [upd_ne rd.symm, upd_ne ld.symm]; exact w1, by rw [upd_ne rc.symm, upd_ne lc.symm]; exact w2, z⟩
        · intro b o b1 b2 e
          rw [upd_ne (ne_of_none e hr0), upd_ne (ne_of_none e hl1)]
          exact k5 b o b1 b2 (g5' b o b1 b2 e)
        · show (match upd (upd H5 l _) r _ l with | some (.lst ls) => ls.length | _ => 0) < (match H3 l with | some (.lst ls) => ls.length | _ => 0)
          rw [g1, upd_ne lr, upd_same]
          show ((y0 :: ls0).eraseIdx k).length < (y0 :: ls0).length
          omega
  · intro σ H' Q Q' k z
    obtain ⟨v, e, sz, z⟩ := z
    refine ⟨v, e, sz, fun p hp => ?_⟩
    obtain ⟨a1, a2, h1, h2, h3, h4, b, hb, z'⟩ := z p hp
    exact ⟨a1, a2, h1, h2, h3, h4, b, hb, k _ _ z'⟩
end
end L2.Und
end

section
set_option Elab.async false
set_option linter.all false
set_option maxRecDepth 100000
set_option maxHeartbeats 4000000
namespace L2.Und
open PySem PySem.Spec PyProof.Rows _root_.Und
/-! ### the names of kinds that the laws draw -/
def sg (x : Nat) : Str := ⟨#[x]⟩
abbrev abcS : Str := "abcdefghijklmnopqrstuvwxyz"
abbrev oddS : Str := "kqzjxv"
abbrev words12 : List Str := ["free", "kinds", "main", "do", "out", "move", "row", "form", "root", "count", "join", "undo"]
def goodB (ss : List Str) (n : Nat) : Bool := decide (ss.length = n) && decide ss.Nodup && ss.all IsName && decide (("zqzqzq" : Str) ∉ ss) && ss.all fun s => decide (s.cps.toList.take 4 ≠ [113, 122, 113, 122])
theorem goodB_is {ss : List Str} {n : Nat} (h : goodB ss n = true) : GoodNames ss n := by
  unfold goodB at h
  rw [Bool.and_eq_true, Bool.and_eq_true, Bool.and_eq_true, Bool.and_eq_true, decide_eq_true_eq, decide_eq_true_eq, decide_eq_true_eq] at h
  exact ⟨h.1.1.1.1, h.1.1.1.2, fun s hs => List.all_eq_true.mp h.1.1.2 s hs, h.1.2, fun s hs => of_decide_eq_true (List.all_eq_true.mp h.2 s hs)⟩
theorem GoodNames.take {ss : List Str} {m n : Nat} (g : GoodNames ss m) (h : n ≤ m) : GoodNames (ss.take n) n :=
  ⟨by rw [List.length_take, g.len]; omega, g.nd.sublist (List.take_sublist n ss), fun s hs => g.nm s (List.mem_of_mem_take hs), fun m => g.zq (List.mem_of_mem_take m), fun s hs => g.qz s (List.mem_of_mem_take hs)⟩
theorem GoodNames.perm {ss zs : List Str} {n : Nat} (g : GoodNames ss n) (h : zs.Perm ss) : GoodNames zs n :=
  ⟨h.length_eq.trans g.len, h.nodup_iff.mpr g.nd, fun s hs => g.nm s (h.mem_iff.mp hs), fun m => g.zq (h.mem_iff.mp m), fun s hs => g.qz s (h.mem_iff.mp hs)⟩
theorem abc_at {i : Nat} (h : i < 26) : atI abcS.cps.toList ((i : Nat) : Int) = some (97 + i) := by
  have e : abcS.cps.toList = (List.range 26).map (97 + ·) := by decide +kernel
  rw [e]
  refine atI_nat ?_
  rw [List.getElem?_map, List.getElem?_range h]
  rfl
def base1 (t n : Nat) : List Str := (List.range n).map fun k => sg (97 + (t + 7 * k) % 26)
def base2 (t n : Nat) : List Str := (List.range n).map fun k => sg (97 + (t + 7 * (k / 6)) % 26) ++ cutS oddS none (some ((k % 6 : Nat) : Int))
theorem base1_take {t n : Nat} (h : n ≤ 12) : base1 t n = (base1 t 12).take n := by
  unfold base1
  rw [← List.map_take, List.take_range, Nat.min_eq_left h]
theorem base2_take {t n : Nat} (h : n ≤ 12) : base2 t n = (base2 t 12).take n := by
  unfold base2
  rw [← List.map_take, List.take_range, Nat.min_eq_left h]
theorem all1 : ((List.range 26).all fun t => goodB (base1 t 12) 12) = true := by decide +kernel
theorem all2 : ((List.range 26).all fun t => goodB (base2 t 12) 12) = true := by decide +kernel
theorem all3 : ((List.range 12).all fun a => (List.range 13).all fun n => goodB (((words12 ++ words12).drop a).take n) n) = true := by decide +kernel
theorem good1 {t n : Nat} (h : t < 26) (hn : n ≤ 12) : GoodNames (base1 t n) n := by
  rw [base1_take hn]
  exact (goodB_is (List.all_eq_true.mp all1 t (List.mem_range.mpr h))).take hn
theorem good2 {t n : Nat} (h : t < 26) (hn : n ≤ 12) : GoodNames (base2 t n) n := by
  rw [base2_take hn]
  exact (goodB_is (List.all_eq_true.mp all2 t (List.mem_range.mpr h))).take hn
theorem good3 {a n : Nat} (h : a < 12) (hn : n ≤ 12) : GoodNames (((words12 ++ words12).drop a).take n) n :=
  goodB_is (List.all_eq_true.mp (List.all_eq_true.mp all3 a (List.mem_range.mpr h)) n (List.mem_range.mpr (by omega)))
theorem base1_len (t n : Nat) : (base1 t n).length = n := by
  unfold base1
  rw [List.length_map, List.length_range]
theorem base2_len (t n : Nat) : (base2 t n).length = n := by
  unfold base2
  rw [List.length_map, List.length_range]
theorem base1_succ (t n : Nat) : base1 t (n + 1) = base1 t n ++ [sg (97 + (t + 7 * n) % 26)] := by
  unfold base1
  rw [List.range_succ, List.map_append]
  rfl
theorem base2_succ (t n : Nat) : base2 t (n + 1) = base2 t n ++ [sg (97 + (t + 7 * (n / 6)) % 26) ++ cutS oddS none (some ((n % 6 : Nat) : Int))] := by
  unfold base2
  rw [List.range_succ, List.map_append]
  rfl
theorem base1_size {t n : Nat} : ∀ s ∈ base1 t n, s.cps.size = 1 := by
  intro s hs
  obtain ⟨k, _, rfl⟩ := List.mem_map.mp hs
  rfl
/-! a stem round a letter -/
theorem strAll {p : Nat → Bool} {s t : Str} : (s ++ t).cps.all p = (s.cps.all p && t.cps.all p) := by
  show (s.cps ++ t.cps).all p = _
  rw [Array.all_append]
theorem strSize (s t : Str) : (s ++ t).cps.size = s.cps.size + t.cps.size := by
  show (s.cps ++ t.cps).size = _
  rw [Array.size_append]
theorem wrap_inj {p q s t : Str} (h : (p ++ s) ++ q = (p ++ t) ++ q) : s = t := by
  have h : p.cps ++ s.cps ++ q.cps = p.cps ++ t.cps ++ q.cps := congrArg Str.cps h
  have h := congrArg Array.toList h
  simp only [Array.toList_append] at h
  have h1 := List.append_cancel_right h
  have h2 := List.append_cancel_left h1
  cases s; cases t
  exact congrArg Str.mk (Array.toList_inj.mp h2)
def letters (s : Str) : Bool := s.cps.all fun x => decide (97 ≤ x) && decide (x ≤ 122)
theorem name_letters {s : Str} (h : IsName s = true) : letters s = true := by
  unfold IsName at h
  rw [Bool.and_eq_true] at h
  exact h.2
theorem name_of {s : Str} (h1 : 1 ≤ s.cps.size) (h2 : s.cps.size ≤ 6) (h : letters s = true) : IsName s = true := by
  unfold IsName
  rw [Bool.and_eq_true, Bool.and_eq_true, decide_eq_true_eq, decide_eq_true_eq]
  exact ⟨⟨h1, h2⟩, h⟩
theorem nodup_map_inj {α β : Type} {f : α → β} (hf : ∀ a b, f a = f b → a = b) : ∀ {l : List α}, l.Nodup → (l.map f).Nodup
  | [], _ => List.nodup_nil
  | a :: l, h => by
    rw [List.nodup_cons] at h
    rw [List.map_cons, List.nodup_cons]
    refine ⟨fun m => ?_, nodup_map_inj hf h.2⟩
    obtain ⟨b, hb, e⟩ := List.mem_map.mp m
    exact h.1 (hf _ _ e ▸ hb)
/-- letters from the front of the alphabet -/
def lowB (s : Str) : Bool := s.cps.all fun x => decide (x ≤ 112)
theorem wrap_zq {p s q : Str} (hp : lowB p = true) (hq : lowB q = true) (hs : s.cps.size = 1) : (p ++ s) ++ q ≠ ("zqzqzq" : Str) := by
  intro e
  have e := congrArg (fun z : Str => z.cps.toList) e
  have e : p.cps.toList ++ s.cps.toList ++ q.cps.toList = [122, 113, 122, 113, 122, 113] := by
    have z : (p ++ s ++ q).cps.toList = p.cps.toList ++ s.cps.toList ++ q.cps.toList := by
      show (p.cps ++ s.cps ++ q.cps).toList = _
      simp
    rw [← z]
    exact e.trans (by decide +kernel)
  have all : ∀ {r : Str}, lowB r = true → r.cps.toList.filter (fun x => decide (x ≤ 112)) = r.cps.toList := fun {r} h => by
    refine List.filter_eq_self.mpr fun x hx => ?_
    unfold lowB at h
    rw [← Array.all_toList] at h
    exact List.all_eq_true.mp h x hx
  have f := congrArg (fun l => (l.filter fun x => decide (x ≤ 112)).length) e
  simp only [List.filter_append, List.length_append, all hp, all hq] at f
  have f0 : (([122, 113, 122, 113, 122, 113] : List Nat).filter fun x => decide (x ≤ 112)).length = 0 := by decide
  rw [f0] at f
  have g := congrArg List.length e
  simp only [List.length_append, Array.length_toList, List.length_cons, List.length_nil] at f g
  omega
theorem wrap_qz {p s q : Str} (hp : lowB p = true) (hq : lowB q = true) (hs : s.cps.size = 1) : ((p ++ s) ++ q).cps.toList.take 4 ≠ [113, 122, 113, 122] := by
  intro e
  have z : (p ++ s ++ q).cps.toList = p.cps.toList ++ s.cps.toList ++ q.cps.toList := by
    show (p.cps ++ s.cps ++ q.cps).toList = _
    simp
  have none : ∀ {r : Str}, lowB r = true → r.cps.toList.filter (fun x => !decide (x ≤ 112)) = [] := fun {r} h => by
    refine List.filter_eq_nil_iff.mpr fun x hx => ?_
    unfold lowB at h
    rw [← Array.all_toList] at h
    have := List.all_eq_true.mp h x hx
    simpa using this
  have f := ((List.take_sublist 4 (p ++ s ++ q).cps.toList).filter fun x => !decide (x ≤ 112)).length_le
  rw [e, z, List.filter_append, List.filter_append, none hp, none hq, List.nil_append, List.append_nil] at f
  have f0 : (([113, 122, 113, 122] : List Nat).filter fun x => !decide (x ≤ 112)).length = 4 := by decide
  have f1 := List.length_filter_le (fun x => !decide (x ≤ 112)) s.cps.toList
  have hs' : s.cps.toList.length = 1 := by rw [Array.length_toList]; exact hs
  omega
theorem good_wrap {t n : Nat} {p q : Str} (h : t < 26) (hn : n ≤ 12) (hp : letters p = true) (hq : letters q = true) (hp' : lowB p = true) (hq' : lowB q = true) (sz : p.cps.size + q.cps.size ≤ 5) :
    GoodNames ((base1 t n).map fun s => (p ++ s) ++ q) n := by
  have g := good1 h hn
  refine ⟨by rw [List.length_map, g.len], nodup_map_inj (fun a b e => wrap_inj e) g.nd, fun s hs => ?_, fun m => ?_, fun s hs => ?_⟩
  rotate_left
  · obtain ⟨b, hb, e⟩ := List.mem_map.mp m
    exact wrap_zq hp' hq' (base1_size b hb) e
  · obtain ⟨b, hb, rfl⟩ := List.mem_map.mp hs
    exact wrap_qz hp' hq' (base1_size b hb)
  obtain ⟨b, hb, rfl⟩ := List.mem_map.mp hs
  have s1 := base1_size b hb
  refine name_of (by rw [strSize, strSize]; omega) (by rw [strSize, strSize]; omega) ?_
  have l := name_letters (g.nm b hb)
  unfold letters at hp hq l ⊢
  rw [strAll, strAll, hp, hq, l]
  rfl
theorem cut_letters {z : Str} (h : letters z = true) (lo hi : Option Int) : letters (cutS z lo hi) = true := by
  unfold letters at h ⊢
  rw [Array.all_eq_true'] at h ⊢
  intro x hx
  refine h x ?_
  unfold cutS at hx
  have hx : x ∈ ((z.cps.toList.drop (HT.sIx z.length 0 lo)).take (HT.sIx z.length z.length hi - HT.sIx z.length 0 lo)) := by simpa using hx
  have := List.mem_of_mem_drop (List.mem_of_mem_take hx)
  simpa using this
theorem cut_low {z : Str} (h : lowB z = true) (lo hi : Option Int) : lowB (cutS z lo hi) = true := by
  unfold lowB at h ⊢
  rw [← Array.all_toList, List.all_eq_true] at h ⊢
  intro x hx
  refine h x ?_
  unfold cutS at hx
  have hx : x ∈ ((z.cps.toList.drop (HT.sIx z.length 0 lo)).take (HT.sIx z.length z.length hi - HT.sIx z.length 0 lo)) := by simpa using hx
  exact List.mem_of_mem_drop (List.mem_of_mem_take hx)
theorem cut_sizes {z : Str} {a : Nat} (h : a ≤ z.cps.size) : (cutS z none (some (a : Int))).cps.size + (cutS z (some (a : Int)) none).cps.size = z.cps.size := by
  have l : z.length = z.cps.size := rfl
  unfold cutS
  simp only [List.size_toArray, List.length_take, List.length_drop, Array.length_toList, HT.sIx_nat, HT.sIx_none, l]
  omega
theorem name_ok {s : Str} (h : IsName s = true) : PyData.strOk s = true := by
  have l := name_letters h
  unfold letters at l
  unfold PyData.strOk
  rw [Array.all_eq_true'] at l ⊢
  intro x hx
  have := l x hx
  rw [Bool.and_eq_true, decide_eq_true_eq, decide_eq_true_eq] at this
  simp only [decide_eq_true_eq]
  omega
/-! a stem: letters joined by nothing -/
def One1 (y : Str) : Prop := letters y = true ∧ y.cps.size = 1 ∧ lowB y = true
theorem one1_sg {x : Nat} (h1 : 97 ≤ x) (h2 : x ≤ 112) : One1 (sg x) := by
  refine ⟨?_, rfl, ?_⟩
  · show (#[x].all fun x => decide (97 ≤ x) && decide (x ≤ 122)) = true
    have : x ≤ 122 := by omega
    simp [h1, this]
  · show (#[x].all fun x => decide (x ≤ 112)) = true
    simp [h2]
theorem joinStem : ∀ {ys : List Str}, (∀ y ∈ ys, One1 y) → letters (Str.join "" ys) = true ∧ (Str.join "" ys).cps.size = ys.length ∧ lowB (Str.join "" ys) = true
  | [], _ => ⟨by decide +kernel, by decide +kernel, by decide +kernel⟩
  | [x], h => h x List.mem_cons_self
  | x :: z :: r, h => by
    obtain ⟨i1, i2, i3⟩ := joinStem (ys := z :: r) fun y hy => h y (List.mem_cons_of_mem _ hy)
    obtain ⟨a1, a2, a3⟩ := h x List.mem_cons_self
    have e : Str.join "" (x :: z :: r) = (x ++ "") ++ Str.join "" (z :: r) := rfl
    rw [e]
    unfold letters at a1 i1 ⊢
    unfold lowB at a3 i3 ⊢
    refine ⟨?_, ?_, ?_⟩
    · rw [strAll, strAll, a1, i1]
      decide +kernel
    · rw [strSize, strSize, a2, i2]
      show 1 + 0 + (z :: r).length = (x :: z :: r).length
      simp only [List.length_cons]
      omega
    · rw [strAll, strAll, a3, i3]
      decide +kernel
theorem stem_ok {ys : List Str} (h : ∀ y ∈ ys, One1 y) : letters (Txt.join "" ys) = true ∧ (Txt.join "" ys).cps.size = ys.length ∧ lowB (Txt.join "" ys) = true := by
  rw [TL.join_eq]
  exact joinStem h
theorem sum_ones : ∀ {ys : List Str}, (∀ y ∈ ys, One1 y) → (ys.map (·.length)).sum = ys.length
  | [], _ => rfl
  | x :: r, h => by
    have i := sum_ones (ys := r) fun y hy => h y (List.mem_cons_of_mem _ hy)
    have a : x.length = 1 := (h x List.mem_cons_self).2.1
    rw [List.map_cons, List.sum_cons, i, a, List.length_cons]
    omega
theorem cutWords {a n : Nat} (ha : a < 12) (hn : n ≤ 12) : cutV (words12.map V.str ++ words12.map V.str) (some (a : Int)) (some ((a : Int) + (n : Int))) = (((words12 ++ words12).drop a).take n).map V.str := by
  have e : ((a : Int) + (n : Int)) = ((a + n : Nat) : Int) := by omega
  have l : (words12.map V.str ++ words12.map V.str).length = 24 := rfl
  unfold cutV
  rw [e, l, HT.sIx_nat, HT.sIx_nat, Nat.min_eq_left (by omega), Nat.min_eq_left (by omega), List.map_take, List.map_drop, List.map_append, show a + n - a = n by omega]
theorem permStr {ys : List V} {ss : List Str} (h : ys.Perm (ss.map V.str)) : ∃ zs : List Str, ys = zs.map V.str ∧ zs.Perm ss := by
  let bk : V → Str := fun v => match v with | .str s => s | _ => ""
  refine ⟨ys.map bk, ?_, ?_⟩
  · have all : ∀ y ∈ ys, V.str (bk y) = y := fun y hy => by
      obtain ⟨s, _, rfl⟩ := List.mem_map.mp (h.mem_iff.mp hy)
      rfl
    rw [List.map_map]
    exact (List.map_congr_left (g := id) all).symm ▸ (List.map_id ys).symm
  · have p := h.map bk
    rw [List.map_map] at p
    have e : ss.map (bk ∘ V.str) = ss := by
      have : (bk ∘ V.str) = id := rfl
      rw [this, List.map_id]
    rw [e] at p
    exact p
end L2.Und
end

section
set_option Elab.async false
set_option linter.all false
set_option maxRecDepth 100000
set_option maxHeartbeats 4000000
namespace L2.Und
open PySem PySem.Spec PyProof.Rows _root_.Und
abbrev sNames : Stmt := topS 61
abbrev nNames : List Str := ["_law_deal_here", "_law_many", "_law_letters", "_law_form_here", "_law_turn", "_law_found", "_law_spot", "_law_stem", "_law_words", "_law_k", "_law_letter"]
theorem scNames : FnScope nNames ["_law_deal_here", "_law_many"] (defScope sNames) := ⟨rfl, rfl, rfl, by decide +kernel, rfl, by decide +kernel, by decide +kernel⟩
def spNames : Sp := fun vs H Q _ => ∃ (d c : Addr) (n : Nat), vs = [.ref d, .int (n : Int)] ∧ Deal H d c ∧ 1 ≤ n ∧ n ≤ 12 ∧
  ∀ (r : Addr) (ss : List Str) (H' : Hp), H r = none → Deal H' d c → Kept d c H H' → H' r = some (.lst (ss.map V.str)) → GoodNames ss n → Q (.ref r) H'
def NamesMid (d c : Addr) (n : Nat) (r5 : Int) (t : Nat) (H : Hp) : L2.St → Hp → Prop := fun σ' H' => ∃ F ss x6 x7 x8 x9 x10, σ' = [some (.ref d), some (.int (n : Int)), some (.str abcS), some (.int r5), some (.int (t : Int)), some (.ref F), x6, x7, x8, x9, x10] ∧ H' F = some (.lst (ss.map V.str)) ∧ GoodNames ss n ∧ Deal H' d c ∧ Kept d c H H'
section
variable {P : Program} {w : World} {K : PySem.W.Frag} {mg : Str → Option Value} {base : Heap}
theorem okNames {f fD fM : Addr} {fd fdD fdM : FuncData} (F : Fun K "_law_names" "_law_names" sNames f fd)
    (GD : FnOk P w K mg base CX0 1 fD fdD ["_law_deal_here", "_law_many"] spDraw) (mD : mg "_law_draw" = some (.ref fD)) (kD : PySem.W.keepIn K (.ref fD) = true) (bD : Binds K fdD ["_law_deal_here", "_law_many"] [])
    (GM : FnOk P w K mg base CX0 2 fM fdM ["_law_deal_here", "_law_items"] (spMixed K)) (mM : mg "_law_mixed" = some (.ref fM)) (kM : PySem.W.keepIn K (.ref fM) = true) (bM : Binds K fdM ["_law_deal_here", "_law_items"] [])
    (mR : mg "range" = none) : FnOk P w K mg base CX0 3 f fd ["_law_deal_here", "_law_many"] spNames := by
  refine F.ok scNames (fun vs H Q E h => ?_) (fun cdv A outer s H vs Q E hr h => ?_)
  · obtain ⟨d, c, n, rfl, _⟩ := h
    rfl
  have hr1 : Room 1 (A.deeper (envOfC "_law_names" (defScope sNames) s.heap.objs.size f cdv)) := hr.mono (by decide)
  refine ⟨_, pss_cons (ps_asg (pe_tup (pa_cons pe_str (pa_cons (pe_call GD hr1 rfl mD kD bD .nil pass0 (pa_cons (pv 0) (pa_cons pe_int pa_nil))) (pa_cons (pe_call GD hr1 rfl mD kD bD .nil pass0 (pa_cons (pv 0) (pa_cons pe_int pa_nil))) pa_nil))))
        (pg_tup rfl (pgs_cons (pg_name (i := 2) scNames.nd rfl (Or.inr rfl)) (pgs_cons (pg_name (i := 3) scNames.nd rfl (Or.inl rfl)) (pgs_cons (pg_name (i := 4) scNames.nd rfl (Or.inr rfl)) pgs_nil)))))
    (pss_cons (ps_setLc (i := 5) (own := [("_law_k", 9)]) (g := gName 9) (tt := tYes) rfl scNames.nd rfl rfl (sw_true rfl rfl rfl (by decide +kernel))
        (pi_range1 rfl mR (pa_cons (pv 1) pa_nil)) (blkOk_by (N := nNames) (sc := defScope sNames) (by decide +kernel))
        (fun _ _ _ _ _ => pg_name (i := 9) scNames.nd rfl (Or.inl rfl)) (fun _ _ _ _ _ => pts_nil)
        (fun _ _ _ _ _ => pe_ix ix_str (pv 2) (pe_op op_mod (pe_op op_add (pv 4) (pe_op op_mul pe_int (pv 9))) pe_int) (fun _ _ => rfl)))
    (C8.pss_cut (ps_if (pt_cmpR op_eq (pv 3) pe_int (nomark _))
        (pss_cons (ps_asg (pe_tup (pa_cons (pe_call GD hr1 rfl mD kD bD .nil pass0 (pa_cons (pv 0) (pa_cons pe_int pa_nil)))
              (pa_cons (pe_join pe_str (pe_lc (own := [("_law_k", 9)]) (g := gName 9) (tt := tYes) rfl scNames.nd (pi_range1 rfl mR (pa_cons pe_int pa_nil)) (blkOk_by (N := nNames) (sc := defScope sNames) (by decide +kernel))
                (fun _ _ _ _ _ => pg_name (i := 9) scNames.nd rfl (Or.inl rfl)) (fun _ _ _ _ _ => pts_nil)
                (fun _ _ _ _ _ => pe_ix ix_str (pv 2) (pe_call GD hr1 rfl mD kD bD .nil pass0 (pa_cons (pv 0) (pa_cons pe_int pa_nil))) (fun _ _ => rfl)))) pa_nil)))
            (pg_tup rfl (pgs_cons (pg_name (i := 6) scNames.nd rfl (Or.inr rfl)) (pgs_cons (pg_name (i := 7) scNames.nd rfl (Or.inr rfl)) pgs_nil))))
        (pss_one (ps_setLc (i := 5) (own := [("_law_letter", 10)]) (g := gName 10) (tt := tYes) rfl scNames.nd rfl rfl (sw_true rfl rfl rfl (by decide +kernel))
            (pi_list (pv 5)) (blkOk_by (N := nNames) (sc := defScope sNames) (by decide +kernel))
            (fun _ _ _ _ _ => pg_name (i := 10) scNames.nd rfl (Or.inl rfl)) (fun _ _ _ _ _ => pts_nil)
            (fun _ _ _ _ _ => pe_op op_add_str (pe_op op_add_str (pe_slice sl_str (pv 7) po_none (po_some (pv 6))) (pv 10)) (pe_slice sl_str (pv 7) (po_some (pv 6)) po_none))))) pss_nil)
    (C8.pss_cut (ps_if (pt_cmpR op_eq (pv 3) pe_int (nomark _))
        (pss_one (ps_setLc (i := 5) (own := [("_law_k", 9)]) (g := gName 9) (tt := tYes) rfl scNames.nd rfl rfl (sw_true rfl rfl rfl (by decide +kernel))
            (pi_range1 rfl mR (pa_cons (pv 1) pa_nil)) (blkOk_by (N := nNames) (sc := defScope sNames) (by decide +kernel))
            (fun _ _ _ _ _ => pg_name (i := 9) scNames.nd rfl (Or.inl rfl)) (fun _ _ _ _ _ => pts_nil)
            (fun _ _ _ _ _ => pe_op op_add_str (pe_ix ix_str (pv 2) (pe_op op_mod (pe_op op_add (pv 4) (pe_op op_mul pe_int (pe_op op_fdiv (pv 9) pe_int))) pe_int) (fun _ _ => rfl))
                (pe_slice sl_str pe_str po_none (po_some (pe_op op_mod (pv 9) pe_int)))))) pss_nil)
    (C8.pss_cut (ps_if (pt_cmpR op_eq (pv 3) pe_int (nomark _))
        (pss_cons (ps_set (i := 8) scNames.nd rfl (Or.inl rfl) (pe_lst (pa_cons pe_str (pa_cons pe_str (pa_cons pe_str (pa_cons pe_str (pa_cons pe_str (pa_cons pe_str (pa_cons pe_str (pa_cons pe_str (pa_cons pe_str (pa_cons pe_str (pa_cons pe_str (pa_cons pe_str pa_nil))))))))))))))
        (pss_one (ps_set (i := 5) scNames.nd rfl (Or.inl rfl) (pe_slice sl_list (pe_op op_cat (pv 8) (pv 8)) (po_some (pe_op op_mod (pv 4) pe_int)) (po_some (pe_op op_add (pe_op op_mod (pv 4) pe_int) (pv 1))))))) pss_nil)
    (pss_one (ps_ret (pe_call GM (hr.mono (by decide)) rfl mM kM bM .nil pass0 (pa_cons (pv 0) (pa_cons (pv 5) pa_nil))))))))), ?_⟩
  obtain ⟨d, c, n, rfl, hD, n1, n12, q⟩ := h
  refine ⟨_, rfl, d, c, 5, rfl, hD, by decide, by decide, fun r5 H1 a0 a5 hD1 k1 => ⟨_, rfl, d, c, 26, rfl, hD1, by decide, by decide, fun t0 H2 b0 b26 hD2 k2 => ⟨(by show 3 ≤ sizeLine; decide), fun T hT => ?_⟩⟩⟩
  obtain ⟨t, rfl⟩ : ∃ t : Nat, t0 = (t : Int) := ⟨t0.toNat, by omega⟩
  have t26 : t < 26 := by omega
  have sT := sameNew (o := .tup [V.str abcS, V.int r5, V.int (t : Int)]) hT
  have eT : upd H2 T (HO.tup [V.str abcS, V.int r5, V.int (t : Int)]) T = some (.tup [V.str abcS, V.int r5, V.int (t : Int)]) := upd_same
  have hD3 := hD2.same sT
  have k3 := (k1.trans k2).trans (Kept.of sT)
  generalize upd H2 T (.tup [V.str abcS, V.int r5, V.int (t : Int)]) = H3 at sT eT hD3 k3
  refine ⟨T, _, rfl, SqT.of eT, rfl, _, _, rfl, _, _, rfl, _, _, rfl, rfl, ?_⟩
  refine ⟨_, rfl, _, rfl, by omega, by omega, fun D hDn => ?_⟩
  have Dd := hD3.ned hDn
  have Dc := hD3.nec hDn
  have s0 := sameNew (o := .lst []) hDn
  have hH0 : H D = none := k3.none hD3 hDn
  refine lc_range (lo := 0) (n := n) (fun j H' => Same H3 H' ∧ H' D = some (.lst ((base1 t j).map V.str))) ⟨s0, upd_same⟩ ?_ ?_
  · rintro j H' hj ⟨g1, g2⟩
    have e : ((t : Int) + 7 * (0 + (j : Int))) % 26 = (((t + 7 * j) % 26 : Nat) : Int) := by omega
    refine ⟨rfl, _, rfl, _, rfl, _, rfl, _, _, rfl, rfl, .inl ⟨by decide, by decide⟩, _, _, rfl, rfl, _, _, rfl, rfl, (by show (0 : Int) < 26; decide), _, _, _, rfl, rfl, (by decide +kernel), (by rw [e]; exact abc_at (Nat.mod_lt _ (by decide))), _, g2, ?_, ?_, ?_⟩
    · rw [List.length_map, base1_len]
      exact small1000 (by omega)
    · exact fun b o z => by rw [upd_ne (ne_of_none z hDn)]; exact g1 b o z
    · rw [upd_same, base1_succ, List.map_append]
      rfl
  rintro H4 ⟨s4, e4⟩
  have hD4 := hD3.same s4
  have k4 := k3.trans (Kept.of s4)
  have g0 := good1 t26 n12
  refine ⟨NamesMid d c n r5 t H, ?_, ?_⟩
  · refine ⟨_, rfl, rfl, _, rfl, ?_⟩
    refine ite2 (fun _ => ?_) (fun _ => ⟨D, _, _, _, _, _, _, rfl, e4, g0, hD4, k4⟩)
    refine ⟨_, rfl, d, c, 6, rfl, hD4, by decide, by decide, fun a0 H5 z0 z6 hD5 k5 => ?_⟩
    have e5 := k5 D _ Dd Dc e4
    obtain ⟨a, rfl⟩ : ∃ a : Nat, a0 = (a : Int) := ⟨a0.toNat, by omega⟩
    refine ⟨⟨_, rfl⟩, _, rfl, by decide, by decide, fun D2 hD2n => ?_⟩
    have s5 := sameNew (o := .lst []) hD2n
    have D2d := hD5.ned hD2n
    have D2c := hD5.nec hD2n
    refine lc_range (lo := 0) (n := 5) (fun j H' => Deal H' d c ∧ Kept d c H5 H' ∧ ∃ ys : List Str, H' D2 = some (.lst (ys.map V.str)) ∧ ys.length = j ∧ ∀ y ∈ ys, One1 y) ⟨hD5.same s5, .of s5, [], upd_same, rfl, fun y hy => nomatch hy⟩ ?_ ?_
    · rintro j H' hj ⟨g1, g2, ys, g3, g4, g5⟩
      refine ⟨rfl, _, rfl, _, rfl, d, c, 16, rfl, g1, by decide, by decide, fun x0 H6 y0 y16 hD7 k7 => ?_⟩
      obtain ⟨x, rfl⟩ : ∃ x : Nat, x0 = (x : Int) := ⟨x0.toNat, by omega⟩
      have x16 : x < 16 := by omega
      refine ⟨_, _, _, rfl, rfl, (by decide +kernel), abc_at (by omega), _, k7 D2 _ D2d D2c g3, ?_, hD7.upd D2d D2c, (g2.trans k7).upd hD2n, ys ++ [sg (97 + x)], ?_, ?_, ?_⟩
      · rw [List.length_map]
        exact small1000 (by omega)
      · rw [upd_same, List.map_append]
        rfl
      · rw [List.length_append, g4]
        rfl
      · intro y hy
        rcases List.mem_append.mp hy with hy | hy
        · exact g5 y hy
        · rw [List.mem_singleton.mp hy]
          exact one1_sg (by omega) (by omega)
    rintro H7 ⟨hD7, k7, ys, e7, l7, o7⟩
    obtain ⟨st1, st2, st3⟩ := stem_ok o7
    refine ⟨_, D2, ys, rfl, rfl, .inl (SqL.of e7), ?_, ?_⟩
    · rw [sum_ones o7, l7]
      decide +kernel
    rw [l7] at st2
    generalize Txt.join "" ys = stem at st1 st2 st3
    have kD := k7 D _ Dd Dc e5
    have k8 := (k4.trans k5).trans k7
    refine ⟨(by show 2 ≤ sizeLine; decide), fun T2 hT2 => ?_⟩
    have sT2 := sameNew (o := .tup [V.int (a : Int), V.str stem]) hT2
    have eT2 : upd H7 T2 (HO.tup [V.int (a : Int), V.str stem]) T2 = some (.tup [V.int (a : Int), V.str stem]) := upd_same
    have hD8 := hD7.same sT2
    have k9 := k8.trans (Kept.of sT2)
    have e8 := sT2 _ _ kD
    generalize upd H7 T2 (.tup [V.int (a : Int), V.str stem]) = H8 at sT2 eT2 hD8 k9 e8
    refine ⟨T2, _, rfl, SqT.of eT2, rfl, _, _, rfl, _, _, rfl, rfl, ?_⟩
    refine ⟨_, rfl, D, rfl, ⟨_, SqL.of e8⟩, fun D3 hD3n => ?_⟩
    have s8 := sameNew (o := .lst []) hD3n
    refine lc_list (K := K) (a := D) (xs := (base1 t n).map V.str) (fun i H' => Same H8 H' ∧ H' D3 = some (.lst ((((base1 t n).take i).map fun s => (cutS stem none (some (a : Int)) ++ s) ++ cutS stem (some (a : Int)) none).map V.str))) ⟨s8, upd_same⟩
      (fun i H' _ h => SqL.of (h.1 _ _ e8)) ?_ ?_
    · rintro i x H' hx ⟨g1, g2⟩
      obtain ⟨z, hz, rfl⟩ : ∃ z, (base1 t n)[i]? = some z ∧ x = V.str z := by
        rw [List.getElem?_map] at hx
        cases e : (base1 t n)[i]? with
        | none => rw [e] at hx; cases hx
        | some z => rw [e] at hx; exact ⟨z, rfl, (Option.some.inj hx).symm⟩
      have zs : z.cps.size = 1 := base1_size z (List.mem_of_getElem? hz)
      have c1 : (cutS stem none (some (a : Int))).cps.size + (cutS stem (some (a : Int)) none).cps.size = 5 := (cut_sizes (by omega)).trans st2
      have il := (List.getElem?_eq_some_iff.mp hz).1
      rw [base1_len] at il
      have sl : stem.length ≤ sizeLine := fits (by show stem.cps.size ≤ 1000; omega)
      refine ⟨rfl, _, rfl, _, rfl, _, rfl, _, rfl, sl, _, rfl, _, _, rfl, rfl, fits ?_, _, rfl, _, rfl, _, rfl, _, rfl, sl, _, _, rfl, rfl, fits ?_, _, g2, ?_, Same.upd g1 hD3n, ?_⟩
      · show (cutS stem none (some (a : Int))).cps.size + z.cps.size ≤ 1000
        omega
      · show (cutS stem none (some (a : Int)) ++ z).cps.size + (cutS stem (some (a : Int)) none).cps.size ≤ 1000
        rw [strSize]
        omega
      · rw [List.length_map, List.length_map, List.length_take, base1_len]
        exact small1000 (by omega)
      · rw [upd_same, List.take_succ, hz, List.map_append, List.map_append]
        rfl
    rintro H9 ⟨s9, e9⟩
    rw [List.length_map, List.take_length] at e9
    exact ⟨D3, _, _, _, _, _, _, rfl, e9, good_wrap t26 n12 (cut_letters st1 _ _) (cut_letters st1 _ _) (cut_low st3 _ _) (cut_low st3 _ _) (by rw [cut_sizes (by omega)]; omega), hD8.same s9, k9.trans (.of s9)⟩
  rintro σ1 H1 ⟨F1, ss1, x6, x7, x8, x9, x10, rfl, f1, G1, hD1, k1⟩
  refine ⟨NamesMid d c n r5 t H, ?_, ?_⟩
  · refine ⟨_, rfl, rfl, _, rfl, ?_⟩
    refine ite2 (fun _ => ?_) (fun _ => ⟨F1, ss1, _, _, _, _, _, rfl, f1, G1, hD1, k1⟩)
    refine ⟨_, rfl, _, rfl, by omega, by omega, fun D hDn => ?_⟩
    have s0 := sameNew (o := .lst []) hDn
    refine lc_range (lo := 0) (n := n) (fun j H' => Same H1 H' ∧ H' D = some (.lst ((base2 t j).map V.str))) ⟨s0, upd_same⟩ ?_ ?_
    · rintro j H' hj ⟨g1, g2⟩
      have e : ((t : Int) + 7 * ((0 + (j : Int)) / 6)) % 26 = (((t + 7 * (j / 6)) % 26 : Nat) : Int) := by omega
      have e6 : (0 + (j : Int)) % 6 = ((j % 6 : Nat) : Int) := by omega
      refine ⟨rfl, _, rfl, _, rfl, _, rfl, _, _, rfl, rfl, ⟨by decide, by decide⟩, _, _, rfl, rfl, .inl ⟨by decide, by decide⟩, _, _, rfl, rfl, _, _, rfl, rfl, (by show (0 : Int) < 26; decide), _, _, _, rfl, rfl, (by decide +kernel), (by rw [e]; exact abc_at (Nat.mod_lt _ (by decide))),
        _, rfl, _, _, rfl, rfl, (by show (0 : Int) < 6; decide), _, rfl, _, rfl, (by decide +kernel), _, _, rfl, rfl, fits ?_, _, g2, ?_, Same.upd g1 hDn, ?_⟩
      · have c1 := cut_sizes (z := oddS) (a := j % 6) (by show j % 6 ≤ 6; omega)
        have c2 : oddS.cps.size = 6 := by decide +kernel
        rw [e6]
        show 1 + (cutS oddS none (some ((j % 6 : Nat) : Int))).cps.size ≤ 1000
        omega
      · rw [List.length_map, base2_len]
        exact small1000 (by omega)
      · rw [upd_same, base2_succ, List.map_append, e6]
        rfl
    rintro H2 ⟨s2, e2⟩
    exact ⟨D, _, _, _, _, _, _, rfl, e2, good2 t26 n12, hD1.same s2, k1.trans (.of s2)⟩
  rintro σ1 H1 ⟨F1, ss1, x6, x7, x8, x9, x10, rfl, f1, G1, hD1, k1⟩
  refine ⟨NamesMid d c n r5 t H, ?_, ?_⟩
  · refine ⟨_, rfl, rfl, _, rfl, ?_⟩
    refine ite2 (fun _ => ?_) (fun _ => ⟨F1, ss1, _, _, _, _, _, rfl, f1, G1, hD1, k1⟩)
    refine ⟨(by show 12 ≤ sizeLine; decide), fun W hW => ?_⟩
    have sW := sameNew (o := .lst (words12.map V.str)) hW
    have eW : upd H1 W (HO.lst (words12.map V.str)) W = some (.lst (words12.map V.str)) := upd_same
    have hD2 := hD1.same sW
    have k2 := k1.trans (Kept.of sW)
    show gName 8 (.ref W) _ (upd H1 W (.lst (words12.map V.str))) _
    generalize upd H1 W (.lst (words12.map V.str)) = H2 at sW eW hD2 k2
    refine ⟨_, rfl, _, rfl, W, W, _, _, rfl, rfl, eW, eW, (by show 24 ≤ sizeLine; decide), fun X hX => ?_⟩
    have sX := sameNew (o := .lst (words12.map V.str ++ words12.map V.str)) hX
    have eX : upd H2 X (HO.lst (words12.map V.str ++ words12.map V.str)) X = some (.lst (words12.map V.str ++ words12.map V.str)) := upd_same
    have hD3 := hD2.same sX
    have k3 := k2.trans (Kept.of sX)
    generalize upd H2 X (.lst (words12.map V.str ++ words12.map V.str)) = H3 at sX eX hD3 k3
    have ea : (t : Int) % 12 = ((t % 12 : Nat) : Int) := by omega
    refine ⟨_, rfl, _, _, rfl, rfl, (by show (0 : Int) < 12; decide), _, rfl, _, rfl, _, _, rfl, rfl, (by show (0 : Int) < 12; decide), _, rfl, _, _, rfl, rfl, _, rfl, X, _, rfl, SqL.of eX, fun Y hY => ?_⟩
    rw [ea, cutWords (Nat.mod_lt _ (by decide)) n12]
    exact ⟨Y, _, _, _, _, _, _, rfl, upd_same, good3 (Nat.mod_lt _ (by decide)) n12, hD3.same (sameNew hY), k3.trans (.of (sameNew hY))⟩
  rintro σ1 H1 ⟨F1, ss1, x6, x7, x8, x9, x10, rfl, f1, G1, hD1, k1⟩
  refine ⟨_, rfl, _, rfl, d, c, F1, _, rfl, hD1, .inl (SqL.of f1), Off.strs fun s hs => name_ok (G1.nm s hs), ?_, fun r ys H2 r1 hD2 k2 e p => ?_⟩
  · rw [List.length_map, G1.len]
    omega
  obtain ⟨zs, rfl, pz⟩ := permStr p
  exact q r zs H2 (k1.none hD1 r1) hD2 (k1.trans k2) e (G1.perm pz)
end
end L2.Und
end

section
set_option Elab.async false
set_option linter.all false
set_option maxRecDepth 100000
set_option maxHeartbeats 4000000
namespace L2.Und
open PySem PySem.Spec PyProof.Rows _root_.Und
/-! ### the free pairs that the laws draw -/
theorem permMap {α β : Type} {f : α → β} : ∀ {l : List α} {ys : List β}, ys.Perm (l.map f) → ∃ l' : List α, ys = l'.map f ∧ l'.Perm l
  | [], ys, h => ⟨[], List.perm_nil.mp h, .nil⟩
  | a :: l, ys, h => by
    have m : f a ∈ ys := h.mem_iff.mpr List.mem_cons_self
    obtain ⟨s, t, rfl⟩ := List.append_of_mem m
    have p : (s ++ t).Perm (l.map f) := (List.perm_middle.symm.trans h).cons_inv
    obtain ⟨l1, e, p1⟩ := permMap p
    have es : (l1.take s.length).map f = s := by rw [List.map_take, ← e, List.take_left]
    have et : (l1.drop s.length).map f = t := by rw [List.map_drop, ← e, List.drop_left]
    refine ⟨l1.take s.length ++ a :: l1.drop s.length, by rw [List.map_append, List.map_cons, es, et], ?_⟩
    refine List.perm_middle.trans ?_
    rw [List.take_append_drop]
    exact p1.cons a
/-- triangular numbers: how many pairs there are -/
def tri : Nat → Nat
  | 0 => 0
  | n + 1 => tri n + n
theorem tri_le {n : Nat} (h : n ≤ 12) : tri n ≤ 66 := by
  have : n = 0 ∨ n = 1 ∨ n = 2 ∨ n = 3 ∨ n = 4 ∨ n = 5 ∨ n = 6 ∨ n = 7 ∨ n = 8 ∨ n = 9 ∨ n = 10 ∨ n = 11 ∨ n = 12 := by omega
  rcases this with rfl | rfl | rfl | rfl | rfl | rfl | rfl | rfl | rfl | rfl | rfl | rfl | rfl <;> decide
theorem tri_mono {m n : Nat} (h : m ≤ n) : tri m ≤ tri n := by
  induction h with
  | refl => exact Nat.le_refl _
  | step _ ih => exact Nat.le_trans ih (Nat.le_add_right _ _)
/-- a pair and the pair turned round -/
def apart (p q : Str × Str) : Prop := p ≠ q ∧ p ≠ (q.2, q.1)
theorem apart_symm {p q : Str × Str} (h : apart p q) : apart q p := ⟨fun e => h.1 e.symm, fun e => h.2 (by cases p; cases q; cases e; rfl)⟩
structure GoodPairs (ks : List Str) (xs : List (Str × Str)) : Prop where
  mem : ∀ p ∈ xs, p.1 ∈ ks ∧ p.2 ∈ ks ∧ p.1 ≠ p.2
  ap : xs.Pairwise apart
  len : xs.length ≤ tri ks.length
theorem GoodPairs.perm {ks : List Str} {xs ys : List (Str × Str)} (g : GoodPairs ks xs) (h : ys.Perm xs) : GoodPairs ks ys :=
  ⟨fun p hp => g.mem p (h.mem_iff.mp hp), (h.pairwise_iff (fun {_ _} => apart_symm)).mpr g.ap, by rw [h.length_eq]; exact g.len⟩
/-- the pairs found ahead of the j-th one of the i-th kind -/
structure Ahead (ks : List Str) (i j : Nat) (xs : List (Str × Str)) : Prop where
  at' : ∀ p ∈ xs, ∃ a b x y, b < a ∧ (a < i ∨ a = i ∧ b < j) ∧ ks[a]? = some x ∧ ks[b]? = some y ∧ (p = (x, y) ∨ p = (y, x))
  ap : xs.Pairwise apart
  len : xs.length ≤ tri i + j
theorem Ahead.zero (ks : List Str) : Ahead ks 0 0 [] := ⟨fun p h => (nomatch h), .nil, Nat.zero_le _⟩
theorem Ahead.skip {ks : List Str} {i j : Nat} {xs : List (Str × Str)} (h : Ahead ks i j xs) : Ahead ks i (j + 1) xs :=
  ⟨fun p hp => by
    obtain ⟨a, b, x, y, h1, h2, r⟩ := h.at' p hp
    exact ⟨a, b, x, y, h1, by omega, r⟩, h.ap, Nat.le_succ_of_le h.len⟩
theorem Ahead.next {ks : List Str} {i : Nat} {xs : List (Str × Str)} (h : Ahead ks i i xs) : Ahead ks (i + 1) 0 xs :=
  ⟨fun p hp => by
    obtain ⟨a, b, x, y, h1, h2, r⟩ := h.at' p hp
    exact ⟨a, b, x, y, h1, by omega, r⟩, h.ap, h.len⟩
theorem nodup_at {ks : List Str} (nd : ks.Nodup) {a b : Nat} {x : Str} (h1 : ks[a]? = some x) (h2 : ks[b]? = some x) : a = b := by
  exact (List.getElem?_inj (List.getElem?_eq_some_iff.mp h1).1 nd).mp (h1.trans h2.symm)
theorem Ahead.more {ks : List Str} (nd : ks.Nodup) {i j : Nat} {xs : List (Str × Str)} {x y : Str} {p : Str × Str} (h : Ahead ks i j xs) (hj : j < i) (hx : ks[i]? = some x) (hy : ks[j]? = some y) (hp : p = (x, y) ∨ p = (y, x)) :
    Ahead ks i (j + 1) (xs ++ [p]) := by
  refine ⟨fun q hq => ?_, ?_, ?_⟩
  · rcases List.mem_append.mp hq with hq | hq
    · exact h.skip.at' q hq
    · exact ⟨i, j, x, y, hj, .inr ⟨rfl, by omega⟩, hx, hy, List.mem_singleton.mp hq ▸ hp⟩
  · rw [List.pairwise_append]
    refine ⟨h.ap, List.pairwise_singleton _ _, fun q hq r hr => ?_⟩
    rw [List.mem_singleton.mp hr]
    obtain ⟨a, b, u, v, h1, h2, h3, h4, h5⟩ := h.at' q hq
    have key : ¬ ((u = x ∧ v = y) ∨ (u = y ∧ v = x)) := by
      rintro (⟨e1, e2⟩ | ⟨e1, e2⟩)
      · have r1 := nodup_at nd h3 (e1 ▸ hx)
        have r2 := nodup_at nd h4 (e2 ▸ hy)
        omega
      · have r1 := nodup_at nd h3 (e1 ▸ hy)
        have r2 := nodup_at nd h4 (e2 ▸ hx)
        omega
    refine ⟨fun e => key ?_, fun e => key ?_⟩
    · rcases h5 with rfl | rfl <;> rcases hp with rfl | rfl <;> cases e <;> simp
    · rcases h5 with rfl | rfl <;> rcases hp with rfl | rfl <;> cases e <;> simp
  · rw [List.length_append, List.length_singleton]
    have := h.len
    omega
theorem Ahead.good {ks : List Str} (nd : ks.Nodup) {xs : List (Str × Str)} (h : Ahead ks ks.length 0 xs) : GoodPairs ks xs :=
  ⟨fun p hp => by
    obtain ⟨a, b, x, y, h1, h2, h3, h4, h5⟩ := h.at' p hp
    have ne : x ≠ y := fun e => by
      have := nodup_at nd h3 (e ▸ h4)
      omega
    have m1 := List.mem_of_getElem? h3
    have m2 := List.mem_of_getElem? h4
    rcases h5 with rfl | rfl
    · exact ⟨m1, m2, ne⟩
    · exact ⟨m2, m1, ne.symm⟩, h.ap, h.len⟩
/-! pairs in the heap -/
abbrev PL := List (Addr × Str × Str)
def PairsAt (H : Hp) (L : PL) : Prop := ∀ e ∈ L, H e.1 = some (.tup [.str e.2.1, .str e.2.2])
theorem PairsAt.kept {H H' : Hp} {d c : Addr} {L : PL} (h : PairsAt H L) (x : Deal H d c) (k : Kept d c H H') : PairsAt H' L := fun e he => by
  have t := h e he
  have q := Deal.ints x t (fun _ z => nomatch z) (fun _ z => nomatch z)
  exact k _ _ q.1 q.2 t
theorem PairsAt.same {H H' : Hp} {L : PL} (h : PairsAt H L) (s : Same H H') : PairsAt H' L := fun e he => s _ _ (h e he)
theorem PairsAt.off {K : PySem.W.Frag} {H : Hp} {d c : Addr} {L : PL} (h : PairsAt H L) (x : Deal H d c) (ok : ∀ e ∈ L, PyData.strOk e.2.1 = true ∧ PyData.strOk e.2.2 = true) : Off K d c H (L.map fun e => V.ref e.1) := by
  refine ⟨fun b => if (L.any fun e => e.1 == b) = true then H b else none, ?_, ?_, ?_, ?_⟩
  · show (if (L.any fun e => e.1 == d) = true then H d else none) = none
    rw [if_neg]
    intro z
    obtain ⟨e, he, q⟩ := List.any_eq_true.mp z
    have q : e.1 = d := by simpa using q
    exact (Deal.ints x (h e he) (fun _ z => nomatch z) (fun _ z => nomatch z)).1 q
  · show (if (L.any fun e => e.1 == c) = true then H c else none) = none
    rw [if_neg]
    intro z
    obtain ⟨e, he, q⟩ := List.any_eq_true.mp z
    have q : e.1 = c := by simpa using q
    exact (Deal.ints x (h e he) (fun _ z => nomatch z) (fun _ z => nomatch z)).2 q
  · intro b o e
    have e : (if (L.any fun e => e.1 == b) = true then H b else none) = some o := e
    by_cases z : (L.any fun e => e.1 == b) = true
    · simpa only [if_pos z] using e
    · rw [if_neg z] at e
      cases e
  · intro v hv
    obtain ⟨e, he, rfl⟩ := List.mem_map.mp hv
    have z : (L.any fun u => u.1 == e.1) = true := List.any_eq_true.mpr ⟨e, he, by simp⟩
    refine ⟨.tuple [.str e.2.1, .str e.2.2], .tup (SqT.of ?_) (.cons (.str _) (.cons (.str _) .nil)), ?_, ?_⟩
    · show (if (L.any fun u => u.1 == e.1) = true then H e.1 else none) = _
      rw [if_pos z]
      exact h e he
    · simp [PyData.canLay0, PyData.canLayAll0, (ok e he).1, (ok e he).2]
    · simp [PyData.depth, PyData.depthAll]
theorem cutTake {ks : List Str} {i : Nat} (h : i ≤ ks.length) : cutV (ks.map V.str) none (some (i : Int)) = (ks.take i).map V.str := by
  unfold cutV
  rw [HT.sIx_none, HT.sIx_nat, List.length_map, Nat.min_eq_left h, List.drop_zero, Nat.sub_zero, List.map_take]
/-- where the walk over the pairs stands -/
structure PSt (ks : List Str) (H : Hp) (d c F0 : Addr) (i j : Nat) (H' : Hp) (L : PL) : Prop where
  deal : Deal H' d c
  kept : Kept d c H H'
  lst : H' F0 = some (.lst (L.map fun e => V.ref e.1))
  prs : PairsAt H' L
  fresh : ∀ e ∈ L, H e.1 = none
  ahead : Ahead ks i j (L.map (·.2))
section
variable {ks : List Str} {H H' H2 : Hp} {d c F0 : Addr} {i j : Nat} {L : PL}
theorem PSt.same (x : PSt ks H d c F0 i j H' L) (s : Same H' H2) : PSt ks H d c F0 i j H2 L :=
  ⟨Deal.same x.deal s, Kept.trans x.kept (Kept.of s), s _ _ x.lst, x.prs.same s, x.fresh, x.ahead⟩
theorem PSt.draw (x : PSt ks H d c F0 i j H' L) (k : Kept d c H' H2) (hD : Deal H2 d c) (h1 : F0 ≠ d) (h2 : F0 ≠ c) : PSt ks H d c F0 i j H2 L :=
  ⟨hD, Kept.trans x.kept k, k _ _ h1 h2 x.lst, x.prs.kept x.deal k, x.fresh, x.ahead⟩
theorem PSt.skip (x : PSt ks H d c F0 i j H' L) : PSt ks H d c F0 i (j + 1) H' L := ⟨x.deal, x.kept, x.lst, x.prs, x.fresh, x.ahead.skip⟩
theorem PSt.next (x : PSt ks H d c F0 i i H' L) : PSt ks H d c F0 (i + 1) 0 H' L := ⟨x.deal, x.kept, x.lst, x.prs, x.fresh, x.ahead.next⟩
theorem PSt.more {t : Addr} {u v x y : Str} (z : PSt ks H d c F0 i j H' L) (nd : ks.Nodup) (hj : j < i) (hx : ks[i]? = some x) (hy : ks[j]? = some y) (hp : (u, v) = (x, y) ∨ (u, v) = (y, x)) (h1 : F0 ≠ d) (h2 : F0 ≠ c) (hF : H F0 = none)
    (ht : H' t = some (.tup [.str u, .str v])) (hn : H t = none) : PSt ks H d c F0 i (j + 1) (upd H' F0 (.lst ((L.map fun e => V.ref e.1) ++ [.ref t]))) (L ++ [(t, u, v)]) := by
  have nF : ∀ {b : Addr} {xs : List V}, H' b = some (.tup xs) → b ≠ F0 := fun {b xs} q e => by
    rw [e, z.lst] at q
    cases q
  refine ⟨Deal.upd z.deal h1 h2, Kept.upd z.kept hF, ?_, fun e he => ?_, fun e he => ?_, ?_⟩
  · rw [upd_same, List.map_append]
    rfl
  · rcases List.mem_append.mp he with he | he
    · rw [upd_ne (nF (z.prs e he))]
      exact z.prs e he
    · rw [List.mem_singleton.mp he, upd_ne (nF ht)]
      exact ht
  · rcases List.mem_append.mp he with he | he
    · exact z.fresh e he
    · rw [List.mem_singleton.mp he]
      exact hn
  · rw [List.map_append]
    exact z.ahead.more nd hj hx hy hp
end
end L2.Und
end

section
set_option Elab.async false
set_option linter.all false
set_option maxRecDepth 100000
set_option maxHeartbeats 4000000
namespace L2.Und
open PySem PySem.Spec PyProof.Rows _root_.Und
abbrev sPairs : Stmt := topS 62
abbrev nPairs : List Str := ["_law_deal_here", "_law_kinds", "_law_form_here", "_law_found", "_law_at", "_law_kind", "_law_to", "_law_other", "_law_chance"]
theorem scPairs : FnScope nPairs ["_law_deal_here", "_law_kinds"] (defScope sPairs) := ⟨rfl, rfl, rfl, by decide +kernel, rfl, by decide +kernel, by decide +kernel⟩
def spPairs (K : PySem.W.Frag) : Sp := fun vs H Q _ => ∃ (d c a : Addr) (ks : List Str), vs = [.ref d, .ref a] ∧ Deal H d c ∧ H a = some (.lst (ks.map V.str)) ∧ a ≠ d ∧ a ≠ c ∧ ks.Nodup ∧ ks.length ≤ 12 ∧ (∀ k ∈ ks, PyData.strOk k = true) ∧
  ∀ (r : Addr) (L : PL) (H' : Hp), H r = none → Deal H' d c → Kept d c H H' → H' r = some (.lst (L.map fun e => V.ref e.1)) → PairsAt H' L → (∀ e ∈ L, H e.1 = none) → GoodPairs ks (L.map (·.2)) → Q (.ref r) H'
section
variable {P : Program} {w : World} {K : PySem.W.Frag} {mg : Str → Option Value} {base : Heap}
theorem okPairs {f fD fM : Addr} {fd fdD fdM : FuncData} (F : Fun K "_law_pairs" "_law_pairs" sPairs f fd)
    (GD : FnOk P w K mg base CX0 1 fD fdD ["_law_deal_here", "_law_many"] spDraw) (mD : mg "_law_draw" = some (.ref fD)) (kD : PySem.W.keepIn K (.ref fD) = true) (bD : Binds K fdD ["_law_deal_here", "_law_many"] [])
    (GM : FnOk P w K mg base CX0 2 fM fdM ["_law_deal_here", "_law_items"] (spMixed K)) (mM : mg "_law_mixed" = some (.ref fM)) (kM : PySem.W.keepIn K (.ref fM) = true) (bM : Binds K fdM ["_law_deal_here", "_law_items"] [])
    (mE : mg "enumerate" = none) (mI : mg "int" = none) : FnOk P w K mg base CX0 3 f fd ["_law_deal_here", "_law_kinds"] (spPairs K) := by
  refine F.ok scPairs (fun vs H Q E h => ?_) (fun cdv A outer s H vs Q E hr h => ?_)
  · obtain ⟨d, c, a, ks, rfl, _⟩ := h
    rfl
  have hr1 : Room 1 (A.deeper (envOfC "_law_pairs" (defScope sPairs) s.heap.objs.size f cdv)) := hr.mono (by decide)
  refine ⟨_, pss_cons (ps_par (i := 2) (j := 3) rfl scPairs.nd rfl rfl (by decide) rfl rfl (pa_cons (pe_call GD hr1 rfl mD kD bD .nil pass0 (pa_cons (pv 0) (pa_cons pe_int pa_nil))) (pa_cons (pe_lst pa_nil) pa_nil)) rfl)
    (pss_cons (ps_for PassesOwn.never rfl (pi_enum rfl mE (pa_cons (pv 1) pa_nil)) (pg_tup rfl (pgs_cons (pg_name (i := 4) scPairs.nd rfl (Or.inl rfl)) (pgs_cons (pg_name (i := 5) scPairs.nd rfl (Or.inl rfl)) pgs_nil)))
      (pss_one (ps_for PassesOwn.never rfl (pi_enum rfl mE (pa_cons (pe_slice sl_list (pv 1) po_none (po_some (pv 4))) pa_nil)) (pg_tup rfl (pgs_cons (pg_name (i := 6) scPairs.nd rfl (Or.inl rfl)) (pgs_cons (pg_name (i := 7) scPairs.nd rfl (Or.inl rfl)) pgs_nil)))
        (pss_cons (ps_set (i := 8) scPairs.nd rfl (Or.inl rfl) (pe_ix ix_list (pe_lst (pa_cons pe_int (pa_cons pe_int (pa_cons (pe_op op_mul pe_int (pe_callTy call_int1 rfl mI PyProof.Rows.Boot.«int» (pa_cons (pe_cmpR op_gt (pe_op op_sub (pv 4) (pv 6)) pe_int (nomark _)) pa_nil)))
            (pa_cons pe_int (pa_cons pe_int (pa_cons pe_int (pa_cons pe_int (pa_cons pe_int pa_nil))))))))) (pv 2) (fun _ _ => rfl)))
        (pss_one (ps_if (pt_cmpR op_lt (pe_call GD hr1 rfl mD kD bD .nil pass0 (pa_cons (pv 0) (pa_cons pe_int pa_nil))) (pv 8) (nomark _))
          (pss_one (ps_expr (pe_bm PySem.F.plainAttrs_list PySem.F.slot_list_append PySem.F.type_list_append mt_append (pv 3)
            (pa_cons (pe_ix ix_list (pe_lst (pa_cons (pe_tup (pa_cons (pv 5) (pa_cons (pv 7) pa_nil))) (pa_cons (pe_tup (pa_cons (pv 7) (pa_cons (pv 5) pa_nil))) pa_nil))) (pe_call GD hr1 rfl mD kD bD .nil pass0 (pa_cons (pv 0) (pa_cons pe_int pa_nil))) (fun _ _ => rfl)) pa_nil)))) pss_nil))))))
    (pss_one (ps_ret (pe_call GM (hr.mono (by decide)) rfl mM kM bM .nil pass0 (pa_cons (pv 0) (pa_cons (pv 3) pa_nil)))))), ?_⟩
  obtain ⟨d, c, a, ks, rfl, hD, ha, ad, ac, nd, l12, ok, q⟩ := h
  refine ⟨_, rfl, d, c, 8, rfl, hD, by decide, by decide, fun r8 H1 z0 z8 hD1 k1 => ⟨(by show 0 ≤ sizeLine; decide), fun F0 hF0 => ⟨_, _, rfl, ?_⟩⟩⟩
  have s1 := sameNew (o := .lst []) hF0
  have eF : upd H1 F0 (HO.lst []) F0 = some (.lst []) := upd_same
  have hD2 := hD1.same s1
  have k2 := k1.trans (Kept.of s1)
  have Fd := hD1.ned hF0
  have Fc := hD1.nec hF0
  have hF : H F0 = none := k1.none hD1 hF0
  have aF : a ≠ F0 := ne_of_none ha hF
  generalize upd H1 F0 (.lst []) = H2 at s1 eF hD2 k2
  refine ⟨_, rfl, a, _, rfl, SqL.of (k2 _ _ ad ac ha), for_it (walk_enum (K := K) (a := a) (xs := ks.map V.str)) (fun i σ H' => ∃ (x4 x5 x6 x7 x8 : Option V) (L : PL), σ = [some (.ref d), some (.ref a), some (.int r8), some (.ref F0), x4, x5, x6, x7, x8] ∧ PSt ks H d c F0 i 0 H' L)
    ⟨_, _, _, _, _, [], rfl, hD2, k2, eF, fun e he => (nomatch he), fun e he => (nomatch he), Ahead.zero ks⟩ (fun i σ H' _ h => by
      obtain ⟨x4, x5, x6, x7, x8, L, _, z⟩ := h
      exact SqL.of (z.kept _ _ ad ac ha)) ?_ ?_⟩
  · rintro i x σ H3 H4 hi ⟨x4, x5, x6, x7, x8, L, rfl, z⟩ ⟨T, y1, y2, rfl, hT, rfl, e1, e2⟩
    rw [List.length_map] at hi
    obtain ⟨x, hx, rfl⟩ : ∃ x, ks[i]? = some x ∧ y2 = V.str x := by
      have y3 : (ks.map V.str)[i]? = some y2 := e2
      rw [List.getElem?_map] at y3
      cases e : ks[i]? with
      | none => rw [e] at y3; cases y3
      | some z => rw [e] at y3; exact ⟨z, rfl, (Option.some.inj y3).symm⟩
    obtain rfl : y1 = V.int (i : Nat) := (Option.some.inj e1).symm
    have sT := sameNew (o := .tup [V.int (i : Nat), V.str x]) hT
    have eT : upd H3 T (HO.tup [V.int (i : Nat), V.str x]) T = some (.tup [V.int (i : Nat), V.str x]) := upd_same
    have z4 := z.same sT
    generalize upd H3 T (.tup [V.int (i : Nat), V.str x]) = H4 at sT eT z4
    refine ⟨T, _, rfl, SqT.of eT, rfl, _, _, rfl, _, _, rfl, rfl, ?_⟩
    refine ⟨_, rfl, _, rfl, _, rfl, a, _, rfl, SqL.of (z4.kept _ _ ad ac ha), fun S hS => ?_⟩
    rw [cutTake (Nat.le_of_lt hi)]
    have sS := sameNew (o := .lst ((ks.take i).map V.str)) hS
    have eS : upd H4 S (HO.lst ((ks.take i).map V.str)) S = some (.lst ((ks.take i).map V.str)) := upd_same
    have z5 := z4.same sS
    have Sd := z4.deal.ned hS
    have Sc := z4.deal.nec hS
    have SF : S ≠ F0 := fun e => by
      rw [e, z4.lst] at hS
      cases hS
    generalize upd H4 S (.lst ((ks.take i).map V.str)) = H5 at sS eS z5
    refine ⟨S, _, rfl, SqL.of eS, for_it (walk_enum (K := K) (a := S) (xs := (ks.take i).map V.str)) (fun j σ H' => ∃ (x6 x7 x8 : Option V) (L : PL), σ = [some (.ref d), some (.ref a), some (.int r8), some (.ref F0), some (.int (i : Nat)), some (.str x), x6, x7, x8] ∧
        H' S = some (.lst ((ks.take i).map V.str)) ∧ PSt ks H d c F0 i j H' L) ⟨_, _, _, L, rfl, eS, z5⟩ (fun j σ H' _ h => by
      obtain ⟨x6, x7, x8, L, _, z, _⟩ := h
      exact SqL.of z) ?_ ?_⟩
    · rintro j v σ H6 H7 hj ⟨x6, x7, x8, L, rfl, eS6, z6⟩ ⟨T2, y1, y2, rfl, hT2, rfl, e1, e2⟩
      rw [List.length_map, List.length_take, Nat.min_eq_left (Nat.le_of_lt hi)] at hj
      obtain ⟨y, hy, rfl⟩ : ∃ y, ks[j]? = some y ∧ y2 = V.str y := by
        have y3 : ((ks.take i).map V.str)[j]? = some y2 := e2
        rw [List.getElem?_map, List.getElem?_take_of_lt hj] at y3
        cases e : ks[j]? with
        | none => rw [e] at y3; cases y3
        | some z => rw [e] at y3; exact ⟨z, rfl, (Option.some.inj y3).symm⟩
      obtain rfl : y1 = V.int (j : Nat) := (Option.some.inj e1).symm
      have sT2 := sameNew (o := .tup [V.int (j : Nat), V.str y]) hT2
      have eT2 : upd H6 T2 (HO.tup [V.int (j : Nat), V.str y]) T2 = some (.tup [V.int (j : Nat), V.str y]) := upd_same
      have z7 := z6.same sT2
      have eS7 := sT2 _ _ eS6
      generalize upd H6 T2 (.tup [V.int (j : Nat), V.str y]) = H7 at sT2 eT2 z7 eS7
      refine ⟨T2, _, rfl, SqT.of eT2, rfl, _, _, rfl, _, _, rfl, rfl, ?_⟩
      refine ⟨_, rfl, _, rfl, _, _, rfl, rfl, _, _, rfl, rfl, .inr ⟨_, rfl, _, _, rfl, rfl, .inl ⟨by decide, by decide⟩, (by show 8 ≤ sizeLine; decide), fun W hW => ?_⟩⟩
      have chance : ∀ m : Int, ∃ ch, atI [V.int 0, .int 4, .int m, .int 1, .int 2, .int 2, .int 3, .int 3] r8 = some (.int ch) := fun m => by
        have : r8 = 0 ∨ r8 = 1 ∨ r8 = 2 ∨ r8 = 3 ∨ r8 = 4 ∨ r8 = 5 ∨ r8 = 6 ∨ r8 = 7 := by omega
        rcases this with rfl | rfl | rfl | rfl | rfl | rfl | rfl | rfl <;> exact ⟨_, rfl⟩
      obtain ⟨ch, hch⟩ := chance (4 * (if decide (1 < (i : Int) - (j : Int)) = true then 1 else 0))
      refine ⟨_, rfl, W, _, _, _, rfl, rfl, SqL.of upd_same, hch, ?_⟩
      have sW := sameNew (o := .lst [V.int 0, .int 4, .int (4 * (if decide (1 < (i : Int) - (j : Int)) = true then 1 else 0)), .int 1, .int 2, .int 2, .int 3, .int 3]) hW
      have z8' := z7.same sW
      have eS8 := sW _ _ eS7
      refine ⟨_, rfl, d, c, 4, rfl, z8'.deal, by decide, by decide, fun r4 H8 w0 w4 hD8 k8 => ⟨_, rfl, _, _, rfl, rfl, _, rfl, ?_⟩⟩
      have z9 := z8'.draw k8 hD8 Fd Fc
      have eS9 := k8 _ _ Sd Sc eS8
      refine ite2 (fun _ => ?_) (fun _ => ⟨_, _, _, L, rfl, eS9, z9.skip⟩)
      refine ⟨_, rfl, .inl ⟨rfl, _, SqL.of z9.lst⟩, _, rfl, _, rfl, (by show 2 ≤ sizeLine; decide), fun t1 h1 => ⟨_, rfl, _, rfl, (by show 2 ≤ sizeLine; decide), fun t2 h2 => ⟨(by show 2 ≤ sizeLine; decide), fun V2 hV2 => ?_⟩⟩⟩
      have s1 := sameNew (o := .tup [V.str x, .str y]) h1
      have f1 : upd H8 t1 (HO.tup [V.str x, .str y]) t1 = some (.tup [V.str x, .str y]) := upd_same
      generalize upd H8 t1 (HO.tup [V.str x, .str y]) = H9 at s1 f1 h2 hV2
      have s2 := sameNew (o := .tup [V.str y, .str x]) h2
      have f2 : upd H9 t2 (HO.tup [V.str y, .str x]) t2 = some (.tup [V.str y, .str x]) := upd_same
      have f1' := s2 _ _ f1
      generalize upd H9 t2 (HO.tup [V.str y, .str x]) = H10 at s2 f2 f1' hV2
      have s3 := sameNew (o := .lst [V.ref t1, .ref t2]) hV2
      have f3 : upd H10 V2 (HO.lst [V.ref t1, .ref t2]) V2 = some (.lst [V.ref t1, .ref t2]) := upd_same
      have z10 := ((z9.same s1).same s2).same s3
      have f1'' := s3 _ _ f1'
      have f2'' := s3 _ _ f2
      have eS10 := s3 _ _ (s2 _ _ (s1 _ _ eS9))
      have n1 := z9.kept.none hD8 h1
      have n2 := z9.kept.none hD8 (s1.free h2)
      have vd := ((z9.same s1).same s2).deal.ned hV2
      have vc := ((z9.same s1).same s2).deal.nec hV2
      generalize upd H10 V2 (HO.lst [V.ref t1, .ref t2]) = H11 at s3 f3 z10 f1'' f2'' eS10
      refine ⟨_, rfl, d, c, 2, rfl, z10.deal, by decide, by decide, fun r2 H12 u0 u2 hD12 k12 => ?_⟩
      have z12 := z10.draw k12 hD12 Fd Fc
      have eS12 := k12 _ _ Sd Sc eS10
      have f3' := k12 _ _ vd vc f3
      have t1' := PairsAt.kept (L := [(t1, x, y)]) (fun e he => by rw [List.mem_singleton.mp he]; exact f1'') z10.deal k12 _ List.mem_cons_self
      have t2' := PairsAt.kept (L := [(t2, y, x)]) (fun e he => by rw [List.mem_singleton.mp he]; exact f2'') z10.deal k12 _ List.mem_cons_self
      have lL : L.length < 1000 := by
        have a1 := z12.ahead.len
        rw [List.length_map] at a1
        have a2 := tri_le (n := i) (by omega)
        omega
      have r01 : r2 = 0 ∨ r2 = 1 := by omega
      rcases r01 with rfl | rfl
      · refine ⟨V2, _, _, .ref t1, rfl, rfl, SqL.of f3', rfl, F0, _, _, rfl, rfl, z12.lst, by rw [List.length_map]; exact small1000 (by omega), ?_⟩
        exact ⟨_, _, _, _, rfl, by rw [upd_ne SF]; exact eS12, z12.more nd hj hx hy (.inl rfl) Fd Fc hF t1' n1⟩
      · refine ⟨V2, _, _, .ref t2, rfl, rfl, SqL.of f3', rfl, F0, _, _, rfl, rfl, z12.lst, by rw [List.length_map]; exact small1000 (by omega), ?_⟩
        exact ⟨_, _, _, _, rfl, by rw [upd_ne SF]; exact eS12, z12.more nd hj hx hy (.inr rfl) Fd Fc hF t2' n2⟩
    · rintro σ H6 ⟨x6, x7, x8, L, rfl, eS6, z6⟩
      rw [List.length_map, List.length_take, Nat.min_eq_left (Nat.le_of_lt hi)] at z6
      exact ⟨_, _, _, _, _, L, rfl, z6.next⟩
  · rintro σ H3 ⟨x4, x5, x6, x7, x8, L, rfl, z⟩
    rw [List.length_map] at z
    have g := z.ahead.good nd
    have okL : ∀ e ∈ L, PyData.strOk e.2.1 = true ∧ PyData.strOk e.2.2 = true := fun e he => by
      have m := g.mem e.2 (List.mem_map.mpr ⟨e, he, rfl⟩)
      exact ⟨ok _ m.1, ok _ m.2.1⟩
    have le : L.length ≤ 66 := by
      have := g.len
      rw [List.length_map] at this
      exact Nat.le_trans this (tri_le l12)
    refine ⟨_, rfl, _, rfl, d, c, F0, _, rfl, z.deal, .inl (SqL.of z.lst), z.prs.off z.deal okL, by rw [List.length_map]; omega, fun r ys H4 r1 hD4 k4 e p => ?_⟩
    obtain ⟨L', rfl, pL⟩ := permMap p
    refine q r L' H4 (z.kept.none z.deal r1) hD4 (z.kept.trans k4) e (fun e he => ?_) (fun e he => z.fresh e (pL.mem_iff.mp he)) (g.perm (pL.map _))
    exact (z.prs.kept z.deal k4) e (pL.mem_iff.mp he)
end
end L2.Und
end

section
set_option Elab.async false
set_option linter.all false
set_option maxRecDepth 100000
set_option maxHeartbeats 4000000
namespace L2.Und
open PySem PySem.Spec PyProof.Rows _root_.Und
open PySem.W (findIn keepIn typeIn subIn)
/-! ### raise of an own error with its __init__ -/
/-- what such an __init__ keeps: the error's own dict is new, with these fields -/
def spIni (C : Addr) (n : Nat) (fs : List V → List (Str × V)) : Sp := fun vs H Q _ => ∃ (a : Addr) (ys : List V), vs = .ref a :: ys ∧ ys.length = n ∧ H a = some (exo a C none) ∧
  ∀ (dx : Addr) (H' : Hp), H dx = none → dx ≠ a → H' a = some (exo a C (some dx)) → H' dx = some (exd dx (fs ys)) → (∀ b o, b ≠ a → H b = some o → H' b = some o) → Q .non H'
def fld1 (x : Str) : List V → List (Str × V) := fun ys => [(x, ys.getD 0 .non)]
def fld2 (x y : Str) : List V → List (Str × V) := fun ys => [(y, ys.getD 1 .non), (x, ys.getD 0 .non)]
section
variable {P : Program} {w : World} {K : PySem.W.Frag} {mg : Str → Option Value} {base : Heap} {f C : Addr} {fd : FuncData} {qual x y : Str} {st : Stmt} {p1 p2 p3 p4 q1 q2 q3 q4 : Pos}
theorem visOf {N ps : List Str} {sc : Scope} (S : FnScope N ps sc) {x : Str} (h : x ∈ ps) : Vis sc x := (S.par x h).elim .inl (fun z => .inr (.inl z))
theorem okIni1 (F : Fun K "__init__" qual st f fd) (S : FnScope ["self", x] ["self", x] (defScope st)) (hb : defBody st = [.Assign [.Attribute (.Name "self" p1) x p2] (.Name x p3) p4])
    (T : ErrC K C) (no : findIn K (.ref C) x = some none) (x1 : (x == ("__debug__" : Str)) = false) (x2 : (x == ("__classdict__" : Str)) = false) :
    FnOk P w K mg base CX0 1 f fd ["self", x] (spIni C 1 (fld1 x)) := by
  refine F.ok S (fun vs H Q E h => ?_) (fun cdv A outer s H vs Q E hr h => ?_)
  · obtain ⟨a, ys, rfl, h1, _⟩ := h
    simp [h1]
  rw [hb]
  refine ⟨_, pss_one (psPut (pv 0 rfl (visOf S (by simp))) (pv 1 rfl (visOf S (by simp)) x1 x2)), ?_⟩
  obtain ⟨a, ys, rfl, h1, h2, q⟩ := h
  match ys, h1 with
  | [v], _ =>
    refine ⟨_, rfl, _, rfl, a, C, rfl, T, no, .inl ⟨h2, fun dx n ne => ?_⟩⟩
    refine q dx _ n ne upd_same ?_ fun b o hb e => ?_
    · rw [upd_ne ne]
      exact upd_same
    · rw [upd_ne hb, upd_ne (ne_of_none e n)]
      exact e
theorem okIni2 (F : Fun K "__init__" qual st f fd) (S : FnScope ["self", x, y] ["self", x, y] (defScope st))
    (hb : defBody st = [.Assign [.Attribute (.Name "self" p1) x p2] (.Name x p3) p4, .Assign [.Attribute (.Name "self" q1) y q2] (.Name y q3) q4])
    (T : ErrC K C) (no : findIn K (.ref C) x = some none) (no2 : findIn K (.ref C) y = some none) (x1 : (x == ("__debug__" : Str)) = false) (x2 : (x == ("__classdict__" : Str)) = false) (y1 : (y == ("__debug__" : Str)) = false) (y2 : (y == ("__classdict__" : Str)) = false) :
    FnOk P w K mg base CX0 1 f fd ["self", x, y] (spIni C 2 (fld2 x y)) := by
  refine F.ok S (fun vs H Q E h => ?_) (fun cdv A outer s H vs Q E hr h => ?_)
  · obtain ⟨a, ys, rfl, h1, _⟩ := h
    simp [h1]
  rw [hb]
  refine ⟨_, pss_cons (psPut (pv 0 rfl (visOf S (by simp))) (pv 1 rfl (visOf S (by simp)) x1 x2)) (pss_one (psPut (pv 0 rfl (visOf S (by simp))) (pv 2 rfl (visOf S (by simp)) y1 y2))), ?_⟩
  obtain ⟨a, ys, rfl, h1, h2, q⟩ := h
  match ys, h1 with
  | [v, u], _ =>
    refine ⟨_, rfl, _, rfl, a, C, rfl, T, no, .inl ⟨h2, fun dx n ne => ?_⟩⟩
    have e1 : upd (upd H dx (exd dx [(x, v)])) a (exo a C (some dx)) a = some (exo a C (some dx)) := upd_same
    have e2 : upd (upd H dx (exd dx [(x, v)])) a (exo a C (some dx)) dx = some (exd dx [(x, v)]) := by rw [upd_ne ne]; exact upd_same
    refine ⟨_, rfl, _, rfl, a, C, rfl, T, no2, .inr ⟨dx, _, e1, e2, (by show 1 ≤ 900; decide), ?_⟩⟩
    refine q dx _ n ne ?_ upd_same fun b o hb e => ?_
    · rw [upd_ne ne.symm]
      exact e1
    · rw [upd_ne (ne_of_none e n), upd_ne hb, upd_ne (ne_of_none e n)]
      exact e
end
/-- the making of the error, for a raise -/
def tMkE (C : Addr) (n : Nat) (fs : List V → List (Str × V)) (t : TA) : St → Hp → XK → Prop := fun σ H Q => t σ H fun vs H1 => vs.length = n ∧ ∀ (d : Addr) (H2 : Hp), H1 d = none → Same H1 H2 → H2 d = some (.xd (fs vs)) → Q (.ref C) (some d) H2
section
variable {X : Cx} {CX : CXT} {k n : Nat} {fI C : Addr} {fd : FuncData} {ps : List Str} {fs : List V → List (Str × V)} {x : Str} {p pos : Pos} {e : Expr} {es : List Expr} {t : TA}
theorem pmkErr (T : ErrC X.K C) (tyC : typeIn X.K (.ref C) = some (.type "type")) (iC : findIn X.K (.ref C) "__init__" = some (some (.ref fI))) (tI : typeIn X.K (.ref fI) = some (.type "function"))
    (F : FnOk X.prog X.w X.K X.mg X.base CX0 k fI fd ps (spIni C n fs)) (hr : Room (k + 1) X.A) (hb : Binds X.K fd ps []) (hn : n ≤ 1000)
    (hg : Gl X x) (hm : X.mg x = some (.ref C)) (ha : PA X (e :: es) t) (hdb : (x == ("__debug__" : Str)) = false := by decide)
    (he : starEach (e :: es) X.env = (false, eval e X.env) :: starEach es X.env := by rfl) (hpl : (backTo pos (starEach es X.env)).any (·.1) = false := by rfl) :
    PMk X (.Call (.Name x p) (e :: es) [] pos) (tMkE C n fs t) := by
  intro pins s σ H Q I h
  obtain ⟨B, newId, initId, bmB, nm, q, N, bs, bm, sn, sub, ab, col, dd, k0, k1, k2, k3, k5, FB, U, O, hC⟩ := T.cls
  refine wpAny_Call_Name_kw (ld_glob I hg hm ?_ hdb)
  refine PySem.W.callWith_K (h₀ := X.base) I.ok.mod.kin T.keep (thn (ha.run pos pins s σ H _ I h) fun us s1 ⟨vs, H1, I1, r1, l1, q1⟩ => ⟨I1.kIn, ?_⟩) he hpl
  show wpAny _ _ (call (.ref C) us) _ _ _
  obtain ⟨hp, gs, dr, tk, os⟩ := s1
  have big : hp.objs.size ≤ hp.objs.size + 1 := Nat.le_succ _
  have nn : H1 (hp.objs.size + 1) = none := I1.hok.fresh big
  have up : ∀ b o, hp.get? b = some o → ((hp.push (PySem.W.kdv_tup us)).push (PySem.HandSPX.excO C hp.objs.size)).get? b = some o := fun b o z => Heap.get?_push_of_some _ (Heap.get?_push_of_some _ z)
  have laid : ((hp.push (PySem.W.kdv_tup us)).push (PySem.HandSPX.excO C hp.objs.size)).get? (hp.objs.size + 1) = some (PySem.HandSPX.excO C hp.objs.size) := by heap_get
  have I2 : Inv X pins σ (upd H1 (hp.objs.size + 1) (exo (hp.objs.size + 1) C none)) ⟨(hp.push (PySem.W.kdv_tup us)).push (PySem.HandSPX.excO C hp.objs.size), gs, dr, tk, os⟩ :=
    I1.laid (t' := tk) (a := hp.objs.size + 1) up big (exo_ok laid)
  obtain ⟨a, ea⟩ : ∃ a, a = hp.objs.size + 1 := ⟨_, rfl⟩
  rw [← ea] at nn laid I2
  have sp : spIni C n fs (.ref a :: vs) (upd H1 a (exo a C none)) (fun v H2 => v = .non ∧ ∃ (d : Addr), H2 a = some (exo a C (some d)) ∧ H2 d = some (exd d (fs vs)) ∧ H1 d = none ∧ Q (.ref C) (some d) (upd (del H2 a) d (.xd (fs vs)))) (fun _ _ _ => False) := by
    refine ⟨a, vs, rfl, l1, upd_same, fun dx H' n1 ne g1 g2 kp => ⟨rfl, dx, g1, g2, ?_, ?_⟩⟩
    · rw [upd_ne ne] at n1
      exact n1
    · rw [upd_ne ne] at n1
      refine q1 dx _ n1 (fun b o z => ?_) upd_same
      have ba : b ≠ a := fun y => by rw [y, nn] at z; cases z
      rw [upd_ne (ne_of_none z n1), del_ne ba]
      exact kp b o ba (by rw [upd_ne ba]; exact z)
  have r2 : Vals (V.ref a :: vs) (Value.ref a :: us) := .cons rfl r1
  have e0 : us.length = n := r1.length.symm.trans l1
  have hz : us.length ≤ sizeLine := by
    rw [e0, sizeLine_eq]
    omega
  have hl : (Value.ref a :: us ++ ([] : List Value)).length = ps.length := by
    have z := F.len _ _ _ _ sp
    rw [List.append_nil, ← z]
    exact r2.length.symm
  have hbd := hb _ (Value.ref a :: us) I2.kIn hl
  rw [List.append_nil] at hbd
  refine wpAny_call (madeBy (kw := []) FB U (I1.kIn _ _ hC) hz (PySem.W.looks_findIn I1.kIn iC) (fun self => PySem.W.bind_fn I1.kIn self tI) ?_)
  rw [← ea]
  refine codeAny_mono (F.run _ X.stack _ _ ⟨Value.ref a :: us, []⟩ (Value.ref a :: us) _ _ (fun _ _ _ => False) (hr.make C us []) (I2.env0.make C us []) hbd r2 sp) fun r s' z => ?_
  cases r with
  | error er => exact pass0 (X := X) pins σ _ _ er s' I2 z
  | ok fl =>
    cases fl with
    | ret u =>
      obtain ⟨v, H2, os2, bare2, un2, hok2, rv, ev, d, g1, g2, g3, q2⟩ := z
      subst ev
      obtain ⟨h2, gg2, d2, t2, os'⟩ := s'
      exact ⟨rv, mk_end (raises_own T.exc tyC) I1 (by rw [ea]; exact big) up un2 hok2 os2 bare2 g1 g2 g3 q2⟩
    | next => exact z.elim
    | brk => exact z.elim
    | cont => exact z.elim
end
end L2.Und
end

section
set_option Elab.async false
set_option linter.all false
set_option maxRecDepth 100000
set_option maxHeartbeats 4000000
namespace L2.Und
open PySem PySem.Spec PyProof.Rows _root_.Und
/-! ### is_name of the program -/
abbrev sIsName : Stmt := topS 15
theorem scIsName : FnScope ["text", "letter"] ["text"] (defScope sIsName) := ⟨rfl, rfl, rfl, by decide +kernel, rfl, by decide +kernel, by decide +kernel⟩
def spIsName : Sp := fun vs H Q _ => ∃ z : Str, vs = [.str z] ∧ z.length ≤ 100000 ∧ ∀ H', Same H H' → Q (.bl (IsName z)) H'
theorem ltOne (a b : Nat) : decide (([a] : List Nat) < [b]) = decide (a < b) := by
  by_cases h : a < b
  · rw [decide_eq_true h, decide_eq_true]
    exact List.Lex.rel h
  · rw [decide_eq_false h, decide_eq_false]
    intro z
    cases z with
    | rel r => exact h r
    | cons r => cases r
def isLet (c : Nat) : Bool := decide (97 ≤ c) && decide (c ≤ 122)
section
variable {P : Program} {w : World} {K : PySem.W.Frag} {mg : Str → Option Value} {base : Heap}
theorem okIsName {f : Addr} {fd : FuncData} {t : Tok} (F : Fun K "is_name" "is_name" sIsName f fd) (mL : mg "len" = none) (mA : mg "all" = none) (mM : mg "MOST_LETTERS" = some (.int 6 t)) :
    FnOk P w K mg base CX0 1 f fd ["text"] spIsName := by
  refine F.ok scIsName (fun vs H Q E h => ?_) (fun cdv A outer s H vs Q E hr h => ?_)
  · obtain ⟨z, rfl, _⟩ := h
    rfl
  refine ⟨_, pss_one (ps_ret (pe_and (pe_chain op_le op_le pe_int (pe_callB call_len_str rfl mL PySem.boot_len (pa_cons (pv 0) pa_nil)) (pe_glob (v := .int 6) rfl mM ⟨t, rfl⟩))
    (pe_one (pe_callB (cr_all (by rfl)) (by rfl) mA PyProof.Rows.boot_all (pa_cons (pe_lc (own := [("letter", 1)]) (g := gName 1) (tt := tYes) rfl scIsName.nd (pi_str (pv 0)) (blkOk_by (N := ["text", "letter"]) (sc := defScope sIsName) (by decide +kernel))
      (fun _ _ _ _ _ => pg_name (i := 1) scIsName.nd rfl (Or.inl rfl)) (fun _ _ _ _ _ => pts_nil)
      (fun _ _ _ _ _ => pe_chain op_le_str op_le_str pe_str (pv 1) pe_str)) pa_nil))))), ?_⟩
  obtain ⟨z, rfl, hz, q⟩ := h
  have zl : z.length = z.cps.size := rfl
  refine ⟨_, rfl, z, rfl, (Nat.le_trans hz (by decide)), _, _, rfl, rfl, ?_⟩
  have nm : IsName z = (decide (1 ≤ z.cps.size) && decide (z.cps.size ≤ 6) && z.cps.all isLet) := rfl
  refine ⟨_, rfl, ?_⟩
  refine ite2 (fun a => ?_) (fun a => ?_)
  · have a0 : (1 : Int) ≤ (z.length : Int) := of_decide_eq_true a
    have a1 : decide (1 ≤ z.cps.size) = true := decide_eq_true (by omega)
    refine ⟨_, _, rfl, rfl, _, rfl, ?_⟩
    refine ite2 (fun b => ?_) (fun b => ?_)
    · have b0 : (z.length : Int) ≤ 6 := of_decide_eq_true b
      have b1 : decide (z.cps.size ≤ 6) = true := decide_eq_true (by omega)
      refine ⟨_, rfl, z, rfl, fun D hD => ?_⟩
      have hN := sameNew (o := .lst []) hD
      refine lc_it walk_str (fun i H' => Same H H' ∧ H' D = some (.lst (((z.cps.toList.take i).map isLet).map V.bl))) ⟨hN, upd_same⟩ (fun _ _ _ _ => True.intro) ?_ ?_
      · rintro i x H1 H2 hi ⟨g1, g2⟩ ⟨rfl, c, hc, rfl⟩
        have hc' : z.cps.toList[i]? = some c := by rw [Array.getElem?_toList]; exact hc
        have fin : ∀ y : Bool, y = isLet c → ∃ acc, H2 D = some (.lst acc) ∧ acc.length < sizeLine ∧ (Same H (upd H2 D (.lst (acc ++ [V.bl y]))) ∧ upd H2 D (.lst (acc ++ [V.bl y])) D = some (.lst (((z.cps.toList.take (i + 1)).map isLet).map V.bl))) := by
          rintro y rfl
          refine ⟨_, g2, ?_, Same.upd g1 hD, ?_⟩
          · rw [List.length_map, List.length_map, List.length_take]
            exact Nat.lt_of_le_of_lt (show _ ≤ 100000 by omega) (by decide)
          · rw [upd_same, List.take_succ, hc', List.map_append, List.map_append]
            rfl
        have la : ("a" : Str).cps.toList = [97] := by decide +kernel
        have lz : ("z" : Str).cps.toList = [122] := by decide +kernel
        refine ⟨rfl, _, rfl, _, _, rfl, rfl, _, rfl, ?_⟩
        have e1 : (!decide ((⟨#[c]⟩ : Str).cps.toList < ("a" : Str).cps.toList)) = decide (97 ≤ c) := by
          rw [la]
          show (!decide (([c] : List Nat) < [97])) = _
          rw [ltOne]
          by_cases h : c < 97
          · rw [decide_eq_true h, decide_eq_false (by omega)]; rfl
          · rw [decide_eq_false h, decide_eq_true (by omega)]; rfl
        have e2 : (!decide (("z" : Str).cps.toList < (⟨#[c]⟩ : Str).cps.toList)) = decide (c ≤ 122) := by
          rw [lz]
          show (!decide (([122] : List Nat) < [c])) = _
          rw [ltOne]
          by_cases h : 122 < c
          · rw [decide_eq_true h, decide_eq_false (by omega)]; rfl
          · rw [decide_eq_false h, decide_eq_true (by omega)]; rfl
        refine ite2 (fun k => ?_) (fun k => ?_)
        · refine ⟨_, _, rfl, rfl, fin _ ?_⟩
          rw [e1] at k
          unfold isLet
          rw [e2, k, Bool.true_and]
        · refine fin _ ?_
          rw [e1] at k
          have k : decide (97 ≤ c) = false := by simpa using k
          unfold isLet
          rw [k, Bool.false_and]
      · rintro H2 ⟨g1, g2⟩
        rw [show z.cps.size = z.cps.toList.length from (Array.length_toList).symm, List.take_length] at g2
        refine ⟨D, _, rfl, SqL.of g2, ?_⟩
        have e : (z.cps.toList.map isLet).all id = IsName z := by
          rw [nm, a1, b1, Bool.true_and, Bool.true_and, List.all_map, ← Array.all_toList]
          rfl
        rw [e]
        exact q H2 g1
    · have e : IsName z = false := by
        have b0 : ¬ ((z.length : Int) ≤ 6) := fun y => b (decide_eq_true y)
        rw [nm, decide_eq_false (by omega : ¬ z.cps.size ≤ 6), Bool.and_false, Bool.false_and]
      have q0 := q H (Same.refl H)
      rw [e] at q0
      exact q0
  · have e : IsName z = false := by
      have b0 : ¬ ((1 : Int) ≤ (z.length : Int)) := fun y => a (decide_eq_true y)
      rw [nm, decide_eq_false (by omega : ¬ 1 ≤ z.cps.size), Bool.false_and, Bool.false_and]
    have q0 := q H (Same.refl H)
    rw [e] at q0
    exact ⟨_, rfl, iteF q0⟩
end
end L2.Und
end

section
set_option Elab.async false
set_option linter.all false
set_option maxRecDepth 100000
set_option maxHeartbeats 4000000
namespace L2.KS
open PySem PySem.Spec PyProof.Rows
/-! Sets of tuples whose items are ints or texts (the library has them of ints alone): the search, adding, the larger table. -/
abbrev IsK (P : Program) (w : World) (h : Heap) (k : List Key) (a : Addr) : Prop := IsTupleKey (mixKind P w) h k a
abbrev kh (P : Program) (w : World) (k : List Key) : Int := tupleKeyHash (mixKind P w) k
/-- the c-th step of the way of a hash -/
abbrev cur (t : SetTable) (h : Int) (c : Nat) : SetTable.Probe := nth t.mask (runAt t.mask (SetTable.bits h % (t.mask + 1)) (SetTable.bits h)) c
section
variable {P : Program} {w : World} {A : Around} {E : Value → Shared → Prop} {s : Shared}
theorem flatItem {k : List Key} {vs : List Value} (h : ItemsAre (mixKind P w) k vs) : ∀ v ∈ vs, (∃ i t, v = Value.int i t) ∨ ∃ x t, v = Value.str x t := by
  induction h with
  | nil => exact fun v hv => nomatch hv
  | cons h1 _ ih =>
    intro v hv
    rcases List.mem_cons.mp hv with rfl | hv
    · rcases keyIs_shape h1 with ⟨i, t, _, e⟩ | ⟨x, t, _, e⟩
      · exact .inl ⟨i, t, e⟩
      · exact .inr ⟨x, t, e⟩
    · exact ih v hv
theorem noClass {v : Value} (h : (∃ i t, v = Value.int i t) ∨ ∃ x t, v = Value.str x t) (n : Nat) : ofAClassStatement n v = pure false := by
  rcases h with ⟨i, t, rfl⟩ | ⟨x, t, rfl⟩ <;> cases n <;> rfl
theorem itemHash {v : Value} (h : (∃ i t, v = Value.int i t) ∨ ∃ x t, v = Value.str x t) (n : Nat) : ∃ b, hashByValue n v = pure b := by
  rcases h with ⟨i, t, rfl⟩ | ⟨x, t, rfl⟩ <;> cases n <;> exact ⟨_, rfl⟩
abbrev Flat (v : Value) : Prop := (∃ i t, v = Value.int i t) ∨ ∃ x t, v = Value.str x t
theorem clsK {k : List Key} {b : Addr} {Q : Bool → Shared → Prop} (hk : IsK P w s.heap k b) (h : Q false s) : wpAny (model P w) A (ofAClassStatement 8 (.ref b)) Q E s := by
  have ty := hk.typeIs
  obtain ⟨o, its, n, ho, _, hd, hi⟩ := hk
  have fl := flatItem hi
  unfold ofAClassStatement
  refine wpAny_bind (wpAny_typeOf ty ?_)
  have e : (("tuple" : String) == "tuple") = true := by decide
  simp only [e, if_true, Bool.not_true, Bool.false_eq_true, if_false]
  try refine wpAny_bind (wpAny_pure ?_)
  try simp only [Bool.not_true, Bool.false_eq_true, if_false]
  show wpAny _ _ (seqItems? (.ref b) >>= _) _ _ s
  refine wpAny_bind (wpAny_seqItems ho hd (wpAny_bind ?_))
  show wpAny _ _ (forIn its _ _) _ _ s
  rw [← Array.forIn_toList]
  refine wpAny_forIn_list _ (fun rest r s' => r.1 = none ∧ s' = s ∧ ∀ v ∈ rest, Flat v) _ (fun v rest r s' g => ?_) (fun r s' g => ?_) _ _ ⟨rfl, rfl, fl⟩
  · obtain ⟨g1, rfl, g3⟩ := g
    rw [noClass (g3 v List.mem_cons_self)]
    refine wpAny_bind (wpAny_pure ?_)
    simp only [Bool.false_eq_true, if_false]
    exact wpAny_pure ⟨rfl, rfl, fun u hu => g3 u (List.mem_cons_of_mem _ hu)⟩
  · obtain ⟨g1, rfl, _⟩ := g
    obtain ⟨r1, r2⟩ := r
    cases (show r1 = none from g1)
    exact wpAny_pure h
theorem hashK {k : List Key} {b : Addr} {Q : Bool → Shared → Prop} (hk : IsK P w s.heap k b) (h : ∀ y, Q y s) : wpAny (model P w) A (hashByValue 8 (.ref b)) Q E s := by
  have ty := hk.typeIs
  obtain ⟨o, its, n, ho, _, hd, hi⟩ := hk
  have fl := flatItem hi
  unfold hashByValue
  refine wpAny_bind (wpAny_specialOf ty F.slot_tuple_hash.lookup ?_)
  show wpAny _ _ (seqItems? (.ref b) >>= _) _ _ s
  refine wpAny_bind (wpAny_seqItems ho hd (wpAny_bind ?_))
  show wpAny _ _ (forIn its _ _) _ _ s
  rw [← Array.forIn_toList]
  refine wpAny_forIn_list _ (fun rest r s' => s' = s ∧ ∀ v ∈ rest, Flat v) _ (fun v rest r s' g => ?_) (fun r s' g => ?_) _ _ ⟨rfl, fl⟩
  · obtain ⟨rfl, g3⟩ := g
    obtain ⟨y, e⟩ := itemHash (g3 v List.mem_cons_self) 7
    rw [e]
    refine wpAny_bind (wpAny_pure ?_)
    cases y with
    | true =>
      simp only [Bool.not_true, Bool.false_eq_true, if_false]
      exact wpAny_pure ⟨rfl, fun u hu => g3 u (List.mem_cons_of_mem _ hu)⟩
    | false =>
      simp only [Bool.not_false, if_true]
      exact wpAny_pure (wpAny_pure (h _))
  · cases g.1
    obtain ⟨r1, r2⟩ := r
    cases r1 with
    | none => exact wpAny_pure (h _)
    | some y => exact wpAny_pure (h _)
theorem unseenK {k : List Key} {b : Addr} {Q : Bool → Shared → Prop} (hk : IsK P w s.heap k b) {ys : List Value} (hy : ∀ y ∈ ys, ∃ k' c, y = Value.ref c ∧ IsK P w s.heap k' c) (h : Q false s) :
    wpAny (model P w) A (searchCouldBeSeen (.ref b) ys) Q E s := by
  unfold searchCouldBeSeen
  refine wpAny_bind (wpAny_forIn_list _ (fun rest r s' => r.1 = none ∧ s' = s ∧ ∀ y ∈ rest, ∃ k' c, y = Value.ref c ∧ IsK P w s.heap k' c) _ (fun v rest r s' g => ?_) (fun r s' g => ?_) _ _ ⟨rfl, rfl, hy⟩)
  · obtain ⟨g1, rfl, g3⟩ := g
    obtain ⟨k', c, rfl, hc⟩ := g3 v List.mem_cons_self
    have go : ∀ y ∈ rest, ∃ k' c, y = Value.ref c ∧ IsK P w s'.heap k' c := fun u hu => g3 u (List.mem_cons_of_mem _ hu)
    dsimp only
    by_cases hv : (b == c || (carriedByValue (.ref b) && carriedByValue (.ref c))) = true
    · exact wp_if_pos hv (wpAny_pure ⟨rfl, rfl, go⟩)
    · refine wp_if_neg hv (wpAny_bind (wpAny_eqIsQuiet_tuple hk ?_))
      simp only [Bool.not_true, Bool.false_eq_true, if_false]
      refine wpAny_bind (wpAny_eqIsQuiet_tuple hc ?_)
      simp only [Bool.not_true, Bool.false_eq_true, if_false]
      refine wpAny_bind (clsK hk ?_)
      simp only [Bool.false_eq_true, if_false]
      refine wpAny_bind (clsK hc ?_)
      simp only [Bool.false_eq_true, if_false]
      exact wpAny_pure ⟨rfl, rfl, go⟩
  · obtain ⟨g1, rfl, _⟩ := g
    obtain ⟨r1, r2⟩ := r
    cases (show r1 = none from g1)
    exact wpAny_pure h
/-! ### the set -/
abbrev KL := List (Addr × List Key)
def rowsK (P : Program) (w : World) (L : KL) : List (Int × Value) := L.map fun p => (kh P w p.2, Value.ref p.1)
structure KSet (P : Program) (w : World) (h : Heap) (a : Addr) (L : KL) (es : Array (Int × Value)) (ep : Nat) (t : SetTable) : Prop where
  ob : ∃ o, h.get? a = some o ∧ o.ExactSet ∧ o.data = .set es ep t
  rows : es.toList = rowsK P w L
  tab : TabOk t (L.map fun p => kh P w p.2)
  nd : (L.map (·.2)).Nodup
  tup : ∀ p ∈ L, IsK P w h p.2 p.1
  led : w.params.followText "set-order" = true ∨ t.led = true
  room : L.length * 5 < t.mask * 3
variable {a : Addr} {L : KL} {es : Array (Int × Value)} {ep : Nat} {t : SetTable}
theorem rows_size (h : es.toList = rowsK P w L) : es.size = L.length := by
  have e := congrArg List.length h
  rwa [Array.length_toList, show (rowsK P w L).length = L.length from List.length_map _] at e
theorem KSet.fit (R : KSet P w s.heap a L es ep t) : t.fits es.size = true := by
  have h1 : t.place.size = L.length := R.tab.sz.trans (List.length_map _)
  have h2 := rows_size R.rows
  have h3 := R.room
  unfold SetTable.fits SetTable.fill
  rw [R.tab.dm, Bool.and_eq_true, beq_iff_eq, decide_eq_true_eq]
  refine ⟨h1.trans h2.symm, ?_⟩
  show t.place.size + 0 ≤ t.mask
  omega
theorem KSet.ent (R : KSet P w s.heap a L es ep t) {i : Nat} {p : Addr × List Key} (h : L[i]? = some p) : es[i]? = some (kh P w p.2, Value.ref p.1) := by
  rw [← Array.getElem?_toList, R.rows, rowsK, List.getElem?_map, h]
  rfl
theorem cur_add (t : SetTable) (h : Int) (c q : Nat) : nth t.mask (cur t h c) q = cur t h (c + q) := (nth_add t.mask c _ q).symm
theorem cur_j (t : SetTable) (h : Int) (c q : Nat) : (nth t.mask (cur t h c) q).j = way t.mask h (c + q) := congrArg SetTable.Probe.j (cur_add t h c q)
theorem cur_dummy (t : SetTable) (h : Int) (c : Nat) : (cur t h c).dummy = none := by
  have key : ∀ (n : Nat) (p : SetTable.Probe), p.dummy = none → (nth t.mask p n).dummy = none := fun n => by
    induction n with
    | zero => exact fun p z => z
    | succ n ih => exact fun p z => ih (adv t.mask p) (by unfold adv; split <;> exact z)
  exact key c _ rfl
/-- what a search for k asks of the way: K is the first empty place -/
structure Seek (P : Program) (w : World) (t : SetTable) (k : List Key) (K : Nat) : Prop where
  few : K < 10 * SetTable.turns t.mask
  out : way t.mask (kh P w k) K ∉ t.place.toList
  bef : ∀ c, c < K → way t.mask (kh P w k) c ∈ t.place.toList
theorem seekK (R : KSet P w s.heap a L es ep t) {x : Addr} {k : List Key} (hx : IsK P w s.heap k x) (hu : A.units < cLine) {K : Nat} (W : Seek P w t k K) {Q : SetFound → Shared → Prop}
    (hin : k ∈ L.map (·.2) → Q (.there none) s) (hout : k ∉ L.map (·.2) → Q (.free (way t.mask (kh P w k) K) false) s) :
    ∀ (f c : Nat) (st : Option SetTable.Probe), st.getD (t.probeStart (kh P w k)) = cur t (kh P w k) c → c ≤ K → K - c < f →
      (∀ (i : Nat) p, L[i]? = some p → p.2 = k → ∃ c', c ≤ c' ∧ c' < K ∧ t.place.toList[i]? = some (way t.mask (kh P w k) c')) →
      wpAny (model P w) A (setSearchFrom a (.ref x) (kh P w k) true f st) Q E s
  | 0, _, _, _, _, hf, _ => absurd hf (Nat.not_lt_zero _)
  | f + 1, c, st, hst, hc, hf, hre => by
    obtain ⟨o, ho, hex, hd⟩ := R.ob
    have gw : ¬ t.gaveWay = true := by
      unfold SetTable.gaveWay
      rw [mask_odd R.tab.mok]
      decide
    have hashAt : ∀ (i : Nat) p, L[i]? = some p → (es[i]?.map (·.1)).getD 0 = kh P w p.2 := fun i p hp => by
      rw [R.ent hp]
      rfl
    rw [setSearchFrom_succ]
    refine wpAny_bind (wpAny_setState_of ho hd R.fit ?_)
    dsimp only
    refine wp_if_neg gw ?_
    try refine wpAny_bind (wpAny_pure ?_)
    rw [hst]
    rcases go_spec t R.tab.ris R.tab.dm (fun i => (es[i]?.map (·.1)).getD 0) (kh P w k) (10 * SetTable.turns t.mask) (K - c) _ (cur_dummy t (kh P w k) c) (by have := W.few; omega)
      (fun q hq => by rw [cur_j]; exact W.bef (c + q) (by omega)) (by rw [cur_j, show c + (K - c) = K by omega]; exact W.out) with ⟨q, i, hq, hi, hh, hno, hpr⟩ | ⟨hno, hpr⟩
    · -- a candidate
      rw [cur_j] at hi hpr
      rw [cur_add] at hpr
      have hpr : t.probe (fun i => (es[i]?.map (·.1)).getD 0) (kh P w k) (cur t (kh P w k) c) = _ := hpr
      rw [hpr]
      dsimp only
      have il : i < L.length := by
        have h1 := (List.getElem?_eq_some_iff.mp hi).1
        have h2 : t.place.size = L.length := R.tab.sz.trans (List.length_map _)
        rw [Array.length_toList] at h1
        omega
      obtain ⟨p, hp⟩ : ∃ p, L[i]? = some p := ⟨_, List.getElem?_eq_getElem il⟩
      have pm := List.mem_of_getElem? hp
      have tail : wpAny (model P w) A (searchRest a (.ref x) (kh P w k) true f es t (way t.mask (kh P w k) (c + q)) i (cur t (kh P w k) (c + (q + 1)))) Q E s := by
        unfold searchRest
        rw [R.ent hp]
        dsimp only
        refine wpAny_bind (wpAny_holding (wpAny_eqBool_tuple hu (R.tup p pm) hx (wpAny_bind (wpAny_setState_of ho hd R.fit ?_))))
        dsimp only
        by_cases same : p.2 = k
        · exact wp_if_pos (by simp [same]) (wpAny_pure (hin (List.mem_map.mpr ⟨p, pm, same⟩)))
        refine wp_if_neg (by simp [same]) ?_
        try refine wpAny_bind (wpAny_pure ?_)
        have live : t.slot (way t.mask (kh P w k) (c + q)) = .live i := slot_live R.tab.ris hi
        rw [sameMem]
        dsimp only
        simp only [if_true, live, R.ent hp]
        refine wpAny_bind (wpAny_isSame_ref_self (wpAny_bind (wpAny_pure ?_)))
        simp only [if_true]
        refine wp_if_neg (by simp [same]) ?_
        refine seekK R hx hu W hin hout f (c + (q + 1)) _ rfl (by omega) (by omega) fun i0 p0 h0 k0 => ?_
        obtain ⟨c', a1, a2, a3⟩ := hre i0 p0 h0 k0
        refine ⟨c', ?_, a2, a3⟩
        have low : ¬ c' < c + q := fun z => hno (c' - c) i0 (by omega) (by rw [cur_j, show c + (c' - c) = c' by omega]; exact a3) ((hashAt i0 p0 h0).trans (congrArg (kh P w) k0))
        have ne : c' ≠ c + q := fun z => by
          rw [z] at a3
          have u := slot_live R.tab.ris a3
          rw [live] at u
          injection u with u
          rw [← u, hp] at h0
          exact same ((congrArg Prod.snd (Option.some.inj h0)).trans k0)
        omega
      by_cases hl : t.led = true
      · refine wp_if_neg (by simp [hl]) ?_
        try refine wpAny_bind (wpAny_pure ?_)
        exact tail
      refine wp_if_pos (by simp [hl]) (wpAny_bind (unseenK hx (fun y hy => ?_) ?_))
      · obtain ⟨e, he, ee⟩ := List.mem_map.mp hy
        have he1 : e ∈ es ∧ e.1 = kh P w k := by simpa using he
        have he2 : e ∈ rowsK P w L := R.rows ▸ (by simpa using he1.1 : e ∈ es.toList)
        obtain ⟨p2, hp2, e2⟩ := List.mem_map.mp he2
        exact ⟨p2.2, p2.1, by rw [← ee, ← e2], R.tup p2 hp2⟩
      · refine wp_if_neg (by decide) ?_
        try refine wpAny_bind (wpAny_pure ?_)
        exact tail
    · -- the empty place
      rw [cur_j, show c + (K - c) = K by omega] at hpr
      have hpr : t.probe (fun i => (es[i]?.map (·.1)).getD 0) (kh P w k) (cur t (kh P w k) c) = _ := hpr
      rw [hpr]
      dsimp only
      refine wpAny_pure (hout fun hm => ?_)
      obtain ⟨p0, m0, k0⟩ := List.mem_map.mp hm
      obtain ⟨i0, hi0, e0⟩ := List.getElem_of_mem m0
      have h0 : L[i0]? = some p0 := by rw [List.getElem?_eq_getElem hi0, e0]
      obtain ⟨c', a1, a2, a3⟩ := hre i0 p0 h0 k0
      exact hno (c' - c) i0 (by omega) (by rw [cur_j, show c + (c' - c) = c' by omega]; exact a3) ((hashAt i0 p0 h0).trans (congrArg (kh P w) k0))
/-- the search that adding asks for -/
theorem searchK (R : KSet P w s.heap a L es ep t) {x : Addr} {k : List Key} (hx : IsK P w s.heap k x) (hu : A.units < cLine) {Q : SetFound → Shared → Prop}
    (hin : k ∈ L.map (·.2) → Q (.there none) s) (hout : ∀ K, k ∉ L.map (·.2) → Seek P w t k K → Q (.free (way t.mask (kh P w k) K) false) s) :
    wpAny (model P w) A (setSearch a (.ref x) (kh P w k) true) Q E s := by
  have rm := R.room
  obtain ⟨K, w1, w2, w3⟩ := R.tab.first (by rw [List.length_map]; omega) (kh P w k)
  have big : 10 * SetTable.turns t.mask ≤ 1420 := by
    unfold SetTable.turns
    rcases R.tab.mok with e | e | e <;> omega
  unfold setSearch
  refine seekK R hx hu ⟨w1, w2, w3⟩ hin (fun hn => hout K hn ⟨w1, w2, w3⟩) 100000 0 none rfl (Nat.zero_le _) (by omega) fun i p hp hk => ?_
  have hh : (L.map fun p => kh P w p.2)[i]? = some (kh P w k) := by
    rw [List.getElem?_map, hp, ← hk]
    rfl
  have il : i < t.place.toList.length := by
    have h1 := (List.getElem?_eq_some_iff.mp hp).1
    have h2 : t.place.size = L.length := R.tab.sz.trans (List.length_map _)
    rw [Array.length_toList]
    omega
  have hj := List.getElem?_eq_getElem il
  obtain ⟨c, hc, e⟩ := R.tab.before w2 hh hj
  exact ⟨c, Nat.zero_le _, hc, by rw [hj, e]⟩
end
end L2.KS
end

section
set_option Elab.async false
set_option linter.all false
set_option maxRecDepth 100000
set_option maxHeartbeats 4000000
namespace L2.KS
open PySem PySem.Spec PyProof.Rows
theorem range_self {α : Type} (L : List α) : (List.range L.length).filterMap (fun i => L[i]?) = L := by
  have key : ∀ n, n ≤ L.length → (List.range n).filterMap (fun i => L[i]?) = L.take n := fun n => by
    induction n with
    | zero => exact fun _ => rfl
    | succ n ih =>
      intro hn
      rw [List.range_succ, List.filterMap_append, ih (by omega), List.take_succ, List.getElem?_eq_getElem hn, List.filterMap_cons_some (List.getElem?_eq_getElem hn)]
      rfl
  rw [key _ (Nat.le_refl _), List.take_length]
theorem picks {α β γ : Type} {f : Nat → Option α} {g : α → β} {h : Nat → Option β} {u : α → γ} {v : Nat → γ} : ∀ {l : List Nat}, (∀ i ∈ l, ∃ x, f i = some x ∧ h i = some (g x) ∧ v i = u x) →
    l.filterMap h = (l.filterMap f).map g ∧ (l.filterMap f).map u = l.map v
  | [], _ => ⟨rfl, rfl⟩
  | i :: l, H => by
    obtain ⟨x, e1, e2, e3⟩ := H i List.mem_cons_self
    obtain ⟨i1, i2⟩ := picks (l := l) fun j hj => H j (List.mem_cons_of_mem _ hj)
    rw [List.filterMap_cons_some e1, List.filterMap_cons_some e2, List.map_cons, List.map_cons, List.map_cons, i1, i2, e3]
    exact ⟨rfl, rfl⟩
section
variable {P : Program} {w : World} {A : Around} {E : Value → Shared → Prop} {s : Shared} {a : Addr} {L : KL} {es : Array (Int × Value)} {ep : Nat} {t : SetTable}
theorem orderK {order : Array Nat} (hr : es.toList = rowsK P w L) (hp : order.toList.Perm (List.range L.length)) :
    ∃ L2, (order.filterMap (es[·]?)).toList = rowsK P w L2 ∧ L2.Perm L ∧ (L2.map fun p => kh P w p.2) = order.toList.map fun i => (es.map (·.1)).getD i 0 := by
  have z := rows_size hr
  have H : ∀ i ∈ order.toList, ∃ x, L[i]? = some x ∧ es[i]? = some (kh P w x.2, Value.ref x.1) ∧ (es.map (·.1)).getD i 0 = kh P w x.2 := fun i hi => by
    have il : i < L.length := List.mem_range.mp (hp.mem_iff.mp hi)
    have e1 : L[i]? = some L[i] := List.getElem?_eq_getElem il
    have e2 : es[i]? = some (kh P w L[i].2, Value.ref L[i].1) := by
      rw [← Array.getElem?_toList, hr, rowsK, List.getElem?_map, e1]
      rfl
    have e3 : (es.map (·.1))[i]? = some (kh P w L[i].2) := by
      rw [Array.getElem?_map, e2]
      rfl
    exact ⟨L[i], e1, e2, by simp [Array.getD_eq_getD_getElem?, e3]⟩
  obtain ⟨p1, p2⟩ := picks (f := fun i => L[i]?) (h := fun i => es[i]?) (g := fun x => (kh P w x.2, Value.ref x.1)) (u := fun x => kh P w x.2) (v := fun i => (es.map (·.1)).getD i 0) H
  refine ⟨order.toList.filterMap (fun i => L[i]?), ?_, ?_, p2⟩
  · rw [Array.toList_filterMap]
    exact p1
  · have q := hp.filterMap (fun i => L[i]?)
    rwa [range_self] at q
/-- the tuple stays where the set changes -/
theorem keepK {h h' : Heap} {k : List Key} {b : Addr} {o : Obj} (hb : IsK P w h k b) (ho : h.get? a = some o) (hd : o.data = .set es ep t) (hs : Heap.SameBut a h h') : IsK P w h' k b := by
  obtain ⟨o', its, n, ho', hc, hd', hi⟩ := hb
  refine ⟨o', its, n, (hs.2 b fun e => ?_).trans ho', hc, hd', hi⟩
  rw [e, ho] at ho'
  cases ho'
  rw [hd] at hd'
  exact nomatch hd'
theorem relayK {o : Obj} (ho : s.heap.get? a = some o) (hex : o.ExactSet) (hd : o.data = .set es ep t) (hr : es.toList = rowsK P w L) (hsz : t.place.size = es.size) (hdm : t.dummies = #[]) (hfl : es.size ≤ t.mask)
    (nd : (L.map (·.2)).Nodup) (tup : ∀ p ∈ L, IsK P w s.heap p.2 p.1) (ld : w.params.followText "set-order" = true ∨ t.led = true) {wanted M : Nat} (hw : SetTable.sizeAbove wanted - 1 = M) (hM : MaskOk M)
    (hw2 : SetTable.sizeAbove wanted ≤ 128) (hn : L.length * 5 < M * 3) {Q : Unit → Shared → Prop}
    (hQ : ∀ h' L' es' ep' t', Heap.SameBut a s.heap h' → KSet P w h' a L' es' ep' t' → L'.Perm L → Q () { s with heap := h' }) : wpAny (model P w) A (setRelay a wanted) Q E s := by
  have z := rows_size hr
  have fit : t.fits es.size = true := by
    unfold SetTable.fits SetTable.fill
    rw [hdm, Bool.and_eq_true, beq_iff_eq, decide_eq_true_eq]
    exact ⟨hsz, by show t.place.size + 0 ≤ t.mask; omega⟩
  obtain ⟨t', order, e, hp, T, em, el, _, _⟩ := relaid_ok t (hs := es.map (·.1)) (wanted := wanted) hw hM (by rw [Array.size_map, z]; omega)
  rw [Array.size_map, z] at hp
  obtain ⟨L2, r1, r2, r3⟩ := orderK hr hp
  rw [← r3] at T
  have z2 : (order.filterMap (es[·]?)).size = es.size := (rows_size r1).trans (r2.length_eq.trans z.symm)
  rw [setRelay_eq]
  refine wpAny_bind (wpAny_setState_of ho hd fit ?_)
  dsimp only
  refine wp_if_neg (by rw [sizeLine_eq]; omega) ?_
  try refine wpAny_bind (wpAny_pure ?_)
  rw [e]
  dsimp only
  refine wpAny_bind (wp_if_neg (by rw [z2]; simp) ?_)
  try refine wpAny_bind (wpAny_pure ?_)
  refine wpAny_pure ?_
  dsimp only
  refine wpAny_storeSet_of ho hd ?_ (by rw [z2, z, sizeLine_eq]; omega)
  have sb : Heap.SameBut a s.heap (s.heap.update a (Obj.putSet (order.filterMap (es[·]?)) t')) := Heap.SameBut.update ..
  exact hQ _ L2 (order.filterMap (es[·]?)) (ep + 1) t' sb ⟨⟨_, store_at ho hd, ⟨hex.1, hex.2.1, hex.2.2⟩, rfl⟩, r1, T, (r2.map (·.2)).nodup_iff.mpr nd, fun p hpm => keepK (tup p (r2.mem_iff.mp hpm)) ho hd sb,
    by rw [el]; exact ld, by rw [r2.length_eq, em]; exact hn⟩ r2
end
end L2.KS
end

section
set_option Elab.async false
set_option linter.all false
set_option maxRecDepth 100000
set_option maxHeartbeats 4000000
namespace L2.KS
open PySem PySem.Spec PyProof.Rows
section
variable {P : Program} {w : World} {A : Around} {E : Value → Shared → Prop} {s : Shared} {a : Addr} {L : KL} {es : Array (Int × Value)} {ep : Nat} {t : SetTable}
theorem rows_ins (L : KL) (p : Nat) (x : Addr) (k : List Key) : rowsK P w (L.take p ++ (x, k) :: L.drop p) = (rowsK P w L).take p ++ (kh P w k, Value.ref x) :: (rowsK P w L).drop p := by
  unfold rowsK
  rw [List.map_append, List.map_cons, List.map_take, List.map_drop]
/-- what the table is that has got a new one: as its put one, or no longer known by value -/
theorem dull {t1 t2 : SetTable} {hs : List Int} (e : t2 = t1 ∨ t2 = { t1 with plain := false }) (T : TabOk t1 hs) : TabOk t2 hs ∧ t2.mask = t1.mask ∧ t2.led = t1.led ∧ t2.fill = t1.fill ∧ t2.place = t1.place := by
  rcases e with rfl | rfl
  · exact ⟨T, rfl, rfl, rfl, rfl⟩
  · exact ⟨⟨T.ris, T.dm, T.sz, T.mok, T.bd, T.reach⟩, rfl, rfl, rfl, rfl⟩
/-- behind the storing: the larger table, or none -/
theorem tailK {o : Obj} (ho : s.heap.get? a = some o) (hex : o.ExactSet) (hd : o.data = .set es ep t) (hr : es.toList = rowsK P w L) (T : TabOk t (L.map fun p => kh P w p.2)) (nd : (L.map (·.2)).Nodup) (tup : ∀ p ∈ L, IsK P w s.heap p.2 p.1)
    (ld : w.params.followText "set-order" = true ∨ t.led = true) (fl : t.fill = L.length) {n : Nat} (hn : L.length = n + 1) (prev : n * 5 < t.mask * 3) (top : n + 1 ≤ 76) {Q : Unit → Shared → Prop}
    (hQ : ∀ h' L' es' ep' t', Heap.SameBut a s.heap h' → KSet P w h' a L' es' ep' t' → L'.Perm L → Q () { s with heap := h' }) :
    (t.tooFull = true → wpAny (model P w) A (setRelay a (SetTable.grown (n + 1))) Q E s) ∧ (¬ t.tooFull = true → Q () s) := by
  have z := rows_size hr
  have m := T.mok
  refine ⟨fun f => ?_, fun f => ?_⟩
  · unfold SetTable.tooFull at f
    rw [decide_eq_true_eq, fl] at f
    have two : (t.mask = 7 ∧ n = 4) ∨ (t.mask = 31 ∧ n = 18) := by
      rcases m with e | e | e <;> omega
    have sz : t.place.size = es.size := T.sz.trans ((List.length_map _).trans z.symm)
    rcases two with ⟨e1, e2⟩ | ⟨e1, e2⟩ <;> subst e2
    · exact relayK ho hex hd hr sz T.dm (by omega) nd tup ld (M := 31) (by rw [size_20]) (.inr (.inl rfl)) (by rw [size_20]; decide) (by omega) hQ
    · exact relayK ho hex hd hr sz T.dm (by omega) nd tup ld (M := 127) (by rw [size_76]) (.inr (.inr rfl)) (by rw [size_76]; decide) (by omega) hQ
  · unfold SetTable.tooFull at f
    rw [decide_eq_true_eq, fl] at f
    exact hQ s.heap L es ep t (Heap.SameBut.refl a s.heap) ⟨⟨o, ho, hex, hd⟩, hr, T, nd, tup, ld, by omega⟩ (List.Perm.refl _)
theorem addK (R : KSet P w s.heap a L es ep t) {x : Addr} {k : List Key} (hx : IsK P w s.heap k x) (hu : A.units < cLine) (top : L.length + 1 ≤ 76) {Q : Bool → Shared → Prop}
    (hQ : ∀ b h' L' es' ep' t', Heap.SameBut a s.heap h' → KSet P w h' a L' es' ep' t' → (k ∈ L.map (·.2) → L' = L) → (k ∉ L.map (·.2) → L'.Perm ((x, k) :: L)) → Q b { s with heap := h' }) :
    wpAny (model P w) A (setAddHashed a (.ref x) (kh P w k)) Q E s := by
  obtain ⟨o, ho, hex, hd⟩ := R.ob
  have z := rows_size R.rows
  have rm := R.room
  unfold setAddHashed
  refine wpAny_holding ?_
  rw [show (100000 : Nat) = 99999 + 1 from rfl, setAddHashedIn_succ]
  refine wpAny_bind (wpAny_setState_of ho hd R.fit ?_)
  dsimp only
  refine wp_if_neg (by simp [byScan, Value.scannable]) ?_
  try refine wpAny_bind (wpAny_pure ?_)
  refine wpAny_bind (searchK R hx hu (fun hm => ?_) fun K hm W => ?_)
  · dsimp only
    exact wpAny_pure (hQ false s.heap L es ep t (Heap.SameBut.refl a s.heap) R (fun _ => rfl) fun y => absurd hm y)
  dsimp only
  refine wpAny_bind (wpAny_setState_of ho hd R.fit ?_)
  dsimp only
  obtain ⟨q1, q2, q3, q4, q5, _, _, _, q9⟩ := R.tab.put W.out W.bef
  obtain ⟨p, hp⟩ : ∃ p, p = SetTable.below t.place (way t.mask (kh P w k) K) := ⟨_, rfl⟩
  rw [← hp] at q1 q2 q3
  rw [List.length_map] at q2 q9
  have pm := put_perm L p (x, k)
  have len : (L.take p ++ (x, k) :: L.drop p).length = L.length + 1 := pm.length_eq
  have hs1 : (L.take p ++ (x, k) :: L.drop p).map (fun p => kh P w p.2) = (L.map fun p => kh P w p.2).take p ++ kh P w k :: (L.map fun p => kh P w p.2).drop p := by
    rw [List.map_append, List.map_cons, List.map_take, List.map_drop]
  rw [← hs1] at q3
  have ins : (SetTable.insertAt es p (kh P w k, Value.ref x)).toList = rowsK P w (L.take p ++ (x, k) :: L.drop p) := by
    rw [SetTable.toList_insertAt, rows_ins, R.rows]
  have nd1 : ((L.take p ++ (x, k) :: L.drop p).map (·.2)).Nodup := (pm.map (·.2)).nodup_iff.mpr (by rw [List.map_cons]; exact List.nodup_cons.mpr ⟨hm, R.nd⟩)
  have zi : (SetTable.insertAt es p (kh P w k, Value.ref x)).size = L.length + 1 := (rows_size ins).trans len
  generalize hpt : t.put (way t.mask (kh P w k) K) = pt at q1 q3 q4 q5 q9 ⊢
  obtain ⟨t1, p1⟩ := pt
  dsimp only at q1 q3 q4 q5 q9 ⊢
  subst q1
  generalize L.take p1 ++ (x, k) :: L.drop p1 = L1 at pm len q3 nd1 ins
  generalize SetTable.insertAt es p1 (kh P w k, Value.ref x) = es1 at ins zi ⊢
  have rest : ∀ t2, (t2 = t1 ∨ t2 = { t1 with plain := false }) → wpAny (model P w) A (do
      storeSet a es1 t2
      if !false && t2.tooFull then setRelay a (SetTable.grown (es.size + 1))
      return true) Q E s := fun t2 e2 => by
    obtain ⟨T2, m2, l2, f2, _⟩ := dull e2 q3
    refine wpAny_bind (wpAny_storeSet_of ho hd ?_ (by rw [zi, sizeLine_eq]; omega))
    have sb : Heap.SameBut a s.heap (s.heap.update a (Obj.putSet es1 t2)) := Heap.SameBut.update ..
    have ho1 := store_at (es' := es1) (t' := t2) ho hd
    generalize s.heap.update a (Obj.putSet es1 t2) = h1 at sb ho1 ⊢
    have tup1 : ∀ p ∈ L1, IsK P w h1 p.2 p.1 := fun p hp => by
      rcases List.mem_cons.mp (pm.mem_iff.mp hp) with e | hp
      · rw [e]
        exact keepK hx ho hd sb
      · exact keepK (R.tup p hp) ho hd sb
    have tl := tailK (s := { s with heap := h1 }) (A := A) (E := E) (n := L.length) (Q := fun _ s' => wpAny (model P w) A (pure true) Q E s') ho1 ⟨hex.1, hex.2.1, hex.2.2⟩ rfl ins T2 nd1 tup1 (by rw [l2, q5]; exact R.led) (by rw [f2, q9, len]) len (by rw [m2, q4]; exact rm) top
      fun h' L' es' ep' t' s2 R2 p2 => wpAny_pure (hQ true h' L' es' ep' t' (sb.trans s2) R2 (fun y => absurd y hm) fun _ => p2.trans pm)
    rw [z]
    by_cases f : t2.tooFull = true
    · have c : (!false && t2.tooFull) = true := by rw [f]; rfl
      first
        | exact wpAny_bind (wp_if_pos c (tl.1 f))
        | exact wp_if_pos c (wpAny_bind (tl.1 f))
    · have c : ¬ (!false && t2.tooFull) = true := by simpa using f
      first
        | exact wp_if_neg c (tl.2 f)
        | exact wpAny_bind (wp_if_neg c (wpAny_pure (tl.2 f)))
  by_cases pl : t1.plain = true
  · refine wp_if_pos pl (wpAny_bind (hashK hx fun y => ?_))
    cases y with
    | true => exact rest t1 (.inl rfl)
    | false => exact rest _ (.inr rfl)
  · exact wp_if_neg pl (wpAny_bind (wpAny_pure (rest t1 (.inl rfl))))
end
end L2.KS
end

section
set_option Elab.async false
set_option linter.all false
set_option maxRecDepth 100000
set_option maxHeartbeats 4000000
namespace L2.KS
open PySem PySem.Spec PyProof.Rows
/-! ### set comprehensions, whatever the set holds: F0 D is the empty set at D, Put what adding asks and leaves -/
abbrev freshSet (w : World) : Obj := { cls := .type "set", dict := none, data := .set #[] 0 (.fresh 0 0 (!w.params.followText "set-order")) }
structure Holds (P : Program) (w : World) (F0 : Addr → HO) (Put : Addr → V → Hp → (Hp → Prop) → Prop) (ok : Around → Prop) : Prop where
  new : ∀ (H : Hp) (h : Heap) (D : Addr), h.get? D = some (freshSet w) → ObjOk P w H h D (F0 D)
  add : ∀ (X : Cx), X.prog = P → X.w = w → ok X.A → ∀ (pins : List (Addr × Obj)) (σ : St) (H : Hp) (s : Shared) (D : Addr) (y : V) (v : Value) (N : Hp → Prop) (E : Value → Shared → Prop), Inv X pins σ H s → RelV y v → Put D y H N →
    wpAny (model P w) X.A (call (.builtin "set.add") [.ref D, v]) (fun _ s1 => ∃ H1, Inv X pins σ H1 s1 ∧ N H1) E s
def tSof (F0 : Addr → HO) (Put : Addr → V → Hp → (Hp → Prop) → Prop) (wi : TI) (g : TG) (tt : TT) (te : TE) (vs : List Nat) : TE := fun σ H Q => wi σ H fun J H1 => ∀ D, H1 D = none →
  ∃ W : Nat → Nat → Hp → Prop, (∃ m, W 0 m (upd H1 D (F0 D))) ∧ ∀ i m H2, W i m H2 → (J.stop i H2 ∧ Q (.ref D) H2) ∨
    (J.go i H2 ∧ ∃ N : Hp → Prop, (∀ H3, N H3 → ∃ m', m' < m ∧ W (i + 1) m' H3) ∧ ∀ x H3, J.yld i H2 x H3 → g x (wipe σ vs) H3 fun σ4 H4 => wipe σ4 vs = wipe σ vs ∧ tt σ4 H4 fun b H5 => if b = true then te σ4 H5 fun y H6 => Put D y H6 N else N H5)
section
variable {X : Cx} {F0 : Addr → HO} {Put : Addr → V → Hp → (Hp → Prop) → Prop} {okA : Around → Prop}
theorem pe_setOf {elt tg iter : Expr} {ifs : List Expr} {scope : Scope} {own : List (PySem.Str × Nat)} {pos : Pos} {wi : TI} {g : TG} {tt : TT} {te : TE} (G : Holds X.prog X.w F0 Put okA) (hA : okA X.A) (hc : X.calm = true) (hN : X.N.Nodup)
    (hi : PI X tg iter wi) (ok : BlkOk X.N X.env.scope scope own)
    (hg : ∀ (s : Shared) (H : Hp) (C : Addr) (cl : List (PySem.Str × Addr)) (fp : List Addr), PG (X.blk s H scope (compEnvC scope cl C X.env) fp) tg g)
    (ht : ∀ (s : Shared) (H : Hp) (C : Addr) (cl : List (PySem.Str × Addr)) (fp : List Addr), PTs (X.blk s H scope (compEnvC scope cl C X.env) fp) ifs tt)
    (he : ∀ (s : Shared) (H : Hp) (C : Addr) (cl : List (PySem.Str × Addr)) (fp : List Addr), PE (X.blk s H scope (compEnvC scope cl C X.env) fp) elt te)
    (hs : ∀ x, foldedSetIterable iter X.env x = pure x := by intro _; rfl) : PE X (.SetComp elt [⟨tg, iter, ifs, 0⟩] scope pos) (tSof F0 Put wi g tt te (own.map (·.2))) := by
  refine ⟨fun pins s σ H Q I h => ?_⟩
  rw [PpSet.eval_SetComp]
  have cellsThere : ∀ y ∈ scope.names, y.2 = .free → ∃ c, X.env.cells.lookup y.1 = some c := fun y hy e => (ok.free y hy e).elim (fun k => I.ok.has _ (.inl k)) (fun k => I.ok.has _ (.inr k))
  refine wpAny_comprehension_free (use := none) rfl hs (closure_ok cellsThere) ok.kind (fun y hy e => by rw [ok.uniq y hy, e]) (thn (hi.run pins s σ H _ I h) fun _ s1 h1 => thn h1 fun _ s2 h2 => ?_)
  obtain ⟨it, fp, tn, J, H2, rfl, I2, T, st2, f2, q⟩ := h2
  refine PpSet.newSet_ok (newEnv_comp ?_)
  have Dn : H2 s2.heap.objs.size = none := I2.hok.fresh (Nat.le_refl _)
  obtain ⟨W, ⟨m0, w0⟩, turn⟩ := q _ Dn
  -- the set stands
  obtain ⟨D, eD⟩ : ∃ D, D = s2.heap.objs.size := ⟨_, rfl⟩
  obtain ⟨s3, e3⟩ : ∃ s3 : Shared, s3 = { s2 with heap := s2.heap.push (freshSet X.w) } := ⟨_, rfl⟩
  obtain ⟨H3, eH⟩ : ∃ H3, H3 = upd H2 D (F0 D) := ⟨_, rfl⟩
  rw [← eD] at w0 turn Dn
  rw [← eH] at w0
  have old : ∀ b o, s2.heap.get? b = some o → s3.heap.get? b = some o := fun b o e => by rw [e3]; exact Heap.get?_push_of_some _ e
  have I3 : Inv X pins σ H3 s3 := by
    rw [e3, eH, eD]
    exact I2.laid (t' := s2.toks) (fun b o e => Heap.get?_push_of_some _ e) (Nat.le_refl _) (G.new _ _ _ (Heap.get?_push_size _ rfl))
  have f3 : ∀ b ∈ fp, FpOk X pins H3 b ∧ b < s3.heap.objs.size := fun b hb => by
    obtain ⟨o, e, _⟩ := T.obj _ _ st2 b hb
    have lt := Heap.lt_size e
    refine ⟨⟨?_, (f2 b hb).2⟩, Heap.lt_size (old b o e)⟩
    rw [eH, upd_ne (by rw [eD]; exact Nat.ne_of_lt lt)]
    exact (f2 b hb).1
  have st3 : tn 0 s3.heap := T.keep _ _ _ st2 fun b _ o e => old b o e
  have I4 := block_start I3 ok hN f3
  have pg := hg s3 H3 s3.heap.objs.size (cellsFrom (s3.heap.objs.size + 1) scope.names (cloFrom X.env.cells scope.names [])) fp
  have pt := ht s3 H3 s3.heap.objs.size (cellsFrom (s3.heap.objs.size + 1) scope.names (cloFrom X.env.cells scope.names [])) fp
  have pe := he s3 H3 s3.heap.objs.size (cellsFrom (s3.heap.objs.size + 1) scope.names (cloFrom X.env.cells scope.names [])) fp
  rw [← eD, ← e3]
  obtain ⟨ce, ec⟩ : ∃ ce, ce = compEnvC scope (cellsFrom (s3.heap.objs.size + 1) scope.names (cloFrom X.env.cells scope.names [])) s3.heap.objs.size X.env := ⟨_, rfl⟩
  obtain ⟨s4, e4⟩ : ∃ s4 : Shared, s4 = { s3 with heap := pushCells (s3.heap.push { cls := .type "dict", data := .dict #[] }) scope.names } := ⟨_, rfl⟩
  have cL : ce.locals = s3.heap.objs.size := by rw [ec]; rfl
  rw [← ec] at I4 pg pt pe
  rw [← e4] at I4
  suffices body : codeAny (model X.prog X.w) X.A (.compLoop (.SetComp elt [⟨tg, iter, ifs, 0⟩] scope pos) 0 (.ref it) (.ref D) ce) (compPost (model X.prog X.w) X.A X.xe none (EP X pins σ Q) (.ref D) s3.heap.objs.size) s4 by
    have st4 : tn 0 s4.heap := T.keep _ _ _ st3 fun b _ o e => by rw [e4]; exact pushCells_keeps _ _ _ _ (Heap.get?_push_of_some _ e)
    have all := PpSet.codeAny_compStart_set body (T.self X.A 0 _ _ _ st4 body)
    rw [ec, e4] at all
    exact all
  have st4 : tn 0 s4.heap := T.keep _ _ _ st3 fun b _ o e => by rw [e4]; exact pushCells_keeps _ _ _ _ (Heap.get?_push_of_some _ e)
  have nf : ∀ b ∈ fp, H3 b = none := fun b hb => (f3 b hb).1.1
  -- the iterator's own things stay fit
  have fit : ∀ {σ' : St} {H' : Hp} {s' : Shared}, Inv (X.blk s3 H3 scope ce fp) [] σ' H' s' → (∀ b ∈ fp, H' b = none) → ∀ b ∈ fp, FpOk (X.blk s3 H3 scope ce fp) [] H' b := fun {σ' H' s'} J' hn b hb =>
    ⟨hn b hb, (J'.ok.exf b hb).1, J'.ok.exfs b hb, .inl hb, fun x c e => (J'.ok.exf b hb).2 x c e, fun p hp => absurd (show p ∈ ([] : List (Addr × Obj)) ++ [] from hp) (by simp)⟩
  let St (n : Nat) (s' : Shared) : Prop := ∃ i H', Inv (X.blk s3 H3 scope ce fp) [] (wipe σ (own.map (·.2))) H' s' ∧ tn i s'.heap ∧ (∀ b ∈ fp, H' b = none) ∧ W i n H'
  refine PpSet.compLoopS_any St ?_ m0 ⟨0, H3, I4, st4, nf, w0⟩
  rintro n s5 ⟨i, H5, I5, st5, n5, w5⟩
  rcases turn i n H5 w5 with ⟨stop, qq⟩ | ⟨go, N, hNx, step⟩
  · refine thnF (T.done (X.blk s3 H3 scope ce fp) rfl rfl rfl hc i [] s5 _ H5 (fun _ _ => False) I5 (fit I5 n5) st5 stop) fun r s6 ⟨hr, I6⟩ => ?_
    cases hr
    have I7 : Inv X pins σ H5 s6 := I3.call' (ch := fp) I6.os I6.base I6.hok I6.bare fun b hb => ⟨(f3 b hb).1.2.2.2.1, (f3 b hb).1.2.1, (f3 b hb).1.2.2.2.2.1, (f3 b hb).1.2.2.2.2.2⟩
    have nC : H5 s3.heap.objs.size = none := cL ▸ (show H5 ce.locals = none from I6.free)
    obtain ⟨m, hn, _⟩ := I6.loc
    have hn : s6.heap.Ns s3.heap.objs.size m := cL ▸ (show s6.heap.Ns ce.locals m from hn)
    obtain ⟨y0, y1, _, y3, y4, y5⟩ := I3.fpOk (Nat.le_refl _) nC
    exact ⟨m, hn, fun h'' sb => ⟨.ref D, H5, I7.turned (t' := s6.toks) (fun b o hb e => (sb.2 b hb).trans e) y0 y1 y3 y4 y5, rfl, qq⟩⟩
  · refine thnF (T.item (X.blk s3 H3 scope ce fp) rfl rfl rfl hc i [] s5 _ H5 (fun _ _ => False) I5 (fit I5 n5) st5 go) fun r s6 ⟨u, hr, h6⟩ => ?_
    subst hr
    refine thnF h6 fun _ s7 ⟨x, H7, I7, r7, y7, st7, n7⟩ => ?_
    refine thnF (pg.run _ s7 _ H7 x u _ (I7.pinned (fit I7 n7) (T.obj _ _ st7)) r7 (step x H7 y7)) fun _ s8 ⟨σ8, H8, I8, hw8, q8⟩ => ?_
    refine thnF (pt.run _ s8 σ8 H8 _ I8 q8) fun b s9 ⟨H9, I9, q9⟩ => ?_
    have over : ∀ {s' : Shared} {H' : Hp}, Inv (X.blk s3 H3 scope ce fp) ([] ++ pinsAt fp s7.heap) σ8 H' s' → N H' → ∃ m, m < n ∧ St m s' := fun {s' H'} J' nx => by
      obtain ⟨m', lt, w'⟩ := hNx H' nx
      have held : ∀ b ∈ fp, ∀ o, s7.heap.get? b = some o → s'.heap.get? b = some o ∧ H' b = none := fun b hb o e =>
        have z := J'.pin (b, o) (List.mem_append_right _ (List.mem_append_right _ (mem_pinsAt hb e)))
        ⟨z.1, z.2.1⟩
      refine ⟨m', lt, i + 1, H', J'.unpinned.weak (by rw [← hw8, wipe_length]) (fun j v e => ?_), T.keep _ _ _ st7 fun b hb o e => (held b hb o e).1, fun b hb => ?_, w'⟩
      · rw [← hw8] at e
        exact (wipe_some e).1
      · obtain ⟨o, e, _⟩ := T.obj _ _ st7 b hb
        exact (held b hb o e).2
    cases b with
    | false => exact over I9 (by simpa using q9)
    | true =>
      have q9 : te σ8 H9 fun y H6 => Put D y H6 N := by simpa using q9
      refine thnF (pe.run _ s9 σ8 H9 _ I9 q9) fun z s10 ⟨yv, H10, I10, r10, pz⟩ => ?_
      exact thnF (G.add (X.blk s3 H3 scope ce fp) rfl rfl hA _ σ8 H10 s10 D yv z N _ I10 r10 pz) fun _ s11 ⟨H11, I11, nx⟩ => over I11 nx
end
end L2.KS
end

section
set_option Elab.async false
set_option linter.all false
set_option maxRecDepth 100000
set_option maxHeartbeats 4000000
namespace L2.KS
open PySem PySem.Spec PyProof.Rows
/-! ### the set of tuples as a tracked thing, and the comprehension that fills it -/
structure KSet0 (P : Program) (w : World) (h : Heap) (a : Addr) (L : KL) : Prop where
  ex : ∃ (es : Array (Int × Value)) (ep : Nat) (t : SetTable), (∃ o, h.get? a = some o ∧ o.ExactSet ∧ o.data = .set es ep t) ∧ es.toList = rowsK P w L ∧ TabOk t (L.map fun p => kh P w p.2) ∧ (L.map (·.2)).Nodup ∧
    (w.params.followText "set-order" = true ∨ t.led = true) ∧ L.length * 5 < t.mask * 3
def KSO (P : Program) (w : World) (a : Addr) (L : KL) : HO := .ext fun h => KSet0 P w h a L
section
variable {P : Program} {w : World} {H : Hp} {h : Heap} {a : Addr} {L : KL}
theorem KSet.bare {es : Array (Int × Value)} {ep : Nat} {t : SetTable} (R : KSet P w h a L es ep t) : KSet0 P w h a L := ⟨es, ep, t, R.ob, R.rows, R.tab, R.nd, R.led, R.room⟩
theorem KSet0.full (R : KSet0 P w h a L) (ht : ∀ p ∈ L, IsK P w h p.2 p.1) : ∃ es ep t, KSet P w h a L es ep t := by
  obtain ⟨es, ep, t, h1, h2, h3, h4, h6, h7⟩ := R.ex
  exact ⟨es, ep, t, h1, h2, h3, h4, ht, h6, h7⟩
theorem kso_ok (R : KSet0 P w h a L) : ObjOk P w H h a (KSO P w a L) := by
  have ⟨es, ep, t, ⟨o, ho, r⟩, q⟩ := R.ex
  refine ⟨R, ⟨o, ho⟩, fun h1 h2 p k => ?_⟩
  have ⟨es', ep', t', ⟨o', ho', r'⟩, q'⟩ := KSet0.ex p
  exact ⟨es', ep', t', ⟨o', k o' ho', r'⟩, q'⟩
theorem kset_new (ho : h.get? a = some (freshSet w)) : KSet P w h a [] #[] 0 (.fresh 0 0 (!w.params.followText "set-order")) where
  ob := ⟨_, ho, ⟨rfl, rfl, rfl⟩, rfl⟩
  rows := rfl
  tab := ⟨List.Pairwise.nil, rfl, rfl, .inl rfl, fun x hx => (nomatch hx), fun i h j hi => (by simp at hi)⟩
  nd := List.nodup_nil
  tup := fun p hp => (nomatch hp)
  led := by
    show _ ∨ (!w.params.followText "set-order") = true
    cases w.params.followText "set-order"
    · exact .inr rfl
    · exact .inl rfl
  room := by
    show 0 * 5 < 7 * 3
    decide
end
/-- set.add of such a tuple -/
theorem callAdd {P : Program} {w : World} {A : Around} {E : Value → Shared → Prop} {s : Shared} {a : Addr} {L : KL} {es : Array (Int × Value)} {ep : Nat} {t : SetTable} (R : KSet P w s.heap a L es ep t) {x : Addr} {k : List Key} (hx : IsK P w s.heap k x) (hu : A.in1.units < cLine) (top : L.length + 1 ≤ 76) {Q : Value → Shared → Prop}
    (hQ : ∀ h' L' es' ep' t', Heap.SameBut a s.heap h' → KSet P w h' a L' es' ep' t' → (k ∈ L.map (·.2) → L' = L) → (k ∉ L.map (·.2) → L'.Perm ((x, k) :: L)) → Q .none { s with heap := h', toks := s.toks + (k.length + 1) }) :
    wpAny (model P w) A (call (.builtin "set.add") [.ref a, .ref x]) Q E s := by
  obtain ⟨o, ho, hex, hd⟩ := R.ob
  have ty : s.TypeIs (.ref a) "set" := ⟨o, ho, hex.1⟩
  refine wpAny_call_entry F.slot_set_add ty F.entry_set_add ?_ (F.args_set_add_2 _ _)
  unfold Builtin.«set.add» Builtin.Frozenset.oneOther
  simp only [List.isEmpty_nil, bind_assoc]
  unfold Builtin.Frozenset.addrOf setAdd
  refine wpAny_bind (wpAny_pure ?_)
  try dsimp only
  refine wpAny_bind (wpAny_pure ?_)
  try dsimp only
  refine wpAny_bind (wpAny_holding (wpAny_bind (wpAny_pyHash_tuple hu hx ?_)))
  refine addK (s := { s with toks := s.toks + (k.length + 1) }) R hx hu top fun b h' L' es' ep' t' sb R2 c1 c2 => ?_
  show wpAny _ _ (ret Value.none) _ _ _
  exact wpAny_pure ⟨_, rfl, hQ h' L' es' ep' t' sb R2 c1 c2⟩
/-- what adding asks: a tuple of ints and texts, and that the set stays small -/
def PutK (P : Program) (w : World) : Addr → V → Hp → (Hp → Prop) → Prop := fun D y H N => ∃ (t : Addr) (k : List Key) (L : KL), y = .ref t ∧ H t = some (.tup (k.map kV)) ∧ H D = some (KSO P w D L) ∧ (∀ p ∈ L, H p.1 = some (.tup (p.2.map kV))) ∧ L.length + 1 ≤ 76 ∧
  ∀ L' : KL, (k ∈ L.map (·.2) → L' = L) → (k ∉ L.map (·.2) → L'.Perm ((t, k) :: L)) → N (upd H D (KSO P w D L'))
theorem holdsK (P : Program) (w : World) : Holds P w (fun D => KSO P w D []) (PutK P w) (fun A => A.units + 64 < cLine) where
  new := fun H h D e => kso_ok (kset_new e).bare
  add := fun X eP eW hu pins σ H s D y v N E I r p => by
    subst eP eW
    obtain ⟨t, k, L, rfl, ht, hD, hL, top, q⟩ := p
    cases (show v = Value.ref t from r)
    have R0 : KSet0 X.prog X.w s.heap D L := (I.hok D _ hD).1
    obtain ⟨es, ep, tb, R⟩ := R0.full fun p hp => key_of I.hok (hL p hp)
    refine callAdd R (key_of I.hok ht) (by show X.A.units + 1 < cLine; omega) top fun h' L' es' ep' t' sb R2 c1 c2 => ?_
    have there : ∃ u, h'.get? D = some u := let ⟨o, ho, _⟩ := R2.ob; ⟨o, ho⟩
    exact ⟨_, I.write (e := D) (t' := s.toks + (k.length + 1)) (by rw [hD]; trivial) (.inl rfl) (fun b u hb hu => (sb.2 b hb).trans hu) there (kso_ok R2.bare), q L' c1 c2⟩
end L2.KS
end

section
set_option Elab.async false
set_option linter.all false
set_option maxRecDepth 100000
set_option maxHeartbeats 4000000
namespace L2.KS
open PySem PySem.Spec PyProof.Rows
open PySem.W (EachIs AllAlike Sortable dataLe)
/-! ### sorted(..) of data: of a list, a tuple, a set -/
section
variable {prog : Program} {w : World} {A : Around} {E : Value → Shared → Prop} {s : Shared}
abbrev VD := V × PyData
/-- a value stands for an item: by the layer, and as data -/
def Sd (h : Heap) (u : Value) (b : VD) : Prop := RelV b.1 u ∧ ∃ as, Reads h u b.2 as ∧ ∀ x ∈ as, x < h.objs.size
theorem callSorted {a : Addr} {Q : Value → Shared → Prop} {bs : List VD} (Ok : List VD → Prop) (hOk : ∀ cs, Ok cs → cs.Perm bs) (hal : AllAlike (bs.map (·.2))) (hk : Sortable (bs.map (·.2))) (hz : bs.length ≤ sizeLine) (hu : ∀ b ∈ bs, A.units + 2 + b.2.depth < cLine)
    (coll : ∀ (R : List Value → Shared → Prop) (E : Value → Shared → Prop), (∀ s1 vs cs, (∀ b o, s.heap.get? b = some o → s1.heap.get? b = some o) → s.heap.objs.size ≤ s1.heap.objs.size → s1.gens = s.gens → s1.os = s.os → Ok cs → EachIs (Sd s1.heap) vs cs → R vs s1) → wpAny (model prog w) A.in1 (collect (.ref a)) R E s)
    (hQ : ∀ s2 p cs (out : List Value) c, (∀ b o, s.heap.get? b = some o → s2.heap.get? b = some o) → s2.gens = s.gens → s2.os = s.os → s.heap.objs.size ≤ p → Ok cs → s2.heap.get? p = some (seqObj "list" out.toArray c) →
      EachIs (fun u (b : VD) => RelV b.1 u) out (cs.mergeSort (dataLe false (·.2))) → Q (.ref p) s2) : wpAny (model prog w) A (call (.builtin "sorted") [.ref a]) Q E s := by
  refine Calls.call_function_entry kind_sorted plain_sorted entry_sorted (args_sorted1 _) ?_
  unfold Builtin.«sorted»
  refine wpAny_bind (m := checkCount "sorted" 1 1 _) (wpAny_pure ?_)
  refine wpAny_bind (coll _ _ fun s1 vs cs k1 z1 g1 o1 ok e => ?_)
  have pm := hOk cs ok
  have len : vs.length = bs.length := e.length ▸ pm.length_eq
  have al : AllAlike (cs.map (·.2)) := fun d hd d' hd' => hal d ((pm.map _).mem_iff.mp hd) d' ((pm.map _).mem_iff.mp hd')
  have so : Sortable (cs.map (·.2)) := hk.elim (fun z => .inl fun d hd => z d ((pm.map _).mem_iff.mp hd)) (fun z => .inr fun d hd => z d ((pm.map _).mem_iff.mp hd))
  refine wpAny_bind (wpAny_newList ?_ (by omega))
  have hoL : (s1.heap.push (seqObj "list" vs.toArray 0)).get? s1.heap.objs.size = some (seqObj "list" vs.toArray 0) := Heap.get?_push_size _ rfl
  refine wpAny_bind (wpAny_holding (PySem.W.list_sort_data (s := { s1 with heap := s1.heap.push (seqObj "list" vs.toArray 0) }) (enc := (·.2)) (R := fun u (b : VD) => RelV b.1 u) hoL (e.mono fun _ _ x => x.1)
    (e.mono fun u b ⟨_, as, r, lt⟩ => ⟨as, PyProof.Rows.Reads.keeps (fun b o q => Heap.get?_push_of_some _ q) r, fun m => absurd (lt _ m) (Nat.lt_irrefl _)⟩) al so (by rw [pm.length_eq]; exact hz) (fun b hb => by
      have := hu b (pm.mem_iff.mp hb)
      show A.units + 1 + 1 + b.2.depth < cLine
      omega) fun out ol eo => ?_))
  obtain ⟨c, hc⟩ := sortedHeap_at (vs := vs) (out := out.toArray) hoL
  refine wpAny_pure ⟨_, rfl, hQ _ s1.heap.objs.size cs out c (fun b u q => ?_) g1 o1 z1 ok hc eo⟩
  have q1 := k1 b u q
  have lt := Heap.lt_size q1
  show (sortedHeap (s1.heap.push (seqObj "list" vs.toArray 0)) s1.heap.objs.size vs out.toArray).get? b = some u
  rw [sortedHeap_old (Nat.ne_of_lt lt) (by rw [size_push']; exact Nat.lt_succ_of_lt lt)]
  exact Heap.get?_push_of_some _ q1
end
mutual
theorem ownLt {h : Heap} : ∀ {v : Value} {d : PyData} {as : List Addr}, Reads h v d as → ∀ x ∈ as, x < h.objs.size
  | _, _, _, .none, x, m => nomatch m
  | _, _, _, .bool b, x, m => nomatch m
  | _, _, _, .int i t, x, m => nomatch m
  | _, _, _, .str y t, x, m => nomatch m
  | _, _, _, .list h1 h2 h3 h4, x, m => (List.mem_cons.mp m).elim (fun e => e ▸ Heap.lt_size h1) (ownLtAll h4 x)
  | _, _, _, .tuple h1 h2 h3 h4, x, m => ownLtAll h4 x m
  | _, _, _, .dict h1 h2 h3 h4 h5, x, m => (List.mem_append.mp m).elim (fun m => (List.mem_cons.mp m).elim (fun e => e ▸ Heap.lt_size h1) (ownLtAll h4 x)) (ownLtAll h5 x)
theorem ownLtAll {h : Heap} : ∀ {vs : List Value} {ds : List PyData} {as : List Addr}, ReadsAll h vs ds as → ∀ x ∈ as, x < h.objs.size
  | _, _, _, .nil, x, m => nomatch m
  | _, _, _, .cons h1 h2, x, m => (List.mem_append.mp m).elim (ownLt h1 x) (ownLtAll h2 x)
end
section
variable {X : Cx} {pins : List (Addr × Obj)} {σ : St} {H : Hp} {s : Shared}
theorem Sd.keeps {h h' : Heap} {u : Value} {b : VD} (x : Sd h u b) (k : ∀ a o, h.get? a = some o → h'.get? a = some o) (z : h.objs.size ≤ h'.objs.size) : Sd h' u b := by
  obtain ⟨r, as, q, lt⟩ := x
  exact ⟨r, as, PyProof.Rows.Reads.keeps k q, fun x m => Nat.lt_of_lt_of_le (lt x m) z⟩
theorem collectS {prog : Program} {w : World} {A : Around} {E : Value → Shared → Prop} {s : Shared} {R : List Value → Shared → Prop} (it : Addr) {T : String} {o : Obj} {items : Array Value} {n : Nat} (hT : T = "list" ∨ T = "tuple") (ho : s.heap.get? it = some o) (hc : o.cls = .type T) (hd : o.data = .seq items n)
    (hz : items.size ≤ sizeLine) (hR : ∀ h', (∀ b u, s.heap.get? b = some u → h'.get? b = some u) → s.heap.objs.size ≤ h'.objs.size → R items.toList { s with heap := h' }) : wpAny (model prog w) A (collect (.ref it)) R E s := by
  let S := s.heap.objs.size
  let h1 := s.heap.push { cls := .type "list", data := .seq ([] : List Value).toArray }
  let h2 := h1.update S (Obj.mapSeq (· ++ items))
  have at1 : h1.get? S = some { cls := .type "list", data := .seq ([] : List Value).toArray } := Heap.get?_push_size _ rfl
  have old : ∀ b u, s.heap.get? b = some u → h2.get? b = some u := fun b u e => (Heap.get?_update_other _ _ (Nat.ne_of_gt (Heap.lt_size e))).trans (Heap.get?_push_of_some _ e)
  have big : s.heap.objs.size ≤ h2.objs.size := by
    show s.heap.objs.size ≤ (h1.update S _).objs.size
    rw [Heap.size_update, Heap.size_push]
    exact Nat.le_succ _
  unfold collect
  refine wpAny_bind (wpAny_runValue (codeAny_builtin F.entry_proto_collect ?_))
  rw [Around.under_plainId F.plain_proto_collect _]
  show wpAny _ A.in1 (newList [] >>= fun l => again (.builtin "list.__iadd__" ⟨[l, .ref it], []⟩)) _ _ s
  refine wpAny_bind (wpAny_newObj_type (wpAny_pure ⟨plainId_quiet F.plain_list_iadd _, codeAny_builtin F.entry_list_iadd ?_⟩))
  rw [Around.under_plainId F.plain_list_iadd _]
  show wpAny _ A.in1 (Builtin.List.listExtendWith (.ref S) (.ref it) (.ref S)) _ _ _
  have at2 := Heap.get?_update_self (Obj.mapSeq (· ++ items)) at1 rfl
  have got : wpAny (model prog w) A (do
      match (← load S).data with
        | Data.seq xs _ => pure xs.toList
        | _ => unsupported "internal:collect") R E { s with heap := h2 } := by
    refine wpAny_bind (wpAny_load at2 (wpAny_pure ?_))
    have e : ((#[] : Array Value) ++ items).toList = items.toList := by simp
    show R ((#[] : Array Value) ++ items).toList _
    rw [e]
    exact hR h2 old big
  refine wpAny_mono (wpAny_extend_seq (hsz := hz) (A := A) (R := fun r s' => r = .ok (.ret (.ref S)) ∧ s' = { s with heap := h2 }) (s := { s with heap := h1 }) S it _ 0 hT at1 (Heap.get?_push_of_some _ ho) hc hd ⟨rfl, rfl⟩) (fun fin s' h => ?_) fun e s' h => absurd h.1 (by simp)
  cases fin with
  | done f =>
    obtain ⟨e, rfl⟩ := h
    cases e
    exact got
  | again c' => exact ⟨h.1, codeAny_mono h.2 fun r s'' hr => by
      obtain ⟨rfl, rfl⟩ := hr
      exact got⟩
/-- items that the layer knows as data, as values -/
theorem sdAll (I : Inv X pins σ H s) : ∀ {bs : List VD} {us : List Value}, (∀ b ∈ bs, Dp X.K H b.1 b.2) → Vals (bs.map (·.1)) us → EachIs (Sd s.heap) us bs
  | [], _, _, .nil => .nil
  | b :: bs, _, h, .cons r t => by
    obtain ⟨as, q⟩ := Dp.reads I b.2 b.1 _ (h b List.mem_cons_self) r
    exact .cons ⟨r, as, q, ownLt q⟩ (sdAll I (fun c m => h c (List.mem_cons_of_mem _ m)) t)
theorem valsOf : ∀ {out : List Value} {cs : List VD}, EachIs (fun u (b : VD) => RelV b.1 u) out cs → Vals (cs.map (·.1)) out
  | _, _, .nil => .nil
  | _, _, .cons h t => .cons h (valsOf t)
/-- what stands behind sorted(..) -/
theorem sortEnd (I : Inv X pins σ H s) {s2 : Shared} {p : Addr} {cs : List VD} {out : List Value} {c : Nat} {Q : VK} (k : ∀ b o, s.heap.get? b = some o → s2.heap.get? b = some o) (g : s2.gens = s.gens) (o : s2.os = s.os) (hp : s.heap.objs.size ≤ p)
    (ho : s2.heap.get? p = some (seqObj "list" out.toArray c)) (e : EachIs (fun u (b : VD) => RelV b.1 u) out cs) (hz : cs.length ≤ sizeLine) (q : ∀ p, H p = none → Q (.ref p) (upd H p (.lst (cs.map (·.1))))) : EP X pins σ Q (.ref p) s2 := by
  have hn : H p = none := I.hok.fresh hp
  have J : Inv X pins σ (upd H p (.lst (cs.map (·.1)))) { s with heap := s2.heap, gens := s2.gens, drawn := s2.drawn, toks := s2.toks } :=
    I.call (ch := []) (Un.laid k hp hn) (I.hok.laid k hp ⟨by rw [List.length_map]; exact hz, out, c, valsOf e, ho⟩) (by rw [g]; exact I.bare) (fun _ z => nomatch z)
  have e2 : s2 = { s with heap := s2.heap, gens := s2.gens, drawn := s2.drawn, toks := s2.toks } := by
    cases s2
    cases s
    cases o
    rfl
  rw [e2]
  exact ⟨.ref p, _, J, rfl, q p hn⟩
abbrev srt (cs : List VD) : List VD := cs.mergeSort (dataLe false (·.2))
/-- sorted of a list or tuple of data -/
def rSortD (K : PySem.W.Frag) : List V → Hp → VK → Prop := fun vs H Q => ∃ (a : Addr) (bs : List VD), vs = [.ref a] ∧ (SqL K H a (bs.map (·.1)) ∨ SqT K H a (bs.map (·.1))) ∧ (∀ b ∈ bs, Dp K H b.1 b.2) ∧ AllAlike (bs.map (·.2)) ∧ Sortable (bs.map (·.2)) ∧
  (∀ b ∈ bs, b.2.depth ≤ 40) ∧ ∀ p, H p = none → Q (.ref p) (upd H p (.lst ((srt bs).map (·.1))))
theorem cr_sortD (hu : X.A.units + 64 < cLine) : CallR X (.builtin "sorted") (rSortD X.K) := by
  intro pins s σ H vs us Q I r h
  obtain ⟨a, bs, rfl, hs, hd, al, so, dp, q⟩ := h
  rw [Vals.ref1 r]
  have main : ∀ (its : List Value) (o : Obj) (n : Nat) (T : String), (T = "list" ∨ T = "tuple") → s.heap.get? a = some o → o.cls = .type T → o.data = .seq its.toArray n → Vals (bs.map (·.1)) its → bs.length ≤ sizeLine →
      wpAny (model X.prog X.w) X.A (call (.builtin "sorted") [.ref a]) (EP X pins σ Q) X.xe s := fun its o n T hT ho hc hdt rv hz => by
    have e := sdAll I hd rv
    refine callSorted (fun cs => cs = bs) (fun cs e => e ▸ List.Perm.refl _) al so hz (fun b hb => by have := dp b hb; omega) (fun R E hR => ?_) fun s2 p cs out c k g o1 hp ok hg eo => ?_
    · refine collectS a hT ho hc hdt (by simp only [List.size_toArray]; rw [e.length]; exact hz) (fun h' k z => ?_)
      exact hR _ _ bs k z rfl rfl rfl (by simpa using e.mono fun _ _ x => x.keeps k z)
    · subst ok
      exact sortEnd I k g o1 hp hg eo (by rw [List.length_mergeSort]; exact hz) q
  rcases hs with hs | hs
  · obtain ⟨its, rv, pl, hz⟩ := I.list hs
    obtain ⟨o, ho, hc, n, hdt⟩ := pl.isList
    exact main its o n "list" (.inl rfl) ho hc hdt rv (by rw [List.length_map] at hz; exact hz)
  · obtain ⟨its, rv, ⟨o, ho, hc, n, hdt⟩, hz⟩ := I.tuple hs
    exact main its o n "tuple" (.inr rfl) ho hc hdt rv (by rw [List.length_map] at hz; exact hz)
end
end L2.KS
end

section
set_option Elab.async false
set_option linter.all false
set_option maxRecDepth 100000
set_option maxHeartbeats 4000000
namespace L2.KS
open PySem PySem.Spec PyProof.Rows
open PySem.W (EachIs AllAlike Sortable dataLe)
/-! ### sorted(..) of a set of tuples -/
def keyData : Key → PyData
  | .inl i => .int i
  | .inr x => .str x
def tupData (k : List Key) : PyData := .tuple (k.map keyData)
theorem depKeys : ∀ k : List Key, PyData.depthAll (k.map keyData) = 0
  | [] => by simp [PyData.depthAll]
  | .inl i :: k => by simp [PyData.depthAll, keyData, PyData.depth, depKeys k]
  | .inr x :: k => by simp [PyData.depthAll, keyData, PyData.depth, depKeys k]
theorem depTup (k : List Key) : (tupData k).depth ≤ 40 := by
  have h := depKeys k
  unfold tupData
  simp only [PyData.depth]
  omega
theorem dpKeys {K : PySem.W.Frag} {H : Hp} : ∀ k : List Key, DpAll K H (k.map kV) (k.map keyData)
  | [] => .nil
  | .inl i :: k => .cons (.int i) (dpKeys k)
  | .inr x :: k => .cons (.str x) (dpKeys k)
theorem dpTup {K : PySem.W.Frag} {H : Hp} {t : Addr} {k : List Key} (h : H t = some (.tup (k.map kV))) : Dp K H (.ref t) (tupData k) := .tup (SqT.of h) (dpKeys k)
abbrev rowD (p : Addr × List Key) : VD := (.ref p.1, tupData p.2)
theorem permLift {α β : Type} {f : α → β} : ∀ {l : List α} {ys : List β}, ys.Perm (l.map f) → ∃ m : List α, ys = m.map f ∧ m.Perm l
  | [], ys, h => ⟨[], List.perm_nil.mp h, .nil⟩
  | a :: l, ys, h => by
    obtain ⟨s, t, rfl⟩ := List.append_of_mem (h.mem_iff.mpr List.mem_cons_self : f a ∈ ys)
    obtain ⟨m, e, p1⟩ := permLift (List.perm_middle.symm.trans h).cons_inv
    have es : (m.take s.length).map f = s := by rw [List.map_take, ← e, List.take_left]
    have et : (m.drop s.length).map f = t := by rw [List.map_drop, ← e, List.drop_left]
    refine ⟨m.take s.length ++ a :: m.drop s.length, by rw [List.map_append, List.map_cons, es, et], List.perm_middle.trans ?_⟩
    rw [List.take_append_drop]
    exact p1.cons a
section
variable {X : Cx}
def rSortKS (P : Program) (w : World) : List V → Hp → VK → Prop := fun vs H Q => ∃ (a : Addr) (L : KL), vs = [.ref a] ∧ H a = some (KSO P w a L) ∧ (∀ p ∈ L, H p.1 = some (.tup (p.2.map kV))) ∧ AllAlike (L.map fun p => tupData p.2) ∧ (∀ p ∈ L, p.2 ≠ []) ∧
  ∀ (L' : KL) (p : Addr), L'.Perm L → (L'.map (·.2)).Nodup → H p = none → Q (.ref p) (upd H p (.lst ((srt (L'.map rowD)).map (·.1))))
theorem cr_sortKS (hc : X.calm = true) (hu : X.A.units + 64 < cLine) : CallR X (.builtin "sorted") (rSortKS X.prog X.w) := by
  intro pins s σ H vs us Q I r h
  obtain ⟨a, L, rfl, ha, hL, al, ne, q⟩ := h
  rw [Vals.ref1 r]
  have R0 : KSet0 X.prog X.w s.heap a L := (I.hok a _ ha).1
  obtain ⟨es, ep, t, R⟩ := R0.full fun p hp => key_of I.hok (hL p hp)
  obtain ⟨o, ho, hex, hd⟩ := R.ob
  have few : L.length ≤ 76 := by
    have m := R.room
    rcases R.tab.mok with e | e | e <;> omega
  have zs := rows_size R.rows
  have e2 : (L.map rowD).map (·.2) = L.map fun p => tupData p.2 := by rw [List.map_map]; rfl
  refine callSorted (bs := L.map rowD) (fun cs => ∃ L' : KL, L'.Perm L ∧ cs = L'.map rowD) (fun cs ⟨L', p, e⟩ => e ▸ p.map _) (by rw [e2]; exact al) (by
      rw [e2]
      refine .inl fun d hd => ?_
      obtain ⟨p, hp, rfl⟩ := List.mem_map.mp hd
      cases e : p.2 with
      | nil => exact absurd e (ne p hp)
      | cons x k => exact ⟨keyData x, k.map keyData, rfl⟩) (by rw [List.length_map, sizeLine_eq]; omega) (fun b hb => by
      obtain ⟨p, hp, rfl⟩ := List.mem_map.mp hb
      have := depTup p.2
      show X.A.units + 2 + (tupData p.2).depth < cLine
      omega) (fun R' E' hR => ?_) fun s2 p cs out c k g o1 hp ok hg eo => ?_
  · refine collect_set (A := X.A.in1) (I.ok.hd hc) ⟨o, ho, hex.1, hd⟩ R.fit (by unfold scanBound; omega) R.tab.ris R.led fun s1 vs k1 z1 g1 o1 pm => ?_
    have ee : es.toList.map (·.2) = L.map fun p => Value.ref p.1 := by
      rw [R.rows, rowsK, List.map_map]
      rfl
    rw [ee] at pm
    obtain ⟨L', rfl, pL⟩ := permLift pm
    have each : ∀ M : KL, (∀ p ∈ M, p ∈ L) → EachIs (Sd s1.heap) (M.map fun p => Value.ref p.1) (M.map rowD) := fun M => by
      induction M with
      | nil => exact fun _ => .nil
      | cons p M ih =>
        intro hm
        obtain ⟨as, rd⟩ := Dp.reads I (tupData p.2) (.ref p.1) (.ref p.1) (dpTup (hL p (hm p List.mem_cons_self))) rfl
        exact .cons (Sd.keeps (h := s.heap) ⟨rfl, as, rd, ownLt rd⟩ k1 z1) (ih fun y hy => hm y (List.mem_cons_of_mem _ hy))
    exact hR s1 _ (L'.map rowD) k1 z1 g1 o1 ⟨L', pL, rfl⟩ (each L' fun p hp => pL.mem_iff.mp hp)
  · obtain ⟨L', pL, rfl⟩ := ok
    exact sortEnd I k g o1 hp hg eo (by rw [List.length_mergeSort, List.length_map, pL.length_eq, sizeLine_eq]; omega) fun p hn => q L' p pL ((pL.map _).nodup_iff.mpr R.nd) hn
end
end L2.KS
end

section
set_option Elab.async false
set_option linter.all false
set_option maxRecDepth 100000
set_option maxHeartbeats 4000000
namespace L2.KS
open PySem PySem.Spec PyProof.Rows
/-! ### dict comprehensions whose keys are tuples of ints and texts -/
section
variable {X : Cx} {pins : List (Addr × Obj)} {σ : St} {H : Hp} {s : Shared}
theorem dictSetT {E : Value → Shared → Prop} {D b : Addr} {kvs : List (List Key × V)} {k : List Key} {v : V} {r : Value} {Q : Unit → Shared → Prop} (hu : X.A.units < cLine) (I : Inv X pins σ H s) (e : H D = some (.dT kvs)) (eb : H b = some (.tup (k.map kV))) (hz : kvs.length < sizeLine) (rv : RelV v r)
    (h : ∀ s', Inv X pins σ (upd H D (.dT (putK kvs k v))) s' → Q () s') : wpAny (model X.prog X.w) X.A (dictSet D (.ref b) r) Q E s := by
  obtain ⟨z, hd, xs, rel, dd⟩ := dt_of I.hok e
  have hx : xs.length ≤ sizeLine := by rw [← Paired.length rel]; exact z
  have hl : (putK kvs k v).length ≤ sizeLine := by have := length_putK kvs k v; omega
  refine wpAny_dictSet_heap (knd := tupleKind (mixKind X.prog X.w)) (hsz := hx) hu (key_of I.hok eb) dd fun h' dd' hs => h _ ?_
  obtain ⟨q, es, ep, hq, h2, h3, h4, _, h5⟩ := dd'
  refine d_write I (by rw [e]; exact True.intro) hs ⟨q, hq⟩ ⟨hl, hd, _, (rel.put k eb rv).keeps fun c ys ec => ?_, q, es, ep, hq, h2, h3, h4, h5⟩
  rw [upd_ne (ne_of ec e (fun z => nomatch z))]
  exact ec
end
/-- what a new pair asks, and leaves -/
def PutT (D : Addr) (y z : V) (H : Hp) (N : Hp → Prop) : Prop := ∃ (b : Addr) (kvs : List (List Key × V)) (k : List Key), y = .ref b ∧ H b = some (.tup (k.map kV)) ∧ H D = some (.dT kvs) ∧ kvs.length < sizeLine ∧ N (upd H D (.dT (putK kvs k z)))
def tDictT (wi : TI) (g : TG) (tt : TT) (tk tv : TE) (vs : List Nat) : TE := fun σ H Q => wi σ H fun J H1 => ∀ D, H1 D = none →
  ∃ W : Nat → Nat → Hp → Prop, (∃ m, W 0 m (upd H1 D (.dT []))) ∧ ∀ i m H2, W i m H2 → (J.stop i H2 ∧ Q (.ref D) H2) ∨
    (J.go i H2 ∧ ∃ N : Hp → Prop, (∀ H3, N H3 → ∃ m', m' < m ∧ W (i + 1) m' H3) ∧ ∀ x H3, J.yld i H2 x H3 → g x (wipe σ vs) H3 fun σ4 H4 => wipe σ4 vs = wipe σ vs ∧ tt σ4 H4 fun b H5 => if b = true then tk σ4 H5 fun y H6 => tv σ4 H6 fun z H7 => PutT D y z H7 N else N H5)
section
variable {X : Cx}
theorem pe_dictT {kx vx tg iter : Expr} {ifs : List Expr} {scope : Scope} {own : List (PySem.Str × Nat)} {pos : Pos} {wi : TI} {g : TG} {tt : TT} {tk tv : TE} (hu : X.A.units < cLine) (hc : X.calm = true) (hN : X.N.Nodup)
    (hi : PI X tg iter wi) (ok : BlkOk X.N X.env.scope scope own)
    (hg : ∀ (s : Shared) (H : Hp) (C : Addr) (cl : List (PySem.Str × Addr)) (fp : List Addr), PG (X.blk s H scope (compEnvC scope cl C X.env) fp) tg g)
    (ht : ∀ (s : Shared) (H : Hp) (C : Addr) (cl : List (PySem.Str × Addr)) (fp : List Addr), PTs (X.blk s H scope (compEnvC scope cl C X.env) fp) ifs tt)
    (hk : ∀ (s : Shared) (H : Hp) (C : Addr) (cl : List (PySem.Str × Addr)) (fp : List Addr), PE (X.blk s H scope (compEnvC scope cl C X.env) fp) kx tk)
    (he : ∀ (s : Shared) (H : Hp) (C : Addr) (cl : List (PySem.Str × Addr)) (fp : List Addr), PE (X.blk s H scope (compEnvC scope cl C X.env) fp) vx tv)
    (hs : ∀ x, foldedSetIterable iter X.env x = pure x := by intro _; rfl) : PE X (.DictComp kx vx [⟨tg, iter, ifs, 0⟩] scope pos) (tDictT wi g tt tk tv (own.map (·.2))) := by
  refine ⟨fun pins s σ H Q I h => ?_⟩
  rw [arm_eval_DictComp]
  have cellsThere : ∀ y ∈ scope.names, y.2 = .free → ∃ c, X.env.cells.lookup y.1 = some c := fun y hy e => (ok.free y hy e).elim (fun k => I.ok.has _ (.inl k)) (fun k => I.ok.has _ (.inr k))
  refine wpAny_comprehension_free (use := none) rfl hs (closure_ok cellsThere) ok.kind (fun y hy e => by rw [ok.uniq y hy, e]) (thn (hi.run pins s σ H _ I h) fun _ s1 h1 => thn h1 fun _ s2 h2 => ?_)
  obtain ⟨it, fp, tn, J, H2, rfl, I2, T, st2, f2, q⟩ := h2
  refine wpAny_newObj_type (newEnv_comp ?_)
  have Dn : H2 s2.heap.objs.size = none := I2.hok.fresh (Nat.le_refl _)
  obtain ⟨W, ⟨m0, w0⟩, turn⟩ := q _ Dn
  -- the dict stands
  obtain ⟨D, eD⟩ : ∃ D, D = s2.heap.objs.size := ⟨_, rfl⟩
  obtain ⟨s3, e3⟩ : ∃ s3 : Shared, s3 = { s2 with heap := s2.heap.push { cls := .type "dict", data := .dict #[] } } := ⟨_, rfl⟩
  obtain ⟨H3, eH⟩ : ∃ H3, H3 = upd H2 D (.dT []) := ⟨_, rfl⟩
  rw [← eD] at w0 turn Dn
  rw [← eH] at w0
  have old : ∀ b o, s2.heap.get? b = some o → s3.heap.get? b = some o := fun b o e => by rw [e3]; exact Heap.get?_push_of_some _ e
  have I3 : Inv X pins σ H3 s3 := by
    rw [e3, eH, eD]
    exact I2.laid (t' := s2.toks) (fun b o e => Heap.get?_push_of_some _ e) (Nat.le_refl _) (dt_empty s2.heap I2.big)
  have f3 : ∀ b ∈ fp, FpOk X pins H3 b ∧ b < s3.heap.objs.size := fun b hb => by
    obtain ⟨o, e, _⟩ := T.obj _ _ st2 b hb
    have lt := Heap.lt_size e
    refine ⟨⟨?_, (f2 b hb).2⟩, Heap.lt_size (old b o e)⟩
    rw [eH, upd_ne (by rw [eD]; exact Nat.ne_of_lt lt)]
    exact (f2 b hb).1
  have st3 : tn 0 s3.heap := T.keep _ _ _ st2 fun b _ o e => old b o e
  have I4 := block_start I3 ok hN f3
  have pg := hg s3 H3 s3.heap.objs.size (cellsFrom (s3.heap.objs.size + 1) scope.names (cloFrom X.env.cells scope.names [])) fp
  have pt := ht s3 H3 s3.heap.objs.size (cellsFrom (s3.heap.objs.size + 1) scope.names (cloFrom X.env.cells scope.names [])) fp
  have pe := he s3 H3 s3.heap.objs.size (cellsFrom (s3.heap.objs.size + 1) scope.names (cloFrom X.env.cells scope.names [])) fp
  have pk := hk s3 H3 s3.heap.objs.size (cellsFrom (s3.heap.objs.size + 1) scope.names (cloFrom X.env.cells scope.names [])) fp
  rw [← eD, ← e3]
  obtain ⟨ce, ec⟩ : ∃ ce, ce = compEnvC scope (cellsFrom (s3.heap.objs.size + 1) scope.names (cloFrom X.env.cells scope.names [])) s3.heap.objs.size X.env := ⟨_, rfl⟩
  obtain ⟨s4, e4⟩ : ∃ s4 : Shared, s4 = { s3 with heap := pushCells (s3.heap.push { cls := .type "dict", data := .dict #[] }) scope.names } := ⟨_, rfl⟩
  have cL : ce.locals = s3.heap.objs.size := by rw [ec]; rfl
  rw [← ec] at I4 pg pt pe pk
  rw [← e4] at I4
  suffices body : codeAny (model X.prog X.w) X.A (.compLoop (.DictComp kx vx [⟨tg, iter, ifs, 0⟩] scope pos) 0 (.ref it) (.ref D) ce) (compPost (model X.prog X.w) X.A X.xe none (EP X pins σ Q) (.ref D) s3.heap.objs.size) s4 by
    have st4 : tn 0 s4.heap := T.keep _ _ _ st3 fun b _ o e => by rw [e4]; exact pushCells_keeps _ _ _ _ (Heap.get?_push_of_some _ e)
    have all := codeAny_compStart_dict body (T.self X.A 0 _ _ _ st4 body)
    rw [ec, e4] at all
    exact all
  have st4 : tn 0 s4.heap := T.keep _ _ _ st3 fun b _ o e => by rw [e4]; exact pushCells_keeps _ _ _ _ (Heap.get?_push_of_some _ e)
  have nf : ∀ b ∈ fp, H3 b = none := fun b hb => (f3 b hb).1.1
  -- the iterator's own things stay fit
  have fit : ∀ {σ' : St} {H' : Hp} {s' : Shared}, Inv (X.blk s3 H3 scope ce fp) [] σ' H' s' → (∀ b ∈ fp, H' b = none) → ∀ b ∈ fp, FpOk (X.blk s3 H3 scope ce fp) [] H' b := fun {σ' H' s'} J' hn b hb =>
    ⟨hn b hb, (J'.ok.exf b hb).1, J'.ok.exfs b hb, .inl hb, fun x c e => (J'.ok.exf b hb).2 x c e, fun p hp => absurd (show p ∈ ([] : List (Addr × Obj)) ++ [] from hp) (by simp)⟩
  let St (n : Nat) (s' : Shared) : Prop := ∃ i H', Inv (X.blk s3 H3 scope ce fp) [] (wipe σ (own.map (·.2))) H' s' ∧ tn i s'.heap ∧ (∀ b ∈ fp, H' b = none) ∧ W i n H'
  refine compLoop_anyD St ?_ m0 ⟨0, H3, I4, st4, nf, w0⟩
  rintro n s5 ⟨i, H5, I5, st5, n5, w5⟩
  rcases turn i n H5 w5 with ⟨stop, qq⟩ | ⟨go, N, hNx, step⟩
  · refine thnF (T.done (X.blk s3 H3 scope ce fp) rfl rfl rfl hc i [] s5 _ H5 (fun _ _ => False) I5 (fit I5 n5) st5 stop) fun r s6 ⟨hr, I6⟩ => ?_
    cases hr
    have I7 : Inv X pins σ H5 s6 := I3.call' (ch := fp) I6.os I6.base I6.hok I6.bare fun b hb => ⟨(f3 b hb).1.2.2.2.1, (f3 b hb).1.2.1, (f3 b hb).1.2.2.2.2.1, (f3 b hb).1.2.2.2.2.2⟩
    have nC : H5 s3.heap.objs.size = none := cL ▸ (show H5 ce.locals = none from I6.free)
    obtain ⟨m, hn, _⟩ := I6.loc
    have hn : s6.heap.Ns s3.heap.objs.size m := cL ▸ (show s6.heap.Ns ce.locals m from hn)
    obtain ⟨y0, y1, _, y3, y4, y5⟩ := I3.fpOk (Nat.le_refl _) nC
    exact ⟨m, hn, fun h'' sb => ⟨.ref D, H5, I7.turned (t' := s6.toks) (fun b o hb e => (sb.2 b hb).trans e) y0 y1 y3 y4 y5, rfl, qq⟩⟩
  · refine thnF (T.item (X.blk s3 H3 scope ce fp) rfl rfl rfl hc i [] s5 _ H5 (fun _ _ => False) I5 (fit I5 n5) st5 go) fun r s6 ⟨u, hr, h6⟩ => ?_
    subst hr
    refine thnF h6 fun _ s7 ⟨x, H7, I7, r7, y7, st7, n7⟩ => ?_
    refine thnF (pg.run _ s7 _ H7 x u _ (I7.pinned (fit I7 n7) (T.obj _ _ st7)) r7 (step x H7 y7)) fun _ s8 ⟨σ8, H8, I8, hw8, q8⟩ => ?_
    refine thnF (pt.run _ s8 σ8 H8 _ I8 q8) fun b s9 ⟨H9, I9, q9⟩ => ?_
    have over : ∀ {s' : Shared} {H' : Hp}, Inv (X.blk s3 H3 scope ce fp) ([] ++ pinsAt fp s7.heap) σ8 H' s' → N H' → ∃ m, m < n ∧ St m s' := fun {s' H'} J' nx => by
      obtain ⟨m', lt, w'⟩ := hNx H' nx
      have held : ∀ b ∈ fp, ∀ o, s7.heap.get? b = some o → s'.heap.get? b = some o ∧ H' b = none := fun b hb o e =>
        have z := J'.pin (b, o) (List.mem_append_right _ (List.mem_append_right _ (mem_pinsAt hb e)))
        ⟨z.1, z.2.1⟩
      refine ⟨m', lt, i + 1, H', J'.unpinned.weak (by rw [← hw8, wipe_length]) (fun j v e => ?_), T.keep _ _ _ st7 fun b hb o e => (held b hb o e).1, fun b hb => ?_, w'⟩
      · rw [← hw8] at e
        exact (wipe_some e).1
      · obtain ⟨o, e, _⟩ := T.obj _ _ st7 b hb
        exact (held b hb o e).2
    cases b with
    | false => exact over I9 (by simpa using q9)
    | true =>
      have q9 : tk σ8 H9 fun y H6 => tv σ8 H6 fun z H7 => PutT D y z H7 N := by simpa using q9
      refine thnF (pk.run _ s9 σ8 H9 _ I9 q9) fun z s10 ⟨yk, H10, I10, r10, q10⟩ => ?_
      refine thnF (pe.run _ s10 σ8 H10 _ I10 q10) fun z2 s11 ⟨yv, H11, I11, r11, b, kvs, k, ek, eb, hD11, hz, nx⟩ => ?_
      subst ek
      cases (show z = Value.ref b from r10)
      exact dictSetT (X := X.blk s3 H3 scope ce fp) hu I11 hD11 eb hz r11 fun s12 I12 => over I12 nx
end
end L2.KS
end

section
set_option Elab.async false
set_option linter.all false
set_option maxRecDepth 100000
set_option maxHeartbeats 4000000
namespace L2.Und
open PySem PySem.Spec PyProof.Rows _root_.Und
open L2.KS
open PySem.W (dataLe dataLt AllAlike Sortable)
/-! ### two texts in order -/
def strLt (x y : Str) : Bool := decide (x.cps.toList < y.cps.toList)
def asc (p : Str × Str) : Str × Str := if strLt p.2 p.1 = true then (p.2, p.1) else p
abbrev sD (x : Str) : VD := (.str x, .str x)
theorem le_str (x y : Str) : dataLe false (·.2) (sD x) (sD y) = !strLt y x := by
  show (!dataLt (.str y) (.str x)) = _
  rw [PySem.W.dataLt_str]
  rfl
theorem srtTwo (x y : Str) : srt [sD x, sD y] = [sD (asc (x, y)).1, sD (asc (x, y)).2] := by
  have h : srt [sD x, sD y] = if dataLe false (·.2) (sD x) (sD y) = true then [sD x, sD y] else [sD y, sD x] := by
    show List.mergeSort [sD x, sD y] _ = _
    simp [List.mergeSort, List.MergeSort.Internal.splitInTwo, List.merge]
  rw [h, le_str]
  unfold asc
  cases strLt y x <;> rfl
end L2.Und
end

section
set_option Elab.async false
set_option linter.all false
set_option maxRecDepth 100000
set_option maxHeartbeats 4000000
namespace L2.KS
open PySem PySem.Spec PyProof.Rows PySem.W
/-! ### enumerate(tuple) -/
set_option maxHeartbeats 1000000 in
theorem enumNew {v : Value} {o : Obj} {G : Heap → Prop} (B : Begins v o G) : Meets (Builtin.«enumerate.__new__» ⟨[.type "enumerate", v], []⟩) (fun _ R s => G s.heap ∧
    R (.ok (.ret (.ref (s.heap.push o).objs.size))) { s with heap := (s.heap.push o).push { cls := .type "enumerate", data := .fields #[.none, .bool false, .ref s.heap.objs.size, rawInt 0, .none, .none] } }) :=
  .of_wp fun prog w A R s ⟨g1, r⟩ => by
    obtain ⟨hp, g, d, tk, os⟩ := s
    have sub := sub_enumerate
    have it : ∀ {A' : Around} {E : Value → Shared → Prop} {Q : Value → Shared → Prop}, Q (.ref hp.objs.size) ⟨hp.push o, g, d, tk, os⟩ → wpAny (model prog w) A' (pyIter v) Q E ⟨hp, g, d, tk, os⟩ := fun q => B.iter prog w _ _ ⟨hp, g, d, tk, os⟩ _ g1 q
    wp_walk using it
    refine wpAny_stack_any fun st => wpAny_pure ?_
    split
    · rename_i c _ _ _ _ _
      cases (c == Value.type "enumerate") <;> (wp_walk using it; exact ⟨_, rfl, r⟩)
    · wp_walk using it
      exact ⟨_, rfl, r⟩
section
variable {prog : Program} {w : World} {A : Around} {E : Value → Shared → Prop} {s : Shared}
theorem callEnum {v : Value} {o : Obj} {G : Heap → Prop} {Q : Value → Shared → Prop} (B : Begins v o G) (g : G s.heap)
    (h : ∀ h', IsEnum h' (s.heap.objs.size + 1) s.heap.objs.size 0 .none → h'.get? s.heap.objs.size = some o → (∀ b u, s.heap.get? b = some u → h'.get? b = some u) → Q (.ref (s.heap.objs.size + 1)) { s with heap := h' }) :
    wpAny (model prog w) A (call (.type "enumerate") [v]) Q E s := by
  refine callType_new F.called_enumerate (by decide) (F.typeCall_enumerate_1 _) (F.newCall_enumerate_1 _) (fun obj => F.args_object_init_2 obj _) F.entry_enumerate_new (enumNew B) ⟨g, ?_⟩
  have z : (s.heap.push o).objs.size = s.heap.objs.size + 1 := Heap.size_push ..
  show _ ∧ _
  rw [z]
  have there := Heap.get?_push_size (s.heap.push o) (o := { cls := .type "enumerate", data := .fields #[.none, .bool false, .ref s.heap.objs.size, rawInt 0, .none, .none] }) rfl
  rw [z] at there
  exact ⟨⟨_, there, rfl⟩, h _ there (Heap.get?_push_of_some _ (Heap.get?_push_size _ B.free)) fun b u e => Heap.get?_push_of_some _ (Heap.get?_push_of_some _ e)⟩
end
/-- the tuple at a, each item in a new pair -/
def Itet (K : PySem.W.Frag) (a : Addr) : It :=
  ⟨fun i H => ∃ (xs : List V) (x : V), SqT K H a xs ∧ xs[i]? = some x, fun i H v H' => ∃ T x, v = .ref T ∧ H T = none ∧ H' = upd H T (.tup [.int (i : Nat), x]) ∧ ∀ xs, SqT K H a xs → xs[i]? = some x, fun i H => ∃ xs : List V, SqT K H a xs ∧ xs.length ≤ i⟩
theorem turnEt {P : Program} {w : World} {K : PySem.W.Frag} {elts : List Expr} {kk : Nat} {tpos : Pos} (a e it : Addr) (n1 : e ≠ it) (n2 : a ≠ it) (n3 : a ≠ e) :
    Turn P w K (.Tuple elts kk tpos) (Itet K a) [e, it] e (fun i h => (∃ old, IsEnum h e it ((i : Nat) : Int) old) ∧ h.IsTupleIter it a i) where
  mem := by simp
  obj := fun i h ⟨⟨old, he⟩, o, ho, hc, hd⟩ b hb => by
    rcases (by simpa using hb : b = e ∨ b = it) with z | z
    · rw [z]; exact ⟨_, he, fun v q => nomatch q⟩
    · rw [z]; exact ⟨o, ho, fun v q => by rw [hd] at q; cases q⟩
  keep := fun i h h' ⟨⟨old, he⟩, hi⟩ k => ⟨⟨old, k e (by simp) _ he⟩, hi.at fun o q => k it (by simp) o q⟩
  item := by
    intro X hP hw hK hc i pins s σ H E I hf ⟨⟨old, he⟩, hit⟩ hg
    subst hP hw hK
    obtain ⟨xs, x, hq, hx⟩ := hg
    obtain ⟨its, rv, p, hz⟩ := I.tuple hq
    obtain ⟨u, hu, ru⟩ := rv.get hx
    have el : e < s.heap.objs.size := Heap.lt_size he
    have il : it < s.heap.objs.size := by obtain ⟨_, q, _⟩ := hit; exact Heap.lt_size q
    have lt : i < its.toArray.size := by
      rw [List.size_toArray]
      exact (List.getElem?_eq_some_iff.mp hu).1
    refine wpAny_pyNext_enum_itemD (Draws.tuple (A := X.A.in1) (I.ok.hd hc) it a n2 its.toArray) he ⟨hit, p⟩ lt n1 (by simp [n1, Ne.symm n3]) fun y h' tk hy ho st' hT hsz hk => ?_
    have yu : y = u := Option.some.inj (hy.symm.trans (by simpa using hu))
    subst yu
    refine ⟨_, rfl, wpAny_letOwnedTupleGo_enum (s := { s with heap := h', toks := tk + 1 }) ho fun h'' he' sb => ?_⟩
    have hT2 : h''.get? s.heap.objs.size = some { cls := .type "tuple", data := .seq #[.int i tk, y] } := (sb.2 _ (Nat.ne_of_gt el)).trans hT
    have new : ObjOk X.prog X.w (upd H s.heap.objs.size (.tup [.int (i : Nat), x])) h'' s.heap.objs.size (.tup [.int (i : Nat), x]) := ⟨by show 2 ≤ sizeLine; decide, [.int i tk, y], .cons ⟨_, rfl⟩ (.cons ru .nil), ⟨_, hT2, rfl, _, rfl⟩⟩
    have I1 : Inv X pins σ (upd H s.heap.objs.size (.tup [.int (i : Nat), x])) { s with heap := h'', toks := tk + 1 } :=
      I.turnedNew (ch := [e, it]) (fun b ob hb q => (sb.2 b (fun z => hb (by simp [z]))).trans (hk b ob (fun z => hb (by simp [z])) (fun z => hb (by simp [z])) q)) hf (Nat.le_refl _) new
    refine ⟨.ref s.heap.objs.size, _, I1, rfl, ⟨_, x, rfl, I.hok.fresh (Nat.le_refl _), rfl, fun ys hy => by rw [I.tuple_inj hy hq]; exact hx⟩, ⟨⟨y, ?_⟩, st'.1.at fun o q => (sb.2 it (Ne.symm n1)).trans q⟩, fun b hb => ?_⟩
    · rw [show ((i + 1 : Nat) : Int) = (i : Int) + 1 by omega]
      exact he'
    · have lb : b < s.heap.objs.size := (by simpa using hb : b = e ∨ b = it).elim (fun z => z ▸ el) (fun z => z ▸ il)
      rw [upd_ne (Nat.ne_of_lt lb)]
      exact (hf b hb).1
  done := by
    intro X hP hw hK hc i pins s σ H E I hf ⟨⟨old, he⟩, hit⟩ hg
    subst hP hw hK
    obtain ⟨xs, hq, hx⟩ := hg
    obtain ⟨its, rv, p, hz⟩ := I.tuple hq
    obtain ⟨f0, f1, f2, f3, f4, f5⟩ := hf it (by simp)
    have l := rv.length
    have D : Draws X.prog X.w X.A.in1 it [it, a] i (fun _ _ => False) (fun j h => j = i ∧ h.IsTupleIter it a i ∧ h.IsTuple a its.toArray) :=
      { live := fun j h st => let ⟨o, ho, _⟩ := st.2.1; ⟨o, ho⟩
        frame := fun j h h' st k => ⟨st.1, st.2.1.at fun o q => k it (by simp) o q, st.2.2.at fun o q => k a (by simp) o q⟩
        item := fun j s Q E hj st _ => absurd st.1 (Nat.ne_of_lt hj)
        done := fun s Q E st hE => wpAny_nextOf_tuple_end (I.ok.hd hc) st.2.1 st.2.2 (Array.getElem?_eq_none (by rw [List.size_toArray]; omega)) hE }
    exact wpAny_pyNext_enum_endD D he ⟨rfl, hit, p⟩ fun h' eb => ⟨rfl, I.turned (t' := s.toks) (fun b o hb q => eb b o hb q) f0 f1 f3 f4 f5⟩
  self := fun A i s Q E ⟨⟨_, he⟩, _⟩ h => wpAny_pyIter_enum he h
def iEnumT (K : PySem.W.Frag) (ta : TA) : TI := fun σ H R => ta σ H fun vs H1 => ∃ a xs, vs = [.ref a] ∧ SqT K H1 a xs ∧ R (Itet K a) H1
theorem pi_enumT {X : Cx} {e : Expr} {ta : TA} {p pos tpos : Pos} {elts : List Expr} {kk : Nat} (hg : Gl X "enumerate") (hm : X.mg "enumerate" = none) (ha : PA X [e] ta) (hs : starEach [e] X.env = [(false, eval e X.env)] := by rfl) :
    PI X (.Tuple elts kk tpos) (.Call (.Name "enumerate" p) [e] [] pos) (iEnumT X.K ta) := by
  refine ⟨fun pins s σ H R I h => ?_⟩
  refine Call_ (ld_blt I hg hm boot_enumerate (PyProof.Rows.callWith_type1 (thn (ha.run pos pins s σ H _ I h) fun us s1 ⟨vs, H1, I1, r1, a, xs, ex, hq, q⟩ => ?_) hs rfl))
  subst ex
  rw [Vals.ref1 r1]
  obtain ⟨its, rv, pt, hz⟩ := I1.tuple hq
  have al : a < s1.heap.objs.size := by obtain ⟨o, ho, _⟩ := pt; exact Heap.lt_size ho
  refine callEnum (begins_tuple a its.toArray) pt fun h' he hit hk => wpAny_pyIter_enum he ?_
  refine ⟨s1.heap.objs.size + 1, [s1.heap.objs.size + 1, s1.heap.objs.size], _, _, H1, rfl, I1.kept (t' := s1.toks) hk,
    turnEt a (s1.heap.objs.size + 1) s1.heap.objs.size (Nat.succ_ne_self _) (Nat.ne_of_lt al) (Nat.ne_of_lt (Nat.lt_succ_of_lt al)), ⟨⟨.none, he⟩, ⟨_, hit, rfl, rfl⟩⟩, fun b hb => ?_, q⟩
  have le : s1.heap.objs.size ≤ b := by
    rcases (by simpa using hb : b = s1.heap.objs.size + 1 ∨ b = s1.heap.objs.size) with z | z
    · rw [z]; exact Nat.le_succ _
    · rw [z]; exact Nat.le_refl _
  exact I1.fpOk le (I1.hok.fresh le)
/-- over whichever of the two -/
theorem walkEt {K : PySem.W.Frag} {a : Addr} {xs : List V} : L2.Walk (Itet K a) xs.length (fun H => SqT K H a xs) (L2.YPair (fun i => some (.int (i : Nat))) (fun i => xs[i]?)) := by
  refine ⟨fun i _ hi q => ⟨xs, xs[i], q, by simp [hi]⟩, fun _ q => ⟨xs, q, Nat.le_refl _⟩, fun i H v H' _ q y => ?_⟩
  obtain ⟨T, x, h1, h2, h3, h4⟩ := y
  exact ⟨T, .int (i : Nat), x, h1, h2, h3, rfl, h4 xs q⟩
/-- one way of walking, or another -/
theorem pi_or {X : Cx} {tg iter : Expr} {w1 w2 : TI} (h1 : PI X tg iter w1) (h2 : PI X tg iter w2) : PI X tg iter (fun σ H R => w1 σ H R ∨ w2 σ H R) :=
  ⟨fun pins s σ H R I h => h.elim (fun z => h1.run pins s σ H R I z) (fun z => h2.run pins s σ H R I z)⟩
end L2.KS
end

section
set_option Elab.async false
set_option linter.all false
set_option maxRecDepth 100000
set_option maxHeartbeats 4000000
namespace L2.Und
open PySem PySem.Spec PyProof.Rows _root_.Und
open L2.KS
/-! ### lists or tuples alike -/
abbrev SqA (K : PySem.W.Frag) (H : Hp) (a : Addr) (xs : List V) : Prop := SqL K H a xs ∨ SqT K H a xs
theorem SqA.same {K : PySem.W.Frag} {H H' : Hp} {a : Addr} {xs : List V} (h : SqA K H a xs) (s : Same H H') : SqA K H' a xs := h.elim (fun z => .inl (s.seq z)) (fun z => .inr (Same.tup s z))
/-- t[lo:hi] of a list or tuple -/
def rSlB (K : PySem.W.Frag) : V → Option Int → Option Int → Hp → VK → Prop := fun x lo hi H Q => ∃ a xs, x = .ref a ∧ SqA K H a xs ∧ ∀ (p : Addr) (H' : Hp), Same H H' → SqA K H' p (cutV xs lo hi) → Q (.ref p) H'
theorem slB {K : PySem.W.Frag} {x : V} {lo hi : Option Int} {H : Hp} {Q : VK} (h : rSlB K x lo hi H Q) : rSlL K x lo hi H Q ∨ rSlA K x lo hi H Q := by
  obtain ⟨a, xs, rfl, hs | hs, q⟩ := h
  · exact .inl ⟨a, xs, rfl, hs, fun p hp => q p _ (sameNew hp) (.inl (SqL.of upd_same))⟩
  · refine .inr ⟨a, xs, rfl, hs, fun w => q a H (Same.refl H) (.inr ?_), fun _ p hp => q p _ (sameNew hp) (.inr (SqT.of upd_same))⟩
    unfold cutV
    rw [w.1, w.2, List.drop_zero, Nat.sub_zero, List.take_length]
    exact hs
theorem sl_any {X : Cx} : SlR X (rSlB X.K) := fun pins s σ H x v vl vu lo hi sl Q I rx hs pl pu h => SlR.or sl_list sl_tupA pins s σ H x v vl vu lo hi sl Q I rx hs pl pu (slB h)
/-- for i, x in enumerate(..) of a list or tuple -/
def iEnumA (K : PySem.W.Frag) (ta : TA) : TI := fun σ H R => iEnum K ta σ H R ∨ iEnumT K ta σ H R
theorem pi_enumA {X : Cx} {e : Expr} {ta : TA} {p pos tpos : Pos} {elts : List Expr} {kk : Nat} (hg : Gl X "enumerate") (hm : X.mg "enumerate" = none) (ha : PA X [e] ta) (hs : starEach [e] X.env = [(false, eval e X.env)] := by rfl) :
    PI X (.Tuple elts kk tpos) (.Call (.Name "enumerate" p) [e] [] pos) (iEnumA X.K ta) := pi_or (pi_enum hg hm ha hs) (pi_enumT hg hm ha hs)
/-! ### the kinds that are not -/
def badAt (ks : List Str) (i : Nat) : Bool := match ks[i]? with
  | some k => !IsName k || decide (k ∈ ks.take i)
  | none => false
def firstBad (ks : List Str) : Option Nat := (List.range ks.length).find? (badAt ks)
def kindsBad (ks : List Str) : Option (Str × Int) := if 1 ≤ ks.length ∧ ks.length ≤ 12 then (firstBad ks).map fun i => ("name", (i : Int)) else some ("count", -1)
theorem firstBad_at {ks : List Str} {i : Nat} (h : i < ks.length) (hb : badAt ks i = true) (hn : ∀ j, j < i → badAt ks j = false) : firstBad ks = some i := find_range (badAt ks) h hb hn
theorem firstBad_none {ks : List Str} (hn : ∀ j, j < ks.length → badAt ks j = false) : firstBad ks = none := find_range_none (badAt ks) hn
theorem cutA {ks : List Str} {i : Nat} (h : i ≤ ks.length) : cutV (ks.map V.str) none (some (i : Int)) = (ks.take i).map V.str := cutTake h
/-! ### the pairs that are not -/
abbrev RL := List (Addr × List Str)
def isPr (ks : List Str) : List Str → Bool
  | [x, y] => decide (x ≠ y) && decide (x ∈ ks) && decide (y ∈ ks)
  | _ => false
def pairBadAt (ks : List Str) (ps : List (List Str)) (i : Nat) : Bool := match ps[i]? with
  | some p => !isPr ks p
  | none => false
def pairsBad (ks : List Str) (ps : List (List Str)) : Option Nat := (List.range ps.length).find? (pairBadAt ks ps)
theorem pairsBad_at {ks : List Str} {ps : List (List Str)} {i : Nat} (h : i < ps.length) (hb : pairBadAt ks ps i = true) (hn : ∀ j, j < i → pairBadAt ks ps j = false) : pairsBad ks ps = some i := find_range (pairBadAt ks ps) h hb hn
theorem pairsBad_none {ks : List Str} {ps : List (List Str)} (hn : ∀ j, j < ps.length → pairBadAt ks ps j = false) : pairsBad ks ps = none := find_range_none (pairBadAt ks ps) hn
end L2.Und
end

section
set_option Elab.async false
set_option linter.all false
set_option maxRecDepth 100000
set_option maxHeartbeats 4000000
namespace L2.Und
open PySem PySem.Spec PyProof.Rows _root_.Und
open L2.KS
open PySem.W (dataLe dataLt AllAlike Sortable)
/-! ### ascending, is_pair of the program -/
abbrev sAsc : Stmt := topS 21
theorem scAsc : FnScope ["pair"] ["pair"] (defScope sAsc) := ⟨rfl, rfl, rfl, by decide +kernel, rfl, by decide +kernel, by decide +kernel⟩
def spAsc (K : PySem.W.Frag) : Sp := fun vs H Q _ => ∃ (a : Addr) (x y : Str), vs = [.ref a] ∧ (SqL K H a [.str x, .str y] ∨ SqT K H a [.str x, .str y]) ∧
  ∀ (p : Addr) (H' : Hp), H p = none → Same H H' → H' p = some (.tup [.str (asc (x, y)).1, .str (asc (x, y)).2]) → Q (.ref p) H'
section
variable {P : Program} {w : World} {K : PySem.W.Frag} {mg : Str → Option Value} {base : Heap}
theorem okAsc {f : Addr} {fd : FuncData} (F : Fun K "ascending" "ascending" sAsc f fd) (mT : mg "tuple" = none) (mS : mg "sorted" = none) : FnOk P w K mg base CX0 1 f fd ["pair"] (spAsc K) := by
  refine F.ok scAsc (fun vs H Q E h => ?_) (fun cdv A outer s H vs Q E hr h => ?_)
  · obtain ⟨a, x, y, rfl, _⟩ := h
    rfl
  have hu : (A.deeper (envOfC "ascending" (defScope sAsc) s.heap.objs.size f cdv)).units + 64 < cLine := by have := hr.un; omega
  have bS : bootBuiltins ("sorted" : Str) = some (.builtin "sorted") := by decide +kernel
  refine ⟨_, pss_one (ps_ret (pe_callTy call_tuple_of rfl mT PyProof.Rows.Boot.«tuple» (pa_cons (pe_callB (cr_sortD hu) rfl mS bS (pa_cons (pv 0) pa_nil)) pa_nil))), ?_⟩
  obtain ⟨a, x, y, rfl, hs, q⟩ := h
  refine ⟨_, rfl, a, [sD x, sD y], rfl, hs, ?_, ?_, ?_, ?_, fun p hp => ?_⟩
  · intro b hb
    rcases List.mem_cons.mp hb with rfl | hb
    · exact .str x
    · rw [List.mem_singleton.mp hb]
      exact .str y
  · intro d hd d' hd'
    have all : ∀ d ∈ [sD x, sD y].map (·.2), ∃ z, d = PyData.str z := fun d hd => by
      rcases List.mem_cons.mp hd with rfl | hd
      · exact ⟨x, rfl⟩
      · exact ⟨y, List.mem_singleton.mp hd⟩
    obtain ⟨z, rfl⟩ := all d hd
    obtain ⟨z', rfl⟩ := all d' hd'
    simp [PySem.W.alike]
  · refine .inr fun d hd => ?_
    rcases List.mem_cons.mp hd with rfl | hd
    · exact ⟨fun z => (nomatch z), fun _ z => (nomatch z)⟩
    · rw [List.mem_singleton.mp hd]
      exact ⟨fun z => (nomatch z), fun _ z => (nomatch z)⟩
  · intro b hb
    rcases List.mem_cons.mp hb with rfl | hb
    · simp [PyData.depth]
    · rw [List.mem_singleton.mp hb]
      simp [PyData.depth]
  · rw [srtTwo]
    have s1 := sameNew (o := .lst ([sD (asc (x, y)).1, sD (asc (x, y)).2].map (·.1))) hp
    refine ⟨p, _, rfl, .inl ⟨SqL.of upd_same, fun l hl => ?_⟩⟩
    exact q l _ (s1.free hl) (s1.trans (sameNew hl)) upd_same
abbrev sIsPair : Stmt := topS 22
theorem scIsPair : FnScope ["pair", "kinds"] ["pair", "kinds"] (defScope sIsPair) := ⟨rfl, rfl, rfl, by decide +kernel, rfl, by decide +kernel, by decide +kernel⟩
def spIsPair (K : PySem.W.Frag) : Sp := fun vs H Q _ => ∃ (a b : Addr) (xs ks : List Str), vs = [.ref a, .ref b] ∧ (SqL K H a (xs.map V.str) ∨ SqT K H a (xs.map V.str)) ∧ (SqL K H b (ks.map V.str) ∨ SqT K H b (ks.map V.str)) ∧ Q (.bl (isPr ks xs)) H
theorem inStr (x : Str) : ∀ ks : List Str, inV (.str x) (ks.map V.str) = decide (x ∈ ks)
  | [] => rfl
  | y :: ks => by
    have ih := inStr x ks
    unfold inV at ih ⊢
    rw [List.map_cons, List.any_cons, ih]
    show ((y == x) || decide (x ∈ ks)) = decide (x ∈ y :: ks)
    by_cases h : y = x
    · subst h; simp
    · have h' : ¬ x = y := fun e => h e.symm
      simp [h, h']
theorem flatStr : ∀ ks : List Str, (ks.map V.str).all flatV = true
  | [] => rfl
  | _ :: ks => by
    rw [List.map_cons, List.all_cons, flatStr ks]
    rfl
theorem okIsPair {f : Addr} {fd : FuncData} (F : Fun K "is_pair" "is_pair" sIsPair f fd) (mL : mg "len" = none) : FnOk P w K mg base CX0 1 f fd ["pair", "kinds"] (spIsPair K) := by
  refine F.ok scIsPair (fun vs H Q E h => ?_) (fun cdv A outer s H vs Q E hr h => ?_)
  · obtain ⟨a, b, xs, ks, rfl, _⟩ := h
    rfl
  refine ⟨_, pss_one (ps_ret (pe_and (pe_cmpR op_eq (pe_callB call_len_seq rfl mL PySem.boot_len (pa_cons (pv 0) pa_nil)) pe_int (nomark _))
    (pe_and (pe_cmpR op_ne (pe_ix ix_seq (pv 0) pe_int (fun _ _ => rfl)) (pe_ix ix_seq (pv 0) pe_int (fun _ _ => rfl)) (nomark _))
    (pe_and (pe_cmpR op_in_seq (pe_ix ix_seq (pv 0) pe_int (fun _ _ => rfl)) (pv 1) rfl)
    (pe_one (pe_cmpR op_in_seq (pe_ix ix_seq (pv 0) pe_int (fun _ _ => rfl)) (pv 1) rfl)))))), ?_⟩
  obtain ⟨a, b, xs, ks, rfl, hs, hk, q⟩ := h
  refine ⟨_, rfl, a, _, rfl, hs, rfl, _, rfl, ?_⟩
  have at_ : ∀ {i : Nat} {y : Str} {R : VK}, xs[i]? = some y → R (.str y) H → rIx K (.ref a) (.int (i : Int)) H R := fun {i y R} hy r => by
    have e : atI (xs.map V.str) ((i : Nat) : Int) = some (.str y) := atI_nat (by rw [List.getElem?_map, hy]; rfl)
    rcases hs with hs | hs
    · exact .inl ⟨a, _, _, _, rfl, rfl, hs, e, r⟩
    · exact .inr (.inl ⟨a, _, _, _, rfl, rfl, hs, e, r⟩)
  by_cases two : xs.length = 2
  · obtain ⟨x, y, rfl⟩ : ∃ x y, xs = [x, y] := by
      match xs, two with
      | [x, y], _ => exact ⟨x, y, rfl⟩
    refine iteT ?_
    refine ⟨_, rfl, at_ (i := 0) rfl ⟨_, rfl, at_ (i := 1) rfl ⟨rfl, _, rfl, ?_⟩⟩⟩
    have ne : (!decide ((V.str x) = V.str y)) = decide (x ≠ y) := by
      by_cases h : x = y
      · subst h; simp
      · have h' : ¬ (V.str x = V.str y) := fun e => h (V.str.inj e)
        rw [decide_eq_false h', decide_eq_true h]
        rfl
    have i1 : (if false = true then !inV (V.str x) (ks.map V.str) else inV (V.str x) (ks.map V.str)) = decide (x ∈ ks) := by rw [if_neg Bool.false_ne_true, inStr]
    have i2 : (if false = true then !inV (V.str y) (ks.map V.str) else inV (V.str y) (ks.map V.str)) = decide (y ∈ ks) := by rw [if_neg Bool.false_ne_true, inStr]
    have e : isPr ks [x, y] = (decide (x ≠ y) && decide (x ∈ ks) && decide (y ∈ ks)) := rfl
    rw [e] at q
    refine ite2 (fun k => ?_) (fun k => ?_)
    · have k : (!decide ((V.str x) = V.str y)) = true := k
      rw [ne] at k
      rw [k, Bool.true_and] at q
      refine ⟨_, rfl, at_ (i := 0) rfl ⟨_, rfl, b, _, rfl, hk, rfl, flatStr ks, _, rfl, ?_⟩⟩
      rw [i1]
      refine ite2 (fun k1 => ?_) (fun k1 => ?_)
      · have k1 : decide (x ∈ ks) = true := k1
        rw [k1, Bool.true_and] at q
        refine ⟨_, rfl, at_ (i := 1) rfl ⟨_, rfl, b, _, rfl, hk, rfl, flatStr ks, ?_⟩⟩
        rw [i2]
        exact q
      · have k1 : decide (x ∈ ks) = false := by simpa using k1
        rw [k1, Bool.false_and] at q
        exact q
    · have k : (!decide ((V.str x) = V.str y)) = false := by
        have k : ¬ (!decide ((V.str x) = V.str y)) = true := k
        simpa using k
      rw [ne] at k
      rw [k, Bool.false_and, Bool.false_and] at q
      exact q
  · have e : isPr ks xs = false := by
      match xs, two with
      | [], _ => rfl
      | [_], _ => rfl
      | [_, _], h => exact absurd rfl h
      | _ :: _ :: _ :: _, _ => rfl
    rw [e] at q
    have t : decide (V.int ((xs.map V.str).length : Int) = V.int 2) = false := by
      rw [List.length_map]
      refine decide_eq_false fun z => two ?_
      have := V.int.inj z
      omega
    show if decide (V.int ((xs.map V.str).length : Int) = V.int 2) = true then _ else _
    rw [t]
    exact iteF q
end
end L2.Und
end

section
set_option Elab.async false
set_option linter.all false
set_option maxRecDepth 100000
set_option maxHeartbeats 4000000
namespace L2.Und
open PySem PySem.Spec PyProof.Rows _root_.Und
open L2.KS
open PySem.W (findIn keepIn typeIn subIn)
/-! ### check_kinds of the program -/
/-- an error class of two fields, as a raise wants it -/
structure Two2 (P : Program) (w : World) (K : PySem.W.Frag) (mg : Str → Option Value) (base : Heap) (X x y : Str) (C : Addr) : Prop where
  g : mg X = some (.ref C)
  T : ErrC K C
  ty : typeIn K (.ref C) = some (.type "type")
  run : ∃ fI fd, findIn K (.ref C) "__init__" = some (some (.ref fI)) ∧ typeIn K (.ref fI) = some (.type "function") ∧ FnOk P w K mg base CX0 1 fI fd ["self", x, y] (spIni C 2 (fld2 x y)) ∧ Binds K fd ["self", x, y] []
abbrev sCheckK : Stmt := topS 23
theorem scCheckK : FnScope ["kinds", "at", "kind"] ["kinds"] (defScope sCheckK) := ⟨rfl, rfl, rfl, by decide +kernel, rfl, by decide +kernel, by decide +kernel⟩
def spCheckK (K : PySem.W.Frag) (C : Addr) : Sp := fun vs H Q E => ∃ (a : Addr) (ks : List Str), vs = [.ref a] ∧ SqA K H a (ks.map V.str) ∧ ks.length ≤ 100000 ∧ (∀ k ∈ ks, k.length ≤ 100000) ∧
  (kindsBad ks = none → ∀ H', Same H H' → Q .non H') ∧
  ∀ t i, kindsBad ks = some (t, i) → ∀ (d : Addr) (H' : Hp), H d = none → Same H H' → H' d = some (.xd [("at", .int i), ("word", .str t)]) → E (.ref C) (some d) H'
section
variable {P : Program} {w : World} {K : PySem.W.Frag} {mg : Str → Option Value} {base : Heap}
theorem okCheckK {f fN C : Addr} {fd fdN : FuncData} {t : Tok} (F : Fun K "check_kinds" "check_kinds" sCheckK f fd) (T : Two2 P w K mg base "InvalidTable" "word" "at" C)
    (GN : FnOk P w K mg base CX0 1 fN fdN ["text"] spIsName) (mN : mg "is_name" = some (.ref fN)) (kN : keepIn K (.ref fN) = true) (bN : Binds K fdN ["text"] [])
    (mL : mg "len" = none) (mE : mg "enumerate" = none) (mM : mg "MOST_KINDS" = some (.int 12 t)) : FnOk P w K mg base (L2.CX P w) 3 f fd ["kinds"] (spCheckK K C) := by
  refine F.okX scCheckK (fun vs H Q E h => ?_) (fun cdv A outer s H vs Q E hr h => ?_)
  · obtain ⟨a, ks, rfl, _⟩ := h
    rfl
  have hr1 : Room 1 (A.deeper (envOfC "check_kinds" (defScope sCheckK) s.heap.objs.size f cdv)) := hr.mono (by decide)
  obtain ⟨fI, fdI, iC, tI, FI, bI⟩ := T.run
  refine ⟨_, pss_cons (ps_if (pt_not (pt_chain op_le op_le pe_int (pe_callB call_len_seq rfl mL PySem.boot_len (pa_cons (pv 0) pa_nil)) (pe_glob (v := .int 12) rfl mM ⟨t, rfl⟩)))
        (pss_one (ps_raise rfl (takes_of rfl rfl rfl rfl) (pmkErr T.T T.ty iC tI FI hr bI (by decide) rfl T.g (pa_cons pe_str (pa_cons (pe_un un_neg pe_int) pa_nil))))) pss_nil)
    (pss_one (ps_for PassesOwn.leaving rfl (pi_enumA rfl mE (pa_cons (pv 0) pa_nil)) (pg_tup rfl (pgs_cons (pg_name (i := 1) scCheckK.nd rfl (Or.inl rfl)) (pgs_cons (pg_name (i := 2) scCheckK.nd rfl (Or.inl rfl)) pgs_nil)))
      (pss_one (ps_if (PW.pt (pw_or (pt_not (pt_val (pe_call GN hr1 rfl mN kN bN .nil pass0 (pa_cons (pv 2) pa_nil))))
          (pw_or1 (pt_cmpR op_in_seq (pv 2) (pe_slice sl_any (pv 0) po_none (po_some (pv 1))) rfl))))
        (pss_one (ps_raise rfl (takes_of rfl rfl rfl rfl) (pmkErr T.T T.ty iC tI FI hr bI (by decide) rfl T.g (pa_cons pe_str (pa_cons (pv 1) pa_nil))))) pss_nil)))), ?_⟩
  obtain ⟨a, ks, rfl, hs, hl, hkl, q0, qE⟩ := h
  have cnt : ¬ (1 ≤ ks.length ∧ ks.length ≤ 12) → kindsBad ks = some (("count" : Str), (-1 : Int)) := fun z => if_neg z
  refine ⟨_, rfl, a, _, rfl, hs, _, _, rfl, rfl, _, rfl, ?_⟩
  rw [List.length_map]
  refine ite2 (fun c1 => ?_) (fun c1 => ?_)
  · have g1 : 1 ≤ ks.length := by
      have z : (1 : Int) ≤ (ks.length : Int) := of_decide_eq_true c1
      omega
    refine ⟨_, _, rfl, rfl, _, rfl, ?_⟩
    by_cases g2 : ks.length ≤ 12
    · have e : (!decide ((ks.length : Int) ≤ 12)) = false := by rw [decide_eq_true (by omega)]; rfl
      show if (!decide ((ks.length : Int) ≤ 12)) = true then _ else _
      rw [e]
      refine iteF ?_
      rcases hs with hs | hs
      · refine .inl ⟨_, rfl, a, _, rfl, hs, for_it (walk_enum (K := K) (a := a) (xs := ks.map V.str)) (fun i σ H' => ∃ x1 x2 : Option V, σ = [some (.ref a), x1, x2] ∧ Same H H' ∧ ∀ j, j < i → badAt ks j = false) ⟨_, _, rfl, Same.refl H, fun j z => absurd z (Nat.not_lt_zero j)⟩
          (fun i σ H' _ ⟨_, _, _, s, _⟩ => s.seq hs) ?_ ?_⟩
        · rintro i x σ H3 H4 hi ⟨x1, x2, rfl, s3, okj⟩ ⟨T0, y1, y2, rfl, hT, rfl, e1, e2⟩
          rw [List.length_map] at hi
          obtain ⟨k, hk, rfl⟩ : ∃ k, ks[i]? = some k ∧ y2 = V.str k := by
            have y3 : (ks.map V.str)[i]? = some y2 := e2
            rw [List.getElem?_map] at y3
            cases e : ks[i]? with
            | none => rw [e] at y3; cases y3
            | some z => rw [e] at y3; exact ⟨z, rfl, (Option.some.inj y3).symm⟩
          obtain rfl : y1 = V.int (i : Nat) := (Option.some.inj e1).symm
          have s4 := s3.trans (sameNew (o := .tup [V.int (i : Nat), V.str k]) hT)
          refine ⟨T0, _, rfl, SqT.of upd_same, rfl, _, _, rfl, _, _, rfl, rfl, ?_⟩
          have bad : badAt ks i = (!IsName k || decide (k ∈ ks.take i)) := by
            unfold badAt
            rw [hk]
          have fb : badAt ks i = true → kindsBad ks = some (("name" : Str), (i : Int)) := fun z => by
            unfold kindsBad
            rw [if_pos ⟨g1, g2⟩, firstBad_at hi z okj]
            rfl
          refine ⟨_, rfl, k, rfl, hkl k (List.mem_of_getElem? hk), fun H5 s5 => ⟨_, rfl, ?_⟩⟩
          have s45 := s4.trans s5
          refine ite2 (fun n => ?_) (fun n => ?_)
          · have n : (!IsName k) = true := n
            refine iteT ⟨_, rfl, rfl, fun d H6 n6 s6 e6 => ?_⟩
            exact qE "name" i (fb (by rw [bad, n, Bool.true_or])) d H6 (s45.free n6) (s45.trans s6) e6
          · have n : (!IsName k) = false := by
              have n : ¬ (!IsName k) = true := n
              simpa using n
            refine ⟨_, rfl, _, rfl, _, rfl, _, rfl, a, _, rfl, SqA.same (.inl hs) s45, fun p H6 s6 hp => ?_⟩
            rw [cutA (Nat.le_of_lt hi)] at hp
            refine ⟨p, _, rfl, hp, rfl, flatStr _, _, rfl, ?_⟩
            have e : (if false = true then !inV (V.str k) ((ks.take i).map V.str) else inV (V.str k) ((ks.take i).map V.str)) = decide (k ∈ ks.take i) := by rw [if_neg Bool.false_ne_true, inStr]
            rw [e]
            have s46 := s45.trans s6
            refine ite2 (fun m => ?_) (fun m => ?_)
            · have m : decide (k ∈ ks.take i) = true := m
              refine ⟨_, rfl, rfl, fun d H7 n7 s7 e7 => ?_⟩
              exact qE "name" i (fb (by rw [bad, m, Bool.or_true])) d H7 (s46.free n7) (s46.trans s7) e7
            · have m : decide (k ∈ ks.take i) = false := by simpa using m
              refine ⟨_, _, rfl, s46, fun j hj => ?_⟩
              rcases Nat.lt_succ_iff_lt_or_eq.mp hj with hj | rfl
              · exact okj j hj
              · rw [bad, n, m]
                rfl
        · rintro σ H3 ⟨x1, x2, rfl, s3, okj⟩
          rw [List.length_map] at okj
          refine q0 ?_ H3 s3
          unfold kindsBad
          rw [if_pos ⟨g1, g2⟩, firstBad_none okj]
          rfl
      · refine .inr ⟨_, rfl, a, _, rfl, hs, for_it (walkEt (K := K) (a := a) (xs := ks.map V.str)) (fun i σ H' => ∃ x1 x2 : Option V, σ = [some (.ref a), x1, x2] ∧ Same H H' ∧ ∀ j, j < i → badAt ks j = false) ⟨_, _, rfl, Same.refl H, fun j z => absurd z (Nat.not_lt_zero j)⟩
          (fun i σ H' _ ⟨_, _, _, s, _⟩ => Same.tup s hs) ?_ ?_⟩
        · rintro i x σ H3 H4 hi ⟨x1, x2, rfl, s3, okj⟩ ⟨T0, y1, y2, rfl, hT, rfl, e1, e2⟩
          rw [List.length_map] at hi
          obtain ⟨k, hk, rfl⟩ : ∃ k, ks[i]? = some k ∧ y2 = V.str k := by
            have y3 : (ks.map V.str)[i]? = some y2 := e2
            rw [List.getElem?_map] at y3
            cases e : ks[i]? with
            | none => rw [e] at y3; cases y3
            | some z => rw [e] at y3; exact ⟨z, rfl, (Option.some.inj y3).symm⟩
          obtain rfl : y1 = V.int (i : Nat) := (Option.some.inj e1).symm
          have s4 := s3.trans (sameNew (o := .tup [V.int (i : Nat), V.str k]) hT)
          refine ⟨T0, _, rfl, SqT.of upd_same, rfl, _, _, rfl, _, _, rfl, rfl, ?_⟩
          have bad : badAt ks i = (!IsName k || decide (k ∈ ks.take i)) := by
            unfold badAt
            rw [hk]
          have fb : badAt ks i = true → kindsBad ks = some (("name" : Str), (i : Int)) := fun z => by
            unfold kindsBad
            rw [if_pos ⟨g1, g2⟩, firstBad_at hi z okj]
            rfl
          refine ⟨_, rfl, k, rfl, hkl k (List.mem_of_getElem? hk), fun H5 s5 => ⟨_, rfl, ?_⟩⟩
          have s45 := s4.trans s5
          refine ite2 (fun n => ?_) (fun n => ?_)
          · have n : (!IsName k) = true := n
            refine iteT ⟨_, rfl, rfl, fun d H6 n6 s6 e6 => ?_⟩
            exact qE "name" i (fb (by rw [bad, n, Bool.true_or])) d H6 (s45.free n6) (s45.trans s6) e6
          · have n : (!IsName k) = false := by
              have n : ¬ (!IsName k) = true := n
              simpa using n
            refine ⟨_, rfl, _, rfl, _, rfl, _, rfl, a, _, rfl, SqA.same (.inr hs) s45, fun p H6 s6 hp => ?_⟩
            rw [cutA (Nat.le_of_lt hi)] at hp
            refine ⟨p, _, rfl, hp, rfl, flatStr _, _, rfl, ?_⟩
            have e : (if false = true then !inV (V.str k) ((ks.take i).map V.str) else inV (V.str k) ((ks.take i).map V.str)) = decide (k ∈ ks.take i) := by rw [if_neg Bool.false_ne_true, inStr]
            rw [e]
            have s46 := s45.trans s6
            refine ite2 (fun m => ?_) (fun m => ?_)
            · have m : decide (k ∈ ks.take i) = true := m
              refine ⟨_, rfl, rfl, fun d H7 n7 s7 e7 => ?_⟩
              exact qE "name" i (fb (by rw [bad, m, Bool.or_true])) d H7 (s46.free n7) (s46.trans s7) e7
            · have m : decide (k ∈ ks.take i) = false := by simpa using m
              refine ⟨_, _, rfl, s46, fun j hj => ?_⟩
              rcases Nat.lt_succ_iff_lt_or_eq.mp hj with hj | rfl
              · exact okj j hj
              · rw [bad, n, m]
                rfl
        · rintro σ H3 ⟨x1, x2, rfl, s3, okj⟩
          rw [List.length_map] at okj
          refine q0 ?_ H3 s3
          unfold kindsBad
          rw [if_pos ⟨g1, g2⟩, firstBad_none okj]
          rfl
    · have e : (!decide ((ks.length : Int) ≤ 12)) = true := by rw [decide_eq_false (by omega)]; rfl
      show if (!decide ((ks.length : Int) ≤ 12)) = true then _ else _
      rw [e]
      exact iteT ⟨_, rfl, rfl, fun d H2 n1 s1 e1 => qE "count" (-1) (cnt fun z => g2 z.2) d H2 n1 s1 e1⟩
  · have g1 : ¬ 1 ≤ ks.length := fun z => c1 (decide_eq_true (by show (1 : Int) ≤ (ks.length : Int); omega))
    refine ⟨_, rfl, iteT ⟨_, rfl, rfl, fun d H2 n1 s1 e1 => qE "count" (-1) (cnt fun z => g1 z.1) d H2 n1 s1 e1⟩⟩
end
end L2.Und
end

section
set_option Elab.async false
set_option linter.all false
set_option maxRecDepth 100000
set_option maxHeartbeats 4000000
namespace L2.Und
open PySem PySem.Spec PyProof.Rows _root_.Und
open L2.KS
open PySem.W (findIn keepIn typeIn subIn)
/-! ### check_pairs of the program -/
abbrev sCheckP : Stmt := topS 24
theorem scCheckP : FnScope ["kinds", "pairs", "at", "pair"] ["kinds", "pairs"] (defScope sCheckP) := ⟨rfl, rfl, rfl, by decide +kernel, rfl, by decide +kernel, by decide +kernel⟩
def spCheckP (K : PySem.W.Frag) (C : Addr) : Sp := fun vs H Q E => ∃ (a b : Addr) (ks : List Str) (ps : RL), vs = [.ref a, .ref b] ∧ SqA K H a (ks.map V.str) ∧ SqA K H b (ps.map fun e => V.ref e.1) ∧ (∀ e ∈ ps, SqA K H e.1 (e.2.map V.str)) ∧
  (pairsBad ks (ps.map (·.2)) = none → ∀ H', Same H H' → Q .non H') ∧
  ∀ i : Nat, pairsBad ks (ps.map (·.2)) = some i → ∀ (d : Addr) (H' : Hp), H d = none → Same H H' → H' d = some (.xd [("at", .int (i : Int)), ("word", .str "pair")]) → E (.ref C) (some d) H'
section
variable {P : Program} {w : World} {K : PySem.W.Frag} {mg : Str → Option Value} {base : Heap}
theorem okCheckP {f fN C : Addr} {fd fdN : FuncData} (F : Fun K "check_pairs" "check_pairs" sCheckP f fd) (T : Two2 P w K mg base "InvalidTable" "word" "at" C)
    (GN : FnOk P w K mg base CX0 1 fN fdN ["pair", "kinds"] (spIsPair K)) (mN : mg "is_pair" = some (.ref fN)) (kN : keepIn K (.ref fN) = true) (bN : Binds K fdN ["pair", "kinds"] [])
    (mE : mg "enumerate" = none) : FnOk P w K mg base (L2.CX P w) 3 f fd ["kinds", "pairs"] (spCheckP K C) := by
  refine F.okX scCheckP (fun vs H Q E h => ?_) (fun cdv A outer s H vs Q E hr h => ?_)
  · obtain ⟨a, b, ks, ps, rfl, _⟩ := h
    rfl
  have hr1 : Room 1 (A.deeper (envOfC "check_pairs" (defScope sCheckP) s.heap.objs.size f cdv)) := hr.mono (by decide)
  obtain ⟨fI, fdI, iC, tI, FI, bI⟩ := T.run
  refine ⟨_, pss_one (ps_for PassesOwn.leaving rfl (pi_enumA rfl mE (pa_cons (pv 1) pa_nil)) (pg_tup rfl (pgs_cons (pg_name (i := 2) scCheckP.nd rfl (Or.inl rfl)) (pgs_cons (pg_name (i := 3) scCheckP.nd rfl (Or.inl rfl)) pgs_nil)))
      (pss_one (ps_if (pt_not (pt_val (pe_call GN hr1 rfl mN kN bN .nil pass0 (pa_cons (pv 3) (pa_cons (pv 0) pa_nil)))))
        (pss_one (ps_raise rfl (takes_of rfl rfl rfl rfl) (pmkErr T.T T.ty iC tI FI hr bI (by decide) rfl T.g (pa_cons pe_str (pa_cons (pv 2) pa_nil))))) pss_nil))), ?_⟩
  obtain ⟨a, b, ks, ps, rfl, hk, hb, hps, q0, qE⟩ := h
  rcases hb with hs | hs
  · refine .inl ⟨_, rfl, b, _, rfl, hs, for_it (walk_enum (K := K) (a := b) (xs := ps.map fun e => V.ref e.1)) (fun i σ H' => ∃ x1 x2 : Option V, σ = [some (.ref a), some (.ref b), x1, x2] ∧ Same H H' ∧ ∀ j, j < i → pairBadAt ks (ps.map (·.2)) j = false) ⟨_, _, rfl, Same.refl H, fun j z => absurd z (Nat.not_lt_zero j)⟩
      (fun i σ H' _ ⟨_, _, _, s, _⟩ => s.seq hs) ?_ ?_⟩
    · rintro i x σ H3 H4 hi ⟨x1, x2, rfl, s3, okj⟩ ⟨T0, y1, y2, rfl, hT, rfl, e1, e2⟩
      rw [List.length_map] at hi
      obtain ⟨e, he, rfl⟩ : ∃ e, ps[i]? = some e ∧ y2 = V.ref e.1 := by
        have y3 : (ps.map fun e => V.ref e.1)[i]? = some y2 := e2
        rw [List.getElem?_map] at y3
        cases q : ps[i]? with
        | none => rw [q] at y3; cases y3
        | some z => rw [q] at y3; exact ⟨z, rfl, (Option.some.inj y3).symm⟩
      obtain rfl : y1 = V.int (i : Nat) := (Option.some.inj e1).symm
      have s4 := s3.trans (sameNew (o := .tup [V.int (i : Nat), V.ref e.1]) hT)
      refine ⟨T0, _, rfl, SqT.of upd_same, rfl, _, _, rfl, _, _, rfl, rfl, ?_⟩
      have bad : pairBadAt ks (ps.map (·.2)) i = !isPr ks e.2 := by
        unfold pairBadAt
        rw [List.getElem?_map, he]
        rfl
      refine ⟨_, rfl, _, rfl, e.1, a, e.2, ks, rfl, SqA.same (hps e (List.mem_of_getElem? he)) s4, SqA.same hk s4, ⟨_, rfl, ?_⟩⟩
      refine ite2 (fun n => ?_) (fun n => ?_)
      · have n : (!isPr ks e.2) = true := n
        refine ⟨_, rfl, rfl, fun d H6 n6 s6 e6 => ?_⟩
        exact qE i (pairsBad_at (by rw [List.length_map]; exact hi) (by rw [bad, n]) okj) d H6 (s4.free n6) (s4.trans s6) e6
      · have n : (!isPr ks e.2) = false := by
          have n : ¬ (!isPr ks e.2) = true := n
          simpa using n
        refine ⟨_, _, rfl, s4, fun j hj => ?_⟩
        rcases Nat.lt_succ_iff_lt_or_eq.mp hj with hj | rfl
        · exact okj j hj
        · rw [bad, n]
    · rintro σ H3 ⟨x1, x2, rfl, s3, okj⟩
      rw [List.length_map] at okj
      exact q0 (pairsBad_none (by rw [List.length_map]; exact okj)) H3 s3
  · refine .inr ⟨_, rfl, b, _, rfl, hs, for_it (walkEt (K := K) (a := b) (xs := ps.map fun e => V.ref e.1)) (fun i σ H' => ∃ x1 x2 : Option V, σ = [some (.ref a), some (.ref b), x1, x2] ∧ Same H H' ∧ ∀ j, j < i → pairBadAt ks (ps.map (·.2)) j = false) ⟨_, _, rfl, Same.refl H, fun j z => absurd z (Nat.not_lt_zero j)⟩
      (fun i σ H' _ ⟨_, _, _, s, _⟩ => Same.tup s hs) ?_ ?_⟩
    · rintro i x σ H3 H4 hi ⟨x1, x2, rfl, s3, okj⟩ ⟨T0, y1, y2, rfl, hT, rfl, e1, e2⟩
      rw [List.length_map] at hi
      obtain ⟨e, he, rfl⟩ : ∃ e, ps[i]? = some e ∧ y2 = V.ref e.1 := by
        have y3 : (ps.map fun e => V.ref e.1)[i]? = some y2 := e2
        rw [List.getElem?_map] at y3
        cases q : ps[i]? with
        | none => rw [q] at y3; cases y3
        | some z => rw [q] at y3; exact ⟨z, rfl, (Option.some.inj y3).symm⟩
      obtain rfl : y1 = V.int (i : Nat) := (Option.some.inj e1).symm
      have s4 := s3.trans (sameNew (o := .tup [V.int (i : Nat), V.ref e.1]) hT)
      refine ⟨T0, _, rfl, SqT.of upd_same, rfl, _, _, rfl, _, _, rfl, rfl, ?_⟩
      have bad : pairBadAt ks (ps.map (·.2)) i = !isPr ks e.2 := by
        unfold pairBadAt
        rw [List.getElem?_map, he]
        rfl
      refine ⟨_, rfl, _, rfl, e.1, a, e.2, ks, rfl, SqA.same (hps e (List.mem_of_getElem? he)) s4, SqA.same hk s4, ⟨_, rfl, ?_⟩⟩
      refine ite2 (fun n => ?_) (fun n => ?_)
      · have n : (!isPr ks e.2) = true := n
        refine ⟨_, rfl, rfl, fun d H6 n6 s6 e6 => ?_⟩
        exact qE i (pairsBad_at (by rw [List.length_map]; exact hi) (by rw [bad, n]) okj) d H6 (s4.free n6) (s4.trans s6) e6
      · have n : (!isPr ks e.2) = false := by
          have n : ¬ (!isPr ks e.2) = true := n
          simpa using n
        refine ⟨_, _, rfl, s4, fun j hj => ?_⟩
        rcases Nat.lt_succ_iff_lt_or_eq.mp hj with hj | rfl
        · exact okj j hj
        · rw [bad, n]
    · rintro σ H3 ⟨x1, x2, rfl, s3, okj⟩
      rw [List.length_map] at okj
      exact q0 (pairsBad_none (by rw [List.length_map]; exact okj)) H3 s3
end
end L2.Und
end

section
set_option Elab.async false
set_option linter.all false
set_option maxRecDepth 100000
set_option maxHeartbeats 4000000
namespace L2.Und
open PySem PySem.Spec PyProof.Rows _root_.Und
open L2.KS
open PySem.W (dataLe dataLt AllAlike Sortable)
/-! ### texts and pairs of texts in order: what sorted(..) makes of them depends on what is in them alone -/
theorem cpsInj {x y : Str} (h : x.cps.toList = y.cps.toList) : x = y := by
  obtain ⟨a⟩ := x
  obtain ⟨b⟩ := y
  exact congrArg Str.mk (Array.toList_inj.mp h)
def leS (x y : Str) : Bool := !strLt y x
theorem leS_iff {x y : Str} : leS x y = true ↔ x.cps.toList ≤ y.cps.toList := by
  unfold leS strLt
  rw [Bool.not_eq_true', decide_eq_false_iff_not]
  exact Iff.rfl
theorem leS_trans (a b c : Str) (h1 : leS a b = true) (h2 : leS b c = true) : leS a c = true := leS_iff.mpr (List.le_trans (leS_iff.mp h1) (leS_iff.mp h2))
theorem leS_total (a b : Str) : (leS a b || leS b a) = true := by
  rw [Bool.or_eq_true]
  exact (List.le_total a.cps.toList b.cps.toList).imp leS_iff.mpr leS_iff.mpr
theorem leS_anti {a b : Str} (h1 : leS a b = true) (h2 : leS b a = true) : a = b := cpsInj (List.le_antisymm (leS_iff.mp h1) (leS_iff.mp h2))
theorem leS_self (a : Str) : leS a a = true := by
  have := leS_total a a
  rwa [Bool.or_self] at this
def leP (p q : Str × Str) : Bool := if p.1 = q.1 then leS p.2 q.2 else leS p.1 q.1
theorem leP_total (a b : Str × Str) : (leP a b || leP b a) = true := by
  unfold leP
  by_cases h : a.1 = b.1
  · rw [if_pos h, if_pos h.symm]
    exact leS_total _ _
  · rw [if_neg h, if_neg (fun e => h e.symm)]
    exact leS_total _ _
theorem leP_trans (a b c : Str × Str) (h1 : leP a b = true) (h2 : leP b c = true) : leP a c = true := by
  unfold leP at *
  by_cases x : a.1 = b.1 <;> by_cases y : b.1 = c.1
  · rw [if_pos x] at h1
    rw [if_pos y] at h2
    rw [if_pos (x.trans y)]
    exact leS_trans _ _ _ h1 h2
  · rw [if_neg y] at h2
    rw [if_neg (by rw [x]; exact y), x]
    exact h2
  · rw [if_neg x] at h1
    rw [if_neg (by rw [← y]; exact x), ← y]
    exact h1
  · rw [if_neg x] at h1
    rw [if_neg y] at h2
    by_cases z : a.1 = c.1
    · exact absurd (leS_anti h1 (by rw [z]; exact h2)) x
    · rw [if_neg z]
      exact leS_trans _ _ _ h1 h2
theorem leP_anti {a b : Str × Str} (h1 : leP a b = true) (h2 : leP b a = true) : a = b := by
  unfold leP at *
  by_cases x : a.1 = b.1
  · rw [if_pos x] at h1
    rw [if_pos x.symm] at h2
    exact Prod.ext x (leS_anti h1 h2)
  · rw [if_neg x] at h1
    rw [if_neg (fun e => x e.symm)] at h2
    exact absurd (leS_anti h1 h2) x
def srtTxt (l : List Str) : List Str := l.mergeSort leS
theorem srt_txt (l : List Str) : srt (l.map sD) = (srtTxt l).map sD := by
  unfold srtTxt
  refine (List.map_mergeSort fun a _ b _ => ?_).symm
  rw [le_str]
  rfl
theorem srt_txt1 (l : List Str) : (srt (l.map sD)).map (·.1) = (srtTxt l).map V.str := by
  rw [srt_txt, List.map_map]
  rfl
theorem srtTxt_perm (l : List Str) : (srtTxt l).Perm l := List.mergeSort_perm _ _
theorem srtTxt_pw (l : List Str) : (srtTxt l).Pairwise fun a b => leS a b = true := List.pairwise_mergeSort leS_trans leS_total l
theorem srtTxt_of {l m : List Str} (p : m.Perm l) (s : m.Pairwise fun a b => leS a b = true) : m = srtTxt l := List.Perm.eq_of_pairwise (fun _ _ _ _ => leS_anti) s (srtTxt_pw l) (p.trans (srtTxt_perm l).symm)
theorem srtTxt_eq {l m : List Str} (p : m.Perm l) : srtTxt m = srtTxt l := srtTxt_of ((srtTxt_perm m).trans p) (srtTxt_pw m)
theorem mem_srtTxt {l : List Str} {x : Str} : x ∈ srtTxt l ↔ x ∈ l := (srtTxt_perm l).mem_iff
theorem len_srtTxt (l : List Str) : (srtTxt l).length = l.length := (srtTxt_perm l).length_eq
/-- each once -/
def onceL {α : Type} [DecidableEq α] : List α → List α
  | [] => []
  | x :: l => if x ∈ onceL l then onceL l else x :: onceL l
theorem mem_onceL {α : Type} [DecidableEq α] {x : α} : ∀ {l : List α}, x ∈ onceL l ↔ x ∈ l
  | [] => Iff.rfl
  | y :: l => by
    have ih := mem_onceL (x := x) (l := l)
    unfold onceL
    by_cases h : y ∈ onceL l
    · rw [if_pos h, ih, List.mem_cons]
      exact ⟨.inr, fun z => z.elim (fun e => e ▸ mem_onceL.mp h) id⟩
    · rw [if_neg h, List.mem_cons, List.mem_cons, ih]
theorem nd_onceL {α : Type} [DecidableEq α] : ∀ l : List α, (onceL l).Nodup
  | [] => List.nodup_nil
  | y :: l => by
    unfold onceL
    by_cases h : y ∈ onceL l
    · rw [if_pos h]
      exact nd_onceL l
    · rw [if_neg h]
      exact List.nodup_cons.mpr ⟨h, nd_onceL l⟩
def srtPairs (l : List (Str × Str)) : List (Str × Str) := l.mergeSort leP
theorem srtPairs_perm (l : List (Str × Str)) : (srtPairs l).Perm l := List.mergeSort_perm _ _
theorem srtPairs_pw (l : List (Str × Str)) : (srtPairs l).Pairwise fun a b => leP a b = true := List.pairwise_mergeSort leP_trans leP_total l
theorem srtPairs_of {l m : List (Str × Str)} (p : m.Perm l) (s : m.Pairwise fun a b => leP a b = true) : m = srtPairs l := List.Perm.eq_of_pairwise (fun _ _ _ _ => leP_anti) s (srtPairs_pw l) (p.trans (srtPairs_perm l).symm)
theorem srtPairs_eq {l m : List (Str × Str)} (p : m.Perm l) : srtPairs m = srtPairs l := srtPairs_of ((srtPairs_perm m).trans p) (srtPairs_pw m)
/-- the pairs of a table -/
def pairsOf (ps : List (Str × Str)) : List (Str × Str) := srtPairs (onceL (ps.map asc))
theorem mem_pairsOf {ps : List (Str × Str)} {p : Str × Str} : p ∈ pairsOf ps ↔ ∃ q ∈ ps, p = asc q := by
  unfold pairsOf
  rw [(srtPairs_perm _).mem_iff, mem_onceL, List.mem_map]
  exact ⟨fun ⟨q, h, e⟩ => ⟨q, h, e.symm⟩, fun ⟨q, h, e⟩ => ⟨q, h, e.symm⟩⟩
theorem nd_pairsOf (ps : List (Str × Str)) : (pairsOf ps).Nodup := (srtPairs_perm _).nodup_iff.mpr (nd_onceL _)
theorem pairsOf_pw (ps : List (Str × Str)) : (pairsOf ps).Pairwise fun a b => leP a b = true := srtPairs_pw _
theorem pairsOf_of {ps M : List (Str × Str)} (nd : M.Nodup) (mem : ∀ p, p ∈ M ↔ ∃ q ∈ ps, p = asc q) (s : M.Pairwise fun a b => leP a b = true) : M = pairsOf ps :=
  List.Perm.eq_of_pairwise (fun _ _ _ _ => leP_anti) s (pairsOf_pw ps) ((List.perm_ext_iff_of_nodup nd (nd_pairsOf ps)).mpr fun p => (mem p).trans mem_pairsOf.symm)
theorem pairsOf_eq {ps qs : List (Str × Str)} (h : ∀ p, (∃ q ∈ ps, p = asc q) ↔ ∃ q ∈ qs, p = asc q) : pairsOf ps = pairsOf qs := pairsOf_of (nd_pairsOf ps) (fun p => mem_pairsOf.trans (h p)) (pairsOf_pw ps)
/-! ### .. as keys -/
def kOf (p : Str × Str) : List Key := [.inr p.1, .inr p.2]
theorem kOf_inj {p q : Str × Str} (h : kOf p = kOf q) : p = q := by
  obtain ⟨a, b⟩ := p
  obtain ⟨c, d⟩ := q
  cases h
  rfl
def unk : List Key → Str × Str
  | [.inr x, .inr y] => (x, y)
  | _ => ("", "")
theorem keyData_inj : ∀ {k l : Key}, keyData k = keyData l → k = l
  | .inl _, .inl _, h => by cases h; rfl
  | .inr _, .inr _, h => by cases h; rfl
theorem tupData_inj {k l : List Key} (h : tupData k = tupData l) : k = l := by
  have h : k.map keyData = l.map keyData := by
    unfold tupData at h
    exact PyData.tuple.inj h
  exact List.map_inj_right (fun _ _ => keyData_inj) |>.mp h
theorem le_keys (a b : Addr) (p q : Str × Str) : dataLe false (·.2) (rowD (a, kOf p)) (rowD (b, kOf q)) = leP p q := by
  show (!dataLt (.tuple [.str q.1, .str q.2]) (.tuple [.str p.1, .str p.2])) = _
  rw [PySem.W.dataLt_pair (by simp [PySem.W.alike]) (by simp [PySem.W.alike]), PySem.W.dataLt_str, PySem.W.dataLt_str]
  simp only [PyData.eqv, beq_iff_eq]
  unfold leP leS strLt
  by_cases h : q.1 = p.1
  · rw [if_pos h, if_pos h.symm]
    by_cases k : q.2 = p.2
    · rw [if_pos k, k, decide_eq_false (List.lt_irrefl _)]
    · rw [if_neg k]
  · rw [if_neg h, if_neg (fun e => h e.symm)]
theorem sorted_keys {L' M : KL} {prs : List (Str × Str)} (e : srt (L'.map rowD) = M.map rowD) (nd : (L'.map (·.2)).Nodup) (mem : ∀ k, k ∈ L'.map (·.2) ↔ ∃ q ∈ prs, k = kOf (asc q)) : M.map (·.2) = (pairsOf prs).map kOf := by
  obtain ⟨Lp, eLp⟩ : ∃ Lp : List (Addr × (Str × Str)), L' = Lp.map fun p => (p.1, kOf p.2) := by
    refine ⟨L'.map fun p => (p.1, unk p.2), ?_⟩
    rw [List.map_map]
    refine (List.map_id L').symm.trans (List.map_congr_left fun p hp => ?_)
    obtain ⟨q, _, eq⟩ := (mem p.2).mp (List.mem_map.mpr ⟨p, hp, rfl⟩)
    show p = (p.1, kOf (unk p.2))
    rw [eq]
    exact Prod.ext rfl eq
  obtain ⟨S, eS⟩ : ∃ S, S = Lp.mergeSort fun a b => leP a.2 b.2 := ⟨_, rfl⟩
  have pS : S.Perm Lp := eS ▸ List.mergeSort_perm _ _
  have e1 : srt (L'.map rowD) = S.map fun p => rowD (p.1, kOf p.2) := by
    rw [eLp, List.map_map, eS]
    exact (List.map_mergeSort fun a _ b _ => (le_keys a.1 b.1 a.2 b.2).symm).symm
  have e2 : (M.map (·.2)).map tupData = ((S.map (·.2)).map kOf).map tupData := by
    have z := congrArg (List.map (·.2)) (e.symm.trans e1)
    rw [List.map_map, List.map_map] at z
    rw [List.map_map, List.map_map, List.map_map]
    exact z
  have e3 : M.map (·.2) = (S.map (·.2)).map kOf := List.map_inj_right (fun _ _ => tupData_inj) |>.mp e2
  have keys : L'.map (·.2) = (Lp.map (·.2)).map kOf := by
    rw [eLp, List.map_map, List.map_map]
    rfl
  rw [e3]
  refine congrArg (List.map kOf) (pairsOf_of ?_ (fun p => ?_) ?_)
  · rw [(pS.map _).nodup_iff]
    rw [keys] at nd
    exact List.Pairwise.of_map kOf (fun _ _ h z => h (by rw [z])) nd
  · rw [(pS.map _).mem_iff]
    have z := mem (kOf p)
    rw [keys, List.mem_map] at z
    constructor
    · intro h
      obtain ⟨q, hq, e⟩ := z.mp ⟨p, h, rfl⟩
      exact ⟨q, hq, kOf_inj e⟩
    · rintro ⟨q, hq, rfl⟩
      obtain ⟨r, hr, e⟩ := z.mpr ⟨q, hq, rfl⟩
      exact kOf_inj e ▸ hr
  · rw [List.pairwise_map, eS]
    exact List.pairwise_mergeSort (fun a b c => leP_trans a.2 b.2 c.2) (fun a b => leP_total a.2 b.2) Lp
end L2.Und
end

section
set_option Elab.async false
set_option linter.all false
set_option maxRecDepth 100000
set_option maxHeartbeats 4000000
namespace L2.Und
open PySem PySem.Spec PyProof.Rows _root_.Und
open L2.KS
open PySem.W (findIn keepIn typeIn subIn dataLe dataLt AllAlike Sortable)
/-! ### Table.__init__ of the program -/
def clsPart (s : Stmt) (j : Nat) : Stmt := match s with
  | .ClassDef _ _ _ body _ _ _ _ _ _ _ => body.getD j (.Pass ⟨0, 0, 0, 0⟩)
  | s => s
abbrev sTabIni : Stmt := clsPart (topS 27) 0
abbrev sTabNF : Stmt := clsPart (topS 27) 11
theorem scTabIni : FnScope ["self", "kinds", "pairs", "pair", "one"] ["self", "kinds", "pairs"] (defScope sTabIni) := ⟨rfl, rfl, rfl, by decide +kernel, rfl, by decide +kernel, by decide +kernel⟩
theorem scTabNF : FnScope ["self", "one", "other"] ["self", "one"] (defScope sTabNF) := ⟨rfl, rfl, rfl, by decide +kernel, rfl, by decide +kernel, by decide +kernel⟩
/-- the kinds that a kind cannot pass -/
def stopsOf (ks : List Str) (P : List (Str × Str)) (x : Str) : List Str := ks.filter fun y => decide (asc (x, y) ∉ P)
abbrev tabFs (tk tp fr st : Addr) : List (Str × V) := [("kinds", .ref tk), ("pairs", .ref tp), ("_free", .ref fr), ("_stops", .ref st)]
/-- what a table holds -/
structure TabAt (K : PySem.W.Frag) (C o dx : Addr) (ks : List Str) (ps : List (Str × Str)) (L : KL) (SL : List (Str × Addr)) (tk tp fr st : Addr) (H : Hp) : Prop where
  good : kindsBad ks = none
  mem : ∀ p ∈ ps, p.1 ∈ ks ∧ p.2 ∈ ks ∧ p.1 ≠ p.2
  obj : H o = some (.ins C dx (tabFs tk tp fr st))
  kinds : H tk = some (.tup ((srtTxt ks).map V.str))
  pairs : H tp = some (.tup (L.map fun p => V.ref p.1))
  each : ∀ p ∈ L, H p.1 = some (.tup (p.2.map kV))
  keys : L.map (·.2) = (pairsOf ps).map kOf
  free : H fr = some (.dT (L.map fun p => (p.2, V.bl true)))
  names : SL.map (·.1) = srtTxt ks
  stops : H st = some (.dK (SL.map fun p => (.inr p.1, V.ref p.2)))
  stop : ∀ p ∈ SL, H p.2 = some (.tup ((stopsOf (srtTxt ks) (pairsOf ps) p.1).map V.str))
def twos : List (List Str) → List (Str × Str)
  | [] => []
  | [x, y] :: r => (x, y) :: twos r
  | _ :: r => twos r
def spTabIni (K : PySem.W.Frag) (C CE : Addr) : Sp := fun vs H Q E => ∃ (o a b dx : Addr) (ks : List Str) (ps : RL) (U : List (List Key)), vs = [.ref o, .ref a, .ref b] ∧ H o = some (.ins C dx []) ∧ SqA K H a (ks.map V.str) ∧ SqA K H b (ps.map fun e => V.ref e.1) ∧
  (∀ e ∈ ps, SqA K H e.1 (e.2.map V.str)) ∧ ks.length ≤ 1000 ∧ (∀ k ∈ ks, k.length ≤ 1000) ∧ U.length ≤ 75 ∧ (∀ p ∈ twos (ps.map (·.2)), kOf (asc p) ∈ U) ∧
  (kindsBad ks = none → pairsBad ks (ps.map (·.2)) = none → ∀ (H' : Hp) (tk tp fr st : Addr) (L : KL) (SL : List (Str × Addr)), (∀ c u, c ≠ o → H c = some u → H' c = some u) → TabAt K C o dx ks (twos (ps.map (·.2))) L SL tk tp fr st H' → Q .non H') ∧
  (∀ t i, kindsBad ks = some (t, i) → ∀ (d : Addr) (H' : Hp), H d = none → Same H H' → H' d = some (.xd [("at", .int i), ("word", .str t)]) → E (.ref CE) (some d) H') ∧
  (kindsBad ks = none → ∀ i : Nat, pairsBad ks (ps.map (·.2)) = some i → ∀ (d : Addr) (H' : Hp), H d = none → Same H H' → H' d = some (.xd [("at", .int (i : Int)), ("word", .str "pair")]) → E (.ref CE) (some d) H')
/-- a walk whose turns do what they do -/
theorem so_it {J : It} {n : Nat} {G : Hp → Prop} {Y : Nat → Hp → V → Hp → Prop} (w : Walk J n G Y) {step : (Hp → Prop) → V → Hp → Prop} {H : Hp} {R : Hp → Prop} (Pv : Nat → Hp → Prop) (h0 : Pv 0 H) (hG : ∀ i H, i ≤ n → Pv i H → G H)
    (hs : ∀ i x H H', i < n → Pv i H → Y i H x H' → step (Pv (i + 1)) x H') (hd : ∀ H, Pv n H → R H) :
    ∃ W : Nat → Nat → Hp → Prop, (∃ m, W 0 m H) ∧ ∀ i m H2, W i m H2 → (J.stop i H2 ∧ R H2) ∨ (J.go i H2 ∧ ∃ N : Hp → Prop, (∀ H3, N H3 → ∃ m', m' < m ∧ W (i + 1) m' H3) ∧ ∀ x H3, J.yld i H2 x H3 → step N x H3) := by
  refine ⟨fun i m H => m = n - i ∧ i ≤ n ∧ Pv i H, ⟨n, by simp, Nat.zero_le _, h0⟩, ?_⟩
  rintro i m H ⟨rfl, hi, p⟩
  have q := hG i H hi p
  by_cases hlt : i < n
  · exact .inr ⟨w.goes i H hlt q, Pv (i + 1), fun H' p' => ⟨n - (i + 1), by omega, rfl, hlt, p'⟩, fun x H' y => hs i x H H' hlt p (w.yields i H x H' hlt q y)⟩
  · have e : i = n := by omega
    subst e
    exact .inl ⟨w.stops H q, hd H p⟩
theorem nodup_le {α : Type} [DecidableEq α] : ∀ (l U : List α), l.Nodup → (∀ x ∈ l, x ∈ U) → l.length ≤ U.length
  | [], _, _, _ => Nat.zero_le _
  | x :: l, U, hn, hs => by
    have hx := hs x List.mem_cons_self
    obtain ⟨h1, h2⟩ := List.nodup_cons.mp hn
    have z := nodup_le l (U.erase x) h2 fun y hy => (List.mem_erase_of_ne fun e => h1 (by rw [← e]; exact hy)).mpr (hs y (List.mem_cons_of_mem _ hy))
    rw [List.length_erase_of_mem hx] at z
    have := List.length_pos_of_mem hx
    rw [List.length_cons]
    omega
theorem twos_ok : ∀ {qs : List (List Str)}, (∀ e ∈ qs, ∃ x y, e = [x, y]) → qs = (twos qs).map fun p => [p.1, p.2]
  | [], _ => rfl
  | e :: r, h => by
    obtain ⟨x, y, rfl⟩ := h e List.mem_cons_self
    have z := twos_ok fun e he => h e (List.mem_cons_of_mem _ he)
    show [x, y] :: r = [x, y] :: (twos r).map _
    rw [← z]
theorem pairs_two {ks : List Str} {qs : List (List Str)} (h : pairsBad ks qs = none) : ∀ e ∈ qs, ∃ x y, e = [x, y] := by
  intro e he
  obtain ⟨i, hi, hh⟩ := List.mem_iff_getElem.mp he
  have z := List.find?_eq_none.mp h i (List.mem_range.mpr hi)
  unfold pairBadAt at z
  rw [List.getElem?_eq_getElem hi, hh] at z
  match e, z with
  | [x, y], _ => exact ⟨x, y, rfl⟩
  | [], z => exact absurd rfl z
  | [_], z => exact absurd rfl z
  | _ :: _ :: _ :: _, z => exact absurd rfl z
structure KindsOk (ks : List Str) : Prop where
  low : 1 ≤ ks.length
  high : ks.length ≤ 12
  nd : ks.Nodup
  nm : ∀ k ∈ ks, IsName k = true
theorem kinds_ok {ks : List Str} (h : kindsBad ks = none) : KindsOk ks := by
  unfold kindsBad at h
  by_cases c : 1 ≤ ks.length ∧ ks.length ≤ 12
  · rw [if_pos c] at h
    have h : firstBad ks = none := by
      cases f : firstBad ks with
      | none => rfl
      | some i => rw [f] at h; cases h
    unfold firstBad at h
    rw [List.find?_eq_none] at h
    have z : ∀ j (hj : j < ks.length), IsName ks[j] = true ∧ ks[j] ∉ ks.take j := fun j hj => by
      have z := h j (List.mem_range.mpr hj)
      unfold badAt at z
      rw [List.getElem?_eq_getElem hj] at z
      simpa using z
    refine ⟨c.1, c.2, List.pairwise_iff_getElem.mpr fun i j hi hj lt e => ?_, fun k hk => ?_⟩
    · exact (z j hj).2 (by rw [← e]; exact List.mem_take_iff_getElem.mpr ⟨i, by omega, rfl⟩)
    · obtain ⟨j, hj, rfl⟩ := List.mem_iff_getElem.mp hk
      exact (z j hj).1
  · rw [if_neg c] at h
    cases h
theorem kinds_nodup {ks : List Str} (h : kindsBad ks = none) : ks.Nodup := (kinds_ok h).nd
theorem pairs_ok {ks : List Str} {prs : List (Str × Str)} (h : pairsBad ks (prs.map fun p => [p.1, p.2]) = none) : ∀ p ∈ prs, p.1 ∈ ks ∧ p.2 ∈ ks ∧ p.1 ≠ p.2 := by
  intro p hp
  obtain ⟨j, hj, rfl⟩ := List.mem_iff_getElem.mp hp
  unfold pairsBad at h
  rw [List.find?_eq_none] at h
  have z := h j (List.mem_range.mpr (by rw [List.length_map]; exact hj))
  unfold pairBadAt at z
  rw [List.getElem?_map, List.getElem?_eq_getElem hj] at z
  have z : ¬ (!(decide (prs[j].1 ≠ prs[j].2) && decide (prs[j].1 ∈ ks) && decide (prs[j].2 ∈ ks))) = true := z
  simp at z
  exact ⟨z.1.2, z.2, z.1.1⟩
theorem alike_strs (ks : List Str) : AllAlike ((ks.map sD).map (·.2)) := by
  intro d hd d' hd'
  have all : ∀ d ∈ (ks.map sD).map (·.2), ∃ z, d = PyData.str z := fun d hd => by
    obtain ⟨p, hp, rfl⟩ := List.mem_map.mp hd
    obtain ⟨k, _, rfl⟩ := List.mem_map.mp hp
    exact ⟨k, rfl⟩
  obtain ⟨z, rfl⟩ := all d hd
  obtain ⟨z', rfl⟩ := all d' hd'
  simp [PySem.W.alike]
theorem sort_strs (ks : List Str) : Sortable ((ks.map sD).map (·.2)) := by
  refine .inr fun d hd => ?_
  obtain ⟨p, hp, rfl⟩ := List.mem_map.mp hd
  obtain ⟨k, _, rfl⟩ := List.mem_map.mp hp
  exact ⟨fun z => (nomatch z), fun _ z => (nomatch z)⟩
theorem alike_pairs (L : KL) (h : ∀ p ∈ L, ∃ q : Str × Str, p.2 = kOf q) : AllAlike (L.map fun p => tupData p.2) := by
  intro d hd d' hd'
  obtain ⟨p, hp, rfl⟩ := List.mem_map.mp hd
  obtain ⟨p', hp', rfl⟩ := List.mem_map.mp hd'
  obtain ⟨q, e⟩ := h p hp
  obtain ⟨q', e'⟩ := h p' hp'
  rw [e, e']
  simp [tupData, kOf, keyData, PySem.W.alike, PySem.W.alikeAll]
/-- over a list or a tuple that stands -/
theorem or_walk {K : PySem.W.Frag} {i : Nat} {σ : St} {H : Hp} {b : Addr} {xs : List V} {R : It → Hp → Prop} (hi : σ[i]? = some (some (.ref b))) (hb : SqA K H b xs) (h : ∀ (J : It) (G : Hp → Prop), Walk J xs.length G (YAt xs) → (∀ H', Same H H' → G H') → R J H) :
    iList K (tVar i) σ H R ∨ iTup K (tVar i) σ H R := by
  rcases hb with hs | hs
  · exact .inl ⟨_, hi, b, rfl, ⟨xs, hs⟩, h _ _ walk_list fun _ s => s.seq hs⟩
  · exact .inr ⟨_, hi, b, rfl, ⟨xs, hs⟩, h _ _ walk_tup fun _ s => Same.tup s hs⟩
theorem SqA.off {K : PySem.W.Frag} {H H' : Hp} {o C dx b : Addr} {fs : List (Str × V)} {xs : List V} (hO : H o = some (.ins C dx fs)) (f : ∀ c u, c ≠ o → H c = some u → H' c = some u) (h : SqA K H b xs) : SqA K H' b xs := by
  have g : ∀ u, H b = some u → u ≠ .ins C dx fs → H' b = some u := fun u e n => f b u (fun z => n (by rw [z, hO] at e; exact (Option.some.inj e).symm)) e
  rcases h with ((h | ⟨q, h⟩) | h) | ((h | ⟨q, h⟩) | h)
  · exact .inl (.inl (.inl (g _ h (fun z => nomatch z))))
  · exact .inl (.inl (.inr ⟨q, g _ h (fun z => nomatch z)⟩))
  · exact .inl (.inr h)
  · exact .inr (.inl (.inl (g _ h (fun z => nomatch z))))
  · exact .inr (.inl (.inr ⟨q, g _ h (fun z => nomatch z)⟩))
  · exact .inr (.inr h)
/-! ### _not_free_with -/
def spNF (K : PySem.W.Frag) (C : Addr) : Sp := fun vs H Q _ => ∃ (o dx tk fr : Addr) (fs : List (Str × V)) (x : Str) (ks : List Str) (L : KL) (P : List (Str × Str)), vs = [.ref o, .str x] ∧ H o = some (.ins C dx fs) ∧ fs.lookup ("kinds" : Str) = some (V.ref tk) ∧ fs.lookup ("_free" : Str) = some (V.ref fr) ∧
  SqT K H tk (ks.map V.str) ∧ ks.length ≤ 1000 ∧ H fr = some (.dT (L.map fun p => (p.2, V.bl true))) ∧ L.map (·.2) = P.map kOf ∧ ∀ (p : Addr) (H' : Hp), H p = none → Same H H' → H' p = some (.tup ((stopsOf ks P x).map V.str)) → Q (.ref p) H'
theorem valV_keys (k : List Key) : ∀ L : KL, (valV (L.map fun p => (p.2, V.bl true)) k).isSome = true ↔ k ∈ L.map (·.2)
  | [] => Iff.intro (fun z => nomatch z) (fun z => nomatch z)
  | p :: L => by
    rw [List.map_cons, List.map_cons, List.mem_cons]
    by_cases h : p.2 = k
    · rw [valV_pos h]
      exact ⟨fun _ => .inl h.symm, fun _ => rfl⟩
    · rw [valV_neg h, valV_keys k L]
      exact ⟨.inr, fun z => z.elim (fun e => absurd e.symm h) id⟩
theorem free_key {L : KL} {P : List (Str × Str)} (h : L.map (·.2) = P.map kOf) (p : Str × Str) : (valV (L.map fun q => (q.2, V.bl true)) (kOf p)).isSome = decide (p ∈ P) := by
  have z := valV_keys (kOf p) L
  rw [h, List.mem_map] at z
  by_cases m : p ∈ P
  · rw [decide_eq_true m]
    exact z.mpr ⟨p, m, rfl⟩
  · rw [decide_eq_false m, ← Bool.not_eq_true]
    intro y
    obtain ⟨q, hq, e⟩ := z.mp y
    exact m (kOf_inj e ▸ hq)
section
variable {P : Program} {w : World} {K : PySem.W.Frag} {mg : Str → Option Value} {base : Heap}
theorem okNF {f fA C : Addr} {fd fdA : FuncData} (F : Fun K "_not_free_with" "Table._not_free_with" sTabNF f fd) (c : Cls K C) (n1 : NoAttr K C "kinds") (n3 : NoAttr K C "_free")
    (GA : FnOk P w K mg base CX0 1 fA fdA ["pair"] (spAsc K)) (mA : mg "ascending" = some (.ref fA)) (kA : keepIn K (.ref fA) = true) (bA : Binds K fdA ["pair"] []) (mT : mg "tuple" = none) : FnOk P w K mg base CX0 2 f fd ["self", "one"] (spNF K C) := by
  refine F.ok scTabNF (fun vs H Q E h => ?_) (fun cdv A outer s H vs Q E hr h => ?_)
  · obtain ⟨o, dx, tk, fr, fs, x, ks, L, P', rfl, _⟩ := h
    rfl
  have hu : (A.deeper (envOfC "Table._not_free_with" (defScope sTabNF) s.heap.objs.size f cdv)).units + 1 < cLine := by have := hr.un; omega
  refine ⟨_, pss_one (ps_ret (pe_callTy call_tuple_of rfl mT PyProof.Rows.Boot.«tuple» (pa_cons (pe_lc (own := [("other", 2)]) (g := gName 2) rfl scTabNF.nd (pi_tup (pe_fld (pv 0) rfl)) (blkOk_by (N := ["self", "one", "other"]) (sc := defScope sTabNF) (by decide +kernel))
      (fun _ _ _ _ _ => pg_name (i := 2) scTabNF.nd rfl (Or.inl rfl)) (fun _ _ _ _ _ => pts_one (pt_cmp (pc_dnotin hu (pe_call GA hr rfl mA kA bA .nil pass0 (pa_cons (pe_tup (pa_cons (pv 1) (pa_cons (pv 2) pa_nil))) pa_nil)) (show PE _ _ (tFld K (tVar 0) "_free") from pe_fld (pv 0) rfl)))) (fun _ _ _ _ _ => pv 2)) pa_nil))), ?_⟩
  obtain ⟨o, dx, tk, fr, fs, x, ks, L, P', rfl, hO, lk, lf, hk, hl, hf, kp, q⟩ := h
  refine ⟨_, rfl, o, C, dx, fs, _, rfl, hO, c, n1, lk, tk, rfl, ⟨_, hk⟩, fun D hD => ?_⟩
  refine lc_tup (xs := ks.map V.str) (fun i H' => Same H H' ∧ H' D = some (.lst ((stopsOf (ks.take i) P' x).map V.str))) ⟨sameNew hD, upd_same⟩ (fun i H' _ z => Same.tup z.1 hk) ?_ ?_
  · rintro i v H1 hv ⟨s1, d1⟩
    obtain ⟨y, hy, rfl⟩ : ∃ y, ks[i]? = some y ∧ v = V.str y := by
      rw [List.getElem?_map] at hv
      cases e : ks[i]? with
      | none => rw [e] at hv; cases hv
      | some y => rw [e] at hv; exact ⟨y, rfl, (Option.some.inj hv).symm⟩
    have tk' : ks.take (i + 1) = ks.take i ++ [y] := by rw [List.take_succ, hy]; rfl
    have short : (stopsOf (ks.take i) P' x).length ≤ 1000 := by
      have z : (stopsOf (ks.take i) P' x).length ≤ (ks.take i).length := List.length_filter_le _ _
      rw [List.length_take] at z
      omega
    refine ⟨rfl, _, rfl, _, rfl, (by show 2 ≤ sizeLine; decide), fun t ht => ?_⟩
    refine ⟨t, x, y, rfl, .inr (SqT.of upd_same), fun a H2 na s2 ea => ?_⟩
    have s02 := (s1.trans (sameNew (o := .tup [.str x, .str y]) ht)).trans s2
    have d2 := s2 _ _ ((sameNew (o := .tup [.str x, .str y]) ht) _ _ d1)
    refine ⟨_, rfl, o, C, dx, fs, _, rfl, s02 _ _ hO, c, n3, lf, fr, _, rfl, DGet.t (k := kOf (asc (x, y))) (s02 _ _ hf) ea, _, rfl, ?_⟩
    rw [free_key kp]
    unfold stopsOf at d2 ⊢
    rw [tk', List.filter_append]
    by_cases m : asc (x, y) ∈ P'
    · have e1 : List.filter (fun y => decide (asc (x, y) ∉ P')) [y] = [] := by simp [m]
      rw [decide_eq_true m, e1, List.append_nil]
      exact iteF ⟨s02, d2⟩
    · have e1 : List.filter (fun y => decide (asc (x, y) ∉ P')) [y] = [y] := by simp [m]
      rw [decide_eq_false m, e1, List.map_append]
      refine iteT ⟨_, rfl, _, d2, ?_, Same.upd s02 hD, upd_same⟩
      rw [List.length_map]
      have : (1000 : Nat) < sizeLine := by decide
      unfold stopsOf at short
      omega
  · rintro H1 ⟨s1, d1⟩
    rw [List.length_map, List.take_length] at d1
    refine ⟨D, _, rfl, .inl ⟨SqL.of d1, fun l hl1 => ?_⟩⟩
    exact q l _ (s1.free hl1) (s1.trans (sameNew hl1)) upd_same
end
section
variable {P : Program} {w : World} {K : PySem.W.Frag} {mg : Str → Option Value} {base : Heap}
theorem okTabIni {f fK fP fA fN C CE : Addr} {fd fdK fdP fdA fdN : FuncData} {dvs : List V} {kws : List (Str × V)} (F : FunD K "__init__" "Table.__init__" (defArgs sTabIni) (defBody sTabIni) (defScope sTabIni) dvs kws f fd) (c : Cls K C) (n1 : NoAttr K C "kinds") (n2 : NoAttr K C "pairs") (n3 : NoAttr K C "_free") (n4 : NoAttr K C "_stops")
    (GK : FnOk P w K mg base (L2.CX P w) 3 fK fdK ["kinds"] (spCheckK K CE)) (mK : mg "check_kinds" = some (.ref fK)) (kK : keepIn K (.ref fK) = true) (bK : Binds K fdK ["kinds"] [])
    (GP : FnOk P w K mg base (L2.CX P w) 3 fP fdP ["kinds", "pairs"] (spCheckP K CE)) (mP : mg "check_pairs" = some (.ref fP)) (kP : keepIn K (.ref fP) = true) (bP : Binds K fdP ["kinds", "pairs"] [])
    (GA : FnOk P w K mg base CX0 1 fA fdA ["pair"] (spAsc K)) (mA : mg "ascending" = some (.ref fA)) (kA : keepIn K (.ref fA) = true) (bA : Binds K fdA ["pair"] [])
    (hmN : Meth K C "_not_free_with" fN) (GN : FnOk P w K mg base CX0 2 fN fdN ["self", "one"] (spNF K C)) (bN : Binds K fdN ["self", "one"] [])
    (mT : mg "tuple" = none) (mS : mg "sorted" = none) : FnOk P w K mg base (L2.CX P w) 4 f fd ["self", "kinds", "pairs"] (spTabIni K C CE) := by
  refine F.ok scTabIni (fun vs H Q E h => ?_) (fun cdv A outer s H vs Q E hr h => ?_)
  · obtain ⟨o, a, b, dx, ks, ps, U, rfl, _⟩ := h
    rfl
  have hr1 : Room 1 (A.deeper (envOfC "Table.__init__" (defScope sTabIni) s.heap.objs.size f cdv)) := hr.mono (by decide)
  have hu : (A.deeper (envOfC "Table.__init__" (defScope sTabIni) s.heap.objs.size f cdv)).units + 64 < cLine := by have := hr.un; omega
  have bS : bootBuiltins ("sorted" : Str) = some (.builtin "sorted") := by decide +kernel
  refine ⟨_, pss_cons (ps_expr (pe_callS GK hr rfl mK kK bK (fun σ => passAt (takes_of rfl rfl rfl rfl) σ) (pa_cons (pv 1) pa_nil)))
    (pss_cons (ps_expr (pe_callS GP hr rfl mP kP bP (fun σ => passAt (takes_of rfl rfl rfl rfl) σ) (pa_cons (pv 1) (pa_cons (pv 2) pa_nil))))
    (pss_cons (ps_fld (pv 0) (pe_callTy call_tuple_of rfl mT PyProof.Rows.Boot.«tuple» (pa_cons (pe_callB (cr_sortD hu) rfl mS bS (pa_cons (pv 1) pa_nil)) pa_nil)) rfl)
    (pss_cons (ps_fld (pv 0) (pe_callTy call_tuple_of rfl mT PyProof.Rows.Boot.«tuple» (pa_cons (pe_callB (cr_sortKS rfl hu) rfl mS bS (pa_cons
        (pe_setOf (holdsK P w) (own := [("pair", 3)]) (g := gName 3) (tt := tYes) hu rfl scTabIni.nd (pi_or (pi_list (pv 2)) (pi_tup (pv 2))) (blkOk_by (N := ["self", "kinds", "pairs", "pair", "one"]) (sc := defScope sTabIni) (by decide +kernel))
          (fun _ _ _ _ _ => pg_name (i := 3) scTabIni.nd rfl (Or.inl rfl)) (fun _ _ _ _ _ => pts_nil)
          (fun _ _ _ _ _ => pe_call GA hr1 rfl mA kA bA .nil pass0 (pa_cons (pv 3) pa_nil))) pa_nil)) pa_nil)) rfl)
    (pss_cons (ps_fld (pv 0) (pe_dictT (own := [("pair", 3)]) (g := gName 3) (tt := tYes) (Nat.lt_of_le_of_lt (Nat.le_add_right _ 64) hu) rfl scTabIni.nd (pi_tup (pe_fld (pv 0) rfl)) (blkOk_by (N := ["self", "kinds", "pairs", "pair", "one"]) (sc := defScope sTabIni) (by decide +kernel))
          (fun _ _ _ _ _ => pg_name (i := 3) scTabIni.nd rfl (Or.inl rfl)) (fun _ _ _ _ _ => pts_nil)
          (fun _ _ _ _ _ => pv 3) (fun _ _ _ _ _ => pe_bl)) rfl)
    (pss_one (ps_fld (pv 0) (pe_dc (own := [("one", 4)]) (g := gName 4) (tt := tYes) rfl scTabIni.nd (pi_tup (pe_fld (pv 0) rfl)) (blkOk_by (N := ["self", "kinds", "pairs", "pair", "one"]) (sc := defScope sTabIni) (by decide +kernel))
          (fun _ _ _ _ _ => pg_name (i := 4) scTabIni.nd rfl (Or.inl rfl)) (fun _ _ _ _ _ => pts_nil)
          (fun _ _ _ _ _ => pv 4) (fun _ _ _ _ _ => pe_meth (pv 0) c hmN GN (hr.mono (by decide)) bN .nil pass0 (pa_cons (pv 4) pa_nil))) rfl)))))), ?_⟩
  obtain ⟨o, a, b, dx, ks, ps, U, rfl, hO, hk, hb, hps, hl, hkl, hU, hpU, q0, qE1, qE2⟩ := h
  refine ⟨_, rfl, a, ks, rfl, hk, by omega, (fun k hk => Nat.le_trans (hkl k hk) (by decide)), fun n0 H1 s1 => ?_, qE1⟩
  refine ⟨_, rfl, _, rfl, a, b, ks, ps, rfl, SqA.same hk s1, SqA.same hb s1, fun e he => SqA.same (hps e he) s1, fun p0 H2 s2 => ?_, fun i hi d H' n s e => qE2 n0 i hi d H' (s1.free n) (s1.trans s) e⟩
  have s12 := s1.trans s2
  have e1 : (ks.map sD).map (·.1) = ks.map V.str := by rw [List.map_map]; rfl
  refine ⟨_, rfl, a, ks.map sD, rfl, by rw [e1]; exact SqA.same hk s12, ?_, alike_strs ks, sort_strs ks, ?_, fun p hp => ?_⟩
  · intro z hz
    obtain ⟨k, _, rfl⟩ := List.mem_map.mp hz
    exact .str k
  · intro z hz
    obtain ⟨k, _, rfl⟩ := List.mem_map.mp hz
    simp [PyData.depth]
  refine ⟨p, _, rfl, .inl ⟨SqL.of upd_same, fun l hl1 => ?_⟩⟩
  have t1 := sameNew (o := .lst ((srt (ks.map sD)).map (·.1))) hp
  have t2 := sameNew (o := .tup ((srt (ks.map sD)).map (·.1))) hl1
  have s4 := (s12.trans t1).trans t2
  have lo : l ≠ o := fun z => by rw [z, (s12.trans t1) o _ hO] at hl1; cases hl1
  refine ⟨_, rfl, o, C, dx, [], rfl, s4 o _ hO, c, n1, by decide, ?_⟩
  have k4 : upd (upd H2 p (.lst ((srt (ks.map sD)).map (·.1)))) l (.tup ((srt (ks.map sD)).map (·.1))) l = some (.tup ((srtTxt ks).map V.str)) := by rw [upd_same, srt_txt1]
  generalize upd (upd H2 p (.lst ((srt (ks.map sD)).map (·.1)))) l (.tup ((srt (ks.map sD)).map (·.1))) = H4 at s4 k4
  have f5 : ∀ c u, c ≠ o → H c = some u → upd H4 o (.ins C dx (putF "kinds" (.ref l) [])) c = some u := fun c u hc e => by rw [upd_ne hc]; exact s4 c u e
  have o5 : upd H4 o (.ins C dx (putF "kinds" (.ref l) [])) o = some (.ins C dx [("kinds", .ref l)]) := upd_same
  have k5 : upd H4 o (.ins C dx (putF "kinds" (.ref l) [])) l = some (.tup ((srtTxt ks).map V.str)) := by rw [upd_ne lo]; exact k4
  generalize upd H4 o (.ins C dx (putF "kinds" (.ref l) [])) = H5 at f5 o5 k5
  have tw := twos_ok (pairs_two p0)
  obtain ⟨prs, ePrs⟩ : ∃ z, z = twos (ps.map (·.2)) := ⟨_, rfl⟩
  rw [← ePrs] at tw hpU q0
  have len : prs.length = ps.length := by
    have z := congrArg List.length tw
    rw [List.length_map, List.length_map] at z
    exact z.symm
  have atp : ∀ (i : Nat) (e : Addr × List Str), ps[i]? = some e → ∃ x y, e.2 = [x, y] ∧ prs[i]? = some (x, y) := fun i e he => by
    have z : (ps.map (·.2))[i]? = some e.2 := by rw [List.getElem?_map, he]; rfl
    rw [tw, List.getElem?_map] at z
    cases q : prs[i]? with
    | none => rw [q] at z; cases z
    | some r => rw [q] at z; exact ⟨r.1, r.2, (Option.some.inj z).symm, rfl⟩
  refine or_walk rfl (SqA.off hO f5 hb) fun J G wk gs D hD => ?_
  refine so_it wk (fun i H' => Same H5 H' ∧ ∃ L : KL, H' D = some (KSO P w D L) ∧ (∀ p ∈ L, H' p.1 = some (.tup (p.2.map kV))) ∧ (L.map (·.2)).Nodup ∧ ∀ k, k ∈ L.map (·.2) ↔ ∃ q ∈ prs.take i, k = kOf (asc q))
    ⟨sameNew hD, [], upd_same, fun _ z => (nomatch z), List.nodup_nil, fun k => ⟨fun z => (nomatch z), fun ⟨_, z, _⟩ => (nomatch z)⟩⟩ (fun i H' _ z => gs H' z.1) ?_ ?_
  · rintro i x H6 H7 hi ⟨s6, L, hD6, hL6, nd6, mem6⟩ ⟨rfl, hx⟩
    rw [List.length_map] at hi
    obtain ⟨e, he, rfl⟩ : ∃ e, ps[i]? = some e ∧ x = V.ref e.1 := by
      rw [List.getElem?_map] at hx
      cases q : ps[i]? with
      | none => rw [q] at hx; cases hx
      | some z => rw [q] at hx; exact ⟨z, rfl, (Option.some.inj hx).symm⟩
    obtain ⟨x, y, exy, eq⟩ := atp i e he
    have sq : SqA K H7 e.1 [.str x, .str y] := by
      have z := hps e (List.mem_of_getElem? he)
      rw [exy] at z
      exact SqA.same (SqA.off hO f5 z) s6
    refine ⟨rfl, _, rfl, e.1, x, y, rfl, sq, fun p H8 np s8 ep => ?_⟩
    have hD8 := s8 D _ hD6
    have hL8 : ∀ q ∈ L, H8 q.1 = some (.tup (q.2.map kV)) := fun q hq => s8 _ _ (hL6 q hq)
    have top : L.length + 1 ≤ 76 := by
      have z := nodup_le (L.map (·.2)) U nd6 fun k hk => by
        obtain ⟨q, hq, rfl⟩ := (mem6 k).mp hk
        exact hpU q (List.mem_of_mem_take hq)
      rw [List.length_map] at z
      omega
    have tk : prs.take (i + 1) = prs.take i ++ [(x, y)] := by rw [List.take_succ, eq]; rfl
    refine ⟨p, kOf (asc (x, y)), L, rfl, ep, hD8, hL8, top, fun L' c1 c2 => ⟨Same.upd (s6.trans s8) hD, L', upd_same, ?_, ?_, ?_⟩⟩
    · have each : ∀ q ∈ L', H8 q.1 = some (.tup (q.2.map kV)) := fun q hq => by
        by_cases m : kOf (asc (x, y)) ∈ L.map (·.2)
        · rw [c1 m] at hq
          exact hL8 q hq
        · rcases List.mem_cons.mp ((c2 m).mem_iff.mp hq) with rfl | hq
          · exact ep
          · exact hL8 q hq
      intro q hq
      have z := each q hq
      rw [upd_ne (fun y => by rw [y, hD8] at z; cases z)]
      exact z
    · by_cases m : kOf (asc (x, y)) ∈ L.map (·.2)
      · rw [c1 m]
        exact nd6
      · rw [((c2 m).map _).nodup_iff]
        exact List.nodup_cons.mpr ⟨m, nd6⟩
    · intro k
      rw [tk]
      have split : (∃ q ∈ prs.take i ++ [(x, y)], k = kOf (asc q)) ↔ (k = kOf (asc (x, y)) ∨ ∃ q ∈ prs.take i, k = kOf (asc q)) := by
        constructor
        · rintro ⟨q, hq, rfl⟩
          rcases List.mem_append.mp hq with hq | hq
          · exact .inr ⟨q, hq, rfl⟩
          · rw [List.mem_singleton.mp hq]
            exact .inl rfl
        · rintro (rfl | ⟨q, hq, rfl⟩)
          · exact ⟨(x, y), by simp, rfl⟩
          · exact ⟨q, List.mem_append_left _ hq, rfl⟩
      rw [split, ← mem6]
      by_cases m : kOf (asc (x, y)) ∈ L.map (·.2)
      · rw [c1 m]
        exact ⟨.inr, fun z => z.elim (fun e => e ▸ m) id⟩
      · rw [((c2 m).map _).mem_iff, List.map_cons, List.mem_cons]
  · rintro H6 ⟨s6, L, hD6, hL6, nd6, mem6⟩
    rw [List.length_map, ← len, List.take_length] at mem6
    have keyOf : ∀ k ∈ L.map (·.2), ∃ q ∈ prs, k = kOf (asc q) := fun k hk => (mem6 k).mp hk
    refine ⟨D, L, rfl, hD6, hL6, alike_pairs L fun p hp => ?_, fun p hp => ?_, fun L' p pL nd' hp => ⟨p, _, rfl, .inl ⟨SqL.of upd_same, fun l2 hl2 => ?_⟩⟩⟩
    · obtain ⟨q, _, e⟩ := keyOf _ (List.mem_map.mpr ⟨p, hp, rfl⟩)
      exact ⟨asc q, e⟩
    · obtain ⟨q, _, e⟩ := keyOf _ (List.mem_map.mpr ⟨p, hp, rfl⟩)
      rw [e]
      exact fun z => nomatch z
    obtain ⟨M, eM, pM⟩ := permLift (f := rowD) (List.mergeSort_perm (L'.map rowD) (dataLe false (·.2)))
    have eM : srt (L'.map rowD) = M.map rowD := eM
    have eF : (srt (L'.map rowD)).map (·.1) = M.map fun p => V.ref p.1 := by
      rw [eM, List.map_map]
      rfl
    have pML := pM.trans pL
    rw [eF] at hl2 ⊢
    have s8 := (s6.trans (sameNew (o := .lst (M.map fun p => V.ref p.1)) hp)).trans (sameNew (o := .tup (M.map fun p => V.ref p.1)) hl2)
    have s68 := (sameNew (o := .lst (M.map fun p => V.ref p.1)) hp).trans (sameNew (o := .tup (M.map fun p => V.ref p.1)) hl2)
    have t8 : upd (upd H6 p (.lst (M.map fun p => V.ref p.1))) l2 (.tup (M.map fun p => V.ref p.1)) l2 = some (.tup (M.map fun p => V.ref p.1)) := upd_same
    generalize upd (upd H6 p (.lst (M.map fun p => V.ref p.1))) l2 (.tup (M.map fun p => V.ref p.1)) = H8 at s8 s68 t8
    have hM8 : ∀ q ∈ M, H8 q.1 = some (.tup (q.2.map kV)) := fun q hq => s68 _ _ (hL6 q (pML.mem_iff.mp hq))
    have ndM : (M.map (·.2)).Nodup := (pML.map _).nodup_iff.mpr nd6
    have memM : ∀ k, k ∈ M.map (·.2) ↔ ∃ q ∈ prs, k = kOf (asc q) := fun k => by rw [(pML.map _).mem_iff]; exact mem6 k
    have o8 := s8 o _ o5
    refine ⟨_, rfl, o, C, dx, _, rfl, o8, c, n2, (by show 1 < 1000; decide), ?_⟩
    have lo2 : l2 ≠ o := fun z => by rw [z, o8] at t8; cases t8
    have f9 : ∀ c u, c ≠ o → H5 c = some u → upd H8 o (.ins C dx (putF "pairs" (.ref l2) [("kinds", .ref l)])) c = some u := fun c u hc e => by rw [upd_ne hc]; exact s8 c u e
    have o9 : upd H8 o (.ins C dx (putF "pairs" (.ref l2) [("kinds", .ref l)])) o = some (.ins C dx [("kinds", .ref l), ("pairs", .ref l2)]) := upd_same
    have k9 := f9 l _ lo k5
    have t9 : upd H8 o (.ins C dx (putF "pairs" (.ref l2) [("kinds", .ref l)])) l2 = some (.tup (M.map fun p => V.ref p.1)) := by rw [upd_ne lo2]; exact t8
    have m9 : ∀ q ∈ M, upd H8 o (.ins C dx (putF "pairs" (.ref l2) [("kinds", .ref l)])) q.1 = some (.tup (q.2.map kV)) := fun q hq => by
      have z := hM8 q hq
      rw [upd_ne fun y => by rw [y, o8] at z; cases z]
      exact z
    generalize upd H8 o (.ins C dx (putF "pairs" (.ref l2) [("kinds", .ref l)])) = H9 at f9 o9 k9 t9 m9
    have tup9 : SqT K H9 l2 (M.map fun p => V.ref p.1) := .inl (.inl t9)
    refine ⟨_, rfl, o, C, dx, _, .ref l2, rfl, o9, c, n2, rfl, l2, rfl, ⟨_, tup9⟩, fun D2 hD2 => ?_⟩
    have small : M.length ≤ 75 := by
      have z := nodup_le (M.map (·.2)) U ndM fun k hk => by
        obtain ⟨q, hq, rfl⟩ := (memM k).mp hk
        exact hpU q hq
      rw [List.length_map] at z
      omega
    refine so_it (walk_tup (K := K) (a := l2) (xs := M.map fun p => V.ref p.1)) (fun i H' => Same H9 H' ∧ H' D2 = some (.dT ((M.take i).map fun p => (p.2, V.bl true)))) ⟨sameNew hD2, upd_same⟩ (fun i H' _ z => Same.tup z.1 tup9) ?_ ?_
    · rintro i x H10 H11 hi ⟨s10, d10⟩ ⟨rfl, hx⟩
      rw [List.length_map] at hi
      obtain ⟨e, he, rfl⟩ : ∃ e, M[i]? = some e ∧ x = V.ref e.1 := by
        rw [List.getElem?_map] at hx
        cases q : M[i]? with
        | none => rw [q] at hx; cases hx
        | some z => rw [q] at hx; exact ⟨z, rfl, (Option.some.inj hx).symm⟩
      have tk : M.take (i + 1) = M.take i ++ [e] := by rw [List.take_succ, he]; rfl
      refine ⟨rfl, _, rfl, e.1, _, e.2, rfl, s10 _ _ (m9 e (List.mem_of_getElem? he)), d10, ?_, Same.upd s10 hD2, ?_⟩
      · rw [List.length_map, List.length_take, sizeLine_eq]
        omega
      · rw [upd_same, tk]
        have ne : ((M.take i).map fun p => (p.2, V.bl true)).any (fun kv => decide (kv.1 = e.2)) = false := by
          rw [List.any_eq_false]
          intro kv hkv z
          obtain ⟨q, hq, rfl⟩ := List.mem_map.mp hkv
          have z : q.2 = e.2 := of_decide_eq_true z
          have nd : (((M.take i) ++ [e]).map (·.2)).Nodup := by
            rw [← tk, List.map_take]
            exact ndM.sublist (List.take_sublist _ _)
          rw [List.map_append, List.nodup_append] at nd
          exact nd.2.2 q.2 (List.mem_map.mpr ⟨q, hq, rfl⟩) e.2 (by simp) z
        unfold putK
        rw [if_neg (by rw [ne]; exact Bool.false_ne_true), List.map_append]
        rfl
    · rintro H10 ⟨s10, d10⟩
      rw [List.length_map, List.take_length] at d10
      refine ⟨_, rfl, o, C, dx, _, rfl, s10 o _ o9, c, n3, (by show 2 < 1000; decide), ?_⟩
      have keysM : M.map (·.2) = (pairsOf prs).map kOf := sorted_keys eM ((pL.map _).nodup_iff.mpr nd6) fun k => by rw [(pL.map _).mem_iff]; exact mem6 k
      obtain ⟨fs1, efs⟩ : ∃ z : List (Str × V), z = [(("kinds" : Str), V.ref l), (("pairs" : Str), V.ref l2), (("_free" : Str), V.ref D2)] := ⟨_, rfl⟩
      have epf : putF "_free" (.ref D2) [(("kinds" : Str), V.ref l), (("pairs" : Str), V.ref l2)] = fs1 := by rw [efs]; rfl
      rw [epf]
      have oo : ∀ {q : Addr} {u : HO}, H10 q = some u → (∀ a b c, u ≠ .ins a b c) → q ≠ o := fun {q u} e n z => n _ _ _ (by rw [z, s10 o _ o9] at e; exact (Option.some.inj e).symm)
      have keep : ∀ {q : Addr} {u : HO}, H10 q = some u → (∀ a b c, u ≠ .ins a b c) → upd H10 o (.ins C dx fs1) q = some u := fun {q u} e n => by rw [upd_ne (oo e n)]; exact e
      have f11 : ∀ c u, c ≠ o → H c = some u → upd H10 o (.ins C dx fs1) c = some u := fun c u hc e => by
        rw [upd_ne hc]
        exact s10 _ _ (f9 c u hc (f5 c u hc e))
      have o11 : upd H10 o (.ins C dx fs1) o = some (.ins C dx fs1) := upd_same
      have k11 := keep (s10 _ _ k9) (fun _ _ _ z => nomatch z)
      have t11 := keep (s10 _ _ t9) (fun _ _ _ z => nomatch z)
      have m11 : ∀ q ∈ M, upd H10 o (.ins C dx fs1) q.1 = some (.tup (q.2.map kV)) := fun q hq => keep (s10 _ _ (m9 q hq)) (fun _ _ _ z => nomatch z)
      have d11 := keep d10 (fun _ _ _ z => nomatch z)
      generalize upd H10 o (.ins C dx fs1) = H11 at f11 o11 k11 t11 m11 d11
      have tk11 : SqT K H11 l ((srtTxt ks).map V.str) := .inl (.inl k11)
      refine ⟨_, rfl, o, C, dx, _, .ref l, rfl, o11, c, n1, (by rw [efs]; rfl), l, rfl, ⟨_, tk11⟩, fun D3 hD3 => ?_⟩
      have ndk : (srtTxt ks).Nodup := (srtTxt_perm ks).nodup_iff.mpr (kinds_nodup n0)
      have lk : (srtTxt ks).length ≤ 1000 := by rw [len_srtTxt]; exact hl
      refine dc_tup (xs := (srtTxt ks).map V.str) (fun i H' => Same H11 H' ∧ ∃ SL : List (Str × Addr), SL.map (·.1) = (srtTxt ks).take i ∧ H' D3 = some (.dK (SL.map fun p => (.inr p.1, V.ref p.2))) ∧ ∀ p ∈ SL, H' p.2 = some (.tup ((stopsOf (srtTxt ks) (pairsOf prs) p.1).map V.str)))
        ⟨sameNew hD3, [], rfl, upd_same, fun _ z => nomatch z⟩ (fun i H' _ z => Same.tup z.1 tk11) ?_ ?_
      · rintro i v H12 hv ⟨s12', SL, nm, e3, each3⟩
        obtain ⟨x, hx, rfl⟩ : ∃ x, (srtTxt ks)[i]? = some x ∧ v = V.str x := by
          rw [List.getElem?_map] at hv
          cases e : (srtTxt ks)[i]? with
          | none => rw [e] at hv; cases hv
          | some y => rw [e] at hv; exact ⟨y, rfl, (Option.some.inj hv).symm⟩
        have tk' : (srtTxt ks).take (i + 1) = (srtTxt ks).take i ++ [x] := by rw [List.take_succ, hx]; rfl
        refine ⟨rfl, _, rfl, _, rfl, o, dx, fs1, rfl, s12' _ _ o11, (by rw [efs]; rfl), _, rfl, ?_⟩
        refine ⟨o, dx, l, D2, fs1, x, srtTxt ks, M, pairsOf prs, rfl, s12' _ _ o11, (by rw [efs]; rfl), (by rw [efs]; rfl), Same.tup s12' tk11, lk, s12' _ _ d11, keysM, fun t H13 nt s13 et => ?_⟩
        have e13 := s13 _ _ e3
        have len3 : SL.length ≤ 1000 := by
          have z := congrArg List.length nm
          rw [List.length_map, List.length_take] at z
          omega
        refine ⟨_, .inr x, rfl, e13, ?_, Same.upd (s12'.trans s13) hD3, SL ++ [(x, t)], ?_, ?_, ?_⟩
        · rw [List.length_map]
          have : (1000 : Nat) < sizeLine := by decide
          omega
        · rw [List.map_append, nm, tk']
          rfl
        · rw [upd_same]
          have new : ((SL.map fun p => ((.inr p.1 : Key), V.ref p.2)).any fun kv => decide (kv.1 = .inr x)) = false := by
            rw [List.any_eq_false]
            intro kv hkv z
            obtain ⟨p, hp, rfl⟩ := List.mem_map.mp hkv
            have z : p.1 = x := Sum.inr.inj (of_decide_eq_true z)
            have nd' : ((srtTxt ks).take i ++ [x]).Nodup := by
              rw [← tk']
              exact ndk.sublist (List.take_sublist _ _)
            rw [List.nodup_append] at nd'
            exact nd'.2.2 p.1 (by rw [← nm]; exact List.mem_map.mpr ⟨p, hp, rfl⟩) x (by simp) z
          unfold putK
          rw [if_neg (by rw [new]; exact Bool.false_ne_true), List.map_append]
          rfl
        · intro p hp
          have ne : ∀ {a : Addr} {u : List V}, H13 a = some (.tup u) → a ≠ D3 := fun {a u} e z => by rw [z, e13] at e; cases e
          rcases List.mem_append.mp hp with hp | hp
          · have z := s13 _ _ (each3 p hp)
            rw [upd_ne (ne z)]
            exact z
          · rw [List.mem_singleton.mp hp, upd_ne (ne et)]
            exact et
      · rintro H12 ⟨s12', SL, nm, e3, each3⟩
        rw [List.length_map, List.take_length] at nm
        refine ⟨_, rfl, o, C, dx, _, rfl, s12' _ _ o11, c, n4, (by rw [efs]; show 3 < 1000; decide), ?_⟩
        have no : ∀ {q : Addr} {u : HO}, H12 q = some u → (∀ a b c, u ≠ .ins a b c) → q ≠ o := fun {q u} e n z => n _ _ _ (by rw [z, s12' o _ o11] at e; exact (Option.some.inj e).symm)
        have kp : ∀ {q : Addr} {u : HO}, H12 q = some u → (∀ a b c, u ≠ .ins a b c) → upd H12 o (.ins C dx (putF "_stops" (.ref D3) fs1)) q = some u := fun {q u} e n => by rw [upd_ne (no e n)]; exact e
        refine q0 n0 p0 _ l l2 D2 D3 M SL (fun q u hq e => ?_) ⟨n0, pairs_ok (by rw [← tw]; exact p0), ?_, ?_, ?_, fun q hq => ?_, keysM, ?_, nm, ?_, fun q hq => ?_⟩
        · rw [upd_ne hq]
          exact s12' _ _ (f11 q u hq e)
        · rw [upd_same, efs]
          rfl
        · exact kp (s12' _ _ k11) (fun _ _ _ z => nomatch z)
        · exact kp (s12' _ _ t11) (fun _ _ _ z => nomatch z)
        · exact kp (s12' _ _ (m11 q hq)) (fun _ _ _ z => nomatch z)
        · exact kp (s12' _ _ d11) (fun _ _ _ z => nomatch z)
        · exact kp e3 (fun _ _ _ z => nomatch z)
        · exact kp (each3 q hq) (fun _ _ _ z => nomatch z)
end
end L2.Und
end

section
set_option Elab.async false
set_option linter.all false
set_option maxRecDepth 100000
set_option maxHeartbeats 4000000
namespace L2.Und
open PySem PySem.Spec PyProof.Rows _root_.Und
open PySem.W (findIn keepIn typeIn subIn mroIn InstAt)
/-! ### special methods of own classes, by their promises -/
section
variable {X : Cx} {CX : CXT} {k : Nat} {f C : Addr} {fd : FuncData} {ps : List Str} {sp : Sp} {E : XK}
theorem relRef (a : Addr) : RelV (.ref a) (Value.ref a) := rfl
/-- a def called from below the running body -/
theorem callAt (F : FnOk X.prog X.w X.K X.mg X.base CX k f fd ps sp) (hb : Binds X.K fd ps []) (hx : Passes CX X E) {A : Around} {pins : List (Addr × Obj)} {σ : St} {H : Hp} {s : Shared} {vs : List V} {us : List Value} {Q : VK} (sb : Sub X k A)
    (I : Inv X pins σ H s) (r : Vals vs us) (h : sp vs H Q E) : wpAny (model X.prog X.w) A (call (.ref f) us) (EP X pins σ Q) X.xe s := by
  have e0 : Env0 X.prog X.w X.K X.mg X.base A X.stack s H := { I.env0 with frames := sb.fr.trans I.env0.frames }
  have hl : (us ++ []).length = ps.length := by rw [List.append_nil, ← r.length]; exact F.len _ _ _ _ h
  have bind := hb s us I.kIn hl
  rw [List.append_nil] at bind
  apply wpAny_call
  refine codeAny_mono (F.run A X.stack s H ⟨us, []⟩ us vs Q E sb.room e0 bind r h) fun res s' z => ?_
  match res, z with
  | .error e, z => exact hx pins σ H s e s' I z
  | .ok (.ret u), z => exact I.after z
/-- an instance at its place -/
theorem instOf {pins : List (Addr × Obj)} {σ : St} {H : Hp} {s : Shared} {a dx : Addr} {fs : List (Str × V)} (I : Inv X pins σ H s) (e : H a = some (.ins C dx fs)) : ∃ (ob : Obj) (od : Option Obj), InstAt s.heap a ob C od := by
  obtain ⟨_, o, _⟩ := ins_get I.hok e
  obtain ⟨od, J, _⟩ := o.look
  exact ⟨_, _, J⟩
/-- o.m(args) that gives what Q wants, for the instances of C -/
abbrev Wants (C : Addr) (sp : Sp) (E : XK) (x : V) (args : List V) (H : Hp) (Q : VK) : Prop := ∃ (a dx : Addr) (fs : List (Str × V)), x = .ref a ∧ H a = some (.ins C dx fs) ∧ sp (x :: args) H Q E
/-- x in o -/
def rInO (C : Addr) (sp : Sp) (E : XK) : R2 := fun x y H Q => Wants C sp E y [x] H fun v H' => ∃ b, v = .bl b ∧ Q (.bl b) H'
def rNotInO (C : Addr) (sp : Sp) (E : XK) : R2 := fun x y H Q => Wants C sp E y [x] H fun v H' => ∃ b, v = .bl b ∧ Q (.bl (!b)) H'
theorem op_inO (hm : Meth X.K C "__contains__" f) (F : FnOk X.prog X.w X.K X.mg X.base CX k f fd ps sp) (hr : Room k X.A) (hb : Binds X.K fd ps []) (hx : Passes CX X E) : OpR X (compareOp .In) (rInO C sp E) := by
  intro pins s σ H x y v u Q I rx ry h
  obtain ⟨a, dx, fs, rfl, e, q⟩ := h
  obtain rfl : u = Value.ref a := ry
  obtain ⟨ob, od, J⟩ := instOf I e
  obtain ⟨m, hF⟩ := I.fr
  refine PySem.W.in_K hF I.ok.mod.kin J hm.at_ hm.fn (wpAny_mono (callAt F hb hx ⟨hr, rfl⟩ I (.cons (relRef a) (.cons rx .nil)) q) (fun r s1 z => ?_) fun _ _ z => z)
  obtain ⟨_, H1, I1, r1, b, rfl, q1⟩ := z
  obtain rfl : r = Value.bool b := r1
  exact wpAny_truthy_bool ⟨.bl b, H1, I1, rfl, q1⟩
theorem op_notInO (hm : Meth X.K C "__contains__" f) (F : FnOk X.prog X.w X.K X.mg X.base CX k f fd ps sp) (hr : Room k X.A) (hb : Binds X.K fd ps []) (hx : Passes CX X E) : OpR X (compareOp .NotIn) (rNotInO C sp E) := by
  intro pins s σ H x y v u Q I rx ry h
  obtain ⟨a, dx, fs, rfl, e, q⟩ := h
  obtain rfl : u = Value.ref a := ry
  obtain ⟨ob, od, J⟩ := instOf I e
  obtain ⟨m, hF⟩ := I.fr
  refine PySem.W.notIn_K hF I.ok.mod.kin J hm.at_ hm.fn (wpAny_mono (callAt F hb hx ⟨hr, rfl⟩ I (.cons (relRef a) (.cons rx .nil)) q) (fun r s1 z => ?_) fun _ _ z => z)
  obtain ⟨_, H1, I1, r1, b, rfl, q1⟩ := z
  obtain rfl : r = Value.bool b := r1
  exact wpAny_truthy_bool ⟨.bl (!b), H1, I1, rfl, q1⟩
/-- len(o) -/
def rLenO (C : Addr) (sp : Sp) (E : XK) : List V → Hp → VK → Prop := fun xs H Q => ∃ x, xs = [x] ∧ Wants C sp E x [] H fun v H' => ∃ n : Int, v = .int n ∧ 0 ≤ n ∧ n < 2 ^ 63 ∧ Q (.int n) H'
theorem cr_lenO (hm : Meth X.K C "__len__" f) (F : FnOk X.prog X.w X.K X.mg X.base CX k f fd ps sp) (hr : Room (k + 1) X.A) (hb : Binds X.K fd ps []) (hx : Passes CX X E) : CallR X (.builtin "len") (rLenO C sp E) := by
  intro pins s σ H xs us Q I r h
  obtain ⟨x, rfl, a, dx, fs, rfl, e, q⟩ := h
  rw [Vals.ref1 r]
  obtain ⟨ob, od, J⟩ := instOf I e
  obtain ⟨m, hF⟩ := I.fr
  refine PySem.W.len_K hF I.ok.mod.kin J hm.at_ hm.fn (wpAny_mono (callAt F hb hx (Sub.in1 ⟨hr, rfl⟩) I (.cons (relRef a) .nil) q) (fun r s1 z => ?_) fun _ _ z => z)
  obtain ⟨_, H1, I1, r1, n, rfl, n0, n1, q1⟩ := z
  obtain ⟨t, rfl⟩ : ∃ t, r = Value.int n t := r1
  exact ⟨⟨n0, n1⟩, .int n, H1, I1.tok _, ⟨_, rfl⟩, q1⟩
/-- repr(o) -/
def rReprO (C : Addr) (sp : Sp) (E : XK) : List V → Hp → VK → Prop := fun xs H Q => ∃ x, xs = [x] ∧ Wants C sp E x [] H fun v H' => ∃ z : Str, v = .str z ∧ Q (.str z) H'
theorem cr_reprO (hm : Meth X.K C "__repr__" f) (F : FnOk X.prog X.w X.K X.mg X.base CX k f fd ps sp) (hr : Room (k + 1) X.A) (hb : Binds X.K fd ps []) (hx : Passes CX X E) (hu : X.A.in1.units < cLine) : CallR X (.builtin "repr") (rReprO C sp E) := by
  intro pins s σ H xs us Q I r h
  obtain ⟨x, rfl, a, dx, fs, rfl, e, q⟩ := h
  rw [Vals.ref1 r]
  obtain ⟨ob, od, J⟩ := instOf I e
  obtain ⟨m, hF⟩ := I.fr
  refine PySem.W.repr_K hu hF I.ok.mod.kin J hm.at_ hm.fn (wpAny_mono (callAt F hb hx (Sub.in1 ⟨hr, rfl⟩) I (.cons (relRef a) .nil) q) (fun r s1 z => ?_) fun _ _ z => z)
  obtain ⟨_, H1, I1, r1, n, rfl, q1⟩ := z
  obtain ⟨t, rfl⟩ : ∃ t, r = Value.str n t := r1
  exact ⟨.str n, H1, I1, ⟨_, rfl⟩, q1⟩
/-- str(o) -/
theorem cr_strO (hm : Meth X.K C "__str__" f) (F : FnOk X.prog X.w X.K X.mg X.base CX k f fd ps sp) (hr : Room (k + 2) X.A) (hb : Binds X.K fd ps []) (hx : Passes CX X E) (hu : X.A.in1.in1.units < cLine) : CallR X (.type "str") (rReprO C sp E) := by
  intro pins s σ H xs us Q I r h
  obtain ⟨x, rfl, a, dx, fs, rfl, e, q⟩ := h
  rw [Vals.ref1 r]
  obtain ⟨ob, od, J⟩ := instOf I e
  refine PySem.W.kso_call hu I.kIn J hm.at_ hm.fn (wpAny_mono (callAt F hb hx (Sub.in1 (Sub.in1 ⟨hr, rfl⟩)) I (.cons (relRef a) .nil) q) (fun r s1 z => ?_) fun _ _ z => z)
  obtain ⟨_, H1, I1, r1, n, rfl, q1⟩ := z
  obtain ⟨t, rfl⟩ : ∃ t, r = Value.str n t := r1
  exact ⟨.str n, H1, I1, ⟨_, rfl⟩, q1⟩
/-- what may stand beside an instance of C at == -/
inductive Beside (K : PySem.W.Frag) (C : Addr) (H : Hp) : V → Prop
  | non : Beside K C H .non
  | int (n : Int) : Beside K C H (.int n)
  | str (z : Str) : Beside K C H (.str z)
  | bl (b : Bool) : Beside K C H (.bl b)
  | ins {a dx : Addr} {fs : List (Str × V)} (h : H a = some (.ins C dx fs)) : Beside K C H (.ref a)
  | lst {a : Addr} {xs : List V} (h : SqL K H a xs) : Beside K C H (.ref a)
  | tup {a : Addr} {xs : List V} (h : SqT K H a xs) : Beside K C H (.ref a)
theorem notSub {K : PySem.W.Frag} {T : String} {l : List Value} (e : fastBuiltinMro T = some l) (n : ∀ C : Addr, l.contains (.ref C) = false) : PySem.W.notFirst K C (.type T) = true := by
  have z : subIn K (.type T) (.ref C) = some false := by
    show (fastBuiltinMro T).map (·.contains (.ref C)) = some false
    rw [e, Option.map_some, n]
  unfold PySem.W.notFirst
  rw [z]
  exact Bool.or_true _
theorem Beside.looks {pins : List (Addr × Obj)} {σ : St} {H : Hp} {s : Shared} {y : V} {v : Value} (h : Beside X.K C H y) (I : Inv X pins σ H s) (r : RelV y v) :
    ∃ tb, PySem.W.Looks (model X.prog X.w) s.heap (typeOf v) tb ∧ PySem.W.notFirst X.K C tb = true := by
  cases h with
  | non =>
    cases (show v = Value.none from r)
    exact ⟨.type "NoneType", .of_pure rfl, notSub (l := [.type "NoneType", .type "object"]) (by decide +kernel) fun _ => rfl⟩
  | int n =>
    obtain ⟨t, rfl⟩ : ∃ t, v = Value.int n t := r
    exact ⟨.type "int", .of_pure rfl, notSub (l := [.type "int", .type "object"]) (by decide +kernel) fun _ => rfl⟩
  | str z =>
    obtain ⟨t, rfl⟩ : ∃ t, v = Value.str z t := r
    exact ⟨.type "str", .of_pure rfl, notSub (l := [.type "str", .type "object"]) (by decide +kernel) fun _ => rfl⟩
  | bl b =>
    cases (show v = Value.bool b from r)
    exact ⟨.type "bool", .of_pure rfl, notSub (l := [.type "bool", .type "int", .type "object"]) (by decide +kernel) fun _ => rfl⟩
  | ins h =>
    rename_i a dx fs
    obtain rfl : v = Value.ref a := r
    obtain ⟨ob, od, J⟩ := instOf I h
    exact ⟨.ref C, J.type, by simp [PySem.W.notFirst]⟩
  | lst h =>
    rename_i a xs
    obtain rfl : v = Value.ref a := r
    obtain ⟨its, _, pl, _⟩ := I.list h
    obtain ⟨o, ho, hc, _⟩ := pl.isList
    exact ⟨.type "list", fun A Q E s k q => wpAny_typeOf_ref (k _ _ ho) (by rw [hc]; exact q), notSub (l := [.type "list", .type "object"]) (by decide +kernel) fun _ => rfl⟩
  | tup h =>
    rename_i a xs
    obtain rfl : v = Value.ref a := r
    obtain ⟨its, _, ⟨o, ho, hc, _⟩, _⟩ := I.tuple h
    exact ⟨.type "tuple", fun A Q E s k q => wpAny_typeOf_ref (k _ _ ho) (by rw [hc]; exact q), notSub (l := [.type "tuple", .type "object"]) (by decide +kernel) fun _ => rfl⟩
/-- o == y, o != y by the own __eq__ -/
def rEqO (K : PySem.W.Frag) (C : Addr) (sp : Sp) (E : XK) : R2 := fun x y H Q => Beside K C H y ∧ Wants C sp E x [y] H fun v H' => ∃ b, v = .bl b ∧ Q (.bl b) H'
def rNeO (K : PySem.W.Frag) (C : Addr) (sp : Sp) (E : XK) : R2 := fun x y H Q => Beside K C H y ∧ Wants C sp E x [y] H fun v H' => ∃ b, v = .bl b ∧ Q (.bl (!b)) H'
theorem op_eqO (hm : Meth X.K C "__eq__" f) (F : FnOk X.prog X.w X.K X.mg X.base CX k f fd ps sp) (hr : Room k X.A) (hb : Binds X.K fd ps []) (hx : Passes CX X E) (hu : X.A.units < cLine) : OpR X (compareOp .Eq) (rEqO X.K C sp E) := by
  intro pins s σ H x y v u Q I rx ry h
  obtain ⟨bs, a, dx, fs, rfl, e, q⟩ := h
  obtain rfl : v = Value.ref a := rx
  obtain ⟨ob, od, J⟩ := instOf I e
  obtain ⟨m, hF⟩ := I.fr
  obtain ⟨tb, lk, nf⟩ := bs.looks I ry
  refine PySem.W.cmp_ofEq (PySem.W.cmp_K hu hF I.ok.mod.kin J lk nf hm.at_ hm.fn (wpAny_mono (callAt F hb hx ⟨hr, rfl⟩ I (.cons (relRef a) (.cons ry .nil)) q) (fun r s1 z => ?_) fun _ _ z => z))
  obtain ⟨_, H1, I1, r1, b, rfl, q1⟩ := z
  obtain rfl : r = Value.bool b := r1
  exact ⟨.bl b, H1, I1, rfl, q1⟩
/-- no __ne__ of its own -/
def NoNe (K : PySem.W.Frag) (C : Addr) : Prop := findIn K (.ref C) "__ne__" = some (some (.builtin "object.__ne__")) ∧ mroIn K C (.type "object") = some true
theorem neBody {M : Model} {A : Around} {E : Value → Shared → Prop} {K : PySem.W.Frag} {s : Shared} {a : Addr} {ob : Obj} {od : Option Obj} {v : Value} {R : Fin → Shared → Prop} (hu : A.units < cLine) (hk : K.In s.heap) (J : InstAt s.heap a ob C od) (hm : Meth K C "__eq__" f)
    (h : wpAny M A (call (.ref f) [.ref a, v]) (fun r s' => ∃ b, r = .bool b ∧ R (.done (.ret (.bool (!b)))) s') E s) : wpAny M A (Builtin.«object.__ne__» ⟨[.ref a, v], []⟩) R E s := by
  unfold Builtin.«object.__ne__»
  refine wpAny_bind (m := slotArgs "__ne__" 1 ⟨[.ref a, v], []⟩) (wpAny_pure ?_)
  refine wpAny_bind (wpAny_cRoomFor hu ?_)
  refine wpAny_bind (m := callSpecialIfBound? (.ref a) "__eq__" [v]) (PySem.W.ifBound_K hk J hm.at_ hm.fn (wpAny_mono h (fun r s' z => ?_) fun _ _ z => z))
  obtain ⟨b, rfl, q⟩ := z
  exact wpAny_bind (m := truthy (.bool b)) (wpAny_truthy_bool (wpAny_pure q))
theorem op_neO (hm : Meth X.K C "__eq__" f) (hn : NoNe X.K C) (F : FnOk X.prog X.w X.K X.mg X.base CX k f fd ps sp) (hr : Room (k + 1) X.A) (hb : Binds X.K fd ps []) (hx : Passes CX X E) (hu : X.A.units + 1 < cLine) : OpR X (compareOp .NotEq) (rNeO X.K C sp E) := by
  intro pins s σ H x y v u Q I rx ry h
  obtain ⟨bs, a, dx, fs, rfl, e, q⟩ := h
  obtain rfl : v = Value.ref a := rx
  obtain ⟨ob, od, J⟩ := instOf I e
  obtain ⟨tb, lk, nf⟩ := bs.looks I ry
  have one : wpAny (model X.prog X.w) X.A (tryCompare (.ref a) "__ne__" u) (fun r s' => ∃ b, r = some (.bool b) ∧ EP X pins σ Q (.bool b) s') X.xe s := by
    unfold tryCompare
    refine wpAny_bind ?_
    simp only [callSpecialIfBound?, bindSpecialIfBound?]
    refine wpAny_holding (wpAny_bind (wpAny_bind (wpAny_bind (J.type.here ((PySem.W.looks_findIn I.kIn hn.1).here ?_)))))
    have go : wpAny (model X.prog X.w) X.A (call (.builtin "object.__ne__") ([.ref a] ++ [u]) >>= fun r => pure (some r)) (fun r s' => wpAny (model X.prog X.w) X.A (match r with | some .notImplemented | none => pure none | some v => pure (some v)) (fun r s' => ∃ b, r = some (.bool b) ∧ EP X pins σ Q (.bool b) s') X.xe s') X.xe s := by
      refine wpAny_bind (wpAny_call (codeAny_call_builtin PySem.F.cmp_object.ne.plain PySem.F.cmpEntry_ne (PySem.W.check_slot PySem.F.cmpKind_ne PySem.F.cmpSplit_ne (J.type.andThen (PySem.W.looks_mroIn I.kIn hn.2)) (PySem.F.cmpArgs_ne _ _)
        (neBody (A := X.A.in1) (by show X.A.units + 1 < cLine; exact hu) I.kIn J hm (wpAny_mono (callAt F hb hx (Sub.in1 ⟨hr, rfl⟩) I (.cons (relRef a) (.cons ry .nil)) q) (fun r s1 z => ?_) fun _ _ z => z)))))
      obtain ⟨_, H1, I1, r1, b, rfl, q1⟩ := z
      obtain rfl : r = Value.bool b := r1
      exact ⟨b, rfl, wpAny_pure (wpAny_pure ⟨!b, rfl, .bl (!b), H1, I1, rfl, q1⟩)⟩
    refine wpAny_bind (wpAny_askSetting (wpAny_ite ?_))
    split
    · exact wpAny_bind (wpAny_of_eq (PySem.F.cmp_object.ne.bind _) (wpAny_pure (by exact go)))
    · exact wpAny_tryCatch (wpAny_bind (wpAny_of_eq (PySem.F.cmp_object.ne.bind _) (wpAny_pure (by exact go))))
  refine PySem.W.cmp_ofNotEq ?_
  unfold richCompare
  simp only [oneThing_ref]
  refine wpAny_holding (wpAny_bind (wpAny_cRoomFor (by omega) (wpAny_bind (J.type.here (wpAny_bind (lk.here ?_))))))
  have last : wpAny (model X.prog X.w) X.A (tryCompare (.ref a) (cmpInfo .NotEq).2.1 u >>= fun r => match r with | some v => pure v | none => unsupported "") (EP X pins σ Q) X.xe s :=
    wpAny_bind (wpAny_mono one (fun r s' z => by obtain ⟨b, rfl, q⟩ := z; exact wpAny_pure q) fun _ _ z => z)
  split
  · rename_i ne
    have no : subIn X.K tb (.ref C) = some false := by
      rcases Bool.or_eq_true_iff.mp nf with z | z
      · rw [eq_of_beq z] at ne
        simp at ne
      · exact eq_of_beq z
    refine wpAny_bind ((PySem.W.looks_subIn I.kIn no).here ?_)
    simp only [Bool.false_eq_true, if_false]
    refine wpAny_bind (wpAny_mono one (fun r s' z => ?_) fun _ _ z => z)
    obtain ⟨b, rfl, q⟩ := z
    exact wpAny_pure q
  · refine wpAny_bind (wpAny_pure ?_)
    simp only [Bool.false_eq_true, if_false]
    refine wpAny_bind (wpAny_mono one (fun r s' z => ?_) fun _ _ z => z)
    obtain ⟨b, rfl, q⟩ := z
    exact wpAny_pure q
end
/-! ### a method called within a try -/
def tMethS (C : Addr) (m : Str) (sp : Sp) (E : St → XK) (ta : TE) (t : TA) : TE := fun σ H Q => ta σ H fun x H1 => ∃ a dx fs, x = .ref a ∧ H1 a = some (.ins C dx fs) ∧ fs.lookup m = none ∧ t σ H1 fun vs H2 => sp (x :: vs) H2 Q (E σ)
section
variable {X : Cx} {CX : CXT} {k : Nat} {f C : Addr} {fd : FuncData} {ps : List Str} {sp : Sp} {E : St → XK} {m : Str} {o e : Expr} {es : List Expr} {apos pos : Pos} {ta : TE} {t : TA}
theorem callAtS (F : FnOk X.prog X.w X.K X.mg X.base CX k f fd ps sp) (hr : Room k X.A) (hb : Binds X.K fd ps []) {pins : List (Addr × Obj)} {σ : St} (hx : PassesAt CX X σ (E σ)) {H : Hp} {s : Shared} {vs : List V} {us : List Value} {Q : VK}
    (I : Inv X pins σ H s) (r : Vals vs us) (h : sp vs H Q (E σ)) : wpAny (model X.prog X.w) X.A (call (.ref f) us) (EP X pins σ Q) X.xe s := by
  have hl : (us ++ []).length = ps.length := by rw [List.append_nil, ← r.length]; exact F.len _ _ _ _ h
  have bind := hb s us I.kIn hl
  rw [List.append_nil] at bind
  apply wpAny_call
  refine codeAny_mono (F.run X.A X.stack s H ⟨us, []⟩ us vs Q (E σ) hr I.env0 bind r h) fun res s' z => ?_
  match res, z with
  | .error e, z => exact hx pins H s e s' I z
  | .ok (.ret u), z => exact I.after z
theorem peMethS {pl : Sem Bool} (he : PE X o ta) (c : Cls X.K C) (hm : Meth X.K C m f) (F : FnOk X.prog X.w X.K X.mg X.base CX k f fd ps sp) (hr : Room k X.A) (hb : Binds X.K fd ps []) (hx : ∀ σ, PassesAt CX X σ (E σ)) (ha : PA X (e :: es) t)
    (st : starEach (e :: es) X.env = (false, eval e X.env) :: starEach es X.env := by rfl) (pn : (backTo pos (starEach es X.env)).any (·.1) = false := by rfl)
    (ht : eval (.Call (.Attribute o m apos) (e :: es) [] pos) X.env = (do
      let r ← eval o X.env
      standAt apos.atName
      let (g, first) ← holding [r] (getMethod r m pl)
      callWith pos g first (backTo pos (starEach (e :: es) X.env)) (backToKw pos (keywordEach [] X.env))) := by rfl) :
    PE X (.Call (.Attribute o m apos) (e :: es) [] pos) (tMethS C m sp E ta t) := by
  constructor
  intro pins s σ H Q I h
  refine PySem.W.methodCall_KW (pl := pl) (thn (he.run pins s σ H _ I h) fun u s1 z => ?_) ht
  obtain ⟨x, H1, I1, rx, a, dx, fs, rfl, ea, l, q⟩ := z
  obtain rfl : u = Value.ref a := rx
  apply getmeth_ok I1 ea c hm l
  refine PySem.W.callWith_K (first := [.ref a]) (h₀ := X.base) I.ok.mod.kin hm.kp (thn (ha.run pos pins s1 σ H1 _ I1 q) fun us s2 y => ?_) st pn
  obtain ⟨vs, H2, I2, r, q2⟩ := y
  exact ⟨I2.kIn, callAtS (vs := .ref a :: vs) F hr hb (hx σ) I2 (.cons (relRef a) r) q2⟩
end
end L2.Und
end

section
set_option Elab.async false
set_option linter.all false
set_option maxRecDepth 100000
set_option maxHeartbeats 4000000
namespace L2.Und
open PySem PySem.Spec PyProof.Rows _root_.Und
open L2.KS
open PySem.W (findIn keepIn typeIn subIn mroIn)
/-! ### require_kinds, free, barred of the program -/
/-- an error class of one field, as a raise wants it -/
structure Err1 (P : Program) (w : World) (K : PySem.W.Frag) (mg : Str → Option Value) (base : Heap) (X x : Str) (C : Addr) : Prop where
  g : mg X = some (.ref C)
  T : ErrC K C
  ty : typeIn K (.ref C) = some (.type "type")
  run : ∃ fI fd, findIn K (.ref C) "__init__" = some (some (.ref fI)) ∧ typeIn K (.ref fI) = some (.type "function") ∧ FnOk P w K mg base CX0 1 fI fd ["self", x] (spIni C 1 (fld1 x)) ∧ Binds K fd ["self", x] []
/-- all but lists stand as before -/
def SameL (H H' : Hp) : Prop := ∀ b u, H b = some u → (∀ xs, u ≠ .lst xs) → H' b = some u
theorem SameL.refl (H : Hp) : SameL H H := fun _ _ e _ => e
theorem SameL.of {H H' : Hp} (s : Same H H') : SameL H H' := fun b u e _ => s b u e
theorem SameL.trans {H H1 H2 : Hp} (s : SameL H H1) (t : SameL H1 H2) : SameL H H2 := fun b u e n => t b u (s b u e n) n
theorem SameL.upd {H : Hp} {a : Addr} {xs ys : List V} (e : H a = some (.lst xs)) : SameL H (L2.upd H a (.lst ys)) := fun b u eb n => by
  rw [upd_ne fun z => n xs (by rw [z, e] at eb; exact (Option.some.inj eb).symm)]
  exact eb
theorem TabAt.mono {K : PySem.W.Frag} {C o dx : Addr} {ks : List Str} {ps : List (Str × Str)} {L : KL} {SL : List (Str × Addr)} {tk tp fr st : Addr} {H H' : Hp} (T : TabAt K C o dx ks ps L SL tk tp fr st H) (s : SameL H H') : TabAt K C o dx ks ps L SL tk tp fr st H' where
  good := T.good
  mem := T.mem
  obj := s _ _ T.obj (fun _ z => nomatch z)
  kinds := s _ _ T.kinds (fun _ z => nomatch z)
  pairs := s _ _ T.pairs (fun _ z => nomatch z)
  each := fun p hp => s _ _ (T.each p hp) (fun _ z => nomatch z)
  keys := T.keys
  free := s _ _ T.free (fun _ z => nomatch z)
  names := T.names
  stops := s _ _ T.stops (fun _ z => nomatch z)
  stop := fun p hp => s _ _ (T.stop p hp) (fun _ z => nomatch z)
/-- a table, to those who read it -/
def TabR (K : PySem.W.Frag) (C o : Addr) (ks : List Str) (ps : List (Str × Str)) (H : Hp) : Prop := ∃ dx L SL tk tp fr st, TabAt K C o dx ks ps L SL tk tp fr st H
theorem TabR.mono {K : PySem.W.Frag} {C o : Addr} {ks : List Str} {ps : List (Str × Str)} {H H' : Hp} (T : TabR K C o ks ps H) (s : SameL H H') : TabR K C o ks ps H' := by
  obtain ⟨dx, L, SL, tk, tp, fr, st, h⟩ := T
  exact ⟨dx, L, SL, tk, tp, fr, st, h.mono s⟩
theorem TabR.same {K : PySem.W.Frag} {C o : Addr} {ks : List Str} {ps : List (Str × Str)} {H H' : Hp} (T : TabR K C o ks ps H) (s : Same H H') : TabR K C o ks ps H' := T.mono (.of s)
abbrev sReq : Stmt := topS 20
theorem scReq : FnScope ["table", "names", "name"] ["table", "names"] (defScope sReq) := ⟨rfl, rfl, rfl, by decide +kernel, rfl, by decide +kernel, by decide +kernel⟩
/-- the first that is no kind -/
def unkn (ks ns : List Str) : Option Str := ns.find? fun x => decide (x ∉ ks)
def spReq (K : PySem.W.Frag) (C CU : Addr) : Sp := fun vs H Q E => ∃ (o b : Addr) (ks ns : List Str) (ps : List (Str × Str)), vs = [.ref o, .ref b] ∧ TabR K C o ks ps H ∧ SqA K H b (ns.map V.str) ∧
  (unkn ks ns = none → ∀ H', Same H H' → Q .non H') ∧ ∀ x, unkn ks ns = some x → ∀ (d : Addr) (H' : Hp), H d = none → Same H H' → H' d = some (.xd [("name", .str x)]) → E (.ref CU) (some d) H'
theorem in_srt (x : Str) (ks : List Str) : inV (.str x) ((srtTxt ks).map V.str) = decide (x ∈ ks) := by
  rw [inStr]
  exact decide_eq_decide.mpr mem_srtTxt
section
variable {P : Program} {w : World} {K : PySem.W.Frag} {mg : Str → Option Value} {base : Heap}
theorem okReq {f C CU : Addr} {fd : FuncData} (F : Fun K "require_kinds" "require_kinds" sReq f fd) (T : Err1 P w K mg base "UnknownKind" "name" CU) (c : Cls K C) (n1 : NoAttr K C "kinds") :
    FnOk P w K mg base (L2.CX P w) 3 f fd ["table", "names"] (spReq K C CU) := by
  refine F.okX scReq (fun vs H Q E h => ?_) (fun cdv A outer s H vs Q E hr h => ?_)
  · obtain ⟨o, b, ks, ns, ps, rfl, _⟩ := h
    rfl
  obtain ⟨fI, fdI, iC, tI, FI, bI⟩ := T.run
  refine ⟨_, pss_one (ps_for PassesOwn.leaving rfl (pi_or (pi_list (pv 1)) (pi_tup (pv 1))) (pg_name (i := 2) scReq.nd rfl (Or.inl rfl))
      (pss_one (ps_if (pt_cmpR op_notIn_seq (pv 2) (pe_fld (pv 0) rfl) rfl)
        (pss_one (ps_raise rfl (takes_of rfl rfl rfl rfl) (pmkErr T.T T.ty iC tI FI hr bI (by decide) rfl T.g (pa_cons (pv 2) pa_nil)))) pss_nil))), ?_⟩
  obtain ⟨o, b, ks, ns, ps, rfl, ⟨dx, L, SL, tk, tp, fr, st, tab⟩, hb, q0, qE⟩ := h
  refine or_walk (i := 1) rfl hb fun J G wk gs => ?_
  refine for_it wk (fun i σ H' => ∃ x : Option V, σ = [some (.ref o), some (.ref b), x] ∧ Same H H' ∧ ∀ y ∈ ns.take i, y ∈ ks) ⟨_, rfl, Same.refl H, fun y z => by simp at z⟩ (fun i σ H' _ ⟨_, _, s, _⟩ => gs H' s) ?_ ?_
  · rintro i x σ H1 H2 hi ⟨x0, rfl, s1, ok⟩ ⟨rfl, hx⟩
    rw [List.length_map] at hi
    obtain ⟨y, hy, rfl⟩ : ∃ y, ns[i]? = some y ∧ x = V.str y := by
      rw [List.getElem?_map] at hx
      cases e : ns[i]? with
      | none => rw [e] at hx; cases hx
      | some z => rw [e] at hx; exact ⟨z, rfl, (Option.some.inj hx).symm⟩
    have T2 := tab.mono (.of s1)
    refine ⟨_, rfl, _, rfl, o, C, dx, _, _, rfl, T2.obj, c, n1, rfl, tk, _, rfl, .inr (SqT.of T2.kinds), rfl, flatStr _, _, rfl, ?_⟩
    have tk' : ns.take (i + 1) = ns.take i ++ [y] := by rw [List.take_succ, hy]; rfl
    have e : (if true = true then !inV (V.str y) ((srtTxt ks).map V.str) else inV (V.str y) ((srtTxt ks).map V.str)) = !decide (y ∈ ks) := by rw [if_pos rfl, in_srt]
    rw [e]
    by_cases m : y ∈ ks
    · rw [decide_eq_true m]
      refine iteF ⟨_, rfl, s1, fun z hz => ?_⟩
      rw [tk'] at hz
      rcases List.mem_append.mp hz with hz | hz
      · exact ok z hz
      · rw [List.mem_singleton.mp hz]
        exact m
    · rw [decide_eq_false m]
      refine iteT ⟨_, rfl, rfl, fun d H6 n6 s6 e6 => ?_⟩
      refine qE y ?_ d H6 (s1.free n6) (s1.trans s6) e6
      unfold unkn
      have sp : ns = ns.take i ++ y :: ns.drop (i + 1) := by
        have z := (List.take_append_drop (i + 1) ns).symm
        rw [tk', List.append_assoc] at z
        exact z
      rw [sp, List.find?_append, List.find?_cons_of_pos (by simpa using m)]
      have none : (ns.take i).find? (fun x => decide (x ∉ ks)) = none := List.find?_eq_none.mpr fun z hz => by simpa using ok z hz
      rw [none]
      rfl
  · rintro σ H1 ⟨x0, rfl, s1, ok⟩
    rw [List.length_map, List.take_length] at ok
    exact q0 (List.find?_eq_none.mpr fun z hz => by simpa using ok z hz) H1 s1
end
end L2.Und
end

section
set_option Elab.async false
set_option linter.all false
set_option maxRecDepth 100000
set_option maxHeartbeats 4000000
namespace L2.Und
open PySem PySem.Spec PyProof.Rows _root_.Und
open L2.KS
open PySem.W (findIn keepIn typeIn subIn mroIn specialIn takesIn isClsIn)
/-! ### free, barred, in, len, ==, repr of a table -/
def isFree (ps : List (Str × Str)) (x y : Str) : Bool := decide ((x, y) ∈ ps ∨ (y, x) ∈ ps)
theorem asc_or (p : Str × Str) : asc p = p ∨ asc p = (p.2, p.1) := by
  unfold asc
  by_cases h : strLt p.2 p.1 = true
  · rw [if_pos h]
    exact .inr rfl
  · rw [if_neg h]
    exact .inl rfl
theorem asc_swap (x y : Str) : asc (x, y) = asc (y, x) := by
  by_cases e : x = y
  · rw [e]
  unfold asc
  show (if strLt y x = true then (y, x) else (x, y)) = if strLt x y = true then (x, y) else (y, x)
  by_cases h : strLt y x = true <;> by_cases k : strLt x y = true
  · have h1 : leS x y = false := by unfold leS; rw [h]; rfl
    have h2 : leS y x = false := by unfold leS; rw [k]; rfl
    have := leS_total x y
    rw [h1, h2] at this
    cases this
  · rw [if_pos h, if_neg k]
  · rw [if_neg h, if_pos k]
  · have h1 : leS x y = true := by unfold leS; simpa using h
    have h2 : leS y x = true := by unfold leS; simpa using k
    exact absurd (leS_anti h1 h2) e
theorem free_iff (ps : List (Str × Str)) (x y : Str) : ((x, y) ∈ pairsOf ps ∨ (y, x) ∈ pairsOf ps) ↔ ((x, y) ∈ ps ∨ (y, x) ∈ ps) := by
  constructor
  · rintro (h | h)
    · obtain ⟨q, hq, e⟩ := mem_pairsOf.mp h
      rcases asc_or q with z | z
      · rw [z] at e
        exact .inl (e ▸ hq)
      · rw [z] at e
        obtain ⟨q1, q2⟩ := q
        cases e
        exact .inr hq
    · obtain ⟨q, hq, e⟩ := mem_pairsOf.mp h
      rcases asc_or q with z | z
      · rw [z] at e
        exact .inr (e ▸ hq)
      · rw [z] at e
        obtain ⟨q1, q2⟩ := q
        cases e
        exact .inl hq
  · intro h
    have m : asc (x, y) ∈ pairsOf ps := by
      rcases h with h | h
      · exact mem_pairsOf.mpr ⟨_, h, rfl⟩
      · rw [asc_swap]
        exact mem_pairsOf.mpr ⟨_, h, rfl⟩
    rcases asc_or (x, y) with z | z
    · rw [z] at m
      exact .inl m
    · rw [z] at m
      exact .inr m
theorem isFree_eq (ps : List (Str × Str)) (x y : Str) : (decide ((x, y) ∈ pairsOf ps) || decide ((y, x) ∈ pairsOf ps)) = isFree ps x y := by
  unfold isFree
  rw [← Bool.decide_or]
  exact decide_eq_decide.mpr (free_iff ps x y)
/-- what is written of the class, for isinstance and == -/
structure ClsI (K : PySem.W.Frag) (C : Addr) : Prop where
  c : Cls K C
  kls : findIn K (.ref C) "__class__" = some (some (.builtin "object.__class__"))
  hn : specialIn K (.builtin "object.__class__") "__get__" = some (some (.builtin "getset_descriptor.__get__"))
  ht : takesIn K (.builtin "object.__class__") = some true
  obj : mroIn K C (.type "object") = some true
  isc : isClsIn K C = true
  ty : typeIn K (.ref C) = some (.type "type")
theorem ClsI.self {K : PySem.W.Frag} {C : Addr} : PySem.W.kitOne K (.ref C) (.ref C) = some true := by
  unfold PySem.W.kitOne
  rw [if_pos (by simp)]
theorem ClsI.not {K : PySem.W.Frag} {C : Addr} (i : ClsI K C) {T : String} {l : List Value} (e : fastBuiltinMro T = some l) (n : ∀ C : Addr, l.contains (.ref C) = false) : PySem.W.kitOne K (.type T) (.ref C) = some false := by
  unfold PySem.W.kitOne
  rw [if_neg (by simp)]
  have q : (PySem.W.clsIn K C).isSome = true := i.isc
  show (if ((PySem.W.clsIn K C).isSome && typeIn K (.ref C) == some (.type "type")) = true then subIn K (.type T) (.ref C) else none) = some false
  rw [q, i.ty, if_pos (by decide)]
  show (fastBuiltinMro T).map (·.contains (.ref C)) = some false
  rw [e, Option.map_some, n]
/-- no instance of C, as far as the laws have such -/
inductive NoIns (H : Hp) : V → Prop
  | non : NoIns H .non
  | int (n : Int) : NoIns H (.int n)
  | str (z : Str) : NoIns H (.str z)
  | lst {a : Addr} {xs : List V} (h : H a = some (.lst xs)) : NoIns H (.ref a)
  | tup {a : Addr} {xs : List V} (h : H a = some (.tup xs)) : NoIns H (.ref a)
theorem NoIns.beside {K : PySem.W.Frag} {C : Addr} {H : Hp} {x : V} (n : NoIns H x) : Beside K C H x := by
  cases n with
  | non => exact .non
  | int n => exact .int n
  | str z => exact .str z
  | lst h => exact .lst (SqL.of h)
  | tup h => exact .tup (SqT.of h)
theorem NoIns.is {K : PySem.W.Frag} {C : Addr} {H : Hp} {x : V} (n : NoIns H x) (i : ClsI K C) : ∃ t, TyX K H x t ∧ PySem.W.kitOne K t (.ref C) = some false := by
  cases n with
  | non => exact ⟨_, .base .non, i.not (l := [.type "NoneType", .type "object"]) (by decide +kernel) fun _ => rfl⟩
  | int n => exact ⟨_, .base (.int n), i.not (l := [.type "int", .type "object"]) (by decide +kernel) fun _ => rfl⟩
  | str z => exact ⟨_, .base (.str z), i.not (l := [.type "str", .type "object"]) (by decide +kernel) fun _ => rfl⟩
  | lst h => exact ⟨_, .base (.lst h), i.not (l := [.type "list", .type "object"]) (by decide +kernel) fun _ => rfl⟩
  | tup h => exact ⟨_, .base (.tup h), i.not (l := [.type "tuple", .type "object"]) (by decide +kernel) fun _ => rfl⟩
abbrev tabM (j : Nat) : Stmt := clsPart (topS 27) j
abbrev sTabFree : Stmt := tabM 3
abbrev sTabBar : Stmt := tabM 4
abbrev sTabHas : Stmt := tabM 14
abbrev sTabLen : Stmt := tabM 13
abbrev sTabEq : Stmt := tabM 15
abbrev sTabRepr : Stmt := tabM 17
theorem scTabFree : FnScope ["self", "one", "other"] ["self", "one", "other"] (defScope sTabFree) := ⟨rfl, rfl, rfl, by decide +kernel, rfl, by decide +kernel, by decide +kernel⟩
theorem scTabBar : FnScope ["self", "one", "other"] ["self", "one", "other"] (defScope sTabBar) := ⟨rfl, rfl, rfl, by decide +kernel, rfl, by decide +kernel, by decide +kernel⟩
theorem scTabHas : FnScope ["self", "name"] ["self", "name"] (defScope sTabHas) := ⟨rfl, rfl, rfl, by decide +kernel, rfl, by decide +kernel, by decide +kernel⟩
theorem scTabLen : FnScope ["self"] ["self"] (defScope sTabLen) := ⟨rfl, rfl, rfl, by decide +kernel, rfl, by decide +kernel, by decide +kernel⟩
theorem scTabEq : FnScope ["self", "other"] ["self", "other"] (defScope sTabEq) := ⟨rfl, rfl, rfl, by decide +kernel, rfl, by decide +kernel, by decide +kernel⟩
theorem scTabRepr : FnScope ["self"] ["self"] (defScope sTabRepr) := ⟨rfl, rfl, rfl, by decide +kernel, rfl, by decide +kernel, by decide +kernel⟩
/-- a method of two names that answers, or raises for the first that is no kind -/
def spTwo (K : PySem.W.Frag) (C CU : Addr) (r : List (Str × Str) → Str → Str → Bool) : Sp := fun vs H Q E => ∃ (o : Addr) (x y : Str) (ks : List Str) (ps : List (Str × Str)), vs = [.ref o, .str x, .str y] ∧ TabR K C o ks ps H ∧
  (unkn ks [x, y] = none → ∀ H', Same H H' → Q (.bl (r ps x y)) H') ∧ ∀ z, unkn ks [x, y] = some z → ∀ (d : Addr) (H' : Hp), H d = none → Same H H' → H' d = some (.xd [("name", .str z)]) → E (.ref CU) (some d) H'
def spHas (K : PySem.W.Frag) (C : Addr) : Sp := fun vs H Q _ => ∃ (o : Addr) (x : Str) (ks : List Str) (ps : List (Str × Str)), vs = [.ref o, .str x] ∧ TabR K C o ks ps H ∧ Q (.bl (decide (x ∈ ks))) H
def spLen (K : PySem.W.Frag) (C : Addr) : Sp := fun vs H Q _ => ∃ (o : Addr) (ks : List Str) (ps : List (Str × Str)), vs = [.ref o] ∧ TabR K C o ks ps H ∧ Q (.int ks.length) H
def reprTab (n m : Nat) : Str := "Table(" ++ toString (n : Int) ++ " kinds, " ++ toString (m : Int) ++ " pairs)"
def spRepr (K : PySem.W.Frag) (C : Addr) : Sp := fun vs H Q _ => ∃ (o : Addr) (ks : List Str) (ps : List (Str × Str)), vs = [.ref o] ∧ TabR K C o ks ps H ∧ ks.length ≤ 100 ∧ (pairsOf ps).length ≤ 100 ∧ Q (.str (reprTab ks.length (pairsOf ps).length)) H
def spEqT (K : PySem.W.Frag) (C : Addr) : Sp := fun vs H Q _ => ∃ (o : Addr) (y : V) (ks : List Str) (ps : List (Str × Str)), vs = [.ref o, y] ∧ TabR K C o ks ps H ∧
  ((NoIns H y ∧ Q (.bl false) H) ∨ ∃ (b : Addr) (ks' : List Str) (ps' : List (Str × Str)), y = .ref b ∧ TabR K C b ks' ps' H ∧ Q (.bl (decide (srtTxt ks = srtTxt ks' ∧ pairsOf ps = pairsOf ps'))) H)
theorem dpStrs {K : PySem.W.Frag} {H : Hp} : ∀ l : List Str, DpAll K H (l.map V.str) (l.map PyData.str)
  | [] => .nil
  | x :: l => .cons (.str x) (dpStrs l)
theorem eqvStrs : ∀ l m : List Str, PyData.eqvAll (l.map PyData.str) (m.map PyData.str) = decide (l = m)
  | [], [] => rfl
  | [], _ :: _ => rfl
  | _ :: _, [] => rfl
  | x :: l, y :: m => by
    rw [List.map_cons, List.map_cons]
    show (PyData.eqv (.str x) (.str y) && PyData.eqvAll (l.map PyData.str) (m.map PyData.str)) = _
    rw [eqvStrs l m]
    show ((x == y) && decide (l = m)) = _
    by_cases h : x = y <;> by_cases k : l = m <;> simp [h, k]
def dPair (p : Str × Str) : PyData := .tuple [.str p.1, .str p.2]
theorem eqvPairs : ∀ l m : List (Str × Str), PyData.eqvAll (l.map dPair) (m.map dPair) = decide (l = m)
  | [], [] => rfl
  | [], _ :: _ => rfl
  | _ :: _, [] => rfl
  | x :: l, y :: m => by
    rw [List.map_cons, List.map_cons]
    show (PyData.eqv (dPair x) (dPair y) && PyData.eqvAll (l.map dPair) (m.map dPair)) = _
    rw [eqvPairs l m]
    obtain ⟨x1, x2⟩ := x
    obtain ⟨y1, y2⟩ := y
    show (((x1 == y1) && ((x2 == y2) && true)) && decide (l = m)) = _
    by_cases h : x1 = y1 <;> by_cases h2 : x2 = y2 <;> by_cases k : l = m <;> simp [h, h2, k]
theorem dpPairs {K : PySem.W.Frag} {H : Hp} : ∀ {L : KL} {P : List (Str × Str)}, L.map (·.2) = P.map kOf → (∀ p ∈ L, H p.1 = some (.tup (p.2.map kV))) → DpAll K H (L.map fun p => V.ref p.1) (P.map dPair)
  | [], [], _, _ => .nil
  | [], _ :: _, h, _ => by cases h
  | _ :: _, [], h, _ => by cases h
  | p :: L, q :: P, h, e => by
    rw [List.map_cons, List.map_cons] at h
    obtain ⟨h1, h2⟩ := List.cons.inj h
    have z := e p List.mem_cons_self
    rw [h1] at z
    exact .cons (.tup (SqT.of z) (.cons (.str q.1) (.cons (.str q.2) .nil))) (dpPairs h2 fun p hp => e p (List.mem_cons_of_mem _ hp))
theorem canStrs : ∀ l : List Str, (∀ k ∈ l, IsName k = true) → PyData.canLayAll0 (l.map PyData.str) = true
  | [], _ => by simp [PyData.canLayAll0]
  | x :: l, h => by simp [PyData.canLayAll0, PyData.canLay0, name_ok (h x List.mem_cons_self), canStrs l fun k hk => h k (List.mem_cons_of_mem _ hk)]
theorem depStrs : ∀ l : List Str, PyData.depthAll (l.map PyData.str) = 0
  | [] => by simp [PyData.depthAll]
  | x :: l => by simp [PyData.depthAll, PyData.depth, depStrs l]
theorem canPairs : ∀ l : List (Str × Str), (∀ p ∈ l, IsName p.1 = true ∧ IsName p.2 = true) → PyData.canLayAll0 (l.map dPair) = true
  | [], _ => by simp [PyData.canLayAll0]
  | x :: l, h => by
    have z := h x List.mem_cons_self
    simp [PyData.canLayAll0, PyData.canLay0, dPair, name_ok z.1, name_ok z.2, canPairs l fun k hk => h k (List.mem_cons_of_mem _ hk)]
theorem depPairs : ∀ l : List (Str × Str), PyData.depthAll (l.map dPair) ≤ 1
  | [] => by simp [PyData.depthAll]
  | x :: l => by
    have := depPairs l
    simp [PyData.depthAll, PyData.depth, dPair]
    omega
theorem shapedStrs {l : List Str} (h : ∀ k ∈ l, IsName k = true) : SeqAt.shaped (.tuple (l.map PyData.str)) = true := by
  unfold SeqAt.shaped
  simp [PyData.canLay0, canStrs l h, PyData.depth, depStrs l]
theorem shapedPairs {l : List (Str × Str)} (h : ∀ p ∈ l, IsName p.1 = true ∧ IsName p.2 = true) : SeqAt.shaped (.tuple (l.map dPair)) = true := by
  have := depPairs l
  unfold SeqAt.shaped
  simp [PyData.canLay0, canPairs l h, PyData.depth]
  omega
theorem TabAt.sNames {K : PySem.W.Frag} {C o dx : Addr} {ks : List Str} {ps : List (Str × Str)} {L : KL} {SL : List (Str × Addr)} {tk tp fr st : Addr} {H : Hp} (T : TabAt K C o dx ks ps L SL tk tp fr st H) : ∀ k ∈ srtTxt ks, IsName k = true :=
  fun k hk => (kinds_ok T.good).nm k (mem_srtTxt.mp hk)
theorem TabAt.sPairs {K : PySem.W.Frag} {C o dx : Addr} {ks : List Str} {ps : List (Str × Str)} {L : KL} {SL : List (Str × Addr)} {tk tp fr st : Addr} {H : Hp} (T : TabAt K C o dx ks ps L SL tk tp fr st H) : ∀ p ∈ pairsOf ps, IsName p.1 = true ∧ IsName p.2 = true := by
  intro p hp
  obtain ⟨q, hq, rfl⟩ := mem_pairsOf.mp hp
  obtain ⟨h1, h2, _⟩ := T.mem q hq
  have nm := (kinds_ok T.good).nm
  rcases asc_or q with z | z
  · rw [z]
    exact ⟨nm _ h1, nm _ h2⟩
  · rw [z]
    exact ⟨nm _ h2, nm _ h1⟩
theorem TabAt.fewP {K : PySem.W.Frag} {C o dx : Addr} {ks : List Str} {ps : List (Str × Str)} {L : KL} {SL : List (Str × Addr)} {tk tp fr st : Addr} {H : Hp} (T : TabAt K C o dx ks ps L SL tk tp fr st H) : L.length = (pairsOf ps).length := by
  have z := congrArg List.length T.keys
  rwa [List.length_map, List.length_map] at z
section
variable {P : Program} {w : World} {K : PySem.W.Frag} {mg : Str → Option Value} {base : Heap}
theorem okFree {f fR C CU : Addr} {fd fdR : FuncData} (F : Fun K "free" "Table.free" sTabFree f fd) (c : Cls K C) (n3 : NoAttr K C "_free")
    (GR : FnOk P w K mg base (L2.CX P w) 3 fR fdR ["table", "names"] (spReq K C CU)) (mR : mg "require_kinds" = some (.ref fR)) (kR : keepIn K (.ref fR) = true) (bR : Binds K fdR ["table", "names"] []) :
    FnOk P w K mg base (L2.CX P w) 4 f fd ["self", "one", "other"] (spTwo K C CU isFree) := by
  refine F.okX scTabFree (fun vs H Q E h => ?_) (fun cdv A outer s H vs Q E hr h => ?_)
  · obtain ⟨o, x, y, ks, ps, rfl, _⟩ := h
    rfl
  have hu : (A.deeper (envOfC "Table.free" (defScope sTabFree) s.heap.objs.size f cdv)).units + 1 < cLine := by have := hr.un; omega
  refine ⟨_, pss_cons (ps_expr (pe_callS GR hr rfl mR kR bR (fun σ => passAt (takes_of rfl rfl rfl rfl) σ) (pa_cons (pv 0) (pa_cons (pe_tup (pa_cons (pv 1) (pa_cons (pv 2) pa_nil))) pa_nil))))
    (pss_one (ps_ret (pe_or (pe_cmp (pc_din hu (pe_tup (pa_cons (pv 1) (pa_cons (pv 2) pa_nil))) (pe_fld (pv 0) rfl))) (pe_one (pe_cmp (pc_din hu (pe_tup (pa_cons (pv 2) (pa_cons (pv 1) pa_nil))) (pe_fld (pv 0) rfl))))))), ?_⟩
  obtain ⟨o, x, y, ks, ps, rfl, T0, q0, qE⟩ := h
  have two : 2 ≤ sizeLine := by decide
  refine ⟨_, rfl, _, rfl, _, rfl, two, fun t ht => ?_⟩
  have s1 := sameNew (o := .tup [.str x, .str y]) ht
  refine ⟨o, t, ks, [x, y], ps, rfl, T0.same s1, .inr (SqT.of upd_same), fun un H1 s2 => ?_, fun z hz d H' n s e => qE z hz d H' (s1.free n) (s1.trans s) e⟩
  have s12 := s1.trans s2
  obtain ⟨dx, L, SL, tk, tp, fr, st, T⟩ := T0.same s12
  refine ⟨_, rfl, _, rfl, two, fun t1 ht1 => ?_⟩
  have s3 := sameNew (o := .tup [.str x, .str y]) ht1
  have T3 := T.mono (.of s3)
  refine ⟨_, rfl, o, C, dx, _, _, rfl, T3.obj, c, n3, rfl, fr, _, rfl, DGet.t (k := kOf (x, y)) T3.free upd_same, _, rfl, ?_⟩
  have fk := fun p => free_key T3.keys p
  rw [fk]
  have s13 := s12.trans s3
  by_cases m : (x, y) ∈ pairsOf ps
  · rw [decide_eq_true m]
    refine iteT ?_
    have z := q0 un _ s13
    rw [← isFree_eq, decide_eq_true m, Bool.true_or] at z
    exact z
  · rw [decide_eq_false m]
    refine iteF ⟨_, rfl, _, rfl, two, fun t2 ht2 => ?_⟩
    have s4 := sameNew (o := .tup [.str y, .str x]) ht2
    have T4 := T3.mono (.of s4)
    refine ⟨_, rfl, o, C, dx, _, _, rfl, T4.obj, c, n3, rfl, fr, _, rfl, DGet.t (k := kOf (y, x)) T4.free upd_same, ?_⟩
    rw [fk]
    have z := q0 un _ (s13.trans s4)
    rw [← isFree_eq, decide_eq_false m, Bool.false_or] at z
    exact z
theorem okBarred {f fF C CU : Addr} {fd fdF : FuncData} (F : Fun K "barred" "Table.barred" sTabBar f fd) (c : Cls K C) (hm : Meth K C "free" fF)
    (GF : FnOk P w K mg base (L2.CX P w) 4 fF fdF ["self", "one", "other"] (spTwo K C CU isFree)) (bF : Binds K fdF ["self", "one", "other"] []) :
    FnOk P w K mg base (L2.CX P w) 5 f fd ["self", "one", "other"] (spTwo K C CU fun ps x y => !isFree ps x y && decide (x ≠ y)) := by
  refine F.okX scTabBar (fun vs H Q E h => ?_) (fun cdv A outer s H vs Q E hr h => ?_)
  · obtain ⟨o, x, y, ks, ps, rfl, _⟩ := h
    rfl
  refine ⟨_, pss_one (ps_ret (pe_and (pe_not (peMethS (pv 0) c hm GF hr bF (fun σ => passAt (takes_of rfl rfl rfl rfl) σ) (pa_cons (pv 1) (pa_cons (pv 2) pa_nil)))) (pe_one (pe_cmpR op_ne (pv 1) (pv 2) (nomark _))))), ?_⟩
  obtain ⟨o, x, y, ks, ps, rfl, T0, q0, qE⟩ := h
  obtain ⟨dx, L, SL, tk, tp, fr, st, T⟩ := id T0
  refine ⟨_, rfl, o, dx, _, rfl, T.obj, rfl, _, rfl, _, rfl, o, x, y, ks, ps, rfl, T0, fun un H1 s1 => ?_, qE⟩
  refine ⟨_, rfl, _, rfl, ?_⟩
  have z : Q (.bl (!isFree ps x y && decide (x ≠ y))) H1 := q0 un H1 s1
  cases e : isFree ps x y with
  | true =>
    rw [e] at z
    exact iteF z
  | false =>
    rw [e] at z
    refine iteT ⟨_, rfl, _, rfl, rfl, ?_⟩
    have ne : (!decide (V.str x = V.str y)) = decide (x ≠ y) := by
      by_cases h : x = y
      · subst h; simp
      · have h' : ¬ (V.str x = V.str y) := fun e => h (V.str.inj e)
        rw [decide_eq_false h', decide_eq_true h]
        rfl
    rw [ne]
    exact z
theorem okHas {f C : Addr} {fd : FuncData} (F : Fun K "__contains__" "Table.__contains__" sTabHas f fd) (c : Cls K C) (n1 : NoAttr K C "kinds") : FnOk P w K mg base CX0 1 f fd ["self", "name"] (spHas K C) := by
  refine F.ok scTabHas (fun vs H Q E h => ?_) (fun cdv A outer s H vs Q E hr h => ?_)
  · obtain ⟨o, x, ks, ps, rfl, _⟩ := h
    rfl
  refine ⟨_, pss_one (ps_ret (pe_cmpR op_in_seq (pv 1) (pe_fld (pv 0) rfl) rfl)), ?_⟩
  obtain ⟨o, x, ks, ps, rfl, ⟨dx, L, SL, tk, tp, fr, st, T⟩, q⟩ := h
  refine ⟨_, rfl, _, rfl, o, C, dx, _, _, rfl, T.obj, c, n1, rfl, tk, _, rfl, .inr (SqT.of T.kinds), rfl, flatStr _, ?_⟩
  have e : (if false = true then !inV (V.str x) ((srtTxt ks).map V.str) else inV (V.str x) ((srtTxt ks).map V.str)) = decide (x ∈ ks) := by rw [if_neg Bool.false_ne_true, in_srt]
  rw [e]
  exact q
theorem okLen {f C : Addr} {fd : FuncData} (F : Fun K "__len__" "Table.__len__" sTabLen f fd) (c : Cls K C) (n1 : NoAttr K C "kinds") (mL : mg "len" = none) : FnOk P w K mg base CX0 1 f fd ["self"] (spLen K C) := by
  refine F.ok scTabLen (fun vs H Q E h => ?_) (fun cdv A outer s H vs Q E hr h => ?_)
  · obtain ⟨o, ks, ps, rfl, _⟩ := h
    rfl
  refine ⟨_, pss_one (ps_ret (pe_callB call_len_seq rfl mL PySem.boot_len (pa_cons (pe_fld (pv 0) rfl) pa_nil))), ?_⟩
  obtain ⟨o, ks, ps, rfl, ⟨dx, L, SL, tk, tp, fr, st, T⟩, q⟩ := h
  refine ⟨_, rfl, o, C, dx, _, _, rfl, T.obj, c, n1, rfl, tk, _, rfl, .inr (SqT.of T.kinds), ?_⟩
  rw [List.length_map, len_srtTxt]
  exact q
theorem okRepr {f C : Addr} {fd : FuncData} (F : Fun K "__repr__" "Table.__repr__" sTabRepr f fd) (c : Cls K C) (n1 : NoAttr K C "kinds") (n2 : NoAttr K C "pairs") (mL : mg "len" = none) : FnOk P w K mg base CX0 1 f fd ["self"] (spRepr K C) := by
  refine F.ok scTabRepr (fun vs H Q E h => ?_) (fun cdv A outer s H vs Q E hr h => ?_)
  · obtain ⟨o, ks, ps, rfl, _⟩ := h
    rfl
  refine ⟨_, pss_one (ps_ret (pe_joined (.cons pe_str (.cons (pe_fmt (pe_callB call_len_seq rfl mL PySem.boot_len (pa_cons (pe_fld (pv 0) rfl) pa_nil))) (.cons pe_str (.cons (pe_fmt (pe_callB call_len_seq rfl mL PySem.boot_len (pa_cons (pe_fld (pv 0) rfl) pa_nil))) (.cons pe_str .nil))))))), ?_⟩
  obtain ⟨o, ks, ps, rfl, ⟨dx, L, SL, tk, tp, fr, st, T⟩, hk, hp, q⟩ := h
  have lk : ((srtTxt ks).map V.str).length = ks.length := by rw [List.length_map, len_srtTxt]
  have lp : (L.map fun p => V.ref p.1).length = (pairsOf ps).length := by rw [List.length_map, T.fewP]
  have len : ∀ n : Nat, n < 101 → (Str.ofString (toString (n : Int))).length ≤ 3 ∧ ((n : Int)).natAbs.log2 < 1920 := by decide +kernel
  obtain ⟨k1, k2⟩ := len ks.length (by omega)
  obtain ⟨p1, p2⟩ := len (pairsOf ps).length (by omega)
  have big : (1000 : Nat) < sizeLine := by decide
  have l1 : (Str.ofString "Table(").length = 6 := by decide
  have l2 : (Str.ofString " kinds, ").length = 8 := by decide
  have l3 : (Str.ofString " pairs)").length = 7 := by decide
  have l0 : Str.empty.length = 0 := by decide
  refine ⟨_, rfl, by simp only [Str.length_append]; omega, _, rfl, o, C, dx, _, _, rfl, T.obj, c, n1, rfl, tk, _, rfl, .inr (SqT.of T.kinds), ?_⟩
  rw [lk]
  refine .inr ⟨_, rfl, k2, _, rfl, by simp only [Str.length_append]; omega, _, rfl, by simp only [Str.length_append]; omega, _, rfl, o, C, dx, _, _, rfl, T.obj, c, n2, rfl, tp, _, rfl, .inr (SqT.of T.pairs), ?_⟩
  rw [lp]
  refine .inr ⟨_, rfl, p2, _, rfl, by simp only [Str.length_append]; omega, _, rfl, by simp only [Str.length_append]; omega, ?_⟩
  show Q (.str (Str.empty ++ Str.ofString "Table(" ++ Str.ofString (toString (ks.length : Int)) ++ Str.ofString " kinds, " ++ Str.ofString (toString ((pairsOf ps).length : Int)) ++ Str.ofString " pairs)")) H
  rw [Str.empty_append]
  exact q
theorem okEqT {f C : Addr} {fd : FuncData} (F : Fun K "__eq__" "Table.__eq__" sTabEq f fd) (i : ClsI K C) (n1 : NoAttr K C "kinds") (n2 : NoAttr K C "pairs") (mI : mg "isinstance" = none) (mC : mg "Table" = some (.ref C)) : FnOk P w K mg base CX0 1 f fd ["self", "other"] (spEqT K C) := by
  refine F.ok scTabEq (fun vs H Q E h => ?_) (fun cdv A outer s H vs Q E hr h => ?_)
  · obtain ⟨o, y, ks, ps, rfl, _⟩ := h
    rfl
  have hu : (A.deeper (envOfC "Table.__eq__" (defScope sTabEq) s.heap.objs.size f cdv)).units + 64 < cLine := by have := hr.un; omega
  refine ⟨_, pss_one (ps_ret (pe_and (pe_callB call_isi rfl mI PyProof.Rows.boot_isinstance (pa_cons (pv 1) (pa_cons (pe_glob (v := .ref C) rfl mC rfl) pa_nil)))
    (pe_and (pe_cmpR (op_eqD hu) (pe_fld (pv 0) rfl) (pe_fld (pv 1) rfl) (nomark _)) (pe_one (pe_cmpR (op_eqD hu) (pe_fld (pv 0) rfl) (pe_fld (pv 1) rfl) (nomark _)))))), ?_⟩
  obtain ⟨o, y, ks, ps, rfl, ⟨dx, L, SL, tk, tp, fr, st, T⟩, h⟩ := h
  rcases h with ⟨no, q⟩ | ⟨b, ks', ps', rfl, ⟨dx', L', SL', tk', tp', fr', st', T'⟩, q⟩
  · obtain ⟨t, ty, k⟩ := no.is i
    exact ⟨_, rfl, y, .ref C, t, .ref C, false, rfl, .own C, ty, k, _, rfl, iteF q⟩
  · refine ⟨_, rfl, .ref b, .ref C, .ref C, .ref C, true, rfl, .own C, .base (.ins T'.obj i.c i.kls i.hn i.ht i.obj), ClsI.self, _, rfl, iteT ?_⟩
    refine ⟨_, rfl, o, C, dx, _, _, rfl, T.obj, i.c, n1, rfl, _, rfl, b, C, dx', _, _, rfl, T'.obj, i.c, n1, rfl, ?_⟩
    refine ⟨_, _, .tup (SqT.of T.kinds) (dpStrs _), .tup (SqT.of T'.kinds) (dpStrs _), shapedStrs T.sNames, shapedStrs T'.sNames, _, rfl, ?_⟩
    have e1 : PyData.eqv (.tuple ((srtTxt ks).map .str)) (.tuple ((srtTxt ks').map .str)) = decide (srtTxt ks = srtTxt ks') := eqvStrs _ _
    rw [e1]
    by_cases h1 : srtTxt ks = srtTxt ks'
    · rw [decide_eq_true h1]
      refine iteT ⟨_, rfl, o, C, dx, _, _, rfl, T.obj, i.c, n2, rfl, _, rfl, b, C, dx', _, _, rfl, T'.obj, i.c, n2, rfl, ?_⟩
      refine ⟨_, _, .tup (SqT.of T.pairs) (dpPairs T.keys T.each), .tup (SqT.of T'.pairs) (dpPairs T'.keys T'.each), shapedPairs T.sPairs, shapedPairs T'.sPairs, ?_⟩
      have e2 : PyData.eqv (.tuple ((pairsOf ps).map dPair)) (.tuple ((pairsOf ps').map dPair)) = decide (pairsOf ps = pairsOf ps') := eqvPairs _ _
      rw [e2]
      have z : decide (srtTxt ks = srtTxt ks' ∧ pairsOf ps = pairsOf ps') = decide (pairsOf ps = pairsOf ps') := decide_eq_decide.mpr ⟨fun z => z.2, fun z => ⟨h1, z⟩⟩
      rw [z] at q
      exact q
    · rw [decide_eq_false h1]
      refine iteF ?_
      have z : decide (srtTxt ks = srtTxt ks' ∧ pairsOf ps = pairsOf ps') = false := decide_eq_false fun z => h1 z.1
      rw [z] at q
      exact q
end
end L2.Und
end

section
set_option Elab.async false
set_option linter.all false
set_option maxRecDepth 100000
set_option maxHeartbeats 4000000
namespace L2.Und
open PySem PySem.Spec PyProof.Rows _root_.Und
/-! ### data that repr shows within the line; repr of bools -/
structure Shows (d : PyData) : Prop where
  sh : d.showable = true
  nd : d.hasDict = false
  dp : d.depth ≤ 40
  ln : d.shown.length ≤ sizeLine
mutual
/-- no dicts, no ints of many signs, texts of signs that are some -/
def Plainly : PyData → Bool
  | .none | .bool _ => true
  | .int i => decide (i.natAbs < 10 ^ 12)
  | .str x => PyData.strOk x
  | .list xs | .tuple xs => PlainlyAll xs
  | .dict _ => false
def PlainlyAll : List PyData → Bool
  | [] => true
  | x :: xs => Plainly x && PlainlyAll xs
end
mutual
theorem Plainly.all : ∀ d : PyData, Plainly d = true → d.canLay0 = true ∧ d.intsShort 13 = true ∧ d.showable = true ∧ d.hasDict = false
  | .none, _ => ⟨rfl, rfl, rfl, rfl⟩
  | .bool _, _ => ⟨rfl, rfl, rfl, rfl⟩
  | .int i, h => by
    have h : i.natAbs < 10 ^ 12 := of_decide_eq_true (by simpa only [Plainly] using h)
    refine ⟨rfl, ?_, ?_, rfl⟩
    · simp only [PyData.intsShort]
      exact decide_eq_true (PyData.shown_int_le h)
    · simp only [PyData.showable]
      refine decide_eq_true ?_
      have l : i.natAbs.log2 ≤ 1000 := by
        have z : i.natAbs < 2 ^ 1000 := Nat.lt_trans h (by decide +kernel)
        by_cases e : i.natAbs = 0
        · rw [e]
          decide
        · exact Nat.le_of_lt ((Nat.log2_lt e).mpr z)
      omega
  | .str x, h => by
    have h : PyData.strOk x = true := by simpa only [Plainly] using h
    exact ⟨by simpa only [PyData.canLay0] using h, rfl, rfl, rfl⟩
  | .list xs, h => by
    obtain ⟨a, b, c, d⟩ := Plainly.each xs (by simpa only [Plainly] using h)
    exact ⟨by simpa only [PyData.canLay0] using a, by simpa only [PyData.intsShort] using b, by simpa only [PyData.showable] using c, by simpa only [PyData.hasDict] using d⟩
  | .tuple xs, h => by
    obtain ⟨a, b, c, d⟩ := Plainly.each xs (by simpa only [Plainly] using h)
    exact ⟨by simpa only [PyData.canLay0] using a, by simpa only [PyData.intsShort] using b, by simpa only [PyData.showable] using c, by simpa only [PyData.hasDict] using d⟩
  | .dict _, h => by simp [Plainly] at h
theorem Plainly.each : ∀ ds : List PyData, PlainlyAll ds = true → PyData.canLayAll0 ds = true ∧ PyData.intsShortAll 13 ds = true ∧ PyData.showableAll ds = true ∧ PyData.hasDictAll ds = false
  | [], _ => ⟨rfl, rfl, rfl, rfl⟩
  | x :: xs, h => by
    have h : (Plainly x && PlainlyAll xs) = true := by simpa only [PlainlyAll] using h
    rw [Bool.and_eq_true] at h
    obtain ⟨a, b, c, d⟩ := Plainly.all x h.1
    obtain ⟨a', b', c', d'⟩ := Plainly.each xs h.2
    exact ⟨by simp only [PyData.canLayAll0, a, a', Bool.and_self], by simp only [PyData.intsShortAll, b, b', Bool.and_self], by simp only [PyData.showableAll, c, c', Bool.and_self], by simp only [PyData.hasDictAll, d, d', Bool.or_self]⟩
end
theorem Plainly.shows {d : PyData} (h : Plainly d = true) (dp : d.depth ≤ 40) (w : d.weight ≤ 2 ^ 20) : Shows d := by
  obtain ⟨a, b, c, e⟩ := Plainly.all d h
  refine ⟨c, e, dp, PyData.shown_fits_of_layable0 (B := 13) (by decide) (by decide) ?_ b⟩
  unfold PyData.layable0
  rw [a, decide_eq_true (show d.depth ≤ 64 by omega), decide_eq_true w]
  rfl
theorem Plainly.shaped {d : PyData} (h : Plainly d = true) (dp : d.depth ≤ 40) : SeqAt.shaped d = true := by
  unfold SeqAt.shaped
  rw [(Plainly.all d h).1, decide_eq_true (show d.depth ≤ 64 by omega)]
  rfl
/-- repr of a bool -/
def boolText (b : Bool) : Str := if b then "True" else "False"
theorem boolText_inj {a b : Bool} (h : boolText a = boolText b) : a = b := by
  cases a <;> cases b <;> first | rfl | (exfalso; revert h; decide)
def rShowB : List V → Hp → VK → Prop := fun xs H Q => ∃ b : Bool, xs = [.bl b] ∧ Q (.str (boolText b)) H
theorem callShowB {X : Cx} : CallR X (.builtin "repr") rShowB := by
  intro pins s σ H xs us Q I r h
  obtain ⟨b, rfl, q⟩ := h
  obtain ⟨u, rfl, ru⟩ := vals1 r
  cases (show u = Value.bool b from ru)
  exact PySem.P.repr_of_bool ⟨.str (boolText b), H, I.tok _, ⟨_, by cases b <;> rfl⟩, q⟩
/-- repr of data -/
theorem rShow.of {K : PySem.W.Frag} {a : Addr} {d : PyData} {H : Hp} {Q : VK} (h : Dp K H (.ref a) d) (s : Shows d) (q : Q (.str d.shown) H) : rShow K [.ref a] H Q := ⟨a, d, rfl, h, s.sh, s.nd, s.dp, s.ln, q⟩
theorem Dp.same {K : PySem.W.Frag} {H H' : Hp} (s : Same H H') : ∀ {v : V} {d : PyData}, Dp K H v d → Dp K H' v d := by
  intro v d h
  induction h using Dp.rec (motive_2 := fun vs ds _ => DpAll K H' vs ds) with
  | non => exact .non
  | bl b => exact .bl b
  | int i => exact .int i
  | str x => exact .str x
  | lst h _ ih => exact .lst (s.seq h) ih
  | tup h _ ih => exact .tup (Same.tup s h) ih
  | nil => exact .nil
  | cons _ _ h1 h2 => exact .cons h1 h2
end L2.Und
end

section
set_option Elab.async false
set_option linter.all false
set_option maxRecDepth 100000
set_option maxHeartbeats 4000000
namespace L2.Und
open PySem PySem.Spec PyProof.Rows _root_.Und
/-! ### t[::-1] of a tuple of two -/
section
variable {prog : Program} {w : World} {A : Around} {E : Value → Shared → Prop} {s : Shared} {t sl : Addr} {x y vl vu vs : Value}
theorem backParts {Q : Int × Int × Nat → Shared → Prop} (hs : s.heap.IsSliceOf sl vl vu vs) (pl : IsPart vl none) (pu : IsPart vu none) (pk : IsPart vs (some (-1))) (h : Q (1, -1, 2) s) :
    wpAny (model prog w) A (Builtin.Slice.sliceApplied (.ref sl) (pure ((2 : Nat) : Int))) Q E s := by
  obtain ⟨ob, ho, _, hd⟩ := id hs
  unfold Builtin.Slice.sliceApplied Builtin.Slice.sliceFields
  have f0 : ∀ {R : Value → Shared → Prop}, R vl s → wpAny (model prog w) A (field (.ref sl) 0) R E s := fun r => wpAny_field ho hd rfl r
  have f1 : ∀ {R : Value → Shared → Prop}, R vu s → wpAny (model prog w) A (field (.ref sl) 1) R E s := fun r => wpAny_field ho hd rfl r
  have f2 : ∀ {R : Value → Shared → Prop}, R vs s → wpAny (model prog w) A (field (.ref sl) 2) R E s := fun r => wpAny_field ho hd rfl r
  refine wpAny_bind (wpAny_bind (f0 (wpAny_bind (f1 (wpAny_bind (f2 (wpAny_pure ?_)))))))
  refine wpAny_bind (HT.slicePart_ pk ?_)
  show wpAny _ _ (if ((-1 : Int) == 0) = true then _ else _) _ _ s
  rw [if_neg (by decide)]
  refine wpAny_bind (HT.slicePart_ pl (wpAny_bind (HT.slicePart_ pu (wpAny_bind (wpAny_pure ?_)))))
  exact wpAny_pure h
theorem getBack {Q : Value → Shared → Prop} (ht : IsTup s.heap t #[x, y]) (hs : s.heap.IsSliceOf sl vl vu vs) (pl : IsPart vl none) (pu : IsPart vu none) (pk : IsPart vs (some (-1)))
    (h : Q (.ref s.heap.objs.size) { s with heap := s.heap.push { cls := .type "tuple", data := .seq #[y, x] } }) : wpAny (model prog w) A (getItem (.ref t) (.ref sl)) Q E s := by
  obtain ⟨ob, ho, hc, _⟩ := id hs
  have ty : s.TypeIs (.ref sl) "slice" := ⟨ob, ho, hc⟩
  unfold getItem
  apply wpAny_holding
  refine wpAny_bind (wpAny_sequenceKey ht.typeIs (by decide) (wpAny_bind (wpAny_callSpecial?_slot (name := Str.ofString "__getitem__") ht.typeIs PyProof.Rows.slot_tuple_getitem ?_)))
  refine wpAny_call_entry PyProof.Rows.slot_tuple_getitem ht.typeIs entry_tuple_getitem ?_ (args_tuple_getitem _ _)
  show wpAny _ _ (Builtin.Tuple.tupleItemsOf (.ref t) >>= _) _ _ s
  refine wpAny_bind (tupleItemsOf_ ht (wpAny_bind (wpAny_typeOf ty ?_)))
  rw [if_pos (by decide)]
  refine wpAny_bind (backParts hs pl pu pk ?_)
  refine wpAny_bind (m := Builtin.Tuple.tupleExact _) (wpAny_newObj_type (wpAny_pure ⟨_, rfl, wpAny_pure h⟩) (by show 2 ≤ sizeLine; decide))
end
def tRevT (K : PySem.W.Frag) (te : TE) : TE := fun σ H Q => te σ H fun z H1 => ∃ (a : Addr) (x y : V), z = .ref a ∧ SqT K H1 a [x, y] ∧ ∀ p, H1 p = none → Q (.ref p) (upd H1 p (.tup [y, x]))
theorem pe_revT {X : Cx} {e : Expr} {te : TE} {k : Nat} {q1 q2 q3 pos : Pos} (he : PE X e te) : PE X (.Subscript e (.Slice none none (some (.UnaryOp .USub (.Constant (.int 1) k q1) q2)) q3) pos) (tRevT X.K te) := by
  constructor
  intro pins s σ H Q I h
  refine Subscript_ (thn (he.run pins s σ H _ I h) fun v s1 z => ?_)
  obtain ⟨_, H1, I1, r1, a, x, y, rfl, hx, q⟩ := z
  obtain rfl : v = Value.ref a := r1
  have step : PO X (some (.UnaryOp .USub (.Constant (.int 1) k q1) q2)) (tPart (tUn (rU fun i => .int (-i)) (tC (.int 1)))) := po_some (pe_un un_neg pe_int)
  refine wpAny_Slice (thn (po_none.run pins s1 σ H1 (fun o H2 => o = none ∧ H2 = H1) I1 ⟨rfl, rfl⟩) fun vl s2 z => ?_)
  obtain ⟨_, H2, I2, pl, rfl, e2⟩ := z
  rw [e2] at I2
  refine thn (po_none.run pins s2 σ _ (fun o H3 => o = none ∧ H3 = H1) I2 ⟨rfl, rfl⟩) fun vu s3 z => ?_
  obtain ⟨_, H3, I3, pu, rfl, e3⟩ := z
  rw [e3] at I3
  refine thn (step.run pins s3 σ _ (fun o H4 => o = some (-1) ∧ H4 = H1) I3 ⟨1, rfl, -1, rfl, rfl, rfl⟩) fun vk s4 z => ?_
  obtain ⟨_, H4, I4, pk, rfl, e4⟩ := z
  rw [e4] at I4
  obtain ⟨s5, e5⟩ : ∃ s5 : Shared, s5 = { s4 with heap := s4.heap.push { cls := .type "slice", data := .fields #[vl, vu, vk] } } := ⟨_, rfl⟩
  have I5 : Inv X pins σ H1 s5 := e5 ▸ I4.kept (t' := s4.toks) fun b ob q => Heap.get?_push_of_some _ q
  obtain ⟨its, r, ht, _⟩ := I5.tuple hx
  obtain ⟨u, v, rfl, ru, rv⟩ := vals2 r
  show wpAny (model X.prog X.w) X.A (subscriptTail e (.Slice none none (some (.UnaryOp .USub (.Constant (.int 1) k q1) q2)) q3) (.ref a) (.ref s4.heap.objs.size)) (EP X pins σ Q) X.xe { s4 with heap := s4.heap.push { cls := .type "slice", data := .fields #[vl, vu, vk] } }
  rw [← e5]
  refine tail_any (ops := [.ref a, .ref s4.heap.objs.size]) ht.typeIs PyProof.Rows.slot_tuple_getitem.lookup ?_ (by with_unfolding_all rfl)
  refine getBack ht (e5 ▸ Heap.IsSliceOf.new _ vl vu vk) pl pu pk ?_
  have new : H1 s5.heap.objs.size = none := I5.hok.fresh (Nat.le_refl _)
  refine ⟨.ref s5.heap.objs.size, _, I5.laid (t' := s5.toks) (o := .tup [y, x]) (fun b ob q => Heap.get?_push_of_some _ q) (Nat.le_refl _) ?_, rfl, q _ new⟩
  exact ⟨by show 2 ≤ sizeLine; decide, [v, u], .cons rv (.cons ru .nil), IsTup.new _ _⟩
end L2.Und
end

section
set_option Elab.async false
set_option linter.all false
set_option maxRecDepth 100000
set_option maxHeartbeats 8000000
namespace L2.Und
open PySem PySem.Spec PyProof.Rows _root_.Und
open PySem.W (findIn keepIn typeIn subIn mroIn hasDictIn isClsIn specialIn takesIn nsIn codeIn)
/-! ### what the head writes of an error class, as the rules want it -/
/-- what is written of a class -/
structure Txt (K : PySem.W.Frag) (C : Addr) : Prop where
  keep : keepIn K (.ref C) = true
  sa : findIn K (.ref C) "__setattr__" = some (some (.builtin "object.__setattr__"))
  ga : findIn K (.ref C) "__getattribute__" = some (some (.builtin "BaseException.__getattribute__"))
  gg : findIn K (.ref C) "__getattr__" = some none
  exc : subIn K (.ref C) (.type "BaseException") = some true
  dct : hasDictIn K C = true
  kls : findIn K (.ref C) "__class__" = some (some (.builtin "object.__class__"))
  obj : mroIn K C (.type "object") = some true
  isc : isClsIn K C = true
  ty : typeIn K (.ref C) = some (.type "type")
  self : subIn K (.ref C) (.ref C) = some true
section
variable {P : Program} {w : World} {K : PySem.W.Frag} {mg : Str → Option Value} {h : Heap} {C D U N fI : Addr} {nm q : Str} {bs : List Value} {sn : List Str} {sub : List Value} {ab : Bool} {col : Option Bool}
variable {dd : Option Addr} {m0 m1 m2 m3 m5 : Option Value} {b : Bool}
abbrev veT : List Value := [.type "ValueError", .type "Exception", .type "BaseException", .type "object"]
theorem aboveV : Above "ValueError" (.ref U :: veT) := ⟨(by rw [List.contains_cons, show veT.contains (.type "ValueError") = true from by decide +kernel, Bool.or_true]), (by rw [List.contains_cons, show veT.contains (.type "AttributeError") = false from by decide +kernel, Bool.or_false]; rfl), (by rw [List.contains_cons, show veT.contains (.type "NameError") = false from by decide +kernel, Bool.or_false]; rfl)⟩
theorem aboveK : Above "LookupError" keTail := ⟨by decide +kernel, by decide +kernel, by decide +kernel⟩
theorem mkV (T : Txt K C) (l : K.lookup C = some (excClassObj nm q C N bs (.ref U :: veT) true sn sub ab col dd m0 m1 m2 m3 m5 "ValueError.__new__")) : ErrC K C :=
  ⟨⟨_, _, _, _, _, _, _, _, _, _, _, _, _, _, _, _, _, _, _, PySem.F.excBase_ValueError, aboveV, opens_VE.ref, l⟩, T.keep, T.sa, T.ga, T.gg, T.exc, T.dct, T.kls, T.obj⟩
theorem kitRef (TD : Txt K D) (TC : Txt K C) (s : subIn K (.ref C) (.ref D) = some b) : PySem.W.kitOne K (.ref C) (.ref D) = some b := by
  unfold PySem.W.kitOne
  by_cases e : C = D
  · subst e
    rw [if_pos (by simp)]
    rw [TC.self] at s
    exact s
  · rw [if_neg (by simpa using e)]
    have i : (PySem.W.clsIn K D).isSome = true := TD.isc
    show (if ((PySem.W.clsIn K D).isSome && typeIn K (.ref D) == some (.type "type")) = true then subIn K (.ref C) (.ref D) else none) = some b
    rw [i, TD.ty, if_pos (by decide)]
    exact s
end
structure TxtF (K : PySem.W.Frag) (x : Str) (st : Stmt) (f : Addr) (fd : FuncData) : Prop where
  here : nsIn K mainGlobals x = some (some (.ref f))
  fn : Fun K x x st f fd
theorem mkF {K : PySem.W.Frag} {x : Str} {st : Stmt} {f : Addr} {oc : Value} {od an : Option Addr} {osl : Array (Option Value)} {kV doc pm cdv ct : Value} (a : nsIn K mainGlobals x = some (some (.ref f))) (l : K.lookup f = some ⟨oc, od, .func (PySem.W.fnOf x x (defArgs st) (defBody st) (defScope st) .none kV doc pm an cdv ct), osl⟩)
    (c : codeIn K cdv x = true) (k : keepIn K (.ref f) = true) : TxtF K x st f (PySem.W.fnOf x x (defArgs st) (defBody st) (defScope st) .none kV doc pm an cdv ct) := ⟨a, fun_mk (st := st) l c k⟩
/-- own classes in except clauses -/
theorem exmSelf {K : PySem.W.Frag} {C : Addr} (T : Txt K C) : PySem.W.exmOne K (.ref C) (.ref C) = some true := PySem.W.exm_ref T.exc T.dct T.ty T.self
theorem excC {K : PySem.W.Frag} {C : Addr} (T : Txt K C) (hn : specialIn K (.builtin "object.__class__") "__get__" = some (some (.builtin "getset_descriptor.__get__"))) (ht : takesIn K (.builtin "object.__class__") = some true) : ExcC K C :=
  ⟨T.ga, T.gg, T.exc, T.dct, T.kls, hn, ht, T.obj⟩
theorem xfC {K : PySem.W.Frag} {C : Addr} (T : Txt K C) : XfC K C := ⟨T.ga, T.gg, T.exc, T.dct⟩
end L2.Und
end

section
set_option Elab.async false
set_option linter.all false
set_option maxRecDepth 100000
set_option maxHeartbeats 4000000
namespace L2.Und
open PySem PySem.Spec PyProof.Rows _root_.Und
/-! ### drawn kinds and pairs are as they must be -/
theorem good_kinds {ks : List Str} {n : Nat} (g : GoodNames ks n) (h1 : 1 ≤ n) (h2 : n ≤ 12) : kindsBad ks = none := by
  have l := g.len
  unfold kindsBad
  rw [if_pos ⟨by omega, by omega⟩, firstBad_none fun j hj => ?_]
  · rfl
  unfold badAt
  rw [List.getElem?_eq_getElem hj]
  have nm := g.nm _ (List.getElem_mem hj)
  have nt : ks[j] ∉ ks.take j := fun m => by
    obtain ⟨i, hi, e⟩ := List.mem_iff_getElem.mp m
    rw [List.length_take] at hi
    rw [List.getElem_take] at e
    exact List.pairwise_iff_getElem.mp g.nd i j (by omega) hj (by omega) e
  show (!IsName ks[j] || decide (ks[j] ∈ ks.take j)) = false
  rw [nm, decide_eq_false nt]
  rfl
theorem good_pairs {ks : List Str} {xs : List (Str × Str)} (h : ∀ p ∈ xs, p.1 ∈ ks ∧ p.2 ∈ ks ∧ p.1 ≠ p.2) : pairsBad ks (xs.map fun p => [p.1, p.2]) = none := by
  refine pairsBad_none fun j hj => ?_
  rw [List.length_map] at hj
  unfold pairBadAt
  rw [List.getElem?_map, List.getElem?_eq_getElem hj]
  obtain ⟨a, b, c⟩ := h _ (List.getElem_mem hj)
  show (!(decide (xs[j].1 ≠ xs[j].2) && decide (xs[j].1 ∈ ks) && decide (xs[j].2 ∈ ks))) = false
  rw [decide_eq_true a, decide_eq_true b, decide_eq_true c]
  rfl
theorem name_short {z : Str} (h : IsName z = true) : z.length ≤ 6 ∧ ∀ c ∈ z.cps.toList, c < 128 := by
  unfold IsName at h
  rw [Bool.and_eq_true, Bool.and_eq_true] at h
  refine ⟨of_decide_eq_true h.1.2, fun c hc => ?_⟩
  have z := h.2
  rw [← Array.all_toList] at z
  have := List.all_eq_true.mp z c hc
  rw [Bool.and_eq_true] at this
  have := of_decide_eq_true this.2
  omega
theorem pairs_few {ks : List Str} {xs : List (Str × Str)} (g : GoodPairs ks xs) (h : ks.length ≤ 12) : xs.length ≤ 66 := by
  have l := g.len
  have t : ∀ n, n ≤ 12 → tri n ≤ 66 := by decide
  have := t ks.length h
  omega
end L2.Und
end

section
set_option Elab.async false
set_option linter.all false
set_option maxRecDepth 100000
set_option maxHeartbeats 4000000
namespace L2.Und
open PySem PySem.Spec PyProof.Rows _root_.Und
open L2.KS SX
open PySem.W (findIn keepIn typeIn subIn)
/-! ### tables made where nothing is raised, compared, shown -/
abbrev PA2' := List (Addr × (Str × Str))
structure Prs2 (K : PySem.W.Frag) (H : Hp) (L : PA2') : Prop where
  few : L.length ≤ 100
  at_ : ∀ e ∈ L, SqT K H e.1 [.str e.2.1, .str e.2.2]
  ok : ∀ e ∈ L, PyData.strOk e.2.1 = true ∧ PyData.strOk e.2.2 = true
theorem Prs2.same {K : PySem.W.Frag} {H H' : Hp} {L : PA2'} (p : Prs2 K H L) (s : Same H H') : Prs2 K H' L := ⟨p.few, fun e he => Same.tup s (p.at_ e he), p.ok⟩
theorem Prs2.sub {K : PySem.W.Frag} {H : Hp} {L M : PA2'} (p : Prs2 K H L) (h : ∀ e ∈ M, e ∈ L) (l : M.length ≤ 100) : Prs2 K H M := ⟨l, fun e he => p.at_ e (h e he), fun e he => p.ok e (h e he)⟩
theorem passNo {X : Cx} : Passes (L2.CX X.prog X.w) X (fun _ _ _ => False) := by
  intro _ _ _ _ _ _ _ h
  obtain ⟨_, _, _, _, _, _, _, _, _, _, _, _, z⟩ := h
  exact z.elim
theorem twos_self' : ∀ l : List (Str × Str), twos (l.map fun p => [p.1, p.2]) = l
  | [] => rfl
  | p :: l => by
    show p :: twos (l.map fun p => [p.1, p.2]) = p :: l
    rw [twos_self' l]
/-- a table is made of good kinds and pairs -/
theorem madeTab {K : PySem.W.Frag} {C CE a b : Addr} {H : Hp} {ks : List Str} {L : PA2'} {R : Addr → Hp → Prop} (ha : SqA K H a (ks.map V.str)) (hb : SqA K H b (L.map fun e => V.ref e.1)) (hp : ∀ e ∈ L, SqT K H e.1 [.str e.2.1, .str e.2.2])
    (kb : kindsBad ks = none) (pb : pairsBad ks (L.map fun e => [e.2.1, e.2.2]) = none) (few : L.length ≤ 75) (h : ∀ x H', H x = none → Same H H' → TabR K C x ks (L.map (·.2)) H' → R x H') :
    ∀ x dx, H x = none → H dx = none → dx ≠ x → spTabIni K C CE [.ref x, .ref a, .ref b] (upd (upd H dx (.own x)) x (.ins C dx [])) (fun v H2 => v = .non ∧ R x H2) (fun _ _ _ => False) := by
  intro x dx nx nd ne
  have ko := kinds_ok kb
  have s1 : Same H (upd (upd H dx (.own x)) x (.ins C dx [])) := (sameNew nd).trans (sameNew (by rw [upd_ne ne.symm]; exact nx))
  have e2 : (L.map fun e => (e.1, [e.2.1, e.2.2])).map (·.2) = L.map fun e => [e.2.1, e.2.2] := by rw [List.map_map]; rfl
  have e3 : twos (L.map fun e => [e.2.1, e.2.2]) = L.map (·.2) := by
    have z := twos_self' (L.map (·.2))
    rw [List.map_map] at z
    exact z
  refine ⟨x, a, b, dx, ks, L.map (fun e => (e.1, [e.2.1, e.2.2])), L.map (fun e => kOf (asc e.2)), rfl, upd_same, SqA.same ha s1, ?_, ?_, by have := ko.high; omega, fun k hk => by have := (name_short (ko.nm k hk)).1; omega, by rw [List.length_map]; exact few, ?_, ?_, ?_, ?_⟩
  · rw [List.map_map]
    exact SqA.same hb s1
  · intro e he
    obtain ⟨e0, h0, rfl⟩ := List.mem_map.mp he
    exact .inr (Same.tup s1 (hp e0 h0))
  · rw [e2, e3]
    intro p hp
    obtain ⟨e0, h0, rfl⟩ := List.mem_map.mp hp
    exact List.mem_map.mpr ⟨e0, h0, rfl⟩
  · rw [e2, e3]
    intro _ _ H2 tk tp fr st M SL keep T
    exact ⟨rfl, h x H2 nx (fun c u e => keep c u (ne_of_none e nx) (s1 c u e)) ⟨dx, M, SL, tk, tp, fr, st, T⟩⟩
  · intro t i z
    rw [kb] at z
    cases z
  · rw [e2]
    intro _ i z
    rw [pb] at z
    cases z
/-! ### == and != of tables -/
section
variable {K : PySem.W.Frag} {C o b : Addr} {ks ks' : List Str} {ps ps' : List (Str × Str)} {H : Hp} {Q : VK} {E : XK} {y : V}
theorem eqO_of (T : TabR K C o ks ps H) (T' : TabR K C b ks' ps' H) (q : Q (.bl (decide (srtTxt ks = srtTxt ks' ∧ pairsOf ps = pairsOf ps'))) H) : rEqO K C (spEqT K C) E (.ref o) (.ref b) H Q := by
  obtain ⟨dx, L, SL, tk, tp, fr, st, t⟩ := id T
  obtain ⟨dx', L', SL', tk', tp', fr', st', t'⟩ := id T'
  exact ⟨.ins t'.obj, o, dx, _, rfl, t.obj, o, .ref b, ks, ps, rfl, T, .inr ⟨b, ks', ps', rfl, T', _, rfl, q⟩⟩
theorem neO_of (T : TabR K C o ks ps H) (T' : TabR K C b ks' ps' H) (q : Q (.bl (!decide (srtTxt ks = srtTxt ks' ∧ pairsOf ps = pairsOf ps'))) H) : rNeO K C (spEqT K C) E (.ref o) (.ref b) H Q := by
  obtain ⟨dx, L, SL, tk, tp, fr, st, t⟩ := id T
  obtain ⟨dx', L', SL', tk', tp', fr', st', t'⟩ := id T'
  exact ⟨.ins t'.obj, o, dx, _, rfl, t.obj, o, .ref b, ks, ps, rfl, T, .inr ⟨b, ks', ps', rfl, T', _, rfl, q⟩⟩
theorem eqO_not (T : TabR K C o ks ps H) (n : NoIns H y) (q : Q (.bl false) H) : rEqO K C (spEqT K C) E (.ref o) y H Q := by
  obtain ⟨dx, L, SL, tk, tp, fr, st, t⟩ := id T
  exact ⟨n.beside, o, dx, _, rfl, t.obj, o, y, ks, ps, rfl, T, .inl ⟨n, _, rfl, q⟩⟩
theorem neO_not (T : TabR K C o ks ps H) (n : NoIns H y) (q : Q (.bl true) H) : rNeO K C (spEqT K C) E (.ref o) y H Q := by
  obtain ⟨dx, L, SL, tk, tp, fr, st, t⟩ := id T
  exact ⟨n.beside, o, dx, _, rfl, t.obj, o, y, ks, ps, rfl, T, .inl ⟨n, _, rfl, q⟩⟩
end
/-! ### what a table shows -/
theorem wtPairs : ∀ l : List (Str × Str), (∀ p ∈ l, p.1.length ≤ 6 ∧ p.2.length ≤ 6) → PyData.weightAll (l.map dPair) ≤ 15 * l.length
  | [], _ => by simp [PyData.weightAll]
  | p :: l, h => by
    have ih := wtPairs l fun q hq => h q (List.mem_cons_of_mem _ hq)
    obtain ⟨h1, h2⟩ := h p List.mem_cons_self
    have e : (dPair p).weight = p.1.cps.size + 1 + (p.2.cps.size + 1 + 0) := by simp only [dPair, PyData.weight, PyData.weightAll]
    have g1 : p.1.cps.size ≤ 6 := h1
    have g2 : p.2.cps.size ≤ 6 := h2
    simp only [List.map_cons, PyData.weightAll, e, List.length_cons]
    omega
theorem plPairs : ∀ l : List (Str × Str), (∀ p ∈ l, IsName p.1 = true ∧ IsName p.2 = true) → PlainlyAll (l.map dPair) = true
  | [], _ => by simp [PlainlyAll]
  | p :: l, h => by
    obtain ⟨h1, h2⟩ := h p List.mem_cons_self
    have z : Plainly (dPair p) = true := by simp [dPair, Plainly, PlainlyAll, name_ok h1, name_ok h2]
    simp only [List.map_cons, PlainlyAll, z, plPairs l fun q hq => h q (List.mem_cons_of_mem _ hq), Bool.and_self]
theorem TabAt.shows {K : PySem.W.Frag} {C o dx : Addr} {ks : List Str} {ps : List (Str × Str)} {L : KL} {SL : List (Str × Addr)} {tk tp fr st : Addr} {H : Hp} (T : TabAt K C o dx ks ps L SL tk tp fr st H) (few : (pairsOf ps).length ≤ 1000) : Shows (.tuple ((pairsOf ps).map dPair)) := by
  have nm := T.sPairs
  have w := wtPairs (pairsOf ps) fun p hp => ⟨(name_short (nm p hp).1).1, (name_short (nm p hp).2).1⟩
  have d := depPairs (pairsOf ps)
  refine Plainly.shows (by simp only [Plainly]; exact plPairs _ nm) ?_ ?_
  · simp only [PyData.depth]
    omega
  · simp only [PyData.weight]
    omega
theorem TabAt.dpP {K : PySem.W.Frag} {C o dx : Addr} {ks : List Str} {ps : List (Str × Str)} {L : KL} {SL : List (Str × Addr)} {tk tp fr st : Addr} {H : Hp} (T : TabAt K C o dx ks ps L SL tk tp fr st H) : Dp K H (.ref tp) (.tuple ((pairsOf ps).map dPair)) := .tup (SqT.of T.pairs) (dpPairs T.keys T.each)
/-! ### which pairs two lists have in common, and which not -/
theorem pairsOf_perm {ps qs : List (Str × Str)} (h : ∀ p, p ∈ ps ↔ p ∈ qs) : pairsOf ps = pairsOf qs := pairsOf_eq fun p => ⟨fun ⟨q, hq, e⟩ => ⟨q, (h q).mp hq, e⟩, fun ⟨q, hq, e⟩ => ⟨q, (h q).mpr hq, e⟩⟩
theorem asc_apart {p q : Str × Str} (h : apart p q) : asc p ≠ asc q := by
  intro e
  rcases asc_or p with hp | hp <;> rcases asc_or q with hq | hq <;> rw [hp, hq] at e
  · exact h.1 e
  · exact h.2 e
  · refine h.2 ?_
    obtain ⟨a, b⟩ := p
    obtain ⟨c, d⟩ := q
    cases e
    rfl
  · refine h.1 ?_
    obtain ⟨a, b⟩ := p
    obtain ⟨c, d⟩ := q
    cases e
    rfl
/-- without its first pair a list of different pairs makes another table -/
theorem pairsOf_tail {p : Str × Str} {ps : List (Str × Str)} (h : (p :: ps).Pairwise apart) : pairsOf ps ≠ pairsOf (p :: ps) := by
  intro e
  have m : asc p ∈ pairsOf (p :: ps) := mem_pairsOf.mpr ⟨p, List.mem_cons_self, rfl⟩
  rw [← e] at m
  obtain ⟨q, hq, z⟩ := mem_pairsOf.mp m
  exact asc_apart ((List.pairwise_cons.mp h).1 q hq) z
theorem asc_nodup {ps : List (Str × Str)} (h : ps.Pairwise apart) : (ps.map asc).Nodup := by
  refine List.pairwise_map.mpr (h.imp fun {a b} z => asc_apart z)
theorem onceL_self {α : Type} [DecidableEq α] : ∀ {l : List α}, l.Nodup → onceL l = l
  | [], _ => rfl
  | x :: l, h => by
    obtain ⟨h1, h2⟩ := List.nodup_cons.mp h
    unfold onceL
    rw [onceL_self h2, if_neg h1]
theorem pairsOf_sorted {ps : List (Str × Str)} (h : ps.Pairwise apart) : pairsOf ps = srtPairs (ps.map asc) := by
  unfold pairsOf
  rw [onceL_self (asc_nodup h)]
theorem len_onceL {α : Type} [DecidableEq α] : ∀ l : List α, (onceL l).length ≤ l.length
  | [] => Nat.le_refl _
  | x :: l => by
    have ih := len_onceL l
    unfold onceL
    by_cases h : x ∈ onceL l
    · rw [if_pos h]
      exact Nat.le_trans ih (Nat.le_succ _)
    · rw [if_neg h]
      exact Nat.succ_le_succ ih
theorem len_pairsOf (ps : List (Str × Str)) : (pairsOf ps).length ≤ ps.length := by
  unfold pairsOf
  rw [(srtPairs_perm _).length_eq]
  have := len_onceL (ps.map asc)
  rwa [List.length_map] at this
theorem kinds_fine {ks : List Str} (h : KindsOk ks) : kindsBad ks = none := by
  unfold kindsBad
  rw [if_pos ⟨h.low, h.high⟩, firstBad_none fun j hj => ?_]
  · rfl
  unfold badAt
  rw [List.getElem?_eq_getElem hj]
  have nt : ks[j] ∉ ks.take j := fun m => by
    obtain ⟨i, hi, e⟩ := List.mem_iff_getElem.mp m
    rw [List.length_take] at hi
    rw [List.getElem_take] at e
    exact List.pairwise_iff_getElem.mp h.nd i j (by omega) hj (by omega) e
  show (!IsName ks[j] || decide (ks[j] ∈ ks.take j)) = false
  rw [h.nm _ (List.getElem_mem hj), decide_eq_false nt]
  rfl
theorem cutTakeA {α : Type} (f : α → V) (xs : List α) (r : Nat) : cutV (xs.map f) none (some (r : Int)) = (xs.take r).map f := by
  have e : HT.sIx (xs.map f).length (xs.map f).length (some (r : Int)) = min r xs.length := by rw [List.length_map]; exact HT.sIx_nat xs.length xs.length r
  unfold cutV
  rw [e, HT.sIx_none, List.drop_zero, Nat.sub_zero, List.map_take]
  by_cases h : r ≤ xs.length
  · rw [Nat.min_eq_left h]
  · rw [Nat.min_eq_right (by omega), List.take_of_length_le (by simp), List.take_of_length_le (by simp; omega)]
theorem cutDrop1 {α : Type} (f : α → V) (xs : List α) : cutV (xs.map f) (some 1) none = (xs.drop 1).map f := by
  have e : HT.sIx (xs.map f).length 0 (some 1) = min 1 xs.length := by rw [List.length_map]; exact HT.sIx_nat xs.length 0 1
  unfold cutV
  rw [e, HT.sIx_none, List.length_map, List.map_drop]
  cases xs with
  | nil => rfl
  | cons x xs =>
    have : min 1 (x :: xs).length = 1 := by simp
    rw [this]
    exact List.take_of_length_le (by simp)
theorem dpPr2 {K : PySem.W.Frag} {H : Hp} : ∀ {L : PA2'}, (∀ e ∈ L, SqT K H e.1 [.str e.2.1, .str e.2.2]) → DpAll K H (L.map fun e => V.ref e.1) ((L.map (·.2)).map dPair)
  | [], _ => .nil
  | e :: L, h => .cons (.tup (h e List.mem_cons_self) (.cons (.str _) (.cons (.str _) .nil))) (dpPr2 fun e he => h e (List.mem_cons_of_mem _ he))
theorem shapedPrL {l : List (Str × Str)} (h : ∀ p ∈ l, IsName p.1 = true ∧ IsName p.2 = true) : SeqAt.shaped (.list (l.map dPair)) = true := by
  have := depPairs l
  unfold SeqAt.shaped
  simp [PyData.canLay0, canPairs l h, PyData.depth]
  omega
theorem eqvPair1 (p q : Str × Str) : PyData.eqv (dPair p) (dPair q) = decide (p = q) := by
  have z := eqvPairs [p] [q]
  have e : PyData.eqvAll ([p].map dPair) ([q].map dPair) = (PyData.eqv (dPair p) (dPair q) && true) := rfl
  rw [e, Bool.and_true] at z
  rw [z]
  exact decide_eq_decide.mpr ⟨fun h => List.head_eq_of_cons_eq h, fun h => by rw [h]⟩
theorem anyPair (p : Str × Str) (l : List (Str × Str)) : ((l.map dPair).any fun z => PyData.eqv z (dPair p)) = decide (p ∈ l) := by
  induction l with
  | nil => rfl
  | cons q l ih =>
    rw [List.map_cons, List.any_cons, ih, eqvPair1]
    by_cases h : q = p
    · subst h; simp
    · have h' : ¬ p = q := fun e => h e.symm
      simp [h, h']
theorem shapedPair1 {p : Str × Str} (h : IsName p.1 = true ∧ IsName p.2 = true) : SeqAt.shaped (dPair p) = true := by
  unfold SeqAt.shaped dPair
  simp [PyData.canLay0, PyData.canLayAll0, PyData.depth, PyData.depthAll, name_ok h.1, name_ok h.2]
end L2.Und
end

section
set_option Elab.async false
set_option linter.all false
set_option maxRecDepth 100000
set_option maxHeartbeats 4000000
namespace L2.Und
open PySem PySem.Spec PyProof.Rows _root_.Und
/-! ### syllables, as data -/
/-- syllables, each in a tuple of its own or one of others -/
abbrev SyL := List (Addr × Str × Int)
def Syls (K : PySem.W.Frag) (H : Hp) (L : SyL) : Prop := ∀ e ∈ L, SqT K H e.1 [.str e.2.1, .int e.2.2]
abbrev refsOf (L : SyL) : List V := L.map fun e => V.ref e.1
theorem Syls.same {K : PySem.W.Frag} {H H' : Hp} {L : SyL} (h : Syls K H L) (s : Same H H') : Syls K H' L := fun e he => Same.tup s (h e he)
def dSyl (e : Str × Int) : PyData := .tuple [.str e.1, .int e.2]
abbrev sylsOf (L : SyL) : List (Str × Int) := L.map (·.2)
theorem Syls.dp {K : PySem.W.Frag} {H : Hp} : ∀ {L : SyL}, Syls K H L → DpAll K H (refsOf L) ((sylsOf L).map dSyl)
  | [], _ => .nil
  | e :: L, h => .cons (.tup (h e List.mem_cons_self) (.cons (.str _) (.cons (.int _) .nil))) (Syls.dp fun e he => h e (List.mem_cons_of_mem _ he))
theorem eqvSyl (x y : Str × Int) : PyData.eqv (dSyl x) (dSyl y) = decide (x = y) := by
  obtain ⟨x1, x2⟩ := x
  obtain ⟨y1, y2⟩ := y
  show ((x1 == y1) && ((x2 == y2) && true)) = _
  by_cases h : x1 = y1 <;> by_cases h2 : x2 = y2 <;> simp [h, h2]
theorem eqvSyls : ∀ l m : List (Str × Int), PyData.eqvAll (l.map dSyl) (m.map dSyl) = decide (l = m)
  | [], [] => rfl
  | [], _ :: _ => rfl
  | _ :: _, [] => rfl
  | x :: l, y :: m => by
    rw [List.map_cons, List.map_cons]
    show (PyData.eqv (dSyl x) (dSyl y) && PyData.eqvAll (l.map dSyl) (m.map dSyl)) = _
    rw [eqvSyl, eqvSyls l m]
    by_cases h : x = y <;> by_cases k : l = m <;> simp [h, k]
theorem canSyls : ∀ l : List (Str × Int), (∀ e ∈ l, PyData.strOk e.1 = true) → PyData.canLayAll0 (l.map dSyl) = true
  | [], _ => by simp [PyData.canLayAll0]
  | x :: l, h => by simp [PyData.canLayAll0, PyData.canLay0, dSyl, h x List.mem_cons_self, canSyls l fun e he => h e (List.mem_cons_of_mem _ he)]
theorem depSyls : ∀ l : List (Str × Int), PyData.depthAll (l.map dSyl) ≤ 1
  | [] => by simp [PyData.depthAll]
  | x :: l => by
    have := depSyls l
    simp [PyData.depthAll, PyData.depth, dSyl]
    omega
theorem shapedSyls {l : List (Str × Int)} (h : ∀ e ∈ l, PyData.strOk e.1 = true) : SeqAt.shaped (.tuple (l.map dSyl)) = true ∧ SeqAt.shaped (.list (l.map dSyl)) = true := by
  have := depSyls l
  unfold SeqAt.shaped
  constructor <;> simp [PyData.canLay0, canSyls l h, PyData.depth] <;> omega
end L2.Und
end

section
set_option Elab.async false
set_option linter.all false
set_option maxRecDepth 100000
set_option maxHeartbeats 4000000
namespace L2.Und
open PySem PySem.Spec PyProof.Rows _root_.Und
open L2.KS
open PySem.W (findIn keepIn typeIn subIn)
/-! ### rows of the program: require_index, Row.__init__ -/
abbrev sReqI : Stmt := topS 29
theorem scReqI : FnScope ["at", "size"] ["at", "size"] (defScope sReqI) := ⟨rfl, rfl, rfl, by decide +kernel, rfl, by decide +kernel, by decide +kernel⟩
/-- whether so many items have the index -/
def isAt (i : Int) (n : Nat) : Bool := decide (0 ≤ i) && decide (i < (n : Int))
theorem isAt_iff {i : Int} {n : Nat} : isAt i n = true ↔ ∃ j : Nat, i = (j : Int) ∧ j < n := by
  unfold isAt
  rw [Bool.and_eq_true]
  constructor
  · rintro ⟨h1, h2⟩
    have h1 := of_decide_eq_true h1
    have h2 := of_decide_eq_true h2
    exact ⟨i.toNat, by omega, by omega⟩
  · rintro ⟨j, rfl, h⟩
    exact ⟨decide_eq_true (by omega), decide_eq_true (by omega)⟩
def spReqI (CN : Addr) : Sp := fun vs H Q E => ∃ (i : Int) (n : Nat), vs = [.int i, .int n] ∧ (isAt i n = true → Q .non H) ∧
  (isAt i n = false → ∀ (d : Addr) (H' : Hp), H d = none → Same H H' → H' d = some (.xd [("at", .int i)]) → E (.ref CN) (some d) H')
section
variable {P : Program} {w : World} {K : PySem.W.Frag} {mg : Str → Option Value} {base : Heap}
theorem okReqI {f CN : Addr} {fd : FuncData} (F : Fun K "require_index" "require_index" sReqI f fd) (T : Err1 P w K mg base "NoDeed" "at" CN) :
    FnOk P w K mg base (L2.CX P w) 3 f fd ["at", "size"] (spReqI CN) := by
  refine F.okX scReqI (fun vs H Q E h => ?_) (fun cdv A outer s H vs Q E hr h => ?_)
  · obtain ⟨i, n, rfl, _⟩ := h
    rfl
  obtain ⟨fI, fdI, iC, tI, FI, bI⟩ := T.run
  refine ⟨_, pss_one (ps_if (pt_not (pt_chain op_le op_lt pe_int (pv 0) (pv 1)))
        (pss_one (ps_raise rfl (takes_of rfl rfl rfl rfl) (pmkErr T.T T.ty iC tI FI hr bI (by decide) rfl T.g (pa_cons (pv 0) pa_nil)))) pss_nil), ?_⟩
  obtain ⟨i, n, rfl, q0, qE⟩ := h
  refine ⟨_, rfl, _, _, rfl, rfl, _, rfl, ?_⟩
  refine ite2 (fun c1 => ?_) (fun c1 => ?_)
  · have c1 : (0 : Int) ≤ i := of_decide_eq_true c1
    refine ⟨_, rfl, _, _, rfl, rfl, _, rfl, ?_⟩
    by_cases c2 : i < (n : Int)
    · have e : (!decide (i < (n : Int))) = false := by rw [decide_eq_true c2]; rfl
      show if (!decide (i < (n : Int))) = true then _ else _
      rw [e]
      exact iteF (q0 (by unfold isAt; rw [decide_eq_true c1, decide_eq_true c2]; rfl))
    · have e : (!decide (i < (n : Int))) = true := by rw [decide_eq_false c2]; rfl
      show if (!decide (i < (n : Int))) = true then _ else _
      rw [e]
      exact iteT ⟨_, rfl, rfl, fun d H2 n1 s1 e1 => qE (by unfold isAt; rw [decide_eq_false c2, Bool.and_false]) d H2 n1 s1 e1⟩
  · have c1 : ¬ (0 : Int) ≤ i := fun z => c1 (decide_eq_true z)
    exact ⟨_, rfl, iteT ⟨_, rfl, rfl, fun d H2 n1 s1 e1 => qE (by unfold isAt; rw [decide_eq_false c1]; rfl) d H2 n1 s1 e1⟩⟩
end
/-! ### Row.__init__ -/
abbrev sRowIni : Stmt := clsPart (topS 33) 0
theorem scRowIni : FnScope ["self", "table", "syllables", "kind", "_"] ["self", "table", "syllables"] (defScope sRowIni) := ⟨rfl, rfl, rfl, by decide +kernel, rfl, by decide +kernel, by decide +kernel⟩
theorem sqT_like {K : PySem.W.Frag} {H H' : Hp} {a : Addr} {xs : List V} (s : SameL H H') (h : SqT K H a xs) : SqT K H' a xs := by
  rcases h with (h | ⟨q, h⟩) | h
  · exact .inl (.inl (s _ _ h fun _ z => nomatch z))
  · exact .inl (.inr ⟨q, s _ _ h fun _ z => nomatch z⟩)
  · exact .inr h
theorem Syls.mono {K : PySem.W.Frag} {H H' : Hp} {L : SyL} (h : Syls K H L) (s : SameL H H') : Syls K H' L := fun e he => sqT_like s (h e he)
/-- what a row holds -/
structure RowAt (K : PySem.W.Frag) (C CT o dx t sy : Addr) (ks : List Str) (ps : List (Str × Str)) (L : SyL) (H : Hp) : Prop where
  obj : H o = some (.ins C dx [("table", .ref t), ("syllables", .ref sy)])
  tab : TabR K CT t ks ps H
  syl : SqT K H sy (refsOf L)
  each : Syls K H L
  known : ∀ e ∈ L, e.2.1 ∈ ks
theorem RowAt.mono {K : PySem.W.Frag} {C CT o dx t sy : Addr} {ks : List Str} {ps : List (Str × Str)} {L : SyL} {H H' : Hp} (R : RowAt K C CT o dx t sy ks ps L H) (s : SameL H H') : RowAt K C CT o dx t sy ks ps L H' :=
  ⟨s _ _ R.obj (fun _ z => nomatch z), R.tab.mono s, sqT_like s R.syl, R.each.mono s, R.known⟩
/-- a row, to those who read it -/
def RowR (K : PySem.W.Frag) (C CT o t : Addr) (ks : List Str) (ps : List (Str × Str)) (L : SyL) (H : Hp) : Prop := ∃ dx sy, RowAt K C CT o dx t sy ks ps L H
theorem RowR.mono {K : PySem.W.Frag} {C CT o t : Addr} {ks : List Str} {ps : List (Str × Str)} {L : SyL} {H H' : Hp} (R : RowR K C CT o t ks ps L H) (s : SameL H H') : RowR K C CT o t ks ps L H' := by
  obtain ⟨dx, sy, h⟩ := R
  exact ⟨dx, sy, h.mono s⟩
theorem RowR.same {K : PySem.W.Frag} {C CT o t : Addr} {ks : List Str} {ps : List (Str × Str)} {L : SyL} {H H' : Hp} (R : RowR K C CT o t ks ps L H) (s : Same H H') : RowR K C CT o t ks ps L H' := R.mono (.of s)
theorem TabAt.off {K : PySem.W.Frag} {C o dx C' o' dx' : Addr} {ks : List Str} {ps : List (Str × Str)} {L : KL} {SL : List (Str × Addr)} {tk tp fr st : Addr} {H H' : Hp} (T : TabAt K C o dx ks ps L SL tk tp fr st H) (hO : H o' = some (.ins C' dx' [])) (f : ∀ c u, c ≠ o' → H c = some u → H' c = some u) : TabAt K C o dx ks ps L SL tk tp fr st H' := by
  have g : ∀ b u, H b = some u → u ≠ .ins C' dx' [] → H' b = some u := fun b u e n => f b u (fun z => n (by rw [z, hO] at e; exact (Option.some.inj e).symm)) e
  exact ⟨T.good, T.mem, g _ _ T.obj (fun z => nomatch z), g _ _ T.kinds (fun z => nomatch z), g _ _ T.pairs (fun z => nomatch z), fun p hp => g _ _ (T.each p hp) (fun z => nomatch z), T.keys, g _ _ T.free (fun z => nomatch z), T.names, g _ _ T.stops (fun z => nomatch z), fun p hp => g _ _ (T.stop p hp) (fun z => nomatch z)⟩
theorem TabR.off {K : PySem.W.Frag} {C o C' o' dx' : Addr} {ks : List Str} {ps : List (Str × Str)} {H H' : Hp} (T : TabR K C o ks ps H) (hO : H o' = some (.ins C' dx' [])) (f : ∀ c u, c ≠ o' → H c = some u → H' c = some u) : TabR K C o ks ps H' := by
  obtain ⟨dx, L, SL, tk, tp, fr, st, h⟩ := T
  exact ⟨dx, L, SL, tk, tp, fr, st, h.off hO f⟩
theorem sqT_off {K : PySem.W.Frag} {C' o' dx' : Addr} {H H' : Hp} {a : Addr} {xs : List V} (hO : H o' = some (.ins C' dx' [])) (f : ∀ c u, c ≠ o' → H c = some u → H' c = some u) (h : SqT K H a xs) : SqT K H' a xs := by
  have g : ∀ b u, H b = some u → u ≠ .ins C' dx' [] → H' b = some u := fun b u e n => f b u (fun z => n (by rw [z, hO] at e; exact (Option.some.inj e).symm)) e
  rcases h with (h | ⟨q, h⟩) | h
  · exact .inl (.inl (g _ _ h fun z => nomatch z))
  · exact .inl (.inr ⟨q, g _ _ h fun z => nomatch z⟩)
  · exact .inr h
def spRowIni (K : PySem.W.Frag) (C CT CU : Addr) : Sp := fun vs H Q E => ∃ (o t b dx : Addr) (ks : List Str) (ps : List (Str × Str)) (L : SyL), vs = [.ref o, .ref t, .ref b] ∧ H o = some (.ins C dx []) ∧ TabR K CT t ks ps H ∧ SqA K H b (refsOf L) ∧ Syls K H L ∧ L.length ≤ sizeLine ∧
  (unkn ks (L.map (·.2.1)) = none → ∀ (H' : Hp) (sy : Addr), (∀ c u, c ≠ o → H c = some u → H' c = some u) → RowAt K C CT o dx t sy ks ps L H' → Q .non H') ∧
  (∀ x, unkn ks (L.map (·.2.1)) = some x → ∀ (d : Addr) (H' : Hp), H d = none → Same H H' → H' d = some (.xd [("name", .str x)]) → E (.ref CU) (some d) H')
theorem unkn_none {ks ns : List Str} (h : unkn ks ns = none) : ∀ x ∈ ns, x ∈ ks := fun x hx => by
  have z := List.find?_eq_none.mp h x hx
  simpa using z
theorem refs_at {L : SyL} {i : Nat} {v : V} (h : (refsOf L)[i]? = some v) : ∃ e, L[i]? = some e ∧ v = V.ref e.1 := by
  rw [List.getElem?_map] at h
  cases q : L[i]? with
  | none => rw [q] at h; cases h
  | some z => rw [q] at h; exact ⟨z, rfl, (Option.some.inj h).symm⟩
section
variable {P : Program} {w : World} {K : PySem.W.Frag} {mg : Str → Option Value} {base : Heap}
theorem okRowIni {f fR C CT CU : Addr} {fd fdR : FuncData} {dvs : List V} {kws : List (Str × V)} (F : FunD K "__init__" "Row.__init__" (defArgs sRowIni) (defBody sRowIni) (defScope sRowIni) dvs kws f fd) (c : Cls K C) (n1 : NoAttr K C "table") (n2 : NoAttr K C "syllables")
    (GR : FnOk P w K mg base (L2.CX P w) 3 fR fdR ["table", "names"] (spReq K CT CU)) (mR : mg "require_kinds" = some (.ref fR)) (kR : keepIn K (.ref fR) = true) (bR : Binds K fdR ["table", "names"] []) (mT : mg "tuple" = none) :
    FnOk P w K mg base (L2.CX P w) 4 f fd ["self", "table", "syllables"] (spRowIni K C CT CU) := by
  refine F.ok scRowIni (fun vs H Q E h => ?_) (fun cdv A outer s H vs Q E hr h => ?_)
  · obtain ⟨o, t, b, dx, ks, ps, L, rfl, _⟩ := h
    rfl
  refine ⟨_, pss_cons (ps_expr (pe_callS GR hr rfl mR kR bR (fun σ => passAt (takes_of rfl rfl rfl rfl) σ) (pa_cons (pv 1) (pa_cons
        (pe_lc (own := [("kind", 3), ("_", 4)]) (g := gTup K 2 (gCons (gName 3) (gCons (gName 4) gNil))) (tt := tYes) rfl scRowIni.nd (pi_or (pi_list (pv 2)) (pi_tup (pv 2))) (blkOk_by (N := ["self", "table", "syllables", "kind", "_"]) (sc := defScope sRowIni) (by decide +kernel))
          (fun _ _ _ _ _ => pg_tup rfl (pgs_cons (pg_name (i := 3) scRowIni.nd rfl (Or.inl rfl)) (pgs_cons (pg_name (i := 4) scRowIni.nd rfl (Or.inl rfl)) pgs_nil)))
          (fun _ _ _ _ _ => pts_nil) (fun _ _ _ _ _ => pv 3)) pa_nil))))
    (pss_cons (ps_fld (pv 0) (pv 1) rfl)
    (pss_one (ps_fld (pv 0) (pe_callTy call_tuple_of rfl mT PyProof.Rows.Boot.«tuple» (pa_cons (pv 2) pa_nil)) rfl))), ?_⟩
  obtain ⟨o, t, b, dx, ks, ps, L, rfl, hO, hT, hb, hL, hz, q0, qE⟩ := h
  refine ⟨_, rfl, or_walk (i := 2) rfl hb fun J G wk gs D hD => ?_⟩
  refine lc_it wk (fun i H' => Same H H' ∧ H' D = some (.lst (((L.take i).map (·.2.1)).map V.str))) ⟨sameNew hD, upd_same⟩ (fun i H' _ z => gs H' z.1) ?_ ?_
  · rintro i x H1 H2 hi ⟨s1, d1⟩ ⟨rfl, hx⟩
    rw [List.length_map] at hi
    obtain ⟨e, he, rfl⟩ := refs_at hx
    have tk : L.take (i + 1) = L.take i ++ [e] := by rw [List.take_succ, he]; rfl
    refine ⟨e.1, _, rfl, Same.tup s1 (hL e (List.mem_of_getElem? he)), rfl, _, _, rfl, _, _, rfl, rfl, rfl, ?_⟩
    dsimp only [tYes]
    rw [if_pos rfl]
    refine ⟨_, rfl, _, d1, ?_, Same.upd s1 hD, ?_⟩
    · rw [List.length_map, List.length_map, List.length_take]
      omega
    · rw [tk, List.map_append, List.map_append]
      exact upd_same
  · rintro H1 ⟨s1, d1⟩
    rw [List.length_map, List.take_length] at d1
    refine ⟨t, D, ks, L.map (·.2.1), ps, rfl, hT.same s1, .inl (SqL.of d1), fun un H2 s2 => ?_, fun x hx d H' n s e => qE x hx d H' (s1.free n) (s1.trans s) e⟩
    have s12 := s1.trans s2
    refine ⟨_, rfl, _, rfl, o, C, dx, [], rfl, s12 o _ hO, c, n1, by decide, ?_⟩
    have f3 : ∀ c u, c ≠ o → H c = some u → upd H2 o (.ins C dx (putF "table" (.ref t) [])) c = some u := fun c u hc e => by rw [upd_ne hc]; exact s12 c u e
    have o3 : upd H2 o (.ins C dx (putF "table" (.ref t) [])) o = some (.ins C dx [("table", .ref t)]) := upd_same
    generalize upd H2 o (.ins C dx (putF "table" (.ref t) [])) = H3 at f3 o3
    have fin : ∀ (p : Addr) (H4 : Hp), (∀ c u, c ≠ o → H c = some u → H4 c = some u) → H4 o = some (.ins C dx [("table", .ref t)]) → SqT K H4 p (refsOf L) → Q .non (upd H4 o (.ins C dx (putF "syllables" (.ref p) [("table", .ref t)]))) := fun p H4 f4 o4 hp => by
      have f5 : ∀ c u, c ≠ o → H c = some u → upd H4 o (.ins C dx (putF "syllables" (.ref p) [("table", .ref t)])) c = some u := fun c u hc e => by rw [upd_ne hc]; exact f4 c u hc e
      have o5 : upd H4 o (.ins C dx (putF "syllables" (.ref p) [("table", .ref t)])) o = some (.ins C dx [("table", .ref t), ("syllables", .ref p)]) := upd_same
      have g : ∀ u, H4 p = some u → u ≠ .ins C dx [("table", .ref t)] → upd H4 o (.ins C dx (putF "syllables" (.ref p) [("table", .ref t)])) p = some u := fun u e n => by rw [upd_ne fun z => n (by rw [z, o4] at e; exact (Option.some.inj e).symm)]; exact e
      have p5 : SqT K (upd H4 o (.ins C dx (putF "syllables" (.ref p) [("table", .ref t)]))) p (refsOf L) := by
        rcases hp with (h | ⟨q, h⟩) | h
        · exact .inl (.inl (g _ h fun z => nomatch z))
        · exact .inl (.inr ⟨q, g _ h fun z => nomatch z⟩)
        · exact .inr h
      exact q0 un _ p f5 ⟨o5, hT.off hO f5, p5, fun e he => sqT_off hO f5 (hL e he), fun e he => unkn_none un _ (List.mem_map.mpr ⟨e, he, rfl⟩)⟩
    refine ⟨_, rfl, b, refsOf L, rfl, ?_⟩
    rcases SqA.off hO f3 hb with h | h
    · refine .inl ⟨h, fun l hl => ⟨_, rfl, o, C, dx, _, rfl, sameNew hl _ _ o3, c, n2, by show 1 < 1000; decide, fin l _ (fun c u hc e => sameNew hl _ _ (f3 c u hc e)) (sameNew hl _ _ o3) (SqT.of upd_same)⟩⟩
    · exact .inr ⟨h, _, rfl, o, C, dx, _, rfl, o3, c, n2, by show 1 < 1000; decide, fin b _ f3 o3 h⟩
end
end L2.Und
end

section
set_option Elab.async false
set_option linter.all false
set_option maxRecDepth 100000
set_option maxHeartbeats 4000000
namespace L2.Und
open PySem PySem.Spec PyProof.Rows _root_.Und
open PySem.W (findIn keepIn typeIn subIn)
/-! ### defs with a star parameter: the promise, and a method of this kind called inside a try -/
section
variable {P : Program} {w : World} {K : PySem.W.Frag} {mg : Str → Option Value} {base : Heap}
/-- a def f(a, .., *v) that may raise -/
theorem okStarX {x qual pv : Str} {st : Stmt} {f : Addr} {fd : FuncData} {N ps : List Str} {k : Nat} {sp : Sp} (F : Fun K x qual st f fd) (S : FnScope N (ps ++ [pv]) (defScope st))
    (hb : ∀ us rest : List Value, us.length = ps.length → bindArgs fd ⟨us ++ rest, []⟩ = (newTuple rest >>= fun t => pure (ps.zip us ++ [(pv, t)])))
    (body : ∀ (cdv : Value) (A : Around) (outer : List Env) (s : Shared) (H : Hp) (vs : List V) (Q : VK) (E : XK), Room k (A.deeper (envOfC qual (defScope st) s.heap.objs.size f cdv)) → sp vs H Q E →
      ∃ t, PSs (cxOf (L2.CX P w) P w K mg base N qual (defScope st) f cdv A outer s H E) (defBody st) t ∧ t { nx := fun _ H' => Q .non H', rt := Q } (start N vs) H) :
    FnR P w K mg base (L2.CX P w) (k + 1) f (fun vs H Q E => ∃ ws rest, vs = ws ++ rest ∧ ws.length = ps.length ∧ rest.length ≤ sizeLine ∧ ∀ p, H p = Option.none → sp (ws ++ [V.ref p]) (upd H p (.tup rest)) Q E) := by
  obtain ⟨oc, od, kV, doc, pm, an, cdv, ct, osl, rfl, lk, hcd⟩ := F.ex
  exact StX.fn_star lk hcd S StX.cxUp hb fun A outer s H vs Q E hr h => body cdv A outer s H vs Q E hr h
end
section
variable {X : Cx} {CX : CXT} {k : Nat} {f C : Addr} {sp : Sp} {E : St → XK} {m : Str} {o e : Expr} {es : List Expr} {apos pos : Pos} {ta : TE} {t : TA}
theorem callAtR (F : FnR X.prog X.w X.K X.mg X.base CX k f sp) (hr : Room k X.A) {pins : List (Addr × Obj)} {σ : St} (hx : PassesAt CX X σ (E σ)) {H : Hp} {s : Shared} {vs : List V} {us : List Value} {Q : VK}
    (I : Inv X pins σ H s) (r : Vals vs us) (h : sp vs H Q (E σ)) : wpAny (model X.prog X.w) X.A (call (.ref f) us) (EP X pins σ Q) X.xe s := by
  apply wpAny_call
  refine codeAny_mono (F X.A X.stack s H us vs Q (E σ) hr I.env0 r h) fun res s' z => ?_
  match res, z with
  | .error e, z => exact hx pins H s e s' I z
  | .ok (.ret u), z => exact I.after z
theorem peMethRS {pl : Sem Bool} (he : PE X o ta) (c : Cls X.K C) (hm : Meth X.K C m f) (F : FnR X.prog X.w X.K X.mg X.base CX k f sp) (hr : Room k X.A) (hx : ∀ σ, PassesAt CX X σ (E σ)) (ha : PA X (e :: es) t)
    (st : starEach (e :: es) X.env = (false, eval e X.env) :: starEach es X.env := by rfl) (pn : (backTo pos (starEach es X.env)).any (·.1) = false := by rfl)
    (ht : eval (.Call (.Attribute o m apos) (e :: es) [] pos) X.env = (do
      let r ← eval o X.env
      standAt apos.atName
      let (g, first) ← holding [r] (getMethod r m pl)
      callWith pos g first (backTo pos (starEach (e :: es) X.env)) (backToKw pos (keywordEach [] X.env))) := by rfl) :
    PE X (.Call (.Attribute o m apos) (e :: es) [] pos) (tMethS C m sp E ta t) := by
  constructor
  intro pins s σ H Q I h
  refine PySem.W.methodCall_KW (pl := pl) (thn (he.run pins s σ H _ I h) fun u s1 z => ?_) ht
  obtain ⟨x, H1, I1, rx, a, dx, fs, rfl, ea, l, q⟩ := z
  obtain rfl : u = Value.ref a := rx
  apply getmeth_ok I1 ea c hm l
  refine PySem.W.callWith_K (first := [.ref a]) (h₀ := X.base) I.ok.mod.kin hm.kp (thn (ha.run pos pins s1 σ H1 _ I1 q) fun us s2 y => ?_) st pn
  obtain ⟨vs, H2, I2, r, q2⟩ := y
  exact ⟨I2.kIn, callAtR (vs := .ref a :: vs) F hr (hx σ) I2 (.cons (relRef a) r) q2⟩
end
end L2.Und
end

section
set_option Elab.async false
set_option linter.all false
set_option maxRecDepth 100000
set_option maxHeartbeats 4000000
namespace L2.Und
open PySem PySem.Spec PyProof.Rows _root_.Und
open PySem.W (findIn keepIn typeIn subIn)
/-! ### try whose clauses, some with a name, some without, catch whatever the body lets out -/
/-- a clause: what it names, where its name lives, what its suite does -/
structure Clz where
  ty : Value
  at_ : Option Nat
  act : Addr → Value → Option Addr → TS
def gone (j : Option Nat) (σ : St) : St := j.elim σ fun i => σ.set i none
def held (j : Option Nat) (a : Addr) (σ : St) : St := j.elim σ fun i => σ.set i (some (.ref a))
def Ends.via (D : Ends) (f : St → St) : Ends := ⟨fun σ => D.nx (f σ), D.rt, fun σ => D.bk (f σ), fun σ => D.ct (f σ)⟩
/-- the first clause that matches acts; some clause matches -/
def wClz (K : PySem.W.Frag) (D : Ends) : List Clz → WX
  | [] => fun _ _ _ _ => False
  | z :: r => fun cls d σ H => ∃ b, PySem.W.exmOne K cls z.ty = some b ∧ if b then ∀ a, H a = none → z.act a cls d (Ends.via D (gone z.at_)) (held z.at_ a σ) H else wClz K D r cls d σ H
/-- a suite, whatever error it stands for -/
def SuiteOk (X : Cx) (ss : List Stmt) (act : Addr → Value → Option Addr → TS) : Prop :=
  ∀ (a : Addr) (oe : Obj) (cls : Value) (d : Option Addr) (pn : List (Addr × Obj)), Zc cls d oe → (∃ vs, oe.data = .fields vs) → PSs (X.suite a ((a, oe) :: pn)) ss (act a cls d)
/-- a body, whatever is wished of what it lets out -/
def BodyOk (X : Cx) (ss : List Stmt) (tb : WX → TS) : Prop := ∀ (W : WX) (qs : List (Addr × Obj)) (ex : Value → Shared → Prop), Takes (X.tr qs ex) W → PassesOwn (model X.prog X.w) X.A X.env ex → PSs (X.tr qs ex) ss (tb W)
inductive ClzOk (X : Cx) : List ExceptHandler → List Clz → Prop
  | rest {hds : List ExceptHandler} : ClzOk X hds []
  | bare {x : Str} {c : Value} {act : Addr → Value → Option Addr → TS} {st : Stmt} {ss : List Stmt} {p q : Pos} {hds : List ExceptHandler} {l : List Clz} (nm : Names X x c) (su : SuiteOk X (st :: ss) act) (r : ClzOk X hds l) :
      ClzOk X (.ExceptHandler (some (.Name x p)) none (st :: ss) q :: hds) (⟨c, none, act⟩ :: l)
  | named {x n : Str} {i : Nat} {c : Value} {act : Addr → Value → Option Addr → TS} {st : Stmt} {ss : List Stmt} {p q : Pos} {hds : List ExceptHandler} {l : List Clz} (nd : X.N.Nodup) (hi : X.N[i]? = some n) (hl : X.env.kindOf n = some .local) (nm : Names X x c)
      (su : SuiteOk X (st :: ss) act) (r : ClzOk X hds l) : ClzOk X (.ExceptHandler (some (.Name x p)) (some n) (st :: ss) q :: hds) (⟨c, some i, act⟩ :: l)
/-- an error that has come to the try: w0 is the state without it -/
structure Come (X : Cx) (ps : List (Addr × Obj)) (σ : St) (H : Hp) (a : Addr) (cls : Value) (d : Option Addr) (B : Heap) (w0 w1 : Shared) : Prop where
  inv : Inv X ps σ H w0
  keeps : ∀ b o, w0.heap.get? b = some o → b ∉ frs X.stack → B.get? b = some o
  upto : w0.heap.UpToSlots w1.heap
  air : HandSPX.FlyingZ B (X.env :: X.outer) a (Zc cls d) w1.heap
  new : H a = none
  os : w1.os = w0.os
  bare : AllBare w1.gens
section
variable {X : Cx} {ps : List (Addr × Obj)} {σ : St} {H : Hp} {a : Addr} {cls : Value} {d : Option Addr} {B : Heap} {w0 w1 : Shared}
theorem Come.here (C : Come X ps σ H a cls d B w0 w1) : Inv X ps σ H w1 := C.inv.landed C.keeps C.air.1 C.upto C.os C.bare
theorem Come.moved {h : Heap} (C : Come X ps σ H a cls d B w0 w1) (f : HandSPX.FlyingZ B (X.env :: X.outer) a (Zc cls d) h) (u : w1.heap.UpToSlots h) : Come X ps σ H a cls d B w0 { w1 with heap := h } :=
  ⟨C.inv, C.keeps, C.upto.trans u, f, C.new, C.os, C.bare⟩
/-- in the suite's own context -/
theorem Come.inside (C : Come X ps σ H a cls d B w0 w1) (hf : X.env.frame = some X.env.locals) :
    ∃ oe, w1.heap.get? a = some oe ∧ Zc cls d oe ∧ (∃ vs, oe.data = .fields vs) ∧ Inv (X.suite a ((a, oe) :: (X.pn ++ ps))) [] σ H w1 := by
  obtain ⟨oe, vs, he, hz, hd⟩ := C.air.there
  have out : a ∉ frs (X.env :: X.outer) := fun m => by
    obtain ⟨_, ob, eb, nb⟩ := C.air.2.2.1.mem m
    rw [he] at eb
    exact nb vs (Option.some.inj eb ▸ hd)
  refine ⟨oe, he, hz, ⟨vs, hd⟩, C.here.suite he hd C.new (fun e => out ?_) fun m => out ?_⟩
  · rw [e]
    exact List.mem_filterMap.mpr ⟨X.env, by simp, hf⟩
  · obtain ⟨v, hv, e⟩ := List.mem_filterMap.mp m
    exact List.mem_filterMap.mpr ⟨v, by simp [hv], e⟩
/-- the clause's test -/
theorem Come.test (C : Come X ps σ H a cls d B w0 w1) (hf : X.env.frame = some X.env.locals) {x : Str} {c : Value} {p : Pos} {b : Bool} {R : Bool → Shared → Prop} {E F : Value → Shared → Prop} (nm : Names X x c) (e : PySem.W.exmOne X.K cls c = some b) (q : R b w1) :
    wpAny (model X.prog X.w) (X.A.mark (some (.ref a))) (eval (.Name x p) X.env) (fun v s => wpAny (model X.prog X.w) (X.A.mark (some (.ref a))) (excMatches (.ref a) v) R E s) F w1 := by
  obtain ⟨oe, he, hz, _, S⟩ := C.inside hf
  have looks : PySem.W.Looks (model X.prog X.w) w1.heap (typeOf (.ref a)) cls := fun A Q E s k z => wpAny_typeOf_ref (k a oe he) (by rw [hz.1]; exact z)
  have m := (PySem.W.exm_one (M := model X.prog X.w) C.here.kIn looks e).here (A := X.A.mark (some (.ref a))) (E := E) q
  rcases nm with ⟨g, nd, k | ⟨k, v, nn⟩⟩
  · exact ld_glob S g k m nd
  · exact ld_blt S g k v m nn nd
end
section
variable {X : Cx} {ps : List (Addr × Obj)} {D : Ends}
/-- what a suite leaves, outside of it -/
theorem SP.outOf (ok : X.Ok) {a : Addr} {oe : Obj} {pn : List (Addr × Obj)} {D' : Ends} {f : Flow} {s : Shared} (z : SP (X.suite a ((a, oe) :: (X.pn ++ ps))) pn D' f s) : SP X ps D' f s := by
  cases f <;> simp only [SP] at z ⊢
  case next => exact z.elim fun σ z => z.elim fun H z => ⟨σ, H, z.1.unsuite ok, z.2⟩
  case brk => exact z.elim fun σ z => z.elim fun H z => ⟨σ, H, z.1.unsuite ok, z.2⟩
  case cont => exact z.elim fun σ z => z.elim fun H z => ⟨σ, H, z.1.unsuite ok, z.2⟩
  case ret => exact z.elim fun v z => z.elim fun σ z => z.elim fun H z => ⟨v, σ, H, z.1.unsuite ok, z.2⟩
/-- the clause's name goes, whatever way the suite ended -/
theorem SP.drop {M : Model} {A : Around} {E : Value → Shared → Prop} {i : Nat} {n : Str} {pos : Pos} (nd : X.N.Nodup) (hi : X.N[i]? = some n) (hl : X.env.kindOf n = some .local) {f : Flow} {s : Shared} (z : SP X ps (Ends.via D (gone (some i))) f s) :
    wpAny M A (do bindName X.env n .none; unbindBehindTheSuite X.env n pos) (fun _ s' => SP X ps D f s') E s := by
  cases f <;> simp only [SP] at z ⊢
  case next => exact z.elim fun σ z => z.elim fun H z => gone_ok z.1 nd hi hl fun s' J => ⟨_, H, J, z.2⟩
  case brk => exact z.elim fun σ z => z.elim fun H z => gone_ok z.1 nd hi hl fun s' J => ⟨_, H, J, z.2⟩
  case cont => exact z.elim fun σ z => z.elim fun H z => gone_ok z.1 nd hi hl fun s' J => ⟨_, H, J, z.2⟩
  case ret => exact z.elim fun v z => z.elim fun σ z => z.elim fun H z => gone_ok z.1 nd hi hl fun s' J => ⟨v, _, H, J, z.2⟩
theorem clauses (hf : X.env.frame = some X.env.locals) {a : Addr} {cls : Value} {d : Option Addr} {B : Heap} {w0 : Shared} {σ : St} {H : Hp} {hds : List ExceptHandler} {l : List Clz} (k : ClzOk X hds l) :
    ∀ {w1 : Shared}, Come X ps σ H a cls d B w0 w1 → wClz X.K D l cls d σ H → wpAny (model X.prog X.w) X.A (handleBy (.ref a) X.env hds) (SP X ps D) X.xe w1 := by
  induction k with
  | rest => exact fun _ z => z.elim
  | bare nm su _ ih =>
    rintro w1 C ⟨b, e, z⟩
    refine wpAny_handleBy_cons (codeAny_handlers_test (C.test hf nm e ?_)) (fun q => nomatch q)
    cases b
    · exact ih C z
    refine codeAny_handlers_suite (HandSPX.lands_againZ C.air fun h f u => ?_)
    obtain ⟨oe, _, hz, hd, S⟩ := (C.moved f u).inside hf
    exact wpAny_mono ((su a oe cls d (X.pn ++ ps) hz hd).run [] _ _ _ _ S (z a C.new)) (fun g s y => SP.outOf C.inv.ok y) fun _ _ y => y.elim
  | named nd hi hl nm su _ ih =>
    rintro w1 C ⟨b, e, z⟩
    refine wpAny_handleBy_cons (codeAny_handlers_test (C.test hf nm e ?_)) (fun q => nomatch q)
    cases b
    · exact ih C z
    refine codeAny_handlers_suite_as (HandSPX.lands_againZ C.air fun h f u => ?_)
    obtain ⟨oe, _, hz, hd, S⟩ := (C.moved f u).inside hf
    refine store_ok (X := X.suite a ((a, oe) :: (X.pn ++ ps))) (v := .ref a) S nd hi (Or.inl hl) rfl (fun s S' => ?_) (Or.inr hl)
    exact wpAny_mono ((su a oe cls d (X.pn ++ ps) hz hd).run [] _ _ _ _ S' (z a C.new)) (fun g s y => SP.drop nd hi hl (SP.outOf C.inv.ok y)) fun _ _ y => y.elim
end
/-- what comes of an error at the clauses -/
abbrev asked (X : Cx) (hds : List ExceptHandler) (Q : Flow → Shared → Prop) (e : Value) (s : Shared) : Prop :=
  wpAny (model X.prog X.w) X.A (noteFrame e X.env) (fun _ s => wpAny (model X.prog X.w) X.A (setFlight e none) (fun _ s => wpAny (model X.prog X.w) X.A (handleBy e X.env hds) Q X.xe s) X.xe s) X.xe s
/-- the try's rule: the body is told what the clauses wish -/
theorem psTry {X : Cx} {body : List Stmt} {hd : ExceptHandler} {hds : List ExceptHandler} {l : List Clz} {pos : Pos} {tb : WX → TS} {W : Ends → WX} (hs : X.stack = X.env :: X.outer) (hf : X.env.frame = some X.env.locals)
    (hb : BodyOk X body tb)
    (k : ClzOk X (hd :: hds) l) (le : ∀ D cls d σ H, W D cls d σ H → wClz X.K D l cls d σ H) : PS X (.Try body (hd :: hds) [] [] pos) (fun D σ H => tb (W D) D σ H) := by
  constructor
  intro ps s σ H D I h
  apply wpAny_Try_except
  have tk : Takes (X.tr (X.pn ++ ps) (asked X (hd :: hds) (SP X ps D))) (W D) := by
    intro u s' y
    obtain ⟨a, B, w0, _, σ', H', cls, d, rfl, J, keeps, upto, sky, new, os, bare, w⟩ := y
    have J := J.ofTry I.ok
    have sky : Sky B X.stack a (Zc cls d) X.env.locals s'.heap := sky
    rw [hs] at sky
    exact Sky.land Zc.steady (I.ok.frames.trans (congrArg some hs)) hf sky fun h3 f3 u3 => clauses (D := D) hf k (w1 := { s' with heap := h3 }) ⟨J, keeps, upto.trans u3, f3, new, os, bare⟩ (le D cls d σ' H' w)
  refine wpAny_mono ((hb (W D) _ _ tk PassesOwn.looking).run [] s σ H D (I.toTry _) h) (fun f s1 z => ?_) fun _ _ z => z
  cases f <;> simp only [SP] at z ⊢
  case next => exact z.elim fun σ z => z.elim fun H z => wpAny_execs_nil ⟨σ, H, z.1.ofTry I.ok, z.2⟩
  case brk => exact z.elim fun σ z => z.elim fun H z => ⟨σ, H, z.1.ofTry I.ok, z.2⟩
  case cont => exact z.elim fun σ z => z.elim fun H z => ⟨σ, H, z.1.ofTry I.ok, z.2⟩
  case ret => exact z.elim fun v z => z.elim fun σ z => z.elim fun H z => ⟨v, σ, H, z.1.ofTry I.ok, z.2⟩
/-- .. whose first clause has a name and catches all -/
def wFirst (K : PySem.W.Frag) (c : Value) (i : Nat) (ts : Addr → Value → Option Addr → TS) (D : Ends) : WX := fun cls d σ H =>
  PySem.W.exmOne K cls c = some true ∧ ∀ a, H a = none → ts a cls d (Ends.via D (gone (some i))) (σ.set i (some (.ref a))) H
theorem psTryFirst {X : Cx} {x n : Str} {c : Value} {i : Nat} {body suite : List Stmt} {b₀ : Stmt} {np pos pos' : Pos} {hds : List ExceptHandler} {tb : WX → TS} {ts : Addr → Value → Option Addr → TS} (hs : X.stack = X.env :: X.outer) (hf : X.env.frame = some X.env.locals)
    (nd : X.N.Nodup) (hi : X.N[i]? = some n) (hl : X.env.kindOf n = some .local) (nm : Names X x c) (hb : BodyOk X body tb)
    (su : SuiteOk X (b₀ :: suite) ts) : PS X (.Try body (.ExceptHandler (some (.Name x np)) (some n) (b₀ :: suite) pos' :: hds) [] [] pos) (fun D σ H => tb (wFirst X.K c i ts D) D σ H) :=
  psTry hs hf hb (.named nd hi hl nm su .rest) fun _ _ _ _ _ z => ⟨true, z.1, z.2⟩
end L2.Und
end

section
set_option Elab.async false
set_option linter.all false
set_option maxRecDepth 100000
set_option maxHeartbeats 4000000
namespace L2.Und
open PySem PySem.Spec PyProof.Rows _root_.Und
/-! ### isinstance of a caught error that has its own dict -/
theorem callIsD {X : Cx} {a D : Addr} {oe : Obj} {cls : Value} {d : Option Addr} {pn : List (Addr × Obj)} (C : ExcC X.K D) (hz : Zc cls d oe) (hf : ∃ vs, oe.data = .fields vs) :
    CallR (X.suite a ((a, oe) :: pn)) (.builtin "isinstance") (fun xs H Q => ∃ (dd : Addr) (fs : List (Str × V)), cls = .ref D ∧ d = some dd ∧ H dd = some (.xd fs) ∧ rIsE X.K D a xs H Q) := by
  intro pins s σ H xs us Q I r h
  obtain ⟨dd, fs, rfl, rfl, hx, c, cv, b, rfl, hcv, e, q⟩ := h
  obtain ⟨u1, u2, rfl, r1, r2⟩ : ∃ u1 u2, us = [u1, u2] ∧ RelV (.ref a) u1 ∧ RelV c u2 := by
    match r with
    | .cons x (.cons y .nil) => exact ⟨_, _, rfl, x, y⟩
  obtain rfl : u1 = Value.ref a := r1
  obtain rfl := hcv _ r2
  have there := (I.pin (a, oe) (List.mem_append_left _ List.mem_cons_self)).1
  obtain ⟨mA, hns, _⟩ := (show ObjOk X.prog X.w H s.heap dd (.xd fs) from I.hok dd _ hx)
  obtain ⟨o2, ho, _⟩ := lookIn_ns hns
  have J : PySem.W.InstAt s.heap a oe D (some o2) := ⟨there, hz.1, by obtain ⟨vs, hv⟩ := hf; unfold PySem.W.notCls; rw [hv] <;> rfl, by rw [hz.2]; exact ho⟩
  have cl : (PySem.W.clsIn X.K D).isSome = true := by
    obtain ⟨cd, hc, _⟩ := PySem.W.any_some C.hd
    rw [hc]
    rfl
  exact PySem.W.kia_one (PySem.W.kitx_exc cl C.hg C.hk C.hs C.ha C.hn C.ht C.hm) I.kIn J e (fun z => nomatch z) fun tk => ⟨.bl b, H, I.kept (t' := tk) fun _ _ z => z, rfl, q⟩
end L2.Und
end

section
set_option Elab.async false
set_option linter.all false
set_option maxRecDepth 100000
set_option maxHeartbeats 4000000
namespace L2.Und
open PySem PySem.Spec PyProof.Rows _root_.Und
open PySem.W (findIn keepIn typeIn subIn)
/-! ### an instance made, by an __init__ that may raise, what it raises wished for at the slots -/
def tMakeS (C : Addr) (sp : Sp) (dvs : List V) (E : St → XK) (t : TA) : TE := fun σ H Q => t σ H fun vs H1 => ∀ x dx, H1 x = none → H1 dx = none → dx ≠ x →
  sp (.ref x :: (vs ++ dvs)) (upd (upd H1 dx (.own x)) x (.ins C dx [])) (fun v H2 => v = .non ∧ Q (.ref x) H2) (E σ)
section
variable {X : Cx} {CX : CXT} {k : Nat} {f C : Addr} {fd : FuncData} {ps : List Str} {sp : Sp} {dvs : List V} {ds : List Value} {E : St → XK} {x : Str} {p pos : Pos} {e : Expr} {es : List Expr} {t : TA}
theorem peMakeS (M : Mk X.K C f) (F : FnOk X.prog X.w X.K X.mg X.base CX k f fd ps sp) (hr : Room (k + 1) X.A) (hg : Gl X x) (hm : X.mg x = some (.ref C)) (hb : Binds X.K fd ps ds) (hd : Vals dvs ds) (hx : ∀ σ, PassesAt CX X σ (E σ))
    (ha : PA X (e :: es) t) (hdb : (x == ("__debug__" : Str)) = false := by decide) (he : starEach (e :: es) X.env = (false, eval e X.env) :: starEach es X.env := by rfl) (hpl : (backTo pos (starEach es X.env)).any (·.1) = false := by rfl) :
    PE X (.Call (.Name x p) (e :: es) [] pos) (tMakeS C sp dvs E t) := by
  refine ⟨fun pins s σ H Q I h => ?_⟩
  refine wpAny_Call_Name_kw (ld_glob I hg hm ?_ hdb)
  refine PySem.W.callWith_K (h₀ := X.base) I.ok.mod.kin M.kp (thn (ha.run pos pins s σ H _ I h) fun us s1 ⟨vs, H1, I1, r, q⟩ => ⟨I1.kIn, ?_⟩) he hpl
  -- the new object and its dict
  obtain ⟨n, en⟩ : ∃ n, n = s1.heap.objs.size := ⟨_, rfl⟩
  have sp1 := q (n + 1) n (I1.hok.fresh (by rw [en]; exact Nat.le_succ _)) (I1.hok.fresh (by rw [en]; exact Nat.le_refl _)) (Nat.ne_of_lt (Nat.lt_succ_self _))
  have I2 := Inv.made (C := C) I1
  rw [← en] at I2
  have r2 : Vals (V.ref (n + 1) :: (vs ++ dvs)) (Value.ref (n + 1) :: (us ++ ds)) := .cons rfl (r.append hd)
  have hl : (Value.ref (n + 1) :: us ++ ds).length = ps.length := r2.length.symm.trans (F.len _ _ _ _ sp1)
  refine wpAny_call (make_map (f := f) I1.kIn M.makes M.init (beq_iff_eq.mp M.fn) ?_)
  rw [← en]
  refine codeAny_mono (F.run _ X.stack _ _ ⟨Value.ref (n + 1) :: us, []⟩ (Value.ref (n + 1) :: (us ++ ds)) _ _ (E σ) (hr.make C us []) (I2.env0.make C us []) (hb _ (Value.ref (n + 1) :: us) I2.kIn hl) r2 sp1) fun res s' z => ?_
  cases res with
  | error er => exact hx σ pins _ _ er s' I2 z
  | ok fl =>
    cases fl with
    | ret u =>
      obtain ⟨v, H', I3, rv, ev, q3⟩ := I2.after z
      subst ev
      exact ⟨rv, ⟨V.ref (n + 1), H', I3, rfl, q3⟩⟩
    | next => exact z.elim
    | brk => exact z.elim
    | cont => exact z.elim
end
end L2.Und
end

section
set_option Elab.async false
set_option linter.all false
set_option maxRecDepth 100000
set_option maxHeartbeats 1000000
namespace L2.Und
open PySem PySem.Spec PyProof.Rows _root_.Und
open L2.KS
open PySem.W (findIn keepIn typeIn subIn)
/-! ### rows: what the methods share -/
theorem same_made {H : Hp} {x dx : Addr} {C : Addr} (hx : H x = none) (hd : H dx = none) (ne : dx ≠ x) : Same H (upd (upd H dx (.own x)) x (.ins C dx [])) :=
  (sameNew (o := .own x) hd).trans (sameNew (by rw [upd_ne fun z => ne z.symm]; exact hx))
theorem same_off {H H1 H2 : Hp} {x : Addr} (hx : H x = none) (s : Same H H1) (f : ∀ c u, c ≠ x → H1 c = some u → H2 c = some u) : Same H H2 := fun b u e => f b u (fun z => by rw [z, hx] at e; cases e) (s b u e)
/-- the first that is no index -/
def badIx (n : Nat) (is : List Int) : Option Int := is.find? fun i => !isAt i n
theorem unkn_sub {ks : List Str} {L : SyL} (h : ∀ e ∈ L, e.2.1 ∈ ks) : unkn ks (L.map (·.2.1)) = none := List.find?_eq_none.mpr fun x hx => by
  obtain ⟨e, he, rfl⟩ := List.mem_map.mp hx
  simpa using h e he
theorem cutDropA {α : Type} (f : α → V) (xs : List α) (r : Nat) : cutV (xs.map f) (some (r : Int)) none = (xs.drop r).map f := by
  have e : HT.sIx (xs.map f).length 0 (some (r : Int)) = min r xs.length := by rw [List.length_map]; exact HT.sIx_nat xs.length 0 r
  unfold cutV
  rw [e, HT.sIx_none, List.length_map, List.map_drop]
  have : (xs.length - min r xs.length) = (List.drop (min r xs.length) (xs.map f)).length := by rw [List.length_drop, List.length_map]
  rw [this, List.take_length]
  by_cases h : r ≤ xs.length
  · rw [Nat.min_eq_left h]
  · rw [Nat.min_eq_right (by omega), List.drop_of_length_le (by simp), List.drop_of_length_le (by simp; omega)]
/-- an item moved -/
def shiftAt {α : Type} (L : List α) (i j : Nat) : List α := (L.take i ++ L.drop (i + 1)).take j ++ ((L[i]?).toList ++ (L.take i ++ L.drop (i + 1)).drop j)
theorem mem_shiftAt {α : Type} {L : List α} {i j : Nat} {x : α} (h : x ∈ shiftAt L i j) : x ∈ L := by
  unfold shiftAt at h
  have sub : ∀ y ∈ L.take i ++ L.drop (i + 1), y ∈ L := fun y hy => (List.mem_append.mp hy).elim (fun z => List.mem_of_mem_take z) fun z => List.mem_of_mem_drop z
  rcases List.mem_append.mp h with h | h
  · exact sub _ (List.mem_of_mem_take h)
  rcases List.mem_append.mp h with h | h
  · exact List.mem_of_getElem? (Option.mem_toList.mp h)
  · exact sub _ (List.mem_of_mem_drop h)
theorem len_shiftAt {α : Type} {L : List α} {i j : Nat} (h : i < L.length) : (shiftAt L i j).length = L.length := by
  unfold shiftAt
  rw [List.getElem?_eq_getElem h]
  simp only [List.length_append, List.length_take, List.length_drop, Option.toList_some, List.length_singleton]
  omega
theorem map_shiftAt {α β : Type} (f : α → β) (L : List α) (i j : Nat) : (shiftAt L i j).map f = shiftAt (L.map f) i j := by
  unfold shiftAt
  rw [List.getElem?_map]
  cases L[i]? <;> simp [List.map_take, List.map_drop]
theorem atI_map {α : Type} (f : α → V) {xs : List α} {i : Nat} {x : α} (h : xs[i]? = some x) : atI (xs.map f) (i : Int) = some (f x) := by
  have hl : i < xs.length := (List.getElem?_eq_some_iff.mp h).1
  unfold atI ixN
  rw [if_pos (Int.natCast_nonneg i), List.length_map, if_pos (by omega)]
  show (xs.map f)[(i : Int).toNat]? = _
  rw [Int.toNat_natCast, List.getElem?_map, h]
  rfl
theorem badIx_nil {n : Nat} {is : List Int} (h : badIx n is = none) : ∀ i ∈ is, isAt i n = true := fun i hi => by
  have z := List.find?_eq_none.mp h i hi
  simpa using z
/-- what is left of the first n items, where the indexes are gone -/
def leftTo {α : Type} (gone : List Int) (L : List α) (n : Nat) : List α := (List.range n).filterMap fun k : Nat => if (k : Int) ∈ gone then none else L[k]?
def leftOf {α : Type} (gone : List Int) (L : List α) : List α := leftTo gone L L.length
theorem leftTo_in {α : Type} {gone : List Int} {L : List α} {n : Nat} (h : (n : Int) ∈ gone) : leftTo gone L (n + 1) = leftTo gone L n := by
  unfold leftTo
  rw [List.range_succ, List.filterMap_append]
  simp [h]
theorem leftTo_out {α : Type} {gone : List Int} {L : List α} {n : Nat} {x : α} (h : (n : Int) ∉ gone) (hx : L[n]? = some x) : leftTo gone L (n + 1) = leftTo gone L n ++ [x] := by
  unfold leftTo
  rw [List.range_succ, List.filterMap_append]
  simp [h, hx]
theorem len_leftTo {α : Type} {gone : List Int} {L : List α} : ∀ n : Nat, (leftTo gone L n).length ≤ n
  | n => by
    unfold leftTo
    have := List.length_filterMap_le (fun k : Nat => if (k : Int) ∈ gone then none else L[k]?) (List.range n)
    rwa [List.length_range] at this
theorem mem_leftTo {α : Type} {gone : List Int} {L : List α} {n : Nat} {x : α} (h : x ∈ leftTo gone L n) : x ∈ L := by
  unfold leftTo at h
  obtain ⟨k, _, hk⟩ := List.mem_filterMap.mp h
  by_cases g : (k : Int) ∈ gone
  · rw [if_pos g] at hk; cases hk
  · rw [if_neg g] at hk
    exact List.mem_of_getElem? hk
theorem map_leftTo {α β : Type} (f : α → β) (gone : List Int) (L : List α) (n : Nat) : (leftTo gone L n).map f = leftTo gone (L.map f) n := by
  unfold leftTo
  rw [List.map_filterMap]
  congr 1
  funext k
  by_cases g : (k : Int) ∈ gone
  · rw [if_pos g, if_pos g]; rfl
  · rw [if_neg g, if_neg g, List.getElem?_map]
theorem map_leftOf {α β : Type} (f : α → β) (gone : List Int) (L : List α) : (leftOf gone L).map f = leftOf gone (L.map f) := by
  unfold leftOf
  rw [map_leftTo, List.length_map]
theorem inInts (x : Int) : ∀ ks : List Int, inV (.int x) (ks.map V.int) = decide (x ∈ ks)
  | [] => rfl
  | y :: ks => by
    have ih := inInts x ks
    unfold inV at ih ⊢
    rw [List.map_cons, List.any_cons, ih]
    show ((y == x) || decide (x ∈ ks)) = decide (x ∈ y :: ks)
    by_cases h : y = x
    · subst h; simp
    · have h' : ¬ x = y := fun z => h z.symm
      simp [h, h']
theorem flatInts : ∀ ks : List Int, (ks.map V.int).all flatV = true
  | [] => rfl
  | _ :: ks => by
    rw [List.map_cons, List.all_cons, flatInts ks]
    rfl
theorem RowAt.names {K : PySem.W.Frag} {C CT o dx t sy : Addr} {ks : List Str} {ps : List (Str × Str)} {L : SyL} {H : Hp} (R : RowAt K C CT o dx t sy ks ps L H) : ∀ e ∈ sylsOf L, PyData.strOk e.1 = true := fun e he => by
  obtain ⟨x, hx, rfl⟩ := List.mem_map.mp he
  obtain ⟨_, _, _, _, _, _, _, T⟩ := R.tab
  exact name_ok ((kinds_ok T.good).nm _ (R.known x hx))
theorem RowAt.fld' {K : PySem.W.Frag} {C CT o dx t sy : Addr} {ks : List Str} {ps : List (Str × Str)} {L : SyL} {H : Hp} (R : RowAt K C CT o dx t sy ks ps L H) : Dp K H (.ref sy) (.tuple ((sylsOf L).map dSyl)) := .tup R.syl R.each.dp
/-- syllables undone -/
def undoneS (l : List (Str × Int)) : List (Str × Int) := l.reverse.map fun e => (e.1, -e.2)
end L2.Und
end

section
set_option Elab.async false
set_option linter.all false
set_option maxRecDepth 100000
set_option maxHeartbeats 1000000
/-! ### forms of rows: piles -/
namespace FM
open PySem
abbrev Syl := Str × Int
abbrev Pile := List (Nat × Int)
abbrev Piles := Str → Pile
/-- the layer above that of the topmost one (the first of a pile) -/
def ht : Pile → Nat
  | [] => 0
  | (l, _) :: _ => l + 1
def maxOf (l : List Nat) : Nat := l.foldr max 0
theorem le_maxOf {l : List Nat} {x : Nat} (h : x ∈ l) : x ≤ maxOf l := by
  induction l with
  | nil => cases h
  | cons a l ih =>
    show x ≤ max a (maxOf l)
    rcases List.mem_cons.mp h with rfl | h
    · exact Nat.le_max_left _ _
    · exact Nat.le_trans (ih h) (Nat.le_max_right _ _)
theorem maxOf_mem (l : List Nat) : maxOf l = 0 ∨ maxOf l ∈ l := by
  induction l with
  | nil => exact .inl rfl
  | cons a l ih =>
    show max a (maxOf l) = 0 ∨ max a (maxOf l) ∈ a :: l
    rcases Nat.le_total a (maxOf l) with h | h
    · rw [Nat.max_eq_right h]
      rcases ih with e | e
      · exact .inl e
      · exact .inr (List.mem_cons_of_mem _ e)
    · rw [Nat.max_eq_left h]
      exact .inr List.mem_cons_self
theorem maxOf_le {l : List Nat} {m : Nat} (h : ∀ x ∈ l, x ≤ m) : maxOf l ≤ m := by
  rcases maxOf_mem l with e | e
  · rw [e]; exact Nat.zero_le _
  · exact h _ e
structure Tab where
  ks : List Str
  fr : Str → Str → Bool
  sym : ∀ a b, fr a b = fr b a
  irr : ∀ a, fr a a = false
variable (T : Tab)
def Tab.stops (k : Str) : List Str := T.ks.filter fun x => !T.fr k x
theorem Tab.mem_stops {k x : Str} : x ∈ T.stops k ↔ x ∈ T.ks ∧ T.fr k x = false := by
  unfold Tab.stops
  rw [List.mem_filter]
  simp
def lay (s : Piles) (k : Str) : Nat := maxOf ((T.stops k).map fun x => ht (s x))
def put (p : Pile) (L : Nat) (n : Int) : Pile := match p with
  | [] => if n = 0 then [] else [(L, n)]
  | (l, a) :: r => if l + 1 = L then (if n + a = 0 then r else (l, n + a) :: r) else (if n = 0 then (l, a) :: r else (L, n) :: (l, a) :: r)
def set (s : Piles) (k : Str) (p : Pile) : Piles := fun x => if x = k then p else s x
theorem set_same (s : Piles) (k : Str) (p : Pile) : set s k p k = p := if_pos rfl
theorem set_ne {s : Piles} {k x : Str} {p : Pile} (h : x ≠ k) : set s k p x = s x := if_neg h
theorem set_self (s : Piles) (k : Str) : set s k (s k) = s := by
  funext x
  unfold set
  split
  · rename_i h; rw [h]
  · rfl
theorem set_set (s : Piles) (k : Str) (p q : Pile) : set (set s k p) k q = set s k q := by
  funext x
  unfold set
  split <;> rfl
def step (s : Piles) (e : Syl) : Piles := set s e.1 (put (s e.1) (lay T s e.1) e.2)
def pil (row : List Syl) : Piles := row.foldl (step T) fun _ => []
/-- what holds of piles -/
structure Inv (s : Piles) : Prop where
  asc : ∀ k, (s k).Pairwise fun a b => b.1 < a.1
  nz : ∀ k, ∀ e ∈ s k, e.2 ≠ 0
  apart : ∀ k k', k ≠ k' → T.fr k k' = false → ∀ e ∈ s k, ∀ e' ∈ s k', e.1 ≠ e'.1
  held : ∀ k l a, (l + 1, a) ∈ s k → ∃ k', k' ∈ T.ks ∧ k' ≠ k ∧ T.fr k k' = false ∧ ∃ b, (l, b) ∈ s k'
  known : ∀ k, s k ≠ [] → k ∈ T.ks
variable {T}
theorem below {p : Pile} (h : p.Pairwise fun a b => b.1 < a.1) {e : Nat × Int} (m : e ∈ p) : e.1 < ht p := by
  cases p with
  | nil => cases m
  | cons x r =>
    show e.1 < x.1 + 1
    rcases List.mem_cons.mp m with rfl | m
    · exact Nat.lt_succ_self _
    · exact Nat.lt_succ_of_lt ((List.pairwise_cons.mp h).1 e m)
theorem ht_le_lay {s : Piles} {k x : Str} (hx : x ∈ T.ks) (h : T.fr k x = false) : ht (s x) ≤ lay T s k := le_maxOf (List.mem_map.mpr ⟨x, T.mem_stops.mpr ⟨hx, h⟩, rfl⟩)
theorem lay_at (s : Piles) (k : Str) : lay T s k = 0 ∨ ∃ x, x ∈ T.ks ∧ T.fr k x = false ∧ ht (s x) = lay T s k := by
  rcases maxOf_mem ((T.stops k).map fun x => ht (s x)) with e | e
  · exact .inl e
  · obtain ⟨x, hx, e'⟩ := List.mem_map.mp e
    obtain ⟨h1, h2⟩ := T.mem_stops.mp hx
    exact .inr ⟨x, h1, h2, e'⟩
theorem inv_nil : Inv T fun _ => [] := ⟨fun _ => .nil, fun _ _ h => (nomatch h), fun _ _ _ _ _ h => (nomatch h), fun _ _ _ h => (nomatch h), fun _ h => absurd rfl h⟩
/-- a pile whose top is exposed -/
theorem lay_exposed {s : Piles} (I : Inv T s) {k : Str} (hk : k ∈ T.ks) {l : Nat} {a : Int} {r : Pile} (e : s k = (l, a) :: r) (h : l + 1 = lay T s k) : ∀ x, x ∈ T.ks → x ≠ k → T.fr k x = false → ht (s x) ≤ l := by
  intro x hx ne hb
  have h1 := ht_le_lay (s := s) hx hb
  cases ep : s x with
  | nil => exact Nat.zero_le _
  | cons y q =>
    rw [ep] at h1
    have h1 : y.1 + 1 ≤ lay T s k := h1
    have := I.apart k x (fun z => ne z.symm) hb (l, a) (by rw [e]; exact List.mem_cons_self) y (by rw [ep]; exact List.mem_cons_self)
    show y.1 + 1 ≤ l
    have this : l ≠ y.1 := this
    omega
theorem inv_set {s : Piles} (I : Inv T s) {k : Str} {p : Pile} (hk : k ∈ T.ks) (h1 : p.Pairwise fun a b => b.1 < a.1) (h2 : ∀ e ∈ p, e.2 ≠ 0)
    (h3 : ∀ k', k' ≠ k → T.fr k k' = false → ∀ e ∈ p, ∀ e' ∈ s k', e.1 ≠ e'.1)
    (h4 : ∀ l a, (l + 1, a) ∈ p → ∃ k', k' ∈ T.ks ∧ k' ≠ k ∧ T.fr k k' = false ∧ ∃ b, (l, b) ∈ s k')
    (h5 : ∀ k', k' ≠ k → T.fr k k' = false → ∀ l a, (l + 1, a) ∈ s k' → ∀ b, (l, b) ∈ s k → ∃ c, (l, c) ∈ p) : Inv T (set s k p) := by
  refine ⟨fun x => ?_, fun x => ?_, fun x x' ne hb => ?_, fun x l a m => ?_, fun x m => ?_⟩
  · by_cases c : x = k
    · rw [c, set_same]; exact h1
    · rw [set_ne c]; exact I.asc x
  · by_cases c : x = k
    · rw [c, set_same]; exact h2
    · rw [set_ne c]; exact I.nz x
  · by_cases c : x = k
    · have c' : x' ≠ k := fun z => ne (by rw [c, z])
      rw [c, set_same, set_ne c']
      exact h3 x' c' (by rw [← c]; exact hb)
    · by_cases c' : x' = k
      · rw [set_ne c, c', set_same]
        intro e he e' he' z
        exact h3 x c (by rw [T.sym, ← c']; exact hb) e' he' e he z.symm
      · rw [set_ne c, set_ne c']
        exact I.apart x x' ne hb
  · by_cases c : x = k
    · rw [c, set_same] at m
      obtain ⟨k', g1, g2, g3, b, g4⟩ := h4 l a m
      exact ⟨k', g1, by rw [c]; exact g2, by rw [c]; exact g3, b, by rw [set_ne g2]; exact g4⟩
    · rw [set_ne c] at m
      obtain ⟨k', g1, g2, g3, b, g4⟩ := I.held x l a m
      by_cases c' : k' = k
      · rw [c'] at g3 g4
        obtain ⟨d, hd⟩ := h5 x c (by rw [T.sym]; exact g3) l a m b g4
        exact ⟨k, hk, fun z => c z.symm, g3, d, by rw [set_same]; exact hd⟩
      · exact ⟨k', g1, g2, g3, b, by rw [set_ne c']; exact g4⟩
  · by_cases c : x = k
    · rw [c]; exact hk
    · rw [set_ne c] at m
      exact I.known x m
theorem inv_step {s : Piles} (I : Inv T s) {e : Syl} (hk : e.1 ∈ T.ks) : Inv T (step T s e) := by
  obtain ⟨k, n⟩ := e
  have hk : k ∈ T.ks := hk
  obtain ⟨L, eL⟩ : ∃ L, lay T s k = L := ⟨_, rfl⟩
  have up : ∀ x, x ∈ T.ks → T.fr k x = false → ht (s x) ≤ L := fun x h1 h2 => eL ▸ ht_le_lay h1 h2
  have own : ht (s k) ≤ L := up k hk (T.irr k)
  -- a new one on top
  have push : n ≠ 0 → (s k = [] ∨ ht (s k) ≠ L) → Inv T (set s k ((L, n) :: s k)) := fun hn ne => by
    refine inv_set I hk ?_ ?_ ?_ ?_ ?_
    · exact List.pairwise_cons.mpr ⟨fun a ha => Nat.lt_of_lt_of_le (below (I.asc k) ha) own, I.asc k⟩
    · intro a ha
      rcases List.mem_cons.mp ha with rfl | ha
      · exact hn
      · exact I.nz k a ha
    · intro k' ne' hb a ha a' ha' z
      rcases List.mem_cons.mp ha with rfl | ha
      · have hk' : k' ∈ T.ks := I.known k' fun q => by rw [q] at ha'; cases ha'
        have := Nat.lt_of_lt_of_le (below (I.asc k') ha') (up k' hk' hb)
        have z : L = a'.1 := z
        omega
      · exact I.apart k k' (fun q => ne' q.symm) hb a ha a' ha' z
    · intro l a ha
      rcases List.mem_cons.mp ha with q | ha
      · have q : l + 1 = L := congrArg Prod.fst q
        rcases lay_at (T := T) s k with z | ⟨x, x1, x2, x3⟩
        · rw [eL] at z; omega
        · rw [eL] at x3
          have xk : x ≠ k := fun z => by
            rw [z] at x3
            rcases ne with ne | ne
            · rw [ne] at x3
              have x3 : 0 = L := x3
              omega
            · exact ne x3
          refine ⟨x, x1, xk, x2, ?_⟩
          cases ep : s x with
          | nil =>
            rw [ep] at x3
            have x3 : 0 = L := x3
            omega
          | cons y r =>
            rw [ep] at x3
            have x3 : y.1 + 1 = L := x3
            refine ⟨y.2, ?_⟩
            have : (l, y.2) = y := by
              have : l = y.1 := by omega
              rw [this]
            rw [this]
            exact List.mem_cons_self
      · exact I.held k l a ha
    · intro k' _ _ l a _ b hb
      exact ⟨b, List.mem_cons_of_mem _ hb⟩
  show Inv T (set s k (put (s k) (lay T s k) n))
  rw [eL]
  cases ep : s k with
  | nil =>
    show Inv T (set s k (if n = 0 then [] else [(L, n)]))
    by_cases c : n = 0
    · rw [if_pos c, ← ep, set_self]
      exact I
    · rw [if_neg c]
      have := push c (.inl ep)
      rw [ep] at this
      exact this
  | cons y r =>
    obtain ⟨l, a⟩ := y
    show Inv T (set s k (if l + 1 = L then (if n + a = 0 then r else (l, n + a) :: r) else (if n = 0 then (l, a) :: r else (L, n) :: (l, a) :: r)))
    have asc := I.asc k
    rw [ep] at asc
    obtain ⟨asc1, asc2⟩ := List.pairwise_cons.mp asc
    by_cases c : l + 1 = L
    · rw [if_pos c]
      have low := lay_exposed I hk ep (by rw [eL]; exact c)
      by_cases z : n + a = 0
      · rw [if_pos z]
        refine inv_set I hk asc2 (fun e he => I.nz k e (by rw [ep]; exact List.mem_cons_of_mem _ he)) (fun k' ne hb e he => I.apart k k' (fun q => ne q.symm) hb e (by rw [ep]; exact List.mem_cons_of_mem _ he)) (fun l' a' h => I.held k l' a' (by rw [ep]; exact List.mem_cons_of_mem _ h)) ?_
        intro k' ne hb l' a' m b mb
        rw [ep] at mb
        rcases List.mem_cons.mp mb with q | q
        · have q : l' = l := congrArg Prod.fst q
          have hk' : k' ∈ T.ks := I.known k' fun q => by rw [q] at m; cases m
          have b1 := below (I.asc k') m
          have b2 := low k' hk' ne hb
          have b1 : l' + 1 < ht (s k') := b1
          omega
        · exact ⟨b, q⟩
      · rw [if_neg z]
        refine inv_set I hk (List.pairwise_cons.mpr ⟨asc1, asc2⟩) ?_ ?_ ?_ ?_
        · intro e he
          rcases List.mem_cons.mp he with rfl | he
          · exact z
          · exact I.nz k e (by rw [ep]; exact List.mem_cons_of_mem _ he)
        · intro k' ne hb e he e' he'
          rcases List.mem_cons.mp he with rfl | he
          · exact I.apart k k' (fun q => ne q.symm) hb (l, a) (by rw [ep]; exact List.mem_cons_self) e' he'
          · exact I.apart k k' (fun q => ne q.symm) hb e (by rw [ep]; exact List.mem_cons_of_mem _ he) e' he'
        · intro l' a' h
          rcases List.mem_cons.mp h with q | h
          · have q : l' + 1 = l := congrArg Prod.fst q
            exact I.held k l' a (by rw [ep, q]; exact List.mem_cons_self)
          · exact I.held k l' a' (by rw [ep]; exact List.mem_cons_of_mem _ h)
        · intro k' _ _ l' a' _ b mb
          rw [ep] at mb
          rcases List.mem_cons.mp mb with q | q
          · have q : l' = l := congrArg Prod.fst q
            exact ⟨n + a, by rw [q]; exact List.mem_cons_self⟩
          · exact ⟨b, List.mem_cons_of_mem _ q⟩
    · rw [if_neg c]
      by_cases z : n = 0
      · rw [if_pos z, ← ep, set_self]
        exact I
      · rw [if_neg z]
        have := push z (.inr (by rw [ep]; exact c))
        rw [ep] at this
        exact this
theorem inv_fold : ∀ (row : List Syl) (s : Piles), Inv T s → (∀ e ∈ row, e.1 ∈ T.ks) → Inv T (row.foldl (step T) s)
  | [], _, I, _ => I
  | e :: row, s, I, h => inv_fold row (step T s e) (inv_step I (h e List.mem_cons_self)) fun e he => h e (List.mem_cons_of_mem _ he)
theorem inv_pil {row : List Syl} (h : ∀ e ∈ row, e.1 ∈ T.ks) : Inv T (pil T row) := inv_fold row _ inv_nil h
/-! nought, melting, passing -/
theorem step_zero {s : Piles} (I : Inv T s) (k : Str) : step T s (k, 0) = s := by
  show set s k (put (s k) (lay T s k) 0) = s
  have e : put (s k) (lay T s k) 0 = s k := by
    cases ep : s k with
    | nil => rfl
    | cons y r =>
      obtain ⟨l, a⟩ := y
      have := I.nz k (l, a) (by rw [ep]; exact List.mem_cons_self)
      have na : a ≠ 0 := this
      show (if l + 1 = lay T s k then (if 0 + a = 0 then r else (l, 0 + a) :: r) else (if (0 : Int) = 0 then (l, a) :: r else _)) = _
      by_cases c : l + 1 = lay T s k
      · rw [if_pos c, Int.zero_add, if_neg na]
      · rw [if_neg c, if_pos rfl]
  rw [e, set_self]
theorem lay_set {s : Piles} {k k' : Str} {p : Pile} (h : T.fr k k' = true) : lay T (set s k' p) k = lay T s k := by
  unfold lay
  congr 1
  refine List.map_congr_left fun x hx => ?_
  have := (T.mem_stops.mp hx).2
  rw [set_ne fun z => by rw [z, h] at this; cases this]
theorem step_comm {s : Piles} {e e' : Syl} (h : T.fr e.1 e'.1 = true) : step T (step T s e) e' = step T (step T s e') e := by
  have ne : e.1 ≠ e'.1 := fun z => by rw [z, T.irr] at h; cases h
  have h' : T.fr e'.1 e.1 = true := by rw [T.sym]; exact h
  unfold step
  rw [lay_set h', lay_set h, set_ne (fun z => ne z.symm), set_ne ne]
  funext x
  unfold set
  by_cases c : x = e.1
  · rw [if_neg fun z => ne (c.symm.trans z), if_pos c, if_pos c]
  · by_cases c' : x = e'.1
    · rw [if_pos c', if_neg c, if_pos c']
    · rw [if_neg c', if_neg c, if_neg c, if_neg c']
theorem step_merge {s : Piles} (I : Inv T s) {k : Str} (hk : k ∈ T.ks) (n m : Int) : step T (step T s (k, n)) (k, m) = step T s (k, n + m) := by
  by_cases n0 : n = 0
  · rw [n0, step_zero I, Int.zero_add]
  show set (set s k (put (s k) (lay T s k) n)) k (put (set s k (put (s k) (lay T s k) n) k) (lay T (set s k (put (s k) (lay T s k) n)) k) m) = set s k (put (s k) (lay T s k) (n + m))
  rw [set_set, set_same]
  congr 1
  obtain ⟨L, eL⟩ : ∃ L, lay T s k = L := ⟨_, rfl⟩
  have up : ∀ x, x ∈ T.ks → T.fr k x = false → ht (s x) ≤ L := fun x h1 h2 => eL ▸ ht_le_lay h1 h2
  have own : ht (s k) ≤ L := up k hk (T.irr k)
  rw [eL]
  -- the layer above a new top
  have top : ∀ (b : Int) (r : Pile) (l : Nat), (∀ x, x ∈ T.ks → x ≠ k → T.fr k x = false → ht (s x) ≤ l) → lay T (set s k ((l, b) :: r)) k = l + 1 := fun b r l h => by
    refine Nat.le_antisymm (maxOf_le fun y hy => ?_) ?_
    · obtain ⟨x, hx, rfl⟩ := List.mem_map.mp hy
      obtain ⟨g1, g2⟩ := T.mem_stops.mp hx
      by_cases c : x = k
      · rw [c, set_same]
        exact Nat.le_refl _
      · rw [set_ne c]
        exact Nat.le_succ_of_le (h x g1 c g2)
    · have := ht_le_lay (T := T) (s := set s k ((l, b) :: r)) hk (T.irr k)
      rw [set_same] at this
      exact this
  have push : ∀ p : Pile, (∀ x, x ∈ T.ks → T.fr k x = false → ht (s x) ≤ L) → put ((L, n) :: p) (lay T (set s k ((L, n) :: p)) k) m = if n + m = 0 then p else (L, n + m) :: p := fun p h => by
    rw [top n p L fun x h1 _ h2 => h x h1 h2]
    show (if L + 1 = L + 1 then (if m + n = 0 then p else (L, m + n) :: p) else _) = _
    rw [if_pos rfl, Int.add_comm]
  cases ep : s k with
  | nil =>
    show put (if n = 0 then [] else [(L, n)]) (lay T (set s k (if n = 0 then [] else [(L, n)])) k) m = if n + m = 0 then [] else [(L, n + m)]
    rw [if_neg n0]
    exact push [] up
  | cons y r =>
    obtain ⟨l, a⟩ := y
    have asc := I.asc k
    rw [ep] at asc
    obtain ⟨asc1, asc2⟩ := List.pairwise_cons.mp asc
    have na : a ≠ 0 := I.nz k (l, a) (by rw [ep]; exact List.mem_cons_self)
    by_cases c : l + 1 = L
    · have low := lay_exposed I hk ep (by rw [eL]; exact c)
      have e1 : ∀ z : Int, put ((l, a) :: r) L z = if z + a = 0 then r else (l, z + a) :: r := fun z => if_pos c
      rw [e1, e1]
      by_cases z : n + a = 0
      · rw [if_pos z]
        have e2 : n + m + a = m := by omega
        rw [e2]
        -- the layer is that of the one that went
        have hr : ht r ≤ l := by
          cases r with
          | nil => exact Nat.zero_le _
          | cons q r' => exact asc1 q List.mem_cons_self
        have le : lay T (set s k r) k ≤ l := by
          refine maxOf_le fun y hy => ?_
          obtain ⟨x, hx, rfl⟩ := List.mem_map.mp hy
          obtain ⟨g1, g2⟩ := T.mem_stops.mp hx
          by_cases cx : x = k
          · rw [cx, set_same]; exact hr
          · rw [set_ne cx]; exact low x g1 cx g2
        have both : lay T (set s k r) k = l ∧ (r = [] ∨ ht r ≠ l) := by
          cases l with
          | zero =>
            refine ⟨Nat.le_zero.mp le, .inl ?_⟩
            cases r with
            | nil => rfl
            | cons q r' => exact absurd (asc1 q List.mem_cons_self) (Nat.not_lt_zero _)
          | succ l' =>
            obtain ⟨k', g1, g2, g3, b, g4⟩ := I.held k l' a (by rw [ep]; exact List.mem_cons_self)
            have h1 := below (I.asc k') g4
            have h2 := ht_le_lay (T := T) (s := set s k r) g1 g3
            rw [set_ne g2] at h2
            have h1 : l' < ht (s k') := h1
            refine ⟨by omega, ?_⟩
            cases r with
            | nil => exact .inl rfl
            | cons q r' =>
              refine .inr fun w => ?_
              have w : q.1 + 1 = l' + 1 := w
              exact I.apart k k' (fun z => g2 z.symm) g3 q (by rw [ep]; exact List.mem_cons_of_mem _ List.mem_cons_self) (l', b) g4 (by show q.1 = l'; omega)
        obtain ⟨b1, b2⟩ := both
        rw [b1]
        cases r with
        | nil => rfl
        | cons q r' =>
          obtain ⟨l2, a2⟩ := q
          have ne : l2 + 1 ≠ l := by
            rcases b2 with b2 | b2
            · cases b2
            · exact b2
          show (if l2 + 1 = l then _ else (if m = 0 then (l2, a2) :: r' else (l, m) :: (l2, a2) :: r')) = _
          rw [if_neg ne]
      · rw [if_neg z, top (n + a) r l low]
        show (if l + 1 = l + 1 then (if m + (n + a) = 0 then r else (l, m + (n + a)) :: r) else _) = _
        have e3 : m + (n + a) = n + m + a := by omega
        rw [if_pos rfl, e3]
    · have e1 : ∀ z : Int, put ((l, a) :: r) L z = if z = 0 then (l, a) :: r else (L, z) :: (l, a) :: r := fun z => if_neg c
      rw [e1, e1, if_neg n0]
      exact push _ up
end FM
end

section
set_option Elab.async false
set_option linter.all false
set_option maxRecDepth 100000
set_option maxHeartbeats 1000000
/-! ### forms of rows: melting, rows where nothing melts, layers -/
namespace FM
open PySem
variable {T : Tab}
theorem fold_pass {k : Str} {m : Int} : ∀ (B : List Syl) (s : Piles), (∀ e ∈ B, T.fr k e.1 = true) → step T (B.foldl (step T) s) (k, m) = B.foldl (step T) (step T s (k, m))
  | [], _, _ => rfl
  | e :: B, s, h => by
    have h1 := fold_pass (k := k) (m := m) B (step T s e) fun x hx => h x (List.mem_cons_of_mem _ hx)
    show step T (B.foldl (step T) (step T s e)) (k, m) = B.foldl (step T) (step T (step T s (k, m)) e)
    rw [h1]
    congr 1
    exact step_comm (by rw [T.sym]; exact h e List.mem_cons_self)
theorem pil_app (a b : List Syl) : pil T (a ++ b) = b.foldl (step T) (pil T a) := List.foldl_append
/-- two of one kind with nothing barred between them melt -/
theorem pil_melt {A B C : List Syl} {k : Str} {n m : Int} (hA : ∀ e ∈ A, e.1 ∈ T.ks) (hk : k ∈ T.ks) (hB : ∀ e ∈ B, T.fr k e.1 = true) : pil T (A ++ ((k, n) :: B ++ (k, m) :: C)) = pil T (A ++ ((k, n + m) :: B ++ C)) := by
  rw [pil_app, pil_app, List.foldl_append, List.foldl_append, List.foldl_cons, List.foldl_cons, List.foldl_cons]
  congr 1
  rw [fold_pass B _ hB, step_merge (inv_pil hA) hk]
theorem pil_zero {A C : List Syl} {k : Str} (hA : ∀ e ∈ A, e.1 ∈ T.ks) : pil T (A ++ ((k, 0) :: C)) = pil T (A ++ C) := by
  rw [pil_app, pil_app, List.foldl_cons, step_zero (inv_pil hA)]
/-- nothing melts -/
structure Irr (T : Tab) (row : List Syl) : Prop where
  nz : ∀ e ∈ row, e.2 ≠ 0
  far : ∀ A k n B m C, row = A ++ ((k, n) :: B ++ (k, m) :: C) → ∃ e ∈ B, T.fr k e.1 = false
theorem Irr.left {a b : List Syl} (h : Irr T (a ++ b)) : Irr T a := ⟨fun e he => h.nz e (List.mem_append_left _ he), fun A k n B m C e => h.far A k n B m (C ++ b) (by rw [e]; simp)⟩
/-! layers -/
abbrev Lab := Nat × Syl
def layOf (T : Tab) (xs : List Lab) (k : Str) : Nat := maxOf ((xs.filter fun x => !T.fr k x.2.1).map fun x => x.1 + 1)
def labGo (T : Tab) (acc : List Lab) (row : List Syl) : List Lab := row.foldl (fun acc e => acc ++ [(layOf T acc e.1, e)]) acc
def lab (T : Tab) (row : List Syl) : List Lab := labGo T [] row
theorem lab_snoc (row : List Syl) (e : Syl) : lab T (row ++ [e]) = lab T row ++ [(layOf T (lab T row) e.1, e)] := by
  unfold lab labGo
  rw [List.foldl_append]
  rfl
theorem snoc_ind {α : Type} {p : List α → Prop} (h0 : p []) (h1 : ∀ l a, p l → p (l ++ [a])) : ∀ l, p l := fun l => by
  obtain ⟨r, rfl⟩ : ∃ r, l = r.reverse := ⟨l.reverse, (List.reverse_reverse l).symm⟩
  induction r with
  | nil => exact h0
  | cons a r ih => rw [List.reverse_cons]; exact h1 _ a ih
theorem lab_syls (row : List Syl) : (lab T row).map (·.2) = row := by
  induction row using snoc_ind with
  | h0 => rfl
  | h1 l a ih => rw [lab_snoc, List.map_append, ih]; rfl
theorem lab_len (row : List Syl) : (lab T row).length = row.length := by
  have := congrArg List.length (lab_syls (T := T) row)
  rw [List.length_map] at this
  exact this
/-- of two that are not free the later one lies higher -/
theorem lab_up (row : List Syl) : (lab T row).Pairwise fun x y => T.fr y.2.1 x.2.1 = false → x.1 < y.1 := by
  induction row using snoc_ind with
  | h0 => exact .nil
  | h1 l a ih =>
    rw [lab_snoc, List.pairwise_append]
    refine ⟨ih, List.pairwise_singleton _ _, fun x hx y hy hb => ?_⟩
    rw [List.mem_singleton.mp hy] at hb ⊢
    have : x.1 + 1 ≤ layOf T (lab T l) a.1 := le_maxOf (List.mem_map.mpr ⟨x, List.mem_filter.mpr ⟨hx, by rw [hb]; rfl⟩, rfl⟩)
    exact this
def pileOf (xs : List Lab) (k : Str) : Pile := ((xs.filter fun x => x.2.1 = k).map fun x => (x.1, x.2.2)).reverse
theorem pileOf_snoc (xs : List Lab) (x : Lab) (k : Str) : pileOf (xs ++ [x]) k = if x.2.1 = k then (x.1, x.2.2) :: pileOf xs k else pileOf xs k := by
  unfold pileOf
  rw [List.filter_append, List.map_append, List.reverse_append]
  by_cases c : x.2.1 = k
  · rw [if_pos c]
    simp [c]
  · rw [if_neg c]
    simp [c]
theorem mem_pileOf {xs : List Lab} {k : Str} {l : Nat} {c : Int} : (l, c) ∈ pileOf xs k ↔ (l, (k, c)) ∈ xs := by
  unfold pileOf
  rw [List.mem_reverse, List.mem_map]
  constructor
  · rintro ⟨⟨l', k', c'⟩, hx, e⟩
    obtain ⟨h1, h2⟩ := List.mem_filter.mp hx
    have h2 : k' = k := by simpa using h2
    cases e
    rw [h2] at h1
    exact h1
  · intro h
    exact ⟨(l, (k, c)), List.mem_filter.mpr ⟨h, by simp⟩, rfl⟩
/-- where nothing melts each syllable is a new one, in its layer -/
theorem pil_irr {row : List Syl} (I : Irr T row) (hk : ∀ e ∈ row, e.1 ∈ T.ks) : ∀ k, pil T row k = pileOf (lab T row) k := by
  induction row using snoc_ind with
  | h0 => intro k; rfl
  | h1 l a ih =>
    have hl : ∀ e ∈ l, e.1 ∈ T.ks := fun e he => hk e (List.mem_append_left _ he)
    have ih := ih I.left hl
    have inv := inv_pil (T := T) hl
    obtain ⟨x, n⟩ := a
    have hx : x ∈ T.ks := hk (x, n) (by simp)
    have nn : n ≠ 0 := I.nz (x, n) (by simp)
    have eL : lay T (pil T l) x = layOf T (lab T l) x := by
      refine Nat.le_antisymm (maxOf_le fun y hy => ?_) (maxOf_le fun y hy => ?_)
      · obtain ⟨z, hz, rfl⟩ := List.mem_map.mp hy
        obtain ⟨g1, g2⟩ := T.mem_stops.mp hz
        rw [ih z]
        cases e : pileOf (lab T l) z with
        | nil => exact Nat.zero_le _
        | cons q r =>
          have : (q.1, (z, q.2)) ∈ lab T l := mem_pileOf.mp (by rw [e]; exact List.mem_cons_self)
          exact le_maxOf (List.mem_map.mpr ⟨_, List.mem_filter.mpr ⟨this, by rw [g2]; rfl⟩, rfl⟩)
      · obtain ⟨z, hz, rfl⟩ := List.mem_map.mp hy
        obtain ⟨g1, g2⟩ := List.mem_filter.mp hz
        have g2 : T.fr x z.2.1 = false := by simpa using g2
        have m : z.2 ∈ l := by
          have : z.2 ∈ (lab T l).map (·.2) := List.mem_map.mpr ⟨z, g1, rfl⟩
          rw [lab_syls] at this
          exact this
        have h1 := ht_le_lay (T := T) (s := pil T l) (hl _ m) g2
        have h2 := below (inv.asc z.2.1) (e := (z.1, z.2.2)) (by rw [ih]; exact mem_pileOf.mpr g1)
        have h2 : z.1 < ht (pil T l z.2.1) := h2
        omega
    have ne : ∀ y r, pil T l x = y :: r → y.1 + 1 ≠ layOf T (lab T l) x := by
      intro y r e z
      have e' := e
      rw [ih x] at e
      -- the last of this kind
      obtain ⟨P, q, R, e1, e2, e3⟩ : ∃ P q R, lab T l = P ++ q :: R ∧ q.2.1 = x ∧ (∀ u ∈ R, u.2.1 ≠ x) ∧ q.1 = y.1 := by
        have : ∀ xs : List Lab, pileOf xs x = y :: r → ∃ P q R, xs = P ++ q :: R ∧ q.2.1 = x ∧ (∀ u ∈ R, u.2.1 ≠ x) ∧ q.1 = y.1 := fun xs => by
          induction xs using snoc_ind with
          | h0 => intro h; cases h
          | h1 xs u ih =>
            intro h
            rw [pileOf_snoc] at h
            by_cases c : u.2.1 = x
            · rw [if_pos c] at h
              exact ⟨xs, u, [], rfl, c, fun v hv => (nomatch hv), by rw [← (List.cons.inj h).1]⟩
            · rw [if_neg c] at h
              obtain ⟨P, q, R, g1, g2, g3, g4⟩ := ih h
              refine ⟨P, q, R ++ [u], by rw [g1]; simp, g2, fun v hv => ?_, g4⟩
              rcases List.mem_append.mp hv with hv | hv
              · exact g3 v hv
              · rw [List.mem_singleton.mp hv]; exact c
        exact this _ e
      obtain ⟨e3, e4⟩ := e3
      have el : l = P.map (·.2) ++ (q.2 :: R.map (·.2)) := by
        have := lab_syls (T := T) l
        rw [e1, List.map_append, List.map_cons] at this
        exact this.symm
      have eq : q.2 = (x, q.2.2) := by rw [← e2]
      obtain ⟨u, hu, hb⟩ := I.far (P.map (·.2)) x q.2.2 (R.map (·.2)) n [] (by
        rw [el, eq]
        simp)
      obtain ⟨v, hv, rfl⟩ := List.mem_map.mp hu
      have up := lab_up (T := T) l
      rw [e1, List.pairwise_append] at up
      have h1 := (List.pairwise_cons.mp up.2.1).1 v hv (by rw [e2, T.sym]; exact hb)
      have h2 : v.1 + 1 ≤ layOf T (lab T l) x := le_maxOf (List.mem_map.mpr ⟨v, List.mem_filter.mpr ⟨by rw [e1]; exact List.mem_append_right _ (List.mem_cons_of_mem _ hv), by rw [hb]; rfl⟩, rfl⟩)
      omega
    intro k
    have ep : pil T (l ++ [(x, n)]) = step T (pil T l) (x, n) := by rw [pil_app]; rfl
    rw [ep, lab_snoc, pileOf_snoc]
    show set (pil T l) x (put (pil T l x) (lay T (pil T l) x) n) k = if x = k then (layOf T (lab T l) x, n) :: pileOf (lab T l) k else pileOf (lab T l) k
    have eput : put (pil T l x) (lay T (pil T l) x) n = (layOf T (lab T l) x, n) :: pil T l x := by
      rw [eL]
      cases e : pil T l x with
      | nil => exact if_neg nn
      | cons y r =>
        show (if y.1 + 1 = layOf T (lab T l) x then _ else (if n = 0 then _ else (layOf T (lab T l) x, n) :: y :: r)) = _
        rw [if_neg (ne y r e), if_neg nn]
    by_cases c : x = k
    · rw [if_pos c, ← c, set_same, eput, ih]
    · rw [if_neg c, set_ne fun z => c z.symm, ih]
theorem lab_nodup (row : List Syl) : (lab T row).Pairwise fun x y => x.2.1 = y.2.1 → x.1 < y.1 :=
  (lab_up row).imp fun h e => h (by rw [e]; exact T.irr _)
end FM
end

section
set_option Elab.async false
set_option linter.all false
set_option maxRecDepth 100000
set_option maxHeartbeats 1000000
/-! ### forms of rows: read off, put in again -/
namespace FM
open PySem
variable {T : Tab}
/-- kinds in order -/
structure Ord (T : Tab) where
  kl : List Str
  lt : Str → Str → Prop
  srt : kl.Pairwise lt
  ir : ∀ a, ¬ lt a a
  mem : ∀ k, k ∈ kl ↔ k ∈ T.ks
variable (O : Ord T)
def rdLay (s : Piles) (l : Nat) : List Syl := O.kl.filterMap fun k => ((s k).lookup l).map fun c => (k, c)
def deep (s : Piles) : Nat := maxOf (O.kl.map fun k => ht (s k))
def layersD (s : Piles) (D : Nat) : List (List Syl) := (List.range D).map (rdLay O s)
def rdD (s : Piles) (D : Nat) : List Lab := (List.range D).flatMap fun l => (rdLay O s l).map fun e => (l, e)
def layersP (s : Piles) : List (List Syl) := layersD O s (deep O s)
def rdP (s : Piles) : List Lab := rdD O s (deep O s)
def formP (s : Piles) : List Syl := (rdP O s).map (·.2)
variable {O}
theorem rd_snoc (s : Piles) (D : Nat) : rdD O s (D + 1) = rdD O s D ++ (rdLay O s D).map fun e => (D, e) := by
  unfold rdD
  rw [List.range_succ, List.flatMap_append]
  simp
theorem form_flat (s : Piles) (D : Nat) : (rdD O s D).map (·.2) = (layersD O s D).flatten := by
  unfold rdD layersD
  rw [List.map_flatMap, List.flatMap_def]
  congr 1
  refine List.map_congr_left fun l _ => ?_
  rw [List.map_map]
  exact List.map_id _
theorem lookup_mem {p : Pile} (h : p.Pairwise fun a b => b.1 < a.1) {l : Nat} {c : Int} : p.lookup l = some c ↔ (l, c) ∈ p := by
  induction p with
  | nil => simp
  | cons x p ih =>
    obtain ⟨h1, h2⟩ := List.pairwise_cons.mp h
    obtain ⟨m, d⟩ := x
    rw [List.lookup_cons]
    by_cases e : l = m
    · subst e
      simp only [beq_self_eq_true]
      constructor
      · intro q; cases q; exact List.mem_cons_self
      · intro q
        rcases List.mem_cons.mp q with q | q
        · cases q; rfl
        · exact absurd (h1 _ q) (Nat.lt_irrefl _)
    · have e' : (l == m) = false := by simpa using e
      rw [e']
      show p.lookup l = some c ↔ _
      rw [ih h2]
      constructor
      · exact fun q => List.mem_cons_of_mem _ q
      · intro q
        rcases List.mem_cons.mp q with q | q
        · exact absurd (congrArg Prod.fst q) e
        · exact q
theorem mem_rdLay {s : Piles} (I : Inv T s) {l : Nat} {k : Str} {c : Int} : (k, c) ∈ rdLay O s l ↔ (l, c) ∈ s k := by
  unfold rdLay
  rw [List.mem_filterMap]
  constructor
  · rintro ⟨k', _, h⟩
    rw [Option.map_eq_some_iff] at h
    obtain ⟨c', h1, h2⟩ := h
    cases h2
    exact (lookup_mem (I.asc k)).mp h1
  · intro h
    refine ⟨k, (O.mem k).mpr (I.known k fun z => by rw [z] at h; cases h), ?_⟩
    rw [(lookup_mem (I.asc k)).mpr h]
    rfl
theorem mem_rdD {s : Piles} (I : Inv T s) {D l : Nat} {k : Str} {c : Int} : (l, (k, c)) ∈ rdD O s D ↔ l < D ∧ (l, c) ∈ s k := by
  unfold rdD
  rw [List.mem_flatMap]
  constructor
  · rintro ⟨l', h1, h2⟩
    obtain ⟨e, he, e2⟩ := List.mem_map.mp h2
    cases e2
    exact ⟨List.mem_range.mp h1, (mem_rdLay I).mp he⟩
  · rintro ⟨h1, h2⟩
    exact ⟨l, List.mem_range.mpr h1, List.mem_map.mpr ⟨(k, c), (mem_rdLay I).mpr h2, rfl⟩⟩
theorem lt_deep {s : Piles} (I : Inv T s) {l : Nat} {k : Str} {c : Int} (h : (l, c) ∈ s k) : l < deep O s := by
  have hk : k ∈ T.ks := I.known k fun z => by rw [z] at h; cases h
  have h1 := below (I.asc k) h
  have h2 : ht (s k) ≤ deep O s := le_maxOf (List.mem_map.mpr ⟨k, (O.mem k).mpr hk, rfl⟩)
  exact Nat.lt_of_lt_of_le h1 h2
theorem mem_rdP {s : Piles} (I : Inv T s) {l : Nat} {k : Str} {c : Int} : (l, (k, c)) ∈ rdP O s ↔ (l, c) ∈ s k := by
  unfold rdP
  rw [mem_rdD I]
  exact ⟨fun h => h.2, fun h => ⟨lt_deep I h, h⟩⟩
def Bef (O : Ord T) (x y : Lab) : Prop := x.1 < y.1 ∨ (x.1 = y.1 ∧ O.lt x.2.1 y.2.1)
theorem Bef.irr {x : Lab} (h : Bef O x x) : False := by
  rcases h with h | h
  · exact Nat.lt_irrefl _ h
  · exact O.ir _ h.2
theorem Bef.le {x y : Lab} (h : Bef O x y) : x.1 ≤ y.1 := by
  rcases h with h | h
  · exact Nat.le_of_lt h
  · exact Nat.le_of_eq h.1
theorem rdLay_srt (s : Piles) (l : Nat) : (rdLay O s l).Pairwise fun x y => O.lt x.1 y.1 := by
  unfold rdLay
  refine List.Pairwise.filterMap _ (fun a a' h b hb b' hb' => ?_) O.srt
  rw [Option.map_eq_some_iff] at hb hb'
  obtain ⟨c, _, rfl⟩ := hb
  obtain ⟨c', _, rfl⟩ := hb'
  exact h
theorem rdD_srt (s : Piles) (D : Nat) : (rdD O s D).Pairwise (Bef O) := by
  induction D with
  | zero => exact .nil
  | succ D ih =>
    rw [rd_snoc, List.pairwise_append]
    refine ⟨ih, ?_, fun x hx y hy => ?_⟩
    · rw [List.pairwise_map]
      exact (rdLay_srt s D).imp fun h => .inr ⟨rfl, h⟩
    · obtain ⟨e, _, rfl⟩ := List.mem_map.mp hy
      unfold rdD at hx
      obtain ⟨l, hl, hx⟩ := List.mem_flatMap.mp hx
      obtain ⟨e', _, rfl⟩ := List.mem_map.mp hx
      exact .inl (List.mem_range.mp hl)
theorem rdP_srt (s : Piles) : (rdP O s).Pairwise (Bef O) := rdD_srt s _
/-- what was read off a row where nothing melts is its syllables with their layers -/
theorem rd_lab {row : List Syl} (I : Irr T row) (hk : ∀ e ∈ row, e.1 ∈ T.ks) : (rdP O (pil T row)).Perm (lab T row) := by
  refine (List.perm_ext_iff_of_nodup ?_ ?_).mpr fun x => ?_
  · exact (rdP_srt (O := O) (pil T row)).imp fun h z => by rw [z] at h; exact h.irr
  · exact (lab_nodup row).imp fun h z => by rw [z] at h; exact Nat.lt_irrefl _ (h rfl)
  · obtain ⟨l, k, c⟩ := x
    rw [mem_rdP (inv_pil hk), pil_irr I hk, mem_pileOf]
theorem sorted_same : ∀ {p q : Pile}, p.Pairwise (fun a b => b.1 < a.1) → q.Pairwise (fun a b => b.1 < a.1) → (∀ x, x ∈ p ↔ x ∈ q) → p = q
  | [], [], _, _, _ => rfl
  | [], y :: q, _, _, h => nomatch (h y).mpr List.mem_cons_self
  | x :: p, [], _, _, h => nomatch (h x).mp List.mem_cons_self
  | x :: p, y :: q, hp, hq, h => by
    obtain ⟨p1, p2⟩ := List.pairwise_cons.mp hp
    obtain ⟨q1, q2⟩ := List.pairwise_cons.mp hq
    have e : x = y := by
      rcases List.mem_cons.mp ((h x).mp List.mem_cons_self) with e | m
      · exact e
      · rcases List.mem_cons.mp ((h y).mpr List.mem_cons_self) with e | m'
        · exact e.symm
        · have a := q1 x m
          have b := p1 y m'
          omega
    subst e
    congr 1
    refine sorted_same p2 q2 fun z => ⟨fun m => ?_, fun m => ?_⟩
    · rcases List.mem_cons.mp ((h z).mp (List.mem_cons_of_mem _ m)) with e | m'
      · have := p1 z m
        rw [e] at this
        exact absurd this (Nat.lt_irrefl _)
      · exact m'
    · rcases List.mem_cons.mp ((h z).mpr (List.mem_cons_of_mem _ m)) with e | m'
      · have := q1 z m
        rw [e] at this
        exact absurd this (Nat.lt_irrefl _)
      · exact m'
/-- on one layer no two are barred -/
theorem same_lay {s : Piles} (I : Inv T s) {x y : Lab} (hx : x ∈ rdP O s) (hy : y ∈ rdP O s) (hb : T.fr x.2.1 y.2.1 = false) (e : x.1 = y.1) : x.2.1 = y.2.1 := by
  obtain ⟨l, k, c⟩ := x
  obtain ⟨l', k', c'⟩ := y
  by_cases h : k = k'
  · exact h
  · exact absurd e (I.apart k k' h hb (l, c) ((mem_rdP I).mp hx) (l', c') ((mem_rdP I).mp hy))
theorem bef_lay {s : Piles} (I : Inv T s) {x y : Lab} (hx : x ∈ rdP O s) (hy : y ∈ rdP O s) (h : Bef O x y) (hb : T.fr x.2.1 y.2.1 = false) : x.1 < y.1 := by
  rcases h with h | ⟨h1, h2⟩
  · exact h
  · have := same_lay I hx hy hb h1
    rw [this] at h2
    exact absurd h2 (O.ir _)
/-- where an earlier one stands -/
theorem stands {s : Piles} {P S : List Lab} {x z : Lab} (e : rdP O s = P ++ x :: S) (hz : z ∈ rdP O s) (h : z.1 < x.1) : z ∈ P := by
  have p := rdP_srt (O := O) s
  rw [e, List.pairwise_append] at p
  rw [e] at hz
  rcases List.mem_append.mp hz with m | m
  · exact m
  · rcases List.mem_cons.mp m with q | m
    · rw [q] at h; exact absurd h (Nat.lt_irrefl _)
    · have := ((List.pairwise_cons.mp p.2.1).1 z m).le
      omega
theorem lab_rd {s : Piles} (I : Inv T s) : ∀ P S, rdP O s = P ++ S → lab T (P.map (·.2)) = P := by
  intro P
  induction P using snoc_ind with
  | h0 => intro _ _; rfl
  | h1 P x ih =>
    intro S e
    have e' : rdP O s = P ++ x :: S := by rw [e]; simp
    rw [List.map_append, List.map_cons, List.map_nil, lab_snoc, ih (x :: S) e']
    have hx : x ∈ rdP O s := by rw [e']; simp
    have p := rdP_srt (O := O) s
    rw [e', List.pairwise_append] at p
    have el : layOf T P x.2.1 = x.1 := by
      refine Nat.le_antisymm (maxOf_le fun y hy => ?_) ?_
      · obtain ⟨z, hz, rfl⟩ := List.mem_map.mp hy
        obtain ⟨g1, g2⟩ := List.mem_filter.mp hz
        have g2 : T.fr x.2.1 z.2.1 = false := by simpa using g2
        have hz' : z ∈ rdP O s := by rw [e']; exact List.mem_append_left _ g1
        exact bef_lay I hz' hx (p.2.2 z g1 x List.mem_cons_self) (by rw [T.sym]; exact g2)
      · obtain ⟨l, k, c⟩ := x
        cases l with
        | zero => exact Nat.zero_le _
        | succ l =>
          obtain ⟨k', g1, g2, g3, b, g4⟩ := I.held k l c ((mem_rdP I).mp hx)
          have hz : (l, (k', b)) ∈ rdP O s := (mem_rdP I).mpr g4
          have := stands e' hz (Nat.lt_succ_self l)
          exact le_maxOf (List.mem_map.mpr ⟨(l, (k', b)), List.mem_filter.mpr ⟨this, by show (!T.fr k k') = true; rw [g3]; rfl⟩, rfl⟩)
    rw [el]
theorem irr_form {s : Piles} (I : Inv T s) : Irr T (formP O s) := by
  refine ⟨fun e he => ?_, fun A k n B m C e => ?_⟩
  · obtain ⟨⟨l, k, c⟩, hx, rfl⟩ := List.mem_map.mp he
    exact I.nz k (l, c) ((mem_rdP I).mp hx)
  · unfold formP at e
    obtain ⟨A', R, eA, hA, hR⟩ := List.map_eq_append_iff.mp e
    obtain ⟨BB, CC, eR, hB, hC⟩ := List.map_eq_append_iff.mp hR
    obtain ⟨x, B', eB, hx, hB'⟩ := List.map_eq_cons_iff.mp hB
    obtain ⟨y, C', eC, hy, hC'⟩ := List.map_eq_cons_iff.mp hC
    subst eB eC eR
    have eA : rdP O s = A' ++ x :: (B' ++ y :: C') := by rw [eA]; simp
    have ey : rdP O s = (A' ++ x :: B') ++ y :: C' := by rw [eA]; simp
    have mx : x ∈ rdP O s := by rw [eA]; simp
    have my : y ∈ rdP O s := by rw [ey]; simp
    have p := rdP_srt (O := O) s
    rw [eA, List.pairwise_append] at p
    have pxy := (List.pairwise_cons.mp p.2.1).1 y (by simp)
    obtain ⟨lx, kx, cx⟩ := x
    obtain ⟨ly, ky, cy⟩ := y
    have hx : (kx, cx) = (k, n) := hx
    have hy : (ky, cy) = (k, m) := hy
    cases hx
    cases hy
    have lt : lx < ly := bef_lay I mx my pxy (T.irr _)
    obtain ⟨l', rfl⟩ : ∃ l', ly = l' + 1 := ⟨ly - 1, by omega⟩
    obtain ⟨k', g1, g2, g3, b, g4⟩ := I.held k l' m ((mem_rdP I).mp my)
    have mz : (l', (k', b)) ∈ rdP O s := (mem_rdP I).mpr g4
    have inP := stands ey mz (Nat.lt_succ_self l')
    have ne : lx ≠ l' := fun z => g2 (by
      have := same_lay I mx mz g3 z
      exact this.symm)
    have : (l', (k', b)) ∈ B' := by
      rcases List.mem_append.mp inP with q | q
      · have := p.2.2 _ q (lx, (k, n)) List.mem_cons_self
        have := this.le
        have this : l' ≤ lx := this
        omega
      · rcases List.mem_cons.mp q with q | q
        · exact absurd (congrArg Prod.fst q).symm ne
        · exact q
    exact ⟨(k', b), by rw [← hB']; exact List.mem_map.mpr ⟨_, this, rfl⟩, g3⟩
theorem form_known {s : Piles} (I : Inv T s) : ∀ e ∈ formP O s, e.1 ∈ T.ks := fun e he => by
  obtain ⟨⟨l, k, c⟩, hx, rfl⟩ := List.mem_map.mp he
  have := (mem_rdP I).mp hx
  exact I.known k fun z => by rw [z] at this; cases this
/-- a form put in again -/
theorem pil_form {s : Piles} (I : Inv T s) : pil T (formP O s) = s := by
  funext k
  rw [pil_irr (irr_form I) (form_known I)]
  have e : lab T (formP O s) = rdP O s := lab_rd I (rdP O s) [] (by rw [List.append_nil])
  rw [e]
  have q := inv_pil (T := T) (row := formP O s) (form_known I)
  refine sorted_same ?_ (I.asc k) fun x => ?_
  · have := q.asc k
    rw [pil_irr (irr_form I) (form_known I), e] at this
    exact this
  · obtain ⟨l, c⟩ := x
    rw [mem_pileOf, mem_rdP I]
end FM
end

section
set_option Elab.async false
set_option linter.all false
set_option maxRecDepth 100000
set_option maxHeartbeats 1000000
namespace L2.Und
open PySem PySem.Spec PyProof.Rows _root_.Und
open L2.KS
open PySem.W (findIn keepIn typeIn subIn)
/-! ### a table's freedom; Table.stops -/
def tabT (ks : List Str) (ps : List (Str × Str)) : FM.Tab where
  ks := srtTxt ks
  fr := fun a b => isFree ps a b && decide (a ≠ b)
  sym := fun a b => by
    unfold isFree
    congr 1
    · exact decide_eq_decide.mpr Or.comm
    · exact decide_eq_decide.mpr ⟨fun h z => h z.symm, fun h z => h z.symm⟩
  irr := fun a => by
    rw [decide_eq_false fun z => z rfl, Bool.and_false]
theorem leS_lt {a b : Str} (h : leS a b = true) (ne : a ≠ b) : strLt a b = true := by
  cases c : strLt a b with
  | true => rfl
  | false =>
    have : leS b a = true := by unfold leS; rw [c]; rfl
    exact absurd (leS_anti h this) ne
theorem strLt_irr (a : Str) : ¬ strLt a a = true := fun h => by
  have := leS_total a a
  unfold leS at this
  rw [h] at this
  cases this
def ordT (ks : List Str) (ps : List (Str × Str)) (nd : ks.Nodup) : FM.Ord (tabT ks ps) where
  kl := srtTxt ks
  lt := fun a b => strLt a b = true
  srt := by
    have a : (srtTxt ks).Nodup := (srtTxt_perm ks).nodup_iff.mpr nd
    have b : (srtTxt ks).Pairwise fun a b => leS a b = true := srtTxt_pw ks
    exact (List.pairwise_and_iff.mpr ⟨b, a⟩).imp fun h => leS_lt h.1 h.2
  ir := strLt_irr
  mem := fun k => Iff.rfl
theorem stopsT {ks : List Str} {ps : List (Str × Str)} (h : ∀ p ∈ ps, p.1 ∈ ks ∧ p.2 ∈ ks ∧ p.1 ≠ p.2) (k : Str) : stopsOf (srtTxt ks) (pairsOf ps) k = (tabT ks ps).stops k := by
  unfold stopsOf FM.Tab.stops
  refine List.filter_congr fun x hx => ?_
  show decide (asc (k, x) ∉ pairsOf ps) = !(isFree ps k x && decide (k ≠ x))
  have e : asc (k, x) ∈ pairsOf ps ↔ ((k, x) ∈ ps ∨ (x, k) ∈ ps) := by
    rw [mem_pairsOf]
    constructor
    · rintro ⟨u, hu, eu⟩
      obtain ⟨a, b⟩ := u
      rcases asc_or (a, b) with h1 | h1 <;> rcases asc_or (k, x) with h2 | h2 <;> rw [h1, h2] at eu <;> cases eu
      · exact .inl hu
      · exact .inr hu
      · exact .inr hu
      · exact .inl hu
    · rintro (h | h)
      · exact ⟨_, h, rfl⟩
      · exact ⟨_, h, asc_swap k x⟩
  have ne : (k, x) ∈ ps ∨ (x, k) ∈ ps → k ≠ x := fun h => by
    rcases h with h' | h'
    · exact (h _ h').2.2
    · exact fun z => (h _ h').2.2 z.symm
  unfold isFree
  by_cases c : (k, x) ∈ ps ∨ (x, k) ∈ ps
  · rw [show decide (asc (k, x) ∉ pairsOf ps) = false from decide_eq_false fun z => z (e.mpr c), decide_eq_true c, decide_eq_true (ne c)]
    rfl
  · rw [show decide (asc (k, x) ∉ pairsOf ps) = true from decide_eq_true fun z => c (e.mp z), decide_eq_false c]
    rfl
/-- where pairs are of different kinds -/
theorem frT {ks : List Str} {ps : List (Str × Str)} (h : ∀ p ∈ ps, p.1 ∈ ks ∧ p.2 ∈ ks ∧ p.1 ≠ p.2) (a b : Str) : (tabT ks ps).fr a b = isFree ps a b := by
  show (isFree ps a b && decide (a ≠ b)) = isFree ps a b
  by_cases e : a = b
  · subst e
    have : isFree ps a a = false := by
      unfold isFree
      refine decide_eq_false fun z => ?_
      rcases z with z | z <;> exact (h _ z).2.2 rfl
    rw [this]
    rfl
  · rw [decide_eq_true e, Bool.and_true]
theorem memT {ks : List Str} {ps : List (Str × Str)} {k : Str} : k ∈ (tabT ks ps).ks ↔ k ∈ ks := mem_srtTxt
abbrev sTabStops : Stmt := tabM 5
theorem scTabStops : FnScope ["self", "kind"] ["self", "kind"] (defScope sTabStops) := ⟨rfl, rfl, rfl, by decide +kernel, rfl, by decide +kernel, by decide +kernel⟩
def spStops (K : PySem.W.Frag) (C : Addr) : Sp := fun vs H Q _ => ∃ (o : Addr) (k : Str) (ks : List Str) (ps : List (Str × Str)), vs = [.ref o, .str k] ∧ TabR K C o ks ps H ∧ k ∈ ks ∧ ∀ a, H a = some (.tup (((tabT ks ps).stops k).map V.str)) → Q (.ref a) H
theorem valV_mem {f : Addr → V} {k : Str} {a : Addr} : ∀ {SL : List (Str × Addr)}, (SL.map (·.1)).Nodup → (k, a) ∈ SL → valV (SL.map fun p => ((.inr p.1 : Key), f p.2)) (.inr k) = some (f a)
  | p :: r, nd, h => by
    rw [List.map_cons] at nd
    obtain ⟨n1, n2⟩ := List.nodup_cons.mp nd
    rw [List.map_cons]
    rcases List.mem_cons.mp h with e | h
    · subst e
      exact valV_pos rfl
    · have ne : ¬ ((.inr p.1 : Key) = .inr k) := fun z => n1 (by
        have z := Sum.inr.inj z
        rw [z]
        exact List.mem_map.mpr ⟨(k, a), h, rfl⟩)
      rw [valV_neg ne]
      exact valV_mem n2 h
section
variable {P : Program} {w : World} {K : PySem.W.Frag} {mg : Str → Option Value} {base : Heap}
theorem okTabStops {f C : Addr} {fd : FuncData} (F : Fun K "stops" "Table.stops" sTabStops f fd) (c : Cls K C) (n4 : NoAttr K C "_stops") : FnOk P w K mg base CX0 1 f fd ["self", "kind"] (spStops K C) := by
  refine F.ok scTabStops (fun vs H Q E h => ?_) (fun cdv A outer s H vs Q E hr h => ?_)
  · obtain ⟨o, k, ks, ps, rfl, _⟩ := h
    rfl
  have hu : (A.deeper (envOfC "Table.stops" (defScope sTabStops) s.heap.objs.size f cdv)).units + 1 < cLine := by have := hr.un; omega
  refine ⟨_, pss_one (ps_ret (pe_dget hu (pe_fld (pv 0) rfl) (pv 1) (by intro _ _; rfl))), ?_⟩
  obtain ⟨o, k, ks, ps, rfl, ⟨dx, L, SL, tk, tp, fr, st, T⟩, hk, q⟩ := h
  have ko := kinds_ok T.good
  have nd : (SL.map (·.1)).Nodup := by
    rw [T.names]
    exact (srtTxt_perm ks).nodup_iff.mpr ko.nd
  obtain ⟨⟨k', a⟩, hp, e⟩ := List.mem_map.mp (show k ∈ SL.map (·.1) by rw [T.names]; exact mem_srtTxt.mpr hk)
  have e : k' = k := e
  subst e
  have g := DGet.k (k := .inr k') T.stops
  rw [valV_mem (f := V.ref) nd hp] at g
  refine ⟨_, rfl, o, C, dx, _, _, rfl, T.obj, c, n4, rfl, _, rfl, st, .ref a, rfl, g, q a ?_⟩
  rw [← stopsT T.mem]
  exact T.stop _ hp
end
end L2.Und
end

section
set_option Elab.async false
set_option linter.all false
set_option maxRecDepth 100000
set_option maxHeartbeats 1000000
namespace L2.Und
open PySem PySem.Spec PyProof.Rows _root_.Und
/-! ### a dict comprehension that a local takes at once -/
section
variable {X : Cx} {i : Nat} {y : Str} {py : Pos} {kx vx tg iter : Expr} {ifs : List Expr} {scope : Scope} {own : List (Str × Nat)} {pos spos : Pos} {wi : TI} {g : TG} {tt : TT} {tk tv : TE}
/-- where the local stands on the comprehension's line, it is stored within -/
theorem swD {gs : List Comprehension} {l : Nat} {env : Env} (k1 : env.scope.kind = .function) (k2 : env.scope.names.lookup y = some .local) (k3 : (py.line == pos.line) = true)
    (k4 : (scope.names.any fun (n, k) => n == y && (k == .local || k == .cell)) = false) : swapsWith (.DictComp kx vx gs scope pos) (some (.Name y py)) l env = pure true := by
  have e1 : env.blockKind = .function := by unfold Env.blockKind; rw [k1]; rfl
  have e2 : env.kindOf y = some .local := k2
  unfold swapsWith
  simp only [e1, e2, k4, Expr.pos, k3]
  rfl
abbrev InBlk (X : Cx) (scope : Scope) (r : Cx → Prop) : Prop := ∀ (s : Shared) (H : Hp) (C : Addr) (cl : List (Str × Addr)) (fp : List Addr), r (X.blk s H scope (compEnvC scope cl C X.env) fp)
theorem ps_setDc (calm : X.calm = true) (nd : X.N.Nodup) (at_ : X.N[i]? = some y) (loc : X.env.scope.names.lookup y = some .local)
    (sw : swapsWith (.DictComp kx vx [⟨tg, iter, ifs, 0⟩] scope pos) (some (.Name y py)) spos.line X.env = pure true) (it : PI X tg iter wi) (blk : BlkOk X.N X.env.scope scope own)
    (gg : InBlk X scope fun Y => PG Y tg g) (gt : InBlk X scope fun Y => PTs Y ifs tt) (gk : InBlk X scope fun Y => PE Y kx tk) (gv : InBlk X scope fun Y => PE Y vx tv) (fo : ∀ x, foldedSetIterable iter X.env x = pure x := by intro _; rfl) :
    PS X (.Assign [.Name y py] (.DictComp kx vx [⟨tg, iter, ifs, 0⟩] scope pos) spos) (tAsg (tDc wi g tt tk tv (own.map (·.2))) (gName i)) := by
  constructor
  intro pins s σ H D I w
  rw [exec_Assign_Name_used _ _ _ _ sw]
  refine wpAny_bind (wpAny_standAt (wpAny_bind ?_))
  have w' : tDc wi g tt tk tv (own.map (·.2)) σ H fun x H1 => gName i x σ H1 D.nx := w
  show wpAny _ X.A (do
    let _ ← comprehension (.DictComp kx vx [⟨tg, iter, ifs, 0⟩] scope pos) scope X.env (firstIterPos [⟨tg, iter, ifs, 0⟩] pos) newDict false (eval iter X.env) (some (assign (.Name y py) X.env))) _ _ s
  refine wpAny_bind (thn (dc_core (Qf := fun _ z => SP X pins D .next z) calm nd I it blk gg gt gk gv fo w' fun L C z m H2 I2 q n fp => ?_) fun _ _ q => wpAny_pure (wpAny_pure q))
  show wpAny _ _ (assign (.Name y py) X.env (.ref L)) _ _ _
  refine wpAny_assign_Name (store_ok2 (v := V.ref L) I2 nd at_ (.inl loc) rfl (fun z2 I3 h3 => ?_) (.inr loc))
  obtain ⟨a, sb, ha⟩ := h3
  obtain ⟨p0, p1, p2, p3, p4, p5⟩ := fp
  have off : C ≠ a := ha.elim (fun z => by rw [z]; exact p1) fun z e => p4 y a z e.symm
  exact ⟨m, n.sameBut sb off, fun h4 sb4 => ⟨_, H2, I3.turned (t' := z2.toks) (fun b o hb e => (sb4.2 b hb).trans e) p0 p1 p3 p4 p5, q⟩⟩
end
end L2.Und
end

section
set_option Elab.async false
set_option linter.all false
set_option maxRecDepth 100000
set_option maxHeartbeats 1000000
namespace L2.Und
open PySem PySem.Spec PyProof.Rows _root_.Und
/-! ### piles in the heap: a dict of lists of pairs, a dict of heights -/
abbrev EntL := List (Addr × Nat × Int)
def pairV (e : Nat × Int) : List V := [.int (e.1 : Int), .int e.2]
/-- a list that holds a pile (its top last) -/
def PileAt (H : Hp) (a : Addr) (p : FM.Pile) : Prop := ∃ EL : EntL, H a = some (.lst (EL.map fun e => V.ref e.1)) ∧ EL.map (·.2) = p.reverse ∧ ∀ e ∈ EL, H e.1 = some (.tup (pairV e.2))
theorem PileAt.same {H H' : Hp} {a : Addr} {p : FM.Pile} (h : PileAt H a p) (s : Same H H') : PileAt H' a p := by
  obtain ⟨EL, e1, e2, e3⟩ := h
  exact ⟨EL, s _ _ e1, e2, fun e he => s _ _ (e3 e he)⟩
/-- what is rewritten is another thing, and no pair -/
theorem PileAt.off {H : Hp} {a b : Addr} {p : FM.Pile} {u o : HO} (h : PileAt H a p) (ne : b ≠ a) (hb : H b = some u) (nt : ∀ xs, u ≠ .tup xs) : PileAt (upd H b o) a p := by
  obtain ⟨EL, e1, e2, e3⟩ := h
  refine ⟨EL, ?_, e2, fun e he => ?_⟩
  · rw [upd_ne ne.symm]; exact e1
  · rw [upd_ne fun z => ?_]
    · exact e3 e he
    · have := e3 e he
      rw [z, hb] at this
      exact nt _ (Option.some.inj this)
abbrev refKv (PA : List (Str × Addr)) : List (Key × V) := PA.map fun p => (.inr p.1, V.ref p.2)
structure Pils (H0 : Hp) (D : Addr) (ns : List Str) (s : FM.Piles) (PA : List (Str × Addr)) (H : Hp) : Prop where
  dict : H D = some (.dK (refKv PA))
  names : PA.map (·.1) = ns
  apart : ∀ p ∈ PA, ∀ q ∈ PA, p.2 = q.2 → p = q
  new : ∀ p ∈ PA, H0 p.2 = none
  pile : ∀ p ∈ PA, PileAt H p.2 (s p.1)
theorem Pils.same {H0 : Hp} {D : Addr} {ns : List Str} {s : FM.Piles} {PA : List (Str × Addr)} {H H' : Hp} (z : Pils H0 D ns s PA H) (m : Same H H') : Pils H0 D ns s PA H' :=
  ⟨m _ _ z.dict, z.names, z.apart, z.new, fun p hp => (z.pile p hp).same m⟩
/-- an own dict is rewritten -/
theorem Pils.off {H0 : Hp} {D b : Addr} {ns : List Str} {s : FM.Piles} {PA : List (Str × Addr)} {H : Hp} {k k' : List (Key × V)} (z : Pils H0 D ns s PA H) (hb : H b = some (.dK k)) (ne : b ≠ D) : Pils H0 D ns s PA (upd H b (.dK k')) :=
  ⟨by rw [upd_ne ne.symm]; exact z.dict, z.names, z.apart, z.new, fun p hp => (z.pile p hp).off (fun e => by
    obtain ⟨EL, e1, _⟩ := z.pile p hp
    rw [← e, hb] at e1
    cases e1) hb fun _ e => nomatch e⟩
/-- one list is rewritten -/
theorem Pils.put {H0 : Hp} {D a : Addr} {k : Str} {ns : List Str} {s : FM.Piles} {PA : List (Str × Addr)} {H : Hp} {xs : List V} {p : FM.Pile} (z : Pils H0 D ns s PA H) (hp : (k, a) ∈ PA) (nd : ns.Nodup) (n : PileAt (upd H a (.lst xs)) a p) :
    Pils H0 D ns (FM.set s k p) PA (upd H a (.lst xs)) := by
  obtain ⟨EL, e1, _⟩ := z.pile _ hp
  have e1 : H a = some _ := e1
  have aD : a ≠ D := fun e => by rw [e, z.dict] at e1; cases e1
  refine ⟨by rw [upd_ne aD.symm]; exact z.dict, z.names, z.apart, z.new, fun q hq => ?_⟩
  by_cases e : q.2 = a
  · have := z.apart q hq (k, a) hp e
    subst this
    show PileAt _ a (FM.set s k p k)
    rw [FM.set_same]
    exact n
  · have ne : q.1 ≠ k := fun e' => by
      have nd' : (PA.map (·.1)).Nodup := by rw [z.names]; exact nd
      have : ∀ {l : List (Str × Addr)}, (l.map (·.1)).Nodup → q ∈ l → (k, a) ∈ l → q = (k, a) := by
        intro l
        induction l with
        | nil => intro _ h; cases h
        | cons x l ih =>
          intro nd h1 h2
          rw [List.map_cons] at nd
          obtain ⟨n1, n2⟩ := List.nodup_cons.mp nd
          rcases List.mem_cons.mp h1 with rfl | h1 <;> rcases List.mem_cons.mp h2 with h2 | h2
          · exact h2.symm
          · exact absurd (List.mem_map.mpr ⟨_, h2, e'.symm⟩) n1
          · refine absurd (List.mem_map.mpr ⟨q, h1, ?_⟩) n1
            rw [← h2]
            exact e'
          · exact ih n2 h1 h2
      exact e (by rw [this nd' hq hp])
    show PileAt _ q.2 (FM.set s k p q.1)
    rw [FM.set_ne ne]
    exact (z.pile q hq).off (fun x => e x.symm) e1 fun _ e => nomatch e
theorem Pils.get {H0 : Hp} {D : Addr} {ns : List Str} {s : FM.Piles} {PA : List (Str × Addr)} {H : Hp} (z : Pils H0 D ns s PA H) {k : Str} (hk : k ∈ ns) : ∃ a, (k, a) ∈ PA ∧ PileAt H a (s k) := by
  rw [← z.names] at hk
  obtain ⟨⟨k', a⟩, hp, e⟩ := List.mem_map.mp hk
  have e : k' = k := e
  subst e
  exact ⟨a, hp, z.pile _ hp⟩
/-! heights -/
abbrev intKv (ns : List Str) (f : Str → Int) : List (Key × V) := ns.map fun k => (.inr k, .int (f k))
theorem valV_map_mem {f : Str → V} {k : Str} : ∀ {ns : List Str}, k ∈ ns → valV (ns.map fun k => ((.inr k : Key), f k)) (.inr k) = some (f k)
  | x :: r, h => by
    rw [List.map_cons]
    by_cases e : x = k
    · subst e
      exact valV_pos rfl
    · rw [valV_neg fun z => e (Sum.inr.inj z)]
      exact valV_map_mem ((List.mem_cons.mp h).resolve_left fun z => e z.symm)
theorem putK_map {f g : Str → V} {k : Str} {ns : List Str} (hk : k ∈ ns) (e : ∀ x, x ≠ k → g x = f x) : putK (ns.map fun x => ((.inr x : Key), f x)) (.inr k) (g k) = ns.map fun x => ((.inr x : Key), g x) := by
  unfold putK
  have : ((ns.map fun x => ((.inr x : Key), f x)).any fun kv => decide (kv.1 = .inr k)) = true := by
    rw [valV_any, valV_map_mem hk]
    rfl
  rw [if_pos this, List.map_map]
  refine List.map_congr_left fun x _ => ?_
  show (if (.inr x : Key) = .inr k then ((.inr x : Key), g k) else (.inr x, f x)) = (.inr x, g x)
  by_cases c : x = k
  · subst c
    rw [if_pos rfl]
  · rw [if_neg fun z => c (Sum.inr.inj z), e x c]
theorem reverse_last {p : FM.Pile} {e : Nat × Int} {EL : EntL} (h : EL.map (·.2) = (e :: p).reverse) : ∃ EL' a, EL = EL' ++ [(a, e)] ∧ EL'.map (·.2) = p.reverse := by
  rw [List.reverse_cons] at h
  rcases List.eq_nil_or_concat EL with rfl | ⟨EL', x, rfl⟩
  · exact absurd h.symm (by simp)
  · rw [List.concat_eq_append, List.map_append] at h
    obtain ⟨h1, h2⟩ := List.append_inj' h rfl
    obtain ⟨a, y⟩ := x
    have : y = e := List.head_eq_of_cons_eq h2
    subst this
    exact ⟨EL', a, List.concat_eq_append, h1⟩
/-! what is read off piles -/
def layL (ns : List Str) (s : FM.Piles) (l : Nat) : List (Str × Int) := ns.filterMap fun k => ((s k).lookup l).map fun c => (k, c)
def deepL (ns : List Str) (s : FM.Piles) : Nat := FM.maxOf (ns.map fun k => FM.ht (s k))
def layersL (ns : List Str) (s : FM.Piles) : List (List (Str × Int)) := (List.range (deepL ns s)).map (layL ns s)
abbrev EnK := Str × Nat × Int
def contL (done : List EnK) (l : Nat) : List (Str × Int) := done.filterMap fun e => if e.2.1 = l then some (e.1, e.2.2) else none
def entsOf (s : FM.Piles) (k : Str) : List EnK := (s k).reverse.map fun e => (k, e)
theorem contL_snoc (d : List EnK) (e : EnK) (l : Nat) : contL (d ++ [e]) l = if e.2.1 = l then contL d l ++ [(e.1, e.2.2)] else contL d l := by
  unfold contL
  rw [List.filterMap_append]
  by_cases c : e.2.1 = l
  · rw [if_pos c]
    congr 1
    rw [List.filterMap_cons, if_pos c]
    rfl
  · rw [if_neg c]
    rw [List.filterMap_cons, if_neg c]
    simp
theorem contL_len (d : List EnK) (l : Nat) : (contL d l).length ≤ d.length := List.length_filterMap_le _ _
theorem contL_one {s : FM.Piles} {k : Str} (h : (s k).Pairwise fun a b => b.1 < a.1) (l : Nat) : contL (entsOf s k) l = (((s k).lookup l).map fun c => (k, c)).toList := by
  unfold entsOf
  revert h
  generalize s k = p
  intro h
  have e : contL (p.reverse.map fun e => (k, e)) l = (contL (p.map fun e => (k, e)) l).reverse := by
    unfold contL
    rw [List.map_reverse, List.filterMap_reverse]
  rw [e]
  clear e
  induction p with
  | nil => rfl
  | cons y p ih =>
    obtain ⟨h1, h2⟩ := List.pairwise_cons.mp h
    obtain ⟨m, c⟩ := y
    rw [List.map_cons, List.lookup_cons]
    show (List.filterMap _ _).reverse = _
    rw [List.filterMap_cons]
    by_cases e : m = l
    · subst e
      have none : contL (p.map fun e => (k, e)) m = [] := by
        unfold contL
        rw [List.filterMap_eq_nil_iff]
        intro x hx
        obtain ⟨y, hy, rfl⟩ := List.mem_map.mp hx
        have := h1 y hy
        exact if_neg fun z => by have z : y.1 = m := z; have this : y.1 < m := this; omega
      unfold contL at none
      dsimp only
      rw [if_pos rfl]
      dsimp only
      rw [none]
      simp
    · dsimp only
      rw [if_neg e]
      have e' : (l == m) = false := by simpa using fun z : l = m => e z.symm
      rw [e']
      exact ih h2
theorem contL_all {s : FM.Piles} {ns : List Str} (h : ∀ k ∈ ns, (s k).Pairwise fun a b => b.1 < a.1) (l : Nat) : contL (ns.flatMap (entsOf s)) l = layL ns s l := by
  induction ns with
  | nil => rfl
  | cons k ns ih =>
    have e1 := contL_one (h k List.mem_cons_self) l
    have e2 := ih fun k hk => h k (List.mem_cons_of_mem _ hk)
    unfold layL at e2 ⊢
    rw [List.flatMap_cons, List.filterMap_cons]
    unfold contL at e1 e2 ⊢
    rw [List.filterMap_append, e1, e2]
    cases (s k).lookup l <;> rfl
theorem ents_len {s : FM.Piles} {B : Nat} : ∀ {ns : List Str}, (∀ k ∈ ns, (s k).length ≤ B) → (ns.flatMap (entsOf s)).length ≤ ns.length * B
  | [], _ => Nat.zero_le _
  | k :: ns, h => by
    have ih := ents_len (ns := ns) fun k hk => h k (List.mem_cons_of_mem _ hk)
    have h0 := h k List.mem_cons_self
    rw [List.flatMap_cons, List.length_append, List.length_cons, Nat.succ_mul]
    unfold entsOf at ih ⊢
    rw [List.length_map, List.length_reverse]
    omega
theorem below_deep {s : FM.Piles} {ns : List Str} {k : Str} (hk : k ∈ ns) (h : (s k).Pairwise fun a b => b.1 < a.1) {e : Nat × Int} (he : e ∈ s k) : e.1 < deepL ns s := by
  have h1 : e.1 < FM.ht (s k) := FM.below h he
  have h2 : FM.ht (s k) ≤ deepL ns s := FM.le_maxOf (List.mem_map.mpr ⟨k, hk, rfl⟩)
  omega
end L2.Und
end

section
set_option Elab.async false
set_option linter.all false
set_option maxRecDepth 100000
set_option maxHeartbeats 2000000
namespace L2.Und
open PySem PySem.Spec PyProof.Rows _root_.Und
open L2.KS
open PySem.W (findIn keepIn typeIn subIn)
/-! ### piles_of -/
abbrev sPiles : Stmt := topS 36
abbrev nPiles : List Str := ["row", "kind", "piles", "heights", "count", "layer", "total", "above", "other"]
theorem scPiles : FnScope nPiles ["row"] (defScope sPiles) := ⟨rfl, rfl, rfl, by decide +kernel, rfl, by decide +kernel, by decide +kernel⟩
def forBody : Stmt → List Stmt
  | .For _ _ b _ _ => b
  | _ => []
abbrev pilBody : List Stmt := forBody ((defBody sPiles).getD 2 (.Pass ⟨0, 0, 0, 0⟩))
structure PiSt (H0 : Hp) (D Dh : Addr) (ns : List Str) (s : FM.Piles) (h : Str → Int) (PA : List (Str × Addr)) (H : Hp) : Prop where
  same : Same H0 H
  nD : H0 D = none
  nh : H0 Dh = none
  pils : Pils H0 D ns s PA H
  hts : H Dh = some (.dK (intKv ns h))
theorem PiSt.ne {H0 : Hp} {D Dh : Addr} {ns : List Str} {s : FM.Piles} {h : Str → Int} {PA : List (Str × Addr)} {H : Hp} (z : PiSt H0 D Dh ns s h PA H) (n : ns ≠ []) : Dh ≠ D := fun e => by
  have a := z.hts
  rw [e, z.pils.dict] at a
  have nm := z.pils.names
  cases PA with
  | nil => exact n nm.symm
  | cons x PA =>
    cases ns with
    | nil => exact n rfl
    | cons y ns =>
      have a := HO.dK.inj (Option.some.inj a)
      exact nomatch (congrArg (fun l : List (Key × V) => l.map (·.2)) a)
def spPiles (K : PySem.W.Frag) (C CT : Addr) : Sp := fun vs H Q _ => ∃ (o t : Addr) (ks : List Str) (ps : List (Str × Str)) (L : SyL), vs = [.ref o] ∧ RowR K C CT o t ks ps L H ∧ L.length < sizeLine ∧
  ∀ (D : Addr) (PA : List (Str × Addr)) (H' : Hp), H D = none → Same H H' → Pils H D (srtTxt ks) (FM.pil (tabT ks ps) (sylsOf L)) PA H' → Q (.ref D) H'
section
variable {P : Program} {w : World} {K : PySem.W.Frag} {mg : Str → Option Value} {base : Heap}
/-- the last statement of a turn -/
theorem pilLast {f : Addr} {cdv : Value} {A : Around} {outer : List Env} {s : Shared} {H : Hp} {E : XK} (hu : (A.deeper (envOfC "piles_of" (defScope sPiles) s.heap.objs.size f cdv)).units + 1 < cLine) :
    ∃ t, PSs (cxOf CX0 P w K mg base nPiles "piles_of" (defScope sPiles) f cdv A outer s H E).nox (pilBody.drop 4) t ∧
      ∀ (D : Ends) (o pD Dh : Addr) (ns : List Str) (S : FM.Piles) (h : Str → Int) (PA : List (Str × Addr)) (k : Str) (x4 x5 x6 x7 x8 : Option V) (H0 H1 : Hp), PiSt H0 pD Dh ns S h PA H1 → ns.Nodup → ns.length ≤ 1000 → k ∈ ns →
        (∀ H', PiSt H0 pD Dh ns S (fun x => if x = k then (FM.ht (S k) : Nat) else h x) PA H' → D.nx [some (.ref o), some (.str k), some (.ref pD), some (.ref Dh), x4, x5, x6, x7, x8] H') →
        t D [some (.ref o), some (.str k), some (.ref pD), some (.ref Dh), x4, x5, x6, x7, x8] H1 := by
  refine ⟨_, pss_one (ps_dput hu (pv 3) (pv 1) (pe_ifExp (pt_truth (pe_dget hu (pv 2) (pv 1) (by intro _ _; rfl)) (fun _ => rfl))
      (pe_op op_add (pe_ix ix_tup (pe_ix ix_list (pe_dget hu (pv 2) (pv 1) (by intro _ _; rfl)) (pe_un un_neg pe_int) (fun _ _ => rfl)) pe_int (fun _ _ => rfl)) pe_int) pe_int) rfl), ?_⟩
  intro D o pD Dh ns S h PA k x4 x5 x6 x7 x8 H0 H1 z nd n1000 hk q
  obtain ⟨a, ha, EL, e1, e2, e3⟩ := z.pils.get hk
  have big : (2000 : Nat) < sizeLine := by decide
  have ndP : (PA.map (·.1)).Nodup := by rw [z.pils.names]; exact nd
  have nn : ns ≠ [] := fun e => by rw [e] at hk; cases hk
  have gP : DGet H1 pD (.str k) (some (.ref a)) := by
    have := DGet.k (k := .inr k) z.pils.dict
    rwa [valV_mem (f := V.ref) ndP ha] at this
  have fin : ∀ v : Int, v = (FM.ht (S k) : Nat) → ∃ (b : Addr) (H4 : Hp), V.ref Dh = .ref b ∧ DPut H1 b (.str k) (.int v) H4 ∧ D.nx [some (.ref o), some (.str k), some (.ref pD), some (.ref Dh), x4, x5, x6, x7, x8] H4 := fun v ev => by
    refine ⟨Dh, _, rfl, DPut.k (k := .inr k) z.hts (by rw [List.length_map]; omega), q _ ?_⟩
    have pk := putK_map (f := fun x => V.int (h x)) (g := fun x => V.int (if x = k then v else h x)) (k := k) hk fun x c => by rw [if_neg c]
    rw [if_pos rfl] at pk
    refine ⟨Same.upd z.same z.nh, z.nD, z.nh, z.pils.off z.hts (z.ne nn), ?_⟩
    rw [upd_same, show putK (intKv ns h) (.inr k) (.int v) = _ from pk, ev]
  refine ⟨_, rfl, _, rfl, pD, _, rfl, gP, !(EL.map fun e => V.ref e.1).isEmpty, .inl ⟨_, SqL.of e1, rfl⟩, ?_⟩
  cases ep : S k with
  | nil =>
    have : EL = [] := by
      rw [ep] at e2
      cases EL with
      | nil => rfl
      | cons x r => cases e2
    rw [this]
    exact iteF ⟨_, rfl, _, rfl, fin _ (by rw [ep]; rfl)⟩
  | cons y r =>
    rw [ep] at e2
    obtain ⟨EL', b, rfl, e4⟩ := reverse_last e2
    have eT : H1 b = some (.tup (pairV y)) := e3 (b, y) (List.mem_append_right _ List.mem_cons_self)
    have ne : (!((EL' ++ [(b, y)]).map fun e => V.ref e.1).isEmpty) = true := by cases EL' <;> rfl
    rw [ne]
    refine iteT ⟨_, rfl, _, rfl, pD, _, rfl, gP, _, rfl, a, _, _, .ref b, rfl, rfl, SqL.of e1, ?_, b, _, _, _, rfl, rfl, SqT.of eT, rfl, _, _, rfl, rfl, _, rfl, _, rfl, fin _ ?_⟩
    · rw [List.map_append]
      exact L2.atI_last _ _
    · rw [ep]
      rfl
/-- the last two statements of a turn -/
theorem pilTail {f : Addr} {cdv : Value} {A : Around} {outer : List Env} {s : Shared} {H : Hp} {E : XK} (hu : (A.deeper (envOfC "piles_of" (defScope sPiles) s.heap.objs.size f cdv)).units + 1 < cLine) :
    ∃ t, PSs (cxOf CX0 P w K mg base nPiles "piles_of" (defScope sPiles) f cdv A outer s H E).nox (pilBody.drop 3) t ∧
      ∀ (D : Ends) (o pD Dh : Addr) (ns : List Str) (S : FM.Piles) (h : Str → Int) (PA : List (Str × Addr)) (k : Str) (l : Nat) (n : Int) (x4 x7 x8 : Option V) (H0 H1 : Hp), PiSt H0 pD Dh ns S h PA H1 → ns.Nodup → ns.length ≤ 1000 → k ∈ ns → (S k).length < sizeLine →
        (∀ H', PiSt H0 pD Dh ns (FM.set S k (if n = 0 then S k else (l, n) :: S k)) (fun x => if x = k then (FM.ht (if n = 0 then S k else (l, n) :: S k) : Nat) else h x) PA H' → D.nx [some (.ref o), some (.str k), some (.ref pD), some (.ref Dh), x4, some (.int (l : Int)), some (.int n), x7, x8] H') →
        t D [some (.ref o), some (.str k), some (.ref pD), some (.ref Dh), x4, some (.int (l : Int)), some (.int n), x7, x8] H1 := by
  obtain ⟨tl, rl, gl⟩ := pilLast (P := P) (w := w) (K := K) (mg := mg) (base := base) (outer := outer) (H := H) (E := E) hu
  refine ⟨_, pss_cons (ps_if (pt_cmpR op_ne (pv 6) pe_int (nomark _)) (pss_one (ps_expr (pe_bm PySem.F.plainAttrs_list PySem.F.slot_list_append PySem.F.type_list_append mt_append (pe_dget hu (pv 2) (pv 1) (by intro _ _; rfl)) (pa_cons (pe_tup (pa_cons (pv 5) (pa_cons (pv 6) pa_nil))) pa_nil)))) pss_nil) rl, ?_⟩
  intro D o pD Dh ns S h PA k l n x4 x7 x8 H0 H1 z nd n1000 hk len q
  obtain ⟨a, ha, EL, e1, e2, e3⟩ := z.pils.get hk
  have ndP : (PA.map (·.1)).Nodup := by rw [z.pils.names]; exact nd
  have gP : DGet H1 pD (.str k) (some (.ref a)) := by
    have := DGet.k (k := .inr k) z.pils.dict
    rwa [valV_mem (f := V.ref) ndP ha] at this
  refine ⟨_, rfl, rfl, _, rfl, ?_⟩
  by_cases c : n = 0
  · rw [if_pos c] at q
    rw [decide_eq_true (show V.int n = V.int 0 by rw [c])]
    refine iteF ?_
    refine gl _ o pD Dh ns S h PA k _ _ _ _ _ H0 H1 z nd n1000 hk fun H' z' => q H' ?_
    rw [FM.set_self]
    exact z'
  · rw [if_neg c] at q
    rw [decide_eq_false (show ¬ V.int n = V.int 0 from fun z => c (V.int.inj z))]
    refine iteT ⟨_, rfl, _, rfl, pD, _, rfl, gP, .inl ⟨rfl, _, SqL.of e1⟩, _, rfl, _, rfl, (by show 2 ≤ sizeLine; decide), fun b nb => ?_⟩
    have sb := sameNew (o := .tup [V.int (l : Int), .int n]) nb
    have eb : upd H1 b (.tup [V.int (l : Int), .int n]) b = some (.tup (pairV (l, n))) := upd_same
    have z2 : PiSt H0 pD Dh ns S h PA (upd H1 b (.tup [V.int (l : Int), .int n])) := ⟨z.same.trans sb, z.nD, z.nh, z.pils.same sb, sb _ _ z.hts⟩
    have e1 := sb _ _ e1
    have e3 : ∀ e ∈ EL, upd H1 b (.tup [V.int (l : Int), .int n]) e.1 = some (.tup (pairV e.2)) := fun e he => sb _ _ (e3 e he)
    dsimp only [tNil]
    generalize upd H1 b (.tup [V.int (l : Int), .int n]) = H2 at eb z2 e1 e3
    have lEL : EL.length = (S k).length := by
      have := congrArg List.length e2
      rwa [List.length_map, List.length_reverse] at this
    have nxt : (EL.map fun e => V.ref e.1) ++ [V.ref b] = (EL ++ [(b, (l, n))]).map fun e => V.ref e.1 := by rw [List.map_append]; rfl
    refine ⟨a, _, _, rfl, rfl, e1, by rw [List.length_map]; omega, ?_⟩
    rw [nxt]
    have na : H0 a = none := z2.pils.new _ ha
    have z3 : PiSt H0 pD Dh ns (FM.set S k ((l, n) :: S k)) h PA (upd H2 a (.lst ((EL ++ [(b, (l, n))]).map fun e => V.ref e.1))) := by
      have ab : b ≠ a := fun e => by rw [e, e1] at eb; cases eb
      refine ⟨Same.upd z2.same na, z2.nD, z2.nh, z2.pils.put ha nd ⟨EL ++ [(b, (l, n))], upd_same, ?_, fun e he => ?_⟩, ?_⟩
      · rw [List.map_append, e2, List.reverse_cons]
        rfl
      · have : H2 e.1 = some (.tup (pairV e.2)) := by
          rcases List.mem_append.mp he with he | he
          · exact e3 e he
          · rw [List.mem_singleton.mp he]
            exact eb
        rw [upd_ne fun z => by rw [z, e1] at this; cases this]
        exact this
      · rw [upd_ne fun z => by rw [← z, z2.hts] at e1; cases e1]
        exact z2.hts
    refine gl _ o pD Dh ns _ h PA k _ _ _ _ _ H0 _ z3 nd n1000 hk fun H' z' => q H' ?_
    rw [FM.set_same] at z'
    exact z'
end
end L2.Und
end

section
set_option Elab.async false
set_option linter.all false
set_option maxRecDepth 100000
set_option maxHeartbeats 2000000
namespace L2.Und
open PySem PySem.Spec PyProof.Rows _root_.Und
open L2.KS
open PySem.W (findIn keepIn typeIn subIn)
section
variable {P : Program} {w : World} {K : PySem.W.Frag} {mg : Str → Option Value} {base : Heap}
theorem pilTurn {f C CT fS : Addr} {fdS : FuncData} {cdv : Value} {A : Around} {outer : List Env} {s : Shared} {H : Hp} {E : XK} (hr : Room 1 (A.deeper (envOfC "piles_of" (defScope sPiles) s.heap.objs.size f cdv)))
    (c : Cls K C) (n1 : NoAttr K C "table") (cT : Cls K CT) (hS : Meth K CT "stops" fS) (GS : FnOk P w K mg base CX0 1 fS fdS ["self", "kind"] (spStops K CT)) (bS : Binds K fdS ["self", "kind"] []) (mM : mg "max" = none) :
    ∃ t, PSs (cxOf CX0 P w K mg base nPiles "piles_of" (defScope sPiles) f cdv A outer s H E).nox pilBody t ∧
      ∀ (D : Ends) (o tb pD Dh dx sy : Addr) (ks : List Str) (ps : List (Str × Str)) (L : SyL) (S : FM.Piles) (PA : List (Str × Addr)) (k : Str) (n : Int) (x5 x6 x7 x8 : Option V) (H0 H1 : Hp), RowAt K C CT o dx tb sy ks ps L H0 →
        PiSt H0 pD Dh (srtTxt ks) S (fun x => (FM.ht (S x) : Nat)) PA H1 → k ∈ ks → (S k).length < sizeLine →
        (∀ H' y5 y6 y7 y8, PiSt H0 pD Dh (srtTxt ks) (FM.step (tabT ks ps) S (k, n)) (fun x => (FM.ht (FM.step (tabT ks ps) S (k, n) x) : Nat)) PA H' → D.nx [some (.ref o), some (.str k), some (.ref pD), some (.ref Dh), some (.int n), y5, y6, y7, y8] H') →
        t D [some (.ref o), some (.str k), some (.ref pD), some (.ref Dh), some (.int n), x5, x6, x7, x8] H1 := by
  have bM : bootBuiltins ("max" : Str) = some (.builtin "max") := by decide +kernel
  have hu : (A.deeper (envOfC "piles_of" (defScope sPiles) s.heap.objs.size f cdv)).units + 1 < cLine := by have := hr.un; omega
  obtain ⟨tl, rl, gl⟩ := pilTail (P := P) (w := w) (K := K) (mg := mg) (base := base) (outer := outer) (H := H) (E := E) hu
  refine ⟨_, pss_cons (ps_set (i := 5) scPiles.nd rfl (Or.inl rfl) (pe_callB (cr_max rfl) rfl mM bM (pa_cons
      (pe_lc (own := [("other", 8)]) (g := gName 8) (tt := tYes) rfl scPiles.nd (pi_tup (pe_meth (pe_fld (pv 0) rfl) cT hS GS hr bS .nil pass0 (pa_cons (pv 1) pa_nil))) (blkOk_by (N := nPiles) (sc := defScope sPiles) (by decide +kernel))
        (fun _ _ _ _ _ => pg_name (i := 8) scPiles.nd rfl (Or.inl rfl)) (fun _ _ _ _ _ => pts_nil) (fun _ _ _ _ _ => pe_dget hu (pv 3) (pv 8) (by intro _ _; rfl))) pa_nil)))
    (pss_cons (ps_set (i := 6) scPiles.nd rfl (Or.inl rfl) (pv 4))
    (pss_cons (ps_if (PW.pt (pw_and (pt_truth (pe_dget hu (pv 2) (pv 1) (by intro _ _; rfl)) (fun _ => rfl)) (pw_and1 (pt_cmpR op_eq (pe_dget hu (pv 3) (pv 1) (by intro _ _; rfl)) (pv 5) (nomark _)))))
      (pss_cons (ps_asg (pe_bm0 PySem.F.plainAttrs_list PySem.F.slot_list_pop PySem.F.type_list_pop mt_pop (pe_dget hu (pv 2) (pv 1) (by intro _ _; rfl))) (pg_tup rfl (pgs_cons (pg_name (i := 5) scPiles.nd rfl (Or.inl rfl)) (pgs_cons (pg_name (i := 7) scPiles.nd rfl (Or.inl rfl)) pgs_nil))))
        (pss_one (ps_set (i := 6) scPiles.nd rfl (Or.inl rfl) (pe_op op_add (pv 4) (pv 7))))) pss_nil) rl)), ?_⟩
  intro D o tb pD Dh dx sy ks ps L S PA k n x5 x6 x7 x8 H0 H1 R z hk lenS q
  have R1 := R.mono (.of z.same)
  have T1 := R1.tab
  have ko : KindsOk ks := by
    obtain ⟨_, _, _, _, _, _, _, T⟩ := T1
    exact kinds_ok T.good
  have nd : (srtTxt ks).Nodup := (srtTxt_perm ks).nodup_iff.mpr ko.nd
  have l12 : (srtTxt ks).length ≤ 1000 := by rw [len_srtTxt]; have := ko.high; omega
  have hks : k ∈ srtTxt ks := mem_srtTxt.mpr hk
  obtain ⟨ST, eST⟩ : ∃ ST, (tabT ks ps).stops k = ST := ⟨_, rfl⟩
  have subST : ∀ x ∈ ST, x ∈ srtTxt ks := fun x hx => by
    rw [← eST] at hx
    exact (FM.Tab.mem_stops _).mp hx |>.1
  have kST : k ∈ ST := by
    rw [← eST]
    exact (FM.Tab.mem_stops _).mpr ⟨hks, (tabT ks ps).irr k⟩
  have lST : ST.length ≤ 1000 := by
    have : ST.length ≤ (srtTxt ks).length := by rw [← eST]; exact List.length_filter_le _ _
    omega
  obtain ⟨dxT, LT, SLT, tk, tp, fr, st, TA⟩ := id T1
  refine ⟨_, rfl, o, C, dx, _, _, rfl, R1.obj, c, n1, rfl, tb, dxT, _, rfl, TA.obj, rfl, _, rfl, tb, k, ks, ps, rfl, T1, hk, fun sA esA => ⟨sA, rfl, ⟨_, SqT.of esA⟩, fun DA nDA => ?_⟩⟩
  rw [eST] at esA
  have LS : (ST.map V.str).length = ST.length := List.length_map ..
  refine lc_tup (K := K) (a := sA) (xs := ST.map V.str) (fun i H' => Same H1 H' ∧ H' DA = some (.lst ((ST.take i).map fun x => V.int ((FM.ht (S x) : Nat) : Int)))) ⟨sameNew nDA, upd_same⟩ (fun i H' _ h => SqT.of (h.1 _ _ esA)) ?_ ?_
  · rintro i x H2 hx ⟨s2, eD⟩
    rw [List.getElem?_map] at hx
    obtain ⟨y, hy, rfl⟩ : ∃ y, ST[i]? = some y ∧ x = V.str y := by
      cases e : ST[i]? with
      | none => rw [e] at hx; cases hx
      | some y => rw [e] at hx; exact ⟨y, rfl, (Option.some.inj hx).symm⟩
    have tkE : ST.take (i + 1) = ST.take i ++ [y] := by rw [List.take_succ, hy]; rfl
    have gH : DGet H2 Dh (.str y) (some (.int ((FM.ht (S y) : Nat) : Int))) := by
      have := DGet.k (k := .inr y) (s2 _ _ z.hts)
      rwa [valV_map_mem (f := fun x => V.int ((FM.ht (S x) : Nat) : Int)) (subST y (List.mem_of_getElem? hy))] at this
    refine ⟨rfl, _, rfl, _, rfl, Dh, _, rfl, gH, _, eD, ?_, Same.upd s2 nDA, ?_⟩
    · rw [List.length_map, List.length_take]
      have : (2000 : Nat) < sizeLine := by decide
      omega
    · rw [upd_same, tkE, List.map_append]
      rfl
  · rintro H2 ⟨s2, eD⟩
    rw [LS, List.take_length] at eD
    have z2 : PiSt H0 pD Dh (srtTxt ks) S (fun x => (FM.ht (S x) : Nat)) PA H2 := ⟨z.same.trans s2, z.nD, z.nh, z.pils.same s2, s2 _ _ z.hts⟩
    refine ⟨DA, ST.map fun x => ((FM.ht (S x) : Nat) : Int), rfl, SqL.of ?_, ?_, fun m hm mx => ?_⟩
    · rw [List.map_map]
      exact eD
    · rw [List.length_map]
      exact List.length_pos_of_mem kST
    obtain ⟨l, el, lm⟩ : ∃ l : Nat, l = FM.lay (tabT ks ps) S k ∧ m = (l : Int) := by
      refine ⟨_, rfl, ?_⟩
      have up : ∀ x ∈ ST, ((FM.ht (S x) : Nat) : Int) ≤ m := fun x hx => mx _ (List.mem_map.mpr ⟨x, hx, rfl⟩)
      obtain ⟨x, hx, ex⟩ := List.mem_map.mp hm
      have e1 : FM.lay (tabT ks ps) S k ≤ FM.ht (S x) := by
        refine FM.maxOf_le fun y hy => ?_
        obtain ⟨u, hu', rfl⟩ := List.mem_map.mp hy
        rw [eST] at hu'
        have := up u hu'
        omega
      have e2 : FM.ht (S x) ≤ FM.lay (tabT ks ps) S k := FM.le_maxOf (List.mem_map.mpr ⟨x, by rw [eST]; exact hx, rfl⟩)
      omega
    subst lm
    clear mx hm
    obtain ⟨a, ha, EL, e1, e2, e3⟩ := z2.pils.get hks
    have ndP : (PA.map (·.1)).Nodup := by rw [z2.pils.names]; exact nd
    have gP : DGet H2 pD (.str k) (some (.ref a)) := by
      have := DGet.k (k := .inr k) z2.pils.dict
      rwa [valV_mem (f := V.ref) ndP ha] at this
    have gH : DGet H2 Dh (.str k) (some (.int ((FM.ht (S k) : Nat) : Int))) := by
      have := DGet.k (k := .inr k) z2.hts
      rwa [valV_map_mem (f := fun x => V.int ((FM.ht (S x) : Nat) : Int)) hks] at this
    have stepE : FM.step (tabT ks ps) S (k, n) = FM.set S k (FM.put (S k) l n) := by rw [el]; rfl
    have hsE : ∀ p : FM.Pile, (fun x => if x = k then ((FM.ht p : Nat) : Int) else ((FM.ht (S x) : Nat) : Int)) = fun x => ((FM.ht (FM.set S k p x) : Nat) : Int) := fun p => by
      funext x
      unfold FM.set
      split <;> rfl
    rw [stepE] at q
    refine ⟨_, rfl, _, rfl, _, rfl, pD, _, rfl, gP, !(EL.map fun e => V.ref e.1).isEmpty, .inl ⟨_, SqL.of e1, rfl⟩, ?_⟩
    cases ep : S k with
    | nil =>
      have : EL = [] := by
        rw [ep] at e2
        cases EL with
        | nil => rfl
        | cons x r => cases e2
      rw [this]
      refine iteF (iteF ?_)
      refine gl _ o pD Dh _ S _ PA k l n _ _ _ H0 H2 z2 nd l12 hks lenS fun H' z' => q H' _ _ _ _ ?_
      rw [hsE] at z'
      rw [ep] at z' ⊢
      exact z'
    | cons y r =>
      obtain ⟨yl, yn⟩ := y
      have e2' := e2
      rw [ep] at e2'
      obtain ⟨EL', b, rfl, e4⟩ := reverse_last e2'
      have eT : H2 b = some (.tup (pairV (yl, yn))) := e3 (b, (yl, yn)) (List.mem_append_right _ List.mem_cons_self)
      have ne : (!((EL' ++ [(b, (yl, yn))]).map fun e => V.ref e.1).isEmpty) = true := by cases EL' <;> rfl
      rw [ne]
      refine iteT ⟨_, rfl, _, rfl, Dh, _, rfl, gH, _, rfl, rfl, _, rfl, ?_⟩
      rw [ep]
      by_cases cl : yl + 1 = l
      · rw [decide_eq_true (show V.int ((FM.ht ((yl, yn) :: r) : Nat) : Int) = V.int (l : Int) by rw [← cl]; rfl)]
        have dl : (((EL' ++ [(b, (yl, yn))]).map fun e => V.ref e.1)).dropLast = EL'.map fun e => V.ref e.1 := by rw [List.map_append]; exact List.dropLast_concat
        have la : (((EL' ++ [(b, (yl, yn))]).map fun e => V.ref e.1))[(((EL' ++ [(b, (yl, yn))]).map fun e => V.ref e.1)).length - 1]? = some (.ref b) := by
          rw [List.map_append, List.length_append]
          simp
        have na : H0 a = none := z2.pils.new _ ha
        have z3 : PiSt H0 pD Dh (srtTxt ks) (FM.set S k r) (fun x => (FM.ht (S x) : Nat)) PA (upd H2 a (.lst (EL'.map fun e => V.ref e.1))) := by
          refine ⟨Same.upd z2.same na, z2.nD, z2.nh, z2.pils.put ha nd ⟨EL', upd_same, e4, fun e he => ?_⟩, ?_⟩
          · have : H2 e.1 = some (.tup (pairV e.2)) := e3 e (List.mem_append_left _ he)
            rw [upd_ne fun z => by rw [z, e1] at this; cases this]
            exact this
          · rw [upd_ne fun z => by rw [← z, z2.hts] at e1; cases e1]
            exact z2.hts
        have eT3 : upd H2 a (.lst (EL'.map fun e => V.ref e.1)) b = some (.tup (pairV (yl, yn))) := by
          rw [upd_ne fun z => by rw [z, e1] at eT; cases eT]
          exact eT
        refine iteT ⟨_, rfl, _, rfl, pD, _, rfl, gP, .inl ⟨rfl, _, SqL.of e1⟩, a, _, .ref b, rfl, rfl, e1, la, ?_⟩
        rw [dl]
        refine ⟨b, _, rfl, SqT.of eT3, rfl, _, _, rfl, _, _, rfl, rfl, ?_⟩
        refine ⟨_, rfl, _, rfl, _, _, rfl, rfl, ?_⟩
        have lr : r.length < sizeLine := by
          rw [ep] at lenS
          exact Nat.lt_of_succ_lt lenS
        refine gl _ o pD Dh _ (FM.set S k r) _ PA k yl (n + yn) _ _ _ H0 _ z3 nd l12 hks (by rw [FM.set_same]; exact lr) fun H' z' => q H' _ _ _ _ ?_
        have pE : FM.put (S k) l n = if n + yn = 0 then r else (yl, n + yn) :: r := by
          rw [ep]
          show (if yl + 1 = l then _ else _) = _
          rw [if_pos cl]
        rw [FM.set_same, FM.set_set, hsE, ← pE] at z'
        exact z'
      · rw [decide_eq_false (show ¬ V.int ((FM.ht ((yl, yn) :: r) : Nat) : Int) = V.int (l : Int) from fun z => cl (by have z := V.int.inj z; have : ((yl + 1 : Nat) : Int) = (l : Int) := z; omega))]
        refine iteF ?_
        refine gl _ o pD Dh _ S _ PA k l n _ _ _ H0 H2 z2 nd l12 hks lenS fun H' z' => q H' _ _ _ _ ?_
        have pE : FM.put (S k) l n = if n = 0 then S k else (l, n) :: S k := by
          rw [ep]
          show (if yl + 1 = l then _ else _) = _
          rw [if_neg cl]
        rw [hsE, ← pE] at z'
        exact z'
end
end L2.Und
end

section
set_option Elab.async false
set_option linter.all false
set_option maxRecDepth 100000
set_option maxHeartbeats 2000000
namespace L2.Und
open PySem PySem.Spec PyProof.Rows _root_.Und
open L2.KS
open PySem.W (findIn keepIn typeIn subIn)
theorem put_len (p : FM.Pile) (L : Nat) (n : Int) : (FM.put p L n).length ≤ p.length + 1 := by
  unfold FM.put
  cases p with
  | nil =>
    show (if n = 0 then ([] : FM.Pile) else [(L, n)]).length ≤ 1
    split <;> simp
  | cons y r =>
    obtain ⟨l, a⟩ := y
    show (if l + 1 = L then (if n + a = 0 then r else (l, n + a) :: r) else (if n = 0 then (l, a) :: r else (L, n) :: (l, a) :: r)).length ≤ _
    split <;> split <;> simp only [List.length_cons] <;> omega
theorem fold_len (T : FM.Tab) (k : Str) : ∀ (l : List FM.Syl) (s : FM.Piles), (l.foldl (FM.step T) s k).length ≤ (s k).length + l.length
  | [], s => Nat.le_refl _
  | e :: l, s => by
    have ih := fold_len T k l (FM.step T s e)
    have : (FM.step T s e k).length ≤ (s k).length + 1 := by
      unfold FM.step
      by_cases c : k = e.1
      · rw [c, FM.set_same]
        exact put_len _ _ _
      · rw [FM.set_ne c]
        omega
    show (l.foldl (FM.step T) (FM.step T s e) k).length ≤ (s k).length + (l.length + 1)
    omega
theorem pil_len (T : FM.Tab) (k : Str) (l : List FM.Syl) : (FM.pil T l k).length ≤ l.length := by
  have := fold_len T k l fun _ => []
  unfold FM.pil
  simpa using this
theorem strs_at {ns : List Str} {i : Nat} {v : V} (h : (ns.map V.str)[i]? = some v) : ∃ x, ns[i]? = some x ∧ v = V.str x := by
  rw [List.getElem?_map] at h
  cases e : ns[i]? with
  | none => rw [e] at h; cases h
  | some x => rw [e] at h; exact ⟨x, rfl, (Option.some.inj h).symm⟩
section
variable {P : Program} {w : World} {K : PySem.W.Frag} {mg : Str → Option Value} {base : Heap}
theorem okPiles {f C CT fS : Addr} {fd fdS : FuncData} (F : Fun K "piles_of" "piles_of" sPiles f fd)
    (c : Cls K C) (n1 : NoAttr K C "table") (n2 : NoAttr K C "syllables") (cT : Cls K CT) (nk : NoAttr K CT "kinds") (hS : Meth K CT "stops" fS) (GS : FnOk P w K mg base CX0 1 fS fdS ["self", "kind"] (spStops K CT)) (bS : Binds K fdS ["self", "kind"] []) (mM : mg "max" = none) :
    FnOk P w K mg base CX0 2 f fd ["row"] (spPiles K C CT) := by
  refine F.ok scPiles (fun vs H Q E h => ?_) (fun cdv A outer s H vs Q E hr h => ?_)
  · obtain ⟨o, t, ks, ps, L, rfl, _⟩ := h
    rfl
  obtain ⟨tl, rl, gl⟩ := pilTurn (P := P) (w := w) (K := K) (mg := mg) (base := base) (outer := outer) (H := H) (E := E) hr c n1 cT hS GS bS mM
  refine ⟨_, pss_cons (ps_setDc (i := 2) (own := [("kind", 1)]) (g := gName 1) (tt := tYes) rfl scPiles.nd rfl rfl (swD rfl rfl rfl (by decide +kernel)) (pi_tup (pe_fld (pe_fld (pv 0) rfl) rfl)) (blkOk_by (N := nPiles) (sc := defScope sPiles) (by decide +kernel))
        (fun _ _ _ _ _ => pg_name (i := 1) scPiles.nd rfl (Or.inl rfl)) (fun _ _ _ _ _ => pts_nil) (fun _ _ _ _ _ => pv 1) (fun _ _ _ _ _ => pe_lst pa_nil))
    (pss_cons (ps_set (i := 3) scPiles.nd rfl (Or.inr rfl) (pe_dc (own := [("kind", 1)]) (g := gName 1) (tt := tYes) rfl scPiles.nd (pi_tup (pe_fld (pe_fld (pv 0) rfl) rfl)) (blkOk_by (N := nPiles) (sc := defScope sPiles) (by decide +kernel))
        (fun _ _ _ _ _ => pg_name (i := 1) scPiles.nd rfl (Or.inl rfl)) (fun _ _ _ _ _ => pts_nil) (fun _ _ _ _ _ => pv 1) (fun _ _ _ _ _ => pe_int)))
    (pss_cons (ps_for PassesOwn.never rfl (pi_tup (pe_fld (pv 0) rfl)) (pg_tup rfl (pgs_cons (pg_name (i := 1) scPiles.nd rfl (Or.inl rfl)) (pgs_cons (pg_name (i := 4) scPiles.nd rfl (Or.inl rfl)) pgs_nil))) rl)
    (pss_one (ps_ret (pv 2))))), ?_⟩
  obtain ⟨o, t, ks, ps, L, rfl, ⟨dx, sy, R⟩, hz, q⟩ := h
  obtain ⟨dxT, LT, SLT, tk, tp, fr, st, TA⟩ := id R.tab
  have ko := kinds_ok TA.good
  have nd : (srtTxt ks).Nodup := (srtTxt_perm ks).nodup_iff.mpr ko.nd
  have l12 : (srtTxt ks).length ≤ 12 := by rw [len_srtTxt]; exact ko.high
  have big : (2000 : Nat) < sizeLine := by decide
  obtain ⟨ns, ens⟩ : ∃ ns, srtTxt ks = ns := ⟨_, rfl⟩
  have ek := TA.kinds
  rw [ens] at nd l12 ek q
  have LN : (ns.map V.str).length = ns.length := List.length_map ..
  refine ⟨_, rfl, o, C, dx, _, _, rfl, R.obj, c, n1, rfl, t, CT, dxT, _, _, rfl, TA.obj, cT, nk, rfl, tk, rfl, ⟨_, SqT.of ek⟩, fun D nD => ?_⟩
  refine dc_tup (xs := ns.map V.str) (fun i H' => Same H H' ∧ ∃ PA : List (Str × Addr), PA.map (·.1) = ns.take i ∧ H' D = some (.dK (refKv PA)) ∧ (∀ p ∈ PA, H' p.2 = some (.lst [])) ∧ (∀ p ∈ PA, H p.2 = none) ∧ ∀ p ∈ PA, ∀ q ∈ PA, p.2 = q.2 → p = q)
    ⟨sameNew nD, [], rfl, upd_same, (fun _ z => nomatch z), (fun _ z => nomatch z), fun _ z => nomatch z⟩ (fun i H' _ z => SqT.of (z.1 _ _ ek)) ?_ ?_
  · rintro i v H1 hv ⟨s1, PA, nm, eD, el, nw, ap⟩
    obtain ⟨x, hx, rfl⟩ := strs_at hv
    have tkE : ns.take (i + 1) = ns.take i ++ [x] := by rw [List.take_succ, hx]; rfl
    refine ⟨rfl, _, rfl, (by show 0 ≤ sizeLine; decide), fun b nb => ?_⟩
    have sb := sameNew (o := .lst []) nb
    have eb : upd H1 b (.lst []) b = some (.lst []) := upd_same
    have eD' := sb _ _ eD
    have el' : ∀ p ∈ PA, upd H1 b (.lst []) p.2 = some (.lst []) := fun p hp => sb _ _ (el p hp)
    have s2 := s1.trans sb
    have bD : b ≠ D := fun z => by rw [z, eD] at nb; cases nb
    have bP : ∀ p ∈ PA, p.2 ≠ b := fun p hp z => by have := el p hp; rw [z] at this; rw [this] at nb; cases nb
    have nb0 : H b = none := s1.free nb
    dsimp only [tNil]
    generalize upd H1 b (.lst []) = H2 at sb eb eD' el' s2
    refine ⟨_, .inr x, rfl, eD', ?_, Same.upd s2 nD, PA ++ [(x, b)], ?_, ?_, ?_, ?_, ?_⟩
    · have := congrArg List.length nm
      rw [List.length_map, List.length_take] at this
      rw [List.length_map]
      omega
    · rw [List.map_append, nm, tkE]
      rfl
    · have new : valV (refKv PA) (.inr x) = none := by
        cases e : valV (refKv PA) (.inr x) with
        | none => rfl
        | some y =>
          exfalso
          have := valV_any (.inr x : Key) (refKv PA)
          rw [e] at this
          obtain ⟨kv, hkv, z⟩ := List.any_eq_true.mp this
          obtain ⟨p, hp, rfl⟩ := List.mem_map.mp hkv
          have z : p.1 = x := Sum.inr.inj (of_decide_eq_true z)
          have nd' : (ns.take i ++ [x]).Nodup := by
            rw [← tkE]
            exact nd.sublist (List.take_sublist _ _)
          rw [List.nodup_append] at nd'
          exact nd'.2.2 p.1 (by rw [← nm]; exact List.mem_map.mpr ⟨p, hp, rfl⟩) x (by simp) z
      rw [upd_same, putK_new _ new]
      show _ = some (HO.dK (List.map _ _))
      rw [List.map_append]
      rfl
    · intro p hp
      rcases List.mem_append.mp hp with hp | hp
      · rw [upd_ne fun z => by have := el' p hp; rw [z, eD'] at this; cases this]
        exact el' p hp
      · rw [List.mem_singleton.mp hp]
        rw [upd_ne bD]
        exact eb
    · intro p hp
      rcases List.mem_append.mp hp with hp | hp
      · exact nw p hp
      · rw [List.mem_singleton.mp hp]
        exact nb0
    · intro p hp q hq e
      rcases List.mem_append.mp hp with hp | hp <;> rcases List.mem_append.mp hq with hq | hq
      · exact ap p hp q hq e
      · rw [List.mem_singleton.mp hq] at e
        exact absurd e (bP p hp)
      · rw [List.mem_singleton.mp hp] at e
        exact absurd e.symm (bP q hq)
      · rw [List.mem_singleton.mp hp, List.mem_singleton.mp hq]
  · rintro H1 ⟨s1, PA, nm, eD, el, nw, ap⟩
    rw [LN, List.take_length] at nm
    have s1 : Same H H1 := s1
    have z1 : Pils H D ns (fun _ => []) PA H1 := ⟨eD, nm, ap, nw, fun p hp => ⟨[], el p hp, rfl, fun _ z => nomatch z⟩⟩
    clear eD el nm ap nw
    have R1 := R.mono (.of s1)
    have T1 := TA.mono (.of s1)
    refine ⟨_, rfl, o, C, dx, _, _, rfl, R1.obj, c, n1, rfl, t, CT, dxT, _, _, rfl, T1.obj, cT, nk, rfl, tk, rfl, ⟨_, SqT.of (s1 _ _ ek)⟩, fun Dh nDh => ?_⟩
    have nDh0 : H Dh = none := s1.free nDh
    refine dc_tup (xs := ns.map V.str) (fun i H' => Same H1 H' ∧ H' Dh = some (.dK (intKv (ns.take i) fun _ => 0))) ⟨sameNew nDh, upd_same⟩ (fun i H' _ z => SqT.of (z.1 _ _ (s1 _ _ ek))) ?_ ?_
    · rintro i v H2 hv ⟨s2, eD⟩
      obtain ⟨x, hx, rfl⟩ := strs_at hv
      have tkE : ns.take (i + 1) = ns.take i ++ [x] := by rw [List.take_succ, hx]; rfl
      refine ⟨rfl, _, rfl, _, .inr x, rfl, eD, ?_, Same.upd s2 nDh, ?_⟩
      · rw [List.length_map, List.length_take]
        omega
      · have new : valV (intKv (ns.take i) fun _ => 0) (.inr x) = none := by
          cases e : valV (intKv (ns.take i) fun _ => 0) (.inr x) with
          | none => rfl
          | some y =>
            exfalso
            have := valV_any (.inr x : Key) (intKv (ns.take i) fun _ => 0)
            rw [e] at this
            obtain ⟨kv, hkv, z⟩ := List.any_eq_true.mp this
            obtain ⟨p, hp, rfl⟩ := List.mem_map.mp hkv
            have z : p = x := Sum.inr.inj (of_decide_eq_true z)
            have nd' : (ns.take i ++ [x]).Nodup := by
              rw [← tkE]
              exact nd.sublist (List.take_sublist _ _)
            rw [List.nodup_append] at nd'
            exact nd'.2.2 p hp x (by simp) z
        rw [upd_same, putK_new _ new, tkE]
        show _ = some (HO.dK (List.map _ _))
        rw [List.map_append]
        rfl
    · rintro H2 ⟨s2, eD⟩
      rw [LN, List.take_length] at eD
      have s2 : Same H1 H2 := s2
      have z2 : PiSt H D Dh ns (fun _ => []) (fun x => (FM.ht ((fun _ => [] : FM.Piles) x) : Nat)) PA H2 := ⟨s1.trans s2, nD, nDh0, z1.same s2, eD⟩
      clear eD z1
      have LL : (refsOf L).length = L.length := List.length_map ..
      refine ⟨_, rfl, o, C, dx, _, _, rfl, s2 _ _ R1.obj, c, n2, rfl, sy, rfl, ⟨_, Same.tup (s1.trans s2) R.syl⟩, for_tup (xs := refsOf L) (fun i σ H' => ∃ x1 x4 x5 x6 x7 x8, σ = [some (.ref o), x1, some (.ref D), some (.ref Dh), x4, x5, x6, x7, x8] ∧
          PiSt H D Dh ns (FM.pil (tabT ks ps) ((sylsOf L).take i)) (fun x => (FM.ht (FM.pil (tabT ks ps) ((sylsOf L).take i) x) : Nat)) PA H') ⟨_, _, _, _, _, _, rfl, z2⟩ (fun i σ H' _ h => ?_) ?_ ?_⟩
      · obtain ⟨_, _, _, _, _, _, _, h⟩ := h
        exact Same.tup h.same R.syl
      · rintro i x σ H3 hx ⟨x1, x4, x5, x6, x7, x8, rfl, z3⟩
        obtain ⟨e, he, rfl⟩ := refs_at hx
        have em := List.mem_of_getElem? he
        have he2 : (sylsOf L)[i]? = some e.2 := by rw [List.getElem?_map, he]; rfl
        have tkE : (sylsOf L).take (i + 1) = (sylsOf L).take i ++ [e.2] := by rw [List.take_succ, he2]; rfl
        have pE : FM.pil (tabT ks ps) ((sylsOf L).take (i + 1)) = FM.step (tabT ks ps) (FM.pil (tabT ks ps) ((sylsOf L).take i)) e.2 := by
          rw [tkE, FM.pil_app]
          rfl
        refine ⟨e.1, _, rfl, Same.tup z3.same (R.each e em), rfl, _, _, rfl, _, _, rfl, rfl, ?_⟩
        rw [← ens] at z3
        refine gl _ o t D Dh dx sy ks ps L _ PA e.2.1 e.2.2 _ _ _ _ H H3 R z3 (R.known e em) ?_ fun H' y5 y6 y7 y8 z' => ⟨_, _, _, _, _, _, rfl, ?_⟩
        · have := pil_len (tabT ks ps) e.2.1 ((sylsOf L).take i)
          rw [List.length_take, List.length_map] at this
          omega
        · rw [pE, ← ens]
          exact z'
      · rintro σ H3 ⟨x1, x4, x5, x6, x7, x8, rfl, z3⟩
        have eT : (sylsOf L).take (refsOf L).length = sylsOf L := List.take_of_length_le (by rw [List.length_map, LL]; exact Nat.le_refl _)
        rw [eT] at z3
        exact ⟨_, rfl, q D PA H3 nD z3.same z3.pils⟩
end
end L2.Und
end

section
set_option Elab.async false
set_option linter.all false
set_option maxRecDepth 100000
set_option maxHeartbeats 1000000
namespace L2.Und
open PySem PySem.Spec PyProof.Rows _root_.Und
/-! ### layers in the heap while they are filled -/
structure LySt (H0 : Hp) (y : Addr) (LA : List Addr) (dn : List EnK) (H : Hp) : Prop where
  same : Same H0 H
  top : H y = some (.lst (LA.map V.ref))
  ny : H0 y = none
  new : ∀ a ∈ LA, H0 a = none
  nd : LA.Nodup
  each : ∀ l a, LA[l]? = some a → ∃ L : SyL, H a = some (.lst (refsOf L)) ∧ sylsOf L = contL dn l ∧ ∀ e ∈ L, H e.1 = some (.tup [.str e.2.1, .int e.2.2])
theorem LySt.mono {H0 : Hp} {y : Addr} {LA : List Addr} {dn : List EnK} {H H' : Hp} (z : LySt H0 y LA dn H) (s : Same H H') : LySt H0 y LA dn H' :=
  ⟨z.same.trans s, s _ _ z.top, z.ny, z.new, z.nd, fun l a h => by
    obtain ⟨L, e1, e2, e3⟩ := z.each l a h
    exact ⟨L, s _ _ e1, e2, fun e he => s _ _ (e3 e he)⟩⟩
theorem LySt.push {H0 : Hp} {y a b : Addr} {LA : List Addr} {dn : List EnK} {H : Hp} {k : Str} {m : Nat} {c : Int} {xs : List V} (z : LySt H0 y LA dn H) (ha : LA[m]? = some a) (hx : H a = some (.lst xs)) (hb : H b = some (.tup [.str k, .int c])) (k' : EnK) (ek : k' = (k, m, c)) :
    LySt H0 y LA (dn ++ [k']) (upd H a (.lst (xs ++ [.ref b]))) := by
  subst ek
  have am : a ∈ LA := List.mem_of_getElem? ha
  have ya : y ≠ a := fun e => by
    subst e
    obtain ⟨L, e1, e2, e3⟩ := z.each m _ ha
    have h1 := z.top
    rw [e1] at h1
    have h1 := HO.lst.inj (Option.some.inj h1)
    cases L with
    | nil =>
      cases LA with
      | nil => cases am
      | cons _ _ => cases h1
    | cons e L =>
      have he := e3 e List.mem_cons_self
      -- the first pair of the layer stands where a layer stands
      cases LA with
      | nil => cases am
      | cons q LA =>
        have h1 : V.ref e.1 = V.ref q := (List.cons.inj h1).1
        have h1 : e.1 = q := V.ref.inj h1
        obtain ⟨L', f1, _, _⟩ := z.each 0 q rfl
        rw [h1, f1] at he
        cases he
  refine ⟨Same.upd z.same (z.new a am), by rw [upd_ne ya]; exact z.top, z.ny, z.new, z.nd, fun l q hq => ?_⟩
  obtain ⟨L, e1, e2, e3⟩ := z.each l q hq
  have off : ∀ e ∈ L, upd H a (.lst (xs ++ [.ref b])) e.1 = some (.tup [.str e.2.1, .int e.2.2]) := fun e he => by
    have := e3 e he
    rw [upd_ne fun w => by rw [w, hx] at this; cases this]
    exact this
  by_cases eq : q = a
  · subst eq
    have lm : l = m := by
      obtain ⟨h1, g1⟩ := List.getElem?_eq_some_iff.mp hq
      obtain ⟨h2, g2⟩ := List.getElem?_eq_some_iff.mp ha
      exact (List.getElem_inj z.nd).mp (g1.trans g2.symm)
    subst lm
    rw [hx] at e1
    have ex : xs = refsOf L := HO.lst.inj (Option.some.inj e1)
    subst ex
    refine ⟨L ++ [(b, k, c)], ?_, ?_, fun e he => ?_⟩
    · rw [upd_same]
      show _ = some (HO.lst (List.map _ _))
      rw [List.map_append]
      rfl
    · rw [contL_snoc, if_pos rfl, ← e2]
      show List.map _ _ = _
      rw [List.map_append]
      rfl
    · rcases List.mem_append.mp he with he | he
      · exact off e he
      · rw [List.mem_singleton.mp he]
        rw [upd_ne fun w => by have w : b = q := w; rw [w, hx] at hb; cases hb]
        exact hb
  · refine ⟨L, by rw [upd_ne eq]; exact e1, ?_, off⟩
    have nl : ¬ m = l := fun w => by
      subst w
      rw [ha] at hq
      exact eq (Option.some.inj hq).symm
    rw [contL_snoc, if_neg nl]
    exact e2
end L2.Und
end

section
set_option Elab.async false
set_option linter.all false
set_option maxRecDepth 100000
set_option maxHeartbeats 1000000
namespace L2.Und
open PySem PySem.Spec PyProof.Rows _root_.Und SeqAt PySem.W
/-! ### max(l, default=d) of a list of whole numbers -/
def topOf (y : Int) (l : List Int) : Int := l.foldl (fun a b => if a < b then b else a) y
theorem topOf_mem (l : List Int) : ∀ y, topOf y l ∈ y :: l := by
  induction l with
  | nil => intro y; exact List.mem_cons_self
  | cons b l ih =>
    intro y
    show topOf (if y < b then b else y) l ∈ y :: b :: l
    split
    · exact List.mem_cons_of_mem _ (ih b)
    · rcases List.mem_cons.mp (ih y) with e | e
      · rw [e]; exact List.mem_cons_self
      · exact List.mem_cons_of_mem _ (List.mem_cons_of_mem _ e)
theorem topOf_le (l : List Int) : ∀ y, ∀ z ∈ y :: l, z ≤ topOf y l := by
  induction l with
  | nil => intro y z hz; rw [List.mem_singleton.mp hz]; exact Int.le_refl _
  | cons b l ih =>
    intro y z hz
    show z ≤ topOf (if y < b then b else y) l
    have h := ih (if y < b then b else y)
    have h0 := h _ List.mem_cons_self
    rcases List.mem_cons.mp hz with rfl | hz
    · split at h0 <;> rename_i c
      · rw [if_pos c]; omega
      · rw [if_neg c]; omega
    rcases List.mem_cons.mp hz with rfl | hz
    · split at h0 <;> rename_i c
      · rw [if_pos c]; omega
      · rw [if_neg c]; omega
    · exact h z (List.mem_cons_of_mem _ hz)
theorem maxD_ints (l : List Int) : ∀ y : Int, PySem.W.maxD (.int y) (l.map PyData.int) = .int (topOf y l) := by
  induction l with
  | nil => intro y; rfl
  | cons b l ih =>
    intro y
    show PySem.W.maxD (if dataLt (.int y) (.int b) = true then .int b else .int y) (l.map PyData.int) = .int (topOf (if y < b then b else y) l)
    rw [dataLt_int]
    by_cases c : y < b
    · rw [if_pos c, if_pos (decide_eq_true c)]
      exact ih b
    · rw [if_neg c, if_neg (by rw [decide_eq_false c]; decide)]
      exact ih y
theorem alikeInts (l : List Int) : PySem.W.AlikeAll (l.map PyData.int) := by
  refine ⟨fun x hx y hy => ?_, fun x hx => ?_⟩
  · obtain ⟨a, _, rfl⟩ := List.mem_map.mp hx
    obtain ⟨b, _, rfl⟩ := List.mem_map.mp hy
    simp [alike]
  · obtain ⟨a, _, rfl⟩ := List.mem_map.mp hx
    intro z
    cases z
def rMaxDf (K : PySem.W.Frag) : List V → List V → Hp → VK → Prop := fun xs zs H Q => ∃ (a : Addr) (ns : List Int) (d : V), xs = [.ref a] ∧ zs = [d] ∧ SqL K H a (ns.map V.int) ∧
  (ns = [] → Q d H) ∧ (∀ m, m ∈ ns → (∀ y ∈ ns, y ≤ m) → Q (.int m) H)
theorem callMaxDf {X : Cx} (hc : X.calm = true) (hu : X.A.units + 64 < cLine) : CallRK X (.builtin "max") ["default"] (rMaxDf X.K) := by
  intro pins s σ H xs zs us ws Q I rx rz h
  obtain ⟨a, ns, d, rfl, rfl, hs, q0, q1⟩ := h
  obtain ⟨its, rv, hl, _⟩ := I.list hs
  rw [Vals.ref1 rx]
  obtain ⟨dv, rfl, rd⟩ := rz.one
  obtain ⟨as, rs⟩ := Dp.readsAll I (ns.map PyData.int) _ its (dpAllInts ns) rv
  refine PySem.W.max_list_default (I.ok.hd hc) hl.isList rs (alikeInts ns) (by rw [depInts]; omega) (fun e h' tk hk => ?_) fun y ys i v h' tk bs e hi r hk => ?_
  · have e : ns = [] := List.map_eq_nil_iff.mp e
    exact ⟨d, H, I.kept hk, rd, q0 e⟩
  · cases ns with
    | nil => cases e
    | cons n ns =>
      rw [List.map_cons] at e
      injection e with e1 e2
      subst e1 e2
      rw [maxD_ints] at r
      cases r with
      | int m t => exact ⟨.int _, H, I.kept hk, ⟨_, rfl⟩, q1 _ (topOf_mem ns n) (topOf_le ns n)⟩
/-- the default a whole number -/
def rMaxDi (K : PySem.W.Frag) : List V → List V → Hp → VK → Prop := fun xs zs H Q => ∃ (a : Addr) (ns : List Int) (d : Int), xs = [.ref a] ∧ zs = [.int d] ∧ SqL K H a (ns.map V.int) ∧
  ∀ m, (ns = [] ∧ m = d) ∨ (m ∈ ns ∧ ∀ y ∈ ns, y ≤ m) → Q (.int m) H
theorem callMaxDi {X : Cx} (hc : X.calm = true) (hu : X.A.units + 64 < cLine) : CallRK X (.builtin "max") ["default"] (rMaxDi X.K) := by
  intro pins s σ H xs zs us ws Q I rx rz h
  obtain ⟨a, ns, d, e1, e2, hs, q⟩ := h
  exact callMaxDf hc hu pins s σ H xs zs us ws Q I rx rz ⟨a, ns, .int d, e1, e2, hs, fun e => q d (.inl ⟨e, rfl⟩), fun m h1 h2 => q m (.inr ⟨h1, h2⟩)⟩
end L2.Und
end

section
set_option Elab.async false
set_option linter.all false
set_option maxRecDepth 100000
set_option maxHeartbeats 1000000
namespace L2.Und
open PySem PySem.Spec PyProof.Rows _root_.Und
open PySem.W (findIn keepIn typeIn subIn)
/-! ### sortedS, as leS -/
theorem sortedS_pw : ∀ {l : List Str}, sortedS l = true → l.Pairwise fun a b => leS a b = true := by
  have go : ∀ (l : List Str) (p : Str), risingS p l = true → (p :: l).Pairwise fun a b => leS a b = true := by
    intro l
    induction l with
    | nil => exact fun p _ => List.pairwise_singleton _ _
    | cons x r ih =>
      intro p h
      unfold risingS at h
      rw [Bool.and_eq_true] at h
      have hx : leS p x = true := by
        have z := h.1
        unfold leS strLt
        rw [ltCps_eq] at z
        exact z
      have ir := ih x h.2
      refine List.pairwise_cons.mpr ⟨fun y hy => ?_, ir⟩
      rcases List.mem_cons.mp hy with rfl | hy
      · exact hx
      · exact leS_trans _ _ _ hx ((List.pairwise_cons.mp ir).1 y hy)
  intro l h
  cases l with
  | nil => exact List.Pairwise.nil
  | cons x r => exact go r x h
end L2.Und
end

section
set_option Elab.async false
set_option linter.all false
set_option maxRecDepth 100000
set_option maxHeartbeats 2000000
namespace L2.Und
open PySem PySem.Spec PyProof.Rows _root_.Und
open L2.KS
open PySem.W (findIn keepIn typeIn subIn)
/-! ### layers_in -/
abbrev sLayIn : Stmt := topS 37
abbrev nLayIn : List Str := ["piles", "layers", "kind", "at", "count", "_", "pile", "layer"]
theorem scLayIn : FnScope nLayIn ["piles"] (defScope sLayIn) := ⟨rfl, rfl, rfl, by decide +kernel, rfl, by decide +kernel, by decide +kernel⟩
structure PilR (D : Addr) (ns : List Str) (s : FM.Piles) (PA : List (Str × Addr)) (H : Hp) : Prop where
  dict : H D = some (.dK (refKv PA))
  names : PA.map (·.1) = ns
  pile : ∀ p ∈ PA, PileAt H p.2 (s p.1)
theorem Pils.R {H0 : Hp} {D : Addr} {ns : List Str} {s : FM.Piles} {PA : List (Str × Addr)} {H : Hp} (z : Pils H0 D ns s PA H) : PilR D ns s PA H := ⟨z.dict, z.names, z.pile⟩
theorem PilR.same {D : Addr} {ns : List Str} {s : FM.Piles} {PA : List (Str × Addr)} {H H' : Hp} (z : PilR D ns s PA H) (m : Same H H') : PilR D ns s PA H' := ⟨m _ _ z.dict, z.names, fun p hp => (z.pile p hp).same m⟩
abbrev LyL := List (Addr × SyL)
structure LysAt (r : Addr) (LY : LyL) (H : Hp) : Prop where
  top : H r = some (.tup (LY.map fun e => V.ref e.1))
  lay : ∀ e ∈ LY, H e.1 = some (.tup (refsOf e.2))
  syl : ∀ e ∈ LY, ∀ x ∈ e.2, H x.1 = some (.tup [.str x.2.1, .int x.2.2])
theorem LysAt.same {r : Addr} {LY : LyL} {H H' : Hp} (z : LysAt r LY H) (m : Same H H') : LysAt r LY H' := ⟨m _ _ z.top, fun e he => m _ _ (z.lay e he), fun e he x hx => m _ _ (z.syl e he x hx)⟩
def rTupOfL (K : PySem.W.Frag) : List V → Hp → VK → Prop := fun xs H Q => ∃ p ys, xs = [V.ref p] ∧ ((SqL K H p ys ∧ ∀ l, H l = none → Q (.ref l) (upd H l (.tup ys))) ∨ SqT K H p ys ∧ Q (.ref p) H)
def tTru (K : PySem.W.Frag) (ta : TE) : TT := fun σ H Q => ta σ H fun x H' => ∃ k, TruV K x H' k ∧ Q k H'
theorem pt_truthK {X : Cx} {K : PySem.W.Frag} {a : Expr} {ta : TE} (e : X.K = K) (ha : PE X a ta) (he : ∀ whole, isTrue a X.env whole = (do let v ← whole; standAt a.pos; holding [v] (truthy v))) : PT X a (tTru K ta) := by
  subst e
  exact pt_truth ha he
def spLayIn : Sp := fun vs H Q _ => ∃ (D : Addr) (ns : List Str) (s : FM.Piles) (PA : List (Str × Addr)) (B : Nat), vs = [.ref D] ∧ PilR D ns s PA H ∧ srtTxt ns = ns ∧ ns.Nodup ∧ ns.length ≤ 12 ∧ (∀ k ∈ ns, (s k).Pairwise fun a b => b.1 < a.1) ∧ (∀ k ∈ ns, (s k).length ≤ B ∧ FM.ht (s k) ≤ B) ∧ B ≤ 5000 ∧
  ∀ (r : Addr) (LY : LyL) (H' : Hp), Same H H' → LysAt r LY H' → LY.map (fun e => sylsOf e.2) = layersL ns s → Q (.ref r) H'
theorem same_unlock {H H' : Hp} {D : Addr} {o u : HO} (s : Same (upd H D o) H') (hD : H D = some u) : Same H (upd H' D u) := fun b v e => by
  by_cases c : b = D
  · subst c
    rw [hD] at e
    cases e
    exact upd_same
  · rw [upd_ne c]
    exact s b v (by rw [upd_ne c]; exact e)
def htsI (S : FM.Piles) (l : List (Str × Addr)) : List Int := (l.filter fun p => decide (S p.1 ≠ [])).map fun p => ((FM.ht (S p.1) : Nat) : Int)
theorem htsI_snoc (S : FM.Piles) (l : List (Str × Addr)) (p : Str × Addr) : htsI S (l ++ [p]) = if S p.1 = [] then htsI S l else htsI S l ++ [((FM.ht (S p.1) : Nat) : Int)] := by
  unfold htsI
  rw [List.filter_append, List.map_append]
  by_cases c : S p.1 = []
  · rw [if_pos c]
    simp [c]
  · rw [if_neg c]
    simp [c]
theorem htsI_top {S : FM.Piles} {PA : List (Str × Addr)} {ns : List Str} (e : PA.map (·.1) = ns) {m : Int} (h : (htsI S PA = [] ∧ m = 0) ∨ (m ∈ htsI S PA ∧ ∀ y ∈ htsI S PA, y ≤ m)) : m = (deepL ns S : Nat) := by
  subst e
  have up : ∀ B : Nat, (∀ p ∈ PA, FM.ht (S p.1) ≤ B) → deepL (PA.map (·.1)) S ≤ B := fun B hB => by
    refine FM.maxOf_le fun x hx => ?_
    obtain ⟨k, hk, rfl⟩ := List.mem_map.mp hx
    obtain ⟨p, hp, rfl⟩ := List.mem_map.mp hk
    exact hB p hp
  rcases h with ⟨h0, rfl⟩ | ⟨h1, h2⟩
  · have := up 0 fun p hp => by
      by_cases c : S p.1 = []
      · rw [c]; exact Nat.le_refl _
      · exfalso
        have : ((FM.ht (S p.1) : Nat) : Int) ∈ htsI S PA := List.mem_map.mpr ⟨p, List.mem_filter.mpr ⟨hp, decide_eq_true c⟩, rfl⟩
        rw [h0] at this
        cases this
    omega
  · obtain ⟨p, hp, rfl⟩ := List.mem_map.mp h1
    have hp := (List.mem_filter.mp hp).1
    have e1 : FM.ht (S p.1) ≤ deepL (PA.map (·.1)) S := FM.le_maxOf (List.mem_map.mpr ⟨p.1, List.mem_map.mpr ⟨p, hp, rfl⟩, rfl⟩)
    have e2 := up (FM.ht (S p.1)) fun q hq => by
      by_cases c : S q.1 = []
      · rw [c]; exact Nat.zero_le _
      · have := h2 _ (List.mem_map.mpr ⟨q, List.mem_filter.mpr ⟨hq, decide_eq_true c⟩, rfl⟩)
        omega
    omega
section
variable {P : Program} {w : World} {K : PySem.W.Frag} {mg : Str → Option Value} {base : Heap}
theorem okLayIn {f : Addr} {fd : FuncData} (F : Fun K "layers_in" "layers_in" sLayIn f fd) (mR : mg "range" = none) (mM : mg "max" = none) (mS : mg "sorted" = none) (mT : mg "tuple" = none) : FnOk P w K mg base CX0 1 f fd ["piles"] spLayIn := by
  have bM : bootBuiltins ("max" : Str) = some (.builtin "max") := by decide +kernel
  have bS : bootBuiltins ("sorted" : Str) = some (.builtin "sorted") := by decide +kernel
  refine F.ok scLayIn (fun vs H Q E h => ?_) (fun cdv A outer s H vs Q E hr h => ?_)
  · obtain ⟨D, ns, s, PA, B, rfl, _⟩ := h
    rfl
  have hu : (A.deeper (envOfC "layers_in" (defScope sLayIn) s.heap.objs.size f cdv)).units + 1 < cLine := by have := hr.un; omega
  have hu64 : (A.deeper (envOfC "layers_in" (defScope sLayIn) s.heap.objs.size f cdv)).units + 64 < cLine := by have := hr.un; omega
  refine ⟨_, pss_cons (ps_setLc (i := 1) (own := [("_", 5)]) (g := gName 5) (tt := tYes) rfl scLayIn.nd rfl rfl (sw_true rfl rfl rfl (by decide +kernel))
      (pi_range1 rfl mR (pa_cons (pe_callBK (callMaxDi rfl hu64) rfl mM bM (pa_cons (pe_lock (pe_lc (own := [("pile", 6)]) (g := gName 6) rfl scLayIn.nd (pi_values (pv 0)) (blkOk_by (N := nLayIn) (sc := defScope sLayIn) (by decide +kernel))
          (fun _ _ _ _ _ => pg_name (i := 6) scLayIn.nd rfl (Or.inl rfl)) (fun _ _ _ _ _ => pts_one (pt_truthK (K := K) rfl (pv 6) (fun _ => rfl)))
          (fun _ _ _ _ _ => pe_op op_add (pe_ix (show IxR _ (rIxT K) from ix_tup) (pe_ix (show IxR _ (rIxL K) from ix_list) (pv 6) (pe_un un_neg pe_int) (fun _ _ => rfl)) pe_int (fun _ _ => rfl)) pe_int))) pa_nil) (pk_cons pe_int pk_nil)) pa_nil))
      (blkOk_by (N := nLayIn) (sc := defScope sLayIn) (by decide +kernel))
      (fun _ _ _ _ _ => pg_name (i := 5) scLayIn.nd rfl (Or.inl rfl)) (fun _ _ _ _ _ => pts_nil) (fun _ _ _ _ _ => pe_lst pa_nil))
    (pss_cons (ps_for PassesOwn.never rfl (pi_list (pe_callB (call_sortedD rfl) rfl mS bS (pa_cons (pv 0) pa_nil))) (pg_name (i := 2) scLayIn.nd rfl (Or.inl rfl))
      (pss_one (ps_for PassesOwn.never rfl (pi_list (pe_dget hu (pv 0) (pv 2) (by intro _ _; rfl))) (pg_tup rfl (pgs_cons (pg_name (i := 3) scLayIn.nd rfl (Or.inl rfl)) (pgs_cons (pg_name (i := 4) scLayIn.nd rfl (Or.inl rfl)) pgs_nil)))
        (pss_one (ps_expr (pe_bm PySem.F.plainAttrs_list PySem.F.slot_list_append PySem.F.type_list_append mt_append (pe_ix ix_list (pv 1) (pv 3) (fun _ _ => rfl)) (pa_cons (pe_tup (pa_cons (pv 2) (pa_cons (pv 4) pa_nil))) pa_nil)))))))
    (pss_one (ps_ret (pe_callTy call_tuple_of rfl mT PyProof.Rows.Boot.«tuple» (pa_cons (pe_lc (own := [("layer", 7)]) (g := gName 7) (tt := tYes) rfl scLayIn.nd (pi_list (pv 1)) (blkOk_by (N := nLayIn) (sc := defScope sLayIn) (by decide +kernel))
        (fun _ _ _ _ _ => pg_name (i := 7) scLayIn.nd rfl (Or.inl rfl)) (fun _ _ _ _ _ => pts_nil) (fun _ _ _ _ _ => pe_callTy (show CallR _ _ (rTupOfL K) from call_tuple_of) rfl mT PyProof.Rows.Boot.«tuple» (pa_cons (pv 7) pa_nil))) pa_nil))))), ?_⟩
  obtain ⟨D, ns, S, PA, B, rfl, z, so, nd, l12, asc, bnd, hB, q⟩ := h
  have big : (100000 : Nat) ≤ sizeLine := by decide
  have lPA : PA.length = ns.length := by rw [← z.names, List.length_map]
  refine ⟨D, _, z.dict, True.intro, fun od => ?_⟩
  have pl : ∀ p ∈ PA, PileAt (upd H D (.frz od (.dK (refKv PA)))) p.2 (S p.1) := fun p hp => (z.pile p hp).off (fun e => by
    obtain ⟨EL, e1, _⟩ := z.pile p hp
    rw [← e, z.dict] at e1
    cases e1) z.dict fun _ e => nomatch e
  have ed : upd H D (.frz od (.dK (refKv PA))) D = some (.frz od (.dK (refKv PA))) := upd_same
  have un : ∀ H', Same (upd H D (.frz od (.dK (refKv PA)))) H' → Same H (upd H' D (.dK (refKv PA))) := fun H' s => same_unlock s z.dict
  generalize upd H D (.frz od (.dK (refKv PA))) = H1 at pl ed un
  refine ⟨_, rfl, D, od, _, rfl, ed, fun DA nDA => ?_⟩
  have lk : (refKv PA).length = PA.length := List.length_map ..
  refine lc_it (walk_values (d := D) (o := od) (kvs := refKv PA)) (fun i H' => Same H1 H' ∧ H' DA = some (.lst ((htsI S (PA.take i)).map V.int))) ⟨sameNew nDA, upd_same⟩ (fun i H' _ h => h.1 _ _ ed) ?_ ?_
  · rintro i x H2 H3 hi ⟨s2, eD⟩ ⟨rfl, k0, hx⟩
    obtain ⟨p, hp, rfl⟩ : ∃ p, PA[i]? = some p ∧ x = V.ref p.2 := by
      rw [List.getElem?_map] at hx
      cases e : PA[i]? with
      | none => rw [e] at hx; cases hx
      | some p => rw [e] at hx; exact ⟨p, rfl, ((Prod.mk.inj (Option.some.inj hx)).2).symm⟩
    have tkE : PA.take (i + 1) = PA.take i ++ [p] := by rw [List.take_succ, hp]; rfl
    obtain ⟨EL, e1, e2, e3⟩ := (pl p (List.mem_of_getElem? hp)).same s2
    rw [tkE, htsI_snoc]
    refine ⟨rfl, _, rfl, !(EL.map fun e => V.ref e.1).isEmpty, .inl ⟨_, SqL.of e1, rfl⟩, ?_⟩
    cases ep : S p.1 with
    | nil =>
      have : EL = [] := by
        rw [ep] at e2
        cases EL with
        | nil => rfl
        | cons x r => cases e2
      rw [this, if_pos rfl]
      exact iteF ⟨s2, eD⟩
    | cons y r =>
      rw [ep] at e2
      obtain ⟨EL', b, rfl, e4⟩ := reverse_last e2
      have eT := e3 (b, y) (List.mem_append_right _ List.mem_cons_self)
      have ne : (!((EL' ++ [(b, y)]).map fun e => V.ref e.1).isEmpty) = true := by cases EL' <;> rfl
      rw [if_neg (show ¬ (y :: r = ([] : FM.Pile)) from fun z => nomatch z), ne]
      refine iteT ⟨_, rfl, _, rfl, p.2, _, _, .ref b, rfl, rfl, SqL.of e1, ?_, b, _, _, _, rfl, rfl, SqT.of eT, rfl, _, _, rfl, rfl, _, eD, ?_, Same.upd s2 nDA, ?_⟩
      · rw [List.map_append]
        exact L2.atI_last _ _
      · rw [List.length_map]
        unfold htsI
        rw [List.length_map]
        have := List.length_filter_le (fun p : Str × Addr => decide (S p.1 ≠ [])) (PA.take i)
        rw [List.length_take] at this
        omega
      · rw [upd_same, List.map_append]
        rfl
  · rintro H2 ⟨s2, eD⟩
    rw [lk, List.take_length] at eD
    have eD2 := s2 _ _ ed
    refine ⟨eD2, ?_⟩
    have s3 := un H2 s2
    have nDA0 : DA ≠ D := fun e => by rw [e, ed] at nDA; cases nDA
    have eD3 : upd H2 D (.dK (refKv PA)) DA = some (.lst ((htsI S PA).map V.int)) := by rw [upd_ne nDA0]; exact eD
    generalize upd H2 D (.dK (refKv PA)) = H3 at s3 eD3
    clear un pl ed eD2 eD s2 H2 nDA H1
    refine ⟨DA, _, _, rfl, rfl, SqL.of eD3, fun m hm => ?_⟩
    have em := htsI_top z.names hm
    subst em
    clear hm
    have dB : deepL ns S ≤ B := FM.maxOf_le fun x hx => by
      obtain ⟨k, hk, rfl⟩ := List.mem_map.mp hx
      exact (bnd k hk).2
    have b62 : (5000 : Int) < 2 ^ 62 := by decide
    refine ⟨_, rfl, by omega, by omega, ?_⟩
    have eN : ((deepL ns S : Nat) : Int).toNat = deepL ns S := by omega
    rw [eN]
    obtain ⟨dp, edp⟩ : ∃ dp, deepL ns S = dp := ⟨_, rfl⟩
    rw [edp] at dB ⊢
    intro y ny
    have ny0 : H y = none := s3.free ny
    refine lc_it (walk_range (lo := 0) (n := dp)) (fun i H' => Same H3 H' ∧ ∃ LA : List Addr, LA.length = i ∧ H' y = some (.lst (LA.map V.ref)) ∧ LA.Nodup ∧ ∀ a ∈ LA, H a = none ∧ a ≠ y ∧ H' a = some (.lst [])) ⟨sameNew ny, [], rfl, upd_same, List.nodup_nil, fun _ z => nomatch z⟩ (fun i H' _ h => True.intro) ?_ ?_
    · rintro i x H4' H4 hi ⟨s4, LA, ll, ey, nd4, e4⟩ ⟨rfl, rfl⟩
      refine ⟨rfl, (by show 0 ≤ sizeLine; decide), fun b nb => ?_⟩
      have sb := sameNew (o := .lst []) nb
      have eb : upd H4 b (.lst []) b = some (.lst []) := upd_same
      have by_ : b ≠ y := fun e => by rw [e, ey] at nb; cases nb
      have bL : ∀ a ∈ LA, a ≠ b := fun a ha e => by have := (e4 a ha).2.2; rw [e, nb] at this; cases this
      have nb0 : H b = none := (s3.trans s4).free nb
      have ey' := sb _ _ ey
      have e4' : ∀ a ∈ LA, upd H4 b (.lst []) a = some (.lst []) := fun a ha => sb _ _ (e4 a ha).2.2
      have s5 := s4.trans sb
      dsimp only [tNil]
      generalize upd H4 b (.lst []) = H5 at sb eb ey' e4' s5
      refine ⟨_, ey', by rw [List.length_map]; omega, Same.upd s5 ny, LA ++ [b], by rw [List.length_append, ll]; rfl, by rw [upd_same, List.map_append]; rfl, ?_, fun a ha => ?_⟩
      · rw [List.nodup_append]
        exact ⟨nd4, by simp, fun a ha c hc => by rw [List.mem_singleton.mp hc]; exact bL a ha⟩
      · rcases List.mem_append.mp ha with ha | ha
        · refine ⟨(e4 a ha).1, (e4 a ha).2.1, ?_⟩
          rw [upd_ne (e4 a ha).2.1]
          exact e4' a ha
        · rw [List.mem_singleton.mp ha]
          refine ⟨nb0, by_, ?_⟩
          rw [upd_ne by_]
          exact eb
    · rintro H4 ⟨s4, LA, ll, ey, nd4, e4⟩
      have z4 : LySt H y LA [] H4 := ⟨s3.trans s4, ey, ny0, fun a ha => (e4 a ha).1, nd4, fun l a h => ⟨[], (e4 a (List.mem_of_getElem? h)).2.2, rfl, fun _ z => nomatch z⟩⟩
      clear ey nd4 e4 s4 eD3 s3 ny
      refine ⟨_, rfl, D, refKv PA, ns, rfl, .inl (z4.same _ _ z.dict), by rw [List.map_map, ← z.names, List.map_map]; rfl, by omega, fun ys p pm srt hp => ?_⟩
      have ey : ys = ns := by rw [srtTxt_of pm (sortedS_pw srt), so]
      subst ey
      have z5 := z4.mono (sameNew (o := .lst (ys.map V.str)) hp)
      have ep : upd H4 p (.lst (ys.map V.str)) p = some (.lst (ys.map V.str)) := upd_same
      have pLA : p ∉ LA := fun m => by
        obtain ⟨l, hl⟩ := List.getElem?_of_mem m
        obtain ⟨L, e1, _⟩ := z4.each l p hl
        rw [e1] at hp
        cases hp
      clear z4
      generalize upd H4 p (.lst (ys.map V.str)) = H5 at z5 ep
      have LN : (ys.map V.str).length = ys.length := List.length_map ..
      refine ⟨p, rfl, ⟨_, SqL.of ep⟩, for_list (xs := ys.map V.str) (fun i σ H' => ∃ x2 x3 x4 x5 x6 x7, σ = [some (.ref D), some (.ref y), x2, x3, x4, x5, x6, x7] ∧ LySt H y LA ((ys.take i).flatMap (entsOf S)) H' ∧ H' p = some (.lst (ys.map V.str))) ⟨_, _, _, _, _, _, rfl, z5, ep⟩ (fun i σ H' _ h => ?_) ?_ ?_⟩
      · obtain ⟨_, _, _, _, _, _, _, _, h⟩ := h
        exact SqL.of h
      · rintro i v σ H6 hv ⟨x2, x3, x4, x5, x6, x7, rfl, z6, ep6⟩
        obtain ⟨k, hk, rfl⟩ := strs_at hv
        have km := List.mem_of_getElem? hk
        have tkE : ys.take (i + 1) = ys.take i ++ [k] := by rw [List.take_succ, hk]; rfl
        have zr := z.same z6.same
        have ndP : (PA.map (·.1)).Nodup := by rw [z.names]; exact nd
        obtain ⟨a, ha⟩ : ∃ a, (k, a) ∈ PA := by
          rw [← z.names] at km
          obtain ⟨⟨k', a⟩, hp', e⟩ := List.mem_map.mp km
          have e : k' = k := e
          subst e
          exact ⟨a, hp'⟩
        have gP : DGet H6 D (.str k) (some (.ref a)) := by
          have := DGet.k (k := .inr k) zr.dict
          rwa [valV_mem (f := V.ref) ndP ha] at this
        obtain ⟨EL, e1, e2, e3⟩ := z.pile _ ha
        have e2 : EL.map (·.2) = (S k).reverse := e2
        have LE : (EL.map fun e => V.ref e.1).length = EL.length := List.length_map ..
        have en : entsOf S k = EL.map fun e => (k, e.2) := by
          unfold entsOf
          rw [← e2, List.map_map]
          rfl
        refine ⟨_, rfl, _, rfl, D, _, rfl, gP, a, rfl, ⟨_, SqL.of (z6.same _ _ e1)⟩, for_list (xs := EL.map fun e => V.ref e.1) (fun j σ H' => ∃ y3 y4 y5 y6 y7, σ = [some (.ref D), some (.ref y), some (.str k), y3, y4, y5, y6, y7] ∧ LySt H y LA ((ys.take i).flatMap (entsOf S) ++ (EL.take j).map fun e => (k, e.2)) H' ∧ H' p = some (.lst (ys.map V.str))) ⟨_, _, _, _, _, rfl, ?_, ep6⟩ (fun j σ H' _ h => ?_) ?_ ?_⟩
        · rw [List.take_zero, List.map_nil, List.append_nil]
          exact z6
        · obtain ⟨_, _, _, _, _, _, h, _⟩ := h
          exact SqL.of (h.same _ _ e1)
        · rintro j v σ H7 hv ⟨y3, y4, y5, y6, y7, rfl, z7, ep7⟩
          obtain ⟨e, he, rfl⟩ : ∃ e, EL[j]? = some e ∧ v = V.ref e.1 := by
            rw [List.getElem?_map] at hv
            cases he : EL[j]? with
            | none => rw [he] at hv; cases hv
            | some e => rw [he] at hv; exact ⟨e, rfl, (Option.some.inj hv).symm⟩
          have em := List.mem_of_getElem? he
          have tkj : EL.take (j + 1) = EL.take j ++ [e] := by rw [List.take_succ, he]; rfl
          have inS : e.2 ∈ S k := by
            have : e.2 ∈ EL.map (·.2) := List.mem_map.mpr ⟨e, em, rfl⟩
            rw [e2] at this
            exact List.mem_reverse.mp this
          have lt : e.2.1 < dp := by rw [← edp]; exact below_deep km (asc k km) inS
          obtain ⟨q', hq'⟩ : ∃ q', LA[e.2.1]? = some q' := ⟨_, List.getElem?_eq_getElem (by rw [ll]; exact lt)⟩
          refine ⟨e.1, _, rfl, SqT.of (z7.same _ _ (e3 e em)), rfl, _, _, rfl, _, _, rfl, rfl, ?_⟩
          obtain ⟨L, f1, f2, f3⟩ := z7.each _ _ hq'
          refine ⟨_, rfl, _, rfl, y, _, _, .ref q', rfl, rfl, SqL.of z7.top, atI_nat (by rw [List.getElem?_map, hq']; rfl), .inl ⟨rfl, _, SqL.of f1⟩, _, rfl, _, rfl, (by show 2 ≤ sizeLine; decide), fun b nb => ?_⟩
          have sb := sameNew (o := .tup [V.str k, .int e.2.2]) nb
          have eb : upd H7 b (.tup [V.str k, .int e.2.2]) b = some (.tup [V.str k, .int e.2.2]) := upd_same
          have z8 := z7.mono sb
          have f1 := sb _ _ f1
          have ep8 := sb _ _ ep7
          dsimp only [tNil]
          generalize upd H7 b (.tup [V.str k, .int e.2.2]) = H8 at z8 f1 eb ep8
          refine ⟨q', _, _, rfl, rfl, f1, ?_, ?_⟩
          · have h1 := congrArg List.length f2
            rw [List.length_map] at h1
            have h2 := contL_len ((ys.take i).flatMap (entsOf S) ++ (EL.take j).map fun e => (k, e.2)) e.2.1
            rw [List.length_append, List.length_map, List.length_take] at h2
            have h3 := ents_len (s := S) (B := B) (ns := ys.take i) fun k hk => (bnd k (List.mem_of_mem_take hk)).1
            have h4 : (ys.take i).length ≤ 12 := by rw [List.length_take]; omega
            have h5 : EL.length ≤ B := by
              have := congrArg List.length e2
              rw [List.length_map, List.length_reverse] at this
              rw [this]
              exact (bnd k km).1
            have h6 : (ys.take i).length * B ≤ 12 * B := Nat.mul_le_mul_right _ h4
            show (L.map _).length < _
            rw [List.length_map]
            omega
          · have z9 := z8.push hq' f1 eb (k, e.2) rfl
            refine ⟨_, _, _, _, _, rfl, ?_, ?_⟩
            · rw [tkj, List.map_append, ← List.append_assoc]
              exact z9
            · rw [upd_ne fun w => pLA (by rw [w]; exact List.mem_of_getElem? hq')]
              exact ep8
        · rintro σ H7 ⟨y3, y4, y5, y6, y7, rfl, z7, ep7⟩
          rw [LE, List.take_length, ← en] at z7
          refine ⟨_, _, _, _, _, _, rfl, ?_, ep7⟩
          rw [tkE, List.flatMap_append]
          simpa using z7
      · rintro σ H6 ⟨x2, x3, x4, x5, x6, x7, rfl, z6, ep6⟩
        rw [LN, List.take_length] at z6
        have eA : ∀ l, contL (ys.flatMap (entsOf S)) l = layL ys S l := fun l => contL_all (fun k hk => asc k hk) l
        clear ep6
        have LL : (LA.map V.ref).length = LA.length := List.length_map ..
        refine ⟨_, rfl, y, rfl, ⟨_, SqL.of z6.top⟩, fun W0 nW => ?_⟩
        refine lc_list (K := K) (a := y) (xs := LA.map V.ref) (fun i H' => Same H6 H' ∧ ∃ LY : LyL, LY.length = i ∧ H' W0 = some (.lst (LY.map fun e => V.ref e.1)) ∧ (∀ e ∈ LY, H' e.1 = some (.tup (refsOf e.2))) ∧ (∀ e ∈ LY, ∀ x ∈ e.2, H' x.1 = some (.tup [.str x.2.1, .int x.2.2])) ∧ LY.map (fun e => sylsOf e.2) = (List.range i).map (layL ys S))
          ⟨sameNew nW, [], rfl, upd_same, (fun _ z => nomatch z), (fun _ z => nomatch z), rfl⟩ (fun i H' _ h => SqL.of (h.1 _ _ z6.top)) ?_ ?_
        · rintro i v H7 hv ⟨s7, LY, lY, eW, g1, g2, g3⟩
          obtain ⟨a, ha, rfl⟩ : ∃ a, LA[i]? = some a ∧ v = V.ref a := by
            rw [List.getElem?_map] at hv
            cases he : LA[i]? with
            | none => rw [he] at hv; cases hv
            | some e => rw [he] at hv; exact ⟨e, rfl, (Option.some.inj hv).symm⟩
          obtain ⟨L, f1, f2, f3⟩ := (z6.mono s7).each i a ha
          have lt : i < dp := by rw [← ll]; exact (List.getElem?_eq_some_iff.mp ha).1
          refine ⟨rfl, _, rfl, a, _, rfl, .inl ⟨SqL.of f1, fun t nt => ?_⟩⟩
          have st := sameNew (o := .tup (refsOf L)) nt
          have et : upd H7 t (.tup (refsOf L)) t = some (.tup (refsOf L)) := upd_same
          have s8 := s7.trans st
          have eW8 := st _ _ eW
          have g1' : ∀ e ∈ LY, upd H7 t (.tup (refsOf L)) e.1 = some (.tup (refsOf e.2)) := fun e he => st _ _ (g1 e he)
          have g2' : ∀ e ∈ LY, ∀ x ∈ e.2, upd H7 t (.tup (refsOf L)) x.1 = some (.tup [.str x.2.1, .int x.2.2]) := fun e he x hx => st _ _ (g2 e he x hx)
          have f3' : ∀ x ∈ L, upd H7 t (.tup (refsOf L)) x.1 = some (.tup [.str x.2.1, .int x.2.2]) := fun x hx => st _ _ (f3 x hx)
          generalize upd H7 t (.tup (refsOf L)) = H8 at et s8 eW8 g1' g2' f3'
          refine ⟨_, eW8, by rw [List.length_map]; omega, Same.upd s8 nW, LY ++ [(t, L)], by rw [List.length_append, lY]; rfl, by rw [upd_same, List.map_append]; rfl, fun e he => ?_, fun e he x hx => ?_, ?_⟩
          · rcases List.mem_append.mp he with he | he
            · rw [upd_ne fun w => by have := g1' e he; rw [w, eW8] at this; cases this]
              exact g1' e he
            · rw [List.mem_singleton.mp he]
              rw [upd_ne fun w => by have w : t = W0 := w; rw [w, eW8] at et; cases et]
              exact et
          · rcases List.mem_append.mp he with he | he
            · rw [upd_ne fun w => by have := g2' e he x hx; rw [w, eW8] at this; cases this]
              exact g2' e he x hx
            · rw [List.mem_singleton.mp he] at hx
              rw [upd_ne fun w => by have := f3' x hx; rw [w, eW8] at this; cases this]
              exact f3' x hx
          · rw [List.map_append, g3, List.range_succ, List.map_append]
            show _ ++ [sylsOf L] = _ ++ [layL ys S i]
            rw [f2, eA]
        · rintro H7 ⟨s7, LY, lY, eW, g1, g2, g3⟩
          rw [LL, ll] at g3
          refine ⟨W0, _, rfl, .inl ⟨SqL.of eW, fun r nr => ?_⟩⟩
          have sr := sameNew (o := .tup (LY.map fun e => V.ref e.1)) nr
          refine q r LY _ (z6.same.trans (s7.trans sr)) ⟨upd_same, fun e he => sr _ _ (g1 e he), fun e he x hx => sr _ _ (g2 e he x hx)⟩ ?_
          rw [g3]
          unfold layersL
          rw [edp]
end
end L2.Und
end

section
set_option Elab.async false
set_option linter.all false
set_option maxRecDepth 100000
set_option maxHeartbeats 2000000
namespace L2.Und
open PySem PySem.Spec PyProof.Rows _root_.Und
open L2.KS
open PySem.W (findIn keepIn typeIn subIn)
/-! ### layers_of -/
theorem step_ht {T : FM.Tab} {s : FM.Piles} {n : Nat} (h : ∀ k, FM.ht (s k) ≤ n) (asc : ∀ k, (s k).Pairwise fun a b => b.1 < a.1) (e : FM.Syl) (k : Str) : FM.ht (FM.step T s e k) ≤ n + 1 := by
  have L : FM.lay T s e.1 ≤ n := FM.maxOf_le fun x hx => by
    obtain ⟨y, _, rfl⟩ := List.mem_map.mp hx
    exact h y
  unfold FM.step
  by_cases c : k = e.1
  · subst c
    rw [FM.set_same]
    have h0 := h e.1
    have a0 := asc e.1
    generalize s e.1 = p at h0 a0
    cases p with
    | nil =>
      show FM.ht (if e.2 = 0 then [] else [(FM.lay T s e.1, e.2)]) ≤ n + 1
      split
      · exact Nat.zero_le _
      · exact Nat.succ_le_succ L
    | cons y r =>
      obtain ⟨l, a⟩ := y
      have hl : l + 1 ≤ n := h0
      have hr : FM.ht r ≤ n := by
        cases r with
        | nil => exact Nat.zero_le _
        | cons q r =>
          have := (List.pairwise_cons.mp a0).1 q List.mem_cons_self
          have : q.1 < l := this
          show q.1 + 1 ≤ n
          omega
      show FM.ht (if l + 1 = FM.lay T s e.1 then (if e.2 + a = 0 then r else (l, e.2 + a) :: r) else (if e.2 = 0 then (l, a) :: r else (FM.lay T s e.1, e.2) :: (l, a) :: r)) ≤ n + 1
      split <;> split
      · omega
      · show l + 1 ≤ n + 1; omega
      · show l + 1 ≤ n + 1; omega
      · show FM.lay T s e.1 + 1 ≤ n + 1; omega
  · rw [FM.set_ne c]
    have := h k
    omega
theorem pil_ht {T : FM.Tab} : ∀ (row : List FM.Syl), (∀ e ∈ row, e.1 ∈ T.ks) → ∀ k, FM.ht (FM.pil T row k) ≤ row.length := by
  refine FM.snoc_ind (p := fun row => (∀ e ∈ row, e.1 ∈ T.ks) → ∀ k, FM.ht (FM.pil T row k) ≤ row.length) (fun _ k => Nat.le_refl _) fun l a ih hk k => ?_
  have hl : ∀ e ∈ l, e.1 ∈ T.ks := fun e he => hk e (List.mem_append_left _ he)
  rw [FM.pil_app, List.length_append]
  exact step_ht (ih hl) (FM.inv_pil hl).asc a k
theorem layers_eq {ks : List Str} {ps : List (Str × Str)} (nd : ks.Nodup) (s : FM.Piles) : layersL (srtTxt ks) s = FM.layersP (ordT ks ps nd) s := rfl
abbrev sLayOf : Stmt := topS 39
theorem scLayOf : FnScope ["row"] ["row"] (defScope sLayOf) := ⟨rfl, rfl, rfl, by decide +kernel, rfl, by decide +kernel, by decide +kernel⟩
/-- the layers of what a row does -/
def layersS (ks : List Str) (ps : List (Str × Str)) (row : List (Str × Int)) : List (List (Str × Int)) := layersL (srtTxt ks) (FM.pil (tabT ks ps) row)
def spLayOf (K : PySem.W.Frag) (C CT : Addr) : Sp := fun vs H Q _ => ∃ (o t : Addr) (ks : List Str) (ps : List (Str × Str)) (L : SyL), vs = [.ref o] ∧ RowR K C CT o t ks ps L H ∧ L.length ≤ 5000 ∧
  ∀ (r : Addr) (LY : LyL) (H' : Hp), Same H H' → LysAt r LY H' → LY.map (fun e => sylsOf e.2) = layersS ks ps (sylsOf L) → Q (.ref r) H'
section
variable {P : Program} {w : World} {K : PySem.W.Frag} {mg : Str → Option Value} {base : Heap}
theorem okLayOf {f fP fL C CT : Addr} {fd fdP fdL : FuncData} (F : Fun K "layers_of" "layers_of" sLayOf f fd)
    (GP : FnOk P w K mg base CX0 2 fP fdP ["row"] (spPiles K C CT)) (mP : mg "piles_of" = some (.ref fP)) (kP : keepIn K (.ref fP) = true) (bP : Binds K fdP ["row"] [])
    (GL : FnOk P w K mg base CX0 1 fL fdL ["piles"] spLayIn) (mL : mg "layers_in" = some (.ref fL)) (kL : keepIn K (.ref fL) = true) (bL : Binds K fdL ["piles"] []) :
    FnOk P w K mg base CX0 3 f fd ["row"] (spLayOf K C CT) := by
  refine F.ok scLayOf (fun vs H Q E h => ?_) (fun cdv A outer s H vs Q E hr h => ?_)
  · obtain ⟨o, t, ks, ps, L, rfl, _⟩ := h
    rfl
  have hr1 : Room 1 (A.deeper (envOfC "layers_of" (defScope sLayOf) s.heap.objs.size f cdv)) := hr.mono (by decide)
  refine ⟨_, pss_one (ps_ret (pe_call GL hr1 rfl mL kL bL .nil pass0 (pa_cons (pe_call GP hr rfl mP kP bP .nil pass0 (pa_cons (pv 0) pa_nil)) pa_nil))), ?_⟩
  obtain ⟨o, t, ks, ps, L, rfl, R, l5, q⟩ := h
  have big : (100000 : Nat) ≤ sizeLine := by decide
  obtain ⟨dx, sy, RA⟩ := id R
  obtain ⟨dxT, LT, SLT, tk, tp, fr, st, TA⟩ := id RA.tab
  have ko := kinds_ok TA.good
  have nd : (srtTxt ks).Nodup := (srtTxt_perm ks).nodup_iff.mpr ko.nd
  have known : ∀ e ∈ sylsOf L, e.1 ∈ (tabT ks ps).ks := fun e he => by
    obtain ⟨x, hx, rfl⟩ := List.mem_map.mp he
    exact memT.mpr (RA.known x hx)
  have I := FM.inv_pil (T := tabT ks ps) known
  have lS : (sylsOf L).length = L.length := List.length_map ..
  refine ⟨_, rfl, o, t, ks, ps, L, rfl, R, by omega, fun D PA H1 nD s1 z1 => ?_⟩
  refine ⟨D, srtTxt ks, _, PA, L.length, rfl, z1.R, ?_, nd, by rw [len_srtTxt]; exact ko.high, fun k _ => I.asc k, fun k _ => ⟨?_, ?_⟩, l5, fun r LY H2 s2 a2 e2 => q r LY H2 (s1.trans s2) a2 e2⟩
  · exact (srtTxt_of (List.Perm.refl _) (srtTxt_pw ks)).symm
  · rw [← lS]; exact pil_len _ _ _
  · rw [← lS]; exact pil_ht _ known k
end
end L2.Und
end

section
set_option Elab.async false
set_option linter.all false
set_option maxRecDepth 100000
set_option maxHeartbeats 1000000
namespace L2.Und
open PySem.W (dataLe dataLt AllAlike Sortable)
open PySem PySem.Spec PyProof.Rows _root_.Und
open L2.KS
/-! ### syllables in order -/
abbrev sVD (e : Addr × Str × Int) : VD := (.ref e.1, dSyl e.2)
def leY (p q : Str × Int) : Bool := if p.1 = q.1 then decide (p.2 ≤ q.2) else leS p.1 q.1
theorem leY_total (a b : Str × Int) : (leY a b || leY b a) = true := by
  unfold leY
  by_cases h : a.1 = b.1
  · rw [if_pos h, if_pos h.symm, Bool.or_eq_true, decide_eq_true_eq, decide_eq_true_eq]
    omega
  · rw [if_neg h, if_neg fun z => h z.symm]
    exact leS_total _ _
theorem leY_trans (a b c : Str × Int) (h1 : leY a b = true) (h2 : leY b c = true) : leY a c = true := by
  unfold leY at *
  by_cases h : a.1 = b.1
  · rw [if_pos h] at h1
    by_cases k : b.1 = c.1
    · rw [if_pos k] at h2
      rw [if_pos (h.trans k)]
      exact decide_eq_true (Int.le_trans (of_decide_eq_true h1) (of_decide_eq_true h2))
    · rw [if_neg k] at h2
      rw [if_neg fun z => k (h.symm.trans z), h]
      exact h2
  · rw [if_neg h] at h1
    by_cases k : b.1 = c.1
    · rw [if_neg fun z => h (z.trans k.symm), ← k]
      exact h1
    · rw [if_neg k] at h2
      by_cases l : a.1 = c.1
      · rw [← l] at h2
        exact absurd (leS_anti h1 h2) h
      · rw [if_neg l]
        exact leS_trans _ _ _ h1 h2
theorem le_syl (a b : Addr) (p q : Str × Int) : dataLe false (·.2) (sVD (a, p)) (sVD (b, q)) = leY p q := by
  show (!dataLt (.tuple [.str q.1, .int q.2]) (.tuple [.str p.1, .int p.2])) = _
  rw [PySem.W.dataLt_pair (by simp [PySem.W.alike]) (by simp [PySem.W.alike]), PySem.W.dataLt_str, PySem.W.dataLt_int]
  simp only [PyData.eqv, beq_iff_eq]
  unfold leY leS strLt
  by_cases h : q.1 = p.1
  · rw [if_pos h, if_pos h.symm]
    by_cases k : q.2 < p.2
    · rw [decide_eq_true k, decide_eq_false (by omega), if_neg (by omega)]
      rfl
    · rw [decide_eq_false k, decide_eq_true (by omega)]
      split <;> rfl
  · rw [if_neg h, if_neg (fun e => h e.symm)]
def srtY (l : List (Str × Int)) : List (Str × Int) := l.mergeSort leY
theorem srt_syls (M : SyL) : ∃ S : SyL, S.Perm M ∧ srt (M.map sVD) = S.map sVD ∧ sylsOf S = srtY (sylsOf M) := by
  refine ⟨M.mergeSort fun a b => leY a.2 b.2, List.mergeSort_perm _ _, ?_, ?_⟩
  · exact (List.map_mergeSort fun a _ b _ => (le_syl a.1 b.1 a.2 b.2).symm).symm
  · exact List.map_mergeSort fun a _ b _ => rfl
theorem alike_sVD (M : SyL) : AllAlike ((M.map sVD).map (·.2)) := by
  intro d hd d' hd'
  rw [List.map_map] at hd hd'
  obtain ⟨p, _, rfl⟩ := List.mem_map.mp hd
  obtain ⟨p', _, rfl⟩ := List.mem_map.mp hd'
  simp [dSyl, PySem.W.alike, PySem.W.alikeAll]
theorem sort_sVD (M : SyL) : Sortable ((M.map sVD).map (·.2)) := by
  refine .inl fun d hd => ?_
  rw [List.map_map] at hd
  obtain ⟨p, _, rfl⟩ := List.mem_map.mp hd
  exact ⟨.str p.2.1, [.int p.2.2], rfl⟩
theorem depSyl (p : Str × Int) : (dSyl p).depth ≤ 40 := by simp [dSyl, PyData.depth, PyData.depthAll]
theorem srtY_perm (l : List (Str × Int)) : (srtY l).Perm l := List.mergeSort_perm _ _
theorem srtY_pw (l : List (Str × Int)) : (srtY l).Pairwise fun a b => leY a b = true := List.pairwise_mergeSort leY_trans leY_total l
end L2.Und
end

section
set_option Elab.async false
set_option linter.all false
set_option maxRecDepth 100000
set_option maxHeartbeats 2000000
namespace L2.Und
open PySem PySem.Spec PyProof.Rows _root_.Und
open L2.KS
open PySem.W (findIn keepIn typeIn subIn)
/-! ### last_of -/
abbrev sLastOf : Stmt := topS 42
def bodyOf : Stmt → List Stmt
  | .For _ _ b _ _ => b
  | _ => []
abbrev lastBody : List Stmt := bodyOf ((defBody sLastOf).getD 2 (.Pass ⟨0, 0, 0, 0⟩))
abbrev nLastOf : List Str := ["table", "syllables", "stopped", "found", "kind", "count", "other"]
theorem scLastOf : FnScope nLastOf ["table", "syllables"] (defScope sLastOf) := ⟨rfl, rfl, rfl, by decide +kernel, rfl, by decide +kernel, by decide +kernel⟩
/-- from the back: the kinds that are stopped, and what is found -/
def lastStep (T : FM.Tab) (st : List Str × List (Str × Int)) (e : Str × Int) : List Str × List (Str × Int) := (T.stops e.1 ++ st.1, if e.1 ∈ st.1 then st.2 else st.2 ++ [e])
def lastGo (T : FM.Tab) (l : List (Str × Int)) : List Str × List (Str × Int) := l.foldl (lastStep T) ([], [])
def lastF (T : FM.Tab) (row : List (Str × Int)) : List (Str × Int) := srtY (lastGo T row.reverse).2
theorem lastGo_snoc (T : FM.Tab) (l : List (Str × Int)) (e : Str × Int) : lastGo T (l ++ [e]) = lastStep T (lastGo T l) e := List.foldl_append
theorem lastGo_len (T : FM.Tab) : ∀ l, (lastGo T l).2.length ≤ l.length := FM.snoc_ind (p := fun l => (lastGo T l).2.length ≤ l.length) (Nat.le_refl _) fun l a ih => by
  rw [lastGo_snoc, List.length_append]
  show (if a.1 ∈ (lastGo T l).1 then (lastGo T l).2 else (lastGo T l).2 ++ [a]).length ≤ l.length + 1
  split
  · omega
  · rw [List.length_append]
    show _ + 1 ≤ _
    omega
/-- a dict whose keys are these -/
def KeysAt (H : Hp) (d : Addr) (st : List Str) (n : Nat) : Prop := ∃ kvs : List (Key × V), H d = some (.dK kvs) ∧ kvs.length ≤ n ∧ ∀ x : Str, valV kvs (.inr x) = if x ∈ st then some (.bl true) else none
theorem KeysAt.same {H H' : Hp} {d : Addr} {st : List Str} {n : Nat} (h : KeysAt H d st n) (s : Same H H') : KeysAt H' d st n := by
  obtain ⟨kvs, e, l, v⟩ := h
  exact ⟨kvs, s _ _ e, l, v⟩
theorem KeysAt.off {H : Hp} {d b : Addr} {o : HO} {st : List Str} {n : Nat} (h : KeysAt H d st n) (ne : b ≠ d) : KeysAt (upd H b o) d st n := by
  obtain ⟨kvs, e, l, v⟩ := h
  exact ⟨kvs, by rw [upd_ne ne.symm]; exact e, l, v⟩
theorem KeysAt.put {H : Hp} {d : Addr} {st : List Str} {n : Nat} (h : KeysAt H d st n) (x : Str) (z : n < sizeLine) : ∃ H', DPut H d (.str x) (.bl true) H' ∧ KeysAt H' d (x :: st) (n + 1) ∧ ∃ o, H' = upd H d o := by
  obtain ⟨kvs, e, l, v⟩ := h
  refine ⟨_, DPut.k (k := .inr x) e (by omega), ⟨_, upd_same, ?_, fun y => ?_⟩, _, rfl⟩
  · have := length_putK kvs (.inr x) (.bl true)
    omega
  · rw [valV_put, v]
    by_cases c : y = x
    · subst c
      rw [if_pos rfl, if_pos List.mem_cons_self]
    · rw [if_neg fun z => c (Sum.inr.inj z)]
      by_cases m : y ∈ st
      · rw [if_pos m, if_pos (List.mem_cons_of_mem _ m)]
      · rw [if_neg m, if_neg fun z => (List.mem_cons.mp z).elim c m]
theorem KeysAt.get {H : Hp} {d : Addr} {st : List Str} {n : Nat} (h : KeysAt H d st n) (x : Str) : DGet H d (.str x) (if x ∈ st then some (.bl true) else none) := by
  obtain ⟨kvs, e, l, v⟩ := h
  have := DGet.k (k := .inr x) e
  rwa [v] at this
theorem KeysAt.congr {H : Hp} {d : Addr} {st st' : List Str} {n n' : Nat} (h : KeysAt H d st n) (e : ∀ x, x ∈ st ↔ x ∈ st') (l : n ≤ n') : KeysAt H d st' n' := by
  obtain ⟨kvs, e1, e2, e3⟩ := h
  refine ⟨kvs, e1, Nat.le_trans e2 l, fun x => ?_⟩
  rw [e3]
  by_cases c : x ∈ st
  · rw [if_pos c, if_pos ((e x).mp c)]
  · rw [if_neg c, if_neg fun z => c ((e x).mpr z)]
structure FndAt (H0 : Hp) (F0 : Addr) (M : SyL) (H : Hp) : Prop where
  top : H F0 = some (.lst (refsOf M))
  each : ∀ e ∈ M, H e.1 = some (.tup [.str e.2.1, .int e.2.2])
theorem FndAt.same {H0 : Hp} {F0 : Addr} {M : SyL} {H H' : Hp} (z : FndAt H0 F0 M H) (s : Same H H') : FndAt H0 F0 M H' := ⟨s _ _ z.top, fun e he => s _ _ (z.each e he)⟩
theorem FndAt.off {H0 : Hp} {F0 b : Addr} {M : SyL} {H : Hp} {o u : HO} (z : FndAt H0 F0 M H) (ne : b ≠ F0) (hb : H b = some u) (nt : ∀ xs, u ≠ .tup xs) : FndAt H0 F0 M (upd H b o) :=
  ⟨by rw [upd_ne ne.symm]; exact z.top, fun e he => by
    have := z.each e he
    rw [upd_ne fun w => by rw [w, hb] at this; exact nt _ (Option.some.inj this)]
    exact this⟩
theorem FndAt.push {H0 : Hp} {F0 b : Addr} {M : SyL} {H : Hp} {k : Str} {c : Int} (z : FndAt H0 F0 M H) (hb : H b = some (.tup [.str k, .int c])) : FndAt H0 F0 (M ++ [(b, k, c)]) (upd H F0 (.lst (refsOf M ++ [.ref b]))) := by
  refine ⟨by rw [upd_same]; show _ = some (HO.lst (List.map _ _)); rw [List.map_append]; rfl, fun e he => ?_⟩
  have : H e.1 = some (.tup [.str e.2.1, .int e.2.2]) := by
    rcases List.mem_append.mp he with he | he
    · exact z.each e he
    · rw [List.mem_singleton.mp he]; exact hb
  rw [upd_ne fun w => by rw [w, z.top] at this; cases this]
  exact this
def spLastOf (K : PySem.W.Frag) (CT : Addr) : Sp := fun vs H Q _ => ∃ (t a : Addr) (ks : List Str) (ps : List (Str × Str)) (L : SyL), vs = [.ref t, .ref a] ∧ TabR K CT t ks ps H ∧ SqL K H a (refsOf L) ∧ Syls K H L ∧ (∀ e ∈ L, e.2.1 ∈ ks) ∧ L.length ≤ 5000 ∧
  ∀ (r : Addr) (S : SyL) (H' : Hp), Same H H' → H' r = some (.tup (refsOf S)) → Syls K H' S → sylsOf S = lastF (tabT ks ps) (sylsOf L) → Q (.ref r) H'
section
variable {P : Program} {w : World} {K : PySem.W.Frag} {mg : Str → Option Value} {base : Heap}
/-- the last statement of a turn -/
theorem lastTail {f CT fS : Addr} {fdS : FuncData} {cdv : Value} {A : Around} {outer : List Env} {s : Shared} {H : Hp} {E : XK} (hr : Room 1 (A.deeper (envOfC "last_of" (defScope sLastOf) s.heap.objs.size f cdv)))
    (cT : Cls K CT) (hS : Meth K CT "stops" fS) (GS : FnOk P w K mg base CX0 1 fS fdS ["self", "kind"] (spStops K CT)) (bS : Binds K fdS ["self", "kind"] []) :
    ∃ t, PSs (cxOf CX0 P w K mg base nLastOf "last_of" (defScope sLastOf) f cdv A outer s H E).nox (lastBody.drop 1) t ∧
      ∀ (D : Ends) (tb a d : Addr) (ks : List Str) (ps : List (Str × Str)) (k : Str) (st : List Str) (n : Nat) (x3 x5 x6 : Option V) (H0 H1 : Hp), TabR K CT tb ks ps H0 → k ∈ ks → Same H0 H1 → H0 d = none → KeysAt H1 d st n → n ≤ 60000 →
        (∀ H' x6, Same H0 H' → KeysAt H' d ((tabT ks ps).stops k ++ st) (n + 12) → (∀ b, b ≠ d → H' b = H1 b) → D.nx [some (.ref tb), some (.ref a), some (.ref d), x3, some (.str k), x5, x6] H') →
        t D [some (.ref tb), some (.ref a), some (.ref d), x3, some (.str k), x5, x6] H1 := by
  have hu : (A.deeper (envOfC "last_of" (defScope sLastOf) s.heap.objs.size f cdv)).units + 1 < cLine := by have := hr.un; omega
  refine ⟨_, pss_one (ps_for PassesOwn.never rfl (pi_tup (pe_meth (pv 0) cT hS GS hr bS .nil pass0 (pa_cons (pv 4) pa_nil))) (pg_name (i := 6) scLastOf.nd rfl (Or.inl rfl))
        (pss_one (ps_dput hu (pv 2) (pv 6) pe_bl rfl))), ?_⟩
  intro D tb a d ks ps k st n x3 x5 x6 H0 H1 T hk s1 nd k1 ln q
  have big : (100000 : Nat) ≤ sizeLine := by decide
  have T1 := T.mono (.of s1)
  obtain ⟨dxT, LT, SLT, tk, tp, fr, st', TA⟩ := id T1
  have ko := kinds_ok TA.good
  obtain ⟨ST, eST⟩ : ∃ ST, (tabT ks ps).stops k = ST := ⟨_, rfl⟩
  have lST : ST.length ≤ 12 := by
    have h1 : ST.length ≤ (srtTxt ks).length := by rw [← eST]; exact List.length_filter_le _ _
    rw [len_srtTxt] at h1
    have := ko.high
    omega
  refine ⟨_, rfl, tb, dxT, _, rfl, TA.obj, rfl, _, rfl, tb, k, ks, ps, rfl, T1, hk, fun sA esA => ⟨sA, rfl, ⟨_, SqT.of esA⟩, ?_⟩⟩
  rw [eST] at esA q
  have LS : (ST.map V.str).length = ST.length := List.length_map ..
  have sd : sA ≠ d := fun e => by obtain ⟨kvs, e1, _⟩ := k1; rw [e, e1] at esA; cases esA
  refine for_tup (xs := ST.map V.str) (fun j σ H' => ∃ y6, σ = [some (.ref tb), some (.ref a), some (.ref d), x3, some (.str k), x5, y6] ∧ Same H0 H' ∧ KeysAt H' d (ST.take j ++ st) (n + j) ∧ (∀ b, b ≠ d → H' b = H1 b)) ⟨_, rfl, s1, by rw [List.take_zero]; exact k1, fun _ _ => rfl⟩ (fun j σ H' _ h => ?_) ?_ ?_
  · obtain ⟨_, _, _, _, h⟩ := h
    exact SqT.of ((h sA sd).trans esA)
  · rintro j v σ H2 hv ⟨y6, rfl, s2, k2, o2⟩
    obtain ⟨x, hx, rfl⟩ := strs_at hv
    have tkE : ST.take (j + 1) = ST.take j ++ [x] := by rw [List.take_succ, hx]; rfl
    have lt : j < ST.length := (List.getElem?_eq_some_iff.mp hx).1
    obtain ⟨H3, g3, k3, o, rfl⟩ := k2.put x (by omega)
    refine ⟨_, rfl, _, rfl, d, _, rfl, g3, _, rfl, Same.upd s2 nd, k3.congr (fun y => ?_) (Nat.le_refl _), fun b hb => ?_⟩
    · rw [tkE]
      simp only [List.mem_cons, List.mem_append, List.mem_singleton, List.not_mem_nil, or_false]
      constructor
      · rintro (h | h | h)
        · exact .inl (.inr h)
        · exact .inl (.inl h)
        · exact .inr h
      · rintro ((h | h) | h)
        · exact .inr (.inl h)
        · exact .inl h
        · exact .inr (.inr h)
    · rw [upd_ne hb]
      exact o2 b hb
  · rintro σ H2 ⟨y6, rfl, s2, k2, o2⟩
    rw [LS, List.take_length] at k2
    exact q H2 _ s2 (k2.congr (fun _ => Iff.rfl) (by omega)) o2
theorem okLastOf {f CT fS : Addr} {fd fdS : FuncData} (F : Fun K "last_of" "last_of" sLastOf f fd) (cT : Cls K CT) (hS : Meth K CT "stops" fS) (GS : FnOk P w K mg base CX0 1 fS fdS ["self", "kind"] (spStops K CT)) (bS : Binds K fdS ["self", "kind"] []) (mS : mg "sorted" = none) (mT : mg "tuple" = none) :
    FnOk P w K mg base CX0 2 f fd ["table", "syllables"] (spLastOf K CT) := by
  have bSo : bootBuiltins ("sorted" : Str) = some (.builtin "sorted") := by decide +kernel
  refine F.ok scLastOf (fun vs H Q E h => ?_) (fun cdv A outer s H vs Q E hr h => ?_)
  · obtain ⟨t, a, ks, ps, L, rfl, _⟩ := h
    rfl
  have hu : (A.deeper (envOfC "last_of" (defScope sLastOf) s.heap.objs.size f cdv)).units + 1 < cLine := by have := hr.un; omega
  have hu64 : (A.deeper (envOfC "last_of" (defScope sLastOf) s.heap.objs.size f cdv)).units + 64 < cLine := by have := hr.un; omega
  obtain ⟨tl, rl, gl⟩ := lastTail (P := P) (w := w) (K := K) (mg := mg) (base := base) (outer := outer) (H := H) (E := E) hr cT hS GS bS
  refine ⟨_, pss_cons (ps_set (i := 2) scLastOf.nd rfl (Or.inl rfl) pe_dnewK)
    (pss_cons (ps_set (i := 3) scLastOf.nd rfl (Or.inl rfl) (pe_lst pa_nil))
    (pss_cons (ps_for PassesOwn.never rfl (pi_list (pe_revL (pv 1))) (pg_tup rfl (pgs_cons (pg_name (i := 4) scLastOf.nd rfl (Or.inl rfl)) (pgs_cons (pg_name (i := 5) scLastOf.nd rfl (Or.inl rfl)) pgs_nil)))
      (pss_cons (ps_if (pt_cmp (pc_dnotin hu (pv 4) (pv 2))) (pss_one (ps_expr (pe_bm PySem.F.plainAttrs_list PySem.F.slot_list_append PySem.F.type_list_append mt_append (pv 3) (pa_cons (pe_tup (pa_cons (pv 4) (pa_cons (pv 5) pa_nil))) pa_nil)))) pss_nil)
      rl))
    (pss_one (ps_ret (pe_callTy call_tuple_of rfl mT PyProof.Rows.Boot.«tuple» (pa_cons (pe_callB (cr_sortD hu64) rfl mS bSo (pa_cons (pv 3) pa_nil)) pa_nil)))))), ?_⟩
  obtain ⟨t, a, ks, ps, L, rfl, T, ha, hL, known, l5, q⟩ := h
  have big : (100000 : Nat) ≤ sizeLine := by decide
  obtain ⟨dxT, LT, SLT, tk, tp, fr, st, TA⟩ := id T
  have ko := kinds_ok TA.good
  intro d nd
  have s1 := sameNew (o := .dK []) nd
  have k1 : KeysAt (upd H d (.dK [])) d [] 0 := ⟨[], upd_same, Nat.le_refl _, fun x => rfl⟩
  show gName 2 _ _ (upd H d (.dK [])) _
  generalize upd H d (.dK []) = H1 at s1 k1
  refine ⟨Nat.zero_le _, fun F0 nF => ?_⟩
  have nF0 : H F0 = none := s1.free nF
  have dF : d ≠ F0 := fun e => by obtain ⟨kvs, e1, _⟩ := k1; rw [e, nF] at e1; cases e1
  have k2 : KeysAt (upd H1 F0 (.lst [])) d [] 0 := k1.off fun e => dF e.symm
  have s2 := Same.upd s1 (o := .lst []) nF0
  have f2 : upd H1 F0 (.lst []) F0 = some (.lst []) := upd_same
  show gName 3 _ _ (upd H1 F0 (.lst [])) _
  generalize upd H1 F0 (.lst []) = H2 at s2 k2 f2
  have z2 : FndAt H F0 [] H2 := ⟨f2, fun _ z => nomatch z⟩
  clear f2 k1 s1 nF
  refine ⟨_, rfl, a, _, rfl, s2.seq ha, fun p np => ?_⟩
  have pF : p ≠ F0 := fun e => by rw [e, z2.top] at np; cases np
  have pd : p ≠ d := fun e => by obtain ⟨kvs, e1, _⟩ := k2; rw [e, e1] at np; cases np
  have np0 : H p = none := s2.free np
  have sp := sameNew (o := .lst (refsOf L).reverse) np
  have ep : upd H2 p (.lst (refsOf L).reverse) p = some (.lst (refsOf L).reverse) := upd_same
  have s3 := s2.trans sp
  have k3 := k2.same sp
  have z3 := z2.same sp
  generalize upd H2 p (.lst (refsOf L).reverse) = H3 at ep s3 k3 z3
  clear s2 k2 z2 sp np
  have eR : (refsOf L).reverse = refsOf L.reverse := by show (L.map _).reverse = L.reverse.map _; rw [List.map_reverse]
  rw [eR] at ep
  obtain ⟨RL, eRL⟩ : ∃ RL, L.reverse = RL := ⟨_, rfl⟩
  rw [eRL] at ep
  have lRL : RL.length = L.length := by rw [← eRL, List.length_reverse]
  have LL : (refsOf RL).length = RL.length := List.length_map ..
  refine ⟨p, rfl, ⟨_, SqL.of ep⟩, for_list (xs := refsOf RL) (fun i σ H' => ∃ x4 x5 x6 M, σ = [some (.ref t), some (.ref a), some (.ref d), some (.ref F0), x4, x5, x6] ∧ Same H H' ∧ KeysAt H' d (lastGo (tabT ks ps) (sylsOf (RL.take i))).1 (12 * i) ∧ FndAt H F0 M H' ∧ sylsOf M = (lastGo (tabT ks ps) (sylsOf (RL.take i))).2 ∧ H' p = some (.lst (refsOf RL)))
    ⟨_, _, _, [], rfl, s3, k3, z3, rfl, ep⟩ (fun i σ H' _ h => ?_) ?_ ?_⟩
  · obtain ⟨_, _, _, _, _, _, _, _, _, h⟩ := h
    exact SqL.of h
  · rintro i v σ H4 hv ⟨x4, x5, x6, M, rfl, s4, k4, z4, eM, ep4⟩
    obtain ⟨e, he, rfl⟩ := refs_at hv
    have em : e ∈ L := by
      have := List.mem_of_getElem? he
      rw [← eRL] at this
      exact List.mem_reverse.mp this
    have lt : i < RL.length := (List.getElem?_eq_some_iff.mp he).1
    have tkE : sylsOf (RL.take (i + 1)) = sylsOf (RL.take i) ++ [e.2] := by
      show (RL.take (i + 1)).map _ = _
      rw [List.take_succ, he, List.map_append]
      rfl
    rw [tkE, lastGo_snoc]
    have lM : M.length ≤ i := by
      have h1 := congrArg List.length eM
      have h2 := lastGo_len (tabT ks ps) (sylsOf (RL.take i))
      rw [List.length_map] at h1 h2
      rw [List.length_take] at h2
      omega
    refine ⟨e.1, _, rfl, Same.tup s4 (hL e em), rfl, _, _, rfl, _, _, rfl, rfl, ?_⟩
    refine ⟨_, rfl, _, rfl, d, _, rfl, k4.get e.2.1, ?_⟩
    obtain ⟨g, eg⟩ : ∃ g, lastGo (tabT ks ps) (sylsOf (RL.take i)) = g := ⟨_, rfl⟩
    rw [eg] at k4 eM ⊢
    by_cases c : e.2.1 ∈ g.1
    · rw [if_pos c]
      refine ⟨_, rfl, iteF ?_⟩
      refine gl _ t a d ks ps e.2.1 g.1 (12 * i) _ _ _ H H4 T (known e em) s4 nd k4 (by omega) fun H' y6 s5 k5 o5 => ⟨_, _, _, M, rfl, s5, k5, ?_, ?_, ?_⟩
      · have nt : ∀ x, x ∈ M → x.1 ≠ d := fun x hx w => by
          have := z4.each x hx
          obtain ⟨kvs, e1, _⟩ := k4
          rw [w, e1] at this
          cases this
        exact ⟨(o5 F0 dF.symm).trans z4.top, fun x hx => (o5 _ (nt x hx)).trans (z4.each x hx)⟩
      · show _ = (if e.2.1 ∈ g.1 then g.2 else g.2 ++ [e.2])
        rw [if_pos c]
        exact eM
      · exact (o5 p pd).trans ep4
    · rw [if_neg c]
      refine ⟨_, rfl, iteT ⟨_, rfl, .inl ⟨rfl, _, SqL.of z4.top⟩, _, rfl, _, rfl, (by show 2 ≤ sizeLine; decide), fun b nb => ?_⟩⟩
      have sb := sameNew (o := .tup [.str e.2.1, .int e.2.2]) nb
      have eb : upd H4 b (.tup [.str e.2.1, .int e.2.2]) b = some (.tup [.str e.2.1, .int e.2.2]) := upd_same
      have s5 := s4.trans sb
      have k5 := k4.same sb
      have z5 := z4.same sb
      have ep5 := sb _ _ ep4
      dsimp only [tNil]
      generalize upd H4 b (.tup [.str e.2.1, .int e.2.2]) = H5 at eb s5 k5 z5 ep5
      have pu := z5.push eb
      have k6 := k5.off (b := F0) (o := .lst (refsOf M ++ [.ref b])) dF.symm
      have s6 := Same.upd s5 (o := .lst (refsOf M ++ [.ref b])) nF0
      have ep6 : upd H5 F0 (.lst (refsOf M ++ [.ref b])) p = some (.lst (refsOf RL)) := by rw [upd_ne pF]; exact ep5
      refine ⟨F0, _, _, rfl, rfl, z5.top, by rw [List.length_map]; omega, ?_⟩
      dsimp only
      generalize upd H5 F0 (.lst (refsOf M ++ [.ref b])) = H6 at pu k6 s6 ep6
      refine gl _ t a d ks ps e.2.1 g.1 (12 * i) _ _ _ H H6 T (known e em) s6 nd k6 (by omega) fun H' y6 s7 k7 o7 => ⟨_, _, _, M ++ [(b, e.2.1, e.2.2)], rfl, s7, k7, ?_, ?_, ?_⟩
      · have nt : ∀ x, x ∈ M ++ [(b, e.2.1, e.2.2)] → x.1 ≠ d := fun x hx w => by
          have := pu.each x hx
          obtain ⟨kvs, e1, _⟩ := k6
          rw [w, e1] at this
          cases this
        exact ⟨(o7 F0 dF.symm).trans pu.top, fun x hx => (o7 _ (nt x hx)).trans (pu.each x hx)⟩
      · show _ = (if e.2.1 ∈ g.1 then g.2 else g.2 ++ [e.2])
        rw [if_neg c, ← eM]
        show List.map _ _ = _
        rw [List.map_append]
        rfl
      · exact (o7 p pd).trans ep6
  · rintro σ H4 ⟨x4, x5, x6, M, rfl, s4, k4, z4, eM, ep4⟩
    rw [LL, List.take_length] at eM
    obtain ⟨S, pS, eS, oS⟩ := srt_syls M
    have e1 : M.map sVD = (M.map sVD) := rfl
    have r1 : (M.map sVD).map (·.1) = refsOf M := by rw [List.map_map]; rfl
    have r2 : (S.map sVD).map (·.1) = refsOf S := by rw [List.map_map]; rfl
    refine ⟨_, rfl, F0, M.map sVD, rfl, .inl (by rw [r1]; exact SqL.of z4.top), fun b hb => ?_, alike_sVD M, sort_sVD M, fun b hb => ?_, fun q0 nq => ?_⟩
    · obtain ⟨x, hx, rfl⟩ := List.mem_map.mp hb
      exact .tup (SqT.of (z4.each x hx)) (.cons (.str _) (.cons (.int _) .nil))
    · obtain ⟨x, _, rfl⟩ := List.mem_map.mp hb
      exact depSyl _
    · rw [eS, r2]
      have s5 := sameNew (o := .lst (refsOf S)) nq
      have e5 : upd H4 q0 (.lst (refsOf S)) q0 = some (.lst (refsOf S)) := upd_same
      dsimp only [tNil]
      generalize upd H4 q0 (.lst (refsOf S)) = H5 at s5 e5
      refine ⟨q0, _, rfl, .inl ⟨SqL.of e5, fun r nr => ?_⟩⟩
      have s6 := s5.trans (sameNew (o := .tup (refsOf S)) nr)
      refine q r S _ (s4.trans s6) upd_same (fun e he => SqT.of (s6 _ _ (z4.each e (pS.mem_iff.mp he)))) ?_
      rw [oS, eM]
      show srtY _ = srtY _
      rw [← eRL]
      show srtY (lastGo (tabT ks ps) (L.reverse.map _)).2 = _
      rw [List.map_reverse]
end
end L2.Und
end

section
set_option Elab.async false
set_option linter.all false
set_option maxRecDepth 100000
set_option maxHeartbeats 1000000
namespace L2.Und
open PySem PySem.Spec PyProof.Rows _root_.Und
open L2.KS
open PySem.W (findIn keepIn typeIn subIn)
/-! ### a row made of known kinds -/
theorem madeRow {K : PySem.W.Frag} {C CT CU t b : Addr} {H : Hp} {ks : List Str} {ps : List (Str × Str)} {L : SyL} {R : Addr → Hp → Prop} {E : XK} (T : TabR K CT t ks ps H) (hb : SqA K H b (refsOf L)) (hL : Syls K H L) (known : ∀ e ∈ L, e.2.1 ∈ ks) (ln : L.length ≤ sizeLine)
    (h : ∀ x H', H x = none → Same H H' → RowR K C CT x t ks ps L H' → R x H') :
    ∀ x dx, H x = none → H dx = none → dx ≠ x → spRowIni K C CT CU [.ref x, .ref t, .ref b] (upd (upd H dx (.own x)) x (.ins C dx [])) (fun v H2 => v = .non ∧ R x H2) E := by
  intro x d hx hd ne
  have s7 := same_made (C := C) hx hd ne
  refine ⟨x, t, b, d, ks, ps, L, rfl, upd_same, T.same s7, SqA.same hb s7, fun e he => Same.tup s7 (hL e he), ln, fun _ H' sy' f r => ⟨rfl, h x H' hx (same_off hx s7 f) ⟨d, sy', r⟩⟩, fun y hy => ?_⟩
  rw [unkn_sub fun e he => known e he] at hy
  cases hy
theorem sqT_offI {K : PySem.W.Frag} {C' o' dx' : Addr} {fs : List (Str × V)} {H H' : Hp} {a : Addr} {xs : List V} (hO : H o' = some (.ins C' dx' fs)) (f : ∀ c u, c ≠ o' → H c = some u → H' c = some u) (h : SqT K H a xs) : SqT K H' a xs := by
  have g : ∀ b u, H b = some u → u ≠ .ins C' dx' fs → H' b = some u := fun b u e n => f b u (fun z => n (by rw [z, hO] at e; exact (Option.some.inj e).symm)) e
  rcases h with (h | ⟨q, h⟩) | h
  · exact .inl (.inl (g _ _ h fun z => nomatch z))
  · exact .inl (.inr ⟨q, g _ _ h fun z => nomatch z⟩)
  · exact .inr h
end L2.Und
end

section
set_option Elab.async false
set_option linter.all false
set_option maxRecDepth 100000
set_option maxHeartbeats 2000000
namespace L2.KS
open PySem PySem.Spec PyProof.Rows
open PySem.W (dataLe dataLt AllAlike Sortable)
/-! ### sets of texts, that can be walked -/
abbrev Ent := Int × Value
abbrev hT (P : Program) (w : World) (x : Str) : Int := (strKind P w).hash x
def TxtE (P : Program) (w : World) (e : Ent) : Prop := ∃ x t, e.2 = Value.str x t ∧ e.1 = hT P w x
def txtOf (e : Ent) : Str := match e.2 with | .str x _ => x | _ => Str.empty
abbrev Walkable (w : World) (t : SetTable) : Prop := Ris t.place.toList ∧ (w.params.followText "set-order" = true ∨ t.led = true)
/-- M: what it holds -/
structure TxtS (P : Program) (w : World) (o : Obj) (es : Array Ent) (ep : Nat) (t : SetTable) (M : List Str) : Prop where
  ex : o.ExactSet
  dat : o.data = .set es ep t
  good : ∀ e ∈ es.toList, TxtE P w e
  nd : (es.toList.map txtOf).Nodup
  mem : ∀ x, x ∈ es.toList.map txtOf ↔ x ∈ M
  few : es.size < scanBound
  fit : t.fits es.size = true
  wk : Walkable w t
def TxtAt (P : Program) (w : World) (h : Heap) (a : Addr) (M : List Str) : Prop := ∃ o es ep t, h.get? a = some o ∧ TxtS P w o es ep t M
section
variable {P : Program} {w : World} {A : Around} {E : Value → Shared → Prop} {s : Shared} {a : Addr} {M : List Str} {o : Obj} {es : Array Ent} {ep : Nat} {t : SetTable}
theorem txt_elems {l : List Ent} (g : ∀ e ∈ l, TxtE P w e) : ElemsOf (strKind P w) l := by
  intro e he
  obtain ⟨x, t, e1, e2⟩ := g e he
  refine ⟨⟨x, ?_, e2⟩, ?_⟩
  · rw [e1]
    show (x == x) = true
    exact beq_self_eq_true x
  · rw [e1]
    rfl
theorem txt_is {e : Ent} (g : TxtE P w e) (x : Str) : (strKind P w).is x e.2 = true ↔ txtOf e = x := by
  obtain ⟨y, t, e1, _⟩ := g
  unfold txtOf
  rw [e1]
  show (y == x) = true ↔ y = x
  exact beq_iff_eq
theorem txt_find {l : List Ent} (g : ∀ e ∈ l, TxtE P w e) (x : Str) : x ∈ l.map txtOf ↔ ∃ e ∈ l, (strKind P w).is x e.2 = true := by
  rw [List.mem_map]
  exact ⟨fun ⟨e, he, q⟩ => ⟨e, he, (txt_is (g e he) x).mpr q⟩, fun ⟨e, he, q⟩ => ⟨e, he, (txt_is (g e he) x).mp q⟩⟩
theorem TxtS.size (z : TxtS P w o es ep t M) : es.size ≤ M.length := by
  have h1 := List.Nodup.length_le_of_subset z.nd fun x hx => (z.mem x).mp hx
  rw [List.length_map, Array.length_toList] at h1
  exact h1
/-- what is stored last -/
theorem txt_tail {g : Bool → Sem Unit} (free : ∀ (b : Bool) (s1 : Shared) (R : Unit → Shared → Prop), R () s1 → wpAny (model P w) A (g b) R E s1) (at0 : s.heap.get? a = some o) (ex : o.ExactSet) (dat : o.data = .set es ep t)
    {es1 : Array Ent} {t1 : SetTable} {M1 : List Str} (Z : ∀ o1 k, o1.ExactSet → o1.data = .set es1 k t1 → TxtS P w o1 es1 k t1 M1) (few : es1.size < scanBound) {old : Bool} {R : Option Bool → Shared → Prop}
    (fin : ∀ h', Heap.SameBut a s.heap h' → TxtAt P w h' a M1 → R (some true) { s with heap := h' }) :
    wpAny (model P w) A (do
        storeSet a es1 t1
        if (!old && t1.tooFull) = true then do
            g (relayAll t1 es1 (SetTable.grown es1.size)).2.2
            storeSet a (relayAll t1 es1 (SetTable.grown es1.size)).1 (relayAll t1 es1 (SetTable.grown es1.size)).2.1
            pure (some true)
          else pure (some true)) R E s := by
  have Z0 := Z { o with data := .set es1 (ep + 1) t1 } (ep + 1) ⟨ex.1, ex.2.1, ex.2.2⟩ rfl
  refine wpAny_bind (wpAny_storeSet_of at0 dat ?_ (fits_of_scanBound few))
  have at1 := store_at (es' := es1) (t' := t1) at0 dat
  have b1 := Heap.SameBut.update s.heap a (Obj.putSet es1 t1)
  by_cases c : (!old && t1.tooFull) = true
  · rw [if_pos c]
    obtain ⟨N, eN⟩ : ∃ N, relayAll t1 es1 (SetTable.grown es1.size) = N := ⟨_, rfl⟩
    have p2 := relayAll_perm t1 es1 (SetTable.grown es1.size)
    have f2 := relayAll_fits t1 es1 (SetTable.grown es1.size)
    have r2 := relayAll_ris t1 es1 (SetTable.grown es1.size)
    have l2 := relayAll_led t1 es1 (SetTable.grown es1.size)
    rw [eN] at p2 f2 r2 l2 ⊢
    obtain ⟨es2, t2, gave⟩ := N
    dsimp only at p2 f2 r2 l2 ⊢
    have z2 : es2.size = es1.size := by
      have := p2.length_eq
      rwa [Array.length_toList, Array.length_toList] at this
    have few2 : es2.size < scanBound := z2 ▸ few
    refine wpAny_bind (free _ _ _ (wpAny_bind (wpAny_storeSet_of at1 rfl ?_ (fits_of_scanBound few2))))
    have at2 := store_at (es' := es2) (t' := t2) at1 rfl
    exact wpAny_pure (fin _ (b1.trans (Heap.SameBut.update _ a _)) ⟨_, es2, _, t2, at2, ⟨ex.1, ex.2.1, ex.2.2⟩, rfl, fun e he => Z0.good e (p2.mem_iff.mp he), (p2.map txtOf).nodup_iff.mpr Z0.nd,
      fun x => (p2.map txtOf).mem_iff.trans (Z0.mem x), few2, f2, r2, Z0.wk.2.imp id fun q => by rw [l2]; exact q⟩)
  · rw [if_neg c]
    exact wpAny_pure (fin _ b1 ⟨_, es1, _, t1, at1, Z0⟩)
theorem txt_addH {x : Str} {tk : Tok} {Q : Bool → Shared → Prop} (R : TxtAt P w s.heap a M) (room : M.length + 1 < scanBound)
    (fin : ∀ b h', Heap.SameBut a s.heap h' → TxtAt P w h' a (x :: M) → Q b { s with heap := h' }) : wpAny (model P w) A (setAddHashed a (.str x tk) (hT P w x)) Q E s := by
  obtain ⟨o, es, ep, t, at0, z⟩ := R
  have isX : (strKind P w).is x (.str x tk) = true := beq_self_eq_true x
  have sc : (Value.str x tk).scannable = true := rfl
  have el := txt_elems z.good
  unfold setAddHashed setAddHashedIn
  refine wpAny_holding (wpAny_bind (wpAny_setState_of at0 z.dat z.fit ?_))
  dsimp only
  rw [byScan_of sc z.few el, if_pos rfl]
  unfold setAddByScan
  refine wpAny_bind (wpAny_bind (wpAny_rule (wpAny_bind (wpAny_setScan_of isX at0 z.dat z.fit el ?_))))
  cases hf : List.findIdx? (fun e => (strKind P w).is x e.2) es.toList with
  | some j =>
    obtain ⟨hj, pj, _⟩ := List.findIdx?_eq_some_iff_getElem.mp hf
    have inM : x ∈ M := (z.mem x).mp ((txt_find z.good x).mpr ⟨_, List.getElem_mem hj, pj⟩)
    refine wpAny_pure (wpAny_pure (fin _ s.heap (Heap.SameBut.refl a s.heap) ⟨o, es, ep, t, at0, { z with mem := fun y => ?_ }⟩))
    rw [z.mem y, List.mem_cons]
    exact ⟨.inr, fun q => q.elim (fun e => e ▸ inM) id⟩
  | none =>
    have out : x ∉ es.toList.map txtOf := fun q => by
      obtain ⟨e, he, y⟩ := (txt_find z.good x).mp q
      have := List.findIdx?_eq_none_iff.mp hf e he
      rw [y] at this
      cases this
    have gives : ∀ (b : Bool) {s1 : Shared} {R : Unit → Shared → Prop}, R () s1 → wpAny (model P w) A (match b with | true => rule "set.scan.the-table-gave-way" | false => pure ()) R E s1 := fun b s1 R q => by
      cases b
      · exact wpAny_pure q
      · exact wpAny_rule q
    obtain ⟨N, eN⟩ : ∃ N, layNew t es (hT P w x) (.str x tk) = N := ⟨_, rfl⟩
    have p1 := layNew_perm t es (hT P w x) (.str x tk)
    have f1 := layNew_fits t es (hT P w x) (.str x tk)
    have r1 := layNew_ris t es (hT P w x) (.str x tk) z.wk.1
    have l1 := layNew_led t es (hT P w x) (.str x tk)
    dsimp only
    rw [eN] at p1 f1 r1 l1 ⊢
    obtain ⟨es1, t1, old, gave⟩ := N
    dsimp only at p1 f1 r1 l1 ⊢
    rw [Array.toList_push] at p1
    have pc : es1.toList.Perm ((hT P w x, Value.str x tk) :: es.toList) := p1.trans (List.perm_append_singleton _ _)
    have pk : (es1.toList.map txtOf).Perm (x :: es.toList.map txtOf) := pc.map txtOf
    have sz : es1.size = es.size + 1 := by
      have := pc.length_eq
      rwa [Array.length_toList, List.length_cons, Array.length_toList] at this
    have few1 : es1.size < scanBound := by
      have := z.size
      omega
    have mk : ∀ t2 : SetTable, t2.fits es1.size = true → Ris t2.place.toList → t2.led = t1.led → ∀ o1 k, o1.ExactSet → o1.data = .set es1 k t2 → TxtS P w o1 es1 k t2 (x :: M) := fun t2 a1 a2 a3 o1 k b1 b2 => by
      refine ⟨b1, b2, fun e he => ?_, pk.nodup_iff.mpr (List.nodup_cons.mpr ⟨out, z.nd⟩), fun y => ?_, few1, a1, a2, z.wk.2.imp id fun q => by rw [a3, l1]; exact q⟩
      · rcases List.mem_cons.mp (pc.mem_iff.mp he) with q | q
        · rw [q]; exact ⟨x, tk, rfl, rfl⟩
        · exact z.good e q
      · rw [pk.mem_iff, List.mem_cons, List.mem_cons, z.mem y]
    refine wpAny_bind (gives _ ?_)
    split
    · refine wpAny_bind ?_
      rw [hashByValue_scannable 8 sc]
      refine wpAny_pure (txt_tail (fun b s1 R q => gives b q) at0 z.ex z.dat (mk _ ?_ ?_ ?_) few1 fun h' sb r => wpAny_pure (fin _ h' sb r))
      · first | (split <;> first | exact f1 | exact SetTable.fits_plain_off f1) | exact f1
      · first | (split <;> exact r1) | exact r1
      · first | (split <;> rfl) | rfl
    · refine wpAny_bind (wpAny_pure ?_)
      rw [if_pos rfl]
      exact txt_tail (fun b s1 R q => gives b q) at0 z.ex z.dat (mk _ f1 r1 rfl) few1 fun h' sb r => wpAny_pure (fin _ h' sb r)
end
end L2.KS
end

section
set_option Elab.async false
set_option linter.all false
set_option maxRecDepth 100000
set_option maxHeartbeats 2000000
namespace L2.Und
open PySem PySem.Spec PyProof.Rows _root_.Und
open L2.KS
open PySem.W (dataLe dataLt AllAlike Sortable EachIs)
/-! ### sets of texts as tracked things: the comprehension, sorted(..) of one -/
def TSO (P : Program) (w : World) (a : Addr) (M : List Str) : HO := .ext fun h => TxtAt P w h a M
theorem tso_ok {P : Program} {w : World} {H : Hp} {h : Heap} {a : Addr} {M : List Str} (R : TxtAt P w h a M) : ObjOk P w H h a (TSO P w a M) := by
  have ⟨o, es, ep, t, e0, z⟩ := R
  refine ⟨R, ⟨o, e0⟩, fun h1 h2 p k => ?_⟩
  have ⟨o', es', ep', t', e0', z'⟩ := (show TxtAt P w h1 a M from p)
  exact ⟨o', es', ep', t', k o' e0', z'⟩
theorem txt_new {P : Program} {w : World} {h : Heap} {a : Addr} (e : h.get? a = some (freshSet w)) : TxtAt P w h a [] := by
  refine ⟨_, #[], 0, _, e, ⟨rfl, rfl, rfl⟩, rfl, (fun x hx => by simp at hx), (by simp), (fun x => by simp), (by decide), (by rfl), List.Pairwise.nil, ?_⟩
  show _ ∨ (!w.params.followText "set-order") = true
  cases w.params.followText "set-order"
  · exact .inr rfl
  · exact .inl rfl
def PutX (P : Program) (w : World) : Addr → V → Hp → (Hp → Prop) → Prop := fun D y H N => ∃ (x : Str) (M : List Str), y = .str x ∧ H D = some (TSO P w D M) ∧ M.length + 1 < scanBound ∧ N (upd H D (TSO P w D (x :: M)))
theorem holdsX (P : Program) (w : World) : Holds P w (fun D => TSO P w D []) (PutX P w) (fun _ => True) where
  new := fun H h D e => tso_ok (txt_new e)
  add := fun X eP eW _ pins σ H s D y v N E I r p => by
    subst eP eW
    obtain ⟨x, M, rfl, hD, top, q⟩ := p
    obtain ⟨tk, rfl⟩ := (show ∃ tk, v = Value.str x tk from r)
    have R : TxtAt X.prog X.w s.heap D M := (I.hok D _ hD).1
    have ty : s.TypeIs (.ref D) "set" := let ⟨o, _, _, _, e0, z⟩ := R; ⟨o, e0, z.ex.1⟩
    refine wpAny_call_entry F.slot_set_add ty F.entry_set_add ?_ (F.args_set_add_2 _ _)
    unfold Builtin.«set.add» Builtin.Frozenset.oneOther
    simp only [List.isEmpty_nil, bind_assoc]
    unfold Builtin.Frozenset.addrOf setAdd
    refine wpAny_bind (wpAny_pure ?_)
    try dsimp only
    refine wpAny_bind (wpAny_pure ?_)
    try dsimp only
    refine wpAny_bind (wpAny_holding (wpAny_bind ((strKind X.prog X.w).pyHash (show (strKind X.prog X.w).is x (.str x tk) = true from beq_self_eq_true x) ?_)))
    refine txt_addH (s := { s with toks := s.toks + 1 }) R top fun b h' sb R2 => ?_
    show wpAny _ _ (ret Value.none) _ _ _
    have there : ∃ u, h'.get? D = some u := let ⟨o, _, _, _, e0, _⟩ := R2; ⟨o, e0⟩
    exact wpAny_pure ⟨_, rfl, _, I.write (e := D) (t' := s.toks + 1) (by rw [hD]; trivial) (.inl rfl) (fun b u hb hu => (sb.2 b hb).trans hu) there (tso_ok R2), q⟩
/-- sorted of such a set -/
def rSortX (P : Program) (w : World) : List V → Hp → VK → Prop := fun vs H Q => ∃ (a : Addr) (M : List Str), vs = [.ref a] ∧ H a = some (TSO P w a M) ∧ M.length ≤ 50000 ∧
  ∀ (ys : List Str) (p : Addr), ys.Nodup → (∀ x, x ∈ ys ↔ x ∈ M) → ys.Pairwise (fun a b => leS a b = true) → H p = none → Q (.ref p) (upd H p (.lst (ys.map V.str)))
theorem alikeX (l : List Str) : AllAlike ((l.map sD).map (·.2)) := by
  intro d hd d' hd'
  rw [List.map_map] at hd hd'
  obtain ⟨x, _, rfl⟩ := List.mem_map.mp hd
  obtain ⟨y, _, rfl⟩ := List.mem_map.mp hd'
  simp [PySem.W.alike]
theorem sortX (l : List Str) : Sortable ((l.map sD).map (·.2)) := by
  refine .inr fun d hd => ?_
  rw [List.map_map] at hd
  obtain ⟨x, _, rfl⟩ := List.mem_map.mp hd
  exact ⟨(fun z => nomatch z), (fun _ z => nomatch z)⟩
theorem cr_sortX {X : Cx} (hc : X.calm = true) (hu : X.A.units + 64 < cLine) : CallR X (.builtin "sorted") (rSortX X.prog X.w) := by
  intro pins s σ H vs us Q I r h
  obtain ⟨a, M, rfl, ha, few, q⟩ := h
  rw [Vals.ref1 r]
  obtain ⟨o, es, ep, t, at0, z⟩ := (show TxtAt X.prog X.w s.heap a M from (I.hok a _ ha).1)
  have big : (100000 : Nat) ≤ sizeLine := by decide
  have zs := z.size
  refine callSorted (bs := (es.toList.map txtOf).map sD) (fun cs => ∃ l : List Ent, l.Perm es.toList ∧ cs = (l.map txtOf).map sD) (fun cs ⟨l, p, e⟩ => e ▸ (p.map _).map _) (alikeX _) (sortX _)
    (by rw [List.length_map, List.length_map, Array.length_toList]; omega) (fun b hb => ?_) (fun R' E' hR => ?_) fun s2 p cs out c k g o1 hp ok hg eo => ?_
  · obtain ⟨x, _, rfl⟩ := List.mem_map.mp hb
    show X.A.units + 2 + 0 < cLine
    omega
  · refine collect_set (A := X.A.in1) (I.ok.hd hc) ⟨o, at0, z.ex.1, z.dat⟩ z.fit z.few z.wk.1 z.wk.2 fun s1 vs k1 z1 g1 o1 pm => ?_
    obtain ⟨l, rfl, pl⟩ := permLift pm
    have each : ∀ m : List Ent, (∀ e ∈ m, e ∈ es.toList) → EachIs (Sd s1.heap) (m.map (·.2)) ((m.map txtOf).map sD) := fun m => by
      induction m with
      | nil => exact fun _ => .nil
      | cons e m ih =>
        intro hm
        obtain ⟨x, tk, e1, _⟩ := z.good e (hm e List.mem_cons_self)
        have e2 : txtOf e = x := by unfold txtOf; rw [e1]
        rw [List.map_cons, List.map_cons, List.map_cons, e2, e1]
        exact .cons ⟨⟨tk, rfl⟩, [], .str x tk, fun _ z => nomatch z⟩ (ih fun y hy => hm y (List.mem_cons_of_mem _ hy))
    exact hR s1 _ _ k1 z1 g1 o1 ⟨l, pl, rfl⟩ (each l fun e he => pl.mem_iff.mp he)
  · obtain ⟨l, pl, rfl⟩ := ok
    have pt := (pl.map txtOf)
    refine sortEnd I k g o1 hp hg eo (by rw [List.length_mergeSort, List.length_map, pt.length_eq, List.length_map, Array.length_toList]; omega) fun p hn => ?_
    show Q (.ref p) (upd H p (.lst ((srt ((l.map txtOf).map sD)).map (·.1))))
    rw [srt_txt, List.map_map]
    have ps := (srtTxt_perm (l.map txtOf)).trans pt
    exact q _ p (ps.nodup_iff.mpr z.nd) (fun x => ps.mem_iff.trans (z.mem x)) (srtTxt_pw _) hn
end L2.Und
end

section
set_option Elab.async false
set_option linter.all false
set_option maxRecDepth 100000
set_option maxHeartbeats 4000000
namespace L2.Und
open PySem PySem.Spec PyProof.Rows _root_.Und
open L2.KS
open PySem.W (findIn keepIn typeIn subIn)
/-! ### Version.__init__ -/
abbrev sVerIni : Stmt := clsPart (topS 49) 0
abbrev nVerIni : List Str := ["self", "table", "syllables", "row", "layers", "form", "layer", "syllable", "kind", "_"]
theorem scVerIni : FnScope nVerIni ["self", "table", "syllables"] (defScope sVerIni) := ⟨rfl, rfl, rfl, by decide +kernel, rfl, by decide +kernel, by decide +kernel⟩
/-- the syllables of the form of what a row does -/
def formS (ks : List Str) (ps : List (Str × Str)) (row : List (Str × Int)) : List (Str × Int) := (layersS ks ps row).flatten
abbrev verFs (t sy ly kd ro la : Addr) : List (Str × V) := [("table", .ref t), ("syllables", .ref sy), ("layers", .ref ly), ("kinds", .ref kd), ("row", .ref ro), ("last", .ref la)]
/-- what a version holds: LS its layers -/
structure VerAt (K : PySem.W.Frag) (CV CR CT o dx t sy ly kd ro la : Addr) (ks : List Str) (ps : List (Str × Str)) (LS : List (List (Str × Int))) (FL S : SyL) (LY : LyL) (KD : List Str) (H : Hp) : Prop where
  obj : H o = some (.ins CV dx (verFs t sy ly kd ro la))
  tab : TabR K CT t ks ps H
  syl : SqT K H sy (refsOf FL)
  each : Syls K H FL
  form : sylsOf FL = LS.flatten
  lays : LysAt ly LY H
  lay : LY.map (fun e => sylsOf e.2) = LS
  kin : SqT K H kd (KD.map V.str)
  kind : KD.Nodup
  kmem : ∀ x, x ∈ KD ↔ ∃ e ∈ FL, e.2.1 = x
  ksrt : KD.Pairwise fun a b => leS a b = true
  row : RowR K CR CT ro t ks ps FL H
  last : SqT K H la (refsOf S)
  leach : Syls K H S
  lsyl : sylsOf S = lastF (tabT ks ps) LS.flatten
  sylT : H sy = some (.tup (refsOf FL))
def spVerIni (K : PySem.W.Frag) (CV CR CT CM : Addr) : Sp := fun vs H Q E => ∃ (o t b dx : Addr) (ks : List Str) (ps : List (Str × Str)) (L : SyL), vs = [.ref o, .ref t, .ref b] ∧ H o = some (.ins CV dx []) ∧ TabR K CT t ks ps H ∧ SqA K H b (refsOf L) ∧ Syls K H L ∧ (∀ e ∈ L, e.2.1 ∈ ks) ∧ L.length ≤ 5000 ∧
  ((formS ks ps (sylsOf L)).length ≤ 1000 → ∀ (H' : Hp) (sy ly kd ro la : Addr) (FL S : SyL) (LY : LyL) (KD : List Str), (∀ c u, c ≠ o → H c = some u → H' c = some u) → VerAt K CV CR CT o dx t sy ly kd ro la ks ps (layersS ks ps (sylsOf L)) FL S LY KD H' → Q .non H') ∧
  (1000 < (formS ks ps (sylsOf L)).length → ∀ (d : Addr) (H' : Hp), H d = none → Same H H' → H' d = some (.xd [("count", .int 1000)]) → E (.ref CM) (some d) H')
abbrev Fr (o : Addr) (H H' : Hp) : Prop := ∀ c u, c ≠ o → H c = some u → H' c = some u
theorem Fr.new {o p : Addr} {H H' : Hp} {v : HO} (f : Fr o H H') (hp : H' p = none) : Fr o H (upd H' p v) := fun c u hc e => sameNew hp _ _ (f c u hc e)
theorem Fr.own {o : Addr} {H H' : Hp} {v : HO} (f : Fr o H H') : Fr o H (upd H' o v) := fun c u hc e => by rw [upd_ne hc]; exact f c u hc e
theorem Fr.same {o : Addr} {H H' H2 : Hp} (f : Fr o H H') (s : Same H' H2) : Fr o H H2 := fun c u hc e => s _ _ (f c u hc e)
theorem Fr.trans {o : Addr} {H H' H2 : Hp} (f : Fr o H H') (g : Fr o H' H2) : Fr o H H2 := fun c u hc e => g c u hc (f c u hc e)
section
variable {P : Program} {w : World} {K : PySem.W.Frag} {mg : Str → Option Value} {base : Heap}
/-- the fields -/
theorem verFlds {f fRI fLa CV CR CT CU : Addr} {fdRI fdLa : FuncData} {cdv : Value} {A : Around} {outer : List Env} {s : Shared} {H : Hp} {E : XK} (hr : Room 5 (A.deeper (envOfC "Version.__init__" (defScope sVerIni) s.heap.objs.size f cdv)))
    (c : Cls K CV) (n1 : NoAttr K CV "table") (n2 : NoAttr K CV "syllables") (n3 : NoAttr K CV "layers") (n4 : NoAttr K CV "kinds") (n5 : NoAttr K CV "row") (n6 : NoAttr K CV "last")
    (M : Mk K CR fRI) (GRI : FnOk P w K mg base (L2.CX P w) 4 fRI fdRI ["self", "table", "syllables"] (spRowIni K CR CT CU)) (mR : mg "Row" = some (.ref CR)) (bR : Binds K fdRI ["self", "table", "syllables"] [])
    (GLa : FnOk P w K mg base CX0 2 fLa fdLa ["table", "syllables"] (spLastOf K CT)) (mLa : mg "last_of" = some (.ref fLa)) (kLa : keepIn K (.ref fLa) = true) (bLa : Binds K fdLa ["table", "syllables"] [])
    (mT : mg "tuple" = none) (mS : mg "sorted" = none) :
    ∃ tr, PSs (cxOf (L2.CX P w) P w K mg base nVerIni "Version.__init__" (defScope sVerIni) f cdv A outer s H E) ((defBody sVerIni).drop 4) tr ∧
      ∀ (D : Ends) (o t b dx fm ly : Addr) (ks : List Str) (ps : List (Str × Str)) (LS : List (List (Str × Int))) (FL : SyL) (LY : LyL) (x2 x3 x6 x7 x8 x9 : Option V) (H1 : Hp), H1 o = some (.ins CV dx []) → TabR K CT t ks ps H1 → H1 fm = some (.lst (refsOf FL)) → Syls K H1 FL → (∀ e ∈ FL, e.2.1 ∈ ks) →
        sylsOf FL = LS.flatten → LysAt ly LY H1 → LY.map (fun e => sylsOf e.2) = LS → FL.length ≤ 1000 →
        (∀ (σ' : St) (H' : Hp) (sy kd ro la : Addr) (S : SyL) (KD : List Str), (∀ c u, c ≠ o → H1 c = some u → H' c = some u) → VerAt K CV CR CT o dx t sy ly kd ro la ks ps LS FL S LY KD H' → D.nx σ' H') →
        tr D [some (.ref o), some (.ref t), x2, x3, some (.ref ly), some (.ref fm), x6, x7, x8, x9] H1 := by
  have bS : bootBuiltins ("sorted" : Str) = some (.builtin "sorted") := by decide +kernel
  have hr2 : Room 2 (A.deeper (envOfC "Version.__init__" (defScope sVerIni) s.heap.objs.size f cdv)) := hr.mono (by decide)
  have hu : (A.deeper (envOfC "Version.__init__" (defScope sVerIni) s.heap.objs.size f cdv)).units + 64 < cLine := by have := hr.un; omega
  refine ⟨_, pss_cons (ps_fld (pv 0) (pv 1) rfl)
    (pss_cons (ps_fld (pv 0) (pe_callTy call_tuple_of rfl mT PyProof.Rows.Boot.«tuple» (pa_cons (pv 5) pa_nil)) rfl)
    (pss_cons (ps_fld (pv 0) (pv 4) rfl)
    (pss_cons (ps_fld (pv 0) (pe_callTy call_tuple_of rfl mT PyProof.Rows.Boot.«tuple» (pa_cons (pe_callB (cr_sortX rfl hu) rfl mS bS (pa_cons
        (pe_setOf (holdsX P w) (own := [("kind", 8), ("_", 9)]) (g := gTup K 2 (gCons (gName 8) (gCons (gName 9) gNil))) (tt := tYes) True.intro rfl scVerIni.nd (pi_list (pv 5)) (blkOk_by (N := nVerIni) (sc := defScope sVerIni) (by decide +kernel))
          (fun _ _ _ _ _ => pg_tup rfl (pgs_cons (pg_name (i := 8) scVerIni.nd rfl (Or.inl rfl)) (pgs_cons (pg_name (i := 9) scVerIni.nd rfl (Or.inl rfl)) pgs_nil))) (fun _ _ _ _ _ => pts_nil)
          (fun _ _ _ _ _ => pv 8)) pa_nil)) pa_nil)) rfl)
    (pss_cons (ps_fld (pv 0) (peMakeS M GRI hr rfl mR bR .nil (fun σ => passAt (takes_of rfl rfl rfl rfl) σ) (pa_cons (pv 1) (pa_cons (pv 5) pa_nil))) rfl)
    (pss_one (ps_fld (pv 0) (pe_call GLa hr2 rfl mLa kLa bLa .nil pass0 (pa_cons (pv 1) (pa_cons (pv 5) pa_nil))) rfl)))))), ?_⟩
  intro D o t b dx fm ly ks ps LS FL LY x2 x3 x6 x7 x8 x9 H1 hO hT hF hE kn eF aL eL few q
  have big : (100000 : Nat) ≤ sizeLine := by decide
  have fF : fm ≠ o := fun e => by rw [e, hO] at hF; cases hF
  have oL : ∀ e ∈ LY, e.1 ≠ o := fun e he z => by have := aL.lay e he; rw [z, hO] at this; cases this
  have oS : ∀ e ∈ LY, ∀ x ∈ e.2, x.1 ≠ o := fun e he x hx z => by have := aL.syl e he x hx; rw [z, hO] at this; cases this
  have oT : ly ≠ o := fun e => by have := aL.top; rw [e, hO] at this; cases this
  refine ⟨_, rfl, _, rfl, o, CV, dx, [], rfl, hO, c, n1, by decide, ?_⟩
  have f2 : Fr o H1 (upd H1 o (.ins CV dx (putF "table" (.ref t) []))) := Fr.own fun _ _ _ e => e
  have o2 : upd H1 o (.ins CV dx (putF "table" (.ref t) [])) o = some (.ins CV dx [("table", .ref t)]) := upd_same
  generalize upd H1 o (.ins CV dx (putF "table" (.ref t) [])) = H2 at f2 o2
  refine ⟨_, rfl, fm, refsOf FL, rfl, .inl ⟨SqL.of (f2 _ _ fF hF), fun sy ns => ?_⟩⟩
  have f3 : Fr o H1 (upd H2 sy (.tup (refsOf FL))) := f2.new ns
  have o3 := sameNew (o := .tup (refsOf FL)) ns _ _ o2
  have y3 : upd H2 sy (.tup (refsOf FL)) sy = some (.tup (refsOf FL)) := upd_same
  have syo : sy ≠ o := fun e => by rw [e, o2] at ns; cases ns
  generalize upd H2 sy (.tup (refsOf FL)) = H3 at f3 o3 y3
  refine ⟨_, rfl, o, CV, dx, _, rfl, o3, c, n2, by show 1 < 1000; decide, ?_⟩
  have f4 := f3.own (v := .ins CV dx (putF "syllables" (.ref sy) [("table", .ref t)]))
  have o4 : upd H3 o (.ins CV dx (putF "syllables" (.ref sy) [("table", .ref t)])) o = some (.ins CV dx [("table", .ref t), ("syllables", .ref sy)]) := upd_same
  have y4 : upd H3 o (.ins CV dx (putF "syllables" (.ref sy) [("table", .ref t)])) sy = some (.tup (refsOf FL)) := by rw [upd_ne syo]; exact y3
  generalize upd H3 o (.ins CV dx (putF "syllables" (.ref sy) [("table", .ref t)])) = H4 at f4 o4 y4
  refine ⟨_, rfl, _, rfl, o, CV, dx, _, rfl, o4, c, n3, by show 2 < 1000; decide, ?_⟩
  have f5 := f4.own (v := .ins CV dx (putF "layers" (.ref ly) [("table", .ref t), ("syllables", .ref sy)]))
  have o5 : upd H4 o (.ins CV dx (putF "layers" (.ref ly) [("table", .ref t), ("syllables", .ref sy)])) o = some (.ins CV dx [("table", .ref t), ("syllables", .ref sy), ("layers", .ref ly)]) := upd_same
  have y5 : upd H4 o (.ins CV dx (putF "layers" (.ref ly) [("table", .ref t), ("syllables", .ref sy)])) sy = some (.tup (refsOf FL)) := by rw [upd_ne syo]; exact y4
  generalize upd H4 o (.ins CV dx (putF "layers" (.ref ly) [("table", .ref t), ("syllables", .ref sy)])) = H5 at f5 o5 y5
  -- the kinds
  have F5 := f5 _ _ fF hF
  have E5 : Syls K H5 FL := fun e he => sqT_off hO f5 (hE e he)
  refine ⟨_, rfl, fm, rfl, ⟨_, SqL.of F5⟩, fun SA nSA => ?_⟩
  have LL : (refsOf FL).length = FL.length := List.length_map ..
  have sc : (2000 : Nat) < scanBound := by decide
  refine so_it (walk_list (K := K) (a := fm) (xs := refsOf FL)) (fun i H' => Same H5 H' ∧ ∃ Ms : List Str, H' SA = some (TSO P w SA Ms) ∧ Ms.length ≤ i ∧ ∀ x, x ∈ Ms ↔ ∃ e ∈ FL.take i, e.2.1 = x) ⟨sameNew nSA, [], upd_same, Nat.le_refl _, fun x => ⟨(fun z => nomatch z), fun ⟨e, he, _⟩ => by rw [List.take_zero] at he; cases he⟩⟩ (fun i H' _ z => SqL.of (z.1 _ _ F5)) ?_ ?_
  · rintro i x H6 H7 hi ⟨s6, Ms, eS, lS, mS'⟩ ⟨rfl, hx⟩
    obtain ⟨e, he, rfl⟩ := refs_at hx
    have em := List.mem_of_getElem? he
    have tkE : FL.take (i + 1) = FL.take i ++ [e] := by rw [List.take_succ, he]; rfl
    refine ⟨e.1, _, rfl, Same.tup s6 (E5 e em), rfl, _, _, rfl, _, _, rfl, rfl, rfl, ?_⟩
    dsimp only [tYes]
    rw [if_pos rfl]
    refine ⟨_, rfl, e.2.1, Ms, rfl, eS, by rw [LL] at hi; omega, Same.upd s6 nSA, _, upd_same, by rw [List.length_cons]; omega, fun y => ?_⟩
    rw [List.mem_cons, mS', tkE]
    constructor
    · rintro (rfl | ⟨z, hz, rfl⟩)
      · exact ⟨e, List.mem_append_right _ List.mem_cons_self, rfl⟩
      · exact ⟨z, List.mem_append_left _ hz, rfl⟩
    · rintro ⟨z, hz, rfl⟩
      rcases List.mem_append.mp hz with hz | hz
      · exact .inr ⟨z, hz, rfl⟩
      · rw [List.mem_singleton.mp hz]
        exact .inl rfl
  · rintro H6 ⟨s6, Ms, eS, lS, mS'⟩
    rw [LL] at lS mS'
    rw [List.take_length] at mS'
    have f6 := f5.same s6
    have o6 := s6 _ _ o5
    have y6 := s6 _ _ y5
    refine ⟨SA, Ms, rfl, eS, by omega, fun KD p ndK mK sK np => ?_⟩
    have f7 := f6.new (v := .lst (KD.map V.str)) np
    have o7 := sameNew (o := .lst (KD.map V.str)) np _ _ o6
    have y7 := sameNew (o := .lst (KD.map V.str)) np _ _ y6
    have p7 : upd H6 p (.lst (KD.map V.str)) p = some (.lst (KD.map V.str)) := upd_same
    dsimp only [tNil]
    generalize upd H6 p (.lst (KD.map V.str)) = H7 at f7 o7 y7 p7
    refine ⟨p, _, rfl, .inl ⟨SqL.of p7, fun kd nk => ?_⟩⟩
    have f8 := f7.new (v := .tup (KD.map V.str)) nk
    have o8 := sameNew (o := .tup (KD.map V.str)) nk _ _ o7
    have y8 := sameNew (o := .tup (KD.map V.str)) nk _ _ y7
    have k8 : upd H7 kd (.tup (KD.map V.str)) kd = some (.tup (KD.map V.str)) := upd_same
    have kdo : kd ≠ o := fun e => by rw [e, o7] at nk; cases nk
    generalize upd H7 kd (.tup (KD.map V.str)) = H8 at f8 o8 y8 k8
    refine ⟨_, rfl, o, CV, dx, _, rfl, o8, c, n4, by show 3 < 1000; decide, ?_⟩
    have f9 := f8.own (v := .ins CV dx (putF "kinds" (.ref kd) [("table", .ref t), ("syllables", .ref sy), ("layers", .ref ly)]))
    have o9 : upd H8 o (.ins CV dx (putF "kinds" (.ref kd) [("table", .ref t), ("syllables", .ref sy), ("layers", .ref ly)])) o = some (.ins CV dx [("table", .ref t), ("syllables", .ref sy), ("layers", .ref ly), ("kinds", .ref kd)]) := upd_same
    have y9 : upd H8 o (.ins CV dx (putF "kinds" (.ref kd) [("table", .ref t), ("syllables", .ref sy), ("layers", .ref ly)])) sy = some (.tup (refsOf FL)) := by rw [upd_ne syo]; exact y8
    have k9 : upd H8 o (.ins CV dx (putF "kinds" (.ref kd) [("table", .ref t), ("syllables", .ref sy), ("layers", .ref ly)])) kd = some (.tup (KD.map V.str)) := by rw [upd_ne kdo]; exact k8
    generalize upd H8 o (.ins CV dx (putF "kinds" (.ref kd) [("table", .ref t), ("syllables", .ref sy), ("layers", .ref ly)])) = H9 at f9 o9 y9 k9
    -- the row
    have T9 : TabR K CT t ks ps H9 := hT.off hO f9
    have E9 : Syls K H9 FL := fun e he => sqT_off hO f9 (hE e he)
    have F9 := f9 _ _ fF hF
    refine ⟨_, rfl, _, rfl, madeRow T9 (.inl (SqL.of F9)) E9 kn (by omega) fun ro H10 nro s10 Rr => ?_⟩
    have roo : ro ≠ o := fun e => by rw [e, o9] at nro; cases nro
    have f10 := f9.same s10
    have o10 := s10 _ _ o9
    have y10 := s10 _ _ y9
    have k10 := s10 _ _ k9
    obtain ⟨dxr, syr, RA⟩ := Rr
    refine ⟨_, rfl, o, CV, dx, _, rfl, o10, c, n5, by show 4 < 1000; decide, ?_⟩
    have f11 := f10.own (v := .ins CV dx (putF "row" (.ref ro) [("table", .ref t), ("syllables", .ref sy), ("layers", .ref ly), ("kinds", .ref kd)]))
    have o11 : upd H10 o (.ins CV dx (putF "row" (.ref ro) [("table", .ref t), ("syllables", .ref sy), ("layers", .ref ly), ("kinds", .ref kd)])) o = some (.ins CV dx [("table", .ref t), ("syllables", .ref sy), ("layers", .ref ly), ("kinds", .ref kd), ("row", .ref ro)]) := upd_same
    have y11 : upd H10 o (.ins CV dx (putF "row" (.ref ro) [("table", .ref t), ("syllables", .ref sy), ("layers", .ref ly), ("kinds", .ref kd)])) sy = some (.tup (refsOf FL)) := by rw [upd_ne syo]; exact y10
    have k11 : upd H10 o (.ins CV dx (putF "row" (.ref ro) [("table", .ref t), ("syllables", .ref sy), ("layers", .ref ly), ("kinds", .ref kd)])) kd = some (.tup (KD.map V.str)) := by rw [upd_ne kdo]; exact k10
    have g11 : Fr o H10 (upd H10 o (.ins CV dx (putF "row" (.ref ro) [("table", .ref t), ("syllables", .ref sy), ("layers", .ref ly), ("kinds", .ref kd)]))) := Fr.own fun _ _ _ e => e
    generalize upd H10 o (.ins CV dx (putF "row" (.ref ro) [("table", .ref t), ("syllables", .ref sy), ("layers", .ref ly), ("kinds", .ref kd)])) = H11 at f11 o11 y11 k11 g11
    -- the last ones
    have T11 : TabR K CT t ks ps H11 := hT.off hO f11
    have E11 : Syls K H11 FL := fun e he => sqT_off hO f11 (hE e he)
    have F11 := f11 _ _ fF hF
    refine ⟨_, rfl, _, rfl, t, fm, ks, ps, FL, rfl, T11, SqL.of F11, E11, kn, by omega, fun la S H12 s12 eS12 leS lS12 => ?_⟩
    have f12 := f11.same s12
    have o12 := s12 _ _ o11
    have y12 := s12 _ _ y11
    have k12 := s12 _ _ k11
    have g12 : Fr o H10 H12 := g11.same s12
    have lao : la ≠ o := fun e => by rw [e, o12] at eS12; cases eS12
    refine ⟨_, rfl, o, CV, dx, _, rfl, o12, c, n6, by show 5 < 1000; decide, ?_⟩
    have f13 := f12.own (v := .ins CV dx (putF "last" (.ref la) [("table", .ref t), ("syllables", .ref sy), ("layers", .ref ly), ("kinds", .ref kd), ("row", .ref ro)]))
    have o13 : upd H12 o (.ins CV dx (putF "last" (.ref la) [("table", .ref t), ("syllables", .ref sy), ("layers", .ref ly), ("kinds", .ref kd), ("row", .ref ro)])) o = some (.ins CV dx (verFs t sy ly kd ro la)) := upd_same
    have g13 : Fr o H12 (upd H12 o (.ins CV dx (putF "last" (.ref la) [("table", .ref t), ("syllables", .ref sy), ("layers", .ref ly), ("kinds", .ref kd), ("row", .ref ro)]))) := Fr.own fun _ _ _ e => e
    generalize upd H12 o (.ins CV dx (putF "last" (.ref la) [("table", .ref t), ("syllables", .ref sy), ("layers", .ref ly), ("kinds", .ref kd), ("row", .ref ro)])) = H13 at f13 o13 g13
    have h13 := g12.trans g13
    refine q _ H13 sy kd ro la S KD f13 ?_
    exact {
      obj := o13
      tab := hT.off hO f13
      syl := SqT.of (g13 _ _ syo y12)
      each := fun e he => sqT_off hO f13 (hE e he)
      form := eF
      lays := ⟨f13 _ _ oT aL.top, fun e he => f13 _ _ (oL e he) (aL.lay e he), fun e he x hx => f13 _ _ (oS e he x hx) (aL.syl e he x hx)⟩
      lay := eL
      kin := SqT.of (g13 _ _ kdo k12)
      kind := ndK
      kmem := fun x => (mK x).trans (mS' x)
      ksrt := sK
      row := ⟨dxr, syr, h13 _ _ roo RA.obj, hT.off hO f13, sqT_offI o10 h13 RA.syl, fun e he => sqT_off hO f13 (hE e he), kn⟩
      last := SqT.of (g13 _ _ lao eS12)
      leach := fun e he => sqT_offI o12 g13 (leS e he)
      lsyl := by rw [lS12, eF]
      sylT := g13 _ _ syo y12 }
end
end L2.Und
end

section
set_option Elab.async false
set_option linter.all false
set_option maxRecDepth 100000
set_option maxHeartbeats 1000000
namespace L2.Und
open PySem PySem.Spec PyProof.Rows _root_.Und
/-! ### how many syllables piles have -/
theorem lookup_mem1 {l : Nat} : ∀ {p : FM.Pile} {c : Int}, p.lookup l = some c → l ∈ p.map (·.1)
  | [], c, h => by cases h
  | (m, d) :: p, c, h => by
    rw [List.lookup_cons] at h
    by_cases e : l = m
    · subst e
      exact List.mem_cons_self
    · have e' : (l == m) = false := by simpa using e
      rw [e'] at h
      exact List.mem_cons_of_mem _ (lookup_mem1 h)
theorem hits_len (p : FM.Pile) (d : Nat) : ((List.range d).filter fun l => (p.lookup l).isSome).length ≤ p.length := by
  have h := List.Nodup.length_le_of_subset (l₁ := (List.range d).filter fun l => (p.lookup l).isSome) (l₂ := p.map (·.1)) (List.Nodup.sublist List.filter_sublist List.nodup_range) fun l hl => by
    have := (List.mem_filter.mp hl).2
    obtain ⟨c, hc⟩ := Option.isSome_iff_exists.mp this
    exact lookup_mem1 hc
  rwa [List.length_map] at h
theorem sum_add (f g : Nat → Nat) : ∀ l : List Nat, (l.map fun x => f x + g x).sum = (l.map f).sum + (l.map g).sum
  | [] => rfl
  | x :: l => by
    have ih := sum_add f g l
    simp only [List.map_cons, List.sum_cons]
    omega
theorem sum_hits (p : FM.Pile) : ∀ l : List Nat, (l.map fun x => (if (p.lookup x).isSome = true then 1 else 0)).sum = (l.filter fun x => (p.lookup x).isSome).length
  | [] => rfl
  | x :: l => by
    have ih := sum_hits p l
    rw [List.map_cons, List.sum_cons, List.filter_cons, ih]
    by_cases c : (p.lookup x).isSome = true
    · rw [if_pos c, if_pos c, List.length_cons]
      omega
    · rw [if_neg c, if_neg c]
      omega
theorem lay_sum {s : FM.Piles} {B : Nat} (d : Nat) : ∀ {ns : List Str}, (∀ k ∈ ns, (s k).length ≤ B) → ((List.range d).map fun l => (layL ns s l).length).sum ≤ ns.length * B
  | [], _ => by
    have : ∀ l : List Nat, (l.map fun x => (layL [] s x).length).sum = 0 := fun l => by
      induction l with
      | nil => rfl
      | cons x l ih => rw [List.map_cons, List.sum_cons, ih]; rfl
    rw [this]
    exact Nat.zero_le _
  | k :: ns, h => by
    have ih := lay_sum (s := s) (B := B) d (ns := ns) fun k hk => h k (List.mem_cons_of_mem _ hk)
    have e : ∀ l, (layL (k :: ns) s l).length = (if ((s k).lookup l).isSome = true then 1 else 0) + (layL ns s l).length := fun l => by
      unfold layL
      rw [List.filterMap_cons]
      cases (s k).lookup l with
      | none => simp
      | some c => simp; omega
    rw [show ((List.range d).map fun l => (layL (k :: ns) s l).length) = (List.range d).map fun l => (if ((s k).lookup l).isSome = true then 1 else 0) + (layL ns s l).length from List.map_congr_left fun l _ => e l, sum_add, sum_hits, List.length_cons, Nat.succ_mul]
    have h1 := hits_len (s k) d
    have h2 := h k List.mem_cons_self
    omega
theorem form_len {s : FM.Piles} {B : Nat} {ns : List Str} (h : ∀ k ∈ ns, (s k).length ≤ B) : (layersL ns s).flatten.length ≤ ns.length * B := by
  unfold layersL
  rw [List.length_flatten, List.map_map]
  exact lay_sum _ h
end L2.Und
end

section
set_option Elab.async false
set_option linter.all false
set_option maxRecDepth 100000
set_option maxHeartbeats 4000000
namespace L2.Und
open PySem PySem.Spec PyProof.Rows _root_.Und
open L2.KS
open PySem.W (findIn keepIn typeIn subIn)
theorem flat_syls : ∀ LY : LyL, sylsOf (LY.flatMap (·.2)) = (LY.map fun e => sylsOf e.2).flatten
  | [] => rfl
  | e :: LY => by
    rw [List.flatMap_cons, List.map_cons, List.flatten_cons, ← flat_syls LY]
    show List.map _ _ = List.map _ _ ++ List.map _ _
    rw [List.map_append]
theorem layers_known {ks : List Str} {ps : List (Str × Str)} {row : List (Str × Int)} : ∀ e ∈ formS ks ps row, e.1 ∈ ks := fun e he => by
  obtain ⟨l, hl, he⟩ := List.mem_flatten.mp he
  obtain ⟨d, _, rfl⟩ := List.mem_map.mp hl
  obtain ⟨k, hk, e2⟩ := List.mem_filterMap.mp he
  cases h : (FM.pil (tabT ks ps) row k).lookup d with
  | none => rw [h] at e2; cases e2
  | some c => rw [h] at e2; cases e2; exact mem_srtTxt.mp hk
section
variable {P : Program} {w : World} {K : PySem.W.Frag} {mg : Str → Option Value} {base : Heap}
theorem okVerIni {f fRI fLO fLa CV CR CT CU CM : Addr} {fd fdRI fdLO fdLa : FuncData} {dvs : List V} {kws : List (Str × V)} {tk : Tok} (F : FunD K "__init__" "Version.__init__" (defArgs sVerIni) (defBody sVerIni) (defScope sVerIni) dvs kws f fd)
    (c : Cls K CV) (n1 : NoAttr K CV "table") (n2 : NoAttr K CV "syllables") (n3 : NoAttr K CV "layers") (n4 : NoAttr K CV "kinds") (n5 : NoAttr K CV "row") (n6 : NoAttr K CV "last")
    (M : Mk K CR fRI) (GRI : FnOk P w K mg base (L2.CX P w) 4 fRI fdRI ["self", "table", "syllables"] (spRowIni K CR CT CU)) (mR : mg "Row" = some (.ref CR)) (bR : Binds K fdRI ["self", "table", "syllables"] [])
    (GLO : FnOk P w K mg base CX0 3 fLO fdLO ["row"] (spLayOf K CR CT)) (mLO : mg "layers_of" = some (.ref fLO)) (kLO : keepIn K (.ref fLO) = true) (bLO : Binds K fdLO ["row"] [])
    (GLa : FnOk P w K mg base CX0 2 fLa fdLa ["table", "syllables"] (spLastOf K CT)) (mLa : mg "last_of" = some (.ref fLa)) (kLa : keepIn K (.ref fLa) = true) (bLa : Binds K fdLa ["table", "syllables"] [])
    (T : Err1 P w K mg base "TooMany" "count" CM) (mL : mg "LIMIT" = some (.int 1000 tk)) (mT : mg "tuple" = none) (mS : mg "sorted" = none) (mN : mg "len" = none) :
    FnOk P w K mg base (L2.CX P w) 6 f fd ["self", "table", "syllables"] (spVerIni K CV CR CT CM) := by
  refine F.ok scVerIni (fun vs H Q E h => ?_) (fun cdv A outer s H vs Q E hr h => ?_)
  · obtain ⟨o, t, b, dx, ks, ps, L, rfl, _⟩ := h
    rfl
  have hr3 : Room 3 (A.deeper (envOfC "Version.__init__" (defScope sVerIni) s.heap.objs.size f cdv)) := hr.mono (by decide)
  have hr2 : Room 2 (A.deeper (envOfC "Version.__init__" (defScope sVerIni) s.heap.objs.size f cdv)) := hr.mono (by decide)
  obtain ⟨fJ, fdJ, iC, tI, FJ, bJ⟩ := T.run
  obtain ⟨tl, rl, gl⟩ := verFlds (P := P) (w := w) (K := K) (mg := mg) (base := base) (outer := outer) (H := H) (E := E) hr c n1 n2 n3 n4 n5 n6 M GRI mR bR GLa mLa kLa bLa mT mS
  refine ⟨_, pss_cons (ps_set (i := 3) scVerIni.nd rfl (Or.inl rfl) (peMakeS M GRI hr rfl mR bR .nil (fun σ => passAt (takes_of rfl rfl rfl rfl) σ) (pa_cons (pv 1) (pa_cons (pv 2) pa_nil))))
    (pss_cons (ps_set (i := 4) scVerIni.nd rfl (Or.inl rfl) (pe_call GLO hr3 rfl mLO kLO bLO .nil pass0 (pa_cons (pv 3) pa_nil)))
    (pss_cons (ps_setLc2 (wi1 := iTup K (tVar 6)) (i := 5) (own := [("layer", 6), ("syllable", 7)]) (vs1 := [7]) (g := gName 6) (g1 := gName 7) (tt := tYes) (tt1 := tYes) rfl scVerIni.nd rfl rfl (sw_true rfl rfl rfl (by decide +kernel)) (pi_tup (pv 4)) (blkOk_by (N := nVerIni) (sc := defScope sVerIni) (by decide +kernel)) (by decide)
        (fun _ _ _ _ _ => pg_name (i := 6) scVerIni.nd rfl (Or.inl rfl)) (fun _ _ _ _ _ => pts_nil) (fun _ _ _ _ _ => pi_tup (pv 6)) (fun _ _ _ _ _ => pg_name (i := 7) scVerIni.nd rfl (Or.inl rfl)) (fun _ _ _ _ _ => pts_nil) (fun _ _ _ _ _ => pv 7))
    (pss_cons (ps_if (pt_cmpR op_gt (pe_callB call_len_seq rfl mN PySem.boot_len (pa_cons (pv 5) pa_nil)) (pe_glob (v := .int 1000) rfl mL ⟨tk, rfl⟩) (nomark _)) (pss_one (ps_raise rfl (takes_of rfl rfl rfl rfl) (pmkErr T.T T.ty iC tI FJ hr2 bJ (by decide) rfl T.g (pa_cons (pe_glob (v := .int 1000) rfl mL ⟨tk, rfl⟩) pa_nil)))) pss_nil) rl))), ?_⟩
  obtain ⟨o, t, b, dx, ks, ps, L, rfl, hO, hT, hb, hL, kn, l5, q0, qM⟩ := h
  have big : (100000 : Nat) ≤ sizeLine := by decide
  refine ⟨_, rfl, _, rfl, madeRow hT hb hL kn (by omega) fun ro H1 nro s1 Rr => ?_⟩
  refine ⟨_, rfl, ro, t, ks, ps, L, rfl, Rr, l5, fun ly LY H2 s2 aL eL => ?_⟩
  have s12 := s1.trans s2
  refine ⟨_, rfl, ly, rfl, ⟨_, SqT.of aL.top⟩, fun D nD => ?_⟩
  have LL : (LY.map fun e => V.ref e.1).length = LY.length := List.length_map ..
  -- all syllables
  obtain ⟨FA, eFA⟩ : ∃ FA, LY.flatMap (·.2) = FA := ⟨_, rfl⟩
  have sF : sylsOf FA = formS ks ps (sylsOf L) := by
    rw [← eFA, flat_syls, eL]
    rfl
  have lF : FA.length ≤ 60000 := by
    have h1 := congrArg List.length sF
    rw [List.length_map] at h1
    obtain ⟨dxT, LT, SLT, tk', tp, fr, st, TA⟩ := id hT
    have ko := kinds_ok TA.good
    have h2 : (formS ks ps (sylsOf L)).length ≤ (srtTxt ks).length * L.length := form_len fun k _ => by
      have := pil_len (tabT ks ps) k (sylsOf L)
      rwa [List.length_map] at this
    rw [len_srtTxt] at h2
    have h3 : ks.length * L.length ≤ 12 * 5000 := Nat.mul_le_mul ko.high l5
    omega
  have inFA : ∀ e ∈ LY, ∀ x ∈ e.2, x ∈ FA := fun e he x hx => by rw [← eFA]; exact List.mem_flatMap.mpr ⟨e, he, hx⟩
  have full : ∀ i e, LY[i]? = some e → ∀ j, ((LY.take i).flatMap (·.2)).length + (e.2.take j).length ≤ FA.length := fun i e he j => by
    have e1 : LY.take (i + 1) = LY.take i ++ [e] := by rw [List.take_succ, he]; rfl
    have e2 : ((LY.take (i + 1)).flatMap (·.2)).length ≤ FA.length := by
      have e3 : FA = (LY.take (i + 1)).flatMap (·.2) ++ (LY.drop (i + 1)).flatMap (·.2) := by rw [← List.flatMap_append, List.take_append_drop, eFA]
      rw [e3, List.length_append]
      omega
    rw [e1, List.flatMap_append, List.length_append] at e2
    have e3 : (e.2.take j).length ≤ e.2.length := by rw [List.length_take]; omega
    have e4 : ([e].flatMap fun x : Addr × SyL => x.2) = e.2 := by simp
    rw [e4] at e2
    omega
  refine so_it (walk_tup (K := K) (a := ly) (xs := LY.map fun e => V.ref e.1)) (fun i H' => Same H2 H' ∧ H' D = some (.lst (refsOf ((LY.take i).flatMap (·.2))))) ⟨sameNew nD, upd_same⟩ (fun i H' _ z => SqT.of (z.1 _ _ aL.top)) ?_ ?_
  · rintro i x H3' H3 hi ⟨s3, eD⟩ ⟨rfl, hx⟩
    obtain ⟨e, he, rfl⟩ : ∃ e, LY[i]? = some e ∧ x = V.ref e.1 := by
      rw [List.getElem?_map] at hx
      cases he : LY[i]? with
      | none => rw [he] at hx; cases hx
      | some e => rw [he] at hx; exact ⟨e, rfl, (Option.some.inj hx).symm⟩
    have em := List.mem_of_getElem? he
    have tkE : (LY.take (i + 1)).flatMap (·.2) = (LY.take i).flatMap (·.2) ++ e.2 := by
      rw [List.take_succ, he, List.flatMap_append]
      simp
    have eT := s3 _ _ (aL.lay e em)
    refine ⟨rfl, ?_⟩
    dsimp only [tYes]
    rw [if_pos rfl]
    refine ⟨_, rfl, e.1, rfl, ⟨_, SqT.of eT⟩, ?_⟩
    have LE : (refsOf e.2).length = e.2.length := List.length_map ..
    refine so_it (walk_tup (K := K) (a := e.1) (xs := refsOf e.2)) (fun j H' => Same H2 H' ∧ H' D = some (.lst (refsOf ((LY.take i).flatMap (·.2) ++ e.2.take j)))) ⟨s3, by rw [List.take_zero, List.append_nil]; exact eD⟩ (fun j H' _ z => SqT.of (z.1 _ _ (aL.lay e em))) ?_ ?_
    · rintro j y H4' H4 hj ⟨s4, eD4⟩ ⟨rfl, hy⟩
      obtain ⟨x, hx, rfl⟩ := refs_at hy
      have tkj : e.2.take (j + 1) = e.2.take j ++ [x] := by rw [List.take_succ, hx]; rfl
      refine ⟨rfl, ?_⟩
      dsimp only [tYes]
      rw [if_pos rfl]
      refine ⟨_, rfl, _, eD4, ?_, Same.upd s4 nD, ?_⟩
      · rw [List.length_map, List.length_append]
        have := full i e he j
        omega
      · rw [upd_same, tkj, ← List.append_assoc]
        show _ = some (HO.lst (List.map _ _))
        rw [List.map_append]
        rfl
    · rintro H4 ⟨s4, eD4⟩
      rw [LE, List.take_length] at eD4
      exact ⟨s4, by rw [tkE]; exact eD4⟩
  · rintro H3 ⟨s3, eD⟩
    rw [LL, List.take_length, eFA] at eD
    have s13 := s12.trans s3
    have aL3 := aL.same s3
    have eachF : Syls K H3 FA := fun x hx => by
      rw [← eFA] at hx
      obtain ⟨e, he, hx⟩ := List.mem_flatMap.mp hx
      exact SqT.of (aL3.syl e he x hx)
    have knF : ∀ e ∈ FA, e.2.1 ∈ ks := fun e he => layers_known e.2 (by rw [← sF]; exact List.mem_map.mpr ⟨e, he, rfl⟩)
    have lFF : FA.length = (formS ks ps (sylsOf L)).length := by
      have h1 := congrArg List.length sF
      rwa [List.length_map] at h1
    refine ⟨_, rfl, D, _, rfl, .inl (SqL.of eD), ?_⟩
    dsimp only
    refine ⟨_, _, rfl, rfl, _, rfl, ?_⟩
    have LF : (refsOf FA).length = FA.length := List.length_map ..
    rw [LF]
    by_cases big1 : 1000 < FA.length
    · rw [decide_eq_true (show ((FA.length : Nat) : Int) > 1000 by omega)]
      exact iteT ⟨rfl, fun d H4 nd s4 ed => qM (by omega) d H4 (s13.free nd) (s13.trans s4) ed⟩
    · rw [decide_eq_false (show ¬ ((FA.length : Nat) : Int) > 1000 by omega)]
      refine iteF ?_
      exact gl _ o t b dx D ly ks ps (layersS ks ps (sylsOf L)) FA LY _ _ _ _ _ _ H3 (s13 _ _ hO) (hT.same s13) eD eachF knF sF aL3 eL (by omega) fun σ' H' sy kd ro la S KD f v => q0 (by omega) H' sy ly kd ro la FA S LY KD (fun c u hc e => f c u hc (s13 _ _ e)) v
end
end L2.Und
end

section
set_option Elab.async false
set_option linter.all false
set_option maxRecDepth 100000
set_option maxHeartbeats 4000000
namespace L2.Und
open PySem PySem.Spec PyProof.Rows _root_.Und
open PySem.W (findIn keepIn typeIn subIn)
/-! ### cls(..), the class in a local: an instance made, what its __init__ raises wished for at the slots -/
def tMakeL (i : Nat) (C : Addr) (sp : Sp) (dvs : List V) (E : St → XK) (t : TA) : TE := fun σ H Q => σ[i]? = some (some (.ref C)) ∧ t σ H fun vs H1 => ∀ x dx, H1 x = none → H1 dx = none → dx ≠ x →
  sp (.ref x :: (vs ++ dvs)) (upd (upd H1 dx (.own x)) x (.ins C dx [])) (fun v H2 => v = .non ∧ Q (.ref x) H2) (E σ)
section
variable {X : Cx} {CX : CXT} {k i : Nat} {f C : Addr} {fd : FuncData} {ps : List Str} {sp : Sp} {dvs : List V} {ds : List Value} {E : St → XK} {x : Str} {p pos : Pos} {e : Expr} {es : List Expr} {t : TA}
theorem peMakeL (M : Mk X.K C f) (F : FnOk X.prog X.w X.K X.mg X.base CX k f fd ps sp) (hr : Room (k + 1) X.A) (hN : X.N[i]? = some x) (hv : Vis X.env.scope x) (hb : Binds X.K fd ps ds) (hd : Vals dvs ds) (hx : ∀ σ, PassesAt CX X σ (E σ))
    (ha : PA X (e :: es) t) (hdb : (x == ("__debug__" : Str)) = false := by decide) (hcd : (x == ("__classdict__" : Str)) = false := by decide) (he : starEach (e :: es) X.env = (false, eval e X.env) :: starEach es X.env := by rfl) (hpl : (backTo pos (starEach es X.env)).any (·.1) = false := by rfl) :
    PE X (.Call (.Name x p) (e :: es) [] pos) (tMakeL i C sp dvs E t) := by
  refine ⟨fun pins s σ H Q I h => ?_⟩
  obtain ⟨hs, ht⟩ := h
  refine wpAny_Call_Name_kw (thn ((pe_var (pos := p) hN hv hdb hcd).run pins s σ H (fun v H1 => v = .ref C ∧ H1 = H) I ⟨.ref C, hs, rfl, rfl⟩) fun u s0 ⟨v, H0, I0, r0, q0⟩ => ?_)
  obtain ⟨rfl, rfl⟩ := q0
  cases r0
  refine PySem.W.callWith_K (h₀ := X.base) I.ok.mod.kin M.kp (thn (ha.run pos pins s0 σ _ _ I0 ht) fun us s1 ⟨vs, H1, I1, r, q⟩ => ⟨I1.kIn, ?_⟩) he hpl
  obtain ⟨n, en⟩ : ∃ n, n = s1.heap.objs.size := ⟨_, rfl⟩
  have sp1 := q (n + 1) n (I1.hok.fresh (by rw [en]; exact Nat.le_succ _)) (I1.hok.fresh (by rw [en]; exact Nat.le_refl _)) (Nat.ne_of_lt (Nat.lt_succ_self _))
  have I2 := Inv.made (C := C) I1
  rw [← en] at I2
  have r2 : Vals (V.ref (n + 1) :: (vs ++ dvs)) (Value.ref (n + 1) :: (us ++ ds)) := .cons rfl (r.append hd)
  have hl : (Value.ref (n + 1) :: us ++ ds).length = ps.length := r2.length.symm.trans (F.len _ _ _ _ sp1)
  refine wpAny_call (make_map (f := f) I1.kIn M.makes M.init (beq_iff_eq.mp M.fn) ?_)
  rw [← en]
  refine codeAny_mono (F.run _ X.stack _ _ ⟨Value.ref (n + 1) :: us, []⟩ (Value.ref (n + 1) :: (us ++ ds)) _ _ (E σ) (hr.make C us []) (I2.env0.make C us []) (hb _ (Value.ref (n + 1) :: us) I2.kIn hl) r2 sp1) fun res s' z => ?_
  cases res with
  | error er => exact hx σ pins _ _ er s' I2 z
  | ok fl =>
    cases fl with
    | ret u =>
      obtain ⟨v, H', I3, rv, ev, q3⟩ := I2.after z
      subst ev
      exact ⟨rv, ⟨V.ref (n + 1), H', I3, rfl, q3⟩⟩
    | next => exact z.elim
    | brk => exact z.elim
    | cont => exact z.elim
end
end L2.Und
end

section
set_option Elab.async false
set_option linter.all false
set_option maxRecDepth 100000
set_option maxHeartbeats 1000000
namespace L2.Und
open PySem PySem.Spec PyProof.Rows _root_.Und
open PySem.W (findIn keepIn typeIn subIn mroIn InstAt)
/-! ### a + b, ~a, a[i], bool(a) for instances of own classes, what is raised wished for at the slots -/
section
variable {X : Cx} {CX : CXT} {k : Nat} {f C : Addr} {fd : FuncData} {ps : List Str} {sp : Sp} {E : St → XK} {a b : Expr} {pos : Pos} {ta tb : TE}
/-- a promise kept from below the running body -/
theorem callBelow (F : FnOk X.prog X.w X.K X.mg X.base CX k f fd ps sp) (hb : Binds X.K fd ps []) {σ : St} (hx : PassesAt CX X σ (E σ)) {A : Around} (sb : Sub X k A) {pins : List (Addr × Obj)} {H : Hp} {s : Shared} {vs : List V} {us : List Value} {Q : VK}
    (I : Inv X pins σ H s) (r : Vals vs us) (h : sp vs H Q (E σ)) : wpAny (model X.prog X.w) A (call (.ref f) us) (EP X pins σ Q) X.xe s := by
  have bind := hb s us I.kIn (by rw [List.append_nil, ← r.length]; exact F.len _ _ _ _ h)
  rw [List.append_nil] at bind
  apply wpAny_call
  refine codeAny_mono (F.run A X.stack s H ⟨us, []⟩ us vs Q (E σ) sb.room { I.env0 with frames := sb.fr.trans I.env0.frames } bind r h) fun res s' z => ?_
  match res, z with
  | .error e, z => exact hx pins H s e s' I z
  | .ok (.ret u), z => exact I.after z
def tAddO (C : Addr) (sp : Sp) (E : St → XK) (ta tb : TE) : TE := fun σ H Q => ta σ H fun x H1 => tb σ H1 fun y H2 => (∃ c dy fs, y = .ref c ∧ H2 c = some (.ins C dy fs)) ∧ Wants C sp (E σ) x [y] H2 fun v H' => (∃ c, v = .ref c) ∧ Q v H'
theorem peAddO (sf : PySem.W.selfFirst X.K C = true) (hm : Meth X.K C "__add__" f) (F : FnOk X.prog X.w X.K X.mg X.base CX k f fd ps sp) (hr : Room k X.A) (hb : Binds X.K fd ps []) (hx : ∀ σ, PassesAt CX X σ (E σ)) (ha : PE X a ta) (hb' : PE X b tb) :
    PE X (.BinOp a .Add b pos) (tAddO C sp E ta tb) := by
  refine ⟨fun pins s σ H Q I h => wpAny_BinOp (binT ha hb' I h fun v u s2 x y H2 I2 rx ry q => ?_)⟩
  obtain ⟨⟨c, dy, gs, rfl, ec⟩, o, dx, fs, rfl, e, q⟩ := q
  obtain rfl : v = Value.ref o := rx
  obtain rfl : u = Value.ref c := ry
  obtain ⟨ob, od, J⟩ := instOf I2 e
  obtain ⟨oc, oe, J'⟩ := instOf I2 ec
  obtain ⟨m, hF⟩ := I2.fr
  refine PySem.W.binop_K hF I2.ok.mod.kin J J'.type sf hm.at_ hm.fn (wpAny_mono (callBelow F hb (hx σ) ⟨hr, rfl⟩ I2 (.cons (relRef o) (.cons (relRef c) .nil)) q) (fun r s1 z => ?_) fun _ _ z => z)
  obtain ⟨_, H3, I3, r3, ⟨g, rfl⟩, q3⟩ := z
  obtain rfl : r = Value.ref g := r3
  exact ⟨.ref g, H3, I3, rfl, q3⟩
def tInvO (C : Addr) (sp : Sp) (E : St → XK) (ta : TE) : TE := fun σ H Q => ta σ H fun x H1 => Wants C sp (E σ) x [] H1 Q
theorem peInvO (hm : Meth X.K C "__invert__" f) (F : FnOk X.prog X.w X.K X.mg X.base CX k f fd ps sp) (hr : Room k X.A) (hb : Binds X.K fd ps []) (hx : ∀ σ, PassesAt CX X σ (E σ)) (ha : PE X a ta) : PE X (.UnaryOp .Invert a pos) (tInvO C sp E ta) := by
  refine ⟨fun pins s σ H Q I h => UnaryOp_ (thn (ha.run pins s σ H _ I h) fun v s1 z => ?_)⟩
  obtain ⟨x, H1, I1, rx, o, dx, fs, rfl, e, q⟩ := z
  obtain rfl : v = Value.ref o := rx
  obtain ⟨ob, od, J⟩ := instOf I1 e
  obtain ⟨m, hF⟩ := I1.fr
  exact PySem.W.ksp_inv hF I1.ok.mod.kin J hm.at_ hm.fn (callBelow F hb (hx σ) ⟨hr, rfl⟩ I1 (.cons (relRef o) .nil) q)
def tSubO (C : Addr) (sp : Sp) (E : St → XK) (ta tb : TE) : TE := fun σ H Q => ta σ H fun x H1 => tb σ H1 fun y H2 => Wants C sp (E σ) x [y] H2 Q
theorem peSubO (hm : Meth X.K C "__getitem__" f) (hfn : PySem.W.fnIn X.K f = true) (F : FnOk X.prog X.w X.K X.mg X.base CX k f fd ps sp) (hr : Room (k + 1) X.A) (hb : Binds X.K fd ps []) (hx : ∀ σ, PassesAt CX X σ (E σ)) (ha : PE X a ta) (hb' : PE X b tb)
    (pl : ∀ v u : Value, subscripted b true v u = runValue (.builtin "lifetime.subscript" ⟨[v, u], []⟩)) : PE X (.Subscript a b pos) (tSubO C sp E ta tb) := by
  refine ⟨fun pins s σ H Q I h => Subscript_ (binT ha hb' I h fun v u s2 x y H2 I2 rx ry q => ?_)⟩
  obtain ⟨o, dx, fs, rfl, e, q⟩ := q
  obtain rfl : v = Value.ref o := rx
  obtain ⟨ob, od, J⟩ := instOf I2 e
  obtain ⟨m, hF⟩ := I2.fr
  exact PySem.W.sub_K hF I2.ok.mod.kin J hm.at_ hfn hm.fn (callBelow F hb (hx σ) (Sub.in1 ⟨hr, rfl⟩) I2 (.cons (relRef o) (.cons ry .nil)) q) (pl _ _)
end
end L2.Und
end

section
set_option Elab.async false
set_option linter.all false
set_option maxRecDepth 100000
set_option maxHeartbeats 1000000
namespace L2.Und
open PySem PySem.Spec PyProof.Rows _root_.Und
open PySem.W (findIn keepIn typeIn subIn mroIn InstAt)
/-! ### bool(x) of a tuple, and of an instance with its own __bool__ -/
theorem boolMeets {prog : Program} {w : World} (x : Value) : MeetsIn prog w (Builtin.«bool.__new__» ⟨[.type "bool", x], []⟩)
    (fun A R s => wpAny (model prog w) A.in1 (truthy x) (fun b s' => R (.ok (.ret (.bool b))) s') (fun e s' => R (.error e) s') s) := by
  intro A R s h
  unfold Builtin.«bool.__new__»
  have f1 := F.conv_sub_bool
  dsimp only
  refine wpAny_bind (m := isType (.type "bool")) (wpAny_pure ?_)
  refine wpAny_bind (m := isSubtype (.type "bool") (.type "bool")) (wpAny_of_eq f1 ?_)
  rw [if_neg (by decide)]
  refine wpAny_bind (m := someArgs "bool" 0 1 ⟨[x], []⟩) (wpAny_pure ?_)
  refine wpAny_bind (m := truthy x) (wpAny_mono h (fun b s' q => ?_) fun e s' z => z)
  exact wpAny_pure q
theorem boolOf {prog : Program} {w : World} {A : Around} {E : Value → Shared → Prop} {s : Shared} {x : Value} {Q : Value → Shared → Prop} (h : wpAny (model prog w) A.in1.in1 (truthy x) (fun b s' => Q (.bool b) s') E s) :
    wpAny (model prog w) A (call (.type "bool") [x]) Q E s :=
  callType_newIn F.called_bool F.newNe_bool (F.typeCall_bool_1 x) (F.newCall_bool_1 x) (fun obj => F.args_object_init_2 obj x) F.entry_bool_new (boolMeets x) (wpAny_mono h (fun b s' q => ⟨rfl, q⟩) fun e s' z => z)
/-- bool(a tuple) -/
def rBoolT (K : PySem.W.Frag) : List V → Hp → VK → Prop := fun xs H Q => ∃ (a : Addr) (zs : List V), xs = [.ref a] ∧ SqT K H a zs ∧ Q (.bl (!zs.isEmpty)) H
theorem call_boolT {X : Cx} : CallR X (.type "bool") (rBoolT X.K) := by
  intro pins s σ H xs us Q I r h
  obtain ⟨a, zs, rfl, hq, q⟩ := h
  rw [Vals.ref1 r]
  obtain ⟨its, rv, ht, hz⟩ := I.tuple hq
  have hl := line63
  have hlen := rv.length
  refine boolOf (truthy_tuple ht (by rw [List.size_toArray]; omega) ?_)
  have e : (!its.toArray.isEmpty) = !zs.isEmpty := by
    cases its with
    | nil => cases rv; rfl
    | cons x l => cases rv; rfl
  rw [e]
  exact ⟨.bl (!zs.isEmpty), H, I.tok _, rfl, q⟩
/-- bool(o) by the own __bool__ -/
def rBoolO (C : Addr) (sp : Sp) (E : XK) : List V → Hp → VK → Prop := fun xs H Q => ∃ x, xs = [x] ∧ Wants C sp E x [] H fun v H' => ∃ b, v = .bl b ∧ Q (.bl b) H'
theorem call_boolO {X : Cx} {CX : CXT} {k : Nat} {f C : Addr} {fd : FuncData} {ps : List Str} {sp : Sp} {E : XK} (hm : Meth X.K C "__bool__" f) (F : FnOk X.prog X.w X.K X.mg X.base CX k f fd ps sp) (hr : Room (k + 2) X.A) (hb : Binds X.K fd ps []) (hx : Passes CX X E) :
    CallR X (.type "bool") (rBoolO C sp E) := by
  intro pins s σ H xs us Q I r h
  obtain ⟨x, rfl, a, dx, fs, rfl, e, q⟩ := h
  rw [Vals.ref1 r]
  obtain ⟨ob, od, J⟩ := instOf I e
  obtain ⟨m, hF⟩ := I.fr
  refine boolOf (PySem.W.truthy_K hF I.ok.mod.kin J hm.at_ hm.fn (wpAny_mono (callAt F hb hx (Sub.in1 (Sub.in1 ⟨hr, rfl⟩)) I (.cons (relRef a) .nil) q) (fun r s1 z => ?_) fun _ _ z => z))
  obtain ⟨_, H1, I1, r1, b, rfl, q1⟩ := z
  obtain rfl : r = Value.bool b := r1
  exact ⟨.bl b, H1, I1, rfl, q1⟩
end L2.Und
end

section
set_option Elab.async false
set_option linter.all false
set_option maxRecDepth 100000
set_option maxHeartbeats 400000
namespace L2.Und
open PySem PySem.Spec PyProof.Rows _root_.Und
open L2.KS
open PySem.W (findIn keepIn typeIn subIn)
/-! ### numbers and syllables as texts -/
abbrev sTxN : Stmt := topS 17
abbrev nTxN : List Str := ["number", "sign", "rest", "pieces", "low", "digits"]
theorem scTxN : FnScope nTxN ["number"] (defScope sTxN) := ⟨rfl, rfl, rfl, by decide +kernel, rfl, by decide +kernel, by decide +kernel⟩
/-- the text of a number -/
def txtSgn (n : Int) : Str := if n < 0 then Str.ofString "-" else Str.ofString ""
def txtAbs (n : Int) : Str := Str.ofString (toString (if n < 0 then -n else n))
def txtNum (n : Int) : Str := Str.empty ++ txtSgn n ++ txtAbs n
theorem len_txtSgn (n : Int) : (txtSgn n).length ≤ 1 := by
  unfold txtSgn
  by_cases z : n < 0
  · rw [if_pos z]; decide
  · rw [if_neg z]; decide
theorem len_txtAbs {n : Int} {k : Nat} (hk : 0 < k) (h : n.natAbs < 10 ^ k) : (txtAbs n).length ≤ k + 1 := by
  have e := int_text_length_le10 (a := if n < 0 then -n else n) hk (by
    by_cases z : n < 0
    · rw [if_pos z, Int.natAbs_neg]; exact h
    · rw [if_neg z]; exact h)
  unfold txtAbs
  rw [PySem.ofString_length]
  exact e
theorem len_txtNum {n : Int} {k : Nat} (hk : 0 < k) (h : n.natAbs < 10 ^ k) : (txtNum n).length ≤ k + 2 := by
  have e := len_txtAbs hk h
  have l0 : Str.empty.length = 0 := by decide
  have l1 := len_txtSgn n
  unfold txtNum
  rw [Str.length_append, Str.length_append]
  omega
def spTxN : Sp := fun vs H Q _ => ∃ n : Int, vs = [.int n] ∧ n.natAbs < 10 ^ 64 ∧ ∀ H', Same H H' → Q (.str (txtNum n)) H'
section
variable {P : Program} {w : World} {K : PySem.W.Frag} {mg : Str → Option Value} {base : Heap}
theorem okTxN {f : Addr} {fd : FuncData} {t t2 : Tok} (F : Fun K "text_of_number" "text_of_number" sTxN f fd) (mA : mg "abs" = none) (mD : mg "divmod" = none) (mS : mg "str" = none) (mP : mg "PIECE" = some (.int (10 ^ 64) t)) (mZ : mg "PIECE_DIGITS" = some (.int 64 t2)) : FnOk P w K mg base CX0 1 f fd ["number"] spTxN := by
  have bA : bootBuiltins ("abs" : Str) = some (.builtin "abs") := by decide +kernel
  refine F.ok scTxN (fun vs H Q E h => ?_) (fun cdv A outer s H vs Q E hr h => ?_)
  · obtain ⟨n, rfl, _⟩ := h
    rfl
  refine ⟨_, pss_cons (ps_set (i := 1) scTxN.nd rfl (Or.inl rfl) (pe_ifExp (pt_cmpR op_lt (pv 0) pe_int (nomark _)) pe_str pe_str))
    (pss_cons (ps_set (i := 2) scTxN.nd rfl (Or.inl rfl) (pe_callB call_abs rfl mA bA (pa_cons (pv 0) pa_nil)))
    (pss_cons (ps_set (i := 3) scTxN.nd rfl (Or.inl rfl) (pe_lst pa_nil))
    (pss_cons (ps_while PassesOwn.never (pt_cmpR op_ge (pv 2) (pe_glob (v := .int (10 ^ 64)) rfl mP ⟨_, rfl⟩) (nomark _)) (pss_cons ps_never (pss_one ps_never)))
    (pss_cons (ps_expr (pe_bm PySem.F.plainAttrs_list PySem.F.slot_list_append PySem.F.type_list_append mt_append (pv 3) (pa_cons (pe_callTy call_str_int rfl mS PyProof.Rows.Boot.«str» (pa_cons (pv 2) pa_nil)) pa_nil)))
    (pss_cons (ps_set (i := 5) scTxN.nd rfl (Or.inl rfl) (pe_join pe_str (pe_revL (pv 3))))
    (pss_one (ps_ret (pe_joined (.cons (pe_fmt (pv 1)) (.cons (pe_fmt (pv 5)) .nil)))))))))), ?_⟩
  obtain ⟨n, rfl, hn, q⟩ := h
  obtain ⟨m, em⟩ : ∃ m : Int, (if n < 0 then -n else n) = m := ⟨_, rfl⟩
  have hm : m.natAbs < 10 ^ 64 := by
    by_cases z : n < 0
    · rw [if_pos z] at em; rw [← em, Int.natAbs_neg]; exact hn
    · rw [if_neg z] at em; rw [← em]; exact hn
  have m0 : 0 ≤ m := by
    by_cases z : n < 0
    · rw [if_pos z] at em; omega
    · rw [if_neg z] at em; omega
  have big : (1000 : Nat) ≤ sizeLine := by decide
  have la := len_txtAbs (k := 64) (by decide) hn
  have ls := len_txtSgn n
  have l0 : Str.empty.length = 0 := by decide
  refine ⟨_, rfl, _, _, rfl, rfl, _, rfl, ?_⟩
  have sg1 : n < 0 → Str.ofString "-" = txtSgn n := fun z => by unfold txtSgn; rw [if_pos z]
  have sg2 : ¬ n < 0 → Str.ofString "" = txtSgn n := fun z => by unfold txtSgn; rw [if_neg z]
  have ez : txtAbs n = Str.ofString (toString m) := by unfold txtAbs; rw [em]
  have eN : txtNum n = Str.empty ++ txtSgn n ++ txtAbs n := rfl
  have lg : m.natAbs.log2 < 1920 := by
    by_cases z : m.natAbs = 0
    · rw [z]; decide
    · exact (Nat.log2_lt z).mpr (Nat.lt_trans hm (by decide +kernel))
  have ge : ¬ ((10 : Int) ^ 64 ≤ m) := by
    have e : (((10 : Nat) ^ 64 : Nat) : Int) = (10 : Int) ^ 64 := by norm_cast
    rw [← e]
    omega
  refine ite2 (fun y => ?_) (fun y => ?_)
  · have y := sg1 (of_decide_eq_true y)
    refine ⟨_, rfl, n, rfl, ?_⟩
    rw [em]
    refine ⟨(by show 0 ≤ sizeLine; decide), fun p hp => ?_⟩
    have s1 := sameNew (o := .lst []) hp
    have e1 : upd H p (.lst []) p = some (.lst []) := upd_same
    show gName 3 _ _ (upd H p (.lst [])) _
    generalize upd H p (.lst []) = H1 at s1 e1
    refine while_by (fun σ H' => σ = [some (.int n), some (.str (Str.ofString "-")), some (.int m), some (.ref p), none, none] ∧ H' = H1) (fun _ _ => 0) ⟨rfl, rfl⟩ ?_ ?_
    · rintro σ H' ⟨rfl, rfl⟩
      refine ⟨_, rfl, _, _, rfl, rfl, _, rfl, ?_⟩
      rw [decide_eq_false ge]
      refine iteF ?_
      refine ⟨_, rfl, .inl ⟨rfl, _, SqL.of e1⟩, _, rfl, m, rfl, lg, p, [], _, rfl, rfl, e1, by decide, ?_⟩
      have s2 : Same H (upd H' p (.lst [V.str (Str.ofString (toString m))])) := Same.upd s1 hp
      have e2 : upd H' p (.lst [V.str (Str.ofString (toString m))]) p = some (.lst [V.str (Str.ofString (toString m))]) := upd_same
      show tSeq _ _ _ _ (upd H' p (.lst [V.str (Str.ofString (toString m))]))
      generalize upd H' p (.lst [V.str (Str.ofString (toString m))]) = H2 at s2 e2
      refine ⟨⟨_, rfl⟩, _, rfl, p, _, rfl, SqL.of e2, fun r hr => ?_⟩
      have s3 := s2.trans (sameNew (o := .lst [V.str (Str.ofString (toString m))]) hr)
      refine ⟨_, r, [Str.ofString (toString m)], rfl, rfl, .inl (SqL.of upd_same), ?_, ?_⟩
      · rw [← ez]
        show (txtAbs n).length + 0 + 1 * 0 ≤ 16777216
        omega
      have ej : Txt.join (Str.ofString "") [Str.ofString (toString m)] = txtAbs n := by rw [TL.join_eq, ez]; rfl
      rw [ej]
      refine ⟨_, rfl, .inl ⟨_, rfl, by rw [y]; omega, _, rfl, by rw [y, Str.length_append]; omega, _, rfl, .inl ⟨_, rfl, by omega, _, rfl, by rw [y, Str.length_append, Str.length_append]; omega, ?_⟩⟩⟩
      rw [y]
      exact q _ s3
    · rintro σ H1 Q Q' hQ h
      obtain ⟨v, e, i, j, e1, e2, b, e3, h⟩ := h
      exact ⟨v, e, i, j, e1, e2, b, e3, hQ _ _ h⟩
  · have y := sg2 (fun z => y (decide_eq_true z))
    refine ⟨_, rfl, n, rfl, ?_⟩
    rw [em]
    refine ⟨(by show 0 ≤ sizeLine; decide), fun p hp => ?_⟩
    have s1 := sameNew (o := .lst []) hp
    have e1 : upd H p (.lst []) p = some (.lst []) := upd_same
    show gName 3 _ _ (upd H p (.lst [])) _
    generalize upd H p (.lst []) = H1 at s1 e1
    refine while_by (fun σ H' => σ = [some (.int n), some (.str (Str.ofString "")), some (.int m), some (.ref p), none, none] ∧ H' = H1) (fun _ _ => 0) ⟨rfl, rfl⟩ ?_ ?_
    · rintro σ H' ⟨rfl, rfl⟩
      refine ⟨_, rfl, _, _, rfl, rfl, _, rfl, ?_⟩
      rw [decide_eq_false ge]
      refine iteF ?_
      refine ⟨_, rfl, .inl ⟨rfl, _, SqL.of e1⟩, _, rfl, m, rfl, lg, p, [], _, rfl, rfl, e1, by decide, ?_⟩
      have s2 : Same H (upd H' p (.lst [V.str (Str.ofString (toString m))])) := Same.upd s1 hp
      have e2 : upd H' p (.lst [V.str (Str.ofString (toString m))]) p = some (.lst [V.str (Str.ofString (toString m))]) := upd_same
      show tSeq _ _ _ _ (upd H' p (.lst [V.str (Str.ofString (toString m))]))
      generalize upd H' p (.lst [V.str (Str.ofString (toString m))]) = H2 at s2 e2
      refine ⟨⟨_, rfl⟩, _, rfl, p, _, rfl, SqL.of e2, fun r hr => ?_⟩
      have s3 := s2.trans (sameNew (o := .lst [V.str (Str.ofString (toString m))]) hr)
      refine ⟨_, r, [Str.ofString (toString m)], rfl, rfl, .inl (SqL.of upd_same), ?_, ?_⟩
      · rw [← ez]
        show (txtAbs n).length + 0 + 1 * 0 ≤ 16777216
        omega
      have ej : Txt.join (Str.ofString "") [Str.ofString (toString m)] = txtAbs n := by rw [TL.join_eq, ez]; rfl
      rw [ej]
      refine ⟨_, rfl, .inl ⟨_, rfl, by rw [y]; omega, _, rfl, by rw [y, Str.length_append]; omega, _, rfl, .inl ⟨_, rfl, by omega, _, rfl, by rw [y, Str.length_append, Str.length_append]; omega, ?_⟩⟩⟩
      rw [y]
      exact q _ s3
    · rintro σ H1 Q Q' hQ h
      obtain ⟨v, e, i, j, e1, e2, b, e3, h⟩ := h
      exact ⟨v, e, i, j, e1, e2, b, e3, hQ _ _ h⟩
end
end L2.Und
end

section
set_option Elab.async false
set_option linter.all false
set_option maxRecDepth 100000
set_option maxHeartbeats 400000
namespace L2.Und
open PySem PySem.Spec PyProof.Rows _root_.Und
open L2.KS
open PySem.W (findIn keepIn typeIn subIn)
/-! ### syllables and rows as texts -/
abbrev sTxS : Stmt := topS 31
theorem scTxS : FnScope ["kind", "count"] ["kind", "count"] (defScope sTxS) := ⟨rfl, rfl, rfl, by decide +kernel, rfl, by decide +kernel, by decide +kernel⟩
/-- the text of a syllable -/
def txtSyl (e : Str × Int) : Str := if e.2 = 1 then e.1 else Str.empty ++ e.1 ++ Str.ofString "^" ++ txtNum e.2
theorem len_txtSyl {e : Str × Int} (h1 : e.1.length ≤ 6) (h : e.2.natAbs < 10 ^ 64) : (txtSyl e).length ≤ 73 := by
  unfold txtSyl
  by_cases z : e.2 = 1
  · rw [if_pos z]; omega
  · rw [if_neg z]
    have l0 : Str.empty.length = 0 := by decide
    have l1 : (Str.ofString "^").length = 1 := by decide
    have := len_txtNum (k := 64) (by decide) h
    simp only [Str.length_append]
    omega
def spTxS : Sp := fun vs H Q _ => ∃ (k : Str) (n : Int), vs = [.str k, .int n] ∧ k.length ≤ 6 ∧ n.natAbs < 10 ^ 64 ∧ ∀ H', Same H H' → Q (.str (txtSyl (k, n))) H'
/-- the text of a row -/
def txtRow (l : List (Str × Int)) : Str := if l = [] then Str.ofString "-" else Txt.join (Str.ofString " ") (l.map txtSyl)
abbrev sRowStr : Stmt := clsPart (topS 33) 13
theorem scRowStr : FnScope ["self", "kind", "count"] ["self"] (defScope sRowStr) := ⟨rfl, rfl, rfl, by decide +kernel, rfl, by decide +kernel, by decide +kernel⟩
def spRStr (K : PySem.W.Frag) (C CT : Addr) : Sp := fun vs H Q _ => ∃ (o t : Addr) (ks : List Str) (ps : List (Str × Str)) (L : SyL), vs = [.ref o] ∧ RowR K C CT o t ks ps L H ∧ L.length ≤ 1000 ∧ (∀ e ∈ sylsOf L, e.2.natAbs < 10 ^ 64) ∧ ∀ H', Same H H' → Q (.str (txtRow (sylsOf L))) H'
theorem sum_le {l : List (Str × Int)} {m : Nat} (h : ∀ e ∈ l, (txtSyl e).length ≤ m) : ((l.map txtSyl).map (·.length)).sum ≤ m * l.length := by
  induction l with
  | nil => simp
  | cons e l ih =>
    have h1 := h e List.mem_cons_self
    have h2 := ih fun g hg => h g (List.mem_cons_of_mem _ hg)
    simp only [List.map_cons, List.sum_cons, List.length_cons, Nat.mul_succ]
    omega
section
variable {P : Program} {w : World} {K : PySem.W.Frag} {mg : Str → Option Value} {base : Heap}
theorem okTxS {f fN : Addr} {fd fdN : FuncData} (F : Fun K "text_of_syllable" "text_of_syllable" sTxS f fd) (GN : FnOk P w K mg base CX0 1 fN fdN ["number"] spTxN) (mN : mg "text_of_number" = some (.ref fN)) (kN : keepIn K (.ref fN) = true) (bN : Binds K fdN ["number"] []) : FnOk P w K mg base CX0 2 f fd ["kind", "count"] spTxS := by
  refine F.ok scTxS (fun vs H Q E h => ?_) (fun cdv A outer s H vs Q E hr h => ?_)
  · obtain ⟨k, n, rfl, _⟩ := h
    rfl
  refine ⟨_, pss_cons (ps_if (pt_cmpR op_eq (pv 1) pe_int (nomark _)) (pss_one (ps_ret (pv 0))) pss_nil)
    (pss_one (ps_ret (pe_joined (.cons (pe_fmt (pv 0)) (.cons pe_str (.cons (pe_fmt (pe_call GN hr rfl mN kN bN .nil pass0 (pa_cons (pv 1) pa_nil))) .nil)))))), ?_⟩
  obtain ⟨k, n, rfl, hk, hn, q⟩ := h
  have big : (1000 : Nat) ≤ sizeLine := by decide
  have l0 : Str.empty.length = 0 := by decide
  have l1 : (Str.ofString "^").length = 1 := by decide
  have ln := len_txtNum (k := 64) (by decide) hn
  unfold txtSyl at q
  refine ⟨_, rfl, rfl, _, rfl, ?_⟩
  by_cases z : n = 1
  · rw [if_pos z] at q
    subst z
    exact iteT ⟨_, rfl, q H (Same.refl _)⟩
  · rw [if_neg z] at q
    have e : decide (V.int n = V.int 1) = false := decide_eq_false fun y => z (V.int.inj y)
    rw [e]
    refine iteF ⟨_, rfl, .inl ⟨_, rfl, by omega, _, rfl, by rw [Str.length_append]; omega, _, rfl, by rw [Str.length_append, Str.length_append]; omega, _, rfl, n, rfl, hn, fun H' s1 => .inl ⟨_, rfl, by omega, _, rfl, by simp only [Str.length_append]; omega, ?_⟩⟩⟩
    exact q H' s1
theorem okRStr {f fS C CT : Addr} {fd fdS : FuncData} (F : Fun K "__str__" "Row.__str__" sRowStr f fd) (c : Cls K C) (n2 : NoAttr K C "syllables") (GS : FnOk P w K mg base CX0 2 fS fdS ["kind", "count"] spTxS) (mS : mg "text_of_syllable" = some (.ref fS)) (kS : keepIn K (.ref fS) = true) (bS : Binds K fdS ["kind", "count"] []) : FnOk P w K mg base CX0 3 f fd ["self"] (spRStr K C CT) := by
  refine F.ok scRowStr (fun vs H Q E h => ?_) (fun cdv A outer s H vs Q E hr h => ?_)
  · obtain ⟨o, t, ks, ps, L, rfl, _⟩ := h
    rfl
  refine ⟨_, pss_cons (ps_if (pt_not (pt_truth (pe_fld (pv 0) rfl) (by intro _; rfl))) (pss_one (ps_ret pe_str)) pss_nil)
    (pss_one (ps_ret (pe_join pe_str (pe_lc (own := [("kind", 1), ("count", 2)]) (g := gTup K 2 (gCons (gName 1) (gCons (gName 2) gNil))) (tt := tYes) rfl scRowStr.nd (pi_tup (pe_fld (pv 0) rfl)) (blkOk_by (N := ["self", "kind", "count"]) (sc := defScope sRowStr) (by decide +kernel))
        (fun _ _ _ _ _ => pg_tup rfl (pgs_cons (pg_name (i := 1) scRowStr.nd rfl (Or.inl rfl)) (pgs_cons (pg_name (i := 2) scRowStr.nd rfl (Or.inl rfl)) pgs_nil)))
        (fun _ _ _ _ _ => pts_nil) (fun _ _ _ _ _ => pe_call GS hr rfl mS kS bS .nil pass0 (pa_cons (pv 1) (pa_cons (pv 2) pa_nil))))))), ?_⟩
  obtain ⟨o, t, ks, ps, L, rfl, ⟨dx, sy, R⟩, l1000, hN, q⟩ := h
  have lR : (refsOf L).length = L.length := List.length_map ..
  have nm : ∀ e ∈ sylsOf L, e.1.length ≤ 6 := fun e he => by
    obtain ⟨x, hx, rfl⟩ := List.mem_map.mp he
    obtain ⟨_, _, _, _, _, _, _, T⟩ := R.tab
    exact (name_short ((kinds_ok T.good).nm _ (R.known x hx))).1
  refine ⟨_, rfl, o, C, dx, _, _, rfl, R.obj, c, n2, rfl, !L.isEmpty, .inr (.inl ⟨refsOf L, R.syl, by cases L <;> rfl⟩), ?_⟩
  have bn : ∀ e ∈ sylsOf L, (txtSyl e).length ≤ 73 := fun e he => len_txtSyl (nm e he) (hN e he)
  have big : (1001 : Nat) ≤ sizeLine := by decide
  unfold txtRow at q
  cases hL : L.isEmpty with
  | true =>
    have e0 : L = [] := List.isEmpty_iff.mp hL
    subst e0
    exact iteT (q H (Same.refl _))
  | false =>
    have e0 : sylsOf L ≠ [] := fun z => by
      have : L = [] := List.map_eq_nil_iff.mp z
      rw [this] at hL
      cases hL
    rw [if_neg e0] at q
    refine iteF ⟨⟨_, rfl⟩, ?_⟩
    refine ⟨_, rfl, o, C, dx, _, _, rfl, R.obj, c, n2, rfl, sy, rfl, ⟨_, R.syl⟩, fun D hD => ?_⟩
    refine lc_tup (K := K) (a := sy) (xs := refsOf L) (fun i H' => Same H H' ∧ H' D = some (.lst ((((sylsOf L).take i).map txtSyl).map V.str))) ⟨sameNew hD, upd_same⟩ (fun i H' _ h => Same.tup h.1 R.syl) ?_ ?_
    · rintro i x H2 hx ⟨s2, eD⟩
      obtain ⟨e, he, rfl⟩ := refs_at hx
      have lt : i < L.length := (List.getElem?_eq_some_iff.mp he).1
      have he2 : (sylsOf L)[i]? = some e.2 := by rw [List.getElem?_map, he]; rfl
      have em := List.mem_of_getElem? he2
      have tk : (sylsOf L).take (i + 1) = (sylsOf L).take i ++ [e.2] := by rw [List.take_succ, he2]; rfl
      refine ⟨e.1, _, rfl, Same.tup s2 (R.each e (List.mem_of_getElem? he)), rfl, _, _, rfl, _, _, rfl, rfl, rfl, _, rfl, _, rfl, e.2.1, e.2.2, rfl, nm _ em, hN _ em, fun H3 s3 => ?_⟩
      have e3 := s3 _ _ eD
      refine ⟨_, e3, ?_, Same.upd (s2.trans s3) hD, ?_⟩
      · rw [List.length_map, List.length_map, List.length_take]
        omega
      · rw [upd_same, tk]
        simp only [List.map_append]
        rfl
    · rintro H2 ⟨s2, eD⟩
      have eT : (sylsOf L).take (refsOf L).length = sylsOf L := List.take_of_length_le (by rw [List.length_map, lR]; exact Nat.le_refl _)
      rw [eT] at eD
      refine ⟨_, D, _, rfl, rfl, .inl (SqL.of eD), ?_, q H2 s2⟩
      have h1 := sum_le bn
      have h2 : (sylsOf L).length = L.length := List.length_map ..
      have h3 : (Str.ofString " ").length = 1 := by decide
      rw [List.length_map, h2, h3]
      rw [h2] at h1
      omega
end
end L2.Und
end

section
set_option Elab.async false
set_option linter.all false
set_option maxRecDepth 100000
set_option maxHeartbeats 1000000
namespace L2.Und
open PySem PySem.Spec PyProof.Rows _root_.Und
open L2.KS
open PySem.W (findIn keepIn typeIn subIn)
/-! ### versions made -/
def VerR (K : PySem.W.Frag) (CV CR CT o t : Addr) (ks : List Str) (ps : List (Str × Str)) (LS : List (List (Str × Int))) (H : Hp) : Prop := ∃ dx sy ly kd ro la FL S LY KD, VerAt K CV CR CT o dx t sy ly kd ro la ks ps LS FL S LY KD H
theorem VerAt.mono {K : PySem.W.Frag} {CV CR CT o dx t sy ly kd ro la : Addr} {ks : List Str} {ps : List (Str × Str)} {LS : List (List (Str × Int))} {FL S : SyL} {LY : LyL} {KD : List Str} {H H' : Hp} (v : VerAt K CV CR CT o dx t sy ly kd ro la ks ps LS FL S LY KD H) (s : SameL H H') : VerAt K CV CR CT o dx t sy ly kd ro la ks ps LS FL S LY KD H' where
  obj := s _ _ v.obj fun _ z => nomatch z
  tab := v.tab.mono s
  syl := sqT_like s v.syl
  each := v.each.mono s
  form := v.form
  lays := ⟨s _ _ v.lays.top (fun _ z => nomatch z), fun e he => s _ _ (v.lays.lay e he) (fun _ z => nomatch z), fun e he x hx => s _ _ (v.lays.syl e he x hx) (fun _ z => nomatch z)⟩
  lay := v.lay
  kin := sqT_like s v.kin
  kind := v.kind
  kmem := v.kmem
  ksrt := v.ksrt
  row := v.row.mono s
  last := sqT_like s v.last
  leach := v.leach.mono s
  lsyl := v.lsyl
  sylT := s _ _ v.sylT fun _ z => nomatch z
theorem VerR.mono {K : PySem.W.Frag} {CV CR CT o t : Addr} {ks : List Str} {ps : List (Str × Str)} {LS : List (List (Str × Int))} {H H' : Hp} (v : VerR K CV CR CT o t ks ps LS H) (s : SameL H H') : VerR K CV CR CT o t ks ps LS H' := by
  obtain ⟨dx, sy, ly, kd, ro, la, FL, S, LY, KD, v⟩ := v
  exact ⟨dx, sy, ly, kd, ro, la, FL, S, LY, KD, v.mono s⟩
theorem VerR.same {K : PySem.W.Frag} {CV CR CT o t : Addr} {ks : List Str} {ps : List (Str × Str)} {LS : List (List (Str × Int))} {H H' : Hp} (v : VerR K CV CR CT o t ks ps LS H) (s : Same H H') : VerR K CV CR CT o t ks ps LS H' := v.mono (.of s)
theorem madeVer {K : PySem.W.Frag} {CV CR CT CM t b : Addr} {H : Hp} {ks : List Str} {ps : List (Str × Str)} {L : SyL} {R : Addr → Hp → Prop} {E : XK} (T : TabR K CT t ks ps H) (hb : SqA K H b (refsOf L)) (hL : Syls K H L) (known : ∀ e ∈ L, e.2.1 ∈ ks) (ln : L.length ≤ 5000)
    (h : (formS ks ps (sylsOf L)).length ≤ 1000 → ∀ x H', H x = none → Same H H' → VerR K CV CR CT x t ks ps (layersS ks ps (sylsOf L)) H' → R x H')
    (hE : 1000 < (formS ks ps (sylsOf L)).length → ∀ (d : Addr) (H' : Hp), H d = none → Same H H' → H' d = some (.xd [("count", .int 1000)]) → E (.ref CM) (some d) H') :
    ∀ x dx, H x = none → H dx = none → dx ≠ x → spVerIni K CV CR CT CM [.ref x, .ref t, .ref b] (upd (upd H dx (.own x)) x (.ins CV dx [])) (fun v H2 => v = .non ∧ R x H2) E := by
  intro x d hx hd ne
  have s7 := same_made (C := CV) hx hd ne
  refine ⟨x, t, b, d, ks, ps, L, rfl, upd_same, T.same s7, SqA.same hb s7, fun e he => Same.tup s7 (hL e he), known, ln, fun l H' sy ly kd ro la FL S LY KD f v => ⟨rfl, h l x H' hx (same_off hx s7 f) ⟨d, sy, ly, kd, ro, la, FL, S, LY, KD, v⟩⟩, fun l q H' n s e => hE l q H' (s7.free n) (s7.trans s) e⟩
/-! ### Version.of -/
abbrev sVerOf : Stmt := clsPart (topS 49) 1
theorem scVerOf : FnScope ["cls", "row"] ["cls", "row"] (defScope sVerOf) := ⟨rfl, rfl, rfl, by decide +kernel, rfl, by decide +kernel, by decide +kernel⟩
def spVerOf (K : PySem.W.Frag) (CV CR CT CM : Addr) : Sp := fun vs H Q E => ∃ (r t : Addr) (ks : List Str) (ps : List (Str × Str)) (L : SyL), vs = [.ref CV, .ref r] ∧ RowR K CR CT r t ks ps L H ∧ L.length ≤ 5000 ∧
  ((formS ks ps (sylsOf L)).length ≤ 1000 → ∀ x H', H x = none → Same H H' → VerR K CV CR CT x t ks ps (layersS ks ps (sylsOf L)) H' → Q (.ref x) H') ∧
  (1000 < (formS ks ps (sylsOf L)).length → ∀ (d : Addr) (H' : Hp), H d = none → Same H H' → H' d = some (.xd [("count", .int 1000)]) → E (.ref CM) (some d) H')
section
variable {P : Program} {w : World} {K : PySem.W.Frag} {mg : Str → Option Value} {base : Heap}
theorem okVerOf {f fI CV CR CT CM : Addr} {fd fdI : FuncData} (F : Fun K "of" "Version.of" sVerOf f fd) (c : Cls K CR) (n1 : NoAttr K CR "table") (n2 : NoAttr K CR "syllables")
    (M : Mk K CV fI) (GI : FnOk P w K mg base (L2.CX P w) 6 fI fdI ["self", "table", "syllables"] (spVerIni K CV CR CT CM)) (bI : Binds K fdI ["self", "table", "syllables"] []) :
    FnOk P w K mg base (L2.CX P w) 8 f fd ["cls", "row"] (spVerOf K CV CR CT CM) := by
  refine F.okX scVerOf (fun vs H Q E h => ?_) (fun cdv A outer s H vs Q E hr h => ?_)
  · obtain ⟨r, t, ks, ps, L, rfl, _⟩ := h
    rfl
  refine ⟨_, pss_one (ps_ret (peMakeL (i := 0) M GI hr rfl (Or.inl rfl) bI .nil (fun σ => passAt (takes_of rfl rfl rfl rfl) σ) (pa_cons (pe_fld (pv 1) rfl) (pa_cons (pe_fld (pv 1) rfl) pa_nil)))), ?_⟩
  obtain ⟨r, t, ks, ps, L, rfl, ⟨dx, sy, R⟩, l5, q, qE⟩ := h
  refine ⟨rfl, _, rfl, r, CR, dx, _, _, rfl, R.obj, c, n1, rfl, _, rfl, r, CR, dx, _, _, rfl, R.obj, c, n2, rfl, ?_⟩
  exact madeVer R.tab (.inr R.syl) R.each R.known l5 (fun l x H' hx s v => q l x H' hx s v) qE
/-! ### Version.__str__ -/
abbrev sVerStr : Stmt := clsPart (topS 49) 16
theorem scVerStr : FnScope ["self"] ["self"] (defScope sVerStr) := ⟨rfl, rfl, rfl, by decide +kernel, rfl, by decide +kernel, by decide +kernel⟩
def spVerStr (K : PySem.W.Frag) (CV CR CT : Addr) : Sp := fun vs H Q _ => ∃ (o t : Addr) (ks : List Str) (ps : List (Str × Str)) (LS : List (List (Str × Int))), vs = [.ref o] ∧ VerR K CV CR CT o t ks ps LS H ∧ LS.flatten.length ≤ 1000 ∧ (∀ e ∈ LS.flatten, e.2.natAbs < 10 ^ 64) ∧ ∀ H', Same H H' → Q (.str (txtRow LS.flatten)) H'
theorem okVerStr {f fS CV CR CT : Addr} {fd fdS : FuncData} (F : Fun K "__str__" "Version.__str__" sVerStr f fd) (c : Cls K CV) (n5 : NoAttr K CV "row") (hS : Meth K CR "__str__" fS) (GS : FnOk P w K mg base CX0 3 fS fdS ["self"] (spRStr K CR CT)) (bS : Binds K fdS ["self"] []) (mX : mg "str" = none) :
    FnOk P w K mg base CX0 6 f fd ["self"] (spVerStr K CV CR CT) := by
  refine F.ok scVerStr (fun vs H Q E h => ?_) (fun cdv A outer s H vs Q E hr h => ?_)
  · obtain ⟨o, t, ks, ps, LS, rfl, _⟩ := h
    rfl
  have hu2 : (A.deeper (envOfC "Version.__str__" (defScope sVerStr) s.heap.objs.size f cdv)).in1.in1.units < cLine := by
    have := hr.un
    show (A.deeper (envOfC "Version.__str__" (defScope sVerStr) s.heap.objs.size f cdv)).units + 1 + 1 < cLine
    omega
  refine ⟨_, pss_one (ps_ret (pe_callTy (cr_strO (E := E0) hS GS hr bS pass0 hu2) rfl mX PyProof.Rows.Boot.«str» (pa_cons (pe_fld (pv 0) rfl) pa_nil))), ?_⟩
  obtain ⟨o, t, ks, ps, LS, rfl, ⟨dx, sy, ly, kd, ro, la, FL, S, LY, KD, v⟩, l1, hN, q⟩ := h
  have lF : FL.length = LS.flatten.length := by
    have := congrArg List.length v.form
    rwa [List.length_map] at this
  obtain ⟨dxr, syr, R⟩ := id v.row
  refine ⟨_, rfl, o, CV, dx, _, _, rfl, v.obj, c, n5, rfl, _, rfl, ro, dxr, _, rfl, R.obj, ro, t, ks, ps, FL, rfl, v.row, by omega, by rw [v.form]; exact hN, fun H' s' => ⟨_, rfl, ?_⟩⟩
  rw [v.form]
  exact q H' s'
end
end L2.Und
end

section
set_option Elab.async false
set_option linter.all false
set_option maxRecDepth 100000
set_option maxHeartbeats 1000000
namespace L2.Und
open PySem PySem.Spec PyProof.Rows _root_.Und
open L2.KS
open PySem.W (findIn keepIn typeIn subIn)
/-! ### rows compared -/
abbrev sRowEq : Stmt := clsPart (topS 33) 12
theorem scRowEq : FnScope ["self", "other"] ["self", "other"] (defScope sRowEq) := ⟨rfl, rfl, rfl, by decide +kernel, rfl, by decide +kernel, by decide +kernel⟩
/-- rows are equal by their tables and their syllables -/
abbrev RowsEq (ks : List Str) (ps : List (Str × Str)) (L : SyL) (ks' : List Str) (ps' : List (Str × Str)) (L' : SyL) : Prop := (srtTxt ks = srtTxt ks' ∧ pairsOf ps = pairsOf ps') ∧ sylsOf L = sylsOf L'
def spREq (K : PySem.W.Frag) (C CT : Addr) : Sp := fun vs H Q _ => ∃ (o t : Addr) (y : V) (ks : List Str) (ps : List (Str × Str)) (L : SyL), vs = [.ref o, y] ∧ RowR K C CT o t ks ps L H ∧
  ((NoIns H y ∧ Q (.bl false) H) ∨ ∃ (b t' : Addr) (ks' : List Str) (ps' : List (Str × Str)) (L' : SyL), y = .ref b ∧ RowR K C CT b t' ks' ps' L' H ∧ Q (.bl (decide (RowsEq ks ps L ks' ps' L'))) H)
section
variable {P : Program} {w : World} {K : PySem.W.Frag} {mg : Str → Option Value} {base : Heap}
theorem okREq {f fE C CT : Addr} {fd fdE : FuncData} (F : Fun K "__eq__" "Row.__eq__" sRowEq f fd) (i : ClsI K C) (n1 : NoAttr K C "table") (n2 : NoAttr K C "syllables") (hE : Meth K CT "__eq__" fE) (GE : FnOk P w K mg base CX0 1 fE fdE ["self", "other"] (spEqT K CT)) (bE : Binds K fdE ["self", "other"] [])
    (mI : mg "isinstance" = none) (mC : mg "Row" = some (.ref C)) : FnOk P w K mg base CX0 2 f fd ["self", "other"] (spREq K C CT) := by
  refine F.ok scRowEq (fun vs H Q E h => ?_) (fun cdv A outer s H vs Q E hr h => ?_)
  · obtain ⟨o, t, y, ks, ps, L, rfl, _⟩ := h
    rfl
  have hu : (A.deeper (envOfC "Row.__eq__" (defScope sRowEq) s.heap.objs.size f cdv)).units + 64 < cLine := by have := hr.un; omega
  have hu0 : (A.deeper (envOfC "Row.__eq__" (defScope sRowEq) s.heap.objs.size f cdv)).units < cLine := by omega
  refine ⟨_, pss_one (ps_ret (pe_and (pe_callB call_isi rfl mI PyProof.Rows.boot_isinstance (pa_cons (pv 1) (pa_cons (pe_glob (v := .ref C) rfl mC rfl) pa_nil)))
    (pe_and (pe_cmpR (op_eqO (E := E0) hE GE hr bE pass0 hu0) (pe_fld (pv 0) rfl) (pe_fld (pv 1) rfl) (nomark _)) (pe_one (pe_cmpR (op_eqD hu) (pe_fld (pv 0) rfl) (pe_fld (pv 1) rfl) (nomark _)))))), ?_⟩
  obtain ⟨o, t, y, ks, ps, L, rfl, ⟨dx, sy, R⟩, h⟩ := h
  rcases h with ⟨no, q⟩ | ⟨b, t', ks', ps', L', rfl, ⟨dx', sy', R'⟩, q⟩
  · obtain ⟨ty, hty, k⟩ := no.is i
    exact ⟨_, rfl, y, .ref C, ty, .ref C, false, rfl, .own C, hty, k, _, rfl, iteF q⟩
  · refine ⟨_, rfl, .ref b, .ref C, .ref C, .ref C, true, rfl, .own C, .base (.ins R'.obj i.c i.kls i.hn i.ht i.obj), ClsI.self, _, rfl, iteT ?_⟩
    refine ⟨_, rfl, o, C, dx, _, _, rfl, R.obj, i.c, n1, rfl, _, rfl, b, C, dx', _, _, rfl, R'.obj, i.c, n1, rfl, eqO_of R.tab R'.tab ⟨_, rfl, ?_⟩⟩
    by_cases h1 : srtTxt ks = srtTxt ks' ∧ pairsOf ps = pairsOf ps'
    · rw [decide_eq_true h1]
      refine iteT ⟨_, rfl, o, C, dx, _, _, rfl, R.obj, i.c, n2, rfl, _, rfl, b, C, dx', _, _, rfl, R'.obj, i.c, n2, rfl, ?_⟩
      refine ⟨_, _, R.fld', R'.fld', (shapedSyls R.names).1, (shapedSyls R'.names).1, ?_⟩
      have e2 : PyData.eqv (.tuple ((sylsOf L).map dSyl)) (.tuple ((sylsOf L').map dSyl)) = decide (sylsOf L = sylsOf L') := eqvSyls _ _
      rw [e2]
      have z : decide (RowsEq ks ps L ks' ps' L') = decide (sylsOf L = sylsOf L') := decide_eq_decide.mpr ⟨fun z => z.2, fun z => ⟨h1, z⟩⟩
      rw [z] at q
      exact q
    · rw [decide_eq_false h1]
      have z : decide (RowsEq ks ps L ks' ps' L') = false := decide_eq_false fun z => h1 z.1
      rw [z] at q
      exact iteF q
end
end L2.Und
end

section
set_option Elab.async false
set_option linter.all false
set_option maxRecDepth 100000
set_option maxHeartbeats 1000000
namespace L2.Und
open PySem PySem.Spec PyProof.Rows _root_.Und
open L2.KS
open PySem.W (findIn keepIn typeIn subIn)
/-! ### len, bool and == of versions -/
theorem flat_len {LS : List (List (Str × Int))} {FL : SyL} (e : sylsOf FL = LS.flatten) : FL.length = LS.flatten.length := by
  have := congrArg List.length e
  rwa [List.length_map] at this
abbrev sVerLen : Stmt := clsPart (topS 49) 9
theorem scVerLen : FnScope ["self"] ["self"] (defScope sVerLen) := ⟨rfl, rfl, rfl, by decide +kernel, rfl, by decide +kernel, by decide +kernel⟩
def spVLen (K : PySem.W.Frag) (CV CR CT : Addr) : Sp := fun vs H Q _ => ∃ (o t : Addr) (ks : List Str) (ps : List (Str × Str)) (LS : List (List (Str × Int))), vs = [.ref o] ∧ VerR K CV CR CT o t ks ps LS H ∧ Q (.int LS.flatten.length) H
abbrev sVerBool : Stmt := clsPart (topS 49) 10
theorem scVerBool : FnScope ["self"] ["self"] (defScope sVerBool) := ⟨rfl, rfl, rfl, by decide +kernel, rfl, by decide +kernel, by decide +kernel⟩
def spVBool (K : PySem.W.Frag) (CV CR CT : Addr) : Sp := fun vs H Q _ => ∃ (o t : Addr) (ks : List Str) (ps : List (Str × Str)) (LS : List (List (Str × Int))), vs = [.ref o] ∧ VerR K CV CR CT o t ks ps LS H ∧ ∀ H', Same H H' → Q (.bl (!LS.flatten.isEmpty)) H'
abbrev sVerEq : Stmt := clsPart (topS 49) 15
theorem scVerEq : FnScope ["self", "other"] ["self", "other"] (defScope sVerEq) := ⟨rfl, rfl, rfl, by decide +kernel, rfl, by decide +kernel, by decide +kernel⟩
/-- versions are equal by their tables and their forms -/
abbrev VersEq (ks : List Str) (ps : List (Str × Str)) (LS : List (List (Str × Int))) (ks' : List Str) (ps' : List (Str × Str)) (LS' : List (List (Str × Int))) : Prop := (srtTxt ks = srtTxt ks' ∧ pairsOf ps = pairsOf ps') ∧ LS.flatten = LS'.flatten
def spVEq (K : PySem.W.Frag) (CV CR CT : Addr) : Sp := fun vs H Q _ => ∃ (o t : Addr) (y : V) (ks : List Str) (ps : List (Str × Str)) (LS : List (List (Str × Int))), vs = [.ref o, y] ∧ VerR K CV CR CT o t ks ps LS H ∧
  ((NoIns H y ∧ Q (.bl false) H) ∨ ∃ (b t' : Addr) (ks' : List Str) (ps' : List (Str × Str)) (LS' : List (List (Str × Int))), y = .ref b ∧ VerR K CV CR CT b t' ks' ps' LS' H ∧ Q (.bl (decide (VersEq ks ps LS ks' ps' LS'))) H)
section
variable {P : Program} {w : World} {K : PySem.W.Frag} {mg : Str → Option Value} {base : Heap}
theorem okVLen {f CV CR CT : Addr} {fd : FuncData} (F : Fun K "__len__" "Version.__len__" sVerLen f fd) (c : Cls K CV) (n2 : NoAttr K CV "syllables") (mL : mg "len" = none) : FnOk P w K mg base CX0 1 f fd ["self"] (spVLen K CV CR CT) := by
  refine F.ok scVerLen (fun vs H Q E h => ?_) (fun cdv A outer s H vs Q E hr h => ?_)
  · obtain ⟨o, t, ks, ps, LS, rfl, _⟩ := h
    rfl
  refine ⟨_, pss_one (ps_ret (pe_callB call_len_seq rfl mL PySem.boot_len (pa_cons (pe_fld (pv 0) rfl) pa_nil))), ?_⟩
  obtain ⟨o, t, ks, ps, LS, rfl, ⟨dx, sy, ly, kd, ro, la, FL, S, LY, KD, v⟩, q⟩ := h
  refine ⟨_, rfl, o, CV, dx, _, _, rfl, v.obj, c, n2, rfl, sy, _, rfl, .inr v.syl, ?_⟩
  rw [List.length_map, flat_len v.form]
  exact q
theorem okVBool {f CV CR CT : Addr} {fd : FuncData} (F : Fun K "__bool__" "Version.__bool__" sVerBool f fd) (c : Cls K CV) (n2 : NoAttr K CV "syllables") (mB : mg "bool" = none) : FnOk P w K mg base CX0 1 f fd ["self"] (spVBool K CV CR CT) := by
  refine F.ok scVerBool (fun vs H Q E h => ?_) (fun cdv A outer s H vs Q E hr h => ?_)
  · obtain ⟨o, t, ks, ps, LS, rfl, _⟩ := h
    rfl
  refine ⟨_, pss_one (ps_ret (pe_callTy call_boolT rfl mB PyProof.Rows.Boot.«bool» (pa_cons (pe_fld (pv 0) rfl) pa_nil))), ?_⟩
  obtain ⟨o, t, ks, ps, LS, rfl, ⟨dx, sy, ly, kd, ro, la, FL, S, LY, KD, v⟩, q⟩ := h
  refine ⟨_, rfl, o, CV, dx, _, _, rfl, v.obj, c, n2, rfl, sy, _, rfl, v.syl, ?_⟩
  have e : (!(refsOf FL).isEmpty) = !LS.flatten.isEmpty := by
    rw [← v.form]
    cases FL <;> rfl
  rw [e]
  exact q H (Same.refl H)
theorem okVEq {f fE CV CR CT : Addr} {fd fdE : FuncData} (F : Fun K "__eq__" "Version.__eq__" sVerEq f fd) (i : ClsI K CV) (n1 : NoAttr K CV "table") (n2 : NoAttr K CV "syllables") (hE : Meth K CT "__eq__" fE) (GE : FnOk P w K mg base CX0 1 fE fdE ["self", "other"] (spEqT K CT)) (bE : Binds K fdE ["self", "other"] [])
    (mI : mg "isinstance" = none) (mC : mg "Version" = some (.ref CV)) : FnOk P w K mg base CX0 2 f fd ["self", "other"] (spVEq K CV CR CT) := by
  refine F.ok scVerEq (fun vs H Q E h => ?_) (fun cdv A outer s H vs Q E hr h => ?_)
  · obtain ⟨o, t, y, ks, ps, LS, rfl, _⟩ := h
    rfl
  have hu : (A.deeper (envOfC "Version.__eq__" (defScope sVerEq) s.heap.objs.size f cdv)).units + 64 < cLine := by have := hr.un; omega
  have hu0 : (A.deeper (envOfC "Version.__eq__" (defScope sVerEq) s.heap.objs.size f cdv)).units < cLine := by omega
  refine ⟨_, pss_one (ps_ret (pe_and (pe_callB call_isi rfl mI PyProof.Rows.boot_isinstance (pa_cons (pv 1) (pa_cons (pe_glob (v := .ref CV) rfl mC rfl) pa_nil)))
    (pe_and (pe_cmpR (op_eqO (E := E0) hE GE hr bE pass0 hu0) (pe_fld (pv 0) rfl) (pe_fld (pv 1) rfl) (nomark _)) (pe_one (pe_cmpR (op_eqD hu) (pe_fld (pv 0) rfl) (pe_fld (pv 1) rfl) (nomark _)))))), ?_⟩
  obtain ⟨o, t, y, ks, ps, LS, rfl, ⟨dx, sy, ly, kd, ro, la, FL, S, LY, KD, R⟩, h⟩ := h
  rcases h with ⟨no, q⟩ | ⟨b, t', ks', ps', LS', rfl, ⟨dx', sy', ly', kd', ro', la', FL', S', LY', KD', R'⟩, q⟩
  · obtain ⟨ty, hty, k⟩ := no.is i
    exact ⟨_, rfl, y, .ref CV, ty, .ref CV, false, rfl, .own CV, hty, k, _, rfl, iteF q⟩
  · refine ⟨_, rfl, .ref b, .ref CV, .ref CV, .ref CV, true, rfl, .own CV, .base (.ins R'.obj i.c i.kls i.hn i.ht i.obj), ClsI.self, _, rfl, iteT ?_⟩
    refine ⟨_, rfl, o, CV, dx, _, _, rfl, R.obj, i.c, n1, rfl, _, rfl, b, CV, dx', _, _, rfl, R'.obj, i.c, n1, rfl, eqO_of R.tab R'.tab ⟨_, rfl, ?_⟩⟩
    by_cases h1 : srtTxt ks = srtTxt ks' ∧ pairsOf ps = pairsOf ps'
    · rw [decide_eq_true h1]
      refine iteT ⟨_, rfl, o, CV, dx, _, _, rfl, R.obj, i.c, n2, rfl, _, rfl, b, CV, dx', _, _, rfl, R'.obj, i.c, n2, rfl, ?_⟩
      obtain ⟨dr, sr, RR⟩ := id R.row
      obtain ⟨dr', sr', RR'⟩ := id R'.row
      refine ⟨_, _, .tup R.syl R.each.dp, .tup R'.syl R'.each.dp, (shapedSyls RR.names).1, (shapedSyls RR'.names).1, ?_⟩
      have e2 : PyData.eqv (.tuple ((sylsOf FL).map dSyl)) (.tuple ((sylsOf FL').map dSyl)) = decide (sylsOf FL = sylsOf FL') := eqvSyls _ _
      rw [e2]
      have z : decide (VersEq ks ps LS ks' ps' LS') = decide (sylsOf FL = sylsOf FL') := decide_eq_decide.mpr ⟨fun z => by rw [R.form, R'.form]; exact z.2, fun z => ⟨h1, by rw [← R.form, ← R'.form]; exact z⟩⟩
      rw [z] at q
      exact q
    · rw [decide_eq_false h1]
      have z : decide (VersEq ks ps LS ks' ps' LS') = false := decide_eq_false fun z => h1 z.1
      rw [z] at q
      exact iteF q
end
end L2.Und
end

section
set_option Elab.async false
set_option linter.all false
set_option maxRecDepth 100000
set_option maxHeartbeats 1000000
/-! ### how great the counts of a form can be -/
namespace FM
open PySem
def tot (row : List Syl) : Nat := (row.map fun e => e.2.natAbs).sum
theorem tot_app (a b : List Syl) : tot (a ++ b) = tot a + tot b := by unfold tot; rw [List.map_append, List.sum_append]
theorem pil_tot (T : Tab) : ∀ row : List Syl, ∀ k, ∀ e ∈ pil T row k, e.2.natAbs ≤ tot row := by
  refine snoc_ind (p := fun row => ∀ k, ∀ e ∈ pil T row k, e.2.natAbs ≤ tot row) (fun _ _ h => nomatch h) fun l a ih k e he => ?_
  rw [pil_app] at he
  rw [tot_app]
  have ta : tot [a] = a.2.natAbs := by unfold tot; simp
  rw [ta]
  have he : e ∈ set (pil T l) a.1 (put (pil T l a.1) (lay T (pil T l) a.1) a.2) k := he
  by_cases c : k = a.1
  · subst c
    rw [set_same] at he
    have h0 := ih a.1
    generalize pil T l a.1 = p at he h0
    generalize lay T (pil T l) a.1 = L at he
    cases p with
    | nil =>
      have he : e ∈ (if a.2 = 0 then ([] : Pile) else [(L, a.2)]) := he
      split at he
      · cases he
      · rw [List.mem_singleton.mp he]
        show a.2.natAbs ≤ _
        omega
    | cons y r =>
      obtain ⟨m, b⟩ := y
      have hy : b.natAbs ≤ tot l := h0 (m, b) List.mem_cons_self
      have hr : ∀ x ∈ r, x.2.natAbs ≤ tot l := fun x hx => h0 x (List.mem_cons_of_mem _ hx)
      have he : e ∈ (if m + 1 = L then (if a.2 + b = 0 then r else (m, a.2 + b) :: r) else (if a.2 = 0 then (m, b) :: r else (L, a.2) :: (m, b) :: r)) := he
      split at he <;> split at he
      · have := hr e he; omega
      · rcases List.mem_cons.mp he with rfl | he
        · show (a.2 + b).natAbs ≤ _; omega
        · have := hr e he; omega
      · rcases List.mem_cons.mp he with rfl | he
        · show b.natAbs ≤ _; omega
        · have := hr e he; omega
      · rcases List.mem_cons.mp he with rfl | he
        · show a.2.natAbs ≤ _; omega
        · rcases List.mem_cons.mp he with rfl | he
          · show b.natAbs ≤ _; omega
          · have := hr e he; omega
  · rw [set_ne c] at he
    have := ih k e he
    omega
theorem tot_le {row : List Syl} {B : Nat} (h : ∀ e ∈ row, e.2.natAbs ≤ B) : tot row ≤ row.length * B := by
  induction row with
  | nil => exact Nat.zero_le _
  | cons e row ih =>
    have h1 := ih fun x hx => h x (List.mem_cons_of_mem _ hx)
    have h2 := h e List.mem_cons_self
    have : tot (e :: row) = e.2.natAbs + tot row := by unfold tot; simp
    rw [this, List.length_cons, Nat.succ_mul]
    omega
end FM
end

section
set_option Elab.async false
set_option linter.all false
set_option maxRecDepth 100000
set_option maxHeartbeats 1000000
/-! ### forms of rows: what a row does to any piles is what its form does -/
namespace FM
open PySem
variable {T : Tab} {O : Ord T}
abbrev act (T : Tab) (row : List Syl) (s : Piles) : Piles := row.foldl (step T) s
theorem act_app (a b : List Syl) (s : Piles) : act T (a ++ b) s = act T b (act T a s) := List.foldl_append
/-- labels one behind the other so that no barred two stand against their layers -/
def Compat (T : Tab) (X : List Lab) : Prop := X.Pairwise fun x y => T.fr x.2.1 y.2.1 = false → x.1 < y.1
theorem act_perm : ∀ {X Y : List Lab}, X.Perm Y → Compat T X → Compat T Y → ∀ s, act T (X.map (·.2)) s = act T (Y.map (·.2)) s
  | [], Y, p, _, _, s => by rw [List.nil_perm.mp p]
  | x :: X, Y, p, cX, cY, s => by
    obtain ⟨Y1, Y2, rfl⟩ := List.append_of_mem (p.mem_iff.mp List.mem_cons_self)
    have p' : X.Perm (Y1 ++ Y2) := List.Perm.cons_inv (p.trans List.perm_middle)
    obtain ⟨x1, x2⟩ := List.pairwise_cons.mp cX
    have cY' := List.pairwise_append.mp cY
    have free : ∀ y ∈ Y1, T.fr x.2.1 y.2.1 = true := fun y hy => by
      cases e : T.fr x.2.1 y.2.1 with
      | true => rfl
      | false =>
        have h1 := x1 y (p'.mem_iff.mpr (List.mem_append_left _ hy)) e
        have h2 := cY'.2.2 y hy x List.mem_cons_self (by rw [T.sym]; exact e)
        omega
    have cYY : Compat T (Y1 ++ Y2) := List.pairwise_append.mpr ⟨cY'.1, (List.pairwise_cons.mp cY'.2.1).2, fun a ha b hb => cY'.2.2 a ha b (List.mem_cons_of_mem _ hb)⟩
    rw [List.map_append, List.map_cons, List.map_cons, act_app]
    show act T (X.map (·.2)) (step T s x.2) = act T (Y2.map (·.2)) (step T (act T (Y1.map (·.2)) s) x.2)
    have z : step T (act T (Y1.map (·.2)) s) x.2 = act T (Y1.map (·.2)) (step T s x.2) := fold_pass (k := x.2.1) (m := x.2.2) _ s fun e he => by
      obtain ⟨y, hy, rfl⟩ := List.mem_map.mp he
      exact free y hy
    rw [z, ← act_app, ← List.map_append]
    exact act_perm p' x2 cYY _
theorem compat_rd {s : Piles} (I : Inv T s) : Compat T (rdP O s) :=
  List.Pairwise.imp_of_mem (fun {_ _} hx hy h hb => bef_lay I hx hy h hb) (rdP_srt (O := O) s)
theorem nodup_rd (s : Piles) : (rdP O s).Nodup := (rdP_srt (O := O) s).imp fun h z => by rw [z] at h; exact h.irr
theorem act_formP (s : Piles) (u : Piles) : act T (formP O s) u = act T ((rdP O s).map (·.2)) u := rfl
/-- one syllable more: the form of what comes is the form and it -/
theorem form_step {s : Piles} (I : Inv T s) {e : Syl} (hk : e.1 ∈ T.ks) {u : Piles} (J : Inv T u) : act T (formP O (step T s e)) u = step T (act T (formP O s) u) e := by
  obtain ⟨k, n⟩ := e
  have I' := inv_step I hk
  have IA : ∀ s' : Piles, Inv T s' → Inv T (act T (formP O s') u) := fun s' I' => inv_fold _ _ J (form_known I')
  have J1 := IA s I
  -- members of other piles
  have other : ∀ {l : Nat} {k' : Str} {c : Int}, k' ≠ k → ((l, (k', c)) ∈ rdP O (step T s (k, n)) ↔ (l, (k', c)) ∈ rdP O s) := fun {l k' c} h => by
    rw [mem_rdP I', mem_rdP I]
    unfold step
    rw [set_ne h]
  have fkk : T.fr k k = false := T.irr k
  -- put on top
  have top : n ≠ 0 → put (s k) (lay T s k) n = (lay T s k, n) :: s k → act T (formP O (step T s (k, n))) u = step T (act T (formP O s) u) (k, n) := fun hn hp => by
    have e0 : step T s (k, n) k = (lay T s k, n) :: s k := by
      unfold step
      rw [set_same]
      exact hp
    have c1 : Compat T (rdP O s ++ [(lay T s k, (k, n))]) := List.pairwise_append.mpr ⟨compat_rd I, List.pairwise_singleton _ _, fun x hx y hy hb => by
      rw [List.mem_singleton.mp hy] at hb ⊢
      obtain ⟨l, k', c⟩ := x
      have m := (mem_rdP I).mp hx
      have b1 := below (I.asc k') m
      have b2 := ht_le_lay (T := T) (s := s) (k := k) (I.known k' (List.ne_nil_of_mem m)) (by rw [T.sym]; exact hb)
      show l < lay T s k
      exact Nat.lt_of_lt_of_le b1 b2⟩
    have nd : (rdP O s ++ [(lay T s k, (k, n))]).Nodup := by
      refine List.nodup_append.mpr ⟨nodup_rd s, by simp, fun a ha b hb z => ?_⟩
      rw [List.mem_singleton.mp hb] at z
      rw [z] at ha
      have m := (mem_rdP I).mp ha
      have b1 := below (I.asc k) m
      have b2 := ht_le_lay (T := T) (s := s) (k := k) hk fkk
      have b3 : lay T s k < ht (s k) := b1
      have b4 : ht (s k) ≤ lay T s k := b2
      omega
    have pm : (rdP O (step T s (k, n))).Perm (rdP O s ++ [(lay T s k, (k, n))]) := (List.perm_ext_iff_of_nodup (nodup_rd _) nd).mpr fun x => by
      obtain ⟨l, k', c⟩ := x
      by_cases h : k' = k
      · subst h
        rw [mem_rdP I', e0, List.mem_cons, List.mem_append, List.mem_singleton, mem_rdP I]
        constructor
        · rintro (z | z)
          · cases z; exact .inr rfl
          · exact .inl z
        · rintro (z | z)
          · exact .inr z
          · cases z; exact .inl rfl
      · rw [other h, List.mem_append, List.mem_singleton]
        exact ⟨.inl, fun z => z.elim id fun z => by cases z; exact absurd rfl h⟩
    rw [act_formP, act_perm pm (compat_rd I') c1, List.map_append, act_app]
    rfl
  cases es : s k with
  | nil =>
    by_cases hn : n = 0
    · subst hn
      rw [step_zero I, step_zero J1]
    · exact top hn (by rw [es]; unfold put; rw [if_neg hn])
  | cons y r =>
    obtain ⟨l, a⟩ := y
    by_cases hl : l + 1 = lay T s k
    · -- it melts
      have mx : (l, (k, a)) ∈ rdP O s := (mem_rdP I).mpr (by rw [es]; exact List.mem_cons_self)
      have ex := lay_exposed I hk es hl
      have ak : (s k).Pairwise fun a b => b.1 < a.1 := I.asc k
      rw [es] at ak
      obtain ⟨a1, _⟩ := List.pairwise_cons.mp ak
      have lower : ∀ x ∈ (rdP O s).erase (l, (k, a)), T.fr x.2.1 k = false → x.1 < l := fun x hx hb => by
        obtain ⟨l', k', c⟩ := x
        have m := (mem_rdP I).mp (List.mem_of_mem_erase hx)
        by_cases h : k' = k
        · subst h
          rw [es] at m
          rcases List.mem_cons.mp m with z | z
          · cases z
            exact absurd rfl ((nodup_rd (O := O) s).mem_erase_iff.mp hx).1
          · exact a1 _ z
        · have b1 := below (I.asc k') m
          have b2 := ex k' (I.known k' (List.ne_nil_of_mem m)) h (by rw [T.sym]; exact hb)
          exact Nat.lt_of_lt_of_le b1 b2
      have cE : Compat T ((rdP O s).erase (l, (k, a))) := (compat_rd I).sublist List.erase_sublist
      have cA : ∀ c : Int, Compat T ((rdP O s).erase (l, (k, a)) ++ [(l, (k, c))]) := fun c => List.pairwise_append.mpr ⟨cE, List.pairwise_singleton _ _, fun x hx y hy hb => by
        rw [List.mem_singleton.mp hy] at hb ⊢
        exact lower x hx hb⟩
      have p0 : (rdP O s).Perm ((rdP O s).erase (l, (k, a)) ++ [(l, (k, a))]) := (List.perm_cons_erase mx).trans (List.perm_append_singleton _ _).symm
      have q0 : act T (formP O s) u = step T (act T (((rdP O s).erase (l, (k, a))).map (·.2)) u) (k, a) := by
        rw [act_formP, act_perm p0 (compat_rd I) (cA a), List.map_append, act_app]
        rfl
      have JE : Inv T (act T (((rdP O s).erase (l, (k, a))).map (·.2)) u) := inv_fold _ _ J fun e he => by
        obtain ⟨x, hx, rfl⟩ := List.mem_map.mp he
        exact form_known I x.2 (List.mem_map.mpr ⟨x, List.mem_of_mem_erase hx, rfl⟩)
      rw [q0, step_merge JE hk]
      have e0 : step T s (k, n) k = if n + a = 0 then r else (l, n + a) :: r := by
        unfold step
        rw [set_same, es]
        exact if_pos hl
      have ndE := (nodup_rd (O := O) s).erase (l, (k, a))
      have memE : ∀ {l' : Nat} {c : Int}, (l', (k, c)) ∈ (rdP O s).erase (l, (k, a)) ↔ (l', c) ∈ r := fun {l' c} => by
        rw [(nodup_rd (O := O) s).mem_erase_iff, mem_rdP I, es, List.mem_cons]
        constructor
        · rintro ⟨z1, z2⟩
          rcases z2 with z2 | z2
          · cases z2; exact absurd rfl z1
          · exact z2
        · intro z
          refine ⟨fun y => ?_, .inr z⟩
          have := a1 _ z
          cases y
          exact absurd this (Nat.lt_irrefl _)
      have memE' : ∀ {l' : Nat} {k' : Str} {c : Int}, k' ≠ k → ((l', (k', c)) ∈ (rdP O s).erase (l, (k, a)) ↔ (l', (k', c)) ∈ rdP O s) := fun {l' k' c} h => by
        rw [(nodup_rd (O := O) s).mem_erase_iff]
        exact ⟨fun z => z.2, fun z => ⟨fun y => by cases y; exact h rfl, z⟩⟩
      by_cases hz : n + a = 0
      · rw [if_pos hz] at e0
        have pm : (rdP O (step T s (k, n))).Perm ((rdP O s).erase (l, (k, a))) := (List.perm_ext_iff_of_nodup (nodup_rd _) ndE).mpr fun x => by
          obtain ⟨l', k', c⟩ := x
          by_cases h : k' = k
          · subst h
            rw [mem_rdP I', e0, memE]
          · rw [other h, memE' h]
        have hz' : a + n = 0 := by omega
        rw [act_formP, act_perm pm (compat_rd I') cE, hz', step_zero JE]
      · rw [if_neg hz] at e0
        have nd : ((rdP O s).erase (l, (k, a)) ++ [(l, (k, a + n))]).Nodup := by
          refine List.nodup_append.mpr ⟨ndE, by simp, fun x hx b hb z => ?_⟩
          rw [List.mem_singleton.mp hb] at z
          have := lower x hx (by rw [z]; exact fkk)
          rw [z] at this
          exact absurd this (Nat.lt_irrefl _)
        have pm : (rdP O (step T s (k, n))).Perm ((rdP O s).erase (l, (k, a)) ++ [(l, (k, a + n))]) := (List.perm_ext_iff_of_nodup (nodup_rd _) nd).mpr fun x => by
          obtain ⟨l', k', c⟩ := x
          have cm : n + a = a + n := Int.add_comm _ _
          by_cases h : k' = k
          · subst h
            rw [mem_rdP I', e0, List.mem_cons, List.mem_append, List.mem_singleton, memE, cm]
            constructor
            · rintro (z | z)
              · cases z; exact .inr rfl
              · exact .inl z
            · rintro (z | z)
              · exact .inr z
              · cases z; exact .inl rfl
          · rw [other h, List.mem_append, List.mem_singleton, memE' h]
            exact ⟨.inl, fun z => z.elim id fun z => by cases z; exact absurd rfl h⟩
        rw [act_formP, act_perm pm (compat_rd I') (cA (a + n)), List.map_append, act_app]
        rfl
    · by_cases hn : n = 0
      · subst hn
        rw [step_zero I, step_zero J1]
      · exact top hn (by
          rw [es]
          show (if l + 1 = lay T s k then _ else if n = 0 then _ else _) = _
          rw [if_neg hl, if_neg hn])
/-- what a row does to any piles is what its form does -/
theorem act_form {row : List Syl} (hk : ∀ e ∈ row, e.1 ∈ T.ks) {u : Piles} (J : Inv T u) : act T (formP O (pil T row)) u = act T row u := by
  revert hk
  refine snoc_ind (p := fun row => (∀ e ∈ row, e.1 ∈ T.ks) → act T (formP O (pil T row)) u = act T row u) (fun _ => ?_) (fun l a ih hk => ?_) row
  · have z : formP O (pil T []) = [] := by
      cases e : formP O (pil T []) with
      | nil => rfl
      | cons x xs =>
        have m : x ∈ formP O (pil T []) := by rw [e]; exact List.mem_cons_self
        obtain ⟨⟨l, k, c⟩, hy, rfl⟩ := List.mem_map.mp m
        have := (mem_rdP (inv_nil (T := T))).mp hy
        cases this
    rw [z]
  · have hl : ∀ e ∈ l, e.1 ∈ T.ks := fun e he => hk e (List.mem_append_left _ he)
    rw [pil_app]
    show act T (formP O (step T (pil T l) a)) u = act T (l ++ [a]) u
    rw [form_step (inv_pil hl) (hk a (by simp)) J, ih hl, act_app]
    rfl
/-- forms put together -/
theorem pil_forms {a b : List Syl} (ha : ∀ e ∈ a, e.1 ∈ T.ks) (hb : ∀ e ∈ b, e.1 ∈ T.ks) : pil T (formP O (pil T a) ++ formP O (pil T b)) = pil T (a ++ b) := by
  rw [pil_app, pil_form (inv_pil ha), pil_app]
  exact act_form hb (inv_pil ha)
/-- a row, and the row undone -/
def undo (row : List Syl) : List Syl := (row.map fun e => (e.1, -e.2)).reverse
theorem undo_app (a b : List Syl) : undo (a ++ b) = undo b ++ undo a := by unfold undo; rw [List.map_append, List.reverse_append]
theorem undo_undo (a : List Syl) : undo (undo a) = a := by
  unfold undo
  rw [List.map_reverse, List.reverse_reverse, List.map_map]
  have : ((fun e : Syl => (e.1, -e.2)) ∘ fun e => (e.1, -e.2)) = id := by funext e; simp [Function.comp]
  rw [this, List.map_id]
theorem undo_known {row : List Syl} (hk : ∀ e ∈ row, e.1 ∈ T.ks) : ∀ e ∈ undo row, e.1 ∈ T.ks := fun e he => by
  obtain ⟨x, hx, rfl⟩ := List.mem_map.mp (List.mem_reverse.mp he)
  exact hk x hx
theorem act_undo {row : List Syl} (hk : ∀ e ∈ row, e.1 ∈ T.ks) : ∀ {u : Piles}, Inv T u → act T (undo row) (act T row u) = u := by
  refine snoc_ind (p := fun row => (∀ e ∈ row, e.1 ∈ T.ks) → ∀ {u : Piles}, Inv T u → act T (undo row) (act T row u) = u) (fun _ u _ => rfl) (fun l a ih hk u J => ?_) row hk
  have hl : ∀ e ∈ l, e.1 ∈ T.ks := fun e he => hk e (List.mem_append_left _ he)
  have ka : a.1 ∈ T.ks := hk a (by simp)
  have J1 : Inv T (act T l u) := inv_fold _ _ J hl
  rw [act_app, undo_app]
  show act T (undo l) (step T (step T (act T l u) a) (a.1, -a.2)) = u
  have z : step T (step T (act T l u) a) (a.1, -a.2) = step T (act T l u) (a.1, a.2 + -a.2) := step_merge J1 ka a.2 (-a.2)
  rw [z, Int.add_right_neg, step_zero J1]
  exact ih hl J
theorem undo_act {row : List Syl} (hk : ∀ e ∈ row, e.1 ∈ T.ks) {u : Piles} (J : Inv T u) : act T row (act T (undo row) u) = u := by
  have := act_undo (undo_known hk) J
  rwa [undo_undo] at this
/-- two rows that do the same to all piles, undone, do the same -/
theorem act_undo_eq {a b : List Syl} (ha : ∀ e ∈ a, e.1 ∈ T.ks) (hb : ∀ e ∈ b, e.1 ∈ T.ks) (h : ∀ u, Inv T u → act T a u = act T b u) {u : Piles} (J : Inv T u) : act T (undo a) u = act T (undo b) u := by
  have Jb : Inv T (act T (undo b) u) := inv_fold _ _ J (undo_known hb)
  have e : act T a (act T (undo b) u) = u := by rw [h _ Jb]; exact undo_act hb J
  have := act_undo ha Jb
  rw [e] at this
  exact this
/-- rows are alike where they make the same piles -/
theorem act_eq {a b : List Syl} (ha : ∀ e ∈ a, e.1 ∈ T.ks) (hb : ∀ e ∈ b, e.1 ∈ T.ks) (O : Ord T) (h : pil T a = pil T b) {u : Piles} (J : Inv T u) : act T a u = act T b u := by
  rw [← act_form (O := O) ha J, h, act_form hb J]
theorem pil_undo {a b : List Syl} (ha : ∀ e ∈ a, e.1 ∈ T.ks) (hb : ∀ e ∈ b, e.1 ∈ T.ks) (O : Ord T) (h : pil T a = pil T b) : pil T (undo a) = pil T (undo b) :=
  act_undo_eq ha hb (fun _ J => act_eq ha hb O h J) inv_nil
theorem pil_cong {a a' b b' : List Syl} (ha : ∀ e ∈ a, e.1 ∈ T.ks) (hb : ∀ e ∈ b, e.1 ∈ T.ks) (hb' : ∀ e ∈ b', e.1 ∈ T.ks) (O : Ord T) (h : pil T a = pil T a') (h' : pil T b = pil T b') : pil T (a ++ b) = pil T (a' ++ b') := by
  rw [pil_app, pil_app, ← h]
  exact act_eq hb hb' O h' (inv_pil ha)
end FM
end

section
set_option Elab.async false
set_option linter.all false
set_option maxRecDepth 100000
set_option maxHeartbeats 1000000
namespace L2.Und
open PySem PySem.Spec PyProof.Rows _root_.Und
open L2.KS
/-! ### rows that are alike, their layers -/
theorem undone_undo (l : List (Str × Int)) : undoneS l = FM.undo l := by
  unfold undoneS FM.undo
  rw [List.map_reverse]
def Kn (ks : List Str) (a : List (Str × Int)) : Prop := ∀ e ∈ a, e.1 ∈ ks
section
variable {ks : List Str} {ps : List (Str × Str)} {a b c x y : List (Str × Int)}
theorem Kn.app (h : Kn ks a) (h' : Kn ks b) : Kn ks (a ++ b) := fun e he => (List.mem_append.mp he).elim (h e) (h' e)
theorem Kn.und (h : Kn ks a) : Kn ks (undoneS a) := fun e he => by
  obtain ⟨u, hu, rfl⟩ := List.mem_map.mp he
  exact h u (List.mem_reverse.mp hu)
theorem Kn.nil : Kn ks [] := fun _ h => nomatch h
theorem Kn.T (h : Kn ks a) : ∀ e ∈ a, e.1 ∈ (tabT ks ps).ks := fun e he => memT.mpr (h e he)
theorem Kn.lays (_ : Kn ks a) : Kn ks (formS ks ps a) := fun e he => layers_known e he
theorem Kn.take (h : Kn ks a) (n : Nat) : Kn ks (a.take n) := fun e he => h e (List.mem_of_mem_take he)
theorem Kn.drop (h : Kn ks a) (n : Nat) : Kn ks (a.drop n) := fun e he => h e (List.mem_of_mem_drop he)
abbrev Al (ks : List Str) (ps : List (Str × Str)) (a b : List (Str × Int)) : Prop := FM.pil (tabT ks ps) a = FM.pil (tabT ks ps) b
theorem lay_eq (h : Al ks ps a b) : layersS ks ps a = layersS ks ps b := by
  unfold layersS
  rw [h]
theorem form_eq (h : Al ks ps a b) : formS ks ps a = formS ks ps b := by
  unfold formS
  rw [lay_eq h]
theorem formS_P (nd : ks.Nodup) (a : List (Str × Int)) : formS ks ps a = FM.formP (ordT ks ps nd) (FM.pil (tabT ks ps) a) := (FM.form_flat (O := ordT ks ps nd) _ _).symm
theorem al_form (nd : ks.Nodup) (h : Kn ks a) : Al ks ps (formS ks ps a) a := by
  show FM.pil _ _ = FM.pil _ _
  rw [formS_P nd, FM.pil_form (FM.inv_pil h.T)]
theorem al_app (nd : ks.Nodup) {a' b' : List (Str × Int)} (ha : Kn ks a) (hb : Kn ks b) (hb' : Kn ks b') (h : Al ks ps a a') (h' : Al ks ps b b') : Al ks ps (a ++ b) (a' ++ b') :=
  FM.pil_cong ha.T hb.T hb'.T (ordT ks ps nd) h h'
theorem al_und (nd : ks.Nodup) (ha : Kn ks a) (hb : Kn ks b) (h : Al ks ps a b) : Al ks ps (undoneS a) (undoneS b) := by
  rw [undone_undo, undone_undo]
  exact FM.pil_undo ha.T hb.T (ordT ks ps nd) h
theorem al_of_form (nd : ks.Nodup) (ha : Kn ks a) (hb : Kn ks b) (h : formS ks ps a = formS ks ps b) : Al ks ps a b :=
  (al_form nd ha).symm.trans (by rw [h]; exact al_form nd hb)
theorem al_mul (nd : ks.Nodup) (ha : Kn ks a) (hb : Kn ks b) : Al ks ps (formS ks ps a ++ formS ks ps b) (a ++ b) := al_app nd ha.lays hb.lays hb (al_form nd ha) (al_form nd hb)
theorem al_inv (nd : ks.Nodup) (ha : Kn ks a) : Al ks ps (undoneS (formS ks ps a)) (undoneS a) := al_und nd ha.lays ha (al_form nd ha)
theorem al_amb (nd : ks.Nodup) (ha : Kn ks a) (hb : Kn ks b) : Al ks ps (undoneS (formS ks ps a) ++ formS ks ps b) (undoneS a ++ b) := al_app nd ha.lays.und hb.lays hb (al_inv nd ha) (al_form nd hb)
/-- a row and what undoes it fall out -/
theorem al_off (hx : Kn ks x) (ha : Kn ks a) : Al ks ps (x ++ (a ++ (undoneS a ++ y))) (x ++ y) := by
  show FM.pil _ _ = FM.pil _ _
  rw [undone_undo, FM.pil_app, FM.pil_app, ← List.append_assoc a, List.foldl_append (l := a ++ FM.undo a)]
  congr 1
  have := FM.act_undo (T := tabT ks ps) ha.T (FM.inv_pil (T := tabT ks ps) hx.T)
  rw [List.foldl_append]
  exact this
theorem al_off' (hx : Kn ks x) (ha : Kn ks a) : Al ks ps (x ++ (undoneS a ++ (a ++ y))) (x ++ y) := by
  show FM.pil _ _ = FM.pil _ _
  rw [undone_undo, FM.pil_app, FM.pil_app, ← List.append_assoc (FM.undo a), List.foldl_append (l := FM.undo a ++ a)]
  congr 1
  have := FM.undo_act (T := tabT ks ps) ha.T (FM.inv_pil (T := tabT ks ps) hx.T)
  rw [List.foldl_append]
  exact this
theorem und_app (a b : List (Str × Int)) : undoneS (a ++ b) = undoneS b ++ undoneS a := by
  unfold undoneS
  rw [List.reverse_append, List.map_append]
theorem und_und (a : List (Str × Int)) : undoneS (undoneS a) = a := by
  rw [undone_undo, undone_undo, FM.undo_undo]
theorem und_len (a : List (Str × Int)) : (undoneS a).length = a.length := by
  unfold undoneS
  rw [List.length_map, List.length_reverse]
theorem form_nil : formS ks ps [] = [] := by
  cases h : formS ks ps [] with
  | nil => rfl
  | cons e l =>
    have m : e ∈ formS ks ps [] := by rw [h]; exact List.mem_cons_self
    obtain ⟨L, hL, he⟩ := List.mem_flatten.mp m
    obtain ⟨d, _, rfl⟩ := List.mem_map.mp hL
    obtain ⟨k, _, e2⟩ := List.mem_filterMap.mp he
    cases e2
theorem form_few {B : Nat} (hk : Kn ks a) (k12 : ks.length ≤ 12) (hB : ∀ e ∈ a, e.2.natAbs ≤ B) : (formS ks ps a).length ≤ 12 * a.length ∧ ∀ e ∈ formS ks ps a, e.1 ∈ ks ∧ e.2.natAbs ≤ a.length * B := by
  refine ⟨?_, fun e he => ⟨hk.lays e he, ?_⟩⟩
  · have h1 : (formS ks ps a).length ≤ (srtTxt ks).length * a.length := form_len fun k _ => pil_len (tabT ks ps) k a
    rw [len_srtTxt] at h1
    have h2 : ks.length * a.length ≤ 12 * a.length := Nat.mul_le_mul_right _ k12
    omega
  · obtain ⟨l, hl, he⟩ := List.mem_flatten.mp he
    obtain ⟨d, _, rfl⟩ := List.mem_map.mp hl
    obtain ⟨k, hk', e2⟩ := List.mem_filterMap.mp he
    cases h : (FM.pil (tabT ks ps) a k).lookup d with
    | none => rw [h] at e2; cases e2
    | some c =>
      rw [h] at e2
      cases e2
      have m := (FM.lookup_mem ((FM.inv_pil (T := tabT ks ps) hk.T).asc k)).mp h
      have h1 := FM.pil_tot (tabT ks ps) a k _ m
      have h2 := FM.tot_le hB
      show c.natAbs ≤ _
      have h1 : c.natAbs ≤ FM.tot a := h1
      omega
theorem form_few_len (k12 : ks.length ≤ 12) (a : List (Str × Int)) : (formS ks ps a).length ≤ 12 * a.length := by
  have h1 : (formS ks ps a).length ≤ (srtTxt ks).length * a.length := form_len fun k _ => pil_len (tabT ks ps) k a
  rw [len_srtTxt] at h1
  have h2 : ks.length * a.length ≤ 12 * a.length := Nat.mul_le_mul_right _ k12
  omega
/-- counts bounded -/
def Cb (B : Nat) (a : List (Str × Int)) : Prop := ∀ e ∈ a, e.2.natAbs ≤ B
theorem Cb.app {B : Nat} (h : Cb B a) (h' : Cb B b) : Cb B (a ++ b) := fun e he => (List.mem_append.mp he).elim (h e) (h' e)
theorem Cb.und {B : Nat} (h : Cb B a) : Cb B (undoneS a) := fun e he => by
  obtain ⟨u, hu, rfl⟩ := List.mem_map.mp he
  have := h u (List.mem_reverse.mp hu)
  simpa using this
end
/-- the version of a row -/
abbrev VerA (K : PySem.W.Frag) (CV CR CT o t : Addr) (ks : List Str) (ps : List (Str × Str)) (R : List (Str × Int)) (H : Hp) : Prop := VerR K CV CR CT o t ks ps (layersS ks ps R) H
end L2.Und
end

section
set_option Elab.async false
set_option linter.all false
set_option maxRecDepth 100000
set_option maxHeartbeats 1000000
namespace L2.Und
open PySem PySem.Spec PyProof.Rows _root_.Und
open L2.KS SX
/-! ### what stays where the law draws -/
theorem keptTup {H H' : Hp} {d c t : Addr} {xs : List V} (k : Kept d c H H') (D : Deal H d c) (h : H t = some (.tup xs)) : H' t = some (.tup xs) := by
  obtain ⟨_, us, m, hd, hc, _⟩ := D
  exact k _ _ (fun z => by rw [z, hd] at h; cases h) (fun z => by rw [z, hc] at h; cases h) h
theorem keptPairs {H H' : Hp} {d c : Addr} {L : PA2'} (k : Kept d c H H') (D : Deal H d c) (h : PairsAt H L) : PairsAt H' L := fun e he => keptTup k D (h e he)
/-- pairs as the law draws them: of the kinds, not of one twice -/
def PairsIn (ks : List Str) (l : List (Str × Str)) : Prop := ∀ p ∈ l, p.1 ∈ ks ∧ p.2 ∈ ks ∧ p.1 ≠ p.2
end L2.Und
end

section
set_option Elab.async false
set_option linter.all false
set_option maxRecDepth 100000
set_option maxHeartbeats 1000000
namespace L2.Und
open PySem PySem.Spec PyProof.Rows _root_.Und
/-! ### t[::-1] of any tuple -/
theorem fm_same {α β : Type} {f g : α → Option β} : ∀ {l : List α}, (∀ x ∈ l, f x = g x) → l.filterMap f = l.filterMap g
  | [], _ => rfl
  | x :: l, h => by
    rw [List.filterMap_cons, List.filterMap_cons, h x List.mem_cons_self, fm_same fun y hy => h y (List.mem_cons_of_mem _ hy)]
theorem pickBack (its : List Value) : ((List.range its.length).filterMap fun (k : Nat) => its.toArray[((its.length : Int) - 1 + (k : Int) * (-1)).toNat]?) = its.reverse := by
  have e1 : ((List.range its.length).filterMap fun (k : Nat) => its.toArray[((its.length : Int) - 1 + (k : Int) * (-1)).toNat]?) = ((List.range its.length).map fun k => its.length - 1 - k).filterMap (its.toArray[·]?) := by
    rw [List.filterMap_map]
    refine fm_same fun k hk => ?_
    have := List.mem_range.mp hk
    show its.toArray[_]? = its.toArray[its.length - 1 - k]?
    congr 1
    omega
  rw [e1, PySem.W.krv_range, List.filterMap_reverse]
  have e2 := PySem.W.krv_all its.toArray
  rw [List.size_toArray] at e2
  rw [e2]
theorem placesBack (n : Nat) : Builtin.Slice.slicePlaces ((n : Int) - 1) (-1) (-1) = n := by
  unfold Builtin.Slice.slicePlaces
  rw [if_neg (by decide)]
  by_cases h : (n : Int) - 1 > -1
  · rw [if_pos h, show (- -1 : Int) = 1 by decide, Int.ediv_one]
    omega
  · rw [if_neg h]
    omega
section
variable {prog : Program} {w : World} {A : Around} {E : Value → Shared → Prop} {s : Shared} {t sl : Addr} {its : List Value} {vl vu vs : Value}
theorem backPartsN {n : Nat} {Q : Int × Int × Nat → Shared → Prop} (hs : s.heap.IsSliceOf sl vl vu vs) (pl : IsPart vl none) (pu : IsPart vu none) (pk : IsPart vs (some (-1))) (h : Q ((n : Int) - 1, -1, n) s) :
    wpAny (model prog w) A (Builtin.Slice.sliceApplied (.ref sl) (pure (n : Int))) Q E s := by
  obtain ⟨ob, ho, _, hd⟩ := id hs
  unfold Builtin.Slice.sliceApplied Builtin.Slice.sliceFields
  have f0 : ∀ {R : Value → Shared → Prop}, R vl s → wpAny (model prog w) A (field (.ref sl) 0) R E s := fun r => wpAny_field ho hd rfl r
  have f1 : ∀ {R : Value → Shared → Prop}, R vu s → wpAny (model prog w) A (field (.ref sl) 1) R E s := fun r => wpAny_field ho hd rfl r
  have f2 : ∀ {R : Value → Shared → Prop}, R vs s → wpAny (model prog w) A (field (.ref sl) 2) R E s := fun r => wpAny_field ho hd rfl r
  refine wpAny_bind (wpAny_bind (f0 (wpAny_bind (f1 (wpAny_bind (f2 (wpAny_pure ?_)))))))
  refine wpAny_bind (HT.slicePart_ pk ?_)
  show wpAny _ _ (if ((-1 : Int) == 0) = true then _ else _) _ _ s
  rw [if_neg (by decide)]
  refine wpAny_bind (HT.slicePart_ pl (wpAny_bind (HT.slicePart_ pu (wpAny_bind (wpAny_pure ?_)))))
  refine wpAny_pure ?_
  show Q ((n : Int) - 1, -1, Builtin.Slice.slicePlaces ((n : Int) - 1) (-1) (-1)) s
  rw [placesBack]
  exact h
theorem getBackN {Q : Value → Shared → Prop} (ht : IsTup s.heap t its.toArray) (hz : its.length ≤ sizeLine) (hs : s.heap.IsSliceOf sl vl vu vs) (pl : IsPart vl none) (pu : IsPart vu none) (pk : IsPart vs (some (-1)))
    (h : Q (.ref s.heap.objs.size) { s with heap := s.heap.push { cls := .type "tuple", data := .seq its.reverse.toArray } }) : wpAny (model prog w) A (getItem (.ref t) (.ref sl)) Q E s := by
  obtain ⟨ob, ho, hc, _⟩ := id hs
  have ty : s.TypeIs (.ref sl) "slice" := ⟨ob, ho, hc⟩
  unfold getItem
  apply wpAny_holding
  refine wpAny_bind (wpAny_sequenceKey ht.typeIs (by decide) (wpAny_bind (wpAny_callSpecial?_slot (name := Str.ofString "__getitem__") ht.typeIs PyProof.Rows.slot_tuple_getitem ?_)))
  refine wpAny_call_entry PyProof.Rows.slot_tuple_getitem ht.typeIs entry_tuple_getitem ?_ (args_tuple_getitem _ _)
  show wpAny _ _ (Builtin.Tuple.tupleItemsOf (.ref t) >>= _) _ _ s
  refine wpAny_bind (tupleItemsOf_ ht (wpAny_bind (wpAny_typeOf ty ?_)))
  rw [if_pos (by decide)]
  rw [List.size_toArray]
  refine wpAny_bind (backPartsN (n := its.length) hs pl pu pk ?_)
  dsimp only
  rw [if_neg (by simp), pickBack]
  refine wpAny_bind (m := Builtin.Tuple.tupleExact _) (wpAny_newObj_type (wpAny_pure ⟨_, rfl, wpAny_pure h⟩) (by show its.reverse.toArray.size ≤ sizeLine; rw [List.size_toArray, List.length_reverse]; exact hz))
end
def tRevTN (K : PySem.W.Frag) (te : TE) : TE := fun σ H Q => te σ H fun z H1 => ∃ (a : Addr) (xs : List V), z = .ref a ∧ SqT K H1 a xs ∧ ∀ p, H1 p = none → Q (.ref p) (upd H1 p (.tup xs.reverse))
theorem pe_revTN {X : Cx} {e : Expr} {te : TE} {k : Nat} {q1 q2 q3 pos : Pos} (he : PE X e te) : PE X (.Subscript e (.Slice none none (some (.UnaryOp .USub (.Constant (.int 1) k q1) q2)) q3) pos) (tRevTN X.K te) := by
  constructor
  intro pins s σ H Q I h
  refine Subscript_ (thn (he.run pins s σ H _ I h) fun v s1 z => ?_)
  obtain ⟨_, H1, I1, r1, a, xs, rfl, hx, q⟩ := z
  obtain rfl : v = Value.ref a := r1
  have step : PO X (some (.UnaryOp .USub (.Constant (.int 1) k q1) q2)) (tPart (tUn (rU fun i => .int (-i)) (tC (.int 1)))) := po_some (pe_un un_neg pe_int)
  refine wpAny_Slice (thn (po_none.run pins s1 σ H1 (fun o H2 => o = none ∧ H2 = H1) I1 ⟨rfl, rfl⟩) fun vl s2 z => ?_)
  obtain ⟨_, H2, I2, pl, rfl, e2⟩ := z
  rw [e2] at I2
  refine thn (po_none.run pins s2 σ _ (fun o H3 => o = none ∧ H3 = H1) I2 ⟨rfl, rfl⟩) fun vu s3 z => ?_
  obtain ⟨_, H3, I3, pu, rfl, e3⟩ := z
  rw [e3] at I3
  refine thn (step.run pins s3 σ _ (fun o H4 => o = some (-1) ∧ H4 = H1) I3 ⟨1, rfl, -1, rfl, rfl, rfl⟩) fun vk s4 z => ?_
  obtain ⟨_, H4, I4, pk, rfl, e4⟩ := z
  rw [e4] at I4
  obtain ⟨s5, e5⟩ : ∃ s5 : Shared, s5 = { s4 with heap := s4.heap.push { cls := .type "slice", data := .fields #[vl, vu, vk] } } := ⟨_, rfl⟩
  have I5 : Inv X pins σ H1 s5 := e5 ▸ I4.kept (t' := s4.toks) fun b ob q => Heap.get?_push_of_some _ q
  obtain ⟨its, r, ht, hz⟩ := I5.tuple hx
  show wpAny (model X.prog X.w) X.A (subscriptTail e (.Slice none none (some (.UnaryOp .USub (.Constant (.int 1) k q1) q2)) q3) (.ref a) (.ref s4.heap.objs.size)) (EP X pins σ Q) X.xe { s4 with heap := s4.heap.push { cls := .type "slice", data := .fields #[vl, vu, vk] } }
  rw [← e5]
  refine tail_any (ops := [.ref a, .ref s4.heap.objs.size]) ht.typeIs PyProof.Rows.slot_tuple_getitem.lookup ?_ (by with_unfolding_all rfl)
  have lz : its.length ≤ sizeLine := by rw [← r.length]; exact hz
  refine getBackN ht lz (e5 ▸ Heap.IsSliceOf.new _ vl vu vk) pl pu pk ?_
  have new : H1 s5.heap.objs.size = none := I5.hok.fresh (Nat.le_refl _)
  refine ⟨.ref s5.heap.objs.size, _, I5.laid (t' := s5.toks) (o := .tup xs.reverse) (fun b ob q => Heap.get?_push_of_some _ q) (Nat.le_refl _) ?_, rfl, q _ new⟩
  exact ⟨by show xs.reverse.length ≤ sizeLine; rw [List.length_reverse]; exact hz, its.reverse, r.reverse, IsTup.new _ _⟩
end L2.Und
end

section
set_option Elab.async false
set_option linter.all false
set_option maxRecDepth 100000
set_option maxHeartbeats 1000000
namespace L2.Und
open PySem PySem.Spec PyProof.Rows _root_.Und
open L2.KS
open PySem.W (findIn keepIn typeIn subIn)
/-! ### ~ of rows -/
abbrev sRowInv : Stmt := clsPart (topS 33) 11
theorem scRowInv : FnScope ["self", "kind", "count"] ["self"] (defScope sRowInv) := ⟨rfl, rfl, rfl, by decide +kernel, rfl, by decide +kernel, by decide +kernel⟩
def spRInv (K : PySem.W.Frag) (C CT : Addr) : Sp := fun vs H Q _ => ∃ (o t : Addr) (ks : List Str) (ps : List (Str × Str)) (L : SyL), vs = [.ref o] ∧ RowR K C CT o t ks ps L H ∧ L.length < sizeLine ∧
  ∀ (o2 : Addr) (L' : SyL) (H' : Hp), Same H H' → sylsOf L' = undoneS (sylsOf L) → RowR K C CT o2 t ks ps L' H' → Q (.ref o2) H'
section
variable {P : Program} {w : World} {K : PySem.W.Frag} {mg : Str → Option Value} {base : Heap}
theorem okRInv {f fI C CT CU : Addr} {fd fdI : FuncData} (F : Fun K "__invert__" "Row.__invert__" sRowInv f fd) (c : Cls K C) (n1 : NoAttr K C "table") (n2 : NoAttr K C "syllables") (M : Mk K C fI)
    (GI : FnOk P w K mg base (L2.CX P w) 4 fI fdI ["self", "table", "syllables"] (spRowIni K C CT CU)) (mC : mg "Row" = some (.ref C)) (bI : Binds K fdI ["self", "table", "syllables"] []) :
    FnOk P w K mg base CX0 6 f fd ["self"] (spRInv K C CT) := by
  refine F.ok scRowInv (fun vs H Q E h => ?_) (fun cdv A outer s H vs Q E hr h => ?_)
  · obtain ⟨o, t, ks, ps, L, rfl, _⟩ := h
    rfl
  refine ⟨_, pss_one (ps_ret (pe_make M GI hr rfl mC bI .nil passNo (pa_cons (pe_fld (pv 0) rfl) (pa_cons
      (pe_lc (own := [("kind", 1), ("count", 2)]) (g := gTup K 2 (gCons (gName 1) (gCons (gName 2) gNil))) (tt := tYes) rfl scRowInv.nd (pi_tup (pe_revTN (pe_fld (pv 0) rfl))) (blkOk_by (N := ["self", "kind", "count"]) (sc := defScope sRowInv) (by decide +kernel))
        (fun _ _ _ _ _ => pg_tup rfl (pgs_cons (pg_name (i := 1) scRowInv.nd rfl (Or.inl rfl)) (pgs_cons (pg_name (i := 2) scRowInv.nd rfl (Or.inl rfl)) pgs_nil)))
        (fun _ _ _ _ _ => pts_nil) (fun _ _ _ _ _ => pe_tup (pa_cons (pv 1) (pa_cons (pe_un un_neg (pv 2)) pa_nil)))) pa_nil)))), ?_⟩
  obtain ⟨o, t, ks, ps, L, rfl, ⟨dx, sy, R⟩, hz, q⟩ := h
  have two : 2 ≤ sizeLine := by decide
  refine ⟨_, rfl, o, C, dx, _, _, rfl, R.obj, c, n1, rfl, _, rfl, o, C, dx, _, _, rfl, R.obj, c, n2, rfl, sy, _, rfl, R.syl, fun p hp => ?_⟩
  rw [← List.map_reverse]
  have s1 := sameNew (o := .tup (refsOf L.reverse)) hp
  have p1 : SqT K (upd H p (.tup (refsOf L.reverse))) p (refsOf L.reverse) := SqT.of upd_same
  generalize upd H p (.tup (refsOf L.reverse)) = H1 at s1 p1
  refine ⟨p, rfl, ⟨_, p1⟩, fun D hD => ?_⟩
  have ll : (refsOf L.reverse).length = L.length := by rw [List.length_map, List.length_reverse]
  refine lc_tup (K := K) (a := p) (xs := refsOf L.reverse) (fun i H' => Same H1 H' ∧ ∃ L' : SyL, H' D = some (.lst (refsOf L')) ∧ sylsOf L' = (sylsOf (L.reverse.take i)).map (fun e => (e.1, -e.2)) ∧ Syls K H' L') ⟨sameNew hD, [], upd_same, rfl, fun e he => (nomatch he)⟩ (fun i H' _ h => Same.tup h.1 p1) ?_ ?_
  · rintro i x H2 hx ⟨s2, L', eD, eL, sL⟩
    obtain ⟨e, he, rfl⟩ := refs_at hx
    have em : e ∈ L := List.mem_reverse.mp (List.mem_of_getElem? he)
    have lt : i < L.length := by
      have := (List.getElem?_eq_some_iff.mp he).1
      rwa [List.length_reverse] at this
    have tk : L.reverse.take (i + 1) = L.reverse.take i ++ [e] := by rw [List.take_succ, he]; rfl
    have lL : L'.length = i := by
      have z := congrArg List.length eL
      rw [List.length_map, List.length_map, List.length_map, List.length_take, List.length_reverse] at z
      omega
    refine ⟨e.1, _, rfl, Same.tup (s1.trans s2) (R.each e em), rfl, _, _, rfl, _, _, rfl, rfl, rfl, _, rfl, _, rfl, _, rfl, two, fun u hu => ?_⟩
    have s3 := sameNew (o := .tup [V.str e.2.1, .int (-e.2.2)]) hu
    have e3 := s3 _ _ eD
    have uD : u ≠ D := fun z => by rw [z, eD] at hu; cases hu
    refine ⟨_, e3, by rw [List.length_map, lL]; omega, Same.upd (s2.trans s3) hD, L' ++ [(u, e.2.1, -e.2.2)], ?_, ?_, ?_⟩
    · rw [upd_same]
      show _ = some (HO.lst (List.map _ _))
      rw [List.map_append]
      rfl
    · rw [tk]
      show List.map _ _ = List.map _ (List.map _ _)
      rw [List.map_append, List.map_append, List.map_append]
      have eL : List.map (·.2) L' = List.map (fun e => (e.1, -e.2)) (List.map (·.2) (L.reverse.take i)) := eL
      rw [eL]
      rfl
    · have lk : SameL (upd H2 u (.tup [V.str e.2.1, .int (-e.2.2)])) (upd (upd H2 u (.tup [V.str e.2.1, .int (-e.2.2)])) D (.lst (refsOf L' ++ [V.ref u]))) := SameL.upd e3
      intro g hg
      rcases List.mem_append.mp hg with hg | hg
      · exact sqT_like lk (Same.tup s3 (sL g hg))
      · rw [List.mem_singleton.mp hg]
        exact sqT_like lk (SqT.of upd_same)
  · rintro H2 ⟨s2, L', eD, eL, sL⟩
    rw [ll] at eL
    have eR : L.reverse.take L.length = L.reverse := List.take_of_length_le (by rw [List.length_reverse]; exact Nat.le_refl _)
    rw [eR] at eL
    have eU : sylsOf L' = undoneS (sylsOf L) := by
      rw [eL]
      unfold undoneS
      show List.map _ (List.map _ _) = List.map _ (List.reverse (List.map _ _))
      rw [List.map_reverse]
    have kn : ∀ e ∈ L', e.2.1 ∈ ks := fun e he => by
      have z : e.2 ∈ sylsOf L' := List.mem_map.mpr ⟨e, he, rfl⟩
      rw [eU] at z
      obtain ⟨g, hg, ge⟩ := List.mem_map.mp z
      obtain ⟨y, hy, rfl⟩ := List.mem_map.mp (List.mem_reverse.mp hg)
      rw [← ge]
      exact R.known y hy
    have lL : L'.length = L.length := by
      have z := congrArg List.length eL
      rw [List.length_map, List.length_map, List.length_map, List.length_reverse] at z
      exact z
    have s12 := s1.trans s2
    intro x d hx hd ne
    have s3 := same_made (C := C) hx hd ne
    have s13 := s12.trans s3
    refine ⟨x, t, D, d, ks, ps, L', rfl, upd_same, R.tab.same s13, .inl (SqL.of (s3 _ _ eD)), sL.same s3, by omega, fun _ H' sy' fo r => ⟨rfl, q x L' H' (s12.trans (same_off hx s3 fo)) eU ⟨d, sy', r⟩⟩, fun y hy => ?_⟩
    rw [unkn_sub kn] at hy
    cases hy
end
end L2.Und
end

section
set_option Elab.async false
set_option linter.all false
set_option maxRecDepth 100000
set_option maxHeartbeats 1000000
namespace L2.Und
open PySem PySem.Spec PyProof.Rows _root_.Und
open PySem.W (findIn keepIn typeIn subIn)
/-! ### raise X() of an own class without fields -/
theorem pmkNone {X : Cx} {C : Addr} {tl : List Value} {B newId initId : String} {x : Str} {p pos : Pos} (F : ExcBaseFacts B newId initId tl) (ok : PySem.W.excIn X.K C tl newId = true) (gC : X.mg x = some (.ref C)) (kC : keepIn X.K (.ref C) = true) (r : Raises X (.ref C)) (hg : Gl X x)
    (hdb : (x == ("__debug__" : Str)) = false := by decide) : PMk X (.Call (.Name x p) [] [] pos) (fun _ H Q => Q (.ref C) none H) := by
  intro pins s σ H Q I q
  have kin := I.kIn
  apply wpAny_Call_Name_kw
  refine ld_glob I hg gC (PySem.W.callWith_K0 kin kC ?_) hdb
  obtain ⟨bm, N, nm, qn, bs, hdct, sn, sub, ab, col, dd, k0, k1, k2, k3, k5, mN, cls, hN, noIni, own⟩ := exc_obj kin ok
  exact wpAny_call_exc_subT F own cls hN noIni (fun h' e made => mk_of I made r q (I.hok.gone made.new)) (Nat.zero_le _)
end L2.Und
end

section
set_option Elab.async false
set_option linter.all false
set_option maxRecDepth 100000
set_option maxHeartbeats 1000000
namespace L2.Und
open PySem PySem.Spec PyProof.Rows _root_.Und
open L2.KS
open PySem.W (findIn keepIn typeIn subIn)
/-! ### require_same_table -/
abbrev sSameT : Stmt := topS 30
theorem scSameT : FnScope ["one", "other"] ["one", "other"] (defScope sSameT) := ⟨rfl, rfl, rfl, by decide +kernel, rfl, by decide +kernel, by decide +kernel⟩
/-- an error class without fields, as a raise wants it -/
structure Err0 (P : Program) (w : World) (K : PySem.W.Frag) (mg : Str → Option Value) (x : Str) (C : Addr) : Prop where
  g : mg x = some (.ref C)
  k : keepIn K (.ref C) = true
  sub : subIn K (.ref C) (.type "BaseException") = some true
  ty : typeIn K (.ref C) = some (.type "type")
  made : ∃ (B newId initId : String) (tl : List Value), ExcBaseFacts B newId initId tl ∧ PySem.W.excIn K C tl newId = true
/-- what has a table as its first field -/
def HasTab (K : PySem.W.Frag) (o t : Addr) (H : Hp) : Prop := ∃ C dx fs, H o = some (.ins C dx (("table", .ref t) :: fs)) ∧ Cls K C ∧ NoAttr K C "table"
def spSameT (K : PySem.W.Frag) (CT CO : Addr) : Sp := fun vs H Q E => ∃ (a b t t' : Addr) (ks ks' : List Str) (ps ps' : List (Str × Str)), vs = [.ref a, .ref b] ∧ HasTab K a t H ∧ HasTab K b t' H ∧ TabR K CT t ks ps H ∧ TabR K CT t' ks' ps' H ∧
  (srtTxt ks = srtTxt ks' ∧ pairsOf ps = pairsOf ps' → Q .non H) ∧ (¬ (srtTxt ks = srtTxt ks' ∧ pairsOf ps = pairsOf ps') → E (.ref CO) none H)
section
variable {P : Program} {w : World} {K : PySem.W.Frag} {mg : Str → Option Value} {base : Heap}
theorem okSameT {f fE CT CO : Addr} {fd fdE : FuncData} (F : Fun K "require_same_table" "require_same_table" sSameT f fd) (ne : NoNe K CT) (hE : Meth K CT "__eq__" fE) (GE : FnOk P w K mg base CX0 1 fE fdE ["self", "other"] (spEqT K CT)) (bE : Binds K fdE ["self", "other"] []) (T : Err0 P w K mg "OtherTable" CO) :
    FnOk P w K mg base (L2.CX P w) 3 f fd ["one", "other"] (spSameT K CT CO) := by
  refine F.okX scSameT (fun vs H Q E h => ?_) (fun cdv A outer s H vs Q E hr h => ?_)
  · obtain ⟨a, b, t, t', ks, ks', ps, ps', rfl, _⟩ := h
    rfl
  have hu1 : (A.deeper (envOfC "require_same_table" (defScope sSameT) s.heap.objs.size f cdv)).units + 1 < cLine := by have := hr.un; omega
  obtain ⟨B, newId, initId, tl, FB, xi⟩ := T.made
  refine ⟨_, pss_one (ps_if (pt_cmpR (op_neO (E := E0) hE ne GE hr bE pass0 hu1) (pe_fld (pv 0) rfl) (pe_fld (pv 1) rfl) (nomark _)) (pss_one (ps_raise rfl (takes_of rfl rfl rfl rfl) (pmkNone FB xi T.g T.k (raises_own T.sub T.ty) rfl))) pss_nil), ?_⟩
  obtain ⟨a, b, t, t', ks, ks', ps, ps', rfl, ⟨C, dx, fs, ea, c, n1⟩, ⟨C', dx', fs', eb, c', n1'⟩, T, T', q0, qE⟩ := h
  refine ⟨_, rfl, a, C, dx, _, _, rfl, ea, c, n1, rfl, _, rfl, b, C', dx', _, _, rfl, eb, c', n1', rfl, neO_of T T' ⟨_, rfl, ?_⟩⟩
  by_cases h1 : srtTxt ks = srtTxt ks' ∧ pairsOf ps = pairsOf ps'
  · rw [decide_eq_true h1]
    exact iteF (q0 h1)
  · rw [decide_eq_false h1]
    exact iteT (qE h1)
end
end L2.Und
end

section
set_option Elab.async false
set_option linter.all false
set_option maxRecDepth 100000
set_option maxHeartbeats 1000000
namespace L2.Und
open PySem PySem.Spec PyProof.Rows _root_.Und
open L2.KS
open PySem.W (findIn keepIn typeIn subIn)
/-! ### + of rows -/
abbrev sRowAdd : Stmt := clsPart (topS 33) 10
theorem scRowAdd : FnScope ["self", "other"] ["self", "other"] (defScope sRowAdd) := ⟨rfl, rfl, rfl, by decide +kernel, rfl, by decide +kernel, by decide +kernel⟩
def spRAdd (K : PySem.W.Frag) (C CT CO : Addr) : Sp := fun vs H Q E => ∃ (o t b t' : Addr) (ks ks' : List Str) (ps ps' : List (Str × Str)) (L L' : SyL), vs = [.ref o, .ref b] ∧ RowR K C CT o t ks ps L H ∧ RowR K C CT b t' ks' ps' L' H ∧ L.length + L'.length ≤ sizeLine ∧
  (srtTxt ks = srtTxt ks' ∧ pairsOf ps = pairsOf ps' → ∀ (o2 : Addr) (H' : Hp), Same H H' → RowR K C CT o2 t ks ps (L ++ L') H' → Q (.ref o2) H') ∧
  (¬ (srtTxt ks = srtTxt ks' ∧ pairsOf ps = pairsOf ps') → E (.ref CO) none H)
section
variable {P : Program} {w : World} {K : PySem.W.Frag} {mg : Str → Option Value} {base : Heap}
theorem okRAdd {f fI fS C CT CU CO : Addr} {fd fdI fdS : FuncData} (F : Fun K "__add__" "Row.__add__" sRowAdd f fd) (c : Cls K C) (n1 : NoAttr K C "table") (n2 : NoAttr K C "syllables") (M : Mk K C fI)
    (GI : FnOk P w K mg base (L2.CX P w) 4 fI fdI ["self", "table", "syllables"] (spRowIni K C CT CU)) (mC : mg "Row" = some (.ref C)) (bI : Binds K fdI ["self", "table", "syllables"] [])
    (GS : FnOk P w K mg base (L2.CX P w) 3 fS fdS ["one", "other"] (spSameT K CT CO)) (mS : mg "require_same_table" = some (.ref fS)) (kS : keepIn K (.ref fS) = true) (bS : Binds K fdS ["one", "other"] []) :
    FnOk P w K mg base (L2.CX P w) 6 f fd ["self", "other"] (spRAdd K C CT CO) := by
  refine F.okX scRowAdd (fun vs H Q E h => ?_) (fun cdv A outer s H vs Q E hr h => ?_)
  · obtain ⟨o, t, b, t', ks, ks', ps, ps', L, L', rfl, _⟩ := h
    rfl
  have hr3 : Room 3 (A.deeper (envOfC "Row.__add__" (defScope sRowAdd) s.heap.objs.size f cdv)) := hr.mono (by decide)
  refine ⟨_, pss_cons (ps_expr (pe_callS GS hr3 rfl mS kS bS (fun σ => passAt (takes_of rfl rfl rfl rfl) σ) (pa_cons (pv 0) (pa_cons (pv 1) pa_nil))))
    (pss_one (ps_ret (peMakeS M GI hr rfl mC bI .nil (fun σ => passAt (takes_of rfl rfl rfl rfl) σ) (pa_cons (pe_fld (pv 0) rfl) (pa_cons (pe_lst (StX.pa_star (pe_fld (pv 0) rfl) (StX.pa_star (pe_fld (pv 1) rfl) pa_nil))) pa_nil))))), ?_⟩
  obtain ⟨o, t, b, t', ks, ks', ps, ps', L, L', rfl, ⟨dx, sy, R⟩, ⟨dx', sy', R'⟩, hz, q0, qE⟩ := h
  refine ⟨_, rfl, _, rfl, o, b, t, t', ks, ks', ps, ps', rfl, ⟨C, dx, _, R.obj, c, n1⟩, ⟨C, dx', _, R'.obj, c, n1⟩, R.tab, R'.tab, fun h1 => ?_, qE⟩
  refine ⟨_, rfl, o, C, dx, _, _, rfl, R.obj, c, n1, rfl, _, rfl, o, C, dx, _, _, rfl, R.obj, c, n2, rfl, sy, _, rfl, .inl R.syl, _, rfl, b, C, dx', _, _, rfl, R'.obj, c, n2, rfl, sy', _, rfl, .inl R'.syl, ?_⟩
  dsimp only [tNil]
  rw [List.append_nil, ← List.map_append]
  refine ⟨by rw [List.length_map, List.length_append]; exact hz, fun u hu => ?_⟩
  have s1 := sameNew (o := .lst (refsOf (L ++ L'))) hu
  have u1 : SqL K (upd H u (.lst (refsOf (L ++ L')))) u (refsOf (L ++ L')) := SqL.of upd_same
  generalize upd H u (.lst (refsOf (L ++ L'))) = H1 at s1 u1
  have kn : ∀ e ∈ L ++ L', e.2.1 ∈ ks := fun e he => by
    rcases List.mem_append.mp he with he | he
    · exact R.known e he
    · have z := R'.known e he
      rw [← mem_srtTxt, ← h1.1] at z
      exact mem_srtTxt.mp z
  have sL : Syls K H (L ++ L') := fun e he => (List.mem_append.mp he).elim (R.each e) (R'.each e)
  intro x d hx hd nxd
  have s2 := same_made (C := C) hx hd nxd
  have s12 := s1.trans s2
  refine ⟨x, t, u, d, ks, ps, L ++ L', rfl, upd_same, R.tab.same s12, .inl (s2.seq u1), sL.same s12, by rw [List.length_append]; exact hz, fun _ H' sy2 fo r => ⟨rfl, q0 h1 x H' (s1.trans (same_off hx s2 fo)) ⟨d, sy2, r⟩⟩, fun y hy => ?_⟩
  rw [unkn_sub kn] at hy
  cases hy
end
end L2.Und
end

section
set_option Elab.async false
set_option linter.all false
set_option maxRecDepth 100000
set_option maxHeartbeats 1000000
namespace L2.Und
open PySem PySem.Spec PyProof.Rows _root_.Und ClX
open PySem.W (findIn keepIn typeIn subIn)
/-! ### C.m(..), m a classmethod of the own class C, what is raised wished for at the slots -/
section
variable {X : Cx} {CX : CXT} {k : Nat} {C p g : Addr} {mc : Value} {fd : FuncData} {ps : List Str} {sp : Sp} {E : St → XK} {o e : Expr} {es : List Expr} {m : Str} {pos apos : Pos} {ta : TE} {t : TA} {pl : Sem Bool}
theorem runCMS {pins : List (Addr × Obj)} {σ : St} {H : Hp} {s : Shared} {q : Addr} {Q : VK} {us : List Value} {vs : List V} (F : FnOk X.prog X.w X.K X.mg X.base CX k g fd ps sp) (hr : Room k X.A) (hb : Binds X.K fd ps []) (hx : PassesAt CX X σ (E σ))
    (I : Inv X ((q, PySem.W.methodObj (.ref g) (.ref C)) :: pins) σ H s) (r : Vals vs us) (h : sp (.ref C :: vs) H Q (E σ)) : wpAny (model X.prog X.w) X.A (call (.ref q) us) (EP X pins σ Q) X.xe s := by
  have bind := hb s (.ref C :: us) I.kIn (by rw [List.append_nil, ← F.len _ _ _ _ h, List.length_cons, List.length_cons, r.length])
  rw [List.append_nil] at bind
  have z : wpAny (model X.prog X.w) X.A (call (.ref q) us) (EP X ((q, PySem.W.methodObj (.ref g) (.ref C)) :: pins) σ Q) X.xe s := by
    refine wpAny_call (PySem.W.method_call (pin_at I) ?_)
    refine codeAny_mono (F.run X.A X.stack s H ⟨.ref C :: us, []⟩ (.ref C :: us) (.ref C :: vs) Q (E σ) hr I.env0 bind (.cons rfl r) h) fun res s' z => ?_
    match res, z with
    | .error e, z => exact hx _ H s e s' I z
    | .ok (.ret u), z => exact I.after z
  exact thn z fun _ _ y => unpinE y
def tCMethS (C : Addr) (sp : Sp) (E : St → XK) (ta : TE) (t : TA) : TE := fun σ H Q => ta σ H fun x H1 => x = .ref C ∧ t σ H1 fun vs H2 => sp (.ref C :: vs) H2 Q (E σ)
theorem peCMethS (he : PE X o ta) (r : CRead X.K C mc) (c : CMet X.K C mc m p g) (F : FnOk X.prog X.w X.K X.mg X.base CX k g fd ps sp) (hr : Room k X.A) (hb : Binds X.K fd ps []) (hx : ∀ σ, PassesAt CX X σ (E σ)) (ha : PA X (e :: es) t)
    (hst : starEach (e :: es) X.env = (false, eval e X.env) :: starEach es X.env := by rfl) (hpl : (backTo pos (starEach es X.env)).any (·.1) = false := by rfl)
    (ht : eval (.Call (.Attribute o m apos) (e :: es) [] pos) X.env = (do
      let ov ← eval o X.env
      standAt apos.atName
      let (f, first) ← holding [ov] (getMethod ov m pl)
      callWith pos f first (backTo pos (starEach (e :: es) X.env)) (backToKw pos (keywordEach [] X.env))) := by rfl) :
    PE X (.Call (.Attribute o m apos) (e :: es) [] pos) (tCMethS C sp E ta t) := by
  refine ⟨fun pins s σ H Q I h => ?_⟩
  refine PySem.W.methodCall_KW (pl := pl) (thn (he.run pins s σ H _ I h) fun u s1 ⟨x, H1, I1, rx, ex, q⟩ => ?_) ht
  subst ex
  obtain rfl : u = Value.ref C := rx
  refine getmethcm_ok I1 r c fun s2 I2 => ?_
  refine callwith_cm I2 (base_none I1 (Nat.le_refl _)) c.fi (thn (ha.run pos _ s2 σ H1 _ I2 q) fun us s3 ⟨vs, H2, I3, rv, q2⟩ => ⟨⟨pin_at I3, I3.kIn⟩, ?_⟩) hst hpl
  exact runCMS F hr hb (hx σ) I3 rv q2
end
end L2.Und
end

section
set_option Elab.async false
set_option linter.all false
set_option maxRecDepth 100000
set_option maxHeartbeats 1000000
namespace L2.Und
open PySem PySem.Spec PyProof.Rows _root_.Und ClX
open L2.KS
open PySem.W (findIn keepIn typeIn subIn)
/-! ### ~ and * of versions -/
abbrev sVerInv : Stmt := clsPart (topS 49) 12
theorem scVerInv : FnScope ["self"] ["self"] (defScope sVerInv) := ⟨rfl, rfl, rfl, by decide +kernel, rfl, by decide +kernel, by decide +kernel⟩
abbrev sVerMul : Stmt := clsPart (topS 49) 11
theorem scVerMul : FnScope ["self", "other"] ["self", "other"] (defScope sVerMul) := ⟨rfl, rfl, rfl, by decide +kernel, rfl, by decide +kernel, by decide +kernel⟩
def spVInv (K : PySem.W.Frag) (CV CR CT CM : Addr) : Sp := fun vs H Q E => ∃ (o t : Addr) (ks : List Str) (ps : List (Str × Str)) (LS : List (List (Str × Int))), vs = [.ref o] ∧ VerR K CV CR CT o t ks ps LS H ∧ LS.flatten.length ≤ 5000 ∧
  ((formS ks ps (undoneS LS.flatten)).length ≤ 1000 → ∀ x H', Same H H' → VerR K CV CR CT x t ks ps (layersS ks ps (undoneS LS.flatten)) H' → Q (.ref x) H') ∧
  (1000 < (formS ks ps (undoneS LS.flatten)).length → ∀ (d : Addr) (H' : Hp), Same H H' → H' d = some (.xd [("count", .int 1000)]) → E (.ref CM) (some d) H')
def spVMul (K : PySem.W.Frag) (CV CR CT CO CM : Addr) : Sp := fun vs H Q E => ∃ (o t b t' : Addr) (ks ks' : List Str) (ps ps' : List (Str × Str)) (LS LS' : List (List (Str × Int))), vs = [.ref o, .ref b] ∧ VerR K CV CR CT o t ks ps LS H ∧ VerR K CV CR CT b t' ks' ps' LS' H ∧ LS.flatten.length + LS'.flatten.length ≤ 5000 ∧
  (srtTxt ks = srtTxt ks' ∧ pairsOf ps = pairsOf ps' →
    ((formS ks ps (LS.flatten ++ LS'.flatten)).length ≤ 1000 → ∀ x H', Same H H' → VerR K CV CR CT x t ks ps (layersS ks ps (LS.flatten ++ LS'.flatten)) H' → Q (.ref x) H') ∧
    (1000 < (formS ks ps (LS.flatten ++ LS'.flatten)).length → ∀ (d : Addr) (H' : Hp), Same H H' → H' d = some (.xd [("count", .int 1000)]) → E (.ref CM) (some d) H')) ∧
  (¬ (srtTxt ks = srtTxt ks' ∧ pairsOf ps = pairsOf ps') → E (.ref CO) none H)
section
variable {P : Program} {w : World} {K : PySem.W.Frag} {mg : Str → Option Value} {base : Heap}
theorem okVInv {f fV p fO CV CR CT CM : Addr} {mc : Value} {fd fdV fdO : FuncData} (F : Fun K "__invert__" "Version.__invert__" sVerInv f fd) (c : Cls K CV) (n5 : NoAttr K CV "row") (mV : mg "Version" = some (.ref CV))
    (hV : Meth K CR "__invert__" fV) (GV : FnOk P w K mg base CX0 6 fV fdV ["self"] (spRInv K CR CT)) (bV : Binds K fdV ["self"] [])
    (cR : CRead K CV mc) (cM : CMet K CV mc "of" p fO) (GO : FnOk P w K mg base (L2.CX P w) 8 fO fdO ["cls", "row"] (spVerOf K CV CR CT CM)) (bO : Binds K fdO ["cls", "row"] []) :
    FnOk P w K mg base (L2.CX P w) 9 f fd ["self"] (spVInv K CV CR CT CM) := by
  refine F.okX scVerInv (fun vs H Q E h => ?_) (fun cdv A outer s H vs Q E hr h => ?_)
  · obtain ⟨o, t, ks, ps, LS, rfl, _⟩ := h
    rfl
  have hr6 : Room 6 (A.deeper (envOfC "Version.__invert__" (defScope sVerInv) s.heap.objs.size f cdv)) := hr.mono (by decide)
  refine ⟨_, pss_one (ps_ret (peCMethS (pe_glob (v := .ref CV) rfl mV rfl) cR cM GO hr bO (fun σ => passAt (takes_of rfl rfl rfl rfl) σ) (pa_cons (peInvO (E := fun _ => E0) hV GV hr6 bV (fun _ => fun pins H s e s' I c => pass0 pins _ H s e s' I c) (pe_fld (pv 0) rfl)) pa_nil))), ?_⟩
  obtain ⟨o, t, ks, ps, LS, rfl, ⟨dx, sy, ly, kd, ro, la, FL, S, LY, KD, v⟩, l5, q, qE⟩ := h
  obtain ⟨dr, sr, R⟩ := id v.row
  have lF := flat_len v.form
  have sz : (5000 : Nat) < sizeLine := by decide
  refine ⟨rfl, _, rfl, o, CV, dx, _, _, rfl, v.obj, c, n5, rfl, ro, dr, _, rfl, R.obj, ro, t, ks, ps, FL, rfl, v.row, by omega, fun o2 L' H' s' eL R2 => ?_⟩
  rw [v.form] at eL
  have l2 : L'.length = LS.flatten.length := by
    have := congrArg List.length eL
    unfold undoneS at this
    rwa [List.length_map, List.length_map, List.length_reverse] at this
  refine ⟨o2, t, ks, ps, L', rfl, R2, by omega, fun l x H2 hx s2 v2 => ?_, fun l d H2 hd s2 e => ?_⟩
  · rw [eL] at l v2
    exact q l x H2 (s'.trans s2) v2
  · rw [eL] at l
    exact qE l d H2 (s'.trans s2) e
theorem okVMul {f fA p fO CV CR CT CO CM : Addr} {mc : Value} {fd fdA fdO : FuncData} (F : Fun K "__mul__" "Version.__mul__" sVerMul f fd) (c : Cls K CV) (n5 : NoAttr K CV "row") (mV : mg "Version" = some (.ref CV))
    (cRow : Cls K CR) (sf : PySem.W.selfFirst K CR = true) (hA : Meth K CR "__add__" fA) (GA : FnOk P w K mg base (L2.CX P w) 6 fA fdA ["self", "other"] (spRAdd K CR CT CO)) (bA : Binds K fdA ["self", "other"] [])
    (cR : CRead K CV mc) (cM : CMet K CV mc "of" p fO) (GO : FnOk P w K mg base (L2.CX P w) 8 fO fdO ["cls", "row"] (spVerOf K CV CR CT CM)) (bO : Binds K fdO ["cls", "row"] []) :
    FnOk P w K mg base (L2.CX P w) 9 f fd ["self", "other"] (spVMul K CV CR CT CO CM) := by
  refine F.okX scVerMul (fun vs H Q E h => ?_) (fun cdv A outer s H vs Q E hr h => ?_)
  · obtain ⟨o, t, b, t', ks, ks', ps, ps', LS, LS', rfl, _⟩ := h
    rfl
  have hr6 : Room 6 (A.deeper (envOfC "Version.__mul__" (defScope sVerMul) s.heap.objs.size f cdv)) := hr.mono (by decide)
  refine ⟨_, pss_one (ps_ret (peCMethS (pe_glob (v := .ref CV) rfl mV rfl) cR cM GO hr bO (fun σ => passAt (takes_of rfl rfl rfl rfl) σ) (pa_cons (peAddO sf hA GA hr6 bA (fun σ => passAt (takes_of rfl rfl rfl rfl) σ) (pe_fld (pv 0) rfl) (pe_fld (pv 1) rfl)) pa_nil))), ?_⟩
  obtain ⟨o, t, b, t', ks, ks', ps, ps', LS, LS', rfl, ⟨dx, sy, ly, kd, ro, la, FL, S, LY, KD, v⟩, ⟨dx', sy', ly', kd', ro', la', FL', S', LY', KD', v'⟩, l5, q, qO⟩ := h
  obtain ⟨dr, sr, R⟩ := id v.row
  obtain ⟨dr', sr', R'⟩ := id v'.row
  have lF := flat_len v.form
  have lF' := flat_len v'.form
  have sz : (5000 : Nat) < sizeLine := by decide
  have eL : sylsOf (FL ++ FL') = LS.flatten ++ LS'.flatten := by
    rw [← v.form, ← v'.form]
    exact List.map_append
  refine ⟨rfl, _, rfl, o, CV, dx, _, _, rfl, v.obj, c, n5, rfl, _, rfl, b, CV, dx', _, _, rfl, v'.obj, c, n5, rfl, ⟨ro', dr', _, rfl, R'.obj⟩, ro, dr, _, rfl, R.obj, ro, t, ro', t', ks, ks', ps, ps', FL, FL', rfl, v.row, v'.row, by omega, fun h1 o2 H' s' R2 => ⟨⟨o2, rfl⟩, ?_⟩, qO⟩
  refine ⟨o2, t, ks, ps, FL ++ FL', rfl, R2, by rw [List.length_append]; omega, fun l x H2 hx s2 v2 => ?_, fun l d H2 hd s2 e => ?_⟩
  · rw [eL] at l v2
    exact (q h1).1 l x H2 (s'.trans s2) v2
  · rw [eL] at l
    exact (q h1).2 l d H2 (s'.trans s2) e
end
end L2.Und
end

section
set_option Elab.async false
set_option linter.all false
set_option maxRecDepth 100000
set_option maxHeartbeats 4000000
namespace L2.Und
open PySem PySem.Spec PyProof.Rows _root_.Und
/-! ### a drawn count -/
abbrev sCount : Stmt := topS 64
abbrev nCount : List Str := ["_law_deal_here", "_law_form_here"]
theorem scCount : FnScope nCount ["_law_deal_here"] (defScope sCount) := ⟨rfl, rfl, rfl, by decide +kernel, rfl, by decide +kernel, by decide +kernel⟩
def spCount : Sp := fun vs H Q _ => ∃ (d c : Addr), vs = [.ref d] ∧ Deal H d c ∧ ∀ (r : Int) (H' : Hp), -10 ^ 18 ≤ r → r ≤ 10 ^ 18 → Deal H' d c → Kept d c H H' → Q (.int r) H'
section
variable {P : Program} {w : World} {K : PySem.W.Frag} {mg : Str → Option Value} {base : Heap}
theorem okCount {f fD : Addr} {fd fdD : FuncData} (F : Fun K "_law_count" "_law_count" sCount f fd)
    (GD : FnOk P w K mg base CX0 1 fD fdD ["_law_deal_here", "_law_many"] spDraw) (mD : mg "_law_draw" = some (.ref fD)) (kD : PySem.W.keepIn K (.ref fD) = true) (bD : Binds K fdD ["_law_deal_here", "_law_many"] []) :
    FnOk P w K mg base CX0 2 f fd ["_law_deal_here"] spCount := by
  refine F.ok scCount (fun vs H Q E h => ?_) (fun cdv A outer s H vs Q E hr h => ?_)
  · obtain ⟨d, c, rfl, _⟩ := h
    rfl
  refine ⟨_, pss_cons (ps_set (i := 1) scCount.nd rfl (Or.inl rfl) (pe_call GD hr rfl mD kD bD .nil pass0 (pa_cons (pv 0) (pa_cons pe_int pa_nil))))
    (pss_cons (ps_if (pt_cmpR op_eq (pv 1) pe_int (nomark _)) (pss_one (ps_ret (pe_ix ix_list (pe_lst (pa_cons pe_int (pa_cons (pe_op op_pow pe_int pe_int) (pa_cons (pe_op op_sub pe_int (pe_op op_pow pe_int pe_int)) (pa_cons pe_int (pa_cons pe_int (pa_cons (pe_op op_sub pe_int pe_int) pa_nil)))))))
        (pe_call GD hr rfl mD kD bD .nil pass0 (pa_cons (pv 0) (pa_cons pe_int pa_nil))) (fun _ _ => rfl)))) pss_nil)
    (pss_one (ps_ret (pe_ix ix_list (pe_lst (pa_cons pe_int (pa_cons (pe_op op_sub pe_int pe_int) (pa_cons pe_int (pa_cons (pe_op op_sub pe_int pe_int) (pa_cons pe_int (pa_cons (pe_op op_sub pe_int pe_int) (pa_cons pe_int (pa_cons (pe_op op_sub pe_int pe_int) pa_nil)))))))))
        (pe_op op_mod (pv 1) pe_int) (fun _ _ => rfl))))), ?_⟩
  obtain ⟨d, c, rfl, hD, q⟩ := h
  refine ⟨_, rfl, d, c, 16, rfl, hD, by decide, by decide, fun r H1 r0 r16 hD1 k1 => ⟨_, rfl, ?_⟩⟩
  refine ⟨rfl, _, rfl, ?_⟩
  refine ite2 (fun _ => ?_) (fun _ => ?_)
  · refine ⟨_, _, rfl, rfl, ⟨by decide, by decide, by decide⟩, _, _, rfl, rfl, ⟨by decide, by decide, by decide⟩, _, _, rfl, rfl, _, _, rfl, rfl, (by show 6 ≤ sizeLine; decide), fun p hp => ?_⟩
    have s1 := sameNew (o := .lst [V.int 0, .int (10 ^ (18 : Int).toNat), .int (0 - 10 ^ (18 : Int).toNat), .int 6, .int 12, .int (0 - 60)]) hp
    have hD2 := hD1.same s1
    refine ⟨_, rfl, d, c, 6, rfl, hD2, by decide, by decide, fun r2 H2 r20 r26 hD3 k3 => ?_⟩
    have p3 := k3 _ _ (hD1.ned hp) (hD1.nec hp) (upd_same (H := H1) (o := .lst [V.int 0, .int (10 ^ (18 : Int).toNat), .int (0 - 10 ^ (18 : Int).toNat), .int 6, .int 12, .int (0 - 60)]))
    have ch : ∃ v, atI [V.int 0, .int (10 ^ (18 : Int).toNat), .int (0 - 10 ^ (18 : Int).toNat), .int 6, .int 12, .int (0 - 60)] r2 = some (.int v) ∧ -10 ^ 18 ≤ v ∧ v ≤ 10 ^ 18 := by
      have : r2 = 0 ∨ r2 = 1 ∨ r2 = 2 ∨ r2 = 3 ∨ r2 = 4 ∨ r2 = 5 := by omega
      rcases this with rfl | rfl | rfl | rfl | rfl | rfl <;> exact ⟨_, rfl, by decide, by decide⟩
    obtain ⟨v, av, v0, v1⟩ := ch
    exact ⟨p, _, r2, _, rfl, rfl, SqL.of p3, av, q v H2 v0 v1 hD3 ((k1.trans (Kept.of s1)).trans k3)⟩
  · refine ⟨_, _, rfl, rfl, _, _, rfl, rfl, _, _, rfl, rfl, _, _, rfl, rfl, (by show 8 ≤ sizeLine; decide), fun p hp => ?_⟩
    have s1 := sameNew (o := .lst [V.int 1, .int (0 - 1), .int 1, .int (0 - 1), .int 2, .int (0 - 2), .int 3, .int (0 - 4)]) hp
    have ch : ∃ v, atI [V.int 1, .int (0 - 1), .int 1, .int (0 - 1), .int 2, .int (0 - 2), .int 3, .int (0 - 4)] (r % 8) = some (.int v) ∧ -10 ^ 18 ≤ v ∧ v ≤ 10 ^ 18 := by
      have : r % 8 = 0 ∨ r % 8 = 1 ∨ r % 8 = 2 ∨ r % 8 = 3 ∨ r % 8 = 4 ∨ r % 8 = 5 ∨ r % 8 = 6 ∨ r % 8 = 7 := by omega
      rcases this with z | z | z | z | z | z | z | z <;> rw [z] <;> exact ⟨_, rfl, by decide, by decide⟩
    obtain ⟨v, av, v0, v1⟩ := ch
    exact ⟨_, rfl, _, _, rfl, rfl, (by show (0 : Int) < 8; decide), p, _, _, _, rfl, rfl, SqL.of upd_same, av, q v _ v0 v1 (hD1.same s1) (k1.trans (Kept.of s1))⟩
end
end L2.Und
end

section
set_option Elab.async false
set_option linter.all false
set_option maxRecDepth 100000
set_option maxHeartbeats 4000000
namespace L2.Und
open PySem PySem.Spec PyProof.Rows _root_.Und
/-! ### a drawn row -/
theorem small200 {n : Nat} (h : n ≤ 1000) : ((n : Int)).natAbs < 2 ^ 200 := Nat.lt_of_le_of_lt (by rw [Int.natAbs_natCast]; exact h) (by decide)
abbrev sRow : Stmt := topS 65
abbrev nRow : List Str := ["_law_deal_here", "_law_kinds", "_law_many", "_law_found", "_law_turn", "_law_kind", "_law_count_here"]
theorem scRow : FnScope nRow ["_law_deal_here", "_law_kinds", "_law_many"] (defScope sRow) := ⟨rfl, rfl, rfl, by decide +kernel, rfl, by decide +kernel, by decide +kernel⟩
def SylsAt (H : Hp) (L : SyL) : Prop := ∀ e ∈ L, H e.1 = some (.tup [.str e.2.1, .int e.2.2])
theorem SylsAt.syls {K : PySem.W.Frag} {H : Hp} {L : SyL} (h : SylsAt H L) : Syls K H L := fun e he => SqT.of (h e he)
def GoodSyls (ks : List Str) (L : List (Str × Int)) : Prop := ∀ e ∈ L, e.1 ∈ ks ∧ -10 ^ 18 ≤ e.2 ∧ e.2 ≤ 10 ^ 18
/-- where the walk over the turns stands -/
structure RSt (ks : List Str) (H : Hp) (d c F0 : Addr) (i : Nat) (H' : Hp) (L : SyL) : Prop where
  deal : Deal H' d c
  kept : Kept d c H H'
  lst : H' F0 = some (.lst (refsOf L))
  syl : SylsAt H' L
  fresh : ∀ e ∈ L, H e.1 = none ∧ e.1 ≠ d ∧ e.1 ≠ c ∧ e.1 ≠ F0
  len : L.length = i
  good : GoodSyls ks (L.map (·.2))
section
variable {ks : List Str} {H H' H2 : Hp} {d c F0 : Addr} {i : Nat} {L : SyL}
theorem RSt.same (x : RSt ks H d c F0 i H' L) (s : Same H' H2) : RSt ks H d c F0 i H2 L :=
  ⟨Deal.same x.deal s, Kept.trans x.kept (Kept.of s), s _ _ x.lst, fun e he => s _ _ (x.syl e he), x.fresh, x.len, x.good⟩
theorem RSt.draw (x : RSt ks H d c F0 i H' L) (k : Kept d c H' H2) (hD : Deal H2 d c) (h1 : F0 ≠ d) (h2 : F0 ≠ c) : RSt ks H d c F0 i H2 L :=
  ⟨hD, Kept.trans x.kept k, k _ _ h1 h2 x.lst, fun e he => k _ _ (x.fresh e he).2.1 (x.fresh e he).2.2.1 (x.syl e he), x.fresh, x.len, x.good⟩
theorem RSt.more {t : Addr} {u : Str} {n : Int} (z : RSt ks H d c F0 i H' L) (h1 : F0 ≠ d) (h2 : F0 ≠ c) (hF : H F0 = none) (hu : u ∈ ks) (n0 : -10 ^ 18 ≤ n) (n1 : n ≤ 10 ^ 18)
    (ht : H' t = none) : RSt ks H d c F0 (i + 1) (upd (upd H' t (.tup [.str u, .int n])) F0 (.lst (refsOf L ++ [.ref t]))) (L ++ [(t, u, n)]) := by
  have s1 := sameNew (o := .tup [V.str u, .int n]) ht
  have z1 := z.same s1
  have tF : t ≠ F0 := fun e => by rw [e, z.lst] at ht; cases ht
  refine ⟨Deal.upd z1.deal h1 h2, Kept.upd z1.kept hF, ?_, fun e he => ?_, fun e he => ?_, ?_, fun e he => ?_⟩
  · rw [upd_same]
    show _ = some (HO.lst (List.map _ _))
    rw [List.map_append]
    rfl
  · rcases List.mem_append.mp he with he | he
    · rw [upd_ne (z.fresh e he).2.2.2]
      exact z1.syl e he
    · rw [List.mem_singleton.mp he, upd_ne tF]
      exact upd_same
  · rcases List.mem_append.mp he with he | he
    · exact z.fresh e he
    · rw [List.mem_singleton.mp he]
      exact ⟨z.kept.none z.deal ht, z.deal.ned ht, z.deal.nec ht, tF⟩
  · rw [List.length_append, z.len]
    rfl
  · rw [List.map_append] at he
    rcases List.mem_append.mp he with he | he
    · exact z.good e he
    · rw [List.mem_singleton.mp he]
      exact ⟨hu, n0, n1⟩
end
def spRow (K : PySem.W.Frag) : Sp := fun vs H Q _ => ∃ (d c a : Addr) (ks : List Str) (m : Nat), vs = [.ref d, .ref a, .int m] ∧ Deal H d c ∧ H a = some (.lst (ks.map V.str)) ∧ a ≠ d ∧ a ≠ c ∧ ks ≠ [] ∧ ks.length ≤ 1000 ∧ (∀ k ∈ ks, PyData.strOk k = true) ∧ m ≤ 1000 ∧
  ∀ (r : Addr) (L : SyL) (H' : Hp), H r = none → Deal H' d c → Kept d c H H' → H' r = some (.lst (refsOf L)) → SylsAt H' L → (∀ e ∈ L, H e.1 = none) → L.length = m → GoodSyls ks (sylsOf L) → Q (.ref r) H'
section
variable {P : Program} {w : World} {K : PySem.W.Frag} {mg : Str → Option Value} {base : Heap}
theorem okRow {f fD fC : Addr} {fd fdD fdC : FuncData} (F : Fun K "_law_row" "_law_row" sRow f fd)
    (GD : FnOk P w K mg base CX0 1 fD fdD ["_law_deal_here", "_law_many"] spDraw) (mD : mg "_law_draw" = some (.ref fD)) (kD : PySem.W.keepIn K (.ref fD) = true) (bD : Binds K fdD ["_law_deal_here", "_law_many"] [])
    (GC : FnOk P w K mg base CX0 2 fC fdC ["_law_deal_here"] spCount) (mC : mg "_law_count" = some (.ref fC)) (kC : PySem.W.keepIn K (.ref fC) = true) (bC : Binds K fdC ["_law_deal_here"] [])
    (mR : mg "range" = none) (mL : mg "len" = none) : FnOk P w K mg base CX0 3 f fd ["_law_deal_here", "_law_kinds", "_law_many"] (spRow K) := by
  refine F.ok scRow (fun vs H Q E h => ?_) (fun cdv A outer s H vs Q E hr h => ?_)
  · obtain ⟨d, c, a, ks, m, rfl, _⟩ := h
    rfl
  have hr1 : Room 1 (A.deeper (envOfC "_law_row" (defScope sRow) s.heap.objs.size f cdv)) := hr.mono (by decide)
  have hu : (A.deeper (envOfC "_law_row" (defScope sRow) s.heap.objs.size f cdv)).units + 64 < cLine := by have := hr.un; omega
  refine ⟨_, pss_cons (ps_set (i := 3) scRow.nd rfl (Or.inl rfl) (pe_lst pa_nil))
    (pss_cons (ps_for PassesOwn.never rfl (pi_range1 rfl mR (pa_cons (pv 2) pa_nil)) (pg_name (i := 4) scRow.nd rfl (Or.inl rfl))
      (pss_cons (ps_par (i := 5) (j := 6) rfl scRow.nd rfl rfl (by decide) rfl rfl (pa_cons (pe_ix ix_list (pv 1) (pe_call GD hr1 rfl mD kD bD .nil pass0 (pa_cons (pv 0) (pa_cons (pe_callB call_len_seq rfl mL PySem.boot_len (pa_cons (pv 1) pa_nil)) pa_nil))) (fun _ _ => rfl))
          (pa_cons (pe_call GC hr rfl mC kC bC .nil pass0 (pa_cons (pv 0) pa_nil)) pa_nil)) rfl)
      (pss_cons (ps_if (PW.pt (pw_and (pt_cmpR (op_neD hu) (pv 3) (pe_lst pa_nil) (nomark _)) (pw_and1 (pt_cmpR op_eq (pe_call GD hr1 rfl mD kD bD .nil pass0 (pa_cons (pv 0) (pa_cons pe_int pa_nil))) pe_int (nomark _)))))
          (pss_cons (ps_asg (pe_ix ix_list (pv 3) (pe_call GD hr1 rfl mD kD bD .nil pass0 (pa_cons (pv 0) (pa_cons (pe_callB call_len_seq rfl mL PySem.boot_len (pa_cons (pv 3) pa_nil)) pa_nil))) (fun _ _ => rfl)) (pg_tup rfl (pgs_cons (pg_name (i := 5) scRow.nd rfl (Or.inl rfl)) (pgs_cons (pg_name (i := 6) scRow.nd rfl (Or.inl rfl)) pgs_nil))))
          (pss_one (ps_set (i := 6) scRow.nd rfl (Or.inl rfl) (pe_op op_sub pe_int (pv 6))))) pss_nil)
      (pss_one (ps_expr (pe_bm PySem.F.plainAttrs_list PySem.F.slot_list_append PySem.F.type_list_append mt_append (pv 3) (pa_cons (pe_tup (pa_cons (pv 5) (pa_cons (pv 6) pa_nil))) pa_nil)))))))
    (pss_one (ps_ret (pv 3)))), ?_⟩
  obtain ⟨d, c, a, ks, m, rfl, hD, ha, ad, ac, kn, kl, ok, hm, q⟩ := h
  refine ⟨(by show 0 ≤ sizeLine; decide), fun F0 hF => ?_⟩
  have Fd := hD.ned hF
  have Fc := hD.nec hF
  have s1 := sameNew (o := .lst []) hF
  have z0 : RSt ks H d c F0 0 (upd H F0 (.lst [])) [] := ⟨hD.same s1, Kept.of s1, upd_same, fun e he => (nomatch he), fun e he => (nomatch he), rfl, fun e he => (nomatch he)⟩
  generalize upd H F0 (.lst []) = H1 at z0
  refine ⟨_, rfl, _, rfl, by omega, by omega, for_it (walk_range (lo := 0) (n := m)) (fun i σ H' => ∃ (x4 x5 x6 : Option V) (L : SyL), σ = [some (.ref d), some (.ref a), some (.int (m : Nat)), some (.ref F0), x4, x5, x6] ∧ RSt ks H d c F0 i H' L) ⟨_, _, _, [], rfl, z0⟩ (fun _ _ _ _ _ => True.intro) ?_ ?_⟩
  · rintro i x σ H2 H3 hi ⟨x4, x5, x6, L, rfl, z⟩ ⟨rfl, rfl⟩
    have kp : 0 < ks.length := List.length_pos_iff.mpr kn
    have lk : (ks.map V.str).length = ks.length := List.length_map ..
    have ha2 := z.kept _ _ ad ac ha
    refine ⟨_, rfl, _, rfl, _, rfl, a, _, rfl, .inl (SqL.of ha2), d, c, _, rfl, z.deal, by rw [lk]; omega, by rw [lk]; exact small200 kl, fun r H4 r0 r1 hD4 k4 => ?_⟩
    rw [lk] at r1
    have z4 := z.draw k4 hD4 Fd Fc
    obtain ⟨j, rfl⟩ : ∃ j : Nat, r = (j : Int) := ⟨r.toNat, by omega⟩
    have hj : j < ks.length := by omega
    obtain ⟨u, hu⟩ : ∃ u, ks[j]? = some u := ⟨_, List.getElem?_eq_getElem hj⟩
    have um : u ∈ ks := List.mem_of_getElem? hu
    refine ⟨a, _, _, _, rfl, rfl, SqL.of (k4 _ _ ad ac ha2), atI_nat (by rw [List.getElem?_map, hu]; rfl), _, rfl, d, c, rfl, z4.deal, fun n H5 n0 n1 hD5 k5 => ?_⟩
    have z5 := z4.draw k5 hD5 Fd Fc
    refine ⟨_, _, rfl, _, rfl, (by show 0 ≤ sizeLine; decide), fun e0 he0 => ?_⟩
    have s6 := sameNew (o := .lst []) he0
    have z6 := z5.same s6
    have e6 : SqL K (upd H5 e0 (.lst [])) e0 [] := SqL.of upd_same
    generalize upd H5 e0 (.lst []) = H6 at s6 z6 e6
    have okL : ∀ e ∈ sylsOf L, PyData.strOk e.1 = true := fun e he => ok _ (z.good e he).1
    have ll : L.length ≤ 1000 := by rw [z.len]; omega
    refine ⟨.list ((sylsOf L).map dSyl), .list [], .lst (SqL.of z6.lst) z6.syl.syls.dp, .lst e6 .nil, (shapedSyls okL).2, by decide +kernel, _, rfl, ?_⟩
    refine ite2 (fun t => ?_) (fun _ => ?_)
    · have ne : L ≠ [] := by
        intro z
        subst z
        revert t
        decide +kernel
      have lp : 0 < L.length := List.length_pos_iff.mpr ne
      have lL : (refsOf L).length = L.length := List.length_map ..
      refine ⟨_, rfl, d, c, 4, rfl, z6.deal, by decide, by decide, fun r4 H7 w0 w4 hD7 k7 => ?_⟩
      have z7 := z6.draw k7 hD7 Fd Fc
      refine ⟨rfl, _, rfl, ?_⟩
      refine ite2 (fun _ => ?_) (fun _ => ?_)
      · refine ⟨_, rfl, _, rfl, _, rfl, F0, _, rfl, .inl (SqL.of z7.lst), d, c, _, rfl, z7.deal, by rw [lL]; omega, by rw [lL]; exact small200 ll, fun r2 H8 r20 r21 hD8 k8 => ?_⟩
        rw [lL] at r21
        have z8 := z7.draw k8 hD8 Fd Fc
        obtain ⟨g, rfl⟩ : ∃ g : Nat, r2 = (g : Int) := ⟨r2.toNat, by omega⟩
        have hg : g < L.length := by omega
        obtain ⟨e, he⟩ : ∃ e, L[g]? = some e := ⟨_, List.getElem?_eq_getElem hg⟩
        have em := List.mem_of_getElem? he
        have eg := z8.good e.2 (List.mem_map.mpr ⟨e, em, rfl⟩)
        refine ⟨F0, _, _, _, rfl, rfl, SqL.of z8.lst, atI_nat (by rw [List.getElem?_map, he]; rfl), e.1, _, rfl, SqT.of (z8.syl e em), rfl, _, _, rfl, _, _, rfl, rfl, ?_⟩
        refine ⟨_, rfl, _, _, rfl, rfl, ?_⟩
        refine ⟨_, rfl, .inl ⟨rfl, _, SqL.of z8.lst⟩, _, rfl, _, rfl, (by show 2 ≤ sizeLine; decide), fun t1 h1 => ?_⟩
        exact ⟨F0, _, _, rfl, rfl, sameNew h1 _ _ z8.lst, by rw [lL]; exact small1000 (by omega), ⟨_, _, _, _, rfl, z8.more Fd Fc hF eg.1 (by omega) (by omega) h1⟩⟩
      · refine ⟨_, rfl, .inl ⟨rfl, _, SqL.of z7.lst⟩, _, rfl, _, rfl, (by show 2 ≤ sizeLine; decide), fun t1 h1 => ?_⟩
        exact ⟨F0, _, _, rfl, rfl, sameNew h1 _ _ z7.lst, by rw [lL]; exact small1000 (by omega), ⟨_, _, _, _, rfl, z7.more Fd Fc hF um n0 n1 h1⟩⟩
    · have lL : (refsOf L).length = L.length := List.length_map ..
      refine ⟨_, rfl, .inl ⟨rfl, _, SqL.of z6.lst⟩, _, rfl, _, rfl, (by show 2 ≤ sizeLine; decide), fun t1 h1 => ?_⟩
      exact ⟨F0, _, _, rfl, rfl, sameNew h1 _ _ z6.lst, by rw [lL]; exact small1000 (by omega), ⟨_, _, _, _, rfl, z6.more Fd Fc hF um n0 n1 h1⟩⟩
  · rintro σ H2 ⟨x4, x5, x6, L, rfl, z⟩
    exact ⟨_, rfl, q F0 L H2 hF z.deal z.kept z.lst z.syl (fun e he => (z.fresh e he).1) z.len z.good⟩
end
end L2.Und
end

section
set_option Elab.async false
set_option linter.all false
set_option maxRecDepth 100000
set_option maxHeartbeats 1000000
namespace L2.Und
open PySem PySem.Spec PyProof.Rows _root_.Und
open PySem.W (findIn keepIn typeIn subIn mroIn InstAt)
/-! ### a * b, a & b, a | b for instances of own classes, as a + b -/
section
variable {X : Cx} {CX : CXT} {k : Nat} {f C : Addr} {fd : FuncData} {ps : List Str} {sp : Sp} {E : St → XK} {a b : Expr} {pos : Pos} {ta tb : TE}
theorem peMulO (sf : PySem.W.selfFirst X.K C = true) (hm : Meth X.K C "__mul__" f) (F : FnOk X.prog X.w X.K X.mg X.base CX k f fd ps sp) (hr : Room k X.A) (hb : Binds X.K fd ps []) (hx : ∀ σ, PassesAt CX X σ (E σ)) (ha : PE X a ta) (hb' : PE X b tb) :
    PE X (.BinOp a .Mult b pos) (tAddO C sp E ta tb) := by
  refine ⟨fun pins s σ H Q I h => wpAny_BinOp (binT ha hb' I h fun v u s2 x y H2 I2 rx ry q => ?_)⟩
  obtain ⟨⟨c, dy, gs, rfl, ec⟩, o, dx, fs, rfl, e, q⟩ := q
  obtain rfl : v = Value.ref o := rx
  obtain rfl : u = Value.ref c := ry
  obtain ⟨ob, od, J⟩ := instOf I2 e
  obtain ⟨oc, oe, J'⟩ := instOf I2 ec
  obtain ⟨m, hF⟩ := I2.fr
  refine PySem.W.binop_K hF I2.ok.mod.kin J J'.type sf hm.at_ hm.fn (wpAny_mono (callBelow F hb (hx σ) ⟨hr, rfl⟩ I2 (.cons (relRef o) (.cons (relRef c) .nil)) q) (fun r s1 z => ?_) fun _ _ z => z)
  obtain ⟨_, H3, I3, r3, ⟨g, rfl⟩, q3⟩ := z
  obtain rfl : r = Value.ref g := r3
  exact ⟨.ref g, H3, I3, rfl, q3⟩
end
/-- isinstance of a caught error that has no dict of its own -/
theorem callIsN {X : Cx} {a D : Addr} {oe : Obj} {cls : Value} {d : Option Addr} {pn : List (Addr × Obj)} (C : ExcC X.K D) (hz : Zc cls d oe) (hf : ∃ vs, oe.data = .fields vs) :
    CallR (X.suite a ((a, oe) :: pn)) (.builtin "isinstance") (fun xs H Q => cls = .ref D ∧ d = none ∧ rIsE X.K D a xs H Q) := by
  intro pins s σ H xs us Q I r h
  obtain ⟨rfl, rfl, h⟩ := h
  exact call_isE C hz hf pins s σ H xs us Q I r h
end L2.Und
end

section
set_option Elab.async false
set_option linter.all false
set_option maxRecDepth 100000
set_option maxHeartbeats 1000000
namespace L2.Und
open PySem PySem.Spec PyProof.Rows _root_.Und
open L2.KS
/-! ### repr of a list, a tuple, an int -/
def rShowI (K : PySem.W.Frag) : List V → Hp → VK → Prop := fun xs H Q => rShow K xs H Q ∨ ∃ i : Int, xs = [.int i] ∧ i.natAbs.log2 < 1920 ∧ Q (.str (toString i)) H
theorem callShowI {X : Cx} (hg : X.A.guards = some []) (hu : X.A.units + 64 < cLine) : CallR X (.builtin "repr") (rShowI X.K) := CallR.or (callShow hg hu) SkE.call_repr_int
def reprD : PyData → Str
  | .int i => toString i
  | d => d.shown
theorem rShowI.int {K : PySem.W.Frag} {i : Int} {H : Hp} {Q : VK} (h : i.natAbs < 10 ^ 12) (q : Q (.str (reprD (.int i))) H) : rShowI K [.int i] H Q := by
  refine .inr ⟨i, rfl, ?_, q⟩
  by_cases z : i.natAbs = 0
  · rw [z]; decide
  · exact Nat.lt_of_lt_of_le ((Nat.log2_lt z).mpr (Nat.lt_of_lt_of_le h (by decide : 10 ^ 12 ≤ 2 ^ 40))) (by decide)
theorem rShowI.ref {K : PySem.W.Frag} {a : Addr} {d : PyData} {H : Hp} {Q : VK} (h : Dp K H (.ref a) d) (s : Shows d) (q : Q (.str (reprD d)) H) : rShowI K [.ref a] H Q := by
  refine .inl (rShow.of h s ?_)
  cases d with
  | int i => cases h
  | _ => exact q
end L2.Und
end

section
set_option Elab.async false
set_option linter.all false
set_option maxRecDepth 100000
set_option maxHeartbeats 1000000
namespace L2.Und
open PySem PySem.Spec PyProof.Rows _root_.Und
/-! ### rows of syllables with great counts, shown -/
theorem log_small {n : Nat} (h : n < 10 ^ 21) : n.log2 ≤ 70 := by
  by_cases z : n = 0
  · rw [z]; decide
  · exact Nat.le_of_lt ((Nat.log2_lt z).mpr (Nat.lt_of_lt_of_le h (by decide : 10 ^ 21 ≤ 2 ^ 70)))
theorem wtSyls : ∀ {l : List (Str × Int)}, (∀ e ∈ l, e.1.length ≤ 6) → (∀ e ∈ l, e.2.natAbs < 10 ^ 21) → PyData.weightAll (l.map dSyl) ≤ 86 * l.length
  | [], _, _ => by simp [PyData.weightAll]
  | p :: l, h, h' => by
    have ih := wtSyls (l := l) (fun q hq => h q (List.mem_cons_of_mem _ hq)) fun q hq => h' q (List.mem_cons_of_mem _ hq)
    have h1 : p.1.cps.size ≤ 6 := h p List.mem_cons_self
    have h2 := log_small (h' p List.mem_cons_self)
    have e : (dSyl p).weight ≤ 84 := by
      simp only [dSyl, PyData.weight, PyData.weightAll]
      split <;> omega
    simp only [List.map_cons, PyData.weightAll, List.length_cons]
    omega
theorem shSyls : ∀ {l : List (Str × Int)}, (∀ e ∈ l, e.2.natAbs < 10 ^ 21) → PyData.showableAll (l.map dSyl) = true ∧ PyData.hasDictAll (l.map dSyl) = false ∧ PyData.intsShortAll 24 (l.map dSyl) = true
  | [], _ => ⟨rfl, rfl, rfl⟩
  | p :: l, h => by
    obtain ⟨a, b, c⟩ := shSyls (l := l) fun q hq => h q (List.mem_cons_of_mem _ hq)
    have h1 := h p List.mem_cons_self
    have lg : p.2.natAbs.log2 < 1920 := by
      by_cases z : p.2.natAbs = 0
      · rw [z]; decide
      · exact Nat.lt_of_lt_of_le ((Nat.log2_lt z).mpr (Nat.lt_of_lt_of_le h1 (by decide : 10 ^ 21 ≤ 2 ^ 100))) (by decide)
    have sh : PyData.showable (.int p.2) = true := by
      simp only [PyData.showable]
      exact decide_eq_true (by omega)
    have is : PyData.intsShort 24 (.int p.2) = true := by
      simp only [PyData.intsShort]
      refine decide_eq_true ?_
      have e := int_text_length_le10 (k := 21) (by decide) h1
      show (Str.ofString (toString p.2)).length ≤ 24
      rw [PySem.ofString_length]
      omega
    refine ⟨?_, ?_, ?_⟩
    · simp only [List.map_cons, PyData.showableAll, a, Bool.and_true, dSyl, PyData.showable]
      simp only [PyData.showableAll, PyData.showable, Bool.and_true, Bool.true_and]
      simpa only [PyData.showable] using sh
    · simp only [List.map_cons, PyData.hasDictAll, b, Bool.or_false, dSyl, PyData.hasDict]
    · simp only [List.map_cons, PyData.intsShortAll, c, Bool.and_true, dSyl, PyData.intsShort]
      simp only [PyData.intsShortAll, PyData.intsShort, Bool.and_true, Bool.true_and]
      simpa only [PyData.intsShort] using is
theorem Shows.syls {l : List (Str × Int)} (h1 : ∀ e ∈ l, PyData.strOk e.1 = true) (h2 : ∀ e ∈ l, e.1.length ≤ 6) (h3 : ∀ e ∈ l, e.2.natAbs < 10 ^ 21) (hl : l.length ≤ 7000) : Shows (.tuple (l.map dSyl)) := by
  obtain ⟨a, b, c⟩ := shSyls h3
  have d := depSyls l
  have w := wtSyls h2 h3
  have cl : PyData.canLay0 (.tuple (l.map dSyl)) = true := by simp only [PyData.canLay0]; exact canSyls l h1
  refine ⟨by simp only [PyData.showable]; exact a, by simp only [PyData.hasDict]; exact b, by simp only [PyData.depth]; omega, ?_⟩
  have s := PyData.shown_le 24 (by decide) (.tuple (l.map dSyl)) (PyData.leavesShort_of_canLay0 24 _ cl (by simp only [PyData.intsShort]; exact c))
  have wt : (PyData.tuple (l.map dSyl)).weight ≤ 86 * l.length + 2 := by simp only [PyData.weight]; omega
  have : sizeLine = 16777216 := sizeLine_eq
  omega
end L2.Und
end

section
set_option Elab.async false
set_option linter.all false
set_option maxRecDepth 100000
set_option maxHeartbeats 1000000
namespace L2.Und
open PySem PySem.Spec PyProof.Rows _root_.Und
open L2.KS SX
open PySem.W (findIn keepIn typeIn subIn AllAlike Sortable dataLe)
/-! ### _law_is_free, pairs in order (as in k02) -/
theorem dpPrs {K : PySem.W.Frag} {H : Hp} {L : PA2'} (h : ∀ e ∈ L, SqT K H e.1 [.str e.2.1, .str e.2.2]) : DpAll K H (L.map fun e => V.ref e.1) (L.map fun e => dPair e.2) := by
  have z := dpPr2 h
  rw [List.map_map] at z
  exact z
theorem anyPrs (p : Str × Str) (L : PA2') : ((L.map fun e => dPair e.2).any fun z => PyData.eqv z (dPair p)) = decide (p ∈ L.map (·.2)) := by
  have z := anyPair p (L.map (·.2))
  rw [List.map_map] at z
  exact z
theorem plainPair {p : Str × Str} (h1 : PyData.strOk p.1 = true) (h2 : PyData.strOk p.2 = true) : Plainly (dPair p) = true := by
  simp [dPair, Plainly, PlainlyAll, h1, h2]
theorem plainPrs : ∀ {L : PA2'}, (∀ e ∈ L, PyData.strOk e.2.1 = true ∧ PyData.strOk e.2.2 = true) → PlainlyAll (L.map fun e => dPair e.2) = true
  | [], _ => by simp [PlainlyAll]
  | e :: L, h => by
    have z := h e List.mem_cons_self
    simp only [List.map_cons, PlainlyAll, plainPair z.1 z.2, plainPrs fun e he => h e (List.mem_cons_of_mem _ he), Bool.and_self]
theorem depPrs : ∀ L : PA2', PyData.depthAll (L.map fun e => dPair e.2) ≤ 1
  | [] => by simp [PyData.depthAll]
  | e :: L => by
    have ih := depPrs L
    have e : (dPair e.2).depth = 1 := by simp [dPair, PyData.depth, PyData.depthAll]
    rw [List.map_cons]
    simp only [PyData.depthAll, e]
    omega
theorem depPair (p : Str × Str) : (dPair p).depth ≤ 40 := by simp [dPair, PyData.depth, PyData.depthAll]
theorem isFree_congr {ps qs : List (Str × Str)} (h : pairsOf ps = pairsOf qs) (x y : Str) : isFree ps x y = isFree qs x y := by
  rw [← isFree_eq, ← isFree_eq, h]
/-- pairs as sorted takes them -/
abbrev pVD (e : Addr × (Str × Str)) : VD := (.ref e.1, dPair e.2)
theorem le_pVD (a b : Addr × (Str × Str)) : dataLe false (·.2) (pVD a) (pVD b) = leP a.2 b.2 := le_keys a.1 b.1 a.2 b.2
theorem due_sorted {M : PA2'} {ps : List (Str × Str)} (e : M.map (·.2) = ps.map asc) (ap : ps.Pairwise apart) : ∃ S : PA2', S.Perm M ∧ srt (M.map pVD) = S.map pVD ∧ S.map (·.2) = pairsOf ps := by
  obtain ⟨S, eS⟩ : ∃ S, S = M.mergeSort fun a b => leP a.2 b.2 := ⟨_, rfl⟩
  have pS : S.Perm M := eS ▸ List.mergeSort_perm _ _
  refine ⟨S, pS, ?_, ?_⟩
  · rw [eS]
    exact (List.map_mergeSort fun a _ b _ => (le_pVD a b).symm).symm
  · rw [pairsOf_sorted ap, ← e]
    refine srtPairs_of (pS.map _) ?_
    rw [List.pairwise_map, eS]
    exact List.pairwise_mergeSort (fun a b c => leP_trans a.2 b.2 c.2) (fun a b => leP_total a.2 b.2) M
theorem alike_pVD (M : PA2') : AllAlike ((M.map pVD).map (·.2)) := by
  intro d hd d' hd'
  rw [List.map_map] at hd hd'
  obtain ⟨p, _, rfl⟩ := List.mem_map.mp hd
  obtain ⟨p', _, rfl⟩ := List.mem_map.mp hd'
  simp [dPair, PySem.W.alike, PySem.W.alikeAll]
theorem sort_pVD (M : PA2') : Sortable ((M.map pVD).map (·.2)) := by
  refine .inl fun d hd => ?_
  rw [List.map_map] at hd
  obtain ⟨p, _, rfl⟩ := List.mem_map.mp hd
  exact ⟨.str p.2.1, [.str p.2.2], rfl⟩
theorem plStrs : ∀ l : List Str, (∀ k ∈ l, IsName k = true) → PlainlyAll (l.map PyData.str) = true
  | [], _ => by simp [PlainlyAll]
  | x :: l, h => by simp [PlainlyAll, Plainly, name_ok (h x List.mem_cons_self), plStrs l fun k hk => h k (List.mem_cons_of_mem _ hk)]
/-- the kinds and the pairs of a table, as data -/
def bothD (ks : List Str) (P : List (Str × Str)) : PyData := .tuple [.tuple (ks.map .str), .tuple (P.map dPair)]
theorem both_shaped {ks : List Str} {P : List (Str × Str)} (h : ∀ k ∈ ks, IsName k = true) (h2 : ∀ p ∈ P, IsName p.1 = true ∧ IsName p.2 = true) : SeqAt.shaped (bothD ks P) = true := by
  have d1 := depStrs ks
  have d2 := depPairs P
  refine Plainly.shaped (by simp only [bothD, Plainly, PlainlyAll, plStrs ks h, plPairs P h2, Bool.and_self]) ?_
  simp only [bothD, PyData.depth, PyData.depthAll, d1]
  omega
theorem dpStr {K : PySem.W.Frag} {H : Hp} (ks : List Str) : ∀ b ∈ ks.map sD, Dp K H b.1 b.2 := fun b hb => by
  obtain ⟨k, _, rfl⟩ := List.mem_map.mp hb
  exact .str k
theorem depStr (ks : List Str) : ∀ b ∈ ks.map sD, b.2.depth ≤ 40 := fun b hb => by
  obtain ⟨k, _, rfl⟩ := List.mem_map.mp hb
  simp [PyData.depth]
theorem sDs (ks : List Str) : (ks.map sD).map (·.1) = ks.map V.str := by rw [List.map_map]; rfl
/-- tuple(x), as the layer has it -/
def rTupOf (K : PySem.W.Frag) : List V → Hp → VK → Prop := fun xs H Q => ∃ p ys, xs = [V.ref p] ∧ ((SqL K H p ys ∧ ∀ (l : Addr), H l = none → Q (V.ref l) (upd H l (HO.tup ys))) ∨ SqT K H p ys ∧ Q (V.ref p) H)
end L2.Und
end

section
set_option Elab.async false
set_option linter.all false
set_option maxRecDepth 100000
set_option maxHeartbeats 1000000
namespace L2.Und
open PySem PySem.Spec PyProof.Rows _root_.Und
open L2.KS SX
open PySem.W (findIn keepIn typeIn subIn AllAlike Sortable dataLe)
/-! ### _law_is_free -/
abbrev sLFree : Stmt := topS 53
theorem scLFree : FnScope ["_law_pairs_here", "_law_one", "_law_other"] ["_law_pairs_here", "_law_one", "_law_other"] (defScope sLFree) := ⟨rfl, rfl, rfl, by decide +kernel, rfl, by decide +kernel, by decide +kernel⟩
def spLFree (K : PySem.W.Frag) : Sp := fun vs H Q _ => ∃ (a : Addr) (L : PA2') (x y : Str), vs = [.ref a, .str x, .str y] ∧ SqL K H a (L.map fun e => V.ref e.1) ∧ Prs2 K H L ∧ PyData.strOk x = true ∧ PyData.strOk y = true ∧
  ∀ H', Same H H' → Q (.bl (isFree (L.map (·.2)) x y)) H'
section
variable {P : Program} {w : World} {K : PySem.W.Frag} {mg : Str → Option Value} {base : Heap}
theorem okLFree {f : Addr} {fd : FuncData} (F : Fun K "_law_is_free" "_law_is_free" sLFree f fd) : FnOk P w K mg base CX0 1 f fd ["_law_pairs_here", "_law_one", "_law_other"] (spLFree K) := by
  refine F.ok scLFree (fun vs H Q E h => ?_) (fun cdv A outer s H vs Q E hr h => ?_)
  · obtain ⟨a, L, x, y, rfl, _⟩ := h
    rfl
  have hu : (A.deeper (envOfC "_law_is_free" (defScope sLFree) s.heap.objs.size f cdv)).units + 65 < cLine := by have := hr.un; omega
  refine ⟨_, pss_one (ps_ret (pe_or (pe_cmpR (op_inD hu) (pe_tup (pa_cons (pv 1) (pa_cons (pv 2) pa_nil))) (pv 0) rfl) (pe_one (pe_cmpR (op_inD hu) (pe_tup (pa_cons (pv 2) (pa_cons (pv 1) pa_nil))) (pv 0) rfl)))), ?_⟩
  obtain ⟨a, L, x, y, rfl, ha, hp, hx, hy, q⟩ := h
  have two : 2 ≤ sizeLine := by decide
  have ps : Plainly (.list (L.map fun e => dPair e.2)) = true := by simp only [Plainly]; exact plainPrs hp.ok
  have pd : (PyData.list (L.map fun e => dPair e.2)).depth ≤ 40 := by
    have := depPrs L
    simp only [PyData.depth]
    omega
  refine ⟨_, rfl, _, rfl, two, fun t ht => ?_⟩
  have s1 := sameNew (o := .tup [.str x, .str y]) ht
  refine ⟨_, rfl, dPair (x, y), _, .tup (SqT.of upd_same) (.cons (.str _) (.cons (.str _) .nil)), .lst (s1.seq ha) (dpPrs (hp.same s1).at_), Plainly.shaped (plainPair hx hy) (depPair _), Plainly.shaped ps pd, _, rfl, ?_⟩
  rw [anyPrs]
  have e : isFree (L.map (·.2)) x y = (decide ((x, y) ∈ L.map (·.2)) || decide ((y, x) ∈ L.map (·.2))) := by
    unfold isFree
    rw [← Bool.decide_or]
  rw [e] at q
  by_cases m : (x, y) ∈ L.map (·.2)
  · rw [decide_eq_true m]
    rw [decide_eq_true m, Bool.true_or] at q
    exact iteT (q _ s1)
  · rw [decide_eq_false m]
    rw [decide_eq_false m, Bool.false_or] at q
    refine iteF ⟨_, rfl, _, rfl, two, fun t2 ht2 => ?_⟩
    have s2 := s1.trans (sameNew (o := .tup [.str y, .str x]) ht2)
    refine ⟨_, rfl, dPair (y, x), _, .tup (SqT.of upd_same) (.cons (.str _) (.cons (.str _) .nil)), .lst (s2.seq ha) (dpPrs (hp.same s2).at_), Plainly.shaped (plainPair hy hx) (depPair _), Plainly.shaped ps pd, ?_⟩
    rw [anyPrs]
    exact q _ s2
end
end L2.Und
end

section
set_option Elab.async false
set_option linter.all false
set_option maxRecDepth 100000
set_option maxHeartbeats 1000000
/-! ### what melts in a row, and where -/
namespace MT
open PySem FM
/-- from a place on, where one of the kind comes first with nothing barred before it -/
def scanTo (fr : Str → Str → Bool) (k : Str) : List (Str × Int) → Nat → Option Nat
  | [], _ => none
  | e :: r, i => if e.1 = k then some i else if fr k e.1 = true then scanTo fr k r (i + 1) else none
def meltGo (fr : Str → Str → Bool) : List (Str × Int) → Nat → Option (Nat × Nat)
  | [], _ => none
  | e :: r, i => if e.2 = 0 then some (i, i) else match scanTo fr e.1 r (i + 1) with
    | some j => some (i, j)
    | none => meltGo fr r (i + 1)
def meltF (fr : Str → Str → Bool) (l : List (Str × Int)) : Option (Nat × Nat) := meltGo fr l 0
theorem scan_cons (fr : Str → Str → Bool) (k : Str) (e : Str × Int) (r : List (Str × Int)) (i : Nat) : scanTo fr k (e :: r) i = if e.1 = k then some i else if fr k e.1 = true then scanTo fr k r (i + 1) else none := rfl
theorem melt_cons (fr : Str → Str → Bool) (e : Str × Int) (r : List (Str × Int)) (i : Nat) : meltGo fr (e :: r) i = if e.2 = 0 then some (i, i) else match scanTo fr e.1 r (i + 1) with
    | some j => some (i, j)
    | none => meltGo fr r (i + 1) := rfl
theorem scan_some {fr : Str → Str → Bool} {k : Str} : ∀ {l : List (Str × Int)} {i j : Nat}, scanTo fr k l i = some j → ∃ B m C, l = B ++ (k, m) :: C ∧ j = i + B.length ∧ ∀ e ∈ B, fr k e.1 = true
  | [], i, j, h => by cases h
  | e :: r, i, j, h => by
    rw [scan_cons] at h
    by_cases c : e.1 = k
    · rw [if_pos c] at h
      refine ⟨[], e.2, r, ?_, (Option.some.inj h).symm, fun _ z => nomatch z⟩
      rw [← c]
      rfl
    · rw [if_neg c] at h
      by_cases f : fr k e.1 = true
      · rw [if_pos f] at h
        obtain ⟨B, m, C, e1, e2, e3⟩ := scan_some h
        refine ⟨e :: B, m, C, by rw [e1]; rfl, by rw [e2, List.length_cons]; omega, fun x hx => ?_⟩
        rcases List.mem_cons.mp hx with rfl | hx
        · exact f
        · exact e3 x hx
      · rw [if_neg f] at h
        cases h
theorem scan_none {fr : Str → Str → Bool} {k : Str} : ∀ {l : List (Str × Int)} {i : Nat}, scanTo fr k l i = none → ∀ B m C, l = B ++ (k, m) :: C → ∃ e ∈ B, fr k e.1 = false
  | [], i, h, B, m, C, e => by
    cases B <;> cases e
  | e :: r, i, h, B, m, C, eq => by
    rw [scan_cons] at h
    by_cases c : e.1 = k
    · rw [if_pos c] at h
      cases h
    · rw [if_neg c] at h
      cases B with
      | nil =>
        have := (List.cons.inj eq).1
        rw [this] at c
        exact absurd rfl c
      | cons x B =>
        obtain ⟨e1, e2⟩ := List.cons.inj eq
        subst e1
        by_cases f : fr k e.1 = true
        · rw [if_pos f] at h
          obtain ⟨y, hy, fy⟩ := scan_none h B m C e2
          exact ⟨y, List.mem_cons_of_mem _ hy, fy⟩
        · exact ⟨e, List.mem_cons_self, by simpa using f⟩
/-- what is found: nought, or two of a kind with nothing barred between them -/
def Found (fr : Str → Str → Bool) (l : List (Str × Int)) (i j b : Nat) : Prop := (∃ A k C, l = A ++ (k, 0) :: C ∧ i = b + A.length ∧ j = i) ∨
  (∃ A k n B m C, l = A ++ ((k, n) :: B ++ (k, m) :: C) ∧ i = b + A.length ∧ j = i + 1 + B.length ∧ ∀ e ∈ B, fr k e.1 = true)
theorem melt_some {fr : Str → Str → Bool} : ∀ {l : List (Str × Int)} {b i j : Nat}, meltGo fr l b = some (i, j) → Found fr l i j b
  | [], b, i, j, h => by cases h
  | e :: r, b, i, j, h => by
    rw [melt_cons] at h
    by_cases c : e.2 = 0
    · rw [if_pos c] at h
      have h := Prod.mk.inj (Option.some.inj h)
      refine .inl ⟨[], e.1, r, ?_, ?_, ?_⟩
      · rw [← c]; rfl
      · rw [← h.1]; rfl
      · rw [← h.1, ← h.2]
    · rw [if_neg c] at h
      cases sc : scanTo fr e.1 r (b + 1) with
      | some q =>
        rw [sc] at h
        have h := Prod.mk.inj (Option.some.inj h)
        obtain ⟨B, m, C, e1, e2, e3⟩ := scan_some sc
        refine .inr ⟨[], e.1, e.2, B, m, C, by rw [e1]; rfl, by rw [← h.1]; rfl, by rw [← h.2, ← h.1, e2], e3⟩
      | none =>
        rw [sc] at h
        rcases melt_some h with ⟨A, k, C, e1, e2, e3⟩ | ⟨A, k, n, B, m, C, e1, e2, e3, e4⟩
        · exact .inl ⟨e :: A, k, C, by rw [e1]; rfl, by rw [e2, List.length_cons]; omega, e3⟩
        · exact .inr ⟨e :: A, k, n, B, m, C, by rw [e1]; rfl, by rw [e2, List.length_cons]; omega, e3, e4⟩
theorem melt_none {T : Tab} : ∀ {l : List (Str × Int)} {b : Nat}, meltGo T.fr l b = none → Irr T l
  | [], b, h => ⟨fun _ z => (nomatch z), fun A k n B m C e => by cases A <;> cases e⟩
  | e :: r, b, h => by
    rw [melt_cons] at h
    by_cases c : e.2 = 0
    · rw [if_pos c] at h
      cases h
    · rw [if_neg c] at h
      cases sc : scanTo T.fr e.1 r (b + 1) with
      | some q => rw [sc] at h; cases h
      | none =>
        rw [sc] at h
        have I := melt_none h
        refine ⟨fun x hx => ?_, fun A k n B m C eq => ?_⟩
        · rcases List.mem_cons.mp hx with rfl | hx
          · exact c
          · exact I.nz x hx
        · cases A with
          | nil =>
            obtain ⟨e1, e2⟩ := List.cons.inj eq
            subst e1
            exact scan_none sc B m C e2
          | cons x A =>
            obtain ⟨e1, e2⟩ := List.cons.inj eq
            exact I.far A k n B m C e2
/-! what stays -/
def selG {α : Type} (i j : Nat) : List α → Nat → List α
  | [], _ => []
  | e :: r, b => if i < b ∧ b ≠ j then e :: selG i j r (b + 1) else selG i j r (b + 1)
theorem sel_app {α : Type} (i j : Nat) : ∀ (l m : List α) (b : Nat), selG i j (l ++ m) b = selG i j l b ++ selG i j m (b + l.length)
  | [], m, b => rfl
  | e :: r, m, b => by
    have ih := sel_app i j r m (b + 1)
    have eb : b + 1 + r.length = b + (e :: r).length := by rw [List.length_cons]; omega
    show (if i < b ∧ b ≠ j then e :: selG i j (r ++ m) (b + 1) else selG i j (r ++ m) (b + 1)) = (if i < b ∧ b ≠ j then e :: selG i j r (b + 1) else selG i j r (b + 1)) ++ _
    rw [ih, eb]
    by_cases c : i < b ∧ b ≠ j
    · rw [if_pos c, if_pos c]
      rfl
    · rw [if_neg c, if_neg c]
theorem sel_no {α : Type} {i j : Nat} : ∀ {l : List α} {b : Nat}, (∀ q, b ≤ q → q < b + l.length → ¬ (i < q ∧ q ≠ j)) → selG i j l b = []
  | [], b, _ => rfl
  | e :: r, b, h => by
    show (if i < b ∧ b ≠ j then _ else _) = _
    rw [List.length_cons] at h
    rw [if_neg (h b (Nat.le_refl _) (by omega))]
    exact sel_no fun q h1 h2 => h q (by omega) (by omega)
theorem sel_yes {α : Type} {i j : Nat} : ∀ {l : List α} {b : Nat}, (∀ q, b ≤ q → q < b + l.length → i < q ∧ q ≠ j) → selG i j l b = l
  | [], b, _ => rfl
  | e :: r, b, h => by
    show (if i < b ∧ b ≠ j then _ else _) = _
    rw [List.length_cons] at h
    rw [if_pos (h b (Nat.le_refl _) (by omega)), sel_yes fun q h1 h2 => h q (by omega) (by omega)]
theorem sel_len {α : Type} (i j : Nat) : ∀ (l : List α) (b : Nat), (selG i j l b).length ≤ l.length
  | [], _ => Nat.le_refl _
  | e :: r, b => by
    have ih := sel_len i j r (b + 1)
    show (if i < b ∧ b ≠ j then e :: selG i j r (b + 1) else selG i j r (b + 1)).length ≤ _
    rw [List.length_cons]
    split
    · rw [List.length_cons]; omega
    · omega
theorem sel_map {α β : Type} (f : α → β) (i j : Nat) : ∀ (l : List α) (b : Nat), (selG i j l b).map f = selG i j (l.map f) b
  | [], _ => rfl
  | e :: r, b => by
    have ih := sel_map f i j r (b + 1)
    show (if i < b ∧ b ≠ j then e :: selG i j r (b + 1) else selG i j r (b + 1)).map f = (if i < b ∧ b ≠ j then f e :: selG i j (r.map f) (b + 1) else selG i j (r.map f) (b + 1))
    by_cases c : i < b ∧ b ≠ j
    · rw [if_pos c, if_pos c, List.map_cons, ih]
    · rw [if_neg c, if_neg c, ih]
theorem sel_mem {α : Type} {i j : Nat} {x : α} : ∀ {l : List α} {b : Nat}, x ∈ selG i j l b → x ∈ l
  | [], b, h => by cases h
  | e :: r, b, h => by
    have h : x ∈ (if i < b ∧ b ≠ j then e :: selG i j r (b + 1) else selG i j r (b + 1)) := h
    split at h
    · rcases List.mem_cons.mp h with rfl | h
      · exact List.mem_cons_self
      · exact List.mem_cons_of_mem _ (sel_mem h)
    · exact List.mem_cons_of_mem _ (sel_mem h)
/-- the row that is left of one where two melt, or one goes -/
def stepAt (l : List (Str × Int)) (i j : Nat) (x y : Str × Int) : List (Str × Int) := l.take i ++ (if i < j then [(x.1, x.2 + y.2)] else []) ++ selG i j l 0
theorem step_ok {T : Tab} {l : List (Str × Int)} {i j : Nat} {x y : Str × Int} (h : meltF T.fr l = some (i, j)) (hk : ∀ e ∈ l, e.1 ∈ T.ks) (hx : l[i]? = some x) (hy : l[j]? = some y) :
    pil T (stepAt l i j x y) = pil T l ∧ (stepAt l i j x y).length < l.length ∧ ∀ e ∈ stepAt l i j x y, e.1 ∈ T.ks := by
  rcases melt_some h with ⟨A, k, C, e1, e2, e3⟩ | ⟨A, k, n, B, m, C, e1, e2, e3, e4⟩
  · have ei : i = A.length := by omega
    have se : stepAt l i j x y = A ++ C := by
      unfold stepAt
      rw [if_neg (by omega), e1, ei, List.take_left, List.append_nil, sel_app]
      rw [sel_no fun q h1 h2 => by omega]
      show A ++ ([] ++ selG A.length j ((k, 0) :: C) (0 + A.length)) = _
      rw [List.nil_append]
      show A ++ (if A.length < 0 + A.length ∧ 0 + A.length ≠ j then _ else selG A.length j C (0 + A.length + 1)) = _
      rw [if_neg (by omega), sel_yes fun q h1 h2 => by omega]
    rw [se]
    refine ⟨?_, ?_, fun e he => hk e ?_⟩
    · rw [e1]
      exact (pil_zero fun e he => hk e (by rw [e1]; exact List.mem_append_left _ he)).symm
    · rw [e1, List.length_append, List.length_append, List.length_cons]
      omega
    · rw [e1]
      rcases List.mem_append.mp he with he | he
      · exact List.mem_append_left _ he
      · exact List.mem_append_right _ (List.mem_cons_of_mem _ he)
  · have ei : i = A.length := by omega
    have ej : j = A.length + 1 + B.length := by omega
    have ex : x = (k, n) := by
      rw [e1, ei] at hx
      simpa using hx.symm
    have ey : y = (k, m) := by
      rw [e1, ej, List.getElem?_append_right (by omega), show A.length + 1 + B.length - A.length = B.length + 1 from by omega, List.cons_append, List.getElem?_cons_succ, List.getElem?_append_right (Nat.le_refl _), Nat.sub_self] at hy
      exact (Option.some.inj hy).symm
    have se : stepAt l i j x y = A ++ ((k, n + m) :: B ++ C) := by
      unfold stepAt
      rw [if_pos (by omega), ex, ey, e1, ei, List.take_left, sel_app]
      rw [sel_no (l := A) fun q h1 h2 => by omega, List.nil_append]
      show A ++ [(k, n + m)] ++ (if A.length < 0 + A.length ∧ 0 + A.length ≠ j then _ else selG A.length j (B ++ (k, m) :: C) (0 + A.length + 1)) = _
      rw [if_neg (by omega), sel_app, sel_yes (l := B) fun q h1 h2 => by omega]
      show A ++ [(k, n + m)] ++ (B ++ (if A.length < 0 + A.length + 1 + B.length ∧ 0 + A.length + 1 + B.length ≠ j then _ else selG A.length j C (0 + A.length + 1 + B.length + 1))) = _
      rw [if_neg (by omega), sel_yes (l := C) fun q h1 h2 => by omega]
      simp
    rw [se]
    have hA : ∀ e ∈ A, e.1 ∈ T.ks := fun e he => hk e (by rw [e1]; exact List.mem_append_left _ he)
    have kk : k ∈ T.ks := hk (k, n) (by rw [e1]; exact List.mem_append_right _ List.mem_cons_self)
    refine ⟨?_, ?_, fun e he => ?_⟩
    · rw [e1]
      exact (pil_melt hA kk e4).symm
    · rw [e1]
      simp only [List.length_append, List.length_cons]
      omega
    · rcases List.mem_append.mp he with he | he
      · exact hA e he
      · rcases List.mem_cons.mp he with rfl | he
        · exact kk
        · refine hk e ?_
          rw [e1]
          refine List.mem_append_right _ (List.mem_cons_of_mem _ ?_)
          rcases List.mem_append.mp he with he | he
          · exact List.mem_append_left _ he
          · exact List.mem_append_right _ (List.mem_cons_of_mem _ he)
theorem melt_in {fr : Str → Str → Bool} {l : List (Str × Int)} {i j : Nat} (h : meltF fr l = some (i, j)) : i < l.length ∧ j < l.length ∧ i ≤ j := by
  rcases melt_some h with ⟨A, k, C, e1, e2, e3⟩ | ⟨A, k, n, B, m, C, e1, e2, e3, e4⟩
  · rw [e1, List.length_append, List.length_cons]
    omega
  · rw [e1]
    simp only [List.length_append, List.length_cons]
    omega
end MT
end

section
set_option Elab.async false
set_option linter.all false
set_option maxRecDepth 100000
set_option maxHeartbeats 2000000
namespace L2.Und
open PySem PySem.Spec PyProof.Rows _root_.Und
open L2.KS SX MT
open PySem.W (findIn keepIn typeIn subIn)
/-! ### _law_melting -/
abbrev sMelt : Stmt := topS 54
abbrev nMelt : List Str := ["_law_pairs_here", "_law_row_here", "_law_at", "_law_kind", "_law_count_here", "_law_to"]
theorem scMelt : FnScope nMelt ["_law_pairs_here", "_law_row_here"] (defScope sMelt) := ⟨rfl, rfl, rfl, by decide +kernel, rfl, by decide +kernel, by decide +kernel⟩
/-- an item of a list or tuple -/
def rIxA (K : PySem.W.Frag) : R2 := fun x y H Q => ∃ p xs i v, x = .ref p ∧ y = .int i ∧ SqA K H p xs ∧ atI xs i = some v ∧ Q v H
theorem ix_any {X : Cx} : IxR X (rIxA X.K) := fun value slice pins s σ H x y v u Q I rx ry h hs => (ix_list.or ix_tup) value slice pins s σ H x y v u Q I rx ry (by
  obtain ⟨p, xs, i, z, e1, e2, hq, e3, q⟩ := h
  exact hq.elim (fun hq => .inl ⟨p, xs, i, z, e1, e2, hq, e3, q⟩) fun hq => .inr ⟨p, xs, i, z, e1, e2, hq, e3, q⟩) hs
def spMelt (K : PySem.W.Frag) : Sp := fun vs H Q _ => ∃ (a r : Addr) (PL : PA2') (L : SyL), vs = [.ref a, .ref r] ∧ SqL K H a (PL.map fun e => V.ref e.1) ∧ Prs2 K H PL ∧ SqA K H r (refsOf L) ∧ Syls K H L ∧ (∀ e ∈ L, PyData.strOk e.2.1 = true) ∧ L.length ≤ 5000 ∧
  (meltF (isFree (PL.map (·.2))) (sylsOf L) = none → ∀ H', Same H H' → Q .non H') ∧
  (∀ i j, meltF (isFree (PL.map (·.2))) (sylsOf L) = some (i, j) → ∀ (t : Addr) (H' : Hp), Same H H' → H' t = some (.tup [.int (i : Int), .int (j : Int)]) → Q (.ref t) H')
section
variable {P : Program} {w : World} {K : PySem.W.Frag} {mg : Str → Option Value} {base : Heap}
theorem okMelt {f fF : Addr} {fd fdF : FuncData} (F : Fun K "_law_melting" "_law_melting" sMelt f fd) (GF : FnOk P w K mg base CX0 1 fF fdF ["_law_pairs_here", "_law_one", "_law_other"] (spLFree K)) (mF : mg "_law_is_free" = some (.ref fF)) (kF : keepIn K (.ref fF) = true) (bF : Binds K fdF ["_law_pairs_here", "_law_one", "_law_other"] [])
    (mE : mg "enumerate" = none) (mR : mg "range" = none) (mN : mg "len" = none) : FnOk P w K mg base CX0 2 f fd ["_law_pairs_here", "_law_row_here"] (spMelt K) := by
  refine F.ok scMelt (fun vs H Q E h => ?_) (fun cdv A outer s H vs Q E hr h => ?_)
  · obtain ⟨a, r, PL, L, rfl, _⟩ := h
    rfl
  refine ⟨_, pss_cons (ps_for PassesOwn.never rfl (pi_enumA rfl mE (pa_cons (pv 1) pa_nil)) (pg_tup rfl (pgs_cons (pg_name (i := 2) scMelt.nd rfl (Or.inl rfl)) (pgs_cons (pg_tup rfl (pgs_cons (pg_name (i := 3) scMelt.nd rfl (Or.inl rfl)) (pgs_cons (pg_name (i := 4) scMelt.nd rfl (Or.inl rfl)) pgs_nil))) pgs_nil)))
      (pss_cons (ps_if (pt_cmpR op_eq (pv 4) pe_int (nomark _)) (pss_one (ps_ret (pe_tup (pa_cons (pv 2) (pa_cons (pv 2) pa_nil))))) pss_nil)
      (pss_one (ps_for PassesOwn.never rfl (pi_range2 rfl mR (pa_cons (pe_op op_add (pv 2) pe_int) (pa_cons (pe_callB call_len_seq rfl mN PySem.boot_len (pa_cons (pv 1) pa_nil)) pa_nil))) (pg_name (i := 5) scMelt.nd rfl (Or.inl rfl))
        (pss_cons (ps_if (pt_cmpR op_eq (pe_ix ix_tup (pe_ix (show IxR _ (rIxA K) from ix_any) (pv 1) (pv 5) (fun _ _ => rfl)) pe_int (fun _ _ => rfl)) (pv 3) (nomark _)) (pss_one (ps_ret (pe_tup (pa_cons (pv 2) (pa_cons (pv 5) pa_nil))))) pss_nil)
        (pss_one (ps_if (pt_not (pt_val (pe_call GF hr rfl mF kF bF .nil pass0 (pa_cons (pv 0) (pa_cons (pv 3) (pa_cons (pe_ix ix_tup (pe_ix (show IxR _ (rIxA K) from ix_any) (pv 1) (pv 5) (fun _ _ => rfl)) pe_int (fun _ _ => rfl)) pa_nil)))))) (pss_one ps_break) pss_nil)))))))
    (pss_one (ps_ret pe_non)), ?_⟩
  obtain ⟨a, r, PL, L, rfl, ha, hP, hr', hL, ok, l5, q0, q1⟩ := h
  have big : (100000 : Nat) ≤ sizeLine := by decide
  have LL : (refsOf L).length = L.length := List.length_map ..
  obtain ⟨fr, efr⟩ : ∃ fr, isFree (PL.map (·.2)) = fr := ⟨_, rfl⟩
  rw [efr] at q0 q1
  have hA : SqA K H r (refsOf L) := hr'
  rcases hr' with hl | ht
  case' inl => refine .inl ⟨_, rfl, r, _, rfl, hl, for_it (walk_enum (K := K) (a := r) (xs := refsOf L)) (fun i σ H' => Same H H' ∧ (∃ x2 x3 x4 x5, σ = [some (.ref a), some (.ref r), x2, x3, x4, x5]) ∧ meltF fr (sylsOf L) = meltGo fr ((sylsOf L).drop i) i) ⟨Same.refl _, ⟨_, _, _, _, rfl⟩, rfl⟩ (fun i σ H' _ h => h.1.seq hl) ?_ ?_⟩
  case' inr => refine .inr ⟨_, rfl, r, _, rfl, ht, for_it (walkEt (K := K) (a := r) (xs := refsOf L)) (fun i σ H' => Same H H' ∧ (∃ x2 x3 x4 x5, σ = [some (.ref a), some (.ref r), x2, x3, x4, x5]) ∧ meltF fr (sylsOf L) = meltGo fr ((sylsOf L).drop i) i) ⟨Same.refl _, ⟨_, _, _, _, rfl⟩, rfl⟩ (fun i σ H' _ h => Same.tup h.1 ht) ?_ ?_⟩
  iterate 2
    · rintro i v σ H1 H2 hi ⟨s1, ⟨x2, x3, x4, x5, rfl⟩, mg'⟩ ⟨T6, y1, y2, rfl, nT6, rfl, h1, h2⟩
      rw [LL] at hi
      have h2 : (refsOf L)[i]? = some y2 := h2
      obtain ⟨e, he, rfl⟩ := refs_at h2
      cases Option.some.inj h1
      have em := List.mem_of_getElem? he
      have he2 : (sylsOf L)[i]? = some e.2 := by rw [List.getElem?_map, he]; rfl
      have lS : (sylsOf L).length = L.length := List.length_map ..
      have dr : (sylsOf L).drop i = e.2 :: (sylsOf L).drop (i + 1) := by
        rw [List.drop_eq_getElem_cons (by omega)]
        rw [List.getElem?_eq_getElem (by omega)] at he2
        rw [Option.some.inj he2]
      rw [dr, melt_cons] at mg'
      have s2 := s1.trans (sameNew (o := .tup [V.int ((i : Nat) : Int), .ref e.1]) nT6)
      have t6 : upd H1 T6 (.tup [V.int ((i : Nat) : Int), .ref e.1]) T6 = some (.tup [V.int ((i : Nat) : Int), .ref e.1]) := upd_same
      generalize upd H1 T6 (.tup [V.int ((i : Nat) : Int), .ref e.1]) = H2 at s2 t6
      refine ⟨T6, _, rfl, SqT.of t6, rfl, _, _, rfl, _, _, rfl, e.1, _, rfl, Same.tup s2 (hL e em), rfl, _, _, rfl, _, _, rfl, rfl, rfl, ?_⟩
      refine ⟨_, rfl, rfl, _, rfl, ?_⟩
      by_cases c0 : e.2.2 = 0
      · rw [if_pos c0] at mg'
        rw [decide_eq_true (show V.int e.2.2 = V.int 0 by rw [c0])]
        exact iteT ⟨_, rfl, _, rfl, (by show 2 ≤ sizeLine; decide), fun t nt => q1 i i mg' t _ (s2.trans (sameNew nt)) upd_same⟩
      rw [if_neg c0] at mg'
      rw [decide_eq_false (show ¬ V.int e.2.2 = V.int 0 from fun z => c0 (V.int.inj z))]
      refine iteF ⟨_, rfl, _, _, rfl, rfl, _, rfl, r, _, rfl, hA.same s2, ?_⟩
      have b62 : (100000 : Int) < 2 ^ 62 := by decide
      have nn : (((refsOf L).length : Int) - (((i : Nat) : Int) + 1)).toNat = L.length - (i + 1) := by rw [LL]; omega
      refine ⟨_, _, rfl, ⟨by omega, by omega, by omega, by omega⟩, ?_⟩
      rw [nn]
      refine for_range (lo := ((i : Nat) : Int) + 1) (n := L.length - (i + 1)) (fun j σ H' => Same H H' ∧ (∃ x5, σ = [some (.ref a), some (.ref r), some (.int ((i : Nat) : Int)), some (.str e.2.1), some (.int e.2.2), x5]) ∧
          scanTo fr e.2.1 ((sylsOf L).drop (i + 1)) (i + 1) = scanTo fr e.2.1 ((sylsOf L).drop (i + 1 + j)) (i + 1 + j)) ⟨s2, ⟨_, rfl⟩, rfl⟩ ?_ ?_
      · rintro j σ H3 hj ⟨s3, ⟨x5, rfl⟩, sc⟩
        obtain ⟨e', he'⟩ : ∃ e', L[i + 1 + j]? = some e' := ⟨_, List.getElem?_eq_getElem (by omega)⟩
        have em' := List.mem_of_getElem? he'
        have he2' : (sylsOf L)[i + 1 + j]? = some e'.2 := by rw [List.getElem?_map, he']; rfl
        have dr' : (sylsOf L).drop (i + 1 + j) = e'.2 :: (sylsOf L).drop (i + 1 + j + 1) := by
          rw [List.drop_eq_getElem_cons (by omega)]
          rw [List.getElem?_eq_getElem (by omega)] at he2'
          rw [Option.some.inj he2']
        rw [dr', scan_cons] at sc
        have ei : ((i : Nat) : Int) + 1 + ((j : Nat) : Int) = ((i + 1 + j : Nat) : Int) := by omega
        rw [ei]
        have at1 : atI (refsOf L) ((i + 1 + j : Nat) : Int) = some (.ref e'.1) := atI_nat (by rw [List.getElem?_map, he']; rfl)
        refine ⟨_, rfl, _, rfl, r, _, _, .ref e'.1, rfl, rfl, hA.same s3, at1, e'.1, _, _, _, rfl, rfl, Same.tup s3 (hL e' em'), rfl, _, rfl, rfl, _, rfl, ?_⟩
        by_cases ck : e'.2.1 = e.2.1
        · rw [if_pos ck] at sc
          rw [decide_eq_true (show V.str e'.2.1 = V.str e.2.1 by rw [ck])]
          rw [sc] at mg'
          exact iteT ⟨_, rfl, _, rfl, (by show 2 ≤ sizeLine; decide), fun t nt => q1 i (i + 1 + j) mg' t _ (s3.trans (sameNew nt)) upd_same⟩
        · rw [if_neg ck] at sc
          rw [decide_eq_false (show ¬ V.str e'.2.1 = V.str e.2.1 from fun z => ck (V.str.inj z))]
          refine iteF ⟨_, rfl, _, rfl, _, rfl, _, rfl, r, _, _, .ref e'.1, rfl, rfl, hA.same s3, at1, e'.1, _, _, _, rfl, rfl, Same.tup s3 (hL e' em'), rfl, a, PL, e.2.1, e'.2.1, rfl, s3.seq ha, hP.same s3, ok e em, ok e' em', fun H4 s4 => ⟨_, rfl, ?_⟩⟩
          rw [efr]
          cases cf : fr e.2.1 e'.2.1 with
          | true =>
            rw [if_pos cf] at sc
            exact iteF ⟨s3.trans s4, ⟨_, rfl⟩, sc⟩
          | false =>
            rw [if_neg (by rw [cf]; exact Bool.false_ne_true)] at sc
            rw [sc] at mg'
            exact iteT ⟨s3.trans s4, ⟨_, _, _, _, rfl⟩, mg'⟩
      · rintro σ H3 ⟨s3, ⟨x5, rfl⟩, sc⟩
        rw [List.drop_of_length_le (show (sylsOf L).length ≤ i + 1 + (L.length - (i + 1)) by omega)] at sc
        have sc : scanTo fr e.2.1 ((sylsOf L).drop (i + 1)) (i + 1) = none := sc
        rw [sc] at mg'
        exact ⟨s3, ⟨_, _, _, _, rfl⟩, mg'⟩
    · rintro σ H1 ⟨s1, ⟨x2, x3, x4, x5, rfl⟩, mg'⟩
      rw [List.drop_of_length_le (by rw [List.length_map, LL]; exact Nat.le_refl _)] at mg'
      exact q0 mg' H1 s1
end
end L2.Und
end

section
set_option Elab.async false
set_option linter.all false
set_option maxRecDepth 100000
set_option maxHeartbeats 2000000
namespace L2.Und
open PySem PySem.Spec PyProof.Rows _root_.Und
open L2.KS SX MT
open PySem.W (findIn keepIn typeIn subIn)
/-! ### _law_short -/
abbrev sShort : Stmt := topS 55
def whileBody : Stmt → List Stmt
  | .While _ b _ _ => b
  | _ => []
abbrev shortBody : List Stmt := whileBody ((defBody sShort).getD 1 (.Pass ⟨0, 0, 0, 0⟩))
abbrev nShort : List Str := ["_law_pairs_here", "_law_row_here", "_law_pair", "_law_at", "_law_to", "_law_rest", "_law_place", "_law_one"]
theorem scShort : FnScope nShort ["_law_pairs_here", "_law_row_here"] (defScope sShort) := ⟨rfl, rfl, rfl, by decide +kernel, rfl, by decide +kernel, by decide +kernel⟩
/-- a row of a law, and its pairs -/
structure LawRow (K : PySem.W.Frag) (a r : Addr) (PL : PA2') (ks : List Str) (L : SyL) (H : Hp) : Prop where
  prs : SqL K H a (PL.map fun e => V.ref e.1)
  prs2 : Prs2 K H PL
  pok : ∀ p ∈ PL.map (·.2), p.1 ∈ ks ∧ p.2 ∈ ks ∧ p.1 ≠ p.2
  row : SqA K H r (refsOf L)
  syl : Syls K H L
  known : ∀ e ∈ L, e.2.1 ∈ ks
  kok : ∀ k ∈ ks, PyData.strOk k = true
  few : L.length ≤ 5000
abbrev lawT (ks : List Str) (PL : PA2') : FM.Tab := tabT ks (PL.map (·.2))
theorem LawRow.fr {K : PySem.W.Frag} {a r : Addr} {PL : PA2'} {ks : List Str} {L : SyL} {H : Hp} (z : LawRow K a r PL ks L H) : isFree (PL.map (·.2)) = (lawT ks PL).fr := by
  funext x y
  exact (frT z.pok x y).symm
def spShort (K : PySem.W.Frag) : Sp := fun vs H Q _ => ∃ (a r : Addr) (PL : PA2') (ks : List Str) (L : SyL), vs = [.ref a, .ref r] ∧ LawRow K a r PL ks L H ∧
  ∀ (q : Addr) (L' : SyL) (H' : Hp), Same H H' → H' q = some (.lst (refsOf L')) → Syls K H' L' → FM.Irr (lawT ks PL) (sylsOf L') → FM.pil (lawT ks PL) (sylsOf L') = FM.pil (lawT ks PL) (sylsOf L) → (∀ e ∈ L', e.2.1 ∈ ks) → L'.length ≤ L.length → Q (.ref q) H'
/-- how long the list is that stands in a slot -/
def lenAt (H : Hp) (v : Option (Option V)) : Nat := match v with
  | some (some (V.ref r)) => (match H r with | some (HO.lst xs) => xs.length | _ => 0)
  | _ => 0
theorem lenAt_of {H : Hp} {r : Addr} {xs : List V} (e : H r = some (.lst xs)) : lenAt H (some (some (.ref r))) = xs.length := by
  unfold lenAt
  dsimp only
  rw [e]
/-- what _law_melting gave -/
def Given (fr : Str → Str → Bool) (l : List (Str × Int)) (v : V) (H : Hp) : Prop := (meltF fr l = none ∧ v = .non) ∨ ∃ i j t, meltF fr l = some (i, j) ∧ v = .ref t ∧ H t = some (.tup [.int ((i : Nat) : Int), .int ((j : Nat) : Int)])
theorem Given.same {fr : Str → Str → Bool} {l : List (Str × Int)} {v : V} {H H' : Hp} (g : Given fr l v H) (s : Same H H') : Given fr l v H' := by
  rcases g with g | ⟨i, j, t, e1, e2, e3⟩
  · exact .inl g
  · exact .inr ⟨i, j, t, e1, e2, s _ _ e3⟩
theorem spMelt_of {K : PySem.W.Frag} {a r : Addr} {PL : PA2'} {L : SyL} {H : Hp} {Q : VK} {E : XK} (ha : SqL K H a (PL.map fun e => V.ref e.1)) (hP : Prs2 K H PL) (hr : SqA K H r (refsOf L)) (hL : Syls K H L) (ok : ∀ e ∈ L, PyData.strOk e.2.1 = true) (l5 : L.length ≤ 5000)
    (h : ∀ v H', Same H H' → Given (isFree (PL.map (·.2))) (sylsOf L) v H' → Q v H') : spMelt K [.ref a, .ref r] H Q E :=
  ⟨a, r, PL, L, rfl, ha, hP, hr, hL, ok, l5, fun e H' s => h .non H' s (.inl ⟨e, rfl⟩), fun i j e t H' s et => h (.ref t) H' s (.inr ⟨i, j, t, e, rfl, et⟩)⟩
section
variable {P : Program} {w : World} {K : PySem.W.Frag} {mg : Str → Option Value} {base : Heap}
theorem cutRefs {M : SyL} {i : Nat} (h : i ≤ M.length) : cutV (refsOf M) none (some (i : Int)) = refsOf (M.take i) := by
  unfold cutV
  rw [HT.sIx_none, HT.sIx_nat, List.length_map, Nat.min_eq_left h, List.drop_zero, Nat.sub_zero]
  exact (List.map_take ..).symm
theorem shortTail {f fM : Addr} {fdM : FuncData} {cdv : Value} {A : Around} {outer : List Env} {s : Shared} {H : Hp} {E : XK} (hr : Room 2 (A.deeper (envOfC "_law_short" (defScope sShort) s.heap.objs.size f cdv)))
    (GM : FnOk P w K mg base CX0 2 fM fdM ["_law_pairs_here", "_law_row_here"] (spMelt K)) (mM : mg "_law_melting" = some (.ref fM)) (kM : keepIn K (.ref fM) = true) (bM : Binds K fdM ["_law_pairs_here", "_law_row_here"] []) (mE : mg "enumerate" = none) :
    ∃ tr, PSs (cxOf CX0 P w K mg base nShort "_law_short" (defScope sShort) f cdv A outer s H E).nox (shortBody.drop 2) tr ∧
      ∀ (D : Ends) (a rr wl : Addr) (i j : Nat) (PL : PA2') (M R : SyL) (x2 x6 x7 : Option V) (H1 : Hp), SqL K H1 a (PL.map fun e => V.ref e.1) → Prs2 K H1 PL → H1 rr = some (.lst (refsOf M)) → Syls K H1 M → H1 wl = some (.lst (refsOf R)) → Syls K H1 R → R.length ≤ 1 → i ≤ M.length → M.length ≤ 5000 →
        (∀ e ∈ M.take i ++ R ++ selG i j M 0, PyData.strOk e.2.1 = true) → (M.take i ++ R ++ selG i j M 0).length ≤ 5000 →
        (∀ H' r2 v x5, Same H1 H' → H' r2 = some (.lst (refsOf (M.take i ++ R ++ selG i j M 0))) → Given (isFree (PL.map (·.2))) (sylsOf (M.take i ++ R ++ selG i j M 0)) v H' → D.nx [some (.ref a), some (.ref r2), some v, some (.int ((i : Nat) : Int)), some (.int ((j : Nat) : Int)), x5, x6, x7] H') →
        tr D [some (.ref a), some (.ref rr), x2, some (.int ((i : Nat) : Int)), some (.int ((j : Nat) : Int)), some (.ref wl), x6, x7] H1 := by
  refine ⟨_, pss_cons (ps_set (i := 1) scShort.nd rfl (Or.inl rfl) (pe_op op_cat (pe_op op_cat (pe_slice sl_list (pv 1) po_none (po_some (pv 3))) (pv 5))
          (pe_lc (own := [("_law_place", 6), ("_law_one", 7)]) (g := gTup K 2 (gCons (gName 6) (gCons (gName 7) gNil))) rfl scShort.nd (pi_enum rfl mE (pa_cons (pv 1) pa_nil)) (blkOk_by (N := nShort) (sc := defScope sShort) (by decide +kernel))
            (fun _ _ _ _ _ => pg_tup rfl (pgs_cons (pg_name (i := 6) scShort.nd rfl (Or.inl rfl)) (pgs_cons (pg_name (i := 7) scShort.nd rfl (Or.inl rfl)) pgs_nil)))
            (fun _ _ _ _ _ => pts_one (PW.pt (pw_and (pt_cmpR op_gt (pv 6) (pv 3) (nomark _)) (pw_and1 (pt_cmpR op_ne (pv 6) (pv 4) (nomark _)))))) (fun _ _ _ _ _ => pv 7))))
      (pss_one (ps_set (i := 2) scShort.nd rfl (Or.inl rfl) (pe_call GM hr rfl mM kM bM .nil pass0 (pa_cons (pv 0) (pa_cons (pv 1) pa_nil))))), ?_⟩
  intro D a rr wl i j PL M R x2 x6 x7 H1 ha hP eM sM eR sR lR hi l5 ok lN q
  have big : (100000 : Nat) ≤ sizeLine := by decide
  have LL : (refsOf M).length = M.length := List.length_map ..
  have LR : (refsOf R).length = R.length := List.length_map ..
  refine ⟨_, rfl, _, rfl, _, rfl, rr, _, rfl, SqL.of eM, fun p np => ?_⟩
  rw [cutRefs hi]
  have s2 := sameNew (o := .lst (refsOf (M.take i))) np
  have ep : upd H1 p (.lst (refsOf (M.take i))) p = some (.lst (refsOf (M.take i))) := upd_same
  generalize upd H1 p (.lst (refsOf (M.take i))) = H2 at s2 ep
  have LT : (refsOf (M.take i)).length = i := by rw [List.length_map, List.length_take]; omega
  refine ⟨_, rfl, p, wl, _, _, rfl, rfl, ep, s2 _ _ eR, by rw [LT, LR]; omega, fun u nu => ?_⟩
  have s3 := s2.trans (sameNew (o := .lst (refsOf (M.take i) ++ refsOf R)) nu)
  have eu : upd H2 u (.lst (refsOf (M.take i) ++ refsOf R)) u = some (.lst (refsOf (M.take i ++ R))) := by
    rw [upd_same]
    show _ = some (HO.lst (List.map _ _))
    rw [List.map_append]
  generalize upd H2 u (.lst (refsOf (M.take i) ++ refsOf R)) = H3 at s3 eu
  refine ⟨_, rfl, rr, _, rfl, SqL.of (s3 _ _ eM), fun G nG => ?_⟩
  have nG1 : H1 G = none := s3.free nG
  have uG : u ≠ G := fun e => by rw [← e, eu] at nG; cases nG
  refine lc_it (walk_enum (K := K) (a := rr) (xs := refsOf M)) (fun p H' => Same H3 H' ∧ H' G = some (.lst (refsOf (selG i j (M.take p) 0)))) ⟨sameNew nG, upd_same⟩ (fun p H' _ h => SqL.of (h.1 _ _ (s3 _ _ eM))) ?_ ?_
  · rintro p v H4 H5 hp ⟨s4, eG⟩ ⟨T6, y1, y2, rfl, nT6, rfl, h1, h2⟩
    rw [LL] at hp
    have h2 : (refsOf M)[p]? = some y2 := h2
    obtain ⟨e, he, rfl⟩ := refs_at h2
    cases Option.some.inj h1
    have em := List.mem_of_getElem? he
    have tkE : M.take (p + 1) = M.take p ++ [e] := by rw [List.take_succ, he]; rfl
    have lp : (M.take p).length = p := by rw [List.length_take]; omega
    have sE : selG i j (M.take (p + 1)) 0 = selG i j (M.take p) 0 ++ if i < p ∧ p ≠ j then [e] else [] := by
      rw [tkE, sel_app, lp, Nat.zero_add]
      rfl
    have sT := sameNew (o := .tup [V.int ((p : Nat) : Int), .ref e.1]) nT6
    have t6 : upd H4 T6 (.tup [V.int ((p : Nat) : Int), .ref e.1]) T6 = some (.tup [V.int ((p : Nat) : Int), .ref e.1]) := upd_same
    have s5 := s4.trans sT
    have eG5 := sT _ _ eG
    generalize upd H4 T6 (.tup [V.int ((p : Nat) : Int), .ref e.1]) = H5 at sT t6 s5 eG5
    refine ⟨T6, _, rfl, SqT.of t6, rfl, _, _, rfl, _, _, rfl, rfl, rfl, _, rfl, _, rfl, _, _, rfl, rfl, _, rfl, ?_⟩
    have lsel := sel_len i j (M.take p) 0
    rw [lp] at lsel
    by_cases c1 : i < p
    · rw [decide_eq_true (show ((p : Nat) : Int) > ((i : Nat) : Int) by omega)]
      refine iteT ⟨_, rfl, _, rfl, rfl, _, rfl, ?_⟩
      by_cases c2 : p = j
      · rw [decide_eq_true (show V.int ((p : Nat) : Int) = V.int ((j : Nat) : Int) by rw [c2])]
        rw [if_neg (fun z => z.2 c2), List.append_nil] at sE
        exact iteF ⟨s5, by rw [sE]; exact eG5⟩
      · rw [decide_eq_false (show ¬ V.int ((p : Nat) : Int) = V.int ((j : Nat) : Int) from fun z => c2 (by have := V.int.inj z; omega))]
        rw [if_pos ⟨c1, c2⟩] at sE
        refine iteT ⟨_, rfl, _, eG5, by rw [List.length_map]; omega, Same.upd s5 nG, ?_⟩
        rw [upd_same, sE]
        show _ = some (HO.lst (List.map _ _))
        rw [List.map_append]
        rfl
    · rw [decide_eq_false (show ¬ ((p : Nat) : Int) > ((i : Nat) : Int) by omega)]
      rw [if_neg (fun z => c1 z.1), List.append_nil] at sE
      exact iteF (iteF ⟨s5, by rw [sE]; exact eG5⟩)
  · rintro H4 ⟨s4, eG⟩
    rw [LL, List.take_length] at eG
    have lsel := sel_len i j M 0
    have eu4 := s4 _ _ eu
    have lC : (refsOf (M.take i ++ R)).length + (refsOf (selG i j M 0)).length ≤ sizeLine := by
      rw [List.length_map, List.length_map, List.length_append, List.length_take]
      omega
    refine ⟨u, G, _, _, rfl, rfl, eu4, eG, lC, fun r2 nr2 => ?_⟩
    have s5 := (s3.trans s4).trans (sameNew (o := .lst (refsOf (M.take i ++ R) ++ refsOf (selG i j M 0))) nr2)
    have e5 : upd H4 r2 (.lst (refsOf (M.take i ++ R) ++ refsOf (selG i j M 0))) r2 = some (.lst (refsOf (M.take i ++ R ++ selG i j M 0))) := by
      rw [upd_same]
      show _ = some (HO.lst (List.map _ _))
      rw [List.map_append]
    generalize upd H4 r2 (.lst (refsOf (M.take i ++ R) ++ refsOf (selG i j M 0))) = H5 at s5 e5
    obtain ⟨N, eN⟩ : ∃ N, M.take i ++ R ++ selG i j M 0 = N := ⟨_, rfl⟩
    have sN : Syls K H5 N := fun x hx => by
      rw [← eN] at hx
      rcases List.mem_append.mp hx with hx | hx
      · rcases List.mem_append.mp hx with hx | hx
        · exact Same.tup s5 (sM x (List.mem_of_mem_take hx))
        · exact Same.tup s5 (sR x hx)
      · exact Same.tup s5 (sM x (sel_mem hx))
    rw [eN] at e5 q ok lN
    refine ⟨_, rfl, _, rfl, ?_⟩
    dsimp only [tNil]
    exact spMelt_of (s5.seq ha) (hP.same s5) (.inl (SqL.of e5)) sN ok lN fun v H' s' gv => q H' r2 v _ (s5.trans s') (s' _ _ e5) gv
theorem okShort {f fM : Addr} {fd fdM : FuncData} (F : Fun K "_law_short" "_law_short" sShort f fd) (GM : FnOk P w K mg base CX0 2 fM fdM ["_law_pairs_here", "_law_row_here"] (spMelt K)) (mM : mg "_law_melting" = some (.ref fM)) (kM : keepIn K (.ref fM) = true) (bM : Binds K fdM ["_law_pairs_here", "_law_row_here"] [])
    (mE : mg "enumerate" = none) (mL : mg "list" = none) : FnOk P w K mg base CX0 3 f fd ["_law_pairs_here", "_law_row_here"] (spShort K) := by
  refine F.ok scShort (fun vs H Q E h => ?_) (fun cdv A outer s H vs Q E hr h => ?_)
  · obtain ⟨a, r, PL, ks, L, rfl, _⟩ := h
    rfl
  obtain ⟨tl, rl, gl⟩ := shortTail (P := P) (w := w) (K := K) (mg := mg) (base := base) (outer := outer) (H := H) (E := E) hr GM mM kM bM mE
  refine ⟨_, pss_cons (ps_par (i := 1) (j := 2) rfl scShort.nd rfl rfl (by decide) rfl rfl (pa_cons (pe_callTy call_list_of rfl mL PyProof.Rows.Boot.«list» (pa_cons (pv 1) pa_nil)) (pa_cons (pe_call GM hr rfl mM kM bM .nil pass0 (pa_cons (pv 0) (pa_cons (pv 1) pa_nil))) pa_nil)) rfl)
    (pss_cons (ps_while PassesOwn.never (pt_cmpR op_notN (pv 2) pe_non rfl)
      (pss_cons (ps_asg (pv 2) (pg_tup rfl (pgs_cons (pg_name (i := 3) scShort.nd rfl (Or.inr rfl)) (pgs_cons (pg_name (i := 4) scShort.nd rfl (Or.inr rfl)) pgs_nil))))
      (pss_cons (ps_set (i := 5) scShort.nd rfl (Or.inl rfl) (pe_ifExp (pt_cmpR op_lt (pv 3) (pv 4) (nomark _)) (pe_lst (pa_cons (pe_tup (pa_cons (pe_ix ix_tup (pe_ix ix_list (pv 1) (pv 3) (fun _ _ => rfl)) pe_int (fun _ _ => rfl))
          (pa_cons (pe_op op_add (pe_ix ix_tup (pe_ix ix_list (pv 1) (pv 3) (fun _ _ => rfl)) pe_int (fun _ _ => rfl)) (pe_ix ix_tup (pe_ix ix_list (pv 1) (pv 4) (fun _ _ => rfl)) pe_int (fun _ _ => rfl))) pa_nil))) pa_nil)) (pe_lst pa_nil)))
      rl)))
    (pss_one (ps_ret (pv 1)))), ?_⟩
  obtain ⟨a, r, PL, ks, L, rfl, z, q⟩ := h
  have big : (100000 : Nat) ≤ sizeLine := by decide
  obtain ⟨T, eT⟩ : ∃ T, lawT ks PL = T := ⟨_, rfl⟩
  have efr := z.fr
  rw [eT] at efr q
  have kT : ∀ k, k ∈ T.ks ↔ k ∈ ks := fun k => by rw [← eT]; exact memT
  refine ⟨_, rfl, r, _, rfl, z.row, fun r1 nr1 => ?_⟩
  have s1 := sameNew (o := .lst (refsOf L)) nr1
  have e1 : upd H r1 (.lst (refsOf L)) r1 = some (.lst (refsOf L)) := upd_same
  generalize upd H r1 (.lst (refsOf L)) = H1 at s1 e1
  refine ⟨_, rfl, _, rfl, ?_⟩
  dsimp only [tNil]
  refine spMelt_of (s1.seq z.prs) (z.prs2.same s1) (z.row.same s1) (z.syl.same s1) (fun e he => z.kok _ (z.known e he)) z.few fun v H2 s2 gv => ?_
  rw [efr] at gv
  have e2 := s2 _ _ e1
  have s12 := s1.trans s2
  refine ⟨_, _, rfl, while_by (fun σ H' => ∃ rr M v x3 x4 x5 x6 x7, σ = [some (.ref a), some (.ref rr), some v, x3, x4, x5, x6, x7] ∧ Same H H' ∧ H' rr = some (.lst (refsOf M)) ∧ Syls K H' M ∧ (∀ e ∈ M, e.2.1 ∈ ks) ∧ M.length ≤ L.length ∧ FM.pil T (sylsOf M) = FM.pil T (sylsOf L) ∧ Given T.fr (sylsOf M) v H')
    (fun σ H' => lenAt H' σ[1]?) ⟨r1, L, v, _, _, _, _, _, rfl, s12, e2, z.syl.same s12, z.known, Nat.le_refl _, rfl, gv⟩ ?_ ?_⟩
  · rintro σ H3 ⟨rr, M, v, x3, x4, x5, x6, x7, rfl, s3, eM, sM, kM', lM, pM, g3⟩
    have lR : (refsOf M).length = M.length := List.length_map ..
    have mu : lenAt H3 (some (some (V.ref rr))) = M.length := (lenAt_of eM).trans lR
    dsimp only [List.getElem?_cons_succ, List.getElem?_cons_zero]
    rw [mu]
    refine ⟨_, rfl, rfl, _, rfl, ?_⟩
    rcases g3 with ⟨mN, rfl⟩ | ⟨i, j, t, mS, rfl, et⟩
    · exact iteF ⟨_, rfl, q rr M H3 s3 eM sM (melt_none mN) pM kM' lM⟩
    · obtain ⟨li, lj, ij⟩ := melt_in mS
      have lS : (sylsOf M).length = M.length := List.length_map ..
      obtain ⟨x, hx⟩ : ∃ x, M[i]? = some x := ⟨_, List.getElem?_eq_getElem (by omega)⟩
      obtain ⟨y, hy⟩ : ∃ y, M[j]? = some y := ⟨_, List.getElem?_eq_getElem (by omega)⟩
      have xm := List.mem_of_getElem? hx
      have ym := List.mem_of_getElem? hy
      have hx2 : (sylsOf M)[i]? = some x.2 := by rw [List.getElem?_map, hx]; rfl
      have hy2 : (sylsOf M)[j]? = some y.2 := by rw [List.getElem?_map, hy]; rfl
      obtain ⟨p1, p2, p3⟩ := step_ok mS (fun e he => by
        obtain ⟨u, hu, rfl⟩ := List.mem_map.mp he
        exact (kT _).mpr (kM' u hu)) hx2 hy2
      have ax : atI (refsOf M) ((i : Nat) : Int) = some (.ref x.1) := atI_nat (by rw [List.getElem?_map, hx]; rfl)
      have ay : atI (refsOf M) ((j : Nat) : Int) = some (.ref y.1) := atI_nat (by rw [List.getElem?_map, hy]; rfl)
      refine iteT ⟨_, rfl, t, _, rfl, SqT.of et, rfl, _, _, rfl, _, _, rfl, rfl, ?_⟩
      refine ⟨_, rfl, _, rfl, _, _, rfl, rfl, _, rfl, ?_⟩
      have sL : ∀ N : SyL, (∀ e ∈ N, e.2.1 ∈ ks) → ∀ e ∈ N, PyData.strOk e.2.1 = true := fun N hN e he => z.kok _ (hN e he)
      have lM5 : M.length ≤ 5000 := Nat.le_trans lM z.few
      -- the row that is made
      have fin : ∀ (H5 : Hp) (wl : Addr) (R : SyL) (x6 x7 : Option V) (D : Ends), Same H3 H5 → H5 wl = some (.lst (refsOf R)) → Syls K H5 R → R.length ≤ 1 → sylsOf (M.take i ++ R ++ selG i j M 0) = stepAt (sylsOf M) i j x.2 y.2 →
          (∀ σ' H', (∃ rr M v x3 x4 x5 x6 x7, σ' = [some (.ref a), some (.ref rr), some v, x3, x4, x5, x6, x7] ∧ Same H H' ∧ H' rr = some (.lst (refsOf M)) ∧ Syls K H' M ∧ (∀ e ∈ M, e.2.1 ∈ ks) ∧ M.length ≤ L.length ∧ FM.pil T (sylsOf M) = FM.pil T (sylsOf L) ∧ Given T.fr (sylsOf M) v H') ∧ lenAt H' σ'[1]? < M.length → D.nx σ' H') →
          tl D [some (.ref a), some (.ref rr), some (.ref t), some (.int ((i : Nat) : Int)), some (.int ((j : Nat) : Int)), some (.ref wl), x6, x7] H5 := fun H5 wl R x6 x7 D s5 eW sR lR eN nx => by
        obtain ⟨N, eN'⟩ : ∃ N, M.take i ++ R ++ selG i j M 0 = N := ⟨_, rfl⟩
        rw [eN'] at eN
        have lN : N.length < M.length := by
          have h1 := congrArg List.length eN
          rw [List.length_map] at h1
          omega
        have kN : ∀ e ∈ N, e.2.1 ∈ ks := fun e he => (kT _).mp (p3 e.2 (by rw [← eN]; exact List.mem_map.mpr ⟨e, he, rfl⟩))
        have s35 := s3.trans s5
        refine gl D a rr wl i j PL M R _ _ _ H5 (s35.seq z.prs) (z.prs2.same s35) (s5 _ _ eM) (sM.same s5) eW sR lR (by omega) lM5 (by rw [eN']; exact sL N kN) (by rw [eN']; omega) fun H' r2 v x5 s' e2' gv' => ?_
        rw [eN'] at e2' gv'
        rw [efr] at gv'
        have sN : Syls K H' N := fun u hu => by
          rw [← eN'] at hu
          rcases List.mem_append.mp hu with hu | hu
          · rcases List.mem_append.mp hu with hu | hu
            · exact Same.tup (s5.trans s') (sM u (List.mem_of_mem_take hu))
            · exact Same.tup s' (sR u hu)
          · exact Same.tup (s5.trans s') (sM u (sel_mem hu))
        refine nx _ H' ⟨⟨r2, N, v, _, _, _, _, _, rfl, s35.trans s', e2', sN, kN, by omega, by rw [eN, p1, pM], gv'⟩, ?_⟩
        show lenAt H' (some (some (.ref r2))) < M.length
        rw [lenAt_of e2', List.length_map]
        exact lN
      have tkS : sylsOf (M.take i) = (sylsOf M).take i := List.map_take ..
      have selS : sylsOf (selG i j M 0) = selG i j (sylsOf M) 0 := sel_map _ i j M 0
      by_cases c : ((i : Nat) : Int) < ((j : Nat) : Int)
      · rw [decide_eq_true c]
        refine iteT ⟨_, rfl, _, rfl, rr, _, _, .ref x.1, rfl, rfl, SqL.of eM, ax, x.1, _, _, _, rfl, rfl, sM x xm, rfl, _, rfl, _, rfl, rr, _, _, .ref x.1, rfl, rfl, SqL.of eM, ax, x.1, _, _, _, rfl, rfl, sM x xm, rfl,
          _, rfl, _, rfl, rr, _, _, .ref y.1, rfl, rfl, SqL.of eM, ay, y.1, _, _, _, rfl, rfl, sM y ym, rfl, _, _, rfl, rfl, (by show 2 ≤ sizeLine; decide), fun tA ntA => ?_⟩
        have sA := sameNew (o := .tup [.str x.2.1, .int (x.2.2 + y.2.2)]) ntA
        have eA : upd H3 tA (.tup [.str x.2.1, .int (x.2.2 + y.2.2)]) tA = some (.tup [.str x.2.1, .int (x.2.2 + y.2.2)]) := upd_same
        dsimp only [tNil]
        generalize upd H3 tA (.tup [.str x.2.1, .int (x.2.2 + y.2.2)]) = H4 at sA eA
        refine ⟨(by show 1 ≤ sizeLine; decide), fun wl nw => ?_⟩
        have sw := sameNew (o := .lst [.ref tA]) nw
        refine fin _ wl [(tA, x.2.1, x.2.2 + y.2.2)] _ _ _ (sA.trans sw) upd_same (fun u hu => ?_) (Nat.le_refl _) ?_ fun σ' H' h => h
        · rw [List.mem_singleton.mp hu]
          exact SqT.of (sw _ _ eA)
        show List.map _ _ = _
        rw [List.map_append, List.map_append]
        show sylsOf (M.take i) ++ [(x.2.1, x.2.2 + y.2.2)] ++ sylsOf (selG i j M 0) = _
        rw [tkS, selS]
        unfold stepAt
        rw [if_pos (by omega)]
      · rw [decide_eq_false c]
        refine iteF ⟨Nat.zero_le _, fun wl nw => ?_⟩
        refine fin _ wl [] _ _ _ (sameNew nw) upd_same (fun _ z => nomatch z) (Nat.zero_le _) ?_ fun σ' H' h => h
        show List.map _ _ = _
        rw [List.append_nil, List.map_append]
        show sylsOf (M.take i) ++ sylsOf (selG i j M 0) = _
        rw [tkS, selS]
        unfold stepAt
        rw [if_neg (by omega), List.append_nil]
  · rintro σ H3 Q1 Q2 m ⟨v, e, r0, k, ek, q'⟩
    exact ⟨v, e, r0, k, ek, m _ _ q'⟩
end
end L2.Und
end

section
set_option Elab.async false
set_option linter.all false
set_option maxRecDepth 100000
set_option maxHeartbeats 2000000
namespace L2.Und
open PySem PySem.Spec PyProof.Rows _root_.Und
open L2.KS SX MT
open PySem.W (findIn keepIn typeIn subIn)
/-! ### _law_layers -/
abbrev sLays : Stmt := topS 56
abbrev nLays : List Str := ["_law_pairs_here", "_law_row_here", "_law_found", "_law_at", "_law_kind", "_law_count_here", "_law_under", "_law_to"]
theorem scLays : FnScope nLays ["_law_pairs_here", "_law_row_here"] (defScope sLays) := ⟨rfl, rfl, rfl, by decide +kernel, rfl, by decide +kernel, by decide +kernel⟩
def underI (T : FM.Tab) (xs : List FM.Lab) (k : Str) : List Int := (xs.filter fun x => !T.fr k x.2.1).map fun x => ((x.1 + 1 : Nat) : Int)
theorem under_snoc (T : FM.Tab) (xs : List FM.Lab) (k : Str) (x : FM.Lab) : underI T (xs ++ [x]) k = if T.fr k x.2.1 = true then underI T xs k else underI T xs k ++ [((x.1 + 1 : Nat) : Int)] := by
  unfold underI
  rw [List.filter_append, List.map_append]
  by_cases c : T.fr k x.2.1 = true
  · rw [if_pos c]
    simp [c]
  · rw [if_neg c]
    simp [c]
theorem under_top {T : FM.Tab} {xs : List FM.Lab} {k : Str} {m : Int} (hm : m ∈ underI T xs k) (mx : ∀ y ∈ underI T xs k, y ≤ m) : m = (FM.layOf T xs k : Nat) := by
  obtain ⟨x, hx, rfl⟩ := List.mem_map.mp hm
  have h1 : x.1 + 1 ≤ FM.layOf T xs k := FM.le_maxOf (List.mem_map.mpr ⟨x, hx, rfl⟩)
  have h2 : FM.layOf T xs k ≤ x.1 + 1 := FM.maxOf_le fun y hy => by
    obtain ⟨z, hz, rfl⟩ := List.mem_map.mp hy
    have := mx _ (List.mem_map.mpr ⟨z, hz, rfl⟩)
    omega
  omega
theorem under_none {T : FM.Tab} {xs : List FM.Lab} {k : Str} (h : underI T xs k = []) : FM.layOf T xs k = 0 := by
  have : (xs.filter fun x => !T.fr k x.2.1) = [] := List.map_eq_nil_iff.mp h
  unfold FM.layOf
  rw [this]
  rfl
def spLays (K : PySem.W.Frag) : Sp := fun vs H Q _ => ∃ (a r : Addr) (PL : PA2') (ks : List Str) (L : SyL), vs = [.ref a, .ref r] ∧ LawRow K a r PL ks L H ∧ SqL K H r (refsOf L) ∧
  ∀ (q : Addr) (H' : Hp), Same H H' → H' q = some (.lst ((FM.lab (lawT ks PL) (sylsOf L)).map fun x => V.int ((x.1 : Nat) : Int))) → Q (.ref q) H'
section
variable {P : Program} {w : World} {K : PySem.W.Frag} {mg : Str → Option Value} {base : Heap}
theorem okLays {f fF : Addr} {fd fdF : FuncData} (F : Fun K "_law_layers" "_law_layers" sLays f fd) (GF : FnOk P w K mg base CX0 1 fF fdF ["_law_pairs_here", "_law_one", "_law_other"] (spLFree K)) (mF : mg "_law_is_free" = some (.ref fF)) (kF : keepIn K (.ref fF) = true) (bF : Binds K fdF ["_law_pairs_here", "_law_one", "_law_other"] [])
    (mE : mg "enumerate" = none) (mR : mg "range" = none) (mM : mg "max" = none) : FnOk P w K mg base CX0 2 f fd ["_law_pairs_here", "_law_row_here"] (spLays K) := by
  have bM : bootBuiltins ("max" : Str) = some (.builtin "max") := by decide +kernel
  refine F.ok scLays (fun vs H Q E h => ?_) (fun cdv A outer s H vs Q E hr h => ?_)
  · obtain ⟨a, r, PL, ks, L, rfl, _⟩ := h
    rfl
  have hu : (A.deeper (envOfC "_law_layers" (defScope sLays) s.heap.objs.size f cdv)).units + 64 < cLine := by have := hr.un; omega
  refine ⟨_, pss_cons (ps_set (i := 2) scLays.nd rfl (Or.inr rfl) (pe_lst pa_nil))
    (pss_cons (ps_for PassesOwn.never rfl (pi_enum rfl mE (pa_cons (pv 1) pa_nil)) (pg_tup rfl (pgs_cons (pg_name (i := 3) scLays.nd rfl (Or.inl rfl)) (pgs_cons (pg_tup rfl (pgs_cons (pg_name (i := 4) scLays.nd rfl (Or.inr rfl)) (pgs_cons (pg_name (i := 5) scLays.nd rfl (Or.inl rfl)) pgs_nil))) pgs_nil)))
      (pss_cons (ps_setLc (i := 6) (own := [("_law_to", 7)]) (g := gName 7) (tt := tNot (tB (tCall (spLFree K) [] E0 (tCons (tVar 0) (tCons (tVar 4) (tCons (tOp (rIxT K) (tOp (rIxL K) (tVar 1) (tVar 7)) (tC (.int 0))) tNil)))))) rfl scLays.nd rfl rfl (sw_true rfl rfl rfl (by decide +kernel)) (pi_range1 rfl mR (pa_cons (pv 3) pa_nil)) (blkOk_by (N := nLays) (sc := defScope sLays) (by decide +kernel))
          (fun _ _ _ _ _ => pg_name (i := 7) scLays.nd rfl (Or.inl rfl))
          (fun _ _ _ _ _ => pts_one (pt_not (pt_val (pe_call GF hr rfl mF kF bF .nil pass0 (pa_cons (pv 0) (pa_cons (pv 4) (pa_cons (pe_ix (show IxR _ (rIxT K) from ix_tup) (pe_ix (show IxR _ (rIxL K) from ix_list) (pv 1) (pv 7) (fun _ _ => rfl)) pe_int (fun _ _ => rfl)) pa_nil)))))))
          (fun _ _ _ _ _ => pe_op op_add (pe_ix (show IxR _ (rIxL K) from ix_list) (pv 2) (pv 7) (fun _ _ => rfl)) pe_int))
      (pss_one (ps_expr (pe_bm PySem.F.plainAttrs_list PySem.F.slot_list_append PySem.F.type_list_append mt_append (pv 2) (pa_cons (pe_ifExp (pt_cmpR (op_neD hu) (pv 6) (pe_lst pa_nil) (nomark _)) (pe_callB (cr_max rfl) rfl mM bM (pa_cons (pv 6) pa_nil)) pe_int) pa_nil))))))
    (pss_one (ps_ret (pv 2)))), ?_⟩
  obtain ⟨a, r, PL, ks, L, rfl, z, zl, q⟩ := h
  have big : (100000 : Nat) ≤ sizeLine := by decide
  obtain ⟨T, eT⟩ : ∃ T, lawT ks PL = T := ⟨_, rfl⟩
  have efr := z.fr
  rw [eT] at efr q
  have LL : (refsOf L).length = L.length := List.length_map ..
  have l5 := z.few
  refine ⟨Nat.zero_le _, fun F0 nF => ?_⟩
  have s1 := sameNew (o := .lst []) nF
  have e1 : upd H F0 (.lst []) F0 = some (.lst []) := upd_same
  dsimp only [gName]
  generalize upd H F0 (.lst []) = H1 at s1 e1
  refine ⟨_, rfl, r, _, rfl, s1.seq zl, for_it (walk_enum (K := K) (a := r) (xs := refsOf L)) (fun i σ H' => Same H H' ∧ (∃ x3 x4 x5 x6 x7, σ = [some (.ref a), some (.ref r), some (.ref F0), x3, x4, x5, x6, x7]) ∧ H' F0 = some (.lst ((FM.lab T (sylsOf (L.take i))).map fun x => V.int ((x.1 : Nat) : Int)))) ⟨s1, ⟨_, _, _, _, _, rfl⟩, e1⟩ (fun i σ H' _ h => h.1.seq zl) ?_ ?_⟩
  · rintro i v σ H2 H3 hi ⟨s2, ⟨x3, x4, x5, x6, x7, rfl⟩, e2⟩ ⟨T6, y1, y2, rfl, nT6, rfl, h1, h2⟩
    rw [LL] at hi
    have h2 : (refsOf L)[i]? = some y2 := h2
    obtain ⟨e, he, rfl⟩ := refs_at h2
    cases Option.some.inj h1
    have em := List.mem_of_getElem? he
    have tkE : sylsOf (L.take (i + 1)) = sylsOf (L.take i) ++ [e.2] := by
      show (L.take (i + 1)).map _ = _
      rw [List.take_succ, he, List.map_append]
      rfl
    obtain ⟨lb, elb⟩ : ∃ lb, FM.lab T (sylsOf (L.take i)) = lb := ⟨_, rfl⟩
    have lbS : lb.map (·.2) = sylsOf (L.take i) := by rw [← elb]; exact FM.lab_syls _
    have lbl : lb.length = i := by
      have := congrArg List.length lbS
      rw [List.length_map, List.length_map, List.length_take] at this
      omega
    rw [elb] at e2
    have s3 := s2.trans (sameNew (o := .tup [V.int ((i : Nat) : Int), .ref e.1]) nT6)
    have t6 : upd H2 T6 (.tup [V.int ((i : Nat) : Int), .ref e.1]) T6 = some (.tup [V.int ((i : Nat) : Int), .ref e.1]) := upd_same
    have e3 := sameNew (o := .tup [V.int ((i : Nat) : Int), .ref e.1]) nT6 _ _ e2
    generalize upd H2 T6 (.tup [V.int ((i : Nat) : Int), .ref e.1]) = H3 at s3 t6 e3
    refine ⟨T6, _, rfl, SqT.of t6, rfl, _, _, rfl, _, _, rfl, e.1, _, rfl, Same.tup s3 (z.syl e em), rfl, _, _, rfl, _, _, rfl, rfl, rfl, ?_⟩
    have b62 : (100000 : Int) < 2 ^ 62 := by decide
    refine ⟨_, rfl, _, rfl, by omega, by omega, ?_⟩
    have eN : ((i : Nat) : Int).toNat = i := by omega
    rw [eN]
    intro D nD
    have dF : D ≠ F0 := fun w => by rw [w, e3] at nD; cases nD
    have nD0 : H D = none := s3.free nD
    refine lc_it (walk_range (lo := 0) (n := i)) (fun j H' => Same H3 H' ∧ H' D = some (.lst ((underI T (lb.take j) e.2.1).map V.int))) ⟨sameNew nD, upd_same⟩ (fun j H' _ h => True.intro) ?_ ?_
    · rintro j x H4' H4 hj ⟨s4, e4⟩ ⟨rfl, rfl⟩
      have ej : (0 : Int) + ((j : Nat) : Int) = ((j : Nat) : Int) := by omega
      obtain ⟨e', he'⟩ : ∃ e', L[j]? = some e' := ⟨_, List.getElem?_eq_getElem (by omega)⟩
      have em' := List.mem_of_getElem? he'
      obtain ⟨x', hx'⟩ : ∃ x', lb[j]? = some x' := ⟨_, List.getElem?_eq_getElem (by omega)⟩
      have ex' : x'.2 = e'.2 := by
        have h3 : (lb.map (·.2))[j]? = some x'.2 := by rw [List.getElem?_map, hx']; rfl
        rw [lbS, List.getElem?_map, List.getElem?_take_of_lt hj, he'] at h3
        exact (Option.some.inj h3).symm
      have tkj : lb.take (j + 1) = lb.take j ++ [x'] := by rw [List.take_succ, hx']; rfl
      have at1 : atI (refsOf L) (0 + ((j : Nat) : Int)) = some (.ref e'.1) := by rw [ej]; exact atI_nat (by rw [List.getElem?_map, he']; rfl)
      have at2 : atI (lb.map fun x => V.int ((x.1 : Nat) : Int)) (0 + ((j : Nat) : Int)) = some (.int ((x'.1 : Nat) : Int)) := by rw [ej]; exact atI_nat (by rw [List.getElem?_map, hx']; rfl)
      have s34 := s3.trans s4
      refine ⟨rfl, _, rfl, _, rfl, _, rfl, _, rfl, r, _, _, .ref e'.1, rfl, rfl, s34.seq zl, at1, e'.1, _, _, _, rfl, rfl, Same.tup s34 (z.syl e' em'), rfl, a, PL, e.2.1, e'.2.1, rfl, s34.seq z.prs, z.prs2.same s34, z.kok _ (z.known e em), z.kok _ (z.known e' em'), fun H5 s5 => ⟨_, rfl, ?_⟩⟩
      rw [efr, tkj, under_snoc, ex']
      cases cf : T.fr e.2.1 e'.2.1 with
      | true => exact iteF ⟨s4.trans s5, s5 _ _ e4⟩
      | false =>
        refine iteT ⟨_, rfl, _, rfl, F0, _, _, _, rfl, rfl, SqL.of (s5 _ _ (s4 _ _ e3)), at2, _, _, rfl, rfl, _, s5 _ _ e4, ?_, Same.upd (s4.trans s5) nD, ?_⟩
        · rw [List.length_map]
          unfold underI
          rw [List.length_map]
          have := List.length_filter_le (fun x : FM.Lab => !T.fr e.2.1 x.2.1) (lb.take j)
          rw [List.length_take] at this
          omega
        · rw [upd_same]
          rw [if_neg Bool.false_ne_true, List.map_append]
          rfl
    · rintro H4 ⟨s4, e4⟩
      rw [← lbl, List.take_length] at e4
      have s34 := s3.trans s4
      have e4F := s4 _ _ e3
      refine ⟨_, rfl, .inl ⟨rfl, _, SqL.of e4F⟩, ?_⟩
      refine ⟨_, rfl, Nat.zero_le _, fun em0 nem => ?_⟩
      have s5 := sameNew (o := .lst []) nem
      have e5 : SqL K (upd H4 em0 (.lst [])) em0 [] := SqL.of upd_same
      have e5D := s5 _ _ e4
      have e5F := s5 _ _ e4F
      have s35 := s34.trans s5
      dsimp only [tNil]
      generalize upd H4 em0 (.lst []) = H5 at s5 e5 e5D e5F s35
      have fin : ∀ m : Int, m = (FM.layOf T lb e.2.1 : Nat) → ∀ H6, H6 = upd H5 F0 (.lst ((lb.map fun x => V.int ((x.1 : Nat) : Int)) ++ [V.int m])) → Same H H6 ∧ H6 F0 = some (.lst ((FM.lab T (sylsOf (L.take (i + 1)))).map fun x => V.int ((x.1 : Nat) : Int))) := fun m em6 H6 e6 => by
        subst e6
        refine ⟨Same.upd s35 nF, ?_⟩
        rw [upd_same, tkE, FM.lab_snoc, elb, List.map_append, em6]
        rfl
      have lz : (lb.map fun x => V.int ((x.1 : Nat) : Int)).length < sizeLine := by rw [List.length_map]; omega
      refine ⟨_, _, dpInts (SqL.of e5D), .lst e5 .nil, shapedInts _, by decide +kernel, _, rfl, ?_⟩
      by_cases c : underI T lb e.2.1 = []
      · rw [c]
        refine iteF ⟨F0, _, _, rfl, rfl, e5F, lz, ?_⟩
        obtain ⟨g1, g2⟩ := fin 0 (by rw [under_none c]; rfl) _ rfl
        exact ⟨g1, ⟨_, _, _, _, _, rfl⟩, g2⟩
      · have ne : (!PyData.eqv (.list ((underI T lb e.2.1).map PyData.int)) (.list [])) = true := by
          cases hU : underI T lb e.2.1 with
          | nil => exact absurd hU c
          | cons u us => rfl
        rw [ne]
        refine iteT ⟨_, rfl, D, _, rfl, SqL.of e5D, List.length_pos_iff.mpr c, fun m hm mx => ⟨F0, _, _, rfl, rfl, e5F, lz, ?_⟩⟩
        obtain ⟨g1, g2⟩ := fin m (under_top hm mx) _ rfl
        exact ⟨g1, ⟨_, _, _, _, _, rfl⟩, g2⟩
  · rintro σ H2 ⟨s2, ⟨x3, x4, x5, x6, x7, rfl⟩, e2⟩
    rw [LL, List.take_length] at e2
    exact ⟨_, rfl, q F0 H2 s2 e2⟩
end
end L2.Und
end

section
set_option Elab.async false
set_option linter.all false
set_option maxRecDepth 100000
set_option maxHeartbeats 1000000
namespace L2.Und
open PySem PySem.Spec PyProof.Rows _root_.Und
open L2.KS
open PySem.W (dataLe dataLt AllAlike Sortable)
/-! ### (layer, syllable) in order -/
/-- a key: where it stands, its layer, its syllable -/
abbrev KeyL := List (Addr × Nat × (Addr × Str × Int))
abbrev labOf (e : Addr × Nat × (Addr × Str × Int)) : FM.Lab := (e.2.1, e.2.2.2)
abbrev kVD (e : Addr × Nat × (Addr × Str × Int)) : VD := (.ref e.1, .tuple [.int ((e.2.1 : Nat) : Int), dSyl e.2.2.2])
def leK (x y : FM.Lab) : Bool := if x.1 = y.1 then leY x.2 y.2 else decide (x.1 ≤ y.1)
theorem leY_anti {a b : Str × Int} (h1 : leY a b = true) (h2 : leY b a = true) : a = b := by
  unfold leY at *
  by_cases h : a.1 = b.1
  · rw [if_pos h] at h1
    rw [if_pos h.symm] at h2
    have h1 := of_decide_eq_true h1
    have h2 := of_decide_eq_true h2
    exact Prod.ext h (by omega)
  · rw [if_neg h] at h1
    rw [if_neg fun z => h z.symm] at h2
    exact absurd (leS_anti h1 h2) h
theorem leK_anti {a b : FM.Lab} (h1 : leK a b = true) (h2 : leK b a = true) : a = b := by
  unfold leK at *
  by_cases h : a.1 = b.1
  · rw [if_pos h] at h1
    rw [if_pos h.symm] at h2
    exact Prod.ext h (leY_anti h1 h2)
  · rw [if_neg h] at h1
    rw [if_neg fun z => h z.symm] at h2
    have h1 := of_decide_eq_true h1
    have h2 := of_decide_eq_true h2
    omega
theorem leK_total (a b : FM.Lab) : (leK a b || leK b a) = true := by
  unfold leK
  by_cases h : a.1 = b.1
  · rw [if_pos h, if_pos h.symm]
    exact leY_total _ _
  · rw [if_neg h, if_neg fun z => h z.symm, Bool.or_eq_true, decide_eq_true_eq, decide_eq_true_eq]
    omega
theorem leK_trans (a b c : FM.Lab) (h1 : leK a b = true) (h2 : leK b c = true) : leK a c = true := by
  unfold leK at *
  by_cases h : a.1 = b.1
  · rw [if_pos h] at h1
    by_cases k : b.1 = c.1
    · rw [if_pos k] at h2
      rw [if_pos (h.trans k)]
      exact leY_trans _ _ _ h1 h2
    · rw [if_neg k] at h2
      rw [if_neg fun z => k (h.symm.trans z), h]
      exact h2
  · rw [if_neg h] at h1
    have h1 := of_decide_eq_true h1
    by_cases k : b.1 = c.1
    · rw [if_neg fun z => h (z.trans k.symm)]
      exact decide_eq_true (by omega)
    · rw [if_neg k] at h2
      have h2 := of_decide_eq_true h2
      rw [if_neg (by omega)]
      exact decide_eq_true (by omega)
theorem le_key (x y : Addr × Nat × (Addr × Str × Int)) : dataLe false (·.2) (kVD x) (kVD y) = leK (labOf x) (labOf y) := by
  show (!dataLt (.tuple [.int ((y.2.1 : Nat) : Int), dSyl y.2.2.2]) (.tuple [.int ((x.2.1 : Nat) : Int), dSyl x.2.2.2])) = _
  rw [PySem.W.dataLt_pair (by simp [PySem.W.alike]) (by simp [dSyl, PySem.W.alike, PySem.W.alikeAll]), PySem.W.dataLt_int]
  have e2 := le_syl x.1 y.1 x.2.2.2 y.2.2.2
  have e2 : (!dataLt (dSyl y.2.2.2) (dSyl x.2.2.2)) = leY x.2.2.2 y.2.2.2 := e2
  rw [eqvSyl]
  simp only [PyData.eqv, beq_iff_eq, decide_eq_true_eq]
  show _ = (if x.2.1 = y.2.1 then leY x.2.2.2 y.2.2.2 else decide (x.2.1 ≤ y.2.1))
  by_cases h : x.2.1 = y.2.1
  · rw [if_pos (show ((y.2.1 : Nat) : Int) = ((x.2.1 : Nat) : Int) by omega), if_pos h]
    by_cases c : y.2.2.2 = x.2.2.2
    · rw [if_pos c, c]
      have := leY_total x.2.2.2 x.2.2.2
      rw [Bool.or_self] at this
      rw [this]
      rfl
    · rw [if_neg c]
      exact e2
  · rw [if_neg (show ¬ ((y.2.1 : Nat) : Int) = ((x.2.1 : Nat) : Int) by omega), if_neg h]
    by_cases k : y.2.1 < x.2.1
    · rw [decide_eq_true (show ((y.2.1 : Nat) : Int) < ((x.2.1 : Nat) : Int) by omega), decide_eq_false (by omega)]
      rfl
    · rw [decide_eq_false (show ¬ ((y.2.1 : Nat) : Int) < ((x.2.1 : Nat) : Int) by omega), decide_eq_true (by omega)]
      rfl
theorem srt_keys (M : KeyL) : ∃ S : KeyL, S.Perm M ∧ srt (M.map kVD) = S.map kVD ∧ (S.map labOf).Pairwise fun a b => leK a b = true := by
  refine ⟨M.mergeSort fun a b => leK (labOf a) (labOf b), List.mergeSort_perm _ _, ?_, ?_⟩
  · exact (List.map_mergeSort fun a _ b _ => (le_key a b).symm).symm
  · rw [List.pairwise_map]
    exact List.pairwise_mergeSort (fun a b c => leK_trans (labOf a) (labOf b) (labOf c)) (fun a b => leK_total (labOf a) (labOf b)) M
theorem alike_keys (M : KeyL) : AllAlike ((M.map kVD).map (·.2)) := by
  intro d hd d' hd'
  rw [List.map_map] at hd hd'
  obtain ⟨p, _, rfl⟩ := List.mem_map.mp hd
  obtain ⟨p', _, rfl⟩ := List.mem_map.mp hd'
  simp [dSyl, PySem.W.alike, PySem.W.alikeAll]
theorem sort_keys (M : KeyL) : Sortable ((M.map kVD).map (·.2)) := by
  refine .inl fun d hd => ?_
  rw [List.map_map] at hd
  obtain ⟨p, _, rfl⟩ := List.mem_map.mp hd
  exact ⟨_, _, rfl⟩
theorem depKey (e : Addr × Nat × (Addr × Str × Int)) : (kVD e).2.depth ≤ 40 := by simp [dSyl, PyData.depth, PyData.depthAll]
/-- the labels of a row where nothing melts, in order, are what is read off its piles -/
theorem labs_rd {T : FM.Tab} {O : FM.Ord T} (hlt : ∀ a b, O.lt a b → strLt a b = true) {row : List (Str × Int)} (I : FM.Irr T row) (hk : ∀ e ∈ row, e.1 ∈ T.ks) {l : List FM.Lab} (p : l.Perm (FM.lab T row)) (w : l.Pairwise fun a b => leK a b = true) : l = FM.rdP O (FM.pil T row) := by
  refine List.Perm.eq_of_pairwise (fun _ _ _ _ => leK_anti) w ((FM.rdP_srt (O := O) _).imp fun {x y} h => ?_) (p.trans (FM.rd_lab (O := O) I hk).symm)
  unfold leK
  rcases h with h | ⟨h1, h2⟩
  · rw [if_neg (by omega)]
    exact decide_eq_true (by omega)
  · rw [if_pos h1]
    have lt := hlt _ _ h2
    have ne : x.2.1 ≠ y.2.1 := fun z => by
      rw [z] at h2
      exact O.ir _ h2
    unfold leY
    rw [if_neg ne]
    have := leS_total x.2.1 y.2.1
    unfold leS at this ⊢
    rw [Bool.or_eq_true] at this
    rcases this with q | q
    · exact q
    · rw [lt] at q
      cases q
end L2.Und
end

section
set_option Elab.async false
set_option linter.all false
set_option maxRecDepth 100000
set_option maxHeartbeats 2000000
namespace L2.Und
open PySem PySem.Spec PyProof.Rows _root_.Und
open L2.KS SX MT
open PySem.W (findIn keepIn typeIn subIn)
/-! ### _law_form -/
abbrev sForm : Stmt := topS 57
abbrev nForm : List Str := ["_law_pairs_here", "_law_row_here", "_law_keys", "_law_layer", "_law_one"]
theorem scForm : FnScope nForm ["_law_pairs_here", "_law_row_here"] (defScope sForm) := ⟨rfl, rfl, rfl, by decide +kernel, rfl, by decide +kernel, by decide +kernel⟩
def spForm (K : PySem.W.Frag) : Sp := fun vs H Q _ => ∃ (a r : Addr) (PL : PA2') (ks : List Str) (L : SyL), vs = [.ref a, .ref r] ∧ LawRow K a r PL ks L H ∧ ks.Nodup ∧
  ∀ (q : Addr) (S : SyL) (H' : Hp), Same H H' → H' q = some (.tup (refsOf S)) → Syls K H' S → sylsOf S = formS ks (PL.map (·.2)) (sylsOf L) → Q (.ref q) H'
section
variable {P : Program} {w : World} {K : PySem.W.Frag} {mg : Str → Option Value} {base : Heap}
theorem okForm {f fS fL : Addr} {fd fdS fdL : FuncData} (F : Fun K "_law_form" "_law_form" sForm f fd)
    (GS : FnOk P w K mg base CX0 3 fS fdS ["_law_pairs_here", "_law_row_here"] (spShort K)) (mS : mg "_law_short" = some (.ref fS)) (kS : keepIn K (.ref fS) = true) (bS : Binds K fdS ["_law_pairs_here", "_law_row_here"] [])
    (GL : FnOk P w K mg base CX0 2 fL fdL ["_law_pairs_here", "_law_row_here"] (spLays K)) (mL : mg "_law_layers" = some (.ref fL)) (kL : keepIn K (.ref fL) = true) (bL : Binds K fdL ["_law_pairs_here", "_law_row_here"] [])
    (mZ : mg "zip" = none) (mT : mg "tuple" = none) (mO : mg "sorted" = none) : FnOk P w K mg base CX0 4 f fd ["_law_pairs_here", "_law_row_here"] (spForm K) := by
  have bO : bootBuiltins ("sorted" : Str) = some (.builtin "sorted") := by decide +kernel
  refine F.ok scForm (fun vs H Q E h => ?_) (fun cdv A outer s H vs Q E hr h => ?_)
  · obtain ⟨a, r, PL, ks, L, rfl, _⟩ := h
    rfl
  have hr2 : Room 2 (A.deeper (envOfC "_law_form" (defScope sForm) s.heap.objs.size f cdv)) := hr.mono (by decide)
  have hu : (A.deeper (envOfC "_law_form" (defScope sForm) s.heap.objs.size f cdv)).units + 64 < cLine := by have := hr.un; omega
  refine ⟨_, pss_cons (ps_set (i := 1) scForm.nd rfl (Or.inl rfl) (pe_call GS hr rfl mS kS bS .nil pass0 (pa_cons (pv 0) (pa_cons (pv 1) pa_nil))))
    (pss_cons (ps_setLc (i := 2) (own := [("_law_layer", 3), ("_law_one", 4)]) (g := gTup K 2 (gCons (gName 3) (gCons (gName 4) gNil))) (tt := tYes) rfl scForm.nd rfl rfl (sw_true rfl rfl rfl (by decide +kernel)) (pi_zip rfl mZ (pa_cons (pe_call GL hr2 rfl mL kL bL .nil pass0 (pa_cons (pv 0) (pa_cons (pv 1) pa_nil))) (pa_cons (pv 1) pa_nil))) (blkOk_by (N := nForm) (sc := defScope sForm) (by decide +kernel))
        (fun _ _ _ _ _ => pg_tup rfl (pgs_cons (pg_name (i := 3) scForm.nd rfl (Or.inl rfl)) (pgs_cons (pg_name (i := 4) scForm.nd rfl (Or.inl rfl)) pgs_nil))) (fun _ _ _ _ _ => pts_nil) (fun _ _ _ _ _ => pe_tup (pa_cons (pv 3) (pa_cons (pv 4) pa_nil))))
    (pss_one (ps_ret (pe_callTy call_tuple_of rfl mT PyProof.Rows.Boot.«tuple» (pa_cons
        (pe_lc (own := [("_law_layer", 3), ("_law_one", 4)]) (g := gTup K 2 (gCons (gName 3) (gCons (gName 4) gNil))) (tt := tYes) rfl scForm.nd (pi_list (pe_callB (cr_sortD hu) rfl mO bO (pa_cons (pv 2) pa_nil))) (blkOk_by (N := nForm) (sc := defScope sForm) (by decide +kernel))
          (fun _ _ _ _ _ => pg_tup rfl (pgs_cons (pg_name (i := 3) scForm.nd rfl (Or.inl rfl)) (pgs_cons (pg_name (i := 4) scForm.nd rfl (Or.inl rfl)) pgs_nil))) (fun _ _ _ _ _ => pts_nil) (fun _ _ _ _ _ => pv 4)) pa_nil))))), ?_⟩
  obtain ⟨a, r, PL, ks, L, rfl, z, nd, q⟩ := h
  have big : (100000 : Nat) ≤ sizeLine := by decide
  have two : 2 ≤ sizeLine := by decide
  refine ⟨_, rfl, _, rfl, a, r, PL, ks, L, rfl, z, fun r2 L2 H1 s1 e1 sy1 irr1 pil1 kn1 ln1 => ?_⟩
  have z1 : LawRow K a r2 PL ks L2 H1 := ⟨s1.seq z.prs, z.prs2.same s1, z.pok, .inl (SqL.of e1), sy1, kn1, z.kok, Nat.le_trans ln1 z.few⟩
  obtain ⟨T, eT⟩ : ∃ T, lawT ks PL = T := ⟨_, rfl⟩
  obtain ⟨lb, elb⟩ : ∃ lb, FM.lab (lawT ks PL) (sylsOf L2) = lb := ⟨_, rfl⟩
  refine ⟨_, rfl, _, rfl, a, r2, PL, ks, L2, rfl, z1, SqL.of e1, fun ly H2 s2 e2 => ?_⟩
  rw [elb] at e2
  have lbS : lb.map (·.2) = sylsOf L2 := by rw [← elb]; exact FM.lab_syls _
  have lbl : lb.length = L2.length := by
    have := congrArg List.length lbS
    rwa [List.length_map, List.length_map] at this
  refine ⟨_, rfl, ly, r2, _, _, rfl, SqL.of e2, SqL.of (s2 _ _ e1), fun D nD => ?_⟩
  have s12 := s1.trans s2
  have l2 := z1.few
  have LA : (lb.map fun x => V.int ((x.1 : Nat) : Int)).length = lb.length := List.length_map ..
  have LB : (refsOf L2).length = L2.length := List.length_map ..
  refine lc_it (walk_zip (K := K) (a := ly) (b := r2) (xs := lb.map fun x => V.int ((x.1 : Nat) : Int)) (ys := refsOf L2) (n := L2.length) (by rw [LA, LB]; omega)) (fun i H' => Same H2 H' ∧ ∃ KY : KeyL, H' D = some (.lst (KY.map fun e => V.ref e.1)) ∧ KY.map labOf = lb.take i ∧ KY.length = i ∧ ∀ e ∈ KY, H' e.1 = some (.tup [.int ((e.2.1 : Nat) : Int), .ref e.2.2.1]) ∧ e.2.2 ∈ L2)
    ⟨sameNew nD, [], upd_same, rfl, rfl, fun _ z => nomatch z⟩ (fun i H' _ h => ⟨SqL.of (h.1 _ _ e2), SqL.of (h.1 _ _ (s2 _ _ e1))⟩) ?_ ?_
  · rintro i v H3 H4 hi ⟨s3, KY, eD, eK, lK, kK⟩ hY
    obtain ⟨T6, y1, y2, rfl, nT6, rfl, h1, h2⟩ := hY
    have h1 : (lb.map fun x => V.int ((x.1 : Nat) : Int))[i]? = some y1 := h1
    have h2 : (refsOf L2)[i]? = some y2 := h2
    obtain ⟨x, hx, rfl⟩ : ∃ x, lb[i]? = some x ∧ y1 = V.int ((x.1 : Nat) : Int) := by
      rw [List.getElem?_map] at h1
      cases h : lb[i]? with
      | none => rw [h] at h1; cases h1
      | some x => rw [h] at h1; exact ⟨x, rfl, (Option.some.inj h1).symm⟩
    obtain ⟨e, he, rfl⟩ := refs_at h2
    have em := List.mem_of_getElem? he
    have ex : x.2 = e.2 := by
      have h3 : (lb.map (·.2))[i]? = some x.2 := by rw [List.getElem?_map, hx]; rfl
      rw [lbS, List.getElem?_map, he] at h3
      exact (Option.some.inj h3).symm
    have tkE : lb.take (i + 1) = lb.take i ++ [x] := by rw [List.take_succ, hx]; rfl
    have sT := sameNew (o := .tup [V.int ((x.1 : Nat) : Int), .ref e.1]) nT6
    have t6 : upd H3 T6 (.tup [V.int ((x.1 : Nat) : Int), .ref e.1]) T6 = some (.tup [V.int ((x.1 : Nat) : Int), .ref e.1]) := upd_same
    have s4 := s3.trans sT
    have eD4 := sT _ _ eD
    have kK4 : ∀ e ∈ KY, _ := fun e he => And.intro (sT _ _ (kK e he).1) (kK e he).2
    generalize upd H3 T6 (.tup [V.int ((x.1 : Nat) : Int), .ref e.1]) = H4 at sT t6 s4 eD4 kK4
    refine ⟨T6, _, rfl, SqT.of t6, rfl, _, _, rfl, _, _, rfl, rfl, rfl, ?_⟩
    dsimp only [tYes]
    rw [if_pos rfl]
    refine ⟨_, rfl, _, rfl, two, fun t nt => ?_⟩
    have st := sameNew (o := .tup [V.int ((x.1 : Nat) : Int), .ref e.1]) nt
    have et : upd H4 t (.tup [V.int ((x.1 : Nat) : Int), .ref e.1]) t = some (.tup [V.int ((x.1 : Nat) : Int), .ref e.1]) := upd_same
    have s5 := s4.trans st
    have eD5 := st _ _ eD4
    have kK5 : ∀ e ∈ KY, _ := fun e he => And.intro (st _ _ (kK4 e he).1) (kK4 e he).2
    generalize upd H4 t (.tup [V.int ((x.1 : Nat) : Int), .ref e.1]) = H5 at st et s5 eD5 kK5
    refine ⟨_, eD5, by rw [List.length_map]; omega, Same.upd s5 nD, KY ++ [(t, x.1, e)], by rw [upd_same, List.map_append]; rfl, ?_, by rw [List.length_append, lK]; rfl, fun u hu => ?_⟩
    · rw [List.map_append, eK, tkE]
      show _ ++ [(x.1, e.2)] = _ ++ [x]
      rw [← ex]
    · rcases List.mem_append.mp hu with hu | hu
      · refine ⟨?_, (kK5 u hu).2⟩
        rw [upd_ne fun w => by have := (kK5 u hu).1; rw [w, eD5] at this; cases this]
        exact (kK5 u hu).1
      · rw [List.mem_singleton.mp hu]
        refine ⟨?_, em⟩
        rw [upd_ne fun w => by have w : t = D := w; rw [w, eD5] at et; cases et]
        exact et
  · rintro H3 ⟨s3, KY, eD, eK, lK, kK⟩
    rw [← lbl, List.take_length] at eK
    have s13 := s12.trans s3
    obtain ⟨SK, pS, eS, wS⟩ := srt_keys KY
    have labE : SK.map labOf = FM.rdP (ordT ks (PL.map (·.2)) nd) (FM.pil (lawT ks PL) (sylsOf L2)) := by
      refine labs_rd (T := lawT ks PL) (O := ordT ks (PL.map (·.2)) nd) (fun a b h => h) irr1 (fun e he => ?_) ?_ wS
      · obtain ⟨x, hx, rfl⟩ := List.mem_map.mp he
        exact memT.mpr (kn1 x hx)
      · have := pS.map labOf
        rw [eK, ← elb] at this
        exact this
    have r1 : (KY.map kVD).map (·.1) = KY.map fun e => V.ref e.1 := by rw [List.map_map]; rfl
    have r2' : (SK.map kVD).map (·.1) = SK.map fun e => V.ref e.1 := by rw [List.map_map]; rfl
    refine ⟨_, rfl, D, KY.map kVD, rfl, .inl (by rw [r1]; exact SqL.of eD), fun b hb => ?_, alike_keys KY, sort_keys KY, fun b hb => ?_, fun p np => ?_⟩
    · obtain ⟨x, hx, rfl⟩ := List.mem_map.mp hb
      obtain ⟨g1, g2⟩ := kK x hx
      exact .tup (SqT.of g1) (.cons (.int _) (.cons (.tup (Same.tup (s2.trans s3) (sy1 x.2.2 g2)) (.cons (.str _) (.cons (.int _) .nil))) .nil))
    · obtain ⟨x, _, rfl⟩ := List.mem_map.mp hb
      exact depKey x
    rw [eS, r2']
    have s4 := sameNew (o := .lst (SK.map fun e => V.ref e.1)) np
    have e4 : upd H3 p (.lst (SK.map fun e => V.ref e.1)) p = some (.lst (SK.map fun e => V.ref e.1)) := upd_same
    dsimp only [tNil]
    generalize upd H3 p (.lst (SK.map fun e => V.ref e.1)) = H4 at s4 e4
    have lSK : SK.length = L2.length := by rw [pS.length_eq, lK]
    refine ⟨p, rfl, ⟨_, SqL.of e4⟩, fun G nG => ?_⟩
    refine lc_list (K := K) (a := p) (xs := SK.map fun e => V.ref e.1) (fun i H' => Same H4 H' ∧ H' G = some (.lst (refsOf ((SK.take i).map fun e => e.2.2)))) ⟨sameNew nG, upd_same⟩ (fun i H' _ h => SqL.of (h.1 _ _ e4)) ?_ ?_
    · rintro i v H5 hv ⟨s5, eG⟩
      obtain ⟨e, he, rfl⟩ : ∃ e, SK[i]? = some e ∧ v = V.ref e.1 := by
        rw [List.getElem?_map] at hv
        cases h : SK[i]? with
        | none => rw [h] at hv; cases hv
        | some e => rw [h] at hv; exact ⟨e, rfl, (Option.some.inj hv).symm⟩
      have em := pS.mem_iff.mp (List.mem_of_getElem? he)
      have lt := (List.getElem?_eq_some_iff.mp he).1
      have tkE : SK.take (i + 1) = SK.take i ++ [e] := by rw [List.take_succ, he]; rfl
      have g1 := s5 _ _ (s4 _ _ (kK e em).1)
      refine ⟨e.1, _, rfl, SqT.of g1, rfl, _, _, rfl, _, _, rfl, rfl, rfl, ?_⟩
      dsimp only [tYes]
      rw [if_pos rfl]
      refine ⟨_, rfl, _, eG, ?_, Same.upd s5 nG, ?_⟩
      · rw [List.length_map, List.length_map, List.length_take]
        omega
      · rw [upd_same, tkE, List.map_append]
        show _ = some (HO.lst (List.map _ _))
        rw [List.map_append]
        rfl
    · rintro H5 ⟨s5, eG⟩
      rw [List.length_map, List.take_length] at eG
      refine ⟨G, _, rfl, .inl ⟨SqL.of eG, fun t nt => ?_⟩⟩
      have s6 := s5.trans (sameNew (o := .tup (refsOf (SK.map fun e => e.2.2))) nt)
      have s36 := (s3.trans s4).trans s6
      refine q t (SK.map fun e => e.2.2) _ ((s13.trans s4).trans s6) upd_same (fun u hu => ?_) ?_
      · obtain ⟨x, hx, rfl⟩ := List.mem_map.mp hu
        exact Same.tup (s2.trans s36) (sy1 x.2.2 (kK x (pS.mem_iff.mp hx)).2)
      · have h1 : sylsOf (SK.map fun e => e.2.2) = (SK.map labOf).map (·.2) := by
          show List.map _ (List.map _ _) = _
          rw [List.map_map, List.map_map]
          rfl
        rw [h1, labE, pil1]
        show (FM.rdD _ _ _).map (·.2) = _
        rw [FM.form_flat]
        rfl
end
end L2.Und
end

section
set_option Elab.async false
set_option linter.all false
set_option maxRecDepth 100000
set_option maxHeartbeats 1000000
namespace L2.Und
open PySem PySem.Spec PyProof.Rows _root_.Und ClX
open L2.KS SX
open PySem.W (findIn keepIn typeIn subIn)
/-! ### what the laws over versions share -/
def inFor : Stmt → List Stmt
  | .For _ _ b _ _ => b
  | _ => []
theorem Kept.like {d c : Addr} {H H' : Hp} (k : Kept d c H H') (x : Deal H d c) : SameL H H' := fun b u e n => by
  obtain ⟨_, xs, m, hd, hc, _⟩ := x
  refine k b u (fun z => ?_) (fun z => ?_) e
  · rw [z, hd] at e
    exact n _ (Option.some.inj e).symm
  · rw [z, hc] at e
    exact n _ (Option.some.inj e).symm
def spLaw (K : PySem.W.Frag) : Sp := fun vs H Q _ => ∃ (a : Addr) (ns : List Int), vs = [.ref a] ∧ SqL K H a (ns.map V.int) ∧ ns.length ≤ 63 ∧ ∀ H', Q (.bl true) H'
abbrev PrT (P : Program) (w : World) (K : PySem.W.Frag) (mg : Str → Option Value) (base : Heap) (x : Str) (k : Nat) (ps : List Str) (sp : Sp) : Prop := ∃ f fd, mg x = some (.ref f) ∧ keepIn K (.ref f) = true ∧ FnOk P w K mg base CX0 k f fd ps sp ∧ Binds K fd ps []
abbrev PrX (P : Program) (w : World) (K : PySem.W.Frag) (mg : Str → Option Value) (base : Heap) (x : Str) (k : Nat) (ps : List Str) (sp : Sp) : Prop := ∃ f fd, mg x = some (.ref f) ∧ keepIn K (.ref f) = true ∧ FnOk P w K mg base (L2.CX P w) k f fd ps sp ∧ Binds K fd ps []
abbrev PrM (P : Program) (w : World) (K : PySem.W.Frag) (mg : Str → Option Value) (base : Heap) (C : Addr) (m : Str) (k : Nat) (ps : List Str) (sp : Sp) : Prop := ∃ f fd, Meth K C m f ∧ FnOk P w K mg base CX0 k f fd ps sp ∧ Binds K fd ps []
abbrev PrMX (P : Program) (w : World) (K : PySem.W.Frag) (mg : Str → Option Value) (base : Heap) (C : Addr) (m : Str) (k : Nat) (ps : List Str) (sp : Sp) : Prop := ∃ f fd, Meth K C m f ∧ FnOk P w K mg base (L2.CX P w) k f fd ps sp ∧ Binds K fd ps []
abbrev PrI (P : Program) (w : World) (K : PySem.W.Frag) (mg : Str → Option Value) (base : Heap) (C : Addr) (k : Nat) (ps : List Str) (sp : Sp) : Prop := ∃ f fd, Mk K C f ∧ FnOk P w K mg base (L2.CX P w) k f fd ps sp ∧ Binds K fd ps []
/-- nothing that is raised leaves here -/
theorem passN {X : Cx} : ∀ σ : St, PassesAt (L2.CX X.prog X.w) X σ E0 := fun _ => fun pins H s e s' I c => passNo pins _ H s e s' I c
/-- kinds, pairs, a table: what a turn of the laws draws -/
structure Sit (K : PySem.W.Frag) (CT d c kA pA tb : Addr) (ks : List Str) (PL : PA2') (H : Hp) : Prop where
  deal : Deal H d c
  kin : H kA = some (.lst (ks.map V.str))
  kd : kA ≠ d
  kc : kA ≠ c
  prs : H pA = some (.lst (PL.map fun e => V.ref e.1))
  pd : pA ≠ d
  pc : pA ≠ c
  pat : PairsAt H PL
  pin : PairsIn ks (PL.map (·.2))
  few : PL.length ≤ 66
  k1 : 1 ≤ ks.length
  k12 : ks.length ≤ 12
  nm : ∀ k ∈ ks, IsName k = true
  nd : ks.Nodup
  tab : TabR K CT tb ks (PL.map (·.2)) H
section
variable {K : PySem.W.Frag} {CT d c kA pA tb : Addr} {ks : List Str} {PL : PA2'} {H H' : Hp}
theorem Sit.same (z : Sit K CT d c kA pA tb ks PL H) (s : Same H H') : Sit K CT d c kA pA tb ks PL H' :=
  ⟨z.deal.same s, s _ _ z.kin, z.kd, z.kc, s _ _ z.prs, z.pd, z.pc, fun e he => s _ _ (z.pat e he), z.pin, z.few, z.k1, z.k12, z.nm, z.nd, z.tab.same s⟩
theorem Sit.kept (z : Sit K CT d c kA pA tb ks PL H) (k : Kept d c H H') (D : Deal H' d c) : Sit K CT d c kA pA tb ks PL H' :=
  ⟨D, k _ _ z.kd z.kc z.kin, z.kd, z.kc, k _ _ z.pd z.pc z.prs, z.pd, z.pc, keptPairs k z.deal z.pat, z.pin, z.few, z.k1, z.k12, z.nm, z.nd, z.tab.mono (k.like z.deal)⟩
theorem Sit.kok (z : Sit K CT d c kA pA tb ks PL H) : ∀ k ∈ ks, PyData.strOk k = true := fun k hk => name_ok (z.nm k hk)
theorem Sit.prs2 (z : Sit K CT d c kA pA tb ks PL H) : Prs2 K H PL := ⟨by have := z.few; omega, fun e he => SqT.of (z.pat e he), fun e he => by
  obtain ⟨g1, g2, _⟩ := z.pin e.2 (List.mem_map.mpr ⟨e, he, rfl⟩)
  exact ⟨z.kok _ g1, z.kok _ g2⟩⟩
theorem Sit.lawRow (z : Sit K CT d c kA pA tb ks PL H) {r : Addr} {L : SyL} (hr : SqL K H r (refsOf L)) (hs : Syls K H L) (kn : Kn ks (sylsOf L)) (few : L.length ≤ 5000) : LawRow K pA r PL ks L H :=
  ⟨SqL.of z.prs, z.prs2, z.pin, .inl hr, hs, fun e he => kn e.2 (List.mem_map.mpr ⟨e, he, rfl⟩), z.kok, few⟩
end
/-- a drawn row stands in a list -/
structure RowL (H : Hp) (ks : List Str) (r : Addr) (L : SyL) (n : Nat) : Prop where
  lst : H r = some (.lst (refsOf L))
  syl : SylsAt H L
  kn : Kn ks (sylsOf L)
  cb : Cb (10 ^ 18) (sylsOf L)
  len : L.length ≤ n
section
variable {H H' : Hp} {ks : List Str} {r d c : Addr} {L : SyL} {n m : Nat}
theorem RowL.same (z : RowL H ks r L n) (s : Same H H') : RowL H' ks r L n := ⟨s _ _ z.lst, fun e he => s _ _ (z.syl e he), z.kn, z.cb, z.len⟩
theorem RowL.kept (z : RowL H ks r L n) (k : Kept d c H H') (D : Deal H d c) (rd : r ≠ d) (rc : r ≠ c) : RowL H' ks r L n := ⟨k _ _ rd rc z.lst, fun e he => keptTup k D (z.syl e he), z.kn, z.cb, z.len⟩
theorem RowL.le (z : RowL H ks r L n) (h : n ≤ m) : RowL H ks r L m := ⟨z.lst, z.syl, z.kn, z.cb, Nat.le_trans z.len h⟩
theorem good_kn {l : List (Str × Int)} (g : GoodSyls ks l) : Kn ks l := fun e he => (g e he).1
theorem good_cb {l : List (Str × Int)} (g : GoodSyls ks l) : Cb (10 ^ 18) l := fun e he => by
  obtain ⟨_, g2, g3⟩ := g e he
  have : (10 : Int) ^ 18 = ((10 ^ 18 : Nat) : Int) := by decide
  omega
end
/-- lengths and counts of forms, shown -/
theorem form_shows {ks : List Str} {ps : List (Str × Str)} {a : List (Str × Int)} (kn : Kn ks a) (cb : Cb (10 ^ 18) a) (k12 : ks.length ≤ 12) (nm : ∀ k ∈ ks, IsName k = true) (l : a.length ≤ 500) : Shows (.tuple ((formS ks ps a).map dSyl)) := by
  obtain ⟨h1, h2⟩ := form_few (ps := ps) kn k12 cb
  refine Shows.syls (fun e he => name_ok (nm _ (h2 e he).1)) (fun e he => (name_short (nm _ (h2 e he).1)).1) (fun e he => ?_) (by omega)
  have h3 := (h2 e he).2
  have h4 : a.length * 10 ^ 18 ≤ 500 * 10 ^ 18 := Nat.mul_le_mul_right _ l
  have h5 : 500 * 10 ^ 18 < 10 ^ 21 := by decide
  omega
theorem flatS (ks : List Str) (ps : List (Str × Str)) (a : List (Str × Int)) : (layersS ks ps a).flatten = formS ks ps a := rfl
section
variable {K : PySem.W.Frag} {CV CR CT CO CM x y t t' : Addr} {ks ks' : List Str} {ps ps' : List (Str × Str)} {R R' : List (Str × Int)} {H : Hp} {Q : VK} {E : XK}
theorem VerR.ins {LS : List (List (Str × Int))} (v : VerR K CV CR CT x t ks ps LS H) : ∃ dx fs, H x = some (.ins CV dx fs) := by
  obtain ⟨dx, sy, ly, kd, ro, la, FL, S, LY, KD, v⟩ := v
  exact ⟨dx, _, v.obj⟩
/-- x * y -/
theorem mulV (nd : ks.Nodup) (k12 : ks.length ≤ 12) (v : VerA K CV CR CT x t ks ps R H) (v' : VerA K CV CR CT y t' ks ps R' H) (kn : Kn ks R) (kn' : Kn ks R') (l : R.length + R'.length ≤ 83)
    (q : ∀ z H', Same H H' → VerA K CV CR CT z t ks ps (R ++ R') H' → Q (.ref z) H') : (∃ g dy fs, V.ref y = .ref g ∧ H g = some (.ins CV dy fs)) ∧ Wants CV (spVMul K CV CR CT CO CM) E (.ref x) [.ref y] H fun v H' => (∃ g, v = .ref g) ∧ Q v H' := by
  obtain ⟨dx, fs, e⟩ := v.ins
  obtain ⟨dy, fy, ey⟩ := v'.ins
  have f1 : (formS ks ps R).length ≤ 12 * R.length := form_few_len k12 _
  have f2 : (formS ks ps R').length ≤ 12 * R'.length := form_few_len k12 _
  have f3 : (formS ks ps (R ++ R')).length ≤ 12 * (R ++ R').length := form_few_len k12 _
  rw [List.length_append] at f3
  refine ⟨⟨y, dy, fy, rfl, ey⟩, x, dx, fs, rfl, e, x, t, y, t', ks, ks, ps, ps, _, _, rfl, v, v', by rw [flatS, flatS]; omega, fun _ => ⟨fun _ z H' s V => ⟨⟨z, rfl⟩, q z H' s ?_⟩, fun l' => absurd l' ?_⟩, fun n => absurd ⟨rfl, rfl⟩ n⟩
  · rw [flatS, flatS, lay_eq (al_mul nd kn kn')] at V
    exact V
  · rw [flatS, flatS, form_eq (al_mul nd kn kn')]
    omega
/-- ~x -/
theorem invV (nd : ks.Nodup) (k12 : ks.length ≤ 12) (v : VerA K CV CR CT x t ks ps R H) (kn : Kn ks R) (l : R.length ≤ 83)
    (q : ∀ z H', Same H H' → VerA K CV CR CT z t ks ps (undoneS R) H' → Q (.ref z) H') : Wants CV (spVInv K CV CR CT CM) E (.ref x) [] H Q := by
  obtain ⟨dx, fs, e⟩ := v.ins
  have f1 : (formS ks ps R).length ≤ 12 * R.length := form_few_len k12 _
  have f3 : (formS ks ps (undoneS R)).length ≤ 12 * (undoneS R).length := form_few_len k12 _
  rw [und_len] at f3
  refine ⟨x, dx, fs, rfl, e, x, t, ks, ps, _, rfl, v, by rw [flatS]; omega, fun _ z H' s V => q z H' s ?_, fun l' => absurd l' ?_⟩
  · rw [flatS, lay_eq (al_inv nd kn)] at V
    exact V
  · rw [flatS, form_eq (al_inv nd kn)]
    omega
/-- x != y -/
theorem neV {LS LS' : List (List (Str × Int))} (v : VerR K CV CR CT x t ks ps LS H) (v' : VerR K CV CR CT y t' ks' ps' LS' H) (q : Q (.bl (!decide (VersEq ks ps LS ks' ps' LS'))) H) : rNeO K CV (spVEq K CV CR CT) E (.ref x) (.ref y) H Q := by
  obtain ⟨dx, sy, ly, kd, ro, la, FL, S, LY, KD, V⟩ := id v
  obtain ⟨dx', sy', ly', kd', ro', la', FL', S', LY', KD', V'⟩ := id v'
  exact ⟨.ins V'.obj, x, dx, _, rfl, V.obj, x, t, .ref y, ks, ps, LS, rfl, v, .inr ⟨y, t', ks', ps', LS', rfl, v', _, rfl, q⟩⟩
theorem eqV {LS LS' : List (List (Str × Int))} (v : VerR K CV CR CT x t ks ps LS H) (v' : VerR K CV CR CT y t' ks' ps' LS' H) (q : Q (.bl (decide (VersEq ks ps LS ks' ps' LS'))) H) : rEqO K CV (spVEq K CV CR CT) E (.ref x) (.ref y) H Q := by
  obtain ⟨dx, sy, ly, kd, ro, la, FL, S, LY, KD, V⟩ := id v
  obtain ⟨dx', sy', ly', kd', ro', la', FL', S', LY', KD', V'⟩ := id v'
  exact ⟨.ins V'.obj, x, dx, _, rfl, V.obj, x, t, .ref y, ks, ps, LS, rfl, v, .inr ⟨y, t', ks', ps', LS', rfl, v', _, rfl, q⟩⟩
/-- versions of alike rows are not unequal -/
theorem neA (v : VerA K CV CR CT x t ks ps R H) (v' : VerA K CV CR CT y t' ks ps R' H) (h : Al ks ps R R') (q : Q (.bl false) H) : rNeO K CV (spVEq K CV CR CT) E (.ref x) (.ref y) H Q := by
  refine neV v v' ?_
  have e : decide (VersEq ks ps (layersS ks ps R) ks ps (layersS ks ps R')) = true := decide_eq_true ⟨⟨rfl, rfl⟩, by rw [lay_eq h]⟩
  rw [e]
  exact q
theorem eqA (v : VerA K CV CR CT x t ks ps R H) (v' : VerA K CV CR CT y t' ks ps R' H) (h : Al ks ps R R') (q : Q (.bl true) H) : rEqO K CV (spVEq K CV CR CT) E (.ref x) (.ref y) H Q := by
  refine eqV v v' ?_
  have e : decide (VersEq ks ps (layersS ks ps R) ks ps (layersS ks ps R')) = true := decide_eq_true ⟨⟨rfl, rfl⟩, by rw [lay_eq h]⟩
  rw [e]
  exact q
/-- bool(x) of a version of a row alike the empty one -/
theorem boolA (v : VerA K CV CR CT x t ks ps R H) (h : Al ks ps R []) (q : ∀ H', Same H H' → Q (.bl false) H') : rBoolO CV (spVBool K CV CR CT) E [.ref x] H Q := by
  obtain ⟨dx, fs, e⟩ := v.ins
  refine ⟨_, rfl, x, dx, fs, rfl, e, x, t, ks, ps, _, rfl, v, fun H' s => ⟨_, rfl, ?_⟩⟩
  have z : (!(layersS ks ps R).flatten.isEmpty) = false := by
    rw [flatS, form_eq h, form_nil]
    rfl
  rw [z]
  exact q H' s
end
end L2.Und
end

section
set_option Elab.async false
set_option linter.all false
set_option maxRecDepth 100000
set_option maxHeartbeats 1000000
/-! ### a form has no more syllables than the row -/
namespace FM
open PySem
variable {T : Tab} {O : Ord T}
theorem kl_nodup (O : Ord T) : O.kl.Nodup := O.srt.imp fun h e => by rw [e] at h; exact O.ir _ h
theorem rd_perm {s : Piles} (I : Inv T s) : (rdP O s).Perm (O.kl.flatMap fun k => (s k).map fun p => ((p.1, (k, p.2)) : Lab)) := by
  refine (List.perm_ext_iff_of_nodup (nodup_rd s) ?_).mpr fun x => ?_
  · refine List.pairwise_flatMap.mpr ⟨fun k _ => ?_, (kl_nodup O).imp fun {a b} ne x hx y hy e => ?_⟩
    · rw [List.pairwise_map]
      refine (I.asc k).imp fun {a b} h e => ?_
      have h1 : a.1 = b.1 := congrArg (·.1) e
      omega
    · obtain ⟨p, _, rfl⟩ := List.mem_map.mp hx
      obtain ⟨q, _, rfl⟩ := List.mem_map.mp hy
      exact ne (congrArg (fun z : Lab => z.2.1) e)
  · obtain ⟨l, k, c⟩ := x
    rw [mem_rdP I, List.mem_flatMap]
    constructor
    · intro h
      exact ⟨k, (O.mem k).mpr (I.known k (List.ne_nil_of_mem h)), List.mem_map.mpr ⟨(l, c), h, rfl⟩⟩
    · rintro ⟨k', _, h⟩
      obtain ⟨p, hp, e⟩ := List.mem_map.mp h
      cases e
      exact hp
theorem rd_len {s : Piles} (I : Inv T s) : (rdP O s).length = (O.kl.map fun k => (s k).length).sum := by
  rw [(rd_perm I).length_eq, List.length_flatMap]
  congr 1
  refine List.map_congr_left fun k _ => ?_
  rw [List.length_map]
theorem sum_one {f f' : Str → Nat} {k : Str} (h : ∀ x, x ≠ k → f' x = f x) (hk : f' k ≤ f k + 1) : ∀ {l : List Str}, l.Nodup → (l.map f').sum ≤ (l.map f).sum + 1
  | [], _ => Nat.zero_le _
  | x :: l, nd => by
    obtain ⟨n1, n2⟩ := List.nodup_cons.mp nd
    by_cases e : x = k
    · subst e
      have : l.map f' = l.map f := List.map_congr_left fun y hy => h y fun z => n1 (by rw [← z]; exact hy)
      rw [List.map_cons, List.map_cons, List.sum_cons, List.sum_cons, this]
      omega
    · have ih := sum_one h hk n2
      rw [List.map_cons, List.map_cons, List.sum_cons, List.sum_cons, h x e]
      omega
theorem put_len (p : Pile) (L : Nat) (n : Int) : (put p L n).length ≤ p.length + 1 := by
  cases p with
  | nil =>
    show (if n = 0 then [] else [(L, n)]).length ≤ 0 + 1
    split <;> simp
  | cons y r =>
    obtain ⟨l, a⟩ := y
    show (if l + 1 = L then (if n + a = 0 then r else (l, n + a) :: r) else (if n = 0 then (l, a) :: r else (L, n) :: (l, a) :: r)).length ≤ (r.length + 1) + 1
    split <;> split
    · show r.length ≤ (r.length + 1) + 1; omega
    · show r.length + 1 ≤ (r.length + 1) + 1; omega
    · show r.length + 1 ≤ (r.length + 1) + 1; omega
    · show r.length + 1 + 1 ≤ (r.length + 1) + 1; omega
theorem rd_step {s : Piles} (I : Inv T s) {e : Syl} (hk : e.1 ∈ T.ks) : (rdP O (step T s e)).length ≤ (rdP O s).length + 1 := by
  rw [rd_len (inv_step I hk), rd_len I]
  refine sum_one (k := e.1) (fun x hx => ?_) ?_ (kl_nodup O)
  · unfold step
    rw [set_ne hx]
  · unfold step
    rw [set_same]
    exact put_len _ _ _
theorem form_short {row : List Syl} (hk : ∀ e ∈ row, e.1 ∈ T.ks) : (formP O (pil T row)).length ≤ row.length := by
  revert hk
  refine snoc_ind (p := fun row => (∀ e ∈ row, e.1 ∈ T.ks) → (formP O (pil T row)).length ≤ row.length) (fun _ => ?_) (fun l a ih hk => ?_) row
  · have := rd_len (O := O) (inv_nil (T := T))
    show ((rdP O fun _ => []).map (·.2)).length ≤ 0
    rw [List.length_map, this]
    have : ∀ l : List Str, (l.map fun k => (([] : Pile)).length).sum = 0 := fun l => by
      induction l with
      | nil => rfl
      | cons x l ih => rw [List.map_cons, List.sum_cons, ih]; rfl
    exact Nat.le_of_eq (this _)
  · have hl : ∀ e ∈ l, e.1 ∈ T.ks := fun e he => hk e (List.mem_append_left _ he)
    have h1 := ih hl
    have h2 := rd_step (O := O) (inv_pil hl) (hk a (by simp))
    rw [pil_app, List.length_append]
    show ((rdP O (step T (pil T l) a)).map (·.2)).length ≤ l.length + 1
    rw [List.length_map]
    have h3 : (formP O (pil T l)).length = (rdP O (pil T l)).length := List.length_map ..
    omega
end FM
end

section
set_option Elab.async false
set_option linter.all false
set_option maxRecDepth 100000
set_option maxHeartbeats 1000000
namespace L2.Und
open PySem PySem.Spec PyProof.Rows _root_.Und ClX
open L2.KS SX
open PySem.W (findIn keepIn typeIn subIn)
/-! ### products and undone versions of longer rows -/
theorem form_le {ks : List Str} {ps : List (Str × Str)} {a : List (Str × Int)} (nd : ks.Nodup) (kn : Kn ks a) : (formS ks ps a).length ≤ a.length := by
  rw [formS_P nd]
  exact FM.form_short kn.T
section
variable {K : PySem.W.Frag} {CV CR CT CO CM x y t t' : Addr} {ks ks' : List Str} {ps ps' : List (Str × Str)} {R R' : List (Str × Int)} {H : Hp} {Q : VK} {E : XK}
/-- x * y -/
theorem mulL (nd : ks.Nodup) (v : VerA K CV CR CT x t ks ps R H) (v' : VerA K CV CR CT y t' ks ps R' H) (kn : Kn ks R) (kn' : Kn ks R') (l : R.length + R'.length ≤ 1000)
    (q : ∀ z H', Same H H' → VerA K CV CR CT z t ks ps (R ++ R') H' → Q (.ref z) H') : (∃ g dy fs, V.ref y = .ref g ∧ H g = some (.ins CV dy fs)) ∧ Wants CV (spVMul K CV CR CT CO CM) E (.ref x) [.ref y] H fun v H' => (∃ g, v = .ref g) ∧ Q v H' := by
  obtain ⟨dx, fs, e⟩ := v.ins
  obtain ⟨dy, fy, ey⟩ := v'.ins
  have f1 := form_le (ps := ps) nd kn
  have f2 := form_le (ps := ps) nd kn'
  have f3 := form_le (ps := ps) nd (kn.app kn')
  rw [List.length_append] at f3
  refine ⟨⟨y, dy, fy, rfl, ey⟩, x, dx, fs, rfl, e, x, t, y, t', ks, ks, ps, ps, _, _, rfl, v, v', by rw [flatS, flatS]; omega, fun _ => ⟨fun _ z H' s V => ⟨⟨z, rfl⟩, q z H' s ?_⟩, fun l' => absurd l' ?_⟩, fun n => absurd ⟨rfl, rfl⟩ n⟩
  · rw [flatS, flatS, lay_eq (al_mul nd kn kn')] at V
    exact V
  · rw [flatS, flatS, form_eq (al_mul nd kn kn')]
    omega
/-- ~x -/
theorem invL (nd : ks.Nodup) (v : VerA K CV CR CT x t ks ps R H) (kn : Kn ks R) (l : R.length ≤ 1000)
    (q : ∀ z H', Same H H' → VerA K CV CR CT z t ks ps (undoneS R) H' → Q (.ref z) H') : Wants CV (spVInv K CV CR CT CM) E (.ref x) [] H Q := by
  obtain ⟨dx, fs, e⟩ := v.ins
  have f1 := form_le (ps := ps) nd kn
  have f3 := form_le (ps := ps) nd kn.und
  rw [und_len] at f3
  refine ⟨x, dx, fs, rfl, e, x, t, ks, ps, _, rfl, v, by rw [flatS]; omega, fun _ z H' s V => q z H' s ?_, fun l' => absurd l' ?_⟩
  · rw [flatS, lay_eq (al_inv nd kn)] at V
    exact V
  · rw [flatS, form_eq (al_inv nd kn)]
    omega
/-- a version is made of a row -/
theorem madeL {b : Addr} {L : SyL} {Rr : Addr → Hp → Prop} (T : TabR K CT t ks ps H) (hb : SqA K H b (refsOf L)) (hL : Syls K H L) (kn : Kn ks (sylsOf L)) (ln : L.length ≤ 1000)
    (h : ∀ x H', H x = none → Same H H' → VerA K CV CR CT x t ks ps (sylsOf L) H' → Rr x H') :
    ∀ x dx, H x = none → H dx = none → dx ≠ x → spVerIni K CV CR CT CM [.ref x, .ref t, .ref b] (upd (upd H dx (.own x)) x (.ins CV dx [])) (fun v H2 => v = .non ∧ Rr x H2) E := by
  have nd : ks.Nodup := by
    obtain ⟨_, _, _, _, _, _, _, TA⟩ := id T
    exact (kinds_ok TA.good).nd
  have f1 := form_le (ps := ps) nd kn
  have lS : (sylsOf L).length = L.length := List.length_map ..
  exact madeVer T hb hL (fun e he => kn e.2 (List.mem_map.mpr ⟨e, he, rfl⟩)) (by omega) (fun _ => h) (fun g => absurd g (by omega))
/-- Version.of(row) -/
theorem ofL {r : Addr} {L : SyL} (Rw : RowR K CR CT r t ks ps L H) (ln : L.length ≤ 1000) (q : ∀ x H', H x = none → Same H H' → VerA K CV CR CT x t ks ps (sylsOf L) H' → Q (.ref x) H') : spVerOf K CV CR CT CM [.ref CV, .ref r] H Q E := by
  obtain ⟨dx, sy, RA⟩ := id Rw
  have nd : ks.Nodup := by
    obtain ⟨_, _, _, _, _, _, _, TA⟩ := RA.tab
    exact (kinds_ok TA.good).nd
  have kn : Kn ks (sylsOf L) := fun e he => by
    obtain ⟨x, hx, rfl⟩ := List.mem_map.mp he
    exact RA.known x hx
  have f1 := form_le (ps := ps) nd kn
  have lS : (sylsOf L).length = L.length := List.length_map ..
  exact ⟨r, t, ks, ps, L, rfl, Rw, by omega, fun _ => q, fun g => absurd g (by omega)⟩
/-- repr of a form -/
theorem form_shw {a : List (Str × Int)} {B : Nat} (nd : ks.Nodup) (kn : Kn ks a) (cb : Cb B a) (hB : a.length * B < 10 ^ 21) (k12 : ks.length ≤ 12) (nm : ∀ k ∈ ks, IsName k = true) (l : a.length ≤ 7000) : Shows (.tuple ((formS ks ps a).map dSyl)) := by
  obtain ⟨_, h2⟩ := form_few (ps := ps) kn k12 cb
  have h1 := form_le (ps := ps) nd kn
  refine Shows.syls (fun e he => name_ok (nm _ (h2 e he).1)) (fun e he => (name_short (nm _ (h2 e he).1)).1) (fun e he => ?_) (by omega)
  have h3 := (h2 e he).2
  omega
end
end L2.Und
end

section
set_option Elab.async false
set_option linter.all false
set_option maxRecDepth 100000
set_option maxHeartbeats 1000000
namespace L2.Und
open PySem PySem.Spec PyProof.Rows _root_.Und
open L2.KS
open PySem.W (findIn keepIn typeIn subIn)
/-! ### form_in, form_of -/
abbrev sFormIn : Stmt := topS 38
theorem scFormIn : FnScope ["piles", "layer", "syllable"] ["piles"] (defScope sFormIn) := ⟨rfl, rfl, rfl, by decide +kernel, rfl, by decide +kernel, by decide +kernel⟩
def spFormIn (K : PySem.W.Frag) : Sp := fun vs H Q _ => ∃ (D : Addr) (ns : List Str) (s : FM.Piles) (PA : List (Str × Addr)) (B : Nat), vs = [.ref D] ∧ PilR D ns s PA H ∧ srtTxt ns = ns ∧ ns.Nodup ∧ ns.length ≤ 12 ∧ (∀ k ∈ ns, (s k).Pairwise fun a b => b.1 < a.1) ∧ (∀ k ∈ ns, (s k).length ≤ B ∧ FM.ht (s k) ≤ B) ∧ B ≤ 5000 ∧
  ∀ (r : Addr) (S : SyL) (H' : Hp), Same H H' → H' r = some (.tup (refsOf S)) → Syls K H' S → sylsOf S = (layersL ns s).flatten → Q (.ref r) H'
section
variable {P : Program} {w : World} {K : PySem.W.Frag} {mg : Str → Option Value} {base : Heap}
theorem okFormIn {f fL : Addr} {fd fdL : FuncData} (F : Fun K "form_in" "form_in" sFormIn f fd)
    (GL : FnOk P w K mg base CX0 1 fL fdL ["piles"] spLayIn) (mL : mg "layers_in" = some (.ref fL)) (kL : keepIn K (.ref fL) = true) (bL : Binds K fdL ["piles"] []) (mT : mg "tuple" = none) :
    FnOk P w K mg base CX0 2 f fd ["piles"] (spFormIn K) := by
  refine F.ok scFormIn (fun vs H Q E h => ?_) (fun cdv A outer s H vs Q E hr h => ?_)
  · obtain ⟨D, ns, s, PA, B, rfl, _⟩ := h
    rfl
  refine ⟨_, pss_one (ps_ret (pe_callTy call_tuple_of rfl mT PyProof.Rows.Boot.«tuple» (pa_cons
      (pe_lc2 (wi1 := iTup K (tVar 1)) (own := [("layer", 1), ("syllable", 2)]) (vs1 := [2]) (g := gName 1) (g1 := gName 2) (tt := tYes) (tt1 := tYes) rfl scFormIn.nd (pi_tup (pe_call GL hr rfl mL kL bL .nil pass0 (pa_cons (pv 0) pa_nil))) (blkOk_by (N := ["piles", "layer", "syllable"]) (sc := defScope sFormIn) (by decide +kernel)) (by decide)
        (fun _ _ _ _ _ => pg_name (i := 1) scFormIn.nd rfl (Or.inl rfl)) (fun _ _ _ _ _ => pts_nil) (fun _ _ _ _ _ => pi_tup (pv 1)) (fun _ _ _ _ _ => pg_name (i := 2) scFormIn.nd rfl (Or.inl rfl)) (fun _ _ _ _ _ => pts_nil) (fun _ _ _ _ _ => pv 2)) pa_nil))), ?_⟩
  obtain ⟨D0, ns, s0, PA, B, rfl, z, so, nd, l12, asc, bnd, B5, q⟩ := h
  have big : (100000 : Nat) ≤ sizeLine := by decide
  refine ⟨_, rfl, D0, ns, s0, PA, B, rfl, z, so, nd, l12, asc, bnd, B5, fun ly LY H2 s2 aL eL => ?_⟩
  refine ⟨ly, rfl, ⟨_, SqT.of aL.top⟩, fun D nD => ?_⟩
  have LL : (LY.map fun e => V.ref e.1).length = LY.length := List.length_map ..
  obtain ⟨FA, eFA⟩ : ∃ FA, LY.flatMap (·.2) = FA := ⟨_, rfl⟩
  have sF : sylsOf FA = (layersL ns s0).flatten := by rw [← eFA, flat_syls, eL]
  have lF : FA.length ≤ 60000 := by
    have h1 := congrArg List.length sF
    rw [List.length_map] at h1
    have h2 : (layersL ns s0).flatten.length ≤ ns.length * B := form_len fun k hk => (bnd k hk).1
    have h3 : ns.length * B ≤ 12 * 5000 := Nat.mul_le_mul l12 B5
    omega
  have inFA : ∀ e ∈ LY, ∀ x ∈ e.2, x ∈ FA := fun e he x hx => by rw [← eFA]; exact List.mem_flatMap.mpr ⟨e, he, hx⟩
  have full : ∀ i e, LY[i]? = some e → ∀ j, ((LY.take i).flatMap (·.2)).length + (e.2.take j).length ≤ FA.length := fun i e he j => by
    have e1 : LY.take (i + 1) = LY.take i ++ [e] := by rw [List.take_succ, he]; rfl
    have e2 : ((LY.take (i + 1)).flatMap (·.2)).length ≤ FA.length := by
      have e3 : FA = (LY.take (i + 1)).flatMap (·.2) ++ (LY.drop (i + 1)).flatMap (·.2) := by rw [← List.flatMap_append, List.take_append_drop, eFA]
      rw [e3, List.length_append]
      omega
    rw [e1, List.flatMap_append, List.length_append] at e2
    have e3 : (e.2.take j).length ≤ e.2.length := by rw [List.length_take]; omega
    have e4 : ([e].flatMap fun x : Addr × SyL => x.2) = e.2 := by simp
    rw [e4] at e2
    omega
  refine so_it (walk_tup (K := K) (a := ly) (xs := LY.map fun e => V.ref e.1)) (fun i H' => Same H2 H' ∧ H' D = some (.lst (refsOf ((LY.take i).flatMap (·.2))))) ⟨sameNew nD, upd_same⟩ (fun i H' _ z => SqT.of (z.1 _ _ aL.top)) ?_ ?_
  · rintro i x H3' H3 hi ⟨s3, eD⟩ ⟨rfl, hx⟩
    obtain ⟨e, he, rfl⟩ : ∃ e, LY[i]? = some e ∧ x = V.ref e.1 := by
      rw [List.getElem?_map] at hx
      cases he : LY[i]? with
      | none => rw [he] at hx; cases hx
      | some e => rw [he] at hx; exact ⟨e, rfl, (Option.some.inj hx).symm⟩
    have em := List.mem_of_getElem? he
    have tkE : (LY.take (i + 1)).flatMap (·.2) = (LY.take i).flatMap (·.2) ++ e.2 := by
      rw [List.take_succ, he, List.flatMap_append]
      simp
    have eT := s3 _ _ (aL.lay e em)
    refine ⟨rfl, ?_⟩
    dsimp only [tYes]
    rw [if_pos rfl]
    refine ⟨_, rfl, e.1, rfl, ⟨_, SqT.of eT⟩, ?_⟩
    have LE : (refsOf e.2).length = e.2.length := List.length_map ..
    refine so_it (walk_tup (K := K) (a := e.1) (xs := refsOf e.2)) (fun j H' => Same H2 H' ∧ H' D = some (.lst (refsOf ((LY.take i).flatMap (·.2) ++ e.2.take j)))) ⟨s3, by rw [List.take_zero, List.append_nil]; exact eD⟩ (fun j H' _ z => SqT.of (z.1 _ _ (aL.lay e em))) ?_ ?_
    · rintro j y H4' H4 hj ⟨s4, eD4⟩ ⟨rfl, hy⟩
      obtain ⟨x, hx, rfl⟩ := refs_at hy
      have tkj : e.2.take (j + 1) = e.2.take j ++ [x] := by rw [List.take_succ, hx]; rfl
      refine ⟨rfl, ?_⟩
      dsimp only [tYes]
      rw [if_pos rfl]
      refine ⟨_, rfl, _, eD4, ?_, Same.upd s4 nD, ?_⟩
      · rw [List.length_map, List.length_append]
        have := full i e he j
        omega
      · rw [upd_same, tkj, ← List.append_assoc]
        show _ = some (HO.lst (List.map _ _))
        rw [List.map_append]
        rfl
    · rintro H4 ⟨s4, eD4⟩
      rw [LE, List.take_length, ← tkE] at eD4
      exact ⟨s4, eD4⟩
  · rintro H3 ⟨s3, eD⟩
    rw [LL, List.take_length, eFA] at eD
    refine ⟨D, _, rfl, .inl ⟨SqL.of eD, fun l nl => ?_⟩⟩
    have s4 := sameNew (o := .tup (refsOf FA)) nl
    refine q l FA _ (s2.trans (s3.trans s4)) upd_same (fun x hx => ?_) sF
    obtain ⟨e, he, hx'⟩ := List.mem_flatMap.mp (by rw [eFA]; exact hx : x ∈ LY.flatMap (·.2))
    exact Same.tup (s3.trans s4) (SqT.of (aL.syl e he x hx'))
end
abbrev sFormOf : Stmt := topS 40
theorem scFormOf : FnScope ["row"] ["row"] (defScope sFormOf) := ⟨rfl, rfl, rfl, by decide +kernel, rfl, by decide +kernel, by decide +kernel⟩
def spFormOf (K : PySem.W.Frag) (C CT : Addr) : Sp := fun vs H Q _ => ∃ (o t : Addr) (ks : List Str) (ps : List (Str × Str)) (L : SyL), vs = [.ref o] ∧ RowR K C CT o t ks ps L H ∧ L.length ≤ 5000 ∧
  ∀ (r : Addr) (S : SyL) (H' : Hp), Same H H' → H' r = some (.tup (refsOf S)) → Syls K H' S → sylsOf S = formS ks ps (sylsOf L) → Q (.ref r) H'
section
variable {P : Program} {w : World} {K : PySem.W.Frag} {mg : Str → Option Value} {base : Heap}
theorem okFormOf {f fP fL C CT : Addr} {fd fdP fdL : FuncData} (F : Fun K "form_of" "form_of" sFormOf f fd)
    (GP : FnOk P w K mg base CX0 2 fP fdP ["row"] (spPiles K C CT)) (mP : mg "piles_of" = some (.ref fP)) (kP : keepIn K (.ref fP) = true) (bP : Binds K fdP ["row"] [])
    (GL : FnOk P w K mg base CX0 2 fL fdL ["piles"] (spFormIn K)) (mL : mg "form_in" = some (.ref fL)) (kL : keepIn K (.ref fL) = true) (bL : Binds K fdL ["piles"] []) :
    FnOk P w K mg base CX0 3 f fd ["row"] (spFormOf K C CT) := by
  refine F.ok scFormOf (fun vs H Q E h => ?_) (fun cdv A outer s H vs Q E hr h => ?_)
  · obtain ⟨o, t, ks, ps, L, rfl, _⟩ := h
    rfl
  refine ⟨_, pss_one (ps_ret (pe_call GL hr rfl mL kL bL .nil pass0 (pa_cons (pe_call GP hr rfl mP kP bP .nil pass0 (pa_cons (pv 0) pa_nil)) pa_nil))), ?_⟩
  obtain ⟨o, t, ks, ps, L, rfl, R, l5, q⟩ := h
  have big : (100000 : Nat) ≤ sizeLine := by decide
  obtain ⟨dx, sy, RA⟩ := id R
  obtain ⟨dxT, LT, SLT, tk, tp, fr, st, TA⟩ := id RA.tab
  have ko := kinds_ok TA.good
  have nd : (srtTxt ks).Nodup := (srtTxt_perm ks).nodup_iff.mpr ko.nd
  have known : ∀ e ∈ sylsOf L, e.1 ∈ (tabT ks ps).ks := fun e he => by
    obtain ⟨x, hx, rfl⟩ := List.mem_map.mp he
    exact memT.mpr (RA.known x hx)
  have I := FM.inv_pil (T := tabT ks ps) known
  have lS : (sylsOf L).length = L.length := List.length_map ..
  refine ⟨_, rfl, o, t, ks, ps, L, rfl, R, by omega, fun D PA H1 nD s1 z1 => ?_⟩
  refine ⟨D, srtTxt ks, _, PA, L.length, rfl, z1.R, ?_, nd, by rw [len_srtTxt]; exact ko.high, fun k _ => I.asc k, fun k _ => ⟨?_, ?_⟩, l5, fun r S H2 s2 e2 sy2 eS => q r S H2 (s1.trans s2) e2 sy2 eS⟩
  · exact (srtTxt_of (List.Perm.refl _) (srtTxt_pw ks)).symm
  · rw [← lS]; exact pil_len _ _ _
  · rw [← lS]; exact pil_ht _ known k
end
end L2.Und
end

section
set_option Elab.async false
set_option linter.all false
set_option maxRecDepth 100000
set_option maxHeartbeats 400000
namespace L2.Und
open PySem PySem.Spec PyProof.Rows _root_.Und ClX
open L2.KS SX
open PySem.W (findIn keepIn typeIn subIn)
/-! ### exchangeable -/
abbrev sExch : Stmt := topS 51
theorem scExch : FnScope ["one", "other"] ["one", "other"] (defScope sExch) := ⟨rfl, rfl, rfl, by decide +kernel, rfl, by decide +kernel, by decide +kernel⟩
/-- whether the products of two rows are alike, both ways -/
def exchB (ks : List Str) (ps : List (Str × Str)) (a b : List (Str × Int)) : Bool := decide (formS ks ps (a ++ b) = formS ks ps (b ++ a))
def spExch (K : PySem.W.Frag) (CV CR CT : Addr) : Sp := fun vs H Q E => ∃ (x t y t' : Addr) (ks : List Str) (ps : List (Str × Str)) (R R' : List (Str × Int)), vs = [.ref x, .ref y] ∧ VerA K CV CR CT x t ks ps R H ∧ VerA K CV CR CT y t' ks ps R' H ∧ ks.Nodup ∧ (∀ k ∈ ks, PyData.strOk k = true) ∧ Kn ks R ∧ Kn ks R' ∧ R.length + R'.length ≤ 2000 ∧
  ∀ H', Same H H' → Q (.bl (exchB ks ps R R')) H'
section
variable {P : Program} {w : World} {K : PySem.W.Frag} {mg : Str → Option Value} {base : Heap}
theorem okExch {f fA fF CV CR CT CO : Addr} {fd fdA fdF : FuncData} (F : Fun K "exchangeable" "exchangeable" sExch f fd) (c : Cls K CV) (n5 : NoAttr K CV "row")
    (sf : PySem.W.selfFirst K CR = true) (hA : Meth K CR "__add__" fA) (GA : FnOk P w K mg base (L2.CX P w) 6 fA fdA ["self", "other"] (spRAdd K CR CT CO)) (bA : Binds K fdA ["self", "other"] [])
    (GF : FnOk P w K mg base CX0 3 fF fdF ["row"] (spFormOf K CR CT)) (mF : mg "form_of" = some (.ref fF)) (kF : keepIn K (.ref fF) = true) (bF : Binds K fdF ["row"] []) :
    FnOk P w K mg base (L2.CX P w) 7 f fd ["one", "other"] (spExch K CV CR CT) := by
  refine F.okX scExch (fun vs H Q E h => ?_) (fun cdv A outer s H vs Q E hr h => ?_)
  · obtain ⟨x, t, y, t', ks, ps, R, R', rfl, _⟩ := h
    rfl
  have hu : (A.deeper (envOfC "exchangeable" (defScope sExch) s.heap.objs.size f cdv)).units + 64 < cLine := by have := hr.un; omega
  have hr3 : Room 3 (A.deeper (envOfC "exchangeable" (defScope sExch) s.heap.objs.size f cdv)) := hr.mono (by decide)
  refine ⟨_, pss_one (ps_ret (pe_cmpR (op_eqD hu)
    (pe_call (E := E0) GF hr3 rfl mF kF bF .nil pass0 (pa_cons (peAddO sf hA GA hr bA (fun σ => passAt (takes_of rfl rfl rfl rfl) σ) (pe_fld (pv 0) rfl) (pe_fld (pv 1) rfl)) pa_nil))
    (pe_call (E := E0) GF hr3 rfl mF kF bF .nil pass0 (pa_cons (peAddO sf hA GA hr bA (fun σ => passAt (takes_of rfl rfl rfl rfl) σ) (pe_fld (pv 1) rfl) (pe_fld (pv 0) rfl)) pa_nil)) (nomark _))), ?_⟩
  obtain ⟨x, t, y, t', ks, ps, R, R', rfl, V1, V2, nd, ok, kn, kn', l, q⟩ := h
  have f1 := form_le (ps := ps) nd kn
  have f2 := form_le (ps := ps) nd kn'
  obtain ⟨dx, sy, ly, kd, ro, la, FL, S, LY, KD, v⟩ := id V1
  obtain ⟨dx', sy', ly', kd', ro', la', FL', S', LY', KD', v'⟩ := id V2
  obtain ⟨dr, sr, RA⟩ := id v.row
  obtain ⟨dr', sr', RA'⟩ := id v'.row
  have lF : FL.length = (formS ks ps R).length := by rw [flat_len v.form, flatS]
  have lF' : FL'.length = (formS ks ps R').length := by rw [flat_len v'.form, flatS]
  have sz : (5000 : Nat) < sizeLine := by decide
  have eF : sylsOf FL = formS ks ps R := by rw [v.form, flatS]
  have eF' : sylsOf FL' = formS ks ps R' := by rw [v'.form, flatS]
  refine ⟨_, rfl, x, CV, dx, _, _, rfl, v.obj, c, n5, rfl, _, rfl, y, CV, dx', _, _, rfl, v'.obj, c, n5, rfl, ⟨ro', dr', _, rfl, RA'.obj⟩, ro, dr, _, rfl, RA.obj, ro, t, ro', t', ks, ks, ps, ps, FL, FL', rfl, v.row, v'.row, by omega, fun _ o3 H3 s3 R3 => ⟨⟨o3, rfl⟩, ?_⟩, fun n => absurd ⟨rfl, rfl⟩ n⟩
  refine ⟨o3, t, ks, ps, FL ++ FL', rfl, R3, by rw [List.length_append]; omega, fun r1 S1 H4 s4 e4 sy4 eq4 => ?_⟩
  have s34 := s3.trans s4
  have v4 := v.mono (.of s34)
  have v4' := v'.mono (.of s34)
  obtain ⟨er, er'⟩ : H4 ro' = _ ∧ H4 ro = _ := ⟨s34 _ _ RA'.obj, s34 _ _ RA.obj⟩
  refine ⟨_, rfl, y, CV, dx', _, _, rfl, v4'.obj, c, n5, rfl, _, rfl, x, CV, dx, _, _, rfl, v4.obj, c, n5, rfl, ⟨ro, dr, _, rfl, er'⟩, ro', dr', _, rfl, er, ro', t', ro, t, ks, ks, ps, ps, FL', FL, rfl, v4'.row, v4.row, by omega, fun _ o5 H5 s5 R5 => ⟨⟨o5, rfl⟩, ?_⟩, fun n => absurd ⟨rfl, rfl⟩ n⟩
  refine ⟨o5, t', ks, ps, FL' ++ FL, rfl, R5, by rw [List.length_append]; omega, fun r2 S2 H6 s6 e6 sy6 eq6 => ?_⟩
  have a1 : sylsOf (FL ++ FL') = formS ks ps R ++ formS ks ps R' := by
    rw [← eF, ← eF']
    exact List.map_append
  have a2 : sylsOf (FL' ++ FL) = formS ks ps R' ++ formS ks ps R := by
    rw [← eF, ← eF']
    exact List.map_append
  rw [a1, form_eq (al_mul nd kn kn')] at eq4
  rw [a2, form_eq (al_mul nd kn' kn)] at eq6
  have k1 : ∀ e ∈ sylsOf S1, PyData.strOk e.1 = true := fun e he => ok _ ((kn.app kn').lays e (eq4 ▸ he))
  have k2 : ∀ e ∈ sylsOf S2, PyData.strOk e.1 = true := fun e he => ok _ ((kn'.app kn).lays e (eq6 ▸ he))
  have s56 := s5.trans s6
  refine ⟨.tuple ((sylsOf S1).map dSyl), .tuple ((sylsOf S2).map dSyl), Dp.same s56 (.tup (SqT.of e4) (Syls.dp sy4)), .tup (SqT.of e6) (Syls.dp sy6), (shapedSyls k1).1, (shapedSyls k2).1, ?_⟩
  have ee : PyData.eqv (.tuple ((sylsOf S1).map dSyl)) (.tuple ((sylsOf S2).map dSyl)) = exchB ks ps R R' := by
    unfold exchB
    rw [← eq4, ← eq6]
    exact eqvSyls _ _
  rw [ee]
  exact q H6 (s34.trans s56)
end
end L2.Und
end

section
set_option Elab.async false
set_option linter.all false
set_option maxRecDepth 100000
set_option maxHeartbeats 1000000
namespace L2.Und
open PySem PySem.Spec PyProof.Rows _root_.Und
open L2.KS
/-! ### _law_undone -/
abbrev sUnd : Stmt := topS 66
theorem scUnd : FnScope ["_law_row_here", "_law_kind", "_law_count_here"] ["_law_row_here"] (defScope sUnd) := ⟨rfl, rfl, rfl, by decide +kernel, rfl, by decide +kernel, by decide +kernel⟩
def spUnd (K : PySem.W.Frag) : Sp := fun vs H Q _ => ∃ (r : Addr) (L : SyL), vs = [.ref r] ∧ SqL K H r (refsOf L) ∧ Syls K H L ∧ L.length ≤ 5000 ∧
  ∀ (p : Addr) (L' : SyL) (H' : Hp), H p = none → Same H H' → H' p = some (.lst (refsOf L')) → SylsAt H' L' → (∀ e ∈ L', H e.1 = none) → sylsOf L' = undoneS (sylsOf L) → Q (.ref p) H'
section
variable {P : Program} {w : World} {K : PySem.W.Frag} {mg : Str → Option Value} {base : Heap}
theorem okUnd {f : Addr} {fd : FuncData} (F : Fun K "_law_undone" "_law_undone" sUnd f fd) : FnOk P w K mg base CX0 1 f fd ["_law_row_here"] (spUnd K) := by
  refine F.ok scUnd (fun vs H Q E h => ?_) (fun cdv A outer s H vs Q E hr h => ?_)
  · obtain ⟨r, L, rfl, _⟩ := h
    rfl
  refine ⟨_, pss_one (ps_ret
      (pe_lc (own := [("_law_kind", 1), ("_law_count_here", 2)]) (g := gTup K 2 (gCons (gName 1) (gCons (gName 2) gNil))) (tt := tYes) rfl scUnd.nd (pi_list (pe_revL (pv 0))) (blkOk_by (N := ["_law_row_here", "_law_kind", "_law_count_here"]) (sc := defScope sUnd) (by decide +kernel))
        (fun _ _ _ _ _ => pg_tup rfl (pgs_cons (pg_name (i := 1) scUnd.nd rfl (Or.inl rfl)) (pgs_cons (pg_name (i := 2) scUnd.nd rfl (Or.inl rfl)) pgs_nil)))
        (fun _ _ _ _ _ => pts_nil) (fun _ _ _ _ _ => pe_tup (pa_cons (pv 1) (pa_cons (pe_op op_sub pe_int (pv 2)) pa_nil))))), ?_⟩
  obtain ⟨r, L, rfl, hL, sL0, hz, q⟩ := h
  have two : 2 ≤ sizeLine := by decide
  have big : (100000 : Nat) ≤ sizeLine := by decide
  refine ⟨_, rfl, r, _, rfl, hL, fun p hp => ?_⟩
  rw [← List.map_reverse]
  have s1 := sameNew (o := .lst (refsOf L.reverse)) hp
  have p1 : SqL K (upd H p (.lst (refsOf L.reverse))) p (refsOf L.reverse) := SqL.of upd_same
  show ∃ a, _
  generalize upd H p (.lst (List.map (fun e : Addr × Str × Int => V.ref e.1) L.reverse)) = H1 at s1 p1
  refine ⟨p, rfl, ⟨_, p1⟩, fun D hD => ?_⟩
  have hD0 := s1.free hD
  have ll : (refsOf L.reverse).length = L.length := by rw [List.length_map, List.length_reverse]
  refine lc_list (K := K) (a := p) (xs := refsOf L.reverse) (fun i H' => Same H1 H' ∧ ∃ L' : SyL, H' D = some (.lst (refsOf L')) ∧ sylsOf L' = (sylsOf (L.reverse.take i)).map (fun e => (e.1, -e.2)) ∧ SylsAt H' L' ∧ ∀ e ∈ L', H e.1 = none) ⟨sameNew hD, [], upd_same, rfl, fun e he => (nomatch he), fun e he => (nomatch he)⟩ (fun i H' _ h => h.1.seq p1) ?_ ?_
  · rintro i x H2 hx ⟨s2, L', eD, eL, sL, nL⟩
    obtain ⟨e, he, rfl⟩ := refs_at hx
    have em : e ∈ L := List.mem_reverse.mp (List.mem_of_getElem? he)
    have lt : i < L.length := by
      have := (List.getElem?_eq_some_iff.mp he).1
      rwa [List.length_reverse] at this
    have tk : L.reverse.take (i + 1) = L.reverse.take i ++ [e] := by rw [List.take_succ, he]; rfl
    have lL : L'.length = i := by
      have z := congrArg List.length eL
      rw [List.length_map, List.length_map, List.length_map, List.length_take, List.length_reverse] at z
      omega
    refine ⟨e.1, _, rfl, Same.tup (s1.trans s2) (sL0 e em), rfl, _, _, rfl, _, _, rfl, rfl, rfl, _, rfl, _, rfl, _, _, rfl, rfl, two, fun u hu => ?_⟩
    have e0 : (fun i j => V.int (i - j)) (0 : Int) e.2.2 = V.int (-e.2.2) := by show V.int (0 - e.2.2) = _; rw [Int.zero_sub]
    rw [e0]
    have s3 := sameNew (o := .tup [V.str e.2.1, .int (-e.2.2)]) hu
    have e3 := s3 _ _ eD
    have uD : u ≠ D := fun z => by rw [z, eD] at hu; cases hu
    refine ⟨_, e3, by rw [List.length_map, lL]; omega, Same.upd (s2.trans s3) hD, L' ++ [(u, e.2.1, -e.2.2)], ?_, ?_, ?_, ?_⟩
    · rw [upd_same]
      show _ = some (HO.lst (List.map _ _))
      rw [List.map_append]
      rfl
    · rw [tk]
      show List.map _ _ = List.map _ (List.map _ _)
      rw [List.map_append, List.map_append, List.map_append]
      have eL : List.map (·.2) L' = List.map (fun e => (e.1, -e.2)) (List.map (·.2) (L.reverse.take i)) := eL
      rw [eL]
      rfl
    · intro g hg
      rcases List.mem_append.mp hg with hg | hg
      · have z := s3 _ _ (sL g hg)
        rw [upd_ne fun y => by rw [y, e3] at z; cases z]
        exact z
      · rw [List.mem_singleton.mp hg, upd_ne uD]
        exact upd_same
    · intro g hg
      rcases List.mem_append.mp hg with hg | hg
      · exact nL g hg
      · rw [List.mem_singleton.mp hg]
        exact (s1.trans s2).free hu
  · rintro H2 ⟨s2, L', eD, eL, sL, nL⟩
    rw [ll] at eL
    have eR : L.reverse.take L.length = L.reverse := List.take_of_length_le (by rw [List.length_reverse]; exact Nat.le_refl _)
    rw [eR] at eL
    refine q D L' H2 hD0 (s1.trans s2) eD sL nL ?_
    rw [eL]
    unfold undoneS
    show List.map _ (List.map _ _) = List.map _ (List.reverse (List.map _ _))
    rw [List.map_reverse]
end
end L2.Und
end

section
set_option Elab.async false
set_option linter.all false
set_option maxRecDepth 100000
set_option maxHeartbeats 400000
namespace L2.Und
open PySem PySem.Spec PyProof.Rows _root_.Und ClX
open L2.KS SX
open PySem.W (findIn keepIn typeIn subIn)
/-! ### rows in lists; _law_repeated, _law_table -/
/-- a row stands in a list, apart from the deal -/
structure RowG (H : Hp) (d c : Addr) (ks : List Str) (r : Addr) (L : SyL) (n : Nat) : Prop where
  lst : H r = some (.lst (refsOf L))
  syl : SylsAt H L
  kn : Kn ks (sylsOf L)
  len : L.length ≤ n
  rd : r ≠ d
  rc : r ≠ c
section
variable {H H' : Hp} {ks : List Str} {r d c : Addr} {L : SyL} {n m : Nat}
theorem RowG.same (z : RowG H d c ks r L n) (s : Same H H') : RowG H' d c ks r L n := ⟨s _ _ z.lst, fun e he => s _ _ (z.syl e he), z.kn, z.len, z.rd, z.rc⟩
theorem RowG.kept (z : RowG H d c ks r L n) (k : Kept d c H H') (D : Deal H d c) : RowG H' d c ks r L n := ⟨k _ _ z.rd z.rc z.lst, fun e he => keptTup k D (z.syl e he), z.kn, z.len, z.rd, z.rc⟩
theorem RowG.le (z : RowG H d c ks r L n) (h : n ≤ m) : RowG H d c ks r L m := ⟨z.lst, z.syl, z.kn, Nat.le_trans z.len h, z.rd, z.rc⟩
end
abbrev sRep : Stmt := topS 67
theorem scRep : FnScope ["_law_row_here", "_law_often"] ["_law_row_here", "_law_often"] (defScope sRep) := ⟨rfl, rfl, rfl, by decide +kernel, rfl, by decide +kernel, by decide +kernel⟩
def spRep (K : PySem.W.Frag) : Sp := fun vs H Q _ => ∃ (r : Addr) (L : SyL) (m : Int), vs = [.ref r, .int m] ∧ H r = some (.lst (refsOf L)) ∧ SylsAt H L ∧ L.length ≤ 100 ∧ m.natAbs ≤ 10 ∧
  ∀ (p : Addr) (L' : SyL) (H' : Hp), H p = none → Same H H' → H' p = some (.lst (refsOf L')) → SylsAt H' L' → (∀ ks, Kn ks (sylsOf L) → Kn ks (sylsOf L')) → L'.length ≤ L.length * m.natAbs → Q (.ref p) H'
theorem rep_refs (L : SyL) : ∀ k, (List.replicate k (refsOf L)).flatten = refsOf (List.replicate k L).flatten := fun k => by
  show _ = List.map _ _
  rw [List.map_flatten, List.map_replicate]
theorem rep_mem {L : SyL} {k : Nat} {e : Addr × Str × Int} (h : e ∈ (List.replicate k L).flatten) : e ∈ L := by
  obtain ⟨l, hl, he⟩ := List.mem_flatten.mp h
  rw [(List.mem_replicate.mp hl).2] at he
  exact he
theorem rep_len (L : SyL) (k : Nat) : (List.replicate k L).flatten.length = k * L.length := by
  induction k with
  | zero => simp
  | succ k ih => rw [List.replicate_succ, List.flatten_cons, List.length_append, ih, Nat.succ_mul, Nat.add_comm]
section
variable {P : Program} {w : World} {K : PySem.W.Frag} {mg : Str → Option Value} {base : Heap}
theorem okRep {f fU : Addr} {fd fdU : FuncData} (F : Fun K "_law_repeated" "_law_repeated" sRep f fd)
    (GU : FnOk P w K mg base CX0 1 fU fdU ["_law_row_here"] (spUnd K)) (mU : mg "_law_undone" = some (.ref fU)) (kU : keepIn K (.ref fU) = true) (bU : Binds K fdU ["_law_row_here"] []) :
    FnOk P w K mg base CX0 2 f fd ["_law_row_here", "_law_often"] (spRep K) := by
  refine F.ok scRep (fun vs H Q E h => ?_) (fun cdv A outer s H vs Q E hr h => ?_)
  · obtain ⟨r, L, m, rfl, _⟩ := h
    rfl
  have hr1 : Room 1 (A.deeper (envOfC "_law_repeated" (defScope sRep) s.heap.objs.size f cdv)) := hr.mono (by decide)
  refine ⟨_, pss_one (ps_ret (pe_ifExp (pt_cmpR op_gt (pv 1) pe_int (nomark _)) (pe_op op_rep (pv 0) (pv 1))
    (pe_op op_rep (pe_call GU hr1 rfl mU kU bU .nil pass0 (pa_cons (pv 0) pa_nil)) (pe_op op_sub pe_int (pv 1))))), ?_⟩
  obtain ⟨r, L, m, rfl, e, sy, l, hm, q⟩ := h
  have sz : (5000 : Nat) < sizeLine := by decide
  have lR : (refsOf L).length = L.length := List.length_map ..
  refine ⟨_, rfl, _, _, rfl, rfl, _, rfl, ?_⟩
  by_cases g : m > 0
  · rw [decide_eq_true g]
    have em : m.toNat = m.natAbs := by omega
    have b1 : L.length * m.natAbs ≤ 100 * 10 := Nat.mul_le_mul l hm
    refine iteT ⟨_, rfl, _, rfl, r, m, _, rfl, rfl, e, by omega, by omega, by rw [lR, em]; omega, fun p np => ?_⟩
    rw [rep_refs]
    have s1 := sameNew (o := .lst (refsOf (List.replicate m.toNat L).flatten)) np
    exact q p _ _ np s1 upd_same (fun x hx => s1 _ _ (sy x (rep_mem hx))) (fun ks kn x hx => by
      obtain ⟨y, hy, rfl⟩ := List.mem_map.mp hx
      exact kn y.2 (List.mem_map.mpr ⟨y, rep_mem hy, rfl⟩)) (by rw [rep_len, em, Nat.mul_comm]; exact Nat.le_refl _)
  · rw [decide_eq_false g]
    have em : (0 - m).toNat = m.natAbs := by omega
    have b1 : L.length * m.natAbs ≤ 100 * 10 := Nat.mul_le_mul l hm
    refine iteF ⟨_, rfl, r, L, rfl, SqL.of e, SylsAt.syls sy, by omega, fun u LU H2 nu s2 eu su fu eL => ?_⟩
    have l2 : LU.length = L.length := by
      have := congrArg List.length eL
      rw [und_len, List.length_map, List.length_map] at this
      exact this
    have lRU : (refsOf LU).length = LU.length := List.length_map ..
    refine ⟨_, rfl, _, _, rfl, rfl, u, 0 - m, _, rfl, rfl, eu, by omega, by omega, by rw [lRU, em, l2]; omega, fun p np => ?_⟩
    rw [rep_refs]
    have s1 := sameNew (o := .lst (refsOf (List.replicate (0 - m).toNat LU).flatten)) np
    exact q p _ _ (s2.free np) (s2.trans s1) upd_same (fun x hx => s1 _ _ (su x (rep_mem hx))) (fun ks kn x hx => by
      obtain ⟨y, hy, rfl⟩ := List.mem_map.mp hx
      have k2 : Kn ks (sylsOf LU) := by rw [eL]; exact kn.und
      exact k2 y.2 (List.mem_map.mpr ⟨y, rep_mem hy, rfl⟩)) (by rw [rep_len, em, l2, Nat.mul_comm]; exact Nat.le_refl _)
end
abbrev sTbl : Stmt := topS 63
theorem scTbl : FnScope ["_law_deal_here", "_law_most", "_law_kinds", "_law_pairs_here"] ["_law_deal_here", "_law_most"] (defScope sTbl) := ⟨rfl, rfl, rfl, by decide +kernel, rfl, by decide +kernel, by decide +kernel⟩
def spTbl (K : PySem.W.Frag) (CT : Addr) : Sp := fun vs H Q _ => ∃ (d c : Addr) (m : Int), vs = [.ref d, .int m] ∧ Deal H d c ∧ 2 ≤ m ∧ m ≤ 12 ∧
  ∀ (T kA pA tb : Addr) (ks : List Str) (PL : PA2') (H' : Hp), Kept d c H H' → H' T = some (.tup [.ref tb, .ref kA, .ref pA]) → 2 ≤ ks.length → (ks.length : Int) ≤ m → Sit K CT d c kA pA tb ks PL H' → Q (.ref T) H'
theorem pbOf {ks' : List Str} {PL : PA2'} (gp : PairsIn ks' (PL.map (·.2))) : pairsBad ks' (PL.map fun e => [e.2.1, e.2.2]) = none := by
  have z := good_pairs (ks := ks') (xs := PL.map fun e : Addr × Str × Str => e.2) fun p hp => gp p hp
  rw [List.map_map] at z
  exact z
section
variable {P : Program} {w : World} {K : PySem.W.Frag} {mg : Str → Option Value} {base : Heap}
theorem okTbl {f fT fN fP fW CT CE : Addr} {xN : Str} {fd fdT fdN fdP fdW : FuncData} (F : Fun K "_law_table" "_law_table" sTbl f fd)
    (GW : FnOk P w K mg base CX0 1 fW fdW ["_law_deal_here", "_law_many"] spDraw) (mW : mg "_law_draw" = some (.ref fW)) (kW : keepIn K (.ref fW) = true) (bW : Binds K fdW ["_law_deal_here", "_law_many"] [])
    (GN : FnOk P w K mg base CX0 3 fN fdN ["_law_deal_here", xN] spNames) (mN : mg "_law_names" = some (.ref fN)) (kN : keepIn K (.ref fN) = true) (bN : Binds K fdN ["_law_deal_here", xN] [])
    (GP : FnOk P w K mg base CX0 3 fP fdP ["_law_deal_here", "_law_kinds"] (spPairs K)) (mP : mg "_law_pairs" = some (.ref fP)) (kP : keepIn K (.ref fP) = true) (bP : Binds K fdP ["_law_deal_here", "_law_kinds"] [])
    (MT : Mk K CT fT) (GT : FnOk P w K mg base (L2.CX P w) 4 fT fdT ["self", "kinds", "pairs"] (spTabIni K CT CE)) (gT : mg "Table" = some (.ref CT)) (bT : Binds K fdT ["self", "kinds", "pairs"] []) :
    FnOk P w K mg base CX0 6 f fd ["_law_deal_here", "_law_most"] (spTbl K CT) := by
  refine F.ok scTbl (fun vs H Q E h => ?_) (fun cdv A outer s H vs Q E hr h => ?_)
  · obtain ⟨d, c, m, rfl, _⟩ := h
    rfl
  have hr1 : Room 1 (A.deeper (envOfC "_law_table" (defScope sTbl) s.heap.objs.size f cdv)) := hr.mono (by decide)
  have hr3 : Room 3 (A.deeper (envOfC "_law_table" (defScope sTbl) s.heap.objs.size f cdv)) := hr.mono (by decide)
  refine ⟨_, pss_cons (ps_set (i := 2) scTbl.nd rfl (Or.inl rfl) (pe_call GN hr3 rfl mN kN bN .nil pass0 (pa_cons (pv 0) (pa_cons (pe_op op_add pe_int (pe_call GW hr1 rfl mW kW bW .nil pass0 (pa_cons (pv 0) (pa_cons (pe_op op_sub (pv 1) pe_int) pa_nil)))) pa_nil))))
    (pss_cons (ps_set (i := 3) scTbl.nd rfl (Or.inl rfl) (pe_call GP hr3 rfl mP kP bP .nil pass0 (pa_cons (pv 0) (pa_cons (pv 2) pa_nil))))
    (pss_one (ps_ret (pe_tup (pa_cons (pe_make MT GT hr rfl gT bT .nil passNo (pa_cons (pv 2) (pa_cons (pv 3) pa_nil))) (pa_cons (pv 2) (pa_cons (pv 3) pa_nil))))))), ?_⟩
  obtain ⟨d, c, m, rfl, D, m2, m12, q⟩ := h
  have three : 3 ≤ sizeLine := by decide
  have e200 : (2 : Nat) ^ 10 < 2 ^ 200 := by decide
  refine ⟨_, rfl, _, rfl, _, rfl, _, _, rfl, rfl, d, c, m - 1, rfl, D, by omega, Nat.lt_trans (by omega) e200, fun n0 H2 z0 z1 D2 k2 => ?_⟩
  obtain ⟨n1, rfl⟩ : ∃ x : Nat, n0 = (x : Int) := ⟨n0.toNat, by omega⟩
  have en : (2 : Int) + (n1 : Int) = ((2 + n1 : Nat) : Int) := by omega
  refine ⟨_, _, rfl, rfl, d, c, 2 + n1, by show [V.ref d, V.int ((2 : Int) + (n1 : Int))] = _; rw [en], D2, by omega, by omega, fun kA ks H3 nk D3 k3 ek gk => ?_⟩
  have kd := D2.ned nk
  have kc := D2.nec nk
  have kl := gk.len
  have okk : ∀ k ∈ ks, PyData.strOk k = true := fun k hk => name_ok (gk.nm k hk)
  refine ⟨_, rfl, _, rfl, d, c, kA, ks, rfl, D3, ek, kd, kc, gk.nd, by omega, okk, fun pA PL H4 np D4 k4 ep prs fr gp => ?_⟩
  have few : PL.length ≤ 66 := by
    have := pairs_few gp (by omega : ks.length ≤ 12)
    rwa [List.length_map] at this
  have kb := good_kinds gk (by omega) (by omega)
  have pd := D3.ned np
  have pc := D3.nec np
  have ek4 := k4 _ _ kd kc ek
  refine ⟨_, rfl, _, rfl, ?_⟩
  dsimp only [tNil]
  refine madeTab (ks := ks) (L := PL) (.inl (SqL.of ek4)) (.inl (SqL.of ep)) (fun e he => SqT.of (prs e he)) kb (pbOf gp.mem) (by omega) fun tb H5 nt s5 T5 => ⟨_, rfl, _, rfl, three, fun T nT => ?_⟩
  have z5 : Sit K CT d c kA pA tb ks PL H5 := ⟨D4.same s5, s5 _ _ ek4, kd, kc, s5 _ _ ep, pd, pc, fun e he => s5 _ _ (prs e he), gp.mem, few, by omega, by omega, gk.nm, gk.nd, T5⟩
  have s6 := sameNew (o := .tup [V.ref tb, V.ref kA, V.ref pA]) nT
  exact q T kA pA tb ks PL _ (((k2.trans k3).trans k4).trans (Kept.of (s5.trans s6))) upd_same (by omega) (by omega) (z5.same s6)
end
end L2.Und
end

section
set_option Elab.async false
set_option linter.all false
set_option maxRecDepth 100000
set_option maxHeartbeats 400000
namespace L2.Und
open PySem PySem.Spec PyProof.Rows _root_.Und ClX
open L2.KS SX
open PySem.W (findIn keepIn typeIn subIn)
/-! ### _law_right -/
theorem exch_symm (ks : List Str) (ps : List (Str × Str)) (a b : List (Str × Int)) : exchB ks ps a b = exchB ks ps b a := by
  unfold exchB
  exact decide_eq_decide.mpr ⟨fun h => h.symm, fun h => h.symm⟩
abbrev sRgt : Stmt := topS 68
abbrev nRgt : List Str := ["_law_table_here", "_law_pairs_here", "_law_one", "_law_other", "_law_due", "_law_first", "_law_second", "_law_told"]
theorem scRgt : FnScope nRgt ["_law_table_here", "_law_pairs_here", "_law_one", "_law_other"] (defScope sRgt) := ⟨rfl, rfl, rfl, by decide +kernel, rfl, by decide +kernel, by decide +kernel⟩
/-- a row in a list, to be read -/
structure RowQ (H : Hp) (ks : List Str) (r : Addr) (L : SyL) : Prop where
  lst : H r = some (.lst (refsOf L))
  syl : SylsAt H L
  kn : Kn ks (sylsOf L)
  len : L.length ≤ 200
theorem RowQ.same {H H' : Hp} {ks : List Str} {r : Addr} {L : SyL} (z : RowQ H ks r L) (s : Same H H') : RowQ H' ks r L := ⟨s _ _ z.lst, fun e he => s _ _ (z.syl e he), z.kn, z.len⟩
/-- a table, its kinds and its pairs -/
structure TabQ (K : PySem.W.Frag) (CT tb pA : Addr) (ks : List Str) (PL : PA2') (H : Hp) : Prop where
  tab : TabR K CT tb ks (PL.map (·.2)) H
  prs : H pA = some (.lst (PL.map fun e => V.ref e.1))
  prs2 : Prs2 K H PL
  pin : PairsIn ks (PL.map (·.2))
  nd : ks.Nodup
  ok : ∀ k ∈ ks, PyData.strOk k = true
theorem TabQ.same {K : PySem.W.Frag} {CT tb pA : Addr} {ks : List Str} {PL : PA2'} {H H' : Hp} (z : TabQ K CT tb pA ks PL H) (s : Same H H') : TabQ K CT tb pA ks PL H' := ⟨z.tab.same s, s _ _ z.prs, z.prs2.same s, z.pin, z.nd, z.ok⟩
theorem TabQ.lawRow {K : PySem.W.Frag} {CT tb pA r : Addr} {ks : List Str} {PL : PA2'} {H : Hp} {L : SyL} (z : TabQ K CT tb pA ks PL H) (hr : SqL K H r (refsOf L)) (hs : Syls K H L) (kn : Kn ks (sylsOf L)) (few : L.length ≤ 5000) : LawRow K pA r PL ks L H :=
  ⟨SqL.of z.prs, z.prs2, z.pin, .inl hr, hs, fun e he => kn e.2 (List.mem_map.mpr ⟨e, he, rfl⟩), z.ok, few⟩
def spRgt (K : PySem.W.Frag) (CT : Addr) : Sp := fun vs H Q _ => ∃ (tb pA a b : Addr) (ks : List Str) (PL : PA2') (La Lb : SyL), vs = [.ref tb, .ref pA, .ref a, .ref b] ∧ TabQ K CT tb pA ks PL H ∧ RowQ H ks a La ∧ RowQ H ks b Lb ∧ ∀ H', Same H H' → Q (.bl true) H'
abbrev St8 (tb pA a b : Addr) (x4 x5 x6 x7 : Option V) : L2.St := [some (.ref tb), some (.ref pA), some (.ref a), some (.ref b), x4, x5, x6, x7]
section
variable {P : Program} {w : World} {K : PySem.W.Frag} {mg : Str → Option Value} {base : Heap}
theorem okRgt {f fF fE fV CV CR CT CM : Addr} {fd fdF fdE fdV : FuncData} (F : Fun K "_law_right" "_law_right" sRgt f fd)
    (GF : FnOk P w K mg base CX0 4 fF fdF ["_law_pairs_here", "_law_row_here"] (spForm K)) (mF : mg "_law_form" = some (.ref fF)) (kF : keepIn K (.ref fF) = true) (bF : Binds K fdF ["_law_pairs_here", "_law_row_here"] [])
    (GE : FnOk P w K mg base (L2.CX P w) 7 fE fdE ["one", "other"] (spExch K CV CR CT)) (mE : mg "exchangeable" = some (.ref fE)) (kE : keepIn K (.ref fE) = true) (bE : Binds K fdE ["one", "other"] [])
    (MV : Mk K CV fV) (GV : FnOk P w K mg base (L2.CX P w) 6 fV fdV ["self", "table", "syllables"] (spVerIni K CV CR CT CM)) (gV : mg "Version" = some (.ref CV)) (bV : Binds K fdV ["self", "table", "syllables"] [])
    (mI : mg "isinstance" = none) (mB : mg "bool" = none) : FnOk P w K mg base CX0 8 f fd ["_law_table_here", "_law_pairs_here", "_law_one", "_law_other"] (spRgt K CT) := by
  refine F.ok scRgt (fun vs H Q E h => ?_) (fun cdv A outer s H vs Q E hr h => ?_)
  · obtain ⟨tb, pA, a, b, ks, PL, La, Lb, rfl, _⟩ := h
    rfl
  have hu : (A.deeper (envOfC "_law_right" (defScope sRgt) s.heap.objs.size f cdv)).units + 64 < cLine := by have := hr.un; omega
  have hr4 : Room 4 (A.deeper (envOfC "_law_right" (defScope sRgt) s.heap.objs.size f cdv)) := hr.mono (by decide)
  refine ⟨_, pss_cons (ps_set (i := 4) scRgt.nd rfl (Or.inl rfl) (pe_cmpR (op_eqD hu)
      (pe_call GF hr4 rfl mF kF bF .nil pass0 (pa_cons (pv 1) (pa_cons (pe_op op_cat (pv 2) (pv 3)) pa_nil)))
      (pe_call GF hr4 rfl mF kF bF .nil pass0 (pa_cons (pv 1) (pa_cons (pe_op op_cat (pv 3) (pv 2)) pa_nil))) (nomark _)))
    (pss_cons (ps_for PassesOwn.never rfl (pi_tup (pe_tup (pa_cons (pe_tup (pa_cons (pv 2) (pa_cons (pv 3) pa_nil))) (pa_cons (pe_tup (pa_cons (pv 3) (pa_cons (pv 2) pa_nil))) pa_nil))))
        (pg_tup rfl (pgs_cons (pg_name (i := 5) scRgt.nd rfl (Or.inl rfl)) (pgs_cons (pg_name (i := 6) scRgt.nd rfl (Or.inl rfl)) pgs_nil)))
        (pss_cons (ps_set (i := 7) scRgt.nd rfl (Or.inl rfl) (pe_callS (E := fun _ => E0) GE hr rfl mE kE bE (fun _ => fun pins H s e s' I c => passNo pins _ H s e s' I c)
            (pa_cons (pe_make MV GV hr rfl gV bV .nil passNo (pa_cons (pv 0) (pa_cons (pv 5) pa_nil))) (pa_cons (pe_make MV GV hr rfl gV bV .nil passNo (pa_cons (pv 0) (pa_cons (pv 6) pa_nil))) pa_nil))))
        (pss_one (ps_if (PW.pt (pw_or (pt_not (pt_val (pe_callB call_isi rfl mI PyProof.Rows.boot_isinstance (pa_cons (pv 7) (pa_cons (pe_bltn (v := .ty "bool") rfl mB PyProof.Rows.Boot.«bool» rfl) pa_nil)))))
            (pw_or1 (pt_cmpR op_ne (pv 7) (pv 4) (nomark _))))) (pss_one (ps_ret pe_bl)) pss_nil))))
    (pss_one (ps_ret pe_bl))), ?_⟩
  obtain ⟨tb, pA, a, b, ks, PL, La, Lb, rfl, T0, Ra, Rb, q⟩ := h
  have two : 2 ≤ sizeLine := by decide
  have sz : (5000 : Nat) < sizeLine := by decide
  have la := Ra.len
  have lb := Rb.len
  have lRa : (refsOf La).length = La.length := List.length_map ..
  have lRb : (refsOf Lb).length = Lb.length := List.length_map ..
  have nd := T0.nd
  -- both sums
  have sum : ∀ {H : Hp} {x y : Addr} {Lx Ly : SyL} {Q : VK}, TabQ K CT tb pA ks PL H → RowQ H ks x Lx → RowQ H ks y Ly →
      (∀ (r : Addr) (S : SyL) (H' : Hp), Same H H' → H' r = some (.tup (refsOf S)) → Syls K H' S → sylsOf S = formS ks (PL.map (·.2)) (sylsOf Lx ++ sylsOf Ly) → Q (.ref r) H') →
      rCat (.ref x) (.ref y) H (fun v H' => spForm K [.ref pA, v] H' Q E0) := by
    intro H x y Lx Ly Q T X Y k
    have lx : (refsOf Lx).length = Lx.length := List.length_map ..
    have ly : (refsOf Ly).length = Ly.length := List.length_map ..
    have h1 := X.len
    have h2 := Y.len
    refine ⟨x, y, _, _, rfl, rfl, X.lst, Y.lst, by omega, fun p np => ?_⟩
    have ea : refsOf Lx ++ refsOf Ly = refsOf (Lx ++ Ly) := List.map_append.symm
    rw [ea]
    have s1 := sameNew (o := .lst (refsOf (Lx ++ Ly))) np
    have eS : sylsOf (Lx ++ Ly) = sylsOf Lx ++ sylsOf Ly := List.map_append
    refine ⟨pA, p, PL, ks, Lx ++ Ly, rfl, (T.same s1).lawRow (SqL.of upd_same) (fun e he => ?_) (by rw [eS]; exact X.kn.app Y.kn) (by rw [List.length_append]; omega), T.nd, fun r S H' s2 e2 sy2 eq2 => ?_⟩
    · rcases List.mem_append.mp he with he | he
      · exact SqT.of (s1 _ _ (X.syl e he))
      · exact SqT.of (s1 _ _ (Y.syl e he))
    · rw [eS] at eq2
      exact k r S H' (s1.trans s2) e2 sy2 eq2
  refine ⟨_, rfl, _, rfl, _, rfl, ?_⟩
  dsimp only [tNil]
  refine sum T0 Ra Rb fun r1 S1 H2 s2 e2 sy2 eq2 => ?_
  have T2 := T0.same s2
  have Ra2 := Ra.same s2
  have Rb2 := Rb.same s2
  refine ⟨_, rfl, _, rfl, _, rfl, ?_⟩
  dsimp only [tNil]
  refine sum T2 Rb2 Ra2 fun r2 S2 H3 s3 e3 sy3 eq3 => ?_
  have k1 : ∀ e ∈ sylsOf S1, PyData.strOk e.1 = true := fun e he => T0.ok _ ((Ra.kn.app Rb.kn).lays e (eq2 ▸ he))
  have k2 : ∀ e ∈ sylsOf S2, PyData.strOk e.1 = true := fun e he => T0.ok _ ((Rb.kn.app Ra.kn).lays e (eq3 ▸ he))
  refine ⟨.tuple ((sylsOf S1).map dSyl), .tuple ((sylsOf S2).map dSyl), Dp.same s3 (.tup (SqT.of e2) (Syls.dp sy2)), .tup (SqT.of e3) (Syls.dp sy3), (shapedSyls k1).1, (shapedSyls k2).1, ?_⟩
  have ee : PyData.eqv (.tuple ((sylsOf S1).map dSyl)) (.tuple ((sylsOf S2).map dSyl)) = exchB ks (PL.map (·.2)) (sylsOf La) (sylsOf Lb) := by
    unfold exchB
    rw [← eq2, ← eq3]
    exact eqvSyls _ _
  rw [ee]
  have T3 := T2.same s3
  have Ra3 := Ra2.same s3
  have Rb3 := Rb2.same s3
  refine ⟨_, rfl, _, rfl, two, fun t1 n1 => ?_⟩
  have s4 := sameNew (o := .tup [V.ref a, V.ref b]) n1
  have e4 : upd H3 t1 (.tup [V.ref a, V.ref b]) t1 = some (.tup [V.ref a, V.ref b]) := upd_same
  dsimp only [tNil]
  generalize upd H3 t1 (.tup [V.ref a, V.ref b]) = H4 at s4 e4
  refine ⟨_, rfl, _, rfl, two, fun t2 n2 => ⟨two, fun T nT => ?_⟩⟩
  have s5 := sameNew (o := .tup [V.ref b, V.ref a]) n2
  have e5 : upd H4 t2 (.tup [V.ref b, V.ref a]) t2 = some (.tup [V.ref b, V.ref a]) := upd_same
  have s6 := sameNew (o := .tup [V.ref t1, V.ref t2]) nT
  have f4 := s6 _ _ (s5 _ _ e4)
  have f5 := s6 _ _ e5
  have eT : upd (upd H4 t2 (.tup [V.ref b, V.ref a])) T (.tup [V.ref t1, V.ref t2]) T = some (.tup [V.ref t1, V.ref t2]) := upd_same
  have s36 := s4.trans (s5.trans s6)
  generalize upd (upd H4 t2 (.tup [V.ref b, V.ref a])) T (.tup [V.ref t1, V.ref t2]) = H6 at s36 f4 f5 eT
  have s06 := (s2.trans s3).trans s36
  have T6 := T3.same s36
  have Ra6 := Ra3.same s36
  have Rb6 := Rb3.same s36
  refine ⟨T, rfl, ⟨_, SqT.of eT⟩, for_it (D := { nx := tRet (tC (V.bl true)) { nx := fun _ H' => Q .non H', rt := Q }, rt := Q }) (walk_tup (K := K) (a := T) (xs := [V.ref t1, V.ref t2])) (fun k σ H' => Same H6 H' ∧ ∃ y5 y6 y7, σ = St8 tb pA a b (some (.bl (exchB ks (PL.map (·.2)) (sylsOf La) (sylsOf Lb)))) y5 y6 y7) ⟨fun _ _ z => z, _, _, _, rfl⟩ (fun k σ H' _ h => Same.tup h.1 (SqT.of eT)) ?_ ?_⟩
  · rintro k v' σ H0 H7 hk ⟨s7, y5, y6, y7, rfl⟩ ⟨rfl, hv⟩
    have T7 := T6.same s7
    obtain ⟨tp, x, y, Lx, Ly, rfl, et, X, Y, bx⟩ : ∃ (tp x y : Addr) (Lx Ly : SyL), v' = V.ref tp ∧ H7 tp = some (.tup [.ref x, .ref y]) ∧ RowQ H7 ks x Lx ∧ RowQ H7 ks y Ly ∧ exchB ks (PL.map (·.2)) (sylsOf Lx) (sylsOf Ly) = exchB ks (PL.map (·.2)) (sylsOf La) (sylsOf Lb) := by
      match k, hv with
      | 0, h => cases h; exact ⟨_, _, _, _, _, rfl, s7 _ _ f4, Ra6.same s7, Rb6.same s7, rfl⟩
      | 1, h => cases h; exact ⟨_, _, _, _, _, rfl, s7 _ _ f5, Rb6.same s7, Ra6.same s7, exch_symm _ _ _ _⟩
    have lx := X.len
    have ly := Y.len
    have lxs : (sylsOf Lx).length = Lx.length := List.length_map ..
    have lys : (sylsOf Ly).length = Ly.length := List.length_map ..
    refine ⟨tp, _, rfl, SqT.of et, rfl, _, _, rfl, _, _, rfl, rfl, _, rfl, _, rfl, ?_⟩
    dsimp only [tNil]
    refine madeL (L := Lx) T7.tab (.inl (SqL.of X.lst)) (SylsAt.syls X.syl) X.kn (by omega) fun v1 H8 m1 s8 V1 => ⟨_, rfl, _, rfl, ?_⟩
    have T8 := T7.same s8
    have Y8 := Y.same s8
    dsimp only [tNil]
    refine madeL (L := Ly) T8.tab (.inl (SqL.of Y8.lst)) (SylsAt.syls Y8.syl) Y8.kn (by omega) fun v2 H9 m2 s9 V2 => ?_
    refine ⟨v1, tb, v2, tb, ks, _, _, _, rfl, V1.same s9, V2, nd, T0.ok, X.kn, Y.kn, by omega, fun H10 s10 => ⟨_, rfl, ?_⟩⟩
    refine ⟨_, .ty "bool", .type "bool", .type "bool", true, rfl, .ty _, .base (.bl _), kit_ty (by decide +kernel), _, rfl, iteF ⟨_, rfl, _, rfl, rfl, _, rfl, ?_⟩⟩
    rw [bx, decide_eq_true rfl]
    exact iteF ⟨((s7.trans s8).trans s9).trans s10, _, _, _, rfl⟩
  · rintro σ H8 ⟨s8, y5, y6, y7, rfl⟩
    exact q _ (s06.trans s8)
end
end L2.Und
end

section
set_option Elab.async false
set_option linter.all false
set_option maxRecDepth 100000
set_option maxHeartbeats 400000
namespace L2.Und
open PySem PySem.Spec PyProof.Rows _root_.Und ClX
open L2.KS SX
open PySem.W (findIn keepIn typeIn subIn)
/-! ### the law: its pieces -/
abbrev sLaw : Stmt := topS 69
abbrev nLaw : List Str := ["_law_script", "_law_base", "_law_deal_here", "_law_turn", "_law_table_here", "_law_kinds", "_law_pairs_here", "_law_one", "_law_other", "_law_kernel", "_law_around", "_law_some", "_law_side", "_law_often", "_law_beside", "_law_asked", "_law_first", "_law_second", "_law_kind"]
theorem scLaw : FnScope nLaw ["_law_script"] (defScope sLaw) := ⟨rfl, rfl, rfl, by decide +kernel, rfl, by decide +kernel, by decide +kernel⟩
abbrev baseBody : List Stmt := inFor ((defBody sLaw).getD 0 (.Pass ⟨0, 0, 0, 0⟩))
abbrev turnBody : List Stmt := inFor (baseBody.getD 1 (.Pass ⟨0, 0, 0, 0⟩))
structure EnvL (P : Program) (w : World) (K : PySem.W.Frag) (mg : Str → Option Value) (base : Heap) (CT : Addr) : Prop where
  deal : PrT P w K mg base "_law_deal" 1 ["_law_script", "_law_base"] (spDeal K)
  draw : PrT P w K mg base "_law_draw" 1 ["_law_deal_here", "_law_many"] spDraw
  row : ∃ x, PrT P w K mg base "_law_row" 3 ["_law_deal_here", "_law_kinds", x] (spRow K)
  und : PrT P w K mg base "_law_undone" 1 ["_law_row_here"] (spUnd K)
  isf : PrT P w K mg base "_law_is_free" 1 ["_law_pairs_here", "_law_one", "_law_other"] (spLFree K)
  rep : PrT P w K mg base "_law_repeated" 2 ["_law_row_here", "_law_often"] (spRep K)
  tbl : PrT P w K mg base "_law_table" 6 ["_law_deal_here", "_law_most"] (spTbl K CT)
  rgt : PrT P w K mg base "_law_right" 8 ["_law_table_here", "_law_pairs_here", "_law_one", "_law_other"] (spRgt K CT)
  bN : mg "range" = none
  bE : mg "len" = none
section
variable {K : PySem.W.Frag} {CT d c kA pA tb x y g p : Addr} {ks bs : List Str} {PL : PA2'} {Lx Ly : SyL} {n m : Nat} {H H' : Hp} {Q : VK} {E : XK}
theorem RowG.new {q : Addr} {L : SyL} (D : Deal H d c) (nq : H q = Option.none) (s : Same H H') (e : H' q = some (.lst (refsOf L))) (sy : SylsAt H' L) (kn : Kn ks (sylsOf L)) (l : L.length ≤ n) : RowG H' d c ks q L n := ⟨e, sy, kn, l, D.ned nq, D.nec nq⟩
/-- x + y -/
theorem catG (D : Deal H d c) (X : RowG H d c ks x Lx n) (Y : RowG H d c ks y Ly m) (h : n + m ≤ 1000) (q : ∀ g H', H g = none → Same H H' → RowG H' d c ks g (Lx ++ Ly) (n + m) → Q (.ref g) H') : rCat (.ref x) (.ref y) H Q := by
  have lx : (refsOf Lx).length = Lx.length := List.length_map ..
  have ly : (refsOf Ly).length = Ly.length := List.length_map ..
  have h1 := X.len
  have h2 := Y.len
  have sz : (5000 : Nat) < sizeLine := by decide
  refine ⟨x, y, _, _, rfl, rfl, X.lst, Y.lst, by omega, fun p np => ?_⟩
  have ea : refsOf Lx ++ refsOf Ly = refsOf (Lx ++ Ly) := List.map_append.symm
  rw [ea]
  have s1 := sameNew (o := .lst (refsOf (Lx ++ Ly))) np
  have eS : sylsOf (Lx ++ Ly) = sylsOf Lx ++ sylsOf Ly := List.map_append
  refine q p _ np s1 (.new D np s1 upd_same (fun e he => ?_) (by rw [eS]; exact X.kn.app Y.kn) (by rw [List.length_append]; omega))
  exact (List.mem_append.mp he).elim (fun he => s1 _ _ (X.syl e he)) fun he => s1 _ _ (Y.syl e he)
/-- undone(x) -/
theorem undG (D : Deal H d c) (X : RowG H d c ks x Lx n) (h : n ≤ 1000) (q : ∀ g L' H', H g = none → Same H H' → RowG H' d c ks g L' n → Q (.ref g) H') : spUnd K [.ref x] H Q E := by
  have h1 := X.len
  refine ⟨x, Lx, rfl, SqL.of X.lst, SylsAt.syls X.syl, by omega, fun u LU H2 nu s2 eu su fu eL => ?_⟩
  have l2 : LU.length = Lx.length := by
    have := congrArg List.length eL
    rw [und_len, List.length_map, List.length_map] at this
    exact this
  exact q u LU H2 nu s2 (.new D nu s2 eu su (by rw [eL]; exact X.kn.und) (by omega))
/-- row(deal, kinds, m) -/
theorem rowG (D : Deal H d c) (hk : H kA = some (.lst (bs.map V.str))) (kd : kA ≠ d) (kc : kA ≠ c) (k1 : 1 ≤ bs.length) (k12 : bs.length ≤ 12) (ok : ∀ k ∈ bs, PyData.strOk k = true) (sub : ∀ k ∈ bs, k ∈ ks) (mm : m ≤ 900)
    (q : ∀ r L H', H r = none → Deal H' d c → Kept d c H H' → RowG H' d c ks r L m → L.length = m → Q (.ref r) H') : spRow K [.ref d, .ref kA, .int (m : Int)] H Q E := by
  refine ⟨d, c, kA, bs, m, rfl, D, hk, kd, kc, (fun e => by rw [e] at k1; exact absurd k1 (by decide)), by omega, ok, by omega, fun r L H' nr D' k er sr fr lm gs => ?_⟩
  exact q r L H' nr D' k ⟨er, sr, fun e he => sub _ ((good_kn gs) e he), by omega, D.ned nr, D.nec nr⟩ lm
/-- a list that stands apart is changed -/
theorem RowG.off {xs ys : List V} (X : RowG H d c ks x Lx n) (e : H p = some (.lst xs)) (ne : x ≠ p) : RowG (upd H p (.lst ys)) d c ks x Lx n :=
  ⟨by rw [upd_ne ne]; exact X.lst, fun u hu => by
    have z := X.syl u hu
    rw [upd_ne fun w => by rw [w, e] at z; cases z]
    exact z, X.kn, X.len, X.rd, X.rc⟩
theorem Sit.off {xs ys : List V} (z : Sit K CT d c kA pA tb ks PL H) (e : H p = some (.lst xs)) (nd : p ≠ d) (nc : p ≠ c) (nk : kA ≠ p) (np : pA ≠ p) : Sit K CT d c kA pA tb ks PL (upd H p (.lst ys)) :=
  ⟨z.deal.upd nd nc, by rw [upd_ne nk]; exact z.kin, z.kd, z.kc, by rw [upd_ne np]; exact z.prs, z.pd, z.pc, fun u hu => by
    have y := z.pat u hu
    show upd H p (.lst ys) u.1 = _
    rw [upd_ne fun w => by rw [w, e] at y; cases y]
    exact y, z.pin, z.few, z.k1, z.k12, z.nm, z.nd, z.tab.mono (SameL.upd e)⟩
theorem Sit.tabQ (z : Sit K CT d c kA pA tb ks PL H) : TabQ K CT tb pA ks PL H := ⟨z.tab, z.prs, z.prs2, z.pin, z.nd, z.kok⟩
theorem RowG.rowQ (X : RowG H d c ks x Lx n) (h : n ≤ 200) : RowQ H ks x Lx := ⟨X.lst, X.syl, X.kn, Nat.le_trans X.len h⟩
end
/-- what a turn has drawn -/
structure Big (K : PySem.W.Frag) (CT d c kA pA tb a b : Addr) (ks : List Str) (PL : PA2') (La Lb : SyL) (H : Hp) : Prop where
  sit : Sit K CT d c kA pA tb ks PL H
  one : RowG H d c ks a La 12
  oth : RowG H d c ks b Lb 12
/-- two rows in a tuple -/
def PairG (H : Hp) (d c : Addr) (ks : List Str) (t : Addr) : Prop := ∃ x y Lx Ly, H t = some (.tup [.ref x, .ref y]) ∧ RowG H d c ks x Lx 12 ∧ RowG H d c ks y Ly 12
theorem PairG.same {H H' : Hp} {d c t : Addr} {ks : List Str} (z : PairG H d c ks t) (s : Same H H') : PairG H' d c ks t := by
  obtain ⟨x, y, Lx, Ly, e, X, Y⟩ := z
  exact ⟨x, y, Lx, Ly, s _ _ e, X.same s, Y.same s⟩
section
variable {K : PySem.W.Frag} {CT d c kA pA tb a b : Addr} {ks : List Str} {PL : PA2'} {La Lb : SyL} {H H' : Hp}
theorem Big.same (z : Big K CT d c kA pA tb a b ks PL La Lb H) (s : Same H H') : Big K CT d c kA pA tb a b ks PL La Lb H' := ⟨z.sit.same s, z.one.same s, z.oth.same s⟩
theorem Big.kept (z : Big K CT d c kA pA tb a b ks PL La Lb H) (k : Kept d c H H') (D : Deal H' d c) : Big K CT d c kA pA tb a b ks PL La Lb H' := ⟨z.sit.kept k D, z.one.kept k z.sit.deal, z.oth.kept k z.sit.deal⟩
end
abbrev St19 (x0 x1 : Option V) (d : Addr) (x3 : Option V) (tb kA pA a b : Addr) (x9 x10 x11 x12 x13 x14 x15 x16 x17 x18 : Option V) : L2.St := [x0, x1, some (.ref d), x3, some (.ref tb), some (.ref kA), some (.ref pA), some (.ref a), some (.ref b), x9, x10, x11, x12, x13, x14, x15, x16, x17, x18]
/-- several rows in a list -/
structure SomeG (H : Hp) (d c : Addr) (ks : List Str) (sA : Addr) (S : List (Addr × SyL)) : Prop where
  lst : H sA = some (.lst (S.map fun e => V.ref e.1))
  row : ∀ e ∈ S, RowG H d c ks e.1 e.2 12
theorem SomeG.same {H H' : Hp} {d c sA : Addr} {ks : List Str} {S : List (Addr × SyL)} (z : SomeG H d c ks sA S) (s : Same H H') : SomeG H' d c ks sA S := ⟨s _ _ z.lst, fun e he => (z.row e he).same s⟩
theorem SomeG.at_ {H : Hp} {d c sA : Addr} {ks : List Str} {S : List (Addr × SyL)} (z : SomeG H d c ks sA S) {i : Nat} (h : i < S.length) : ∃ x L, (S.map fun e => V.ref e.1)[i]? = some (.ref x) ∧ RowG H d c ks x L 12 :=
  ⟨S[i].1, S[i].2, by rw [List.getElem?_map, List.getElem?_eq_getElem h]; rfl, z.row _ (List.getElem_mem h)⟩
section
variable {P : Program} {w : World} {K : PySem.W.Frag} {mg : Str → Option Value} {base : Heap} {CT : Addr}
/-- all that is asked is right -/
theorem turn8 (Z : EnvL P w K mg base CT) {f : Addr} {cdv : Value} {A : Around} {outer : List Env} {s : Shared} {H : Hp} {E : XK} (hr : Room 8 (A.deeper (envOfC "law" (defScope sLaw) s.heap.objs.size f cdv))) :
    ∃ t, PSs (cxOf CX0 P w K mg base nLaw "law" (defScope sLaw) f cdv A outer s H E).nox (turnBody.drop 8) t ∧
      ∀ (D : Ends) (d c kA pA tb a b sA qA : Addr) (ks : List Str) (PL : PA2') (La Lb : SyL) (S : List (Addr × SyL)) (ts : List Addr) (H1 : Hp) (x0 x1 x3 x9 x10 x12 x13 x14 x16 x17 x18 : Option V), Big K CT d c kA pA tb a b ks PL La Lb H1 → SomeG H1 d c ks sA S → 2 ≤ S.length → H1 qA = some (.lst (ts.map V.ref)) → (∀ t ∈ ts, PairG H1 d c ks t) → ts.length ≤ 10 →
        (∀ (H' : Hp) (y16 y17 : Option V), Deal H' d c → Kept d c H1 H' → D.nx (St19 x0 x1 d x3 tb kA pA a b x9 x10 (some (.ref sA)) x12 x13 x14 (some (.ref qA)) y16 y17 x18) H') →
        t D (St19 x0 x1 d x3 tb kA pA a b x9 x10 (some (.ref sA)) x12 x13 x14 (some (.ref qA)) x16 x17 x18) H1 := by
  obtain ⟨fG, fdG, mG, kG, GG, bG⟩ := Z.rgt
  refine ⟨_, pss_one (ps_for PassesOwn.never rfl (pi_list (pe_op op_cat (pv 15) (pe_lst (pa_cons (pe_tup (pa_cons (pe_ix ix_list (pv 11) pe_int (fun _ _ => rfl)) (pa_cons (pe_ix ix_list (pv 11) (pe_op op_sub (pe_callB call_len_seq rfl Z.bE PySem.boot_len (pa_cons (pv 11) pa_nil)) pe_int) (fun _ _ => rfl)) pa_nil)))
        (pa_cons (pe_tup (pa_cons (pe_ix ix_list (pv 11) pe_int (fun _ _ => rfl)) (pa_cons (pv 7) pa_nil))) pa_nil)))))
      (pg_tup rfl (pgs_cons (pg_name (i := 16) scLaw.nd rfl (Or.inl rfl)) (pgs_cons (pg_name (i := 17) scLaw.nd rfl (Or.inl rfl)) pgs_nil)))
      (pss_one (ps_if (pt_not (pt_val (pe_call GG hr rfl mG kG bG .nil pass0 (pa_cons (pv 4) (pa_cons (pv 6) (pa_cons (pv 16) (pa_cons (pv 17) pa_nil))))))) (pss_one (ps_ret pe_bl)) pss_nil))), ?_⟩
  intro D d c kA pA tb a b sA qA ks PL La Lb S ts H1 x0 x1 x3 x9 x10 x12 x13 x14 x16 x17 x18 z G l2 eq pq lq q
  have two : 2 ≤ sizeLine := by decide
  have sz : (5000 : Nat) < sizeLine := by decide
  have lS : (S.map fun e => V.ref e.1).length = S.length := List.length_map ..
  obtain ⟨u0, L0, a0, R0⟩ := G.at_ (i := 0) (by omega)
  obtain ⟨u1, L1, a1, R1⟩ := G.at_ (i := 1) (by omega)
  obtain ⟨ul, Ll, al, Rl⟩ := G.at_ (i := S.length - 1) (by omega)
  have el : (S.length : Int) - 1 = ((S.length - 1 : Nat) : Int) := by omega
  refine ⟨_, rfl, _, rfl, sA, _, _, _, rfl, rfl, SqL.of G.lst, atI_nat (j := 0) a0, _, rfl, _, rfl, sA, _, rfl, .inl (SqL.of G.lst), _, _, rfl, rfl, sA, _, _, _, rfl, rfl, SqL.of G.lst, by rw [lS, el]; exact atI_nat al, two, fun t1 n1 => ?_⟩
  have s1 := sameNew (o := .tup [V.ref u0, V.ref ul]) n1
  have e1 : upd H1 t1 (.tup [V.ref u0, V.ref ul]) t1 = some (.tup [V.ref u0, V.ref ul]) := upd_same
  have p1 : PairG (upd H1 t1 (.tup [V.ref u0, V.ref ul])) d c ks t1 := ⟨_, _, _, _, e1, R0.same s1, Rl.same s1⟩
  dsimp only [tNil]
  generalize upd H1 t1 (.tup [V.ref u0, V.ref ul]) = H2 at s1 p1
  have G2 := G.same s1
  refine ⟨_, rfl, sA, _, _, _, rfl, rfl, SqL.of G2.lst, atI_nat (j := 1) a1, _, rfl, two, fun t2 n2 => ⟨two, fun q2 nq2 => ?_⟩⟩
  have s2 := sameNew (o := .tup [V.ref u1, V.ref a]) n2
  have e2 : upd H2 t2 (.tup [V.ref u1, V.ref a]) t2 = some (.tup [V.ref u1, V.ref a]) := upd_same
  have p2 : PairG (upd H2 t2 (.tup [V.ref u1, V.ref a])) d c ks t2 := ⟨_, _, _, _, e2, (R1.same s1).same s2, (z.one.same s1).same s2⟩
  have p1' := p1.same s2
  generalize upd H2 t2 (.tup [V.ref u1, V.ref a]) = H3 at s2 p2 p1' nq2
  have s3 := sameNew (o := .lst [V.ref t1, V.ref t2]) nq2
  have e3 : upd H3 q2 (.lst [V.ref t1, V.ref t2]) q2 = some (.lst [V.ref t1, V.ref t2]) := upd_same
  have s13 := s1.trans (s2.trans s3)
  have p1a := p1'.same s3
  have p2a := p2.same s3
  generalize upd H3 q2 (.lst [V.ref t1, V.ref t2]) = H4 at s3 e3 s13 p1a p2a
  have lts : (ts.map V.ref).length = ts.length := List.length_map ..
  refine ⟨qA, q2, _, _, rfl, rfl, s13 _ _ eq, e3, by rw [lts]; show ts.length + 2 ≤ _; omega, fun r nr => ?_⟩
  have eu : ts.map V.ref ++ [V.ref t1, V.ref t2] = (ts ++ [t1, t2]).map V.ref := by rw [List.map_append]; rfl
  rw [eu]
  have s5 := sameNew (o := .lst ((ts ++ [t1, t2]).map V.ref)) nr
  have e5 : upd H4 r (.lst ((ts ++ [t1, t2]).map V.ref)) r = some (.lst ((ts ++ [t1, t2]).map V.ref)) := upd_same
  generalize upd H4 r (.lst ((ts ++ [t1, t2]).map V.ref)) = H5 at s5 e5
  have s15 := s13.trans s5
  have pall : ∀ t ∈ ts ++ [t1, t2], PairG H5 d c ks t := fun t ht => by
    rcases List.mem_append.mp ht with ht | ht
    · exact (pq t ht).same s15
    · rcases List.mem_cons.mp ht with rfl | ht
      · exact p1a.same s5
      · rw [List.mem_singleton.mp ht]
        exact p2a.same s5
  have z5 := z.same s15
  refine ⟨r, rfl, ⟨_, SqL.of e5⟩, for_it (D := D) (walk_list (K := K) (a := r) (xs := (ts ++ [t1, t2]).map V.ref)) (fun k σ H' => Same H5 H' ∧ ∃ y16 y17, σ = St19 x0 x1 d x3 tb kA pA a b x9 x10 (some (.ref sA)) x12 x13 x14 (some (.ref qA)) y16 y17 x18) ⟨fun _ _ z => z, _, _, rfl⟩ (fun k σ H' _ h => h.1.seq (SqL.of e5)) ?_ ?_⟩
  · rintro k v' σ H0 H6 hk ⟨s6, y16, y17, rfl⟩ ⟨rfl, hv⟩
    obtain ⟨t, ht, rfl⟩ : ∃ t, (ts ++ [t1, t2])[k]? = some t ∧ v' = V.ref t := by
      rw [List.getElem?_map] at hv
      obtain ⟨t, ht, e⟩ := Option.map_eq_some_iff.mp hv
      exact ⟨t, ht, e.symm⟩
    obtain ⟨x, y, Lx, Ly, et, X, Y⟩ := (pall t (List.mem_of_getElem? ht)).same s6
    have z6 := z5.same s6
    refine ⟨t, _, rfl, SqT.of et, rfl, _, _, rfl, _, _, rfl, rfl, _, rfl, _, rfl, _, rfl, _, rfl, tb, pA, x, y, ks, PL, Lx, Ly, rfl, z6.sit.tabQ, X.rowQ (by decide), Y.rowQ (by decide), fun H7 s7 => ⟨_, rfl, iteF ⟨s6.trans s7, _, _, rfl⟩⟩⟩
  · rintro σ H8 ⟨s8, y16, y17, rfl⟩
    exact q _ _ _ (z5.same s8).sit.deal (Kept.of (s15.trans s8))
/-- what is asked -/
theorem turn7 (Z : EnvL P w K mg base CT) {f : Addr} {cdv : Value} {A : Around} {outer : List Env} {s : Shared} {H : Hp} {E : XK} (hr : Room 8 (A.deeper (envOfC "law" (defScope sLaw) s.heap.objs.size f cdv))) :
    ∃ t, PSs (cxOf CX0 P w K mg base nLaw "law" (defScope sLaw) f cdv A outer s H E).nox (turnBody.drop 7) t ∧
      ∀ (D : Ends) (d c kA pA tb a b sA : Addr) (ks : List Str) (PL : PA2') (La Lb : SyL) (S : List (Addr × SyL)) (H1 : Hp) (x0 x1 x3 x9 x10 x12 x13 x14 x15 x16 x17 x18 : Option V), Big K CT d c kA pA tb a b ks PL La Lb H1 → SomeG H1 d c ks sA S → 2 ≤ S.length →
        (∀ (H' : Hp) (y11 y15 y16 y17 : Option V), Deal H' d c → Kept d c H1 H' → D.nx (St19 x0 x1 d x3 tb kA pA a b x9 x10 y11 x12 x13 x14 y15 y16 y17 x18) H') →
        t D (St19 x0 x1 d x3 tb kA pA a b x9 x10 (some (.ref sA)) x12 x13 x14 x15 x16 x17 x18) H1 := by
  obtain ⟨t8, p8, h8⟩ := turn8 (outer := outer) (H := H) (E := E) Z hr
  have hr1 : Room 1 (A.deeper (envOfC "law" (defScope sLaw) s.heap.objs.size f cdv)) := hr.mono (by decide)
  obtain ⟨fU, fdU, mU, kU, GU, bU⟩ := Z.und
  refine ⟨_, pss_cons (ps_set (i := 15) scLaw.nd rfl (Or.inl rfl) (pe_lst (pa_cons (pe_tup (pa_cons (pv 7) (pa_cons (pv 8) pa_nil))) (pa_cons (pe_tup (pa_cons (pv 7) (pa_cons (pv 7) pa_nil))) (pa_cons (pe_tup (pa_cons (pv 7) (pa_cons (pe_call GU hr1 rfl mU kU bU .nil pass0 (pa_cons (pv 7) pa_nil)) pa_nil)))
      (pa_cons (pe_tup (pa_cons (pv 7) (pa_cons (pe_lst pa_nil) pa_nil))) (pa_cons (pe_tup (pa_cons (pe_ix ix_list (pv 11) pe_int (fun _ _ => rfl)) (pa_cons (pe_ix ix_list (pv 11) pe_int (fun _ _ => rfl)) pa_nil))) pa_nil))))))) p8, ?_⟩
  intro D d c kA pA tb a b sA ks PL La Lb S H1 x0 x1 x3 x9 x10 x12 x13 x14 x15 x16 x17 x18 z G l2 q
  have two : 2 ≤ sizeLine := by decide
  have five : 5 ≤ sizeLine := by decide
  obtain ⟨u0, L0, a0, R0⟩ := G.at_ (i := 0) (by omega)
  obtain ⟨u1, L1, a1, R1⟩ := G.at_ (i := 1) (by omega)
  refine ⟨_, rfl, _, rfl, two, fun t1 n1 => ?_⟩
  have s1 := sameNew (o := .tup [V.ref a, V.ref b]) n1
  have p1 : PairG (upd H1 t1 (.tup [V.ref a, V.ref b])) d c ks t1 := ⟨_, _, _, _, upd_same, z.one.same s1, z.oth.same s1⟩
  dsimp only [tNil]
  generalize upd H1 t1 (.tup [V.ref a, V.ref b]) = H2 at s1 p1
  refine ⟨_, rfl, _, rfl, two, fun t2 n2 => ?_⟩
  have s2 := sameNew (o := .tup [V.ref a, V.ref a]) n2
  have z2 := z.same s1
  have p2 : PairG (upd H2 t2 (.tup [V.ref a, V.ref a])) d c ks t2 := ⟨_, _, _, _, upd_same, z2.one.same s2, z2.one.same s2⟩
  dsimp only [tNil]
  generalize upd H2 t2 (.tup [V.ref a, V.ref a]) = H3 at s2 p2
  have z3 := z2.same s2
  refine ⟨_, rfl, _, rfl, ?_⟩
  dsimp only [tNil]
  refine undG z3.sit.deal z3.one (by decide) fun u LU H4 nu s4 RU => ⟨two, fun t3 n3 => ?_⟩
  have z4 := z3.same s4
  have s5 := sameNew (o := .tup [V.ref a, V.ref u]) n3
  have p3 : PairG (upd H4 t3 (.tup [V.ref a, V.ref u])) d c ks t3 := ⟨_, _, _, _, upd_same, z4.one.same s5, RU.same s5⟩
  generalize upd H4 t3 (.tup [V.ref a, V.ref u]) = H5 at s5 p3
  have z5 := z4.same s5
  refine ⟨_, rfl, (by show 0 ≤ sizeLine; decide), fun w nw => ⟨two, fun t4 n4 => ?_⟩⟩
  have s6 := sameNew (o := .lst []) nw
  have z6 := z5.same s6
  have RW : RowG (upd H5 w (.lst [])) d c ks w [] 12 := .new z5.sit.deal nw s6 upd_same (fun _ h => nomatch h) Kn.nil (Nat.zero_le _)
  generalize upd H5 w (.lst []) = H6 at s6 z6 RW n4
  have s7 := sameNew (o := .tup [V.ref a, V.ref w]) n4
  have p4 : PairG (upd H6 t4 (.tup [V.ref a, V.ref w])) d c ks t4 := ⟨_, _, _, _, upd_same, z6.one.same s7, RW.same s7⟩
  generalize upd H6 t4 (.tup [V.ref a, V.ref w]) = H7 at s7 p4
  have z7 := z6.same s7
  have s17 := (((s1.trans s2).trans s4).trans s5).trans (s6.trans s7)
  have G7 := G.same s17
  refine ⟨_, rfl, sA, _, _, _, rfl, rfl, SqL.of G7.lst, atI_nat (j := 0) a0, _, rfl, sA, _, _, _, rfl, rfl, SqL.of G7.lst, atI_nat (j := 1) a1, two, fun t5 n5 => ⟨five, fun qA nq => ?_⟩⟩
  have s8 := sameNew (o := .tup [V.ref u0, V.ref u1]) n5
  have p5 : PairG (upd H7 t5 (.tup [V.ref u0, V.ref u1])) d c ks t5 := ⟨_, _, _, _, upd_same, (R0.same s17).same s8, (R1.same s17).same s8⟩
  generalize upd H7 t5 (.tup [V.ref u0, V.ref u1]) = H8 at s8 p5 nq
  have s9 := sameNew (o := .lst [V.ref t1, V.ref t2, V.ref t3, V.ref t4, V.ref t5]) nq
  have s79 := s8.trans s9
  have e9 : upd H8 qA (.lst [V.ref t1, V.ref t2, V.ref t3, V.ref t4, V.ref t5]) qA = some (.lst (([t1, t2, t3, t4, t5] : List Addr).map V.ref)) := upd_same
  have s69 := (s6.trans s7).trans s79
  refine h8 _ d c kA pA tb a b sA qA ks PL La Lb S [t1, t2, t3, t4, t5] _ _ _ _ _ _ _ _ _ _ _ _ (z7.same s79) (G7.same s79) l2 e9 (fun t ht => ?_) (by show 5 ≤ 10; decide) fun H' y16 y17 D' k' => q H' _ _ _ _ D' ((Kept.of (s17.trans s79)).trans k')
  rcases List.mem_cons.mp ht with rfl | ht
  · exact p1.same (((s2.trans s4).trans s5).trans s69)
  rcases List.mem_cons.mp ht with rfl | ht
  · exact p2.same ((s4.trans s5).trans s69)
  rcases List.mem_cons.mp ht with rfl | ht
  · exact p3.same s69
  rcases List.mem_cons.mp ht with rfl | ht
  · exact p4.same s79
  rw [List.mem_singleton.mp ht]
  exact p5.same s9
end
end L2.Und
end

section
set_option Elab.async false
set_option linter.all false
set_option maxRecDepth 100000
set_option maxHeartbeats 400000
namespace L2.Und
open PySem PySem.Spec PyProof.Rows _root_.Und ClX
open L2.KS SX
open PySem.W (findIn keepIn typeIn subIn)
theorem shapedN {l : List Str} (h : ∀ k ∈ l, IsName k = true) : SeqAt.shaped (.list (l.map PyData.str)) = true := by
  unfold SeqAt.shaped
  simp [PyData.canLay0, PyData.depth, canStrs l h, depStrs l]
theorem eqvN (l : List Str) : PyData.eqv (.list (l.map PyData.str)) (.list []) = l.isEmpty := by
  cases l <;> rfl
theorem eqvM (l : List (Str × Int)) : ∃ b, PyData.eqv (.list (l.map dSyl)) (.list []) = b := ⟨_, rfl⟩
/-- what is not the deal's, nor at p, stays -/
def KeptX (d c p : Addr) (H H' : Hp) : Prop := ∀ x o, x ≠ d → x ≠ c → x ≠ p → H x = some o → H' x = some o
theorem Kept.x {d c p : Addr} {H H' : Hp} (k : Kept d c H H') : KeptX d c p H H' := fun x o a b _ e => k x o a b e
theorem KeptX.trans {d c p : Addr} {H H1 H2 : Hp} (x : KeptX d c p H H1) (y : KeptX d c p H1 H2) : KeptX d c p H H2 := fun b o h1 h2 h3 h => y b o h1 h2 h3 (x b o h1 h2 h3 h)
theorem KeptX.upd {d c p : Addr} {H : Hp} {o : HO} : KeptX d c p H (upd H p o) := fun x u _ _ n e => by rw [upd_ne n]; exact e
/-- several rows in a list that stands apart from all else -/
structure Apart (H : Hp) (d c kA pA a b ar : Addr) (ks : List Str) (sA : Addr) (S : List (Addr × SyL)) : Prop where
  some_ : SomeG H d c ks sA S
  sd : sA ≠ d
  sc : sA ≠ c
  nk : kA ≠ sA
  np : pA ≠ sA
  na : a ≠ sA
  nb : b ≠ sA
  nr : ar ≠ sA
  ne : ∀ e ∈ S, e.1 ≠ sA
section
variable {K : PySem.W.Frag} {CT d c kA pA tb a b ar sA g : Addr} {ks : List Str} {PL : PA2'} {La Lb Lg : SyL} {S : List (Addr × SyL)} {H H' : Hp}
theorem Apart.same (z : Apart H d c kA pA a b ar ks sA S) (s : Same H H') : Apart H' d c kA pA a b ar ks sA S := ⟨z.some_.same s, z.sd, z.sc, z.nk, z.np, z.na, z.nb, z.nr, z.ne⟩
theorem Apart.kept (z : Apart H d c kA pA a b ar ks sA S) (k : Kept d c H H') (D : Deal H d c) : Apart H' d c kA pA a b ar ks sA S := ⟨⟨k _ _ z.sd z.sc z.some_.lst, fun e he => (z.some_.row e he).kept k D⟩, z.sd, z.sc, z.nk, z.np, z.na, z.nb, z.nr, z.ne⟩
/-- a row is appended -/
theorem Apart.app (z : Apart H d c kA pA a b ar ks sA S) (G : RowG H d c ks g Lg 12) (gn : g ≠ sA) : Apart (upd H sA (.lst (S.map (fun e => V.ref e.1) ++ [V.ref g]))) d c kA pA a b ar ks sA (S ++ [(g, Lg)]) :=
  ⟨⟨by rw [upd_same, List.map_append]; rfl, fun e he => by
    rcases List.mem_append.mp he with he | he
    · exact (z.some_.row e he).off z.some_.lst (z.ne e he)
    · rw [List.mem_singleton.mp he]
      exact G.off z.some_.lst gn⟩, z.sd, z.sc, z.nk, z.np, z.na, z.nb, z.nr, fun e he => by
    rcases List.mem_append.mp he with he | he
    · exact z.ne e he
    · rw [List.mem_singleton.mp he]
      exact gn⟩
theorem Big.off {ys : List V} (z : Big K CT d c kA pA tb a b ks PL La Lb H) (y : Apart H d c kA pA a b ar ks sA S) : Big K CT d c kA pA tb a b ks PL La Lb (upd H sA (.lst ys)) :=
  ⟨z.sit.off y.some_.lst y.sd y.sc y.nk y.np, z.one.off y.some_.lst y.na, z.oth.off y.some_.lst y.nb⟩
end
section
variable {P : Program} {w : World} {K : PySem.W.Frag} {mg : Str → Option Value} {base : Heap} {CT : Addr}
/-- what lies beside -/
theorem turn6 (Z : EnvL P w K mg base CT) {f : Addr} {cdv : Value} {A : Around} {outer : List Env} {s : Shared} {H : Hp} {E : XK} (hr : Room 8 (A.deeper (envOfC "law" (defScope sLaw) s.heap.objs.size f cdv))) :
    ∃ t, PSs (cxOf CX0 P w K mg base nLaw "law" (defScope sLaw) f cdv A outer s H E).nox (turnBody.drop 6) t ∧
      ∀ (D : Ends) (d c kA pA tb a b ar sA bA : Addr) (ks bs : List Str) (PL : PA2') (La Lb Lr : SyL) (S : List (Addr × SyL)) (H1 : Hp) (x0 x1 x3 x9 x12 x13 x15 x16 x17 x18 : Option V), Big K CT d c kA pA tb a b ks PL La Lb H1 → RowG H1 d c ks ar Lr 2 → Apart H1 d c kA pA a b ar ks sA S → S.length = 2 → H1 bA = some (.lst (bs.map V.str)) → bA ≠ d → bA ≠ c → (∀ k ∈ bs, k ∈ ks) → bs.length ≤ 12 →
        (∀ (H' : Hp) (y11 y15 y16 y17 : Option V), Deal H' d c → KeptX d c sA H1 H' → D.nx (St19 x0 x1 d x3 tb kA pA a b x9 (some (.ref ar)) y11 x12 x13 (some (.ref bA)) y15 y16 y17 x18) H') →
        t D (St19 x0 x1 d x3 tb kA pA a b x9 (some (.ref ar)) (some (.ref sA)) x12 x13 (some (.ref bA)) x15 x16 x17 x18) H1 := by
  obtain ⟨t7, p7, h7⟩ := turn7 (outer := outer) (H := H) (E := E) Z hr
  have hu : (A.deeper (envOfC "law" (defScope sLaw) s.heap.objs.size f cdv)).units + 64 < cLine := by have := hr.un; omega
  have hr1 : Room 1 (A.deeper (envOfC "law" (defScope sLaw) s.heap.objs.size f cdv)) := hr.mono (by decide)
  have hr3 : Room 3 (A.deeper (envOfC "law" (defScope sLaw) s.heap.objs.size f cdv)) := hr.mono (by decide)
  obtain ⟨fU, fdU, mU, kU, GU, bU⟩ := Z.und
  obtain ⟨xR, fR, fdR, mR, kR, GR, bR⟩ := Z.row
  refine ⟨_, pss_cons (ps_if (pt_cmpR (op_neD hu) (pv 14) (pe_lst pa_nil) (nomark _))
      (pss_one (ps_expr (pe_bm PySem.F.plainAttrs_list PySem.F.slot_list_append PySem.F.type_list_append mt_append (pv 11) (pa_cons (pe_op op_cat (pe_op op_cat (pv 10) (pe_call GR hr3 rfl mR kR bR .nil pass0 (pa_cons (pv 2) (pa_cons (pv 14) (pa_cons pe_int pa_nil))))) (pe_call GU hr1 rfl mU kU bU .nil pass0 (pa_cons (pv 10) pa_nil))) pa_nil)))) pss_nil) p7, ?_⟩
  intro D d c kA pA tb a b ar sA bA ks bs PL La Lb Lr S H1 x0 x1 x3 x9 x12 x13 x15 x16 x17 x18 z R y lS eb bd bc bk bl q
  have sz : (5000 : Nat) < sizeLine := by decide
  refine ⟨_, rfl, (by show 0 ≤ sizeLine; decide), fun p np => ?_⟩
  have s2 := sameNew (o := .lst []) np
  have z2 := z.same s2
  have y2 := y.same s2
  have R2 := R.same s2
  have eb2 := s2 _ _ eb
  have bn : ∀ k ∈ bs, IsName k = true := fun k hk => z.sit.nm k (bk k hk)
  refine ⟨.list (bs.map .str), .list [], .lst (SqL.of eb2) (dpStrs _), .lst (SqL.of upd_same) .nil, shapedN bn, rfl, _, rfl, ?_⟩
  rw [eqvN]
  generalize upd H1 p (.lst []) = H2 at s2 z2 y2 R2 eb2
  cases bs with
  | nil => exact iteF (h7 _ d c kA pA tb a b sA ks PL La Lb S H2 _ _ _ _ _ _ _ _ _ _ _ _ z2 y2.some_ (by omega) fun H' y11 y15 y16 y17 D' k' => q H' _ _ _ _ D' ((Kept.of s2).trans k').x)
  | cons b0 bs =>
    refine iteT ⟨_, rfl, .inl ⟨rfl, _, SqL.of y2.some_.lst⟩, _, rfl, _, rfl, _, rfl, ?_⟩
    dsimp only [tNil, tCons, tC]
    refine rowG (bs := b0 :: bs) (ks := ks) (m := 2) z2.sit.deal eb2 bd bc (Nat.succ_le_succ (Nat.zero_le _)) bl (fun k hk => z.sit.kok k (bk k hk)) bk (by decide) fun r LR H3 nr D3 k3 RR lr => ?_
    have z3 := z2.kept k3 D3
    have y3 := y2.kept k3 z2.sit.deal
    have R3 := R2.kept k3 z2.sit.deal
    refine catG D3 R3 RR (by decide) fun g1 H4 n4 s4 G1 => ⟨_, rfl, ?_⟩
    have D4 := D3.same s4
    dsimp only [tNil]
    refine undG D4 (R3.same s4) (by decide) fun u LU H5 nu s5 RU => ?_
    have D5 := D4.same s5
    refine catG D5 (G1.same s5) RU (by decide) fun g2 H6 n6 s6 G2 => ?_
    have s36 := (s4.trans s5).trans s6
    have y6 := y3.same s36
    have z6 := z3.same s36
    have gn : g2 ≠ sA := fun w => by
      have := (y3.same (s4.trans s5)).some_.lst
      rw [← w, n6] at this
      cases this
    have lm : (S.map fun e => V.ref e.1).length = S.length := List.length_map ..
    refine ⟨sA, _, _, rfl, rfl, y6.some_.lst, by rw [lm]; omega, ?_⟩
    have y7 := y6.app (G2.le (m := 12) (by decide)) gn
    refine h7 _ d c kA pA tb a b sA ks PL La Lb (S ++ [(g2, _)]) _ _ _ _ _ _ _ _ _ _ _ _ _ (z6.off y6) y7.some_ (by rw [List.length_append]; omega) fun H' y11 y15 y16 y17 D' k' => q H' _ _ _ _ D' ?_
    exact (((Kept.of s2).trans k3).trans (Kept.of s36)).x.trans (KeptX.upd.trans k'.x)
/-- what lies beside the kernel -/
abbrev oScB : Scope := { kind := .function, names := [(".0", .local), ("_law_kind", .cell), ("_law_kernel", .free), ("_law_pairs_here", .free)], isGenerator := false, isCoroutine := false }
theorem turn5 (Z : EnvL P w K mg base CT) {f : Addr} {cdv : Value} {A : Around} {outer : List Env} {s : Shared} {H : Hp} {E : XK} (hr : Room 8 (A.deeper (envOfC "law" (defScope sLaw) s.heap.objs.size f cdv))) :
    ∃ t, PSs (cxOf CX0 P w K mg base nLaw "law" (defScope sLaw) f cdv A outer s H E).nox (turnBody.drop 5) t ∧
      ∀ (D : Ends) (d c kA pA tb a b ke ar sA : Addr) (ks : List Str) (PL : PA2') (La Lb Lk Lr : SyL) (S : List (Addr × SyL)) (H1 : Hp) (x0 x1 x3 x12 x13 x14 x15 x16 x17 x18 : Option V), Big K CT d c kA pA tb a b ks PL La Lb H1 → RowG H1 d c ks ke Lk 2 → RowG H1 d c ks ar Lr 2 → Apart H1 d c kA pA a b ar ks sA S → S.length = 2 →
        (∀ (H' : Hp) (y11 y14 y15 y16 y17 : Option V), Deal H' d c → KeptX d c sA H1 H' → D.nx (St19 x0 x1 d x3 tb kA pA a b (some (.ref ke)) (some (.ref ar)) y11 x12 x13 y14 y15 y16 y17 x18) H') →
        t D (St19 x0 x1 d x3 tb kA pA a b (some (.ref ke)) (some (.ref ar)) (some (.ref sA)) x12 x13 x14 x15 x16 x17 x18) H1 := by
  obtain ⟨t6, p6, h6⟩ := turn6 (outer := outer) (H := H) (E := E) Z hr
  have hu : (A.deeper (envOfC "law" (defScope sLaw) s.heap.objs.size f cdv)).units + 64 < cLine := by have := hr.un; omega
  have hr1 : Room 1 (A.deeper (envOfC "law" (defScope sLaw) s.heap.objs.size f cdv)) := hr.mono (by decide)
  obtain ⟨fI, fdI, mI, kI, GI, bI⟩ := Z.isf
  refine ⟨_, pss_cons (ps_setLc (i := 14) (own := [("_law_kind", 18)]) (g := gName 18) rfl scLaw.nd rfl rfl (sw_true rfl rfl rfl (by decide +kernel)) (pi_list (pv 5)) (blkOk_by (N := nLaw) (sc := defScope sLaw) (by decide +kernel))
      (fun _ _ _ _ _ => pg_name (i := 18) scLaw.nd rfl (Or.inr rfl))
      (fun _ _ _ _ _ => pts_one (pt_cmpR (show OpR _ _ (rEqD K) from op_eqD hu)
        (by
          refine pe_lc (own := [("_law_one", 7)]) (g := gName 7) (wi := iList K (tVar 9)) (tt := tNot (tB (tCall (spLFree K) [] E0 (tCons (tVar 6) (tCons (tVar 18) (tCons (tOp (rIxT K) (tVar 7) (tC (.int 0))) tNil)))))) (te := tVar 7) ?_ ?_ ?_ ?_ ?_ ?_ ?_
          · rfl
          · exact scLaw.nd
          · exact pi_list (pv 9)
          · exact blkOk_by (N := nLaw) (sc := relS oScB (defScope sLaw)) (by decide +kernel)
          · intro _ _ _ _ _; exact pg_name (i := 7) scLaw.nd rfl (Or.inl rfl)
          · intro _ _ _ _ _; exact pts_one (pt_not (pt_val (pe_call GI hr1 rfl mI kI bI .nil pass0 (pa_cons (pv 6) (pa_cons (pv 18) (pa_cons (pe_ix (show IxR _ (rIxT K) from ix_tup) (pv 7) pe_int (fun _ _ => rfl)) pa_nil))))))
          · intro _ _ _ _ _; exact pv 7)
        (pe_lst pa_nil) (nomark _)))
      (fun _ _ _ _ _ => pv 18)) p6, ?_⟩
  intro D d c kA pA tb a b ke ar sA ks PL La Lb Lk Lr S H1 x0 x1 x3 x12 x13 x14 x15 x16 x17 x18 z RK R y lS q
  have sz : (5000 : Nat) < sizeLine := by decide
  have k12 := z.sit.k12
  have lk := RK.len
  refine ⟨_, rfl, kA, rfl, ⟨_, SqL.of z.sit.kin⟩, fun U hU => ?_⟩
  refine lc_list (K := K) (a := kA) (xs := ks.map V.str) (fun n H' => Same H1 H' ∧ ∃ bs : List Str, H' U = some (.lst (bs.map V.str)) ∧ (∀ k ∈ bs, k ∈ ks) ∧ bs.length ≤ n)
    ⟨sameNew hU, [], upd_same, (fun _ h => (nomatch h)), Nat.le_refl _⟩ (fun n H' _ h => h.1.seq (SqL.of z.sit.kin)) ?_ ?_
  · rintro n x H2 hx ⟨s2, bs, eU, bk, bl⟩
    obtain ⟨k, hk, rfl⟩ : ∃ k, ks[n]? = some k ∧ x = V.str k := by
      rw [List.getElem?_map] at hx
      obtain ⟨k, hk, e⟩ := Option.map_eq_some_iff.mp hx
      exact ⟨k, hk, e.symm⟩
    have km := List.mem_of_getElem? hk
    have lt : n < ks.length := (List.getElem?_eq_some_iff.mp hk).1
    have z2 := z.same s2
    have RK2 := RK.same s2
    refine ⟨rfl, _, rfl, ke, rfl, ⟨_, SqL.of RK2.lst⟩, fun U2 hU2 => ?_⟩
    refine lc_list (K := K) (a := ke) (xs := refsOf Lk) (fun m H' => Same H2 H' ∧ ∃ M : SyL, H' U2 = some (.lst (refsOf M)) ∧ (∀ e ∈ M, e ∈ Lk) ∧ M.length ≤ m)
      ⟨sameNew hU2, [], upd_same, (fun _ h => (nomatch h)), Nat.le_refl _⟩ (fun m H' _ h => h.1.seq (SqL.of RK2.lst)) ?_ ?_
    · rintro m x H3 hx ⟨s3, M, eM, mM, lM⟩
      obtain ⟨e, he, rfl⟩ := refs_at hx
      have em := List.mem_of_getElem? he
      have ltm : m < Lk.length := (List.getElem?_eq_some_iff.mp he).1
      have z3 := z2.same s3
      have ek : e.2.1 ∈ ks := RK.kn e.2 (List.mem_map.mpr ⟨e, em, rfl⟩)
      refine ⟨rfl, _, rfl, _, rfl, _, rfl, e.1, _, 0, .str e.2.1, rfl, rfl, SqT.of ((RK2.same s3).syl e em), rfl, pA, PL, k, e.2.1, rfl, SqL.of z3.sit.prs, z3.sit.prs2, z3.sit.kok _ km, z3.sit.kok _ ek, fun H4 s4 => ⟨_, rfl, ?_⟩⟩
      have s34 := s3.trans s4
      cases isFree (PL.map (·.2)) k e.2.1 with
      | true => exact iteF ⟨s34, M, s4 _ _ eM, mM, by omega⟩
      | false =>
        refine iteT ⟨_, rfl, _, s4 _ _ eM, by show (List.map _ M).length < _; rw [List.length_map]; omega, Same.upd s34 hU2, M ++ [e], ?_, ?_, ?_⟩
        · rw [upd_same]
          show _ = some (HO.lst (List.map _ _))
          rw [List.map_append]
          rfl
        · intro u hu
          rcases List.mem_append.mp hu with hu | hu
          · exact mM u hu
          · rw [List.mem_singleton.mp hu]
            exact em
        · rw [List.length_append, List.length_singleton]
          omega
    · rintro H3 ⟨s3, M, eM, mM, lM⟩
      have RK3 := RK2.same s3
      refine ⟨(by show 0 ≤ sizeLine; decide), fun p np => ?_⟩
      have s4 := sameNew (o := .lst []) np
      have okM : ∀ e ∈ sylsOf M, PyData.strOk e.1 = true := fun e he => by
        obtain ⟨u, hu, rfl⟩ := List.mem_map.mp he
        exact z.sit.kok _ (RK.kn u.2 (List.mem_map.mpr ⟨u, mM u hu, rfl⟩))
      refine ⟨.list ((sylsOf M).map dSyl), .list [], .lst (SqL.of (s4 _ _ eM)) (Syls.dp fun e he => SqT.of (s4 _ _ (RK3.syl e (mM e he)))), .lst (SqL.of upd_same) .nil, (shapedSyls okM).2, rfl, _, rfl, ?_⟩
      have s24 := (s2.trans s3).trans s4
      have eU4 := s4 _ _ (s3 _ _ eU)
      cases PyData.eqv (.list ((sylsOf M).map dSyl)) (.list []) with
      | false => exact iteF ⟨s24, bs, eU4, bk, by omega⟩
      | true =>
        refine iteT ⟨_, rfl, _, eU4, by rw [List.length_map]; omega, Same.upd s24 hU, bs ++ [k], ?_, ?_, ?_⟩
        · rw [upd_same, List.map_append]
          rfl
        · intro u hu
          rcases List.mem_append.mp hu with hu | hu
          · exact bk u hu
          · rw [List.mem_singleton.mp hu]
            exact km
        · rw [List.length_append, List.length_singleton]
          omega
  · rintro H2 ⟨s2, bs, eU, bk, bl⟩
    rw [List.length_map] at bl
    refine h6 _ d c kA pA tb a b ar sA U ks bs PL La Lb Lr S H2 _ _ _ _ _ _ _ _ _ _ (z.same s2) (R.same s2) (y.same s2) lS eU (z.sit.deal.ned hU) (z.sit.deal.nec hU) bk (by omega) fun H' y11 y15 y16 y17 D' k' => q H' _ _ _ _ _ D' ((Kept.of s2).x.trans k')
/-- around, repeated, around undone -/
theorem turn4 (Z : EnvL P w K mg base CT) {f : Addr} {cdv : Value} {A : Around} {outer : List Env} {s : Shared} {H : Hp} {E : XK} (hr : Room 8 (A.deeper (envOfC "law" (defScope sLaw) s.heap.objs.size f cdv))) :
    ∃ t, PSs (cxOf CX0 P w K mg base nLaw "law" (defScope sLaw) f cdv A outer s H E).nox (turnBody.drop 4) t ∧
      ∀ (D : Ends) (d c kA pA tb a b ke ar sA : Addr) (ks : List Str) (PL : PA2') (La Lb Lk Lr : SyL) (H1 : Hp) (x0 x1 x3 x12 x13 x14 x15 x16 x17 x18 : Option V), Big K CT d c kA pA tb a b ks PL La Lb H1 → RowG H1 d c ks ke Lk 2 → RowG H1 d c ks ar Lr 2 → Apart H1 d c kA pA a b ar ks sA [] → ke ≠ sA →
        (∀ (H' : Hp) (y11 y12 y13 y14 y15 y16 y17 : Option V), Deal H' d c → KeptX d c sA H1 H' → D.nx (St19 x0 x1 d x3 tb kA pA a b (some (.ref ke)) (some (.ref ar)) y11 y12 y13 y14 y15 y16 y17 x18) H') →
        t D (St19 x0 x1 d x3 tb kA pA a b (some (.ref ke)) (some (.ref ar)) (some (.ref sA)) x12 x13 x14 x15 x16 x17 x18) H1 := by
  obtain ⟨t5, p5, h5⟩ := turn5 (outer := outer) (H := H) (E := E) Z hr
  have hr1 : Room 1 (A.deeper (envOfC "law" (defScope sLaw) s.heap.objs.size f cdv)) := hr.mono (by decide)
  have hr2 : Room 2 (A.deeper (envOfC "law" (defScope sLaw) s.heap.objs.size f cdv)) := hr.mono (by decide)
  obtain ⟨fU, fdU, mU, kU, GU, bU⟩ := Z.und
  obtain ⟨fW, fdW, mW, kW, GW, bW⟩ := Z.draw
  obtain ⟨fP, fdP, mP, kP, GP, bP⟩ := Z.rep
  refine ⟨_, pss_cons (ps_for PassesOwn.never rfl (pi_range1 rfl Z.bN (pa_cons pe_int pa_nil)) (pg_name (i := 12) scLaw.nd rfl (Or.inl rfl))
      (pss_cons (ps_set (i := 13) scLaw.nd rfl (Or.inl rfl) (pe_op op_sub (pe_call GW hr1 rfl mW kW bW .nil pass0 (pa_cons (pv 2) (pa_cons pe_int pa_nil))) pe_int))
      (pss_one (ps_expr (pe_bm PySem.F.plainAttrs_list PySem.F.slot_list_append PySem.F.type_list_append mt_append (pv 11) (pa_cons (pe_op op_cat (pe_op op_cat (pv 10) (pe_call GP hr2 rfl mP kP bP .nil pass0 (pa_cons (pv 9) (pa_cons (pv 13) pa_nil)))) (pe_call GU hr1 rfl mU kU bU .nil pass0 (pa_cons (pv 10) pa_nil))) pa_nil)))))) p5, ?_⟩
  intro D d c kA pA tb a b ke ar sA ks PL La Lb Lk Lr H1 x0 x1 x3 x12 x13 x14 x15 x16 x17 x18 z RK R y kn q
  have sz : (5000 : Nat) < sizeLine := by decide
  refine ⟨2, rfl, by decide, by decide, for_range (D := { D with nx := t5 D }) (lo := 0) (n := 2) (fun n σ H' => KeptX d c sA H1 H' ∧ Big K CT d c kA pA tb a b ks PL La Lb H' ∧ RowG H' d c ks ke Lk 2 ∧ RowG H' d c ks ar Lr 2 ∧ (∃ S, Apart H' d c kA pA a b ar ks sA S ∧ S.length = n) ∧ ∃ y12 y13, σ = St19 x0 x1 d x3 tb kA pA a b (some (.ref ke)) (some (.ref ar)) (some (.ref sA)) y12 y13 x14 x15 x16 x17 x18) ⟨fun _ _ _ _ _ e => e, z, RK, R, ⟨[], y, rfl⟩, _, _, rfl⟩ ?_ ?_⟩
  · rintro n σ H2 hn ⟨k2, z2, RK2, R2, ⟨S, y2, lS⟩, y12, y13, rfl⟩
    refine ⟨_, rfl, d, c, 7, rfl, z2.sit.deal, by decide, by decide, fun m H3 g0 g1 D3 k3 => ⟨_, _, rfl, rfl, ?_⟩⟩
    have z3 := z2.kept k3 D3
    have RK3 := RK2.kept k3 z2.sit.deal
    have R3 := R2.kept k3 z2.sit.deal
    have y3 := y2.kept k3 z2.sit.deal
    refine ⟨_, rfl, .inl ⟨rfl, _, SqL.of y3.some_.lst⟩, _, rfl, _, rfl, _, rfl, ?_⟩
    have lk := RK3.len
    have hm : (m - 3).natAbs ≤ 3 := by omega
    refine ⟨ke, Lk, m - 3, rfl, RK3.lst, RK3.syl, by omega, by omega, fun p LP H4 np s4 ep sp kp lp => ?_⟩
    have D4 := D3.same s4
    have l6 : LP.length ≤ 6 := by
      have h1 : Lk.length * (m - 3).natAbs ≤ 2 * 3 := Nat.mul_le_mul lk hm
      omega
    have RP : RowG H4 d c ks p LP 6 := .new D3 np s4 ep sp (kp ks RK3.kn) l6
    refine catG D4 (R3.same s4) RP (by decide) fun g1' H5 n5 s5 G1 => ⟨_, rfl, ?_⟩
    have D5 := D4.same s5
    dsimp only [tNil]
    refine undG D5 ((R3.same s4).same s5) (by decide) fun u LU H6 nu s6 RU => ?_
    have D6 := D5.same s6
    refine catG D6 (G1.same s6) RU (by decide) fun g2 H7 n7 s7 G2 => ?_
    have s37 := ((s4.trans s5).trans s6).trans s7
    have y7 := y3.same s37
    have z7 := z3.same s37
    have gn : g2 ≠ sA := fun w => by
      have := (y3.same ((s4.trans s5).trans s6)).some_.lst
      rw [← w, n7] at this
      cases this
    have lm : (S.map fun e => V.ref e.1).length = S.length := List.length_map ..
    refine ⟨sA, _, _, rfl, rfl, y7.some_.lst, by rw [lm]; omega, ?_⟩
    refine ⟨(k2.trans (k3.trans (Kept.of s37)).x).trans KeptX.upd, z7.off y7, (RK3.same s37).off y7.some_.lst kn, (R3.same s37).off y7.some_.lst y7.nr, ⟨_, y7.app (G2.le (m := 12) (by decide)) gn, by rw [List.length_append, lS]; rfl⟩, _, _, rfl⟩
  · rintro σ H2 ⟨k2, z2, RK2, R2, ⟨S, y2, lS⟩, y12, y13, rfl⟩
    exact h5 _ d c kA pA tb a b ke ar sA ks PL La Lb Lk Lr S H2 _ _ _ _ _ _ _ _ _ _ z2 RK2 R2 y2 lS fun H' y11 y14 y15 y16 y17 D' k' => q H' _ _ _ _ _ _ _ D' (k2.trans k')
end
end L2.Und
end

section
set_option Elab.async false
set_option linter.all false
set_option maxRecDepth 100000
set_option maxHeartbeats 1000000
namespace L2.Und
open PySem PySem.Spec PyProof.Rows _root_.Und ClX
open L2.KS SX
open PySem.W (findIn keepIn typeIn subIn)
section
variable {P : Program} {w : World} {K : PySem.W.Frag} {mg : Str → Option Value} {base : Heap} {CT : Addr}
/-- one turn -/
theorem turn0 (Z : EnvL P w K mg base CT) {f : Addr} {cdv : Value} {A : Around} {outer : List Env} {s : Shared} {H : Hp} {E : XK} (hr : Room 8 (A.deeper (envOfC "law" (defScope sLaw) s.heap.objs.size f cdv))) :
    ∃ t, PSs (cxOf CX0 P w K mg base nLaw "law" (defScope sLaw) f cdv A outer s H E).nox turnBody t ∧
      ∀ (D : Ends) (d c : Addr) (H1 : Hp) (x0 x1 x3 x4 x5 x6 x7 x8 x9 x10 x11 x12 x13 x14 x15 x16 x17 x18 : Option V), Deal H1 d c →
        (∀ (H' : Hp) (y4 y5 y6 y7 y8 y9 y10 y11 y12 y13 y14 y15 y16 y17 : Option V), Deal H' d c → Kept d c H1 H' → D.nx [x0, x1, some (.ref d), x3, y4, y5, y6, y7, y8, y9, y10, y11, y12, y13, y14, y15, y16, y17, x18] H') →
        t D [x0, x1, some (.ref d), x3, x4, x5, x6, x7, x8, x9, x10, x11, x12, x13, x14, x15, x16, x17, x18] H1 := by
  obtain ⟨t4, p4, h4⟩ := turn4 (outer := outer) (H := H) (E := E) Z hr
  have hr1 : Room 1 (A.deeper (envOfC "law" (defScope sLaw) s.heap.objs.size f cdv)) := hr.mono (by decide)
  have hr3 : Room 3 (A.deeper (envOfC "law" (defScope sLaw) s.heap.objs.size f cdv)) := hr.mono (by decide)
  have hr6 : Room 6 (A.deeper (envOfC "law" (defScope sLaw) s.heap.objs.size f cdv)) := hr.mono (by decide)
  obtain ⟨fT, fdT, mT, kT, GT, bT⟩ := Z.tbl
  obtain ⟨fW, fdW, mW, kW, GW, bW⟩ := Z.draw
  obtain ⟨xR, fR, fdR, mR, kR, GR, bR⟩ := Z.row
  refine ⟨_, pss_cons (ps_asg (pe_call GT hr6 rfl mT kT bT .nil pass0 (pa_cons (pv 2) (pa_cons (pe_ix ix_list (pe_lst (pa_cons pe_int (pa_cons pe_int (pa_cons pe_int pa_nil)))) (pe_call GW hr1 rfl mW kW bW .nil pass0 (pa_cons (pv 2) (pa_cons pe_int pa_nil))) (fun _ _ => rfl)) pa_nil)))
        (pg_tup rfl (pgs_cons (pg_name (i := 4) scLaw.nd rfl (Or.inl rfl)) (pgs_cons (pg_name (i := 5) scLaw.nd rfl (Or.inr rfl)) (pgs_cons (pg_name (i := 6) scLaw.nd rfl (Or.inr rfl)) pgs_nil)))))
    (pss_cons (ps_asg (pe_lc (own := [("_law_side", 12)]) (g := gName 12) (tt := tYes) rfl scLaw.nd (pi_range1 rfl Z.bN (pa_cons pe_int pa_nil)) (blkOk_by (N := nLaw) (sc := defScope sLaw) (by decide +kernel))
          (fun _ _ _ _ _ => pg_name (i := 12) scLaw.nd rfl (Or.inl rfl)) (fun _ _ _ _ _ => pts_nil)
          (fun _ _ _ _ _ => pe_call GR hr3 rfl mR kR bR .nil pass0 (pa_cons (pv 2) (pa_cons (pv 5) (pa_cons (pe_call GW hr1 rfl mW kW bW .nil pass0 (pa_cons (pv 2) (pa_cons pe_int pa_nil))) pa_nil)))))
        (pg_lst rfl (pgs_cons (pg_name (i := 7) scLaw.nd rfl (Or.inl rfl)) (pgs_cons (pg_name (i := 8) scLaw.nd rfl (Or.inl rfl)) pgs_nil))))
    (pss_cons (ps_asg (pe_tup (pa_cons (pe_call GR hr3 rfl mR kR bR .nil pass0 (pa_cons (pv 2) (pa_cons (pv 5) (pa_cons (pe_op op_add pe_int (pe_call GW hr1 rfl mW kW bW .nil pass0 (pa_cons (pv 2) (pa_cons pe_int pa_nil)))) pa_nil))))
          (pa_cons (pe_call GR hr3 rfl mR kR bR .nil pass0 (pa_cons (pv 2) (pa_cons (pv 5) (pa_cons (pe_call GW hr1 rfl mW kW bW .nil pass0 (pa_cons (pv 2) (pa_cons pe_int pa_nil))) pa_nil)))) pa_nil)))
        (pg_tup rfl (pgs_cons (pg_name (i := 9) scLaw.nd rfl (Or.inr rfl)) (pgs_cons (pg_name (i := 10) scLaw.nd rfl (Or.inl rfl)) pgs_nil))))
    (pss_cons (ps_set (i := 11) scLaw.nd rfl (Or.inl rfl) (pe_lst pa_nil)) p4))), ?_⟩
  intro D d c H1 x0 x1 x3 x4 x5 x6 x7 x8 x9 x10 x11 x12 x13 x14 x15 x16 x17 x18 D1 q
  have two : 2 ≤ sizeLine := by decide
  have three : 3 ≤ sizeLine := by decide
  have sz : (5000 : Nat) < sizeLine := by decide
  refine ⟨_, rfl, three, fun p np => ?_⟩
  have s1 := sameNew (o := .lst [V.int 6, V.int 6, V.int 12]) np
  have e1 : upd H1 p (.lst [V.int 6, V.int 6, V.int 12]) p = some (.lst [V.int 6, V.int 6, V.int 12]) := upd_same
  have pd := D1.ned np
  have pc := D1.nec np
  have D1' := D1.same s1
  dsimp only [tNil]
  generalize upd H1 p (.lst [V.int 6, V.int 6, V.int 12]) = H2 at s1 e1 D1'
  refine ⟨_, rfl, d, c, 3, rfl, D1', by decide, by decide, fun m0 H3 g0 g1 D3 k3 => ?_⟩
  obtain ⟨mm, am, m2, m12⟩ : ∃ mm : Int, atI [V.int 6, V.int 6, V.int 12] m0 = some (.int mm) ∧ 2 ≤ mm ∧ mm ≤ 12 := by
    have i3 : m0 = ((0 : Nat) : Int) ∨ m0 = ((1 : Nat) : Int) ∨ m0 = ((2 : Nat) : Int) := by omega
    rcases i3 with rfl | rfl | rfl
    · exact ⟨_, atI_nat (j := 0) rfl, by decide, by decide⟩
    · exact ⟨_, atI_nat (j := 1) rfl, by decide, by decide⟩
    · exact ⟨_, atI_nat (j := 2) rfl, by decide, by decide⟩
  refine ⟨p, _, _, _, rfl, rfl, SqL.of (k3 _ _ pd pc e1), am, d, c, mm, rfl, D3, m2, m12, fun T kA pA tb ks PL H4 k4 eT l2 lm z4 => ?_⟩
  refine ⟨T, _, rfl, SqT.of eT, rfl, _, _, rfl, _, _, rfl, _, _, rfl, rfl, ?_⟩
  have k14 : Kept d c H1 H4 := ((Kept.of s1).trans k3).trans k4
  have kn : ks ≠ [] := fun e => by rw [e] at l2; exact absurd l2 (by decide)
  -- one, other
  dsimp only [tSeq, tAsg]
  refine ⟨2, rfl, by decide, by decide, fun U hU => ?_⟩
  have sU := sameNew (o := .lst []) hU
  have Ud := z4.deal.ned hU
  have Uc := z4.deal.nec hU
  refine lc_range (lo := 0) (n := 2) (fun n H' => Deal H' d c ∧ Kept d c H4 H' ∧ ∃ S : List (Addr × SyL), H' U = some (.lst (S.map fun e => V.ref e.1)) ∧ S.length = n ∧ ∀ e ∈ S, RowG H' d c ks e.1 e.2 4 ∧ e.1 ≠ U) ⟨z4.deal.same sU, .of sU, [], upd_same, rfl, fun _ h => (nomatch h)⟩ ?_ ?_
  · rintro n H5 hn ⟨D5, k5, S, eS, lS, rS⟩
    have z5 := z4.kept k5 D5
    refine ⟨rfl, _, rfl, _, rfl, _, rfl, d, c, 5, rfl, D5, by decide, by decide, fun m H6 h0 h1 D6 k6 => ?_⟩
    obtain ⟨m', rfl⟩ : ∃ x : Nat, m = (x : Int) := ⟨m.toNat, by omega⟩
    have z6 := z5.kept k6 D6
    dsimp only [tNil]
    refine rowG (bs := ks) (ks := ks) (m := m') D6 z6.kin z6.kd z6.kc z6.k1 z6.k12 z6.kok (fun _ h => h) (by omega) fun r L H7 nr D7 k7 RR lr => ?_
    have eU7 := k7 _ _ Ud Uc (k6 _ _ Ud Uc eS)
    have rU : r ≠ U := fun w => by
      have := k6 _ _ Ud Uc eS
      rw [← w, nr] at this
      cases this
    have ls : (S.map fun e => V.ref e.1).length = S.length := List.length_map ..
    refine ⟨_, eU7, by rw [ls, lS]; omega, D7.upd Ud Uc, (k5.trans (k6.trans k7)).upd hU, S ++ [(r, L)], ?_, ?_, ?_⟩
    · rw [upd_same, List.map_append]
      rfl
    · rw [List.length_append, lS]
      rfl
    · intro e he
      rcases List.mem_append.mp he with he | he
      · obtain ⟨g1, g2⟩ := rS e he
        exact ⟨(((g1.kept k6 D5).kept k7 D6).off eU7 g2), g2⟩
      · rw [List.mem_singleton.mp he]
        exact ⟨(RR.le (by omega)).off eU7 rU, rU⟩
  rintro H5 ⟨D5, k5, S, eS, lS, rS⟩
  obtain ⟨⟨a, La⟩, ⟨b, Lb⟩, rfl⟩ : ∃ u v, S = [u, v] := by
    match S, lS with
    | [u, v], _ => exact ⟨u, v, rfl⟩
  have Ra : RowG H5 d c ks a La 4 := (rS _ List.mem_cons_self).1
  have Rb : RowG H5 d c ks b Lb 4 := (rS _ (List.mem_cons_of_mem _ (List.mem_singleton.mpr rfl))).1
  have z5 := z4.kept k5 D5
  refine ⟨U, _, rfl, SqL.of eS, rfl, _, _, rfl, _, _, rfl, rfl, ?_⟩
  -- kernel, around
  refine ⟨_, rfl, _, rfl, _, rfl, d, c, 2, rfl, D5, by decide, by decide, fun m H6 h0 h1 D6 k6 => ?_⟩
  obtain ⟨m', rfl⟩ : ∃ x : Nat, m = (x : Int) := ⟨m.toNat, by omega⟩
  have z6 := z5.kept k6 D6
  have em : (1 : Int) + (m' : Int) = ((1 + m' : Nat) : Int) := by omega
  refine ⟨_, _, rfl, rfl, ?_⟩
  dsimp only [tNil]
  rw [em]
  refine rowG (bs := ks) (ks := ks) (m := 1 + m') D6 z6.kin z6.kd z6.kc z6.k1 z6.k12 z6.kok (fun _ h => h) (by omega) fun ke Lk H7 n7 D7 k7 RK lk => ?_
  have z7 := z6.kept k7 D7
  refine ⟨_, rfl, _, rfl, _, rfl, d, c, 3, rfl, D7, by decide, by decide, fun i H8 h2 h3 D8 k8 => ?_⟩
  obtain ⟨i', rfl⟩ : ∃ x : Nat, i = (x : Int) := ⟨i.toNat, by omega⟩
  have z8 := z7.kept k8 D8
  dsimp only [tNil]
  refine rowG (bs := ks) (ks := ks) (m := i') D8 z8.kin z8.kd z8.kc z8.k1 z8.k12 z8.kok (fun _ h => h) (by omega) fun ar Lr H9 n9 D9 k9 RR lr => ⟨two, fun T2 nT2 => ⟨T2, _, rfl, SqT.of upd_same, rfl, _, _, rfl, _, _, rfl, rfl, ?_⟩⟩
  have z9 := z8.kept k9 D9
  have s10 := sameNew (o := .tup [V.ref ke, V.ref ar]) nT2
  have kk : Kept d c H5 H9 := ((k6.trans k7).trans k8).trans k9
  have B9 : Big K CT d c kA pA tb a b ks PL La Lb H9 := ⟨z9, (Ra.le (by decide)).kept kk D5, (Rb.le (by decide)).kept kk D5⟩
  have RK9 : RowG H9 d c ks ke Lk 2 := ((RK.le (by omega)).kept k8 D7).kept k9 D8
  have RR9 : RowG H9 d c ks ar Lr 2 := RR.le (by omega)
  have B10 := B9.same s10
  have RK10 := RK9.same s10
  have RR10 := RR9.same s10
  generalize upd H9 T2 (.tup [V.ref ke, V.ref ar]) = H10 at s10 B10 RK10 RR10
  refine ⟨(by show 0 ≤ sizeLine; decide), fun sA nA => ?_⟩
  have s11 := sameNew (o := .lst []) nA
  have eA : upd H10 sA (.lst []) sA = some (.lst []) := upd_same
  have neA' : ∀ {x : Addr} {o : HO}, H10 x = some o → x ≠ sA := fun {x o} e w => by rw [w, nA] at e; cases e
  have y11 : Apart (upd H10 sA (.lst [])) d c kA pA a b ar ks sA [] := ⟨⟨eA, fun _ h => (nomatch h)⟩, B10.sit.deal.ned nA, B10.sit.deal.nec nA, neA' B10.sit.kin, neA' B10.sit.prs, neA' B10.one.lst, neA' B10.oth.lst, neA' RR10.lst, fun _ h => (nomatch h)⟩
  refine h4 _ d c kA pA tb a b ke ar sA ks PL La Lb Lk Lr _ _ _ _ _ _ _ _ _ _ _ (B10.same s11) (RK10.same s11) (RR10.same s11) y11 (neA' RK10.lst) fun H' y11' y12 y13 y14 y15 y16 y17 D' k' => q H' _ _ _ _ _ _ _ _ _ _ _ _ _ _ D' ?_
  have k1 : Kept d c H1 H10 := ((k14.trans k5).trans kk).trans (Kept.of s10)
  exact fun x o hd hc e => k' x o hd hc (neA' (k1 x o hd hc e)) (s11 _ _ (k1 x o hd hc e))
theorem okLaw {f : Addr} {fd : FuncData} (F : Fun K "law" "law" sLaw f fd) (Z : EnvL P w K mg base CT) : FnG P w K mg base 9 f fd ["_law_script"] (spLaw K) := by
  refine okG F scLaw (fun vs H Q E h => ?_) (fun cdv A outer s H vs Q E hA hr h => ?_)
  · obtain ⟨a, ns, rfl, _⟩ := h
    rfl
  obtain ⟨t0, p0, h0⟩ := turn0 (s := s) (H := H) (E := E) (cdv := cdv) (A := A) (outer := outer) (f := f) Z hr
  have hr1 : Room 1 (A.deeper (envOfC "law" (defScope sLaw) s.heap.objs.size f cdv)) := hr.mono (by decide)
  obtain ⟨fD, fdD, mD, kD, GD, bD⟩ := Z.deal
  refine ⟨_, pss_cons (ps_for PassesOwn.never rfl (pi_range1 rfl Z.bN (pa_cons pe_int pa_nil)) (pg_name (i := 1) scLaw.nd rfl (Or.inl rfl))
      (pss_cons (ps_set (i := 2) scLaw.nd rfl (Or.inr rfl) (pe_call GD hr1 rfl mD kD bD .nil pass0 (pa_cons (pv 0) (pa_cons (pv 1) pa_nil))))
      (pss_one (ps_for PassesOwn.never rfl (pi_range1 rfl Z.bN (pa_cons pe_int pa_nil)) (pg_name (i := 3) scLaw.nd rfl (Or.inl rfl)) p0))))
    (pss_one (ps_ret pe_bl)), ?_⟩
  obtain ⟨a, ns, rfl, hS, h63, q⟩ := h
  -- the script stays
  have stay : ∀ {H' : Hp}, (∀ o, H a = some o → H' a = some o) → SqL K H' a (ns.map V.int) := fun {H'} k => hS.elim (fun h => .inl (h.elim (fun h => .inl (k _ h)) fun ⟨o, h⟩ => .inr ⟨o, k _ h⟩)) fun h => .inr h
  refine ⟨2, rfl, by decide, by decide, for_range (lo := 0) (n := 2) (fun _ σ H' => (∀ o, H a = some o → H' a = some o) ∧ ∃ v1 v2 v3 v4 v5 v6 v7 v8 v9 v10 v11 v12 v13 v14 v15 v16 v17 v18 : Option V, σ = [some (.ref a), v1, v2, v3, v4, v5, v6, v7, v8, v9, v10, v11, v12, v13, v14, v15, v16, v17, v18]) ⟨fun _ e => e, _, _, _, _, _, _, _, _, _, _, _, _, _, _, _, _, _, _, rfl⟩ ?_ ?_⟩
  · rintro j σ Hs hj ⟨ks, v1, v2, v3, v4, v5, v6, v7, v8, v9, v10, v11, v12, v13, v14, v15, v16, v17, v18, rfl⟩
    refine ⟨_, rfl, _, rfl, a, ns, 0 + (j : Int), rfl, stay ks, h63, by omega, by omega, fun d c H1 s1 nd nc D1 => ?_⟩
    refine ⟨2, rfl, by decide, by decide, for_range (lo := 0) (n := 2) (fun _ σ H' => Deal H' d c ∧ (∀ o, H a = some o → H' a = some o) ∧ ∃ v1 v3 v4 v5 v6 v7 v8 v9 v10 v11 v12 v13 v14 v15 v16 v17 v18 : Option V, σ = [some (.ref a), v1, some (.ref d), v3, v4, v5, v6, v7, v8, v9, v10, v11, v12, v13, v14, v15, v16, v17, v18]) ⟨D1, fun o e => s1 _ _ (ks o e), _, _, _, _, _, _, _, _, _, _, _, _, _, _, _, _, _, rfl⟩ ?_ ?_⟩
    · rintro i σ H2 hi ⟨D2, k2, v1, v3, v4, v5, v6, v7, v8, v9, v10, v11, v12, v13, v14, v15, v16, v17, v18, rfl⟩
      refine h0 _ d c H2 _ _ _ _ _ _ _ _ _ _ _ _ _ _ _ _ _ _ D2 fun H' y4 y5 y6 y7 y8 y9 y10 y11 y12 y13 y14 y15 y16 y17 D' k' => ⟨D', fun o e => ?_, _, _, _, _, _, _, _, _, _, _, _, _, _, _, _, _, _, rfl⟩
      have ea := ks o e
      exact k' a o (fun w => by rw [w, nd] at ea; cases ea) (fun w => by rw [w, nc] at ea; cases ea) (k2 o e)
    · rintro σ H2 ⟨D2, k2, v1, v3, v4, v5, v6, v7, v8, v9, v10, v11, v12, v13, v14, v15, v16, v17, v18, rfl⟩
      exact ⟨k2, _, _, _, _, _, _, _, _, _, _, _, _, _, _, _, _, _, _, rfl⟩
  · rintro σ H9 ⟨k9, v1, v2, v3, v4, v5, v6, v7, v8, v9, v10, v11, v12, v13, v14, v15, v16, v17, v18, rfl⟩
    exact q H9
end
end L2.Und
end

section
set_option Elab.async false
set_option linter.all false
set_option maxRecDepth 100000
set_option maxHeartbeats 8000000
namespace L2.Und
open PySem PySem.Spec PyProof.Rows _root_.Und
open PySem.W (findIn keepIn typeIn subIn mroIn hasDictIn isClsIn specialIn takesIn nsIn codeIn)
/-! ### an error class over KeyError; the empty tuple that stands as a default -/
section
variable {K : PySem.W.Frag} {C N e0 : Addr} {nm q : Str} {bs : List Value} {sn : List Str} {sub : List Value} {ab : Bool} {col : Option Bool} {dd : Option Addr} {m0 m1 m2 m3 m5 : Option Value}
theorem mkKe (T : Txt K C) (l : K.lookup C = some (excClassObj nm q C N bs keTail true sn sub ab col dd m0 m1 m2 m3 m5 "LookupError.__new__")) : ErrC K C where
  cls := ⟨_, _, _, _, _, _, _, _, _, _, _, _, _, _, _, _, _, _, _, PySem.F.excBase_LookupError, aboveK, opens_KE, l⟩
  keep := T.keep
  sa := T.sa
  ga := T.ga
  gg := T.gg
  exc := T.exc
  dct := T.dct
  kls := T.kls
  obj := T.obj
theorem empTup {od : Option Addr} {n : Nat} {sl : Array (Option Value)} (l : K.lookup e0 = some ⟨.type "tuple", od, .seq #[] n, sl⟩) (H : Hp) : SqT K H e0 [] :=
  .inr ⟨_, #[], n, l, rfl, rfl, by decide, .nil⟩
end
end L2.Und
end

section
set_option Elab.async false
set_option linter.all false
set_option maxRecDepth 100000
set_option maxHeartbeats 4000000
namespace L2.Und
open PySem PySem.Spec PyProof.Rows _root_.Und
open L2.KS SX
open PySem.W (findIn keepIn typeIn subIn mroIn hasDictIn isClsIn specialIn takesIn nsIn codeIn)
/-! ### the end: what the head has written gives the law -/
abbrev sTWIni : Stmt := clsPart (topS 3) 0
abbrev sTUIni : Stmt := clsPart (topS 9) 0
abbrev sTMIni : Stmt := clsPart (topS 7) 0
section
variable {K : PySem.W.Frag} {fI T e0 : Addr} {oc tc kV doc pm cdv ct : Value} {od an td : Option Addr} {osl tsl : Array (Option Value)} {n : Nat}
abbrev fdTab (T : Addr) (kV doc pm : Value) (an : Option Addr) (cdv ct : Value) : FuncData := PySem.W.fnOf "__init__" "Table.__init__" (defArgs sTabIni) (defBody sTabIni) (defScope sTabIni) (.ref T) kV doc pm an cdv ct
theorem mkFT (l : K.lookup fI = some ⟨oc, od, .func (fdTab T kV doc pm an cdv ct), osl⟩) (lT : K.lookup T = some ⟨tc, td, .seq #[.ref e0] n, tsl⟩) (cc : codeIn K cdv "Table.__init__" = true) (k : keepIn K (.ref fI) = true) :
    FunD K "__init__" "Table.__init__" (defArgs sTabIni) (defBody sTabIni) (defScope sTabIni) [.ref e0] [] fI (fdTab T kV doc pm an cdv ct) :=
  ⟨⟨oc, od, _, _, _, _, _, _, _, osl, rfl, l, cc, .inr ⟨by simp, T, _, [.ref e0], n, rfl, lT, rfl, .cons rfl .nil⟩, .inl rfl⟩, k⟩
theorem bindFI {fd : FuncData} (F : FunD K "__init__" "Table.__init__" (defArgs sTabIni) (defBody sTabIni) (defScope sTabIni) [.ref e0] [] fI fd) : Binds K fd ["self", "kinds", "pairs"] [] := by
  obtain ⟨ds, r, b⟩ := F.binds1 (ps := ["self", "kinds", "pairs"]) 3 1 (by simp) rfl fun T kV doc pm an cdv ct us its h1 h2 => match us, its, h1, h2 with
    | [_, _, _], [_], _, _ => ⟨_, rfl, rfl⟩
  cases r
  exact b
theorem bindFI1 {fd : FuncData} (F : FunD K "__init__" "Table.__init__" (defArgs sTabIni) (defBody sTabIni) (defScope sTabIni) [.ref e0] [] fI fd) : Binds K fd ["self", "kinds", "pairs"] [.ref e0] := by
  obtain ⟨ds, r, b⟩ := F.binds1 (ps := ["self", "kinds", "pairs"]) 2 0 (by simp) rfl fun T kV doc pm an cdv ct us its h1 h2 => match us, its, h1, h2 with
    | [_, _], [_], _, _ => ⟨_, rfl, rfl⟩
  match ds, r with
  | [u], .cons z .nil =>
    obtain rfl : u = Value.ref e0 := z
    exact b
abbrev fdRow (T : Addr) (kV doc pm : Value) (an : Option Addr) (cdv ct : Value) : FuncData := PySem.W.fnOf "__init__" "Row.__init__" (defArgs sRowIni) (defBody sRowIni) (defScope sRowIni) (.ref T) kV doc pm an cdv ct
theorem mkFR (l : K.lookup fI = some ⟨oc, od, .func (fdRow T kV doc pm an cdv ct), osl⟩) (lT : K.lookup T = some ⟨tc, td, .seq #[.ref e0] n, tsl⟩) (cc : codeIn K cdv "Row.__init__" = true) (k : keepIn K (.ref fI) = true) :
    FunD K "__init__" "Row.__init__" (defArgs sRowIni) (defBody sRowIni) (defScope sRowIni) [.ref e0] [] fI (fdRow T kV doc pm an cdv ct) :=
  ⟨⟨oc, od, _, _, _, _, _, _, _, osl, rfl, l, cc, .inr ⟨by simp, T, _, [.ref e0], n, rfl, lT, rfl, .cons rfl .nil⟩, .inl rfl⟩, k⟩
theorem bindFJ {fd : FuncData} (F : FunD K "__init__" "Row.__init__" (defArgs sRowIni) (defBody sRowIni) (defScope sRowIni) [.ref e0] [] fI fd) : Binds K fd ["self", "table", "syllables"] [] := by
  obtain ⟨ds, r, b⟩ := F.binds1 (ps := ["self", "table", "syllables"]) 3 1 (by simp) rfl fun T kV doc pm an cdv ct us its h1 h2 => match us, its, h1, h2 with
    | [_, _, _], [_], _, _ => ⟨_, rfl, rfl⟩
  cases r
  exact b
theorem bindFJ1 {fd : FuncData} (F : FunD K "__init__" "Row.__init__" (defArgs sRowIni) (defBody sRowIni) (defScope sRowIni) [.ref e0] [] fI fd) : Binds K fd ["self", "table", "syllables"] [.ref e0] := by
  obtain ⟨ds, r, b⟩ := F.binds1 (ps := ["self", "table", "syllables"]) 2 0 (by simp) rfl fun T kV doc pm an cdv ct us its h1 h2 => match us, its, h1, h2 with
    | [_, _], [_], _, _ => ⟨_, rfl, rfl⟩
  match ds, r with
  | [u], .cons z .nil =>
    obtain rfl : u = Value.ref e0 := z
    exact b
abbrev fdVer (T : Addr) (kV doc pm : Value) (an : Option Addr) (cdv ct : Value) : FuncData := PySem.W.fnOf "__init__" "Version.__init__" (defArgs sVerIni) (defBody sVerIni) (defScope sVerIni) (.ref T) kV doc pm an cdv ct
theorem mkFV (l : K.lookup fI = some ⟨oc, od, .func (fdVer T kV doc pm an cdv ct), osl⟩) (lT : K.lookup T = some ⟨tc, td, .seq #[.ref e0] n, tsl⟩) (cc : codeIn K cdv "Version.__init__" = true) (k : keepIn K (.ref fI) = true) :
    FunD K "__init__" "Version.__init__" (defArgs sVerIni) (defBody sVerIni) (defScope sVerIni) [.ref e0] [] fI (fdVer T kV doc pm an cdv ct) :=
  ⟨⟨oc, od, _, _, _, _, _, _, _, osl, rfl, l, cc, .inr ⟨by simp, T, _, [.ref e0], n, rfl, lT, rfl, .cons rfl .nil⟩, .inl rfl⟩, k⟩
theorem bindFV {fd : FuncData} (F : FunD K "__init__" "Version.__init__" (defArgs sVerIni) (defBody sVerIni) (defScope sVerIni) [.ref e0] [] fI fd) : Binds K fd ["self", "table", "syllables"] [] := by
  obtain ⟨ds, r, b⟩ := F.binds1 (ps := ["self", "table", "syllables"]) 3 1 (by simp) rfl fun T kV doc pm an cdv ct us its h1 h2 => match us, its, h1, h2 with
    | [_, _, _], [_], _, _ => ⟨_, rfl, rfl⟩
  cases r
  exact b
theorem bindFV1 {fd : FuncData} (F : FunD K "__init__" "Version.__init__" (defArgs sVerIni) (defBody sVerIni) (defScope sVerIni) [.ref e0] [] fI fd) : Binds K fd ["self", "table", "syllables"] [.ref e0] := by
  obtain ⟨ds, r, b⟩ := F.binds1 (ps := ["self", "table", "syllables"]) 2 0 (by simp) rfl fun T kV doc pm an cdv ct us its h1 h2 => match us, its, h1, h2 with
    | [_, _], [_], _, _ => ⟨_, rfl, rfl⟩
  match ds, r with
  | [u], .cons z .nil =>
    obtain rfl : u = Value.ref e0 := z
    exact b
end
theorem finMk {l : PySem.W.OpenLaw} {w : World} {K : PySem.W.Frag} {h : Heap} {mg : Str → Option Value} {fa CE fTW CU fTU CM fTM CO CT eT fTini C eR fRini CV eV fVini f_isn f_asc f_isp f_chk f_chp f_req f_tn f_tq f_rst f_st f_piles f_layin f_layof f_last f_fin_ f_fof f_ra f_exch f_deal f_draw f_mixed f_names f_pairs f_count f_row f_isfree f_melt f_short f_lays f_form f_und f_rep f_tbl f_rgt f_law : Addr}
    {fdTW fdTU fdTM fdTini fdRini fdVini fd_isn fd_asc fd_isp fd_chk fd_chp fd_req fd_tn fd_tq fd_rst fd_st fd_piles fd_layin fd_layof fd_last fd_fin_ fd_fof fd_ra fd_exch fd_deal fd_draw fd_mixed fd_names fd_pairs fd_count fd_row fd_isfree fd_melt fd_short fd_lays fd_form fd_und fd_rep fd_tbl fd_rgt fd_law : FuncData} {tok_MOST_LETTERS tok_MOST_KINDS tok_LIMIT : Tok}
    (KX : K.In h) (G : h.Ns mainGlobals mg) (hfa : mg "law" = some (.ref fa))
    (gTW : nsIn K mainGlobals "InvalidTable" = some (some (.ref CE)))
    (eTW : ErrC K CE)
    (tTW : Txt K CE)
    (noTWword : findIn K (.ref CE) "word" = some none)
    (noTWat : findIn K (.ref CE) "at" = some none)
    (iTW : findIn K (.ref CE) "__init__" = some (some (.ref fTW)))
    (yTW : typeIn K (.ref fTW) = some (.type "function"))
    (FTW : Fun K "__init__" "InvalidTable.__init__" sTWIni fTW fdTW)
    (gTU : nsIn K mainGlobals "UnknownKind" = some (some (.ref CU)))
    (eTU : ErrC K CU)
    (tTU : Txt K CU)
    (noTUname : findIn K (.ref CU) "name" = some none)
    (iTU : findIn K (.ref CU) "__init__" = some (some (.ref fTU)))
    (yTU : typeIn K (.ref fTU) = some (.type "function"))
    (FTU : Fun K "__init__" "UnknownKind.__init__" sTUIni fTU fdTU)
    (gTM : nsIn K mainGlobals "TooMany" = some (some (.ref CM)))
    (eTM : ErrC K CM)
    (tTM : Txt K CM)
    (noTMcount : findIn K (.ref CM) "count" = some none)
    (iTM : findIn K (.ref CM) "__init__" = some (some (.ref fTM)))
    (yTM : typeIn K (.ref fTM) = some (.type "function"))
    (FTM : Fun K "__init__" "TooMany.__init__" sTMIni fTM fdTM)
    (gTO : nsIn K mainGlobals "OtherTable" = some (some (.ref CO)))
    (tTO : Txt K CO)
    (xTO : PySem.W.excIn K CO [.type "ValueError", .type "Exception", .type "BaseException", .type "object"] "ValueError.__new__" = true)
    (gT : nsIn K mainGlobals "Table" = some (some (.ref CT)))
    (i : ClsI K CT)
    (n1 : NoAttr K CT "kinds")
    (n2 : NoAttr K CT "pairs")
    (n3 : NoAttr K CT "_free")
    (n4 : NoAttr K CT "_stops")
    (ne : NoNe K CT)
    (MI : Mk K CT fTini)
    (FTini : FunD K "__init__" "Table.__init__" (defArgs sTabIni) (defBody sTabIni) (defScope sTabIni) [.ref eT] [] fTini fdTini)
    (empT : ∀ H : Hp, SqT K H eT [])
    (gR : nsIn K mainGlobals "Row" = some (some (.ref C)))
    (j : ClsI K C)
    (m1 : NoAttr K C "table")
    (m2 : NoAttr K C "syllables")
    (neR : NoNe K C)
    (MJ : Mk K C fRini)
    (FRini : FunD K "__init__" "Row.__init__" (defArgs sRowIni) (defBody sRowIni) (defScope sRowIni) [.ref eR] [] fRini fdRini)
    (empR : ∀ H : Hp, SqT K H eR [])
    (gV : nsIn K mainGlobals "Version" = some (some (.ref CV)))
    (v : ClsI K CV)
    (nvtable : NoAttr K CV "table")
    (nvsyllables : NoAttr K CV "syllables")
    (nvlayers : NoAttr K CV "layers")
    (nvkinds : NoAttr K CV "kinds")
    (nvrow : NoAttr K CV "row")
    (nvlast : NoAttr K CV "last")
    (MV : Mk K CV fVini)
    (FVini : FunD K "__init__" "Version.__init__" (defArgs sVerIni) (defBody sVerIni) (defScope sVerIni) [.ref eV] [] fVini fdVini)
    (sfR : PySem.W.selfFirst K C = true)
    (F_isn : TxtF K "is_name" sIsName f_isn fd_isn)
    (F_asc : TxtF K "ascending" sAsc f_asc fd_asc)
    (F_isp : TxtF K "is_pair" sIsPair f_isp fd_isp)
    (F_chk : TxtF K "check_kinds" sCheckK f_chk fd_chk)
    (F_chp : TxtF K "check_pairs" sCheckP f_chp fd_chp)
    (F_req : TxtF K "require_kinds" sReq f_req fd_req)
    (M_tn : Meth K CT "_not_free_with" f_tn)
    (F_tn : Fun K "_not_free_with" "Table._not_free_with" sTabNF f_tn fd_tn)
    (M_tq : Meth K CT "__eq__" f_tq)
    (F_tq : Fun K "__eq__" "Table.__eq__" sTabEq f_tq fd_tq)
    (F_rst : TxtF K "require_same_table" sSameT f_rst fd_rst)
    (M_st : Meth K CT "stops" f_st)
    (F_st : Fun K "stops" "Table.stops" sTabStops f_st fd_st)
    (F_piles : TxtF K "piles_of" sPiles f_piles fd_piles)
    (F_layin : TxtF K "layers_in" sLayIn f_layin fd_layin)
    (F_layof : TxtF K "layers_of" sLayOf f_layof fd_layof)
    (F_last : TxtF K "last_of" sLastOf f_last fd_last)
    (F_fin_ : TxtF K "form_in" sFormIn f_fin_ fd_fin_)
    (F_fof : TxtF K "form_of" sFormOf f_fof fd_fof)
    (M_ra : Meth K C "__add__" f_ra)
    (F_ra : Fun K "__add__" "Row.__add__" sRowAdd f_ra fd_ra)
    (F_exch : TxtF K "exchangeable" sExch f_exch fd_exch)
    (F_deal : TxtF K "_law_deal" sDeal f_deal fd_deal)
    (F_draw : TxtF K "_law_draw" sDraw f_draw fd_draw)
    (F_mixed : TxtF K "_law_mixed" sMixed f_mixed fd_mixed)
    (F_names : TxtF K "_law_names" sNames f_names fd_names)
    (F_pairs : TxtF K "_law_pairs" sPairs f_pairs fd_pairs)
    (F_count : TxtF K "_law_count" sCount f_count fd_count)
    (F_row : TxtF K "_law_row" sRow f_row fd_row)
    (F_isfree : TxtF K "_law_is_free" sLFree f_isfree fd_isfree)
    (F_melt : TxtF K "_law_melting" sMelt f_melt fd_melt)
    (F_short : TxtF K "_law_short" sShort f_short fd_short)
    (F_lays : TxtF K "_law_layers" sLays f_lays fd_lays)
    (F_form : TxtF K "_law_form" sForm f_form fd_form)
    (F_und : TxtF K "_law_undone" sUnd f_und fd_und)
    (F_rep : TxtF K "_law_repeated" sRep f_rep fd_rep)
    (F_tbl : TxtF K "_law_table" sTbl f_tbl fd_tbl)
    (F_rgt : TxtF K "_law_right" sRgt f_rgt fd_rgt)
    (F_law : TxtF K "law" sLaw f_law fd_law)
    (z_len : nsIn K mainGlobals "len" = some none)
    (z_all : nsIn K mainGlobals "all" = some none)
    (z_tuple : nsIn K mainGlobals "tuple" = some none)
    (z_sorted : nsIn K mainGlobals "sorted" = some none)
    (z_enumerate : nsIn K mainGlobals "enumerate" = some none)
    (z_isinstance : nsIn K mainGlobals "isinstance" = some none)
    (z_max : nsIn K mainGlobals "max" = some none)
    (z_range : nsIn K mainGlobals "range" = some none)
    (z_list : nsIn K mainGlobals "list" = some none)
    (z_int : nsIn K mainGlobals "int" = some none)
    (z_zip : nsIn K mainGlobals "zip" = some none)
    (z_bool : nsIn K mainGlobals "bool" = some none)
    (c_MOST_LETTERS : nsIn K mainGlobals "MOST_LETTERS" = some (some (.int 6 tok_MOST_LETTERS)))
    (c_MOST_KINDS : nsIn K mainGlobals "MOST_KINDS" = some (some (.int 12 tok_MOST_KINDS)))
    (c_LIMIT : nsIn K mainGlobals "LIMIT" = some (some (.int 1000 tok_LIMIT)))
    (b9 : ∀ (s : Shared) (v : Value), BindsTo s fd_law ⟨[v], []⟩ [("_law_script", v)]) :
    ∃ fd : FuncData, (∀ (s : Shared) (v : Value), BindsTo s fd ⟨[v], []⟩ [("_law_script", v)]) ∧ ∀ base : Heap, K.In base → base.Ns mainGlobals mg → FnG l.prog w K mg base 9 fa fd ["_law_script"] (spLaw K) := by
  have e := hfa.symm.trans (PySem.W.mg_of KX G F_law.here)
  cases e
  refine ⟨fd_law, b9, fun base _ _ => ?_⟩
  have n : ∀ {x : Str}, nsIn K mainGlobals x = some none → mg x = none := fun z => PySem.W.mg_none_of KX G z
  have m : ∀ {x : Str} {v : Value}, nsIn K mainGlobals x = some (some v) → mg x = some v := fun z => PySem.W.mg_of KX G z
  have dTW := FTW.binds (ps := ["self", "word", "at"]) fun _ _ _ _ _ _ us hl => match us, hl with | [_, _, _], _ => rfl
  have OTW : FnOk l.prog w K mg base CX0 1 fTW fdTW ["self", "word", "at"] (spIni CE 2 (fld2 "word" "at")) := okIni2 FTW ⟨rfl, rfl, rfl, by decide +kernel, rfl, by decide +kernel, by decide +kernel⟩ rfl eTW noTWword noTWat (by decide) (by decide) (by decide) (by decide)
  have TW : Two2 l.prog w K mg base "InvalidTable" "word" "at" CE := ⟨m gTW, eTW, tTW.ty, fTW, fdTW, iTW, yTW, OTW, dTW⟩
  have dTU := FTU.binds (ps := ["self", "name"]) fun _ _ _ _ _ _ us hl => match us, hl with | [_, _], _ => rfl
  have OTU : FnOk l.prog w K mg base CX0 1 fTU fdTU ["self", "name"] (spIni CU 1 (fld1 "name")) := okIni1 FTU ⟨rfl, rfl, rfl, by decide +kernel, rfl, by decide +kernel, by decide +kernel⟩ rfl eTU noTUname (by decide) (by decide)
  have TU : Err1 l.prog w K mg base "UnknownKind" "name" CU := ⟨m gTU, eTU, tTU.ty, fTU, fdTU, iTU, yTU, OTU, dTU⟩
  have dTM := FTM.binds (ps := ["self", "count"]) fun _ _ _ _ _ _ us hl => match us, hl with | [_, _], _ => rfl
  have OTM : FnOk l.prog w K mg base CX0 1 fTM fdTM ["self", "count"] (spIni CM 1 (fld1 "count")) := okIni1 FTM ⟨rfl, rfl, rfl, by decide +kernel, rfl, by decide +kernel, by decide +kernel⟩ rfl eTM noTMcount (by decide) (by decide)
  have TM : Err1 l.prog w K mg base "TooMany" "count" CM := ⟨m gTM, eTM, tTM.ty, fTM, fdTM, iTM, yTM, OTM, dTM⟩
  have TO : Err0 l.prog w K mg "OtherTable" CO := ⟨m gTO, tTO.keep, tTO.exc, tTO.ty, _, _, _, _, PySem.F.excBase_ValueError, xTO⟩
  have b_isn := F_isn.fn.binds (ps := ["text"]) fun _ _ _ _ _ _ us hl => match us, hl with | [_], _ => rfl
  have O_isn : FnOk l.prog w K mg base CX0 1 f_isn fd_isn ["text"] spIsName := okIsName F_isn.fn (n z_len) (n z_all) (m c_MOST_LETTERS)
  have b_asc := F_asc.fn.binds (ps := ["pair"]) fun _ _ _ _ _ _ us hl => match us, hl with | [_], _ => rfl
  have O_asc : FnOk l.prog w K mg base CX0 1 f_asc fd_asc ["pair"] (spAsc K) := okAsc F_asc.fn (n z_tuple) (n z_sorted)
  have b_isp := F_isp.fn.binds (ps := ["pair", "kinds"]) fun _ _ _ _ _ _ us hl => match us, hl with | [_, _], _ => rfl
  have O_isp : FnOk l.prog w K mg base CX0 1 f_isp fd_isp ["pair", "kinds"] (spIsPair K) := okIsPair F_isp.fn (n z_len)
  have b_chk := F_chk.fn.binds (ps := ["kinds"]) fun _ _ _ _ _ _ us hl => match us, hl with | [_], _ => rfl
  have O_chk : FnOk l.prog w K mg base (L2.CX l.prog w) 3 f_chk fd_chk ["kinds"] (spCheckK K CE) := okCheckK F_chk.fn TW O_isn (m F_isn.here) F_isn.fn.kp b_isn (n z_len) (n z_enumerate) (m c_MOST_KINDS)
  have b_chp := F_chp.fn.binds (ps := ["kinds", "pairs"]) fun _ _ _ _ _ _ us hl => match us, hl with | [_, _], _ => rfl
  have O_chp : FnOk l.prog w K mg base (L2.CX l.prog w) 3 f_chp fd_chp ["kinds", "pairs"] (spCheckP K CE) := okCheckP F_chp.fn TW O_isp (m F_isp.here) F_isp.fn.kp b_isp (n z_enumerate)
  have b_req := F_req.fn.binds (ps := ["table", "names"]) fun _ _ _ _ _ _ us hl => match us, hl with | [_, _], _ => rfl
  have O_req : FnOk l.prog w K mg base (L2.CX l.prog w) 3 f_req fd_req ["table", "names"] (spReq K CT CU) := okReq F_req.fn TU i.c n1
  have b_tn := F_tn.binds (ps := ["self", "one"]) fun _ _ _ _ _ _ us hl => match us, hl with | [_, _], _ => rfl
  have O_tn : FnOk l.prog w K mg base CX0 2 f_tn fd_tn ["self", "one"] (spNF K CT) := okNF F_tn i.c n1 n3 O_asc (m F_asc.here) F_asc.fn.kp b_asc (n z_tuple)
  have b_tq := F_tq.binds (ps := ["self", "other"]) fun _ _ _ _ _ _ us hl => match us, hl with | [_, _], _ => rfl
  have O_tq : FnOk l.prog w K mg base CX0 1 f_tq fd_tq ["self", "other"] (spEqT K CT) := okEqT F_tq i n1 n2 (n z_isinstance) (m gT)
  have b_rst := F_rst.fn.binds (ps := ["one", "other"]) fun _ _ _ _ _ _ us hl => match us, hl with | [_, _], _ => rfl
  have O_rst : FnOk l.prog w K mg base (L2.CX l.prog w) 3 f_rst fd_rst ["one", "other"] (spSameT K CT CO) := okSameT F_rst.fn ne M_tq O_tq b_tq TO
  have bI := bindFI FTini
  have bI1 := bindFI1 FTini
  have O_tini : FnOk l.prog w K mg base (L2.CX l.prog w) 4 fTini fdTini ["self", "kinds", "pairs"] (spTabIni K CT CE) := okTabIni FTini i.c n1 n2 n3 n4 O_chk (m F_chk.here) F_chk.fn.kp b_chk O_chp (m F_chp.here) F_chp.fn.kp b_chp O_asc (m F_asc.here) F_asc.fn.kp b_asc M_tn O_tn b_tn (n z_tuple) (n z_sorted)
  have bJ := bindFJ FRini
  have bJ1 := bindFJ1 FRini
  have O_rini : FnOk l.prog w K mg base (L2.CX l.prog w) 4 fRini fdRini ["self", "table", "syllables"] (spRowIni K C CT CU) := okRowIni FRini j.c m1 m2 O_req (m F_req.here) F_req.fn.kp b_req (n z_tuple)
  have b_st := F_st.binds (ps := ["self", "kind"]) fun _ _ _ _ _ _ us hl => match us, hl with | [_, _], _ => rfl
  have O_st : FnOk l.prog w K mg base CX0 1 f_st fd_st ["self", "kind"] (spStops K CT) := okTabStops F_st i.c n4
  have b_piles := F_piles.fn.binds (ps := ["row"]) fun _ _ _ _ _ _ us hl => match us, hl with | [_], _ => rfl
  have O_piles : FnOk l.prog w K mg base CX0 2 f_piles fd_piles ["row"] (spPiles K C CT) := okPiles F_piles.fn j.c m1 m2 i.c n1 M_st O_st b_st (n z_max)
  have b_layin := F_layin.fn.binds (ps := ["piles"]) fun _ _ _ _ _ _ us hl => match us, hl with | [_], _ => rfl
  have O_layin : FnOk l.prog w K mg base CX0 1 f_layin fd_layin ["piles"] spLayIn := okLayIn F_layin.fn (n z_range) (n z_max) (n z_sorted) (n z_tuple)
  have b_layof := F_layof.fn.binds (ps := ["row"]) fun _ _ _ _ _ _ us hl => match us, hl with | [_], _ => rfl
  have O_layof : FnOk l.prog w K mg base CX0 3 f_layof fd_layof ["row"] (spLayOf K C CT) := okLayOf F_layof.fn O_piles (m F_piles.here) F_piles.fn.kp b_piles O_layin (m F_layin.here) F_layin.fn.kp b_layin
  have b_last := F_last.fn.binds (ps := ["table", "syllables"]) fun _ _ _ _ _ _ us hl => match us, hl with | [_, _], _ => rfl
  have O_last : FnOk l.prog w K mg base CX0 2 f_last fd_last ["table", "syllables"] (spLastOf K CT) := okLastOf F_last.fn i.c M_st O_st b_st (n z_sorted) (n z_tuple)
  have bV := bindFV FVini
  have O_vini : FnOk l.prog w K mg base (L2.CX l.prog w) 6 fVini fdVini ["self", "table", "syllables"] (spVerIni K CV C CT CM) := okVerIni FVini v.c nvtable nvsyllables nvlayers nvkinds nvrow nvlast MJ O_rini (m gR) bJ O_layof (m F_layof.here) F_layof.fn.kp b_layof O_last (m F_last.here) F_last.fn.kp b_last TM (m c_LIMIT) (n z_tuple) (n z_sorted) (n z_len)
  have b_fin_ := F_fin_.fn.binds (ps := ["piles"]) fun _ _ _ _ _ _ us hl => match us, hl with | [_], _ => rfl
  have O_fin_ : FnOk l.prog w K mg base CX0 2 f_fin_ fd_fin_ ["piles"] (spFormIn K) := okFormIn F_fin_.fn O_layin (m F_layin.here) F_layin.fn.kp b_layin (n z_tuple)
  have b_fof := F_fof.fn.binds (ps := ["row"]) fun _ _ _ _ _ _ us hl => match us, hl with | [_], _ => rfl
  have O_fof : FnOk l.prog w K mg base CX0 3 f_fof fd_fof ["row"] (spFormOf K C CT) := okFormOf F_fof.fn O_piles (m F_piles.here) F_piles.fn.kp b_piles O_fin_ (m F_fin_.here) F_fin_.fn.kp b_fin_
  have b_ra := F_ra.binds (ps := ["self", "other"]) fun _ _ _ _ _ _ us hl => match us, hl with | [_, _], _ => rfl
  have O_ra : FnOk l.prog w K mg base (L2.CX l.prog w) 6 f_ra fd_ra ["self", "other"] (spRAdd K C CT CO) := okRAdd F_ra j.c m1 m2 MJ O_rini (m gR) bJ O_rst (m F_rst.here) F_rst.fn.kp b_rst
  have b_exch := F_exch.fn.binds (ps := ["one", "other"]) fun _ _ _ _ _ _ us hl => match us, hl with | [_, _], _ => rfl
  have O_exch : FnOk l.prog w K mg base (L2.CX l.prog w) 7 f_exch fd_exch ["one", "other"] (spExch K CV C CT) := okExch F_exch.fn v.c nvrow sfR M_ra O_ra b_ra O_fof (m F_fof.here) F_fof.fn.kp b_fof
  have b_deal := F_deal.fn.binds (ps := ["_law_script", "_law_base"]) fun _ _ _ _ _ _ us hl => match us, hl with | [_, _], _ => rfl
  have O_deal : FnOk l.prog w K mg base CX0 1 f_deal fd_deal ["_law_script", "_law_base"] (spDeal K) := okDeal F_deal.fn (n z_max)
  have b_draw := F_draw.fn.binds (ps := ["_law_deal_here", "_law_many"]) fun _ _ _ _ _ _ us hl => match us, hl with | [_, _], _ => rfl
  have O_draw : FnOk l.prog w K mg base CX0 1 f_draw fd_draw ["_law_deal_here", "_law_many"] spDraw := okDraw F_draw.fn (n z_len)
  have b_mixed := F_mixed.fn.binds (ps := ["_law_deal_here", "_law_items"]) fun _ _ _ _ _ _ us hl => match us, hl with | [_, _], _ => rfl
  have O_mixed : FnOk l.prog w K mg base CX0 2 f_mixed fd_mixed ["_law_deal_here", "_law_items"] (spMixed K) := okMixed F_mixed.fn O_draw (m F_draw.here) F_draw.fn.kp b_draw (n z_len) (n z_list)
  have b_names := F_names.fn.binds (ps := ["_law_deal_here", "_law_many"]) fun _ _ _ _ _ _ us hl => match us, hl with | [_, _], _ => rfl
  have O_names : FnOk l.prog w K mg base CX0 3 f_names fd_names ["_law_deal_here", "_law_many"] spNames := okNames F_names.fn O_draw (m F_draw.here) F_draw.fn.kp b_draw O_mixed (m F_mixed.here) F_mixed.fn.kp b_mixed (n z_range)
  have b_pairs := F_pairs.fn.binds (ps := ["_law_deal_here", "_law_kinds"]) fun _ _ _ _ _ _ us hl => match us, hl with | [_, _], _ => rfl
  have O_pairs : FnOk l.prog w K mg base CX0 3 f_pairs fd_pairs ["_law_deal_here", "_law_kinds"] (spPairs K) := okPairs F_pairs.fn O_draw (m F_draw.here) F_draw.fn.kp b_draw O_mixed (m F_mixed.here) F_mixed.fn.kp b_mixed (n z_enumerate) (n z_int)
  have b_count := F_count.fn.binds (ps := ["_law_deal_here"]) fun _ _ _ _ _ _ us hl => match us, hl with | [_], _ => rfl
  have O_count : FnOk l.prog w K mg base CX0 2 f_count fd_count ["_law_deal_here"] spCount := okCount F_count.fn O_draw (m F_draw.here) F_draw.fn.kp b_draw
  have b_row := F_row.fn.binds (ps := ["_law_deal_here", "_law_kinds", "_law_many"]) fun _ _ _ _ _ _ us hl => match us, hl with | [_, _, _], _ => rfl
  have O_row : FnOk l.prog w K mg base CX0 3 f_row fd_row ["_law_deal_here", "_law_kinds", "_law_many"] (spRow K) := okRow F_row.fn O_draw (m F_draw.here) F_draw.fn.kp b_draw O_count (m F_count.here) F_count.fn.kp b_count (n z_range) (n z_len)
  have b_isfree := F_isfree.fn.binds (ps := ["_law_pairs_here", "_law_one", "_law_other"]) fun _ _ _ _ _ _ us hl => match us, hl with | [_, _, _], _ => rfl
  have O_isfree : FnOk l.prog w K mg base CX0 1 f_isfree fd_isfree ["_law_pairs_here", "_law_one", "_law_other"] (spLFree K) := okLFree F_isfree.fn
  have b_melt := F_melt.fn.binds (ps := ["_law_pairs_here", "_law_row_here"]) fun _ _ _ _ _ _ us hl => match us, hl with | [_, _], _ => rfl
  have O_melt : FnOk l.prog w K mg base CX0 2 f_melt fd_melt ["_law_pairs_here", "_law_row_here"] (spMelt K) := okMelt F_melt.fn O_isfree (m F_isfree.here) F_isfree.fn.kp b_isfree (n z_enumerate) (n z_range) (n z_len)
  have b_short := F_short.fn.binds (ps := ["_law_pairs_here", "_law_row_here"]) fun _ _ _ _ _ _ us hl => match us, hl with | [_, _], _ => rfl
  have O_short : FnOk l.prog w K mg base CX0 3 f_short fd_short ["_law_pairs_here", "_law_row_here"] (spShort K) := okShort F_short.fn O_melt (m F_melt.here) F_melt.fn.kp b_melt (n z_enumerate) (n z_list)
  have b_lays := F_lays.fn.binds (ps := ["_law_pairs_here", "_law_row_here"]) fun _ _ _ _ _ _ us hl => match us, hl with | [_, _], _ => rfl
  have O_lays : FnOk l.prog w K mg base CX0 2 f_lays fd_lays ["_law_pairs_here", "_law_row_here"] (spLays K) := okLays F_lays.fn O_isfree (m F_isfree.here) F_isfree.fn.kp b_isfree (n z_enumerate) (n z_range) (n z_max)
  have b_form := F_form.fn.binds (ps := ["_law_pairs_here", "_law_row_here"]) fun _ _ _ _ _ _ us hl => match us, hl with | [_, _], _ => rfl
  have O_form : FnOk l.prog w K mg base CX0 4 f_form fd_form ["_law_pairs_here", "_law_row_here"] (spForm K) := okForm F_form.fn O_short (m F_short.here) F_short.fn.kp b_short O_lays (m F_lays.here) F_lays.fn.kp b_lays (n z_zip) (n z_tuple) (n z_sorted)
  have b_und := F_und.fn.binds (ps := ["_law_row_here"]) fun _ _ _ _ _ _ us hl => match us, hl with | [_], _ => rfl
  have O_und : FnOk l.prog w K mg base CX0 1 f_und fd_und ["_law_row_here"] (spUnd K) := okUnd F_und.fn
  have b_rep := F_rep.fn.binds (ps := ["_law_row_here", "_law_often"]) fun _ _ _ _ _ _ us hl => match us, hl with | [_, _], _ => rfl
  have O_rep : FnOk l.prog w K mg base CX0 2 f_rep fd_rep ["_law_row_here", "_law_often"] (spRep K) := okRep F_rep.fn O_und (m F_und.here) F_und.fn.kp b_und
  have b_tbl := F_tbl.fn.binds (ps := ["_law_deal_here", "_law_most"]) fun _ _ _ _ _ _ us hl => match us, hl with | [_, _], _ => rfl
  have O_tbl : FnOk l.prog w K mg base CX0 6 f_tbl fd_tbl ["_law_deal_here", "_law_most"] (spTbl K CT) := okTbl F_tbl.fn O_draw (m F_draw.here) F_draw.fn.kp b_draw O_names (m F_names.here) F_names.fn.kp b_names O_pairs (m F_pairs.here) F_pairs.fn.kp b_pairs MI O_tini (m gT) bI
  have b_rgt := F_rgt.fn.binds (ps := ["_law_table_here", "_law_pairs_here", "_law_one", "_law_other"]) fun _ _ _ _ _ _ us hl => match us, hl with | [_, _, _, _], _ => rfl
  have O_rgt : FnOk l.prog w K mg base CX0 8 f_rgt fd_rgt ["_law_table_here", "_law_pairs_here", "_law_one", "_law_other"] (spRgt K CT) := okRgt F_rgt.fn O_form (m F_form.here) F_form.fn.kp b_form O_exch (m F_exch.here) F_exch.fn.kp b_exch MV O_vini (m gV) bV (n z_isinstance) (n z_bool)
  exact okLaw F_law.fn ⟨⟨f_deal, fd_deal, m F_deal.here, F_deal.fn.kp, O_deal, b_deal⟩, ⟨f_draw, fd_draw, m F_draw.here, F_draw.fn.kp, O_draw, b_draw⟩, ⟨_, ⟨f_row, fd_row, m F_row.here, F_row.fn.kp, O_row, b_row⟩⟩, ⟨f_und, fd_und, m F_und.here, F_und.fn.kp, O_und, b_und⟩, ⟨f_isfree, fd_isfree, m F_isfree.here, F_isfree.fn.kp, O_isfree, b_isfree⟩, ⟨f_rep, fd_rep, m F_rep.here, F_rep.fn.kp, O_rep, b_rep⟩, ⟨f_tbl, fd_tbl, m F_tbl.here, F_tbl.fn.kp, O_tbl, b_tbl⟩, ⟨f_rgt, fd_rgt, m F_rgt.here, F_rgt.fn.kp, O_rgt, b_rgt⟩, (n z_range), (n z_len)⟩
theorem walkL {l : PySem.W.OpenLaw} {q : Program} {loose : List Str} {XP : (Str → Option Value) → Heap → Prop} {YP : World → Heap → Prop} {d : DefRec} {K : Params → PySem.W.Frag} (hn : l.most = some 63) (hdf : d.params.defaults = [])
    (hY : ∀ (w : World) (h : Heap), YP w h → (K w.params).In h)
    (F : ∀ (w : World) (mg : Str → Option Value) (fa : Addr) (h : Heap), (K w.params).In h → h.Ns mainGlobals mg → mg d.name = some (.ref fa) →
      ∃ fd : FuncData, (∀ (s : Shared) (u : Value), BindsTo s fd ⟨[u], []⟩ [("_law_script", u)]) ∧ ∀ base : Heap, (K w.params).In base → base.Ns mainGlobals mg → FnG l.prog w (K w.params) mg base 9 fa fd ["_law_script"] (spLaw (K w.params))) :
    PySem.W.WalkO q loose XP YP l.row.toRowW d [] (fun f vs => PySem.call f vs) :=
  walkG (n := 63) (k := 9) (x := "_law_script") (sp := fun w => spLaw (K w.params)) hn (by decide) hdf ⟨rfl, by decide, by decide⟩ hY F fun _ _ a ns hl _ hS => ⟨a, ns, rfl, hS, hl, fun _ => rfl⟩
end L2.Und
end

section
open PySem PySem.W PyProof.Rows
set_option Elab.async false
set_option maxRecDepth 100000 in
set_option maxHeartbeats 0 in
theorem PySem.Challenge.cw_undoamid_k59_exchangeable_versions_holds : PySem.Challenge.rw_undoamid_k59_exchangeable_versions.Holds := by
  refine UndTop.top ?_
  k_fill
  refine L2.Und.walkL (l := PySem.Challenge.rw_undoamid_k59_exchangeable_versions) rfl rfl (fun w h Y => PySem.W.kIn_of Y) ?F
  case F =>
    intro w mg fa h KX G hmg
    refine' L2.Und.finMk KX G hmg ?gTWx ?eTWx ?tTWx ?noTWwordx ?noTWatx ?iTWx ?yTWx ?FTWx ?gTUx ?eTUx ?tTUx ?noTUnamex ?iTUx ?yTUx ?FTUx ?gTMx ?eTMx ?tTMx ?noTMcountx ?iTMx ?yTMx ?FTMx ?gTOx ?tTOx ?xTOx ?gTx ?clsTx ?naT0x ?naT1x ?naT2x ?naT3x ?neTx ?mkTx (L2.Und.mkFT ?lT ?dT ?ccT ?kT) (L2.Und.empTup ?leT) ?gRx ?clsRx ?naR0x ?naR1x ?neRx ?mkRx (L2.Und.mkFR ?lR ?dR ?ccR ?kR) (L2.Und.empTup ?leR) ?gVx ?clsVx ?naVtablex ?naVsyllablesx ?naVlayersx ?naVkindsx ?naVrowx ?naVlastx ?mkVx (L2.Und.mkFV ?lV ?dV ?ccV ?kV) ?sfRx ?F_isnx ?F_ascx ?F_ispx ?F_chkx ?F_chpx ?F_reqx ?M_tnx ?F_tnx ?M_tqx ?F_tqx ?F_rstx ?M_stx ?F_stx ?F_pilesx ?F_layinx ?F_layofx ?F_lastx ?F_fin_x ?F_fofx ?M_rax ?F_rax ?F_exchx ?F_dealx ?F_drawx ?F_mixedx ?F_namesx ?F_pairsx ?F_countx ?F_rowx ?F_isfreex ?F_meltx ?F_shortx ?F_laysx ?F_formx ?F_undx ?F_repx ?F_tblx ?F_rgtx ?F_lawx ?z_lenx ?z_allx ?z_tuplex ?z_sortedx ?z_enumeratex ?z_isinstancex ?z_maxx ?z_rangex ?z_listx ?z_intx ?z_zipx ?z_boolx ?c_MOST_LETTERSx ?c_MOST_KINDSx ?c_LIMITx ?b9x
    case gTWx => k_is
    case eTWx => refine' L2.Und.mkV ⟨by k_is, by k_is, by k_is, by k_is, by k_is, by k_is, by k_is, by k_is, by k_is, by k_is, by first | rfl | k_is⟩ ?eTWm; (case eTWm => k_is)
    case tTWx => exact ⟨by k_is, by k_is, by k_is, by k_is, by k_is, by k_is, by k_is, by k_is, by k_is, by k_is, by first | rfl | k_is⟩
    case noTWwordx => k_is
    case noTWatx => k_is
    case iTWx => k_is
    case yTWx => k_is
    case FTWx => refine' L2.fun_mk (st := L2.Und.sTWIni) ?ml ?mc ?mk; (case ml => k_is); (case mc => k_is); (case mk => k_is)
    case gTUx => k_is
    case eTUx => refine' L2.Und.mkKe ⟨by k_is, by k_is, by k_is, by k_is, by k_is, by k_is, by k_is, by k_is, by k_is, by k_is, by first | rfl | k_is⟩ ?eTUm; (case eTUm => k_is)
    case tTUx => exact ⟨by k_is, by k_is, by k_is, by k_is, by k_is, by k_is, by k_is, by k_is, by k_is, by k_is, by first | rfl | k_is⟩
    case noTUnamex => k_is
    case iTUx => k_is
    case yTUx => k_is
    case FTUx => refine' L2.fun_mk (st := L2.Und.sTUIni) ?ml ?mc ?mk; (case ml => k_is); (case mc => k_is); (case mk => k_is)
    case gTMx => k_is
    case eTMx => refine' L2.Und.mkV ⟨by k_is, by k_is, by k_is, by k_is, by k_is, by k_is, by k_is, by k_is, by k_is, by k_is, by first | rfl | k_is⟩ ?eTMm; (case eTMm => k_is)
    case tTMx => exact ⟨by k_is, by k_is, by k_is, by k_is, by k_is, by k_is, by k_is, by k_is, by k_is, by k_is, by first | rfl | k_is⟩
    case noTMcountx => k_is
    case iTMx => k_is
    case yTMx => k_is
    case FTMx => refine' L2.fun_mk (st := L2.Und.sTMIni) ?ml ?mc ?mk; (case ml => k_is); (case mc => k_is); (case mk => k_is)
    case gTOx => k_is
    case tTOx => exact ⟨by k_is, by k_is, by k_is, by k_is, by k_is, by k_is, by k_is, by k_is, by k_is, by k_is, by first | rfl | k_is⟩
    case xTOx => k_exc
    case gTx => k_is
    case clsTx => exact ⟨⟨by k_is, by k_is, by k_is, by k_is⟩, by k_is, by k_is, by k_is, by k_is, by k_is, by k_is⟩
    case naT0x => show _ = _; k_is
    case naT1x => show _ = _; k_is
    case naT2x => show _ = _; k_is
    case naT3x => show _ = _; k_is
    case neTx => exact ⟨by k_is, by k_is⟩
    case mkTx => exact ⟨by k_is, by k_is, by k_is, by k_is⟩
    case lT => k_is
    case dT => k_is
    case ccT => k_is
    case kT => k_is
    case leT => k_is
    case gRx => k_is
    case clsRx => exact ⟨⟨by k_is, by k_is, by k_is, by k_is⟩, by k_is, by k_is, by k_is, by k_is, by k_is, by k_is⟩
    case naR0x => show _ = _; k_is
    case naR1x => show _ = _; k_is
    case neRx => exact ⟨by k_is, by k_is⟩
    case mkRx => exact ⟨by k_is, by k_is, by k_is, by k_is⟩
    case lR => k_is
    case dR => k_is
    case ccR => k_is
    case kR => k_is
    case leR => k_is
    case gVx => k_is
    case clsVx => exact ⟨⟨by k_is, by k_is, by k_is, by k_is⟩, by k_is, by k_is, by k_is, by k_is, by k_is, by k_is⟩
    case naVtablex => show _ = _; k_is
    case naVsyllablesx => show _ = _; k_is
    case naVlayersx => show _ = _; k_is
    case naVkindsx => show _ = _; k_is
    case naVrowx => show _ = _; k_is
    case naVlastx => show _ = _; k_is
    case mkVx => exact ⟨by k_is, by k_is, by k_is, by k_is⟩
    case lV => k_is
    case dV => k_is
    case ccV => k_is
    case kV => k_is
    case sfRx => k_is
    case F_isnx => refine' L2.Und.mkF ?da ?dl ?dc ?dk; (case da => k_is); (case dl => k_is); (case dc => k_is); (case dk => k_is)
    case F_ascx => refine' L2.Und.mkF ?da ?dl ?dc ?dk; (case da => k_is); (case dl => k_is); (case dc => k_is); (case dk => k_is)
    case F_ispx => refine' L2.Und.mkF ?da ?dl ?dc ?dk; (case da => k_is); (case dl => k_is); (case dc => k_is); (case dk => k_is)
    case F_chkx => refine' L2.Und.mkF ?da ?dl ?dc ?dk; (case da => k_is); (case dl => k_is); (case dc => k_is); (case dk => k_is)
    case F_chpx => refine' L2.Und.mkF ?da ?dl ?dc ?dk; (case da => k_is); (case dl => k_is); (case dc => k_is); (case dk => k_is)
    case F_reqx => refine' L2.Und.mkF ?da ?dl ?dc ?dk; (case da => k_is); (case dl => k_is); (case dc => k_is); (case dk => k_is)
    case M_tnx => exact ⟨by k_is, by k_is, by k_is⟩
    case F_tnx => refine' L2.fun_mk (st := L2.Und.sTabNF) ?ml ?mc ?mk; (case ml => k_is); (case mc => k_is); (case mk => k_is)
    case M_tqx => exact ⟨by k_is, by k_is, by k_is⟩
    case F_tqx => refine' L2.fun_mk (st := L2.Und.sTabEq) ?ml ?mc ?mk; (case ml => k_is); (case mc => k_is); (case mk => k_is)
    case F_rstx => refine' L2.Und.mkF ?da ?dl ?dc ?dk; (case da => k_is); (case dl => k_is); (case dc => k_is); (case dk => k_is)
    case M_stx => exact ⟨by k_is, by k_is, by k_is⟩
    case F_stx => refine' L2.fun_mk (st := L2.Und.sTabStops) ?ml ?mc ?mk; (case ml => k_is); (case mc => k_is); (case mk => k_is)
    case F_pilesx => refine' L2.Und.mkF ?da ?dl ?dc ?dk; (case da => k_is); (case dl => k_is); (case dc => k_is); (case dk => k_is)
    case F_layinx => refine' L2.Und.mkF ?da ?dl ?dc ?dk; (case da => k_is); (case dl => k_is); (case dc => k_is); (case dk => k_is)
    case F_layofx => refine' L2.Und.mkF ?da ?dl ?dc ?dk; (case da => k_is); (case dl => k_is); (case dc => k_is); (case dk => k_is)
    case F_lastx => refine' L2.Und.mkF ?da ?dl ?dc ?dk; (case da => k_is); (case dl => k_is); (case dc => k_is); (case dk => k_is)
    case F_fin_x => refine' L2.Und.mkF ?da ?dl ?dc ?dk; (case da => k_is); (case dl => k_is); (case dc => k_is); (case dk => k_is)
    case F_fofx => refine' L2.Und.mkF ?da ?dl ?dc ?dk; (case da => k_is); (case dl => k_is); (case dc => k_is); (case dk => k_is)
    case M_rax => exact ⟨by k_is, by k_is, by k_is⟩
    case F_rax => refine' L2.fun_mk (st := L2.Und.sRowAdd) ?ml ?mc ?mk; (case ml => k_is); (case mc => k_is); (case mk => k_is)
    case F_exchx => refine' L2.Und.mkF ?da ?dl ?dc ?dk; (case da => k_is); (case dl => k_is); (case dc => k_is); (case dk => k_is)
    case F_dealx => refine' L2.Und.mkF ?da ?dl ?dc ?dk; (case da => k_is); (case dl => k_is); (case dc => k_is); (case dk => k_is)
    case F_drawx => refine' L2.Und.mkF ?da ?dl ?dc ?dk; (case da => k_is); (case dl => k_is); (case dc => k_is); (case dk => k_is)
    case F_mixedx => refine' L2.Und.mkF ?da ?dl ?dc ?dk; (case da => k_is); (case dl => k_is); (case dc => k_is); (case dk => k_is)
    case F_namesx => refine' L2.Und.mkF ?da ?dl ?dc ?dk; (case da => k_is); (case dl => k_is); (case dc => k_is); (case dk => k_is)
    case F_pairsx => refine' L2.Und.mkF ?da ?dl ?dc ?dk; (case da => k_is); (case dl => k_is); (case dc => k_is); (case dk => k_is)
    case F_countx => refine' L2.Und.mkF ?da ?dl ?dc ?dk; (case da => k_is); (case dl => k_is); (case dc => k_is); (case dk => k_is)
    case F_rowx => refine' L2.Und.mkF ?da ?dl ?dc ?dk; (case da => k_is); (case dl => k_is); (case dc => k_is); (case dk => k_is)
    case F_isfreex => refine' L2.Und.mkF ?da ?dl ?dc ?dk; (case da => k_is); (case dl => k_is); (case dc => k_is); (case dk => k_is)
    case F_meltx => refine' L2.Und.mkF ?da ?dl ?dc ?dk; (case da => k_is); (case dl => k_is); (case dc => k_is); (case dk => k_is)
    case F_shortx => refine' L2.Und.mkF ?da ?dl ?dc ?dk; (case da => k_is); (case dl => k_is); (case dc => k_is); (case dk => k_is)
    case F_laysx => refine' L2.Und.mkF ?da ?dl ?dc ?dk; (case da => k_is); (case dl => k_is); (case dc => k_is); (case dk => k_is)
    case F_formx => refine' L2.Und.mkF ?da ?dl ?dc ?dk; (case da => k_is); (case dl => k_is); (case dc => k_is); (case dk => k_is)
    case F_undx => refine' L2.Und.mkF ?da ?dl ?dc ?dk; (case da => k_is); (case dl => k_is); (case dc => k_is); (case dk => k_is)
    case F_repx => refine' L2.Und.mkF ?da ?dl ?dc ?dk; (case da => k_is); (case dl => k_is); (case dc => k_is); (case dk => k_is)
    case F_tblx => refine' L2.Und.mkF ?da ?dl ?dc ?dk; (case da => k_is); (case dl => k_is); (case dc => k_is); (case dk => k_is)
    case F_rgtx => refine' L2.Und.mkF ?da ?dl ?dc ?dk; (case da => k_is); (case dl => k_is); (case dc => k_is); (case dk => k_is)
    case F_lawx => refine' L2.Und.mkF ?da ?dl ?dc ?dk; (case da => k_is); (case dl => k_is); (case dc => k_is); (case dk => k_is)
    case z_lenx => k_is
    case z_allx => k_is
    case z_tuplex => k_is
    case z_sortedx => k_is
    case z_enumeratex => k_is
    case z_isinstancex => k_is
    case z_maxx => k_is
    case z_rangex => k_is
    case z_listx => k_is
    case z_intx => k_is
    case z_zipx => k_is
    case z_boolx => k_is
    case c_MOST_LETTERSx => k_is
    case c_MOST_KINDSx => k_is
    case c_LIMITx => k_is
    case b9x => exact fun s v => .of_eq rfl
#print axioms PySem.Challenge.cw_undoamid_k59_exchangeable_versions_holds
end
