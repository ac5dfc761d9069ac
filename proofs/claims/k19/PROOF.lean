import PyProof.Rows.All
import Wide.All
import OpenK.AllK
import Wide.FinOn
import HandS.Walk
import HandS.NoneIn
import HandS.DictComp
import HandS.Iter
import HandS.ForMost
import HandS.TupAny
import HandS.TupMul
import HandS.Conv
import HandS.IsInst
import HandS.Deep
import HandS.RaiseMore
import HandS.Wide
import HandS.SetFor
import HandS.Strs
import HandS.Zip
import HandS.Style
import HandS.SortInts
import KE.GoesNew
import HandS.Star
import HandS.Defaults
import HandS.MakeKwOnly
import PyProof.SeqIndex
import HandS.Comp
import HandS.TupSets
import PyProof.SetRoads
import KE.DatumIndex
import HandS.Nested
import HandS.EndTab
import HandS.SortKw
import KE.KSortKeyAny
import KE.GoesZip
import KE.GoesMore
import PyProof.Rows.IntBool
import PySem.Challenge.RW_deadlane_k19_cycles_of_clear_moments
set_option Elab.async false
set_option linter.all false
set_option maxRecDepth 100000
set_option maxHeartbeats 4000000
/-! dicts whose keys are None or ints -/
namespace DL
open PySem PySem.Spec PyProof.Rows L2
abbrev Ck := Option Int
def ckV : Ck → V
  | none => .non
  | some i => .int i
def ckP : Ck → PyData
  | none => .none
  | some i => .int i
def wide : Ck → Option Key
  | none => none
  | some i => some (.inl i)
theorem wide_inj {a b : Ck} (e : wide a = wide b) : a = b := by
  cases a <;> cases b <;> first | rfl | (cases e; rfl) | cases e
theorem wide_dec (a b : Ck) : decide (wide a = wide b) = decide (a = b) := by
  by_cases h : a = b
  · subst h; rw [decide_eq_true rfl, decide_eq_true rfl]
  · rw [decide_eq_false h, decide_eq_false fun e => h (wide_inj e)]
def ckHash : Ck → Int
  | none => reduceHash 0xFCA86420
  | some i => hashInt i
theorem wide_hash (P : Program) (w : World) : ∀ k : Ck, (noneKind P w).hash (wide k) = ckHash k
  | none => rfl
  | some _ => rfl
/-- None or an int as a key; no world is asked for its hash -/
def caseK (P : Program) (w : World) : PySem.KeyKind P w Ck where
  is := fun k v => nkIs (wide k) v
  hash := ckHash
  inj := fun v a b ha hb => wide_inj ((noneKind P w).inj v _ _ ha hb)
  byValue := fun k v h => (noneKind P w).byValue _ v h
  pyHash := @fun A E s k v Q hv h => (noneKind P w).pyHash (k := wide k) hv (by rw [wide_hash]; exact h)
  eqBool := @fun A E s a b u v Q hu hv h => (noneKind P w).eqBool (a := wide a) (b := wide b) hu hv (by rw [wide_dec]; exact h)
  «strs» := fun k x t v h => (noneKind P w).strs _ x t v h
theorem ck_is {P : Program} {w : World} {k : Ck} {u : Value} (r : RelV (ckV k) u) : (caseK P w).is k u = true := by
  cases k with
  | none => cases (show u = Value.none from r); rfl
  | some i =>
    obtain ⟨t, rfl⟩ := r
    exact keyIs_int i t
theorem ck_rel {P : Program} {w : World} {k : Ck} {u : Value} (h : (caseK P w).is k u = true) : RelV (ckV k) u := by
  cases k with
  | none => exact nk_none h
  | some i => exact relV_key (k := .inl i) h
/-- what the dict at a holds -/
def DkAt (a : Addr) (kvs : List (Ck × V)) : Heap → Prop := fun h => kvs.length ≤ sizeLine ∧ (a == sysModules) = false ∧ ∃ vs, KV kvs vs ∧ ∀ (P : Program) (w : World), h.DictOf (caseK P w) a vs
abbrev dkO (a : Addr) (kvs : List (Ck × V)) : HO := .ext (DkAt a kvs)
section
variable {P : Program} {w : World} {H : Hp} {h : Heap} {a : Addr} {kvs : List (Ck × V)}
theorem any_world {P' : Program} {w' : World} {vs : List (Ck × Value)} (d : h.DictOf (caseK P w) a vs) : h.DictOf (caseK P' w') a vs := by
  obtain ⟨o, es, ep, g, x, t, ky, pr, nd⟩ := d
  have go : ∀ {l : List DictEntry} {m : List (Ck × Value)}, Pairs (caseK P w) l m → Pairs (caseK P' w') l m := fun {l m} z => by
    induction z with
    | nil => exact .nil
    | cons i e _ ih => exact .cons i e ih
  exact ⟨o, es, ep, g, x, t, ky, go pr, nd⟩
theorem dk_ok {vs : List (Ck × Value)} (z : kvs.length ≤ sizeLine) (n : (a == sysModules) = false) (r : KV kvs vs) (d : h.DictOf (caseK P w) a vs) : ObjOk P w H h a (dkO a kvs) := by
  refine ⟨⟨z, n, vs, r, fun P' w' => any_world d⟩, ?_, ?_⟩
  · obtain ⟨o, _, _, e, _⟩ := d
    exact ⟨o, e⟩
  · rintro h1 h2 ⟨z', n', vs', r', d'⟩ k
    refine ⟨z', n', vs', r', fun P' w' => ?_⟩
    obtain ⟨o, es, ep, e, rest⟩ := d' P' w'
    exact ⟨o, es, ep, k o e, rest⟩
theorem dk_at (ok : ObjOk P w H h a (dkO a kvs)) : kvs.length ≤ sizeLine ∧ (a == sysModules) = false ∧ ∃ vs, KV kvs vs ∧ h.DictOf (caseK P w) a vs := by
  obtain ⟨⟨z, n, vs, r, d⟩, _⟩ := ok
  exact ⟨z, n, vs, r, d P w⟩
theorem dk_nil (hb : sysModules < h.objs.size) : ObjOk P w H (h.push { cls := .type "dict", data := .dict #[] }) h.objs.size (dkO h.objs.size []) :=
  dk_ok (Nat.zero_le _) (beq_eq_false_iff_ne.mpr (Nat.ne_of_gt hb)) .nil (Heap.DictOf.new h)
end
section
variable {X : Cx} {pins : List (Addr × Obj)} {σ : L2.St} {H : Hp} {s : Shared} {a : Addr} {kvs : List (Ck × V)} {k : Ck} {u r : Value} {v : V}
/-- a locked one -/
theorem lk_at {o : Obj} (I : Inv X pins σ H s) (e : H a = some (.frz o (dkO a kvs))) : s.heap.get? a = some o ∧ kvs.length ≤ sizeLine ∧ (a == sysModules) = false ∧ ∃ vs, KV kvs vs ∧ s.heap.DictOf (caseK X.prog X.w) a vs := by
  obtain ⟨g, x⟩ := I.hok a _ e
  exact ⟨g, dk_at x⟩
theorem lk_get {o : Obj} {E : Value → Shared → Prop} {A : Around} {Q : Value → Shared → Prop} (I : Inv X pins σ H s) (e : H a = some (.frz o (dkO a kvs))) (ry : RelV (ckV k) u) (l : valV kvs k = some v) (q : ∀ w' s', Inv X pins σ H s' → RelV v w' → Q w' s') :
    wpAny (model X.prog X.w) A (getItem (.ref a) u) Q E s := by
  obtain ⟨_, _, _, vs, rel, d⟩ := lk_at I e
  obtain ⟨w', hw, rw'⟩ := RelO.some_of (v := v) (o := valueAt vs k) (by rw [← l]; exact rel.val k)
  exact wpAny_getItem_of (ck_is ry) d.mapOf hw (q w' _ (I.tok _) rw')
theorem dk_put {E : Value → Shared → Prop} {Q : Unit → Shared → Prop} (I : Inv X pins σ H s) (e : H a = some (dkO a kvs)) (hz : kvs.length < sizeLine) (ry : RelV (ckV k) u) (rv : RelV v r)
    (q : ∀ s', Inv X pins σ (L2.upd H a (dkO a (putK kvs k v))) s' → Q () s') : wpAny (model X.prog X.w) X.A (dictSet a u r) Q E s := by
  obtain ⟨z, n, vs, rel, d⟩ := dk_at (I.hok a _ e)
  have l := length_putK kvs k v
  refine wpAny_dictSet_pairs (hsz := by rw [← rel.length]; exact z) (ck_is ry) d fun h' d' sb => q _ ?_
  obtain ⟨o, es, ep, g, rest⟩ := id d'
  exact d_write I (by rw [e]; exact True.intro) sb ⟨o, g⟩ (dk_ok (by omega) n (rel.put k rv) d')
theorem dk_set {E : Value → Shared → Prop} {A : Around} {Q : Unit → Shared → Prop} (I : Inv X pins σ H s) (e : H a = some (dkO a kvs)) (hz : kvs.length < sizeLine) (ry : RelV (ckV k) u) (rv : RelV v r)
    (q : ∀ s', Inv X pins σ (L2.upd H a (dkO a (putK kvs k v))) s' → Q () s') : wpAny (model X.prog X.w) A (setItem (.ref a) u r) Q E s := by
  obtain ⟨z, n, vs, rel, d⟩ := dk_at (I.hok a _ e)
  have l := length_putK kvs k v
  refine wpAny_setItem_pairs (hsz := by rw [← rel.length]; exact z) (ck_is ry) d fun h' d' sb => q _ ?_
  obtain ⟨o, es, ep, g, rest⟩ := id d'
  exact d_write I (by rw [e]; exact True.intro) sb ⟨o, g⟩ (dk_ok (by omega) n (rel.put k rv) d')
end
end DL
/-! a dict comprehension whose keys are None or ints -/
namespace DL
open PySem PySem.Spec PyProof.Rows L2
section
variable {X : Cx}
/-- one turn of the block: the target, the test, the key, the value, and what the dict holds then -/
abbrev turnK (g : TG) (tt : TT) (tk tv : TE) (vs : List Nat) (σ : L2.St) (D : Addr) (Nx : Hp → Prop) : V → Hp → Prop := fun x H' =>
  g x (L2.wipe σ vs) H' fun σ2 H2 => L2.wipe σ2 vs = L2.wipe σ vs ∧ tt σ2 H2 fun b H3 =>
    if b = true then tk σ2 H3 fun y H4 => tv σ2 H4 fun z H5 => ∃ kvs k, y = ckV k ∧ H5 D = some (dkO D kvs) ∧ kvs.length < sizeLine ∧ Nx (L2.upd H5 D (dkO D (putK kvs k z))) else Nx H3
def tDk (wi : TI) (g : TG) (tt : TT) (tk tv : TE) (vs : List Nat) : TE := fun σ H Q => wi σ H fun J H1 => ∀ D, H1 D = none → ∃ W : Nat → Nat → Hp → Prop, (∃ m, W 0 m (L2.upd H1 D (dkO D []))) ∧
  ∀ i m H, W i m H → (J.stop i H ∧ Q (.ref D) H) ∨ (J.go i H ∧ ∃ Nx : Hp → Prop, (∀ H', Nx H' → ∃ m', m' < m ∧ W (i + 1) m' H') ∧ ∀ x H', J.yld i H x H' → turnK g tt tk tv vs σ D Nx x H')
theorem pe_dk {kx vx tg iter : Expr} {ifs : List Expr} {scope : Scope} {own : List (Str × Nat)} {pos : Pos} {wi : TI} {g : TG} {tt : TT} {tk tv : TE} (calm : X.calm = true) (nd : X.N.Nodup) (wk : PI X tg iter wi) (blk : BlkOk X.N X.env.scope scope own)
    (ptg : ∀ (s : Shared) (H : Hp) (C : Addr) (cl : List (Str × Addr)) (fp : List Addr), PG (X.blk s H scope (compEnvC scope cl C X.env) fp) tg g)
    (pif : ∀ (s : Shared) (H : Hp) (C : Addr) (cl : List (Str × Addr)) (fp : List Addr), PTs (X.blk s H scope (compEnvC scope cl C X.env) fp) ifs tt)
    (pke : ∀ (s : Shared) (H : Hp) (C : Addr) (cl : List (Str × Addr)) (fp : List Addr), PE (X.blk s H scope (compEnvC scope cl C X.env) fp) kx tk)
    (pva : ∀ (s : Shared) (H : Hp) (C : Addr) (cl : List (Str × Addr)) (fp : List Addr), PE (X.blk s H scope (compEnvC scope cl C X.env) fp) vx tv) (fold : ∀ x, foldedSetIterable iter X.env x = pure x := by intro _; rfl) :
    PE X (.DictComp kx vx [⟨tg, iter, ifs, 0⟩] scope pos) (tDk wi g tt tk tv (own.map (·.2))) := by
  refine ⟨fun pins s σ H Q inv0 want => ?_⟩
  rw [arm_eval_DictComp]
  have clo : ∀ y ∈ scope.names, y.2 = .free → ∃ c, X.env.cells.lookup y.1 = some c := fun y hy e => by
    rcases blk.free y hy e with z | z
    · exact inv0.ok.has _ (.inl z)
    · exact inv0.ok.has _ (.inr z)
  refine wpAny_comprehension_free (use := none) rfl fold (closure_ok clo) blk.kind (fun y hy e => by rw [blk.uniq y hy, e]) (thn (wk.run pins s σ H _ inv0 want) fun xv sA hx => thn hx fun itv sB hB => ?_)
  obtain ⟨it, fp, tn, J, HB, rfl, invB, T, stB, okB, reach⟩ := hB
  refine wpAny_newObj_type (newEnv_comp ?_)
  -- the dict is laid
  obtain ⟨D, eD⟩ : ∃ D, D = sB.heap.objs.size := ⟨_, rfl⟩
  have freeD : HB D = none := by rw [eD]; exact invB.hok.fresh (Nat.le_refl _)
  obtain ⟨W, ⟨mStart, wStart⟩, turns⟩ := reach D freeD
  obtain ⟨sC, eC⟩ : ∃ sC : Shared, sC = { sB with heap := sB.heap.push { cls := .type "dict", data := .dict #[] } } := ⟨_, rfl⟩
  have invC : Inv X pins σ (L2.upd HB D (dkO D [])) sC := by
    rw [eC, eD]
    exact invB.laid (t' := sB.toks) (fun b o e => Heap.get?_push_of_some _ e) (Nat.le_refl _) (dk_nil invB.big)
  have heapC : sC.heap = sB.heap.push { cls := .type "dict", data := .dict #[] } := by rw [eC]
  have below : ∀ b ∈ fp, b < sB.heap.objs.size := fun b hb => by
    obtain ⟨o, e, _⟩ := T.obj _ _ stB b hb
    exact Heap.lt_size e
  have fpC : ∀ b ∈ fp, FpOk X pins (L2.upd HB D (dkO D [])) b ∧ b < sC.heap.objs.size := fun b hb => by
    have lt := below b hb
    refine ⟨⟨?_, (okB b hb).2⟩, by rw [heapC, Heap.size_push]; exact Nat.lt_succ_of_lt lt⟩
    rw [L2.upd_ne (by rw [eD]; exact Nat.ne_of_lt lt)]
    exact (okB b hb).1
  have stC : tn 0 sC.heap := T.keep _ _ _ stB fun b _ o e => by rw [heapC]; exact Heap.get?_push_of_some _ e
  obtain ⟨HC, eHC⟩ : ∃ HC, HC = L2.upd HB D (dkO D []) := ⟨_, rfl⟩
  rw [← eHC] at invC fpC wStart
  have invE := block_start invC blk nd fpC
  obtain ⟨cs, eCs⟩ : ∃ cs, cs = cellsFrom (sC.heap.objs.size + 1) scope.names (cloFrom X.env.cells scope.names []) := ⟨_, rfl⟩
  obtain ⟨ce, eCe⟩ : ∃ ce, ce = compEnvC scope cs sC.heap.objs.size X.env := ⟨_, rfl⟩
  have rTg := ptg sC HC sC.heap.objs.size cs fp
  have rIf := pif sC HC sC.heap.objs.size cs fp
  have rKe := pke sC HC sC.heap.objs.size cs fp
  have rVa := pva sC HC sC.heap.objs.size cs fp
  rw [← eCe] at rTg rIf rKe rVa
  rw [← eCs, ← eCe] at invE
  have loc : ce.locals = sC.heap.objs.size := by rw [eCe]; rfl
  obtain ⟨sE, eE⟩ : ∃ sE : Shared, sE = { sC with heap := pushCells (sC.heap.push { cls := .type "dict", data := .dict #[] }) scope.names } := ⟨_, rfl⟩
  rw [← eE] at invE
  have stE : tn 0 sE.heap := T.keep _ _ _ stC fun b _ o e => by rw [eE]; exact pushCells_keeps _ _ _ _ (Heap.get?_push_of_some _ e)
  have good : ∀ {σ' : L2.St} {H' : Hp} {s' : Shared}, Inv (X.blk sC HC scope ce fp) [] σ' H' s' → (∀ b ∈ fp, H' b = none) → ∀ b ∈ fp, FpOk (X.blk sC HC scope ce fp) [] H' b := fun {σ' H' s'} J' free b hb =>
    ⟨free b hb, (J'.ok.exf b hb).1, J'.ok.exfs b hb, .inl hb, fun x c e => (J'.ok.exf b hb).2 x c e, fun p hp => absurd (show p ∈ ([] : List (Addr × Obj)) ++ [] from hp) (by simp)⟩
  have whole : codeAny (model X.prog X.w) X.A (.compLoop (.DictComp kx vx [⟨tg, iter, ifs, 0⟩] scope pos) 0 (.ref it) (.ref D) ce) (compPost (model X.prog X.w) X.A X.xe none (EP X pins σ Q) (.ref D) sC.heap.objs.size) sE := by
    refine compLoop_anyD (fun n s' => ∃ i H', Inv (X.blk sC HC scope ce fp) [] (L2.wipe σ (own.map (·.2))) H' s' ∧ tn i s'.heap ∧ (∀ b ∈ fp, H' b = none) ∧ W i n H') ?_ mStart ⟨0, HC, invE, stE, fun b hb => (fpC b hb).1.1, wStart⟩
    rintro n s5 ⟨i, H5, inv5, st5, free5, w5⟩
    rcases turns i n H5 w5 with ⟨stop, fin⟩ | ⟨go, Nx, down, step⟩
    · refine thnF (T.done (X.blk sC HC scope ce fp) rfl rfl rfl calm i [] s5 _ H5 (fun _ _ => False) inv5 (good inv5 free5) st5 stop) fun r s6 ⟨er, inv6⟩ => ?_
      subst er
      have back : Inv X pins σ H5 s6 := invC.call' (ch := fp) inv6.os inv6.base inv6.hok inv6.bare fun b hb => ⟨(fpC b hb).1.2.2.2.1, (fpC b hb).1.2.1, (fpC b hb).1.2.2.2.2.1, (fpC b hb).1.2.2.2.2.2⟩
      have nC : H5 sC.heap.objs.size = none := by
        have z : H5 ce.locals = none := inv6.free
        rw [loc] at z
        exact z
      obtain ⟨m, hn, _⟩ := inv6.loc
      have hn : s6.heap.Ns ce.locals m := hn
      rw [loc] at hn
      obtain ⟨f0, f1, f2, f3, f4, f5⟩ := invC.fpOk (Nat.le_refl _) nC
      exact ⟨m, hn, fun h'' sb => ⟨.ref D, H5, back.turned (t' := s6.toks) (fun b o hb e => (sb.2 b hb).trans e) f0 f1 f3 f4 f5, rfl, fin⟩⟩
    · refine thnF (T.item (X.blk sC HC scope ce fp) rfl rfl rfl calm i [] s5 _ H5 (fun _ _ => False) inv5 (good inv5 free5) st5 go) fun r s6 ⟨u, er, h6⟩ => ?_
      subst er
      refine thnF h6 fun _ s7 ⟨x, H7, inv7, r7, y7, st7, free7⟩ => ?_
      have inv7' := inv7.pinned (good inv7 free7) (T.obj _ _ st7)
      refine thnF (rTg.run _ s7 _ H7 x u _ inv7' r7 (step x H7 y7)) fun _ s8 ⟨σ8, H8, inv8, wiped, q8⟩ => thnF (rIf.run _ s8 σ8 H8 _ inv8 q8) fun b s9 ⟨H9, inv9, q9⟩ => ?_
      have next : ∀ {s' : Shared} {H' : Hp}, Inv (X.blk sC HC scope ce fp) ([] ++ pinsAt fp s7.heap) σ8 H' s' → Nx H' → ∃ m, m < n ∧ ∃ i H', Inv (X.blk sC HC scope ce fp) [] (L2.wipe σ (own.map (·.2))) H' s' ∧ tn i s'.heap ∧ (∀ b ∈ fp, H' b = none) ∧ W i m H' := fun {s' H'} inv' nx => by
        obtain ⟨m', lt, w'⟩ := down H' nx
        have held : ∀ b ∈ fp, ∀ o, s7.heap.get? b = some o → s'.heap.get? b = some o ∧ H' b = none := fun b hb o e =>
          let z := inv'.pin (b, o) (List.mem_append_right _ (List.mem_append_right _ (mem_pinsAt hb e)))
          ⟨z.1, z.2.1⟩
        refine ⟨m', lt, i + 1, H', (inv'.unpinned (pins := [])).weak (by rw [← wiped, L2.wipe_length]) (fun j v e => ?_), T.keep _ _ _ st7 fun b hb o e => (held b hb o e).1, fun b hb => ?_, w'⟩
        · rw [← wiped] at e
          exact (L2.wipe_some e).1
        · obtain ⟨o, e, _⟩ := T.obj _ _ st7 b hb
          exact (held b hb o e).2
      cases b with
      | true =>
        simp only [if_true] at q9 ⊢
        refine thnF (rKe.run _ s9 σ8 H9 _ inv9 q9) fun z s10 ⟨yk, H10, inv10, r10, q10⟩ => thnF (rVa.run _ s10 σ8 H10 _ inv10 q10) fun z2 s11 ⟨yv, H11, inv11, r11, kvs, k, ek, hD, hz, nx⟩ => ?_
        subst ek
        exact dk_put (X := X.blk sC HC scope ce fp) inv11 hD hz r10 r11 fun s12 inv12 => next inv12 nx
      | false =>
        simp only [Bool.false_eq_true, if_false] at q9 ⊢
        exact next inv9 q9
  show codeAny _ _ (.compStart (.DictComp kx vx [⟨tg, iter, ifs, 0⟩] scope pos) 0 (.ref it) (.ref sB.heap.objs.size) (compEnvC scope (cellsFrom ((sB.heap.push { cls := .type "dict", data := .dict #[] }).objs.size + 1) scope.names (cloFrom X.env.cells scope.names [])) (sB.heap.push { cls := .type "dict", data := .dict #[] }).objs.size X.env)) _ _
  subst eD eC eHC eCs eCe eE
  exact codeAny_compStart_dict whole (T.self X.A 0 _ _ _ stE whole)
end
end DL
/-! A layer of our own over HandS: tuples as plain data, a store for what may change, readings that compute. -/
namespace DL
open PySem PySem.Spec PyProof.Rows L2

/-- a value: tuples (and lists that never change) by their items -/
inductive D where
  | non | bl (b : Bool) | int (i : Int) | str (x : Str) | ref (a : Addr) | ty (n : String)
  | tup (xs : List D) | lis (xs : List D)
  /-- a tuple that is only taken apart -/
  | par (xs : List D)
  /-- a dict that never changes, its keys None or ints -/
  | dic (ks : List (Option Int)) (vs : List D)
/-- what may change -/
inductive O where
  | lst (xs : List D)
  | ho (o : HO)
  /-- a dict at a that may change, its keys None or ints -/
  | dct (a : Addr) (m : List (Option Int × D))
  /-- the table of a def's code objects, each of them of the name q -/
  | tab (q : Str)
/-- what may change, or grow -/
def MutT : Option HO → Prop
  | some (.tbl _) => True
  | o => Mut o
abbrev Sto := Addr → Option O
def Sto.upd (S : Sto) (a : Addr) (o : O) : Sto := fun b => if b = a then some o else S b
@[simp] theorem Sto.upd_same {S : Sto} {a : Addr} {o : O} : S.upd a o a = some o := if_pos rfl
theorem Sto.upd_ne {S : Sto} {a b : Addr} {o : O} (h : b ≠ a) : S.upd a o b = S b := if_neg h
theorem Sto.upd_upd {S : Sto} {a : Addr} {o u : O} : (S.upd a o).upd a u = S.upd a u := by
  funext b
  unfold Sto.upd
  split <;> rfl
abbrev DEnv := List (Option D)

def FzL (K : PySem.W.Frag) (H : Hp) (a : Addr) (xs : List V) : Prop :=
  (∃ o, H a = some (.frz o (.lst xs))) ∨
    ∃ (o : Obj) (its : Array Value) (n : Nat), K.lookup a = some o ∧ o.cls = .type "list" ∧ o.dict = none ∧ o.data = .seq its n ∧ its.size ≤ sizeLine ∧ Vals xs its.toList
theorem FzL.sq {K : PySem.W.Frag} {H : Hp} {a : Addr} {xs : List V} (h : FzL K H a xs) : SqL K H a xs := by
  rcases h with h | h
  · exact .inl (.inr h)
  · exact .inr h

/-- a tuple without a dict of its own -/
def TqT (K : PySem.W.Frag) (H : Hp) (a : Addr) (xs : List V) : Prop :=
  (∃ o, H a = some (.frz o (.tup xs)) ∧ o.dict = none) ∨
    ∃ (o : Obj) (its : Array Value) (n : Nat), K.lookup a = some o ∧ o.cls = .type "tuple" ∧ o.dict = none ∧ o.data = .seq its n ∧ its.size ≤ sizeLine ∧ Vals xs its.toList
theorem TqT.sq {K : PySem.W.Frag} {H : Hp} {a : Addr} {xs : List V} (h : TqT K H a xs) : SqT K H a xs := by
  rcases h with ⟨o, h, _⟩ | ⟨o, its, n, h1, h2, _, h3⟩
  · exact .inl (.inr ⟨o, h⟩)
  · exact .inr ⟨o, its, n, h1, h2, h3⟩

mutual
def Rp (K : PySem.W.Frag) (H : Hp) : D → V → Prop
  | .non, v => v = .non
  | .bl b, v => v = .bl b
  | .int i, v => v = .int i
  | .str x, v => v = .str x
  | .ref a, v => v = .ref a
  | .ty n, v => v = .ty n
  | .tup ds, v => ∃ a vs, v = .ref a ∧ TqT K H a vs ∧ RpL K H ds vs
  | .par ds, v => ∃ a vs, v = .ref a ∧ SqT K H a vs ∧ RpL K H ds vs
  | .lis ds, v => ∃ a vs, v = .ref a ∧ FzL K H a vs ∧ RpL K H ds vs
  | .dic ks ds, v => ∃ a o us, v = .ref a ∧ H a = some (.frz o (dkO a (ks.zip us))) ∧ ks.length = us.length ∧ RpL K H ds us
def RpL (K : PySem.W.Frag) (H : Hp) : List D → List V → Prop
  | [], vs => vs = []
  | d :: ds, vs => ∃ v r, vs = v :: r ∧ Rp K H d v ∧ RpL K H ds r
end

/-- the items of a dict -/
def RpM (K : PySem.W.Frag) (H : Hp) : List (Option Int × D) → List (Option Int × V) → Prop
  | [], kvs => kvs = []
  | p :: m, kvs => ∃ v r, kvs = (p.1, v) :: r ∧ Rp K H p.2 v ∧ RpM K H m r

/-- what can't change is as it was -/
def Mon (H H' : Hp) : Prop := ∀ a o, H a = some o → ¬ MutT (some o) → H' a = some o
theorem Mon.refl (H : Hp) : Mon H H := fun _ _ h _ => h
theorem Mon.trans {H H1 H2 : Hp} (a : Mon H H1) (b : Mon H1 H2) : Mon H H2 := fun c o h m => b c o (a c o h m) m
theorem Mon.sqt {K : PySem.W.Frag} {H H' : Hp} {a : Addr} {xs : List V} (m : Mon H H') (h : SqT K H a xs) : SqT K H' a xs := by
  rcases h with (h | ⟨o, h⟩) | h
  · exact .inl (.inl (m _ _ h fun z => z))
  · exact .inl (.inr ⟨o, m _ _ h fun z => z⟩)
  · exact .inr h
theorem Mon.tqt {K : PySem.W.Frag} {H H' : Hp} {a : Addr} {xs : List V} (m : Mon H H') (h : TqT K H a xs) : TqT K H' a xs := by
  rcases h with ⟨o, h, e⟩ | h
  · exact .inl ⟨o, m _ _ h fun z => z, e⟩
  · exact .inr h
theorem Mon.fzl {K : PySem.W.Frag} {H H' : Hp} {a : Addr} {xs : List V} (m : Mon H H') (h : FzL K H a xs) : FzL K H' a xs := by
  rcases h with ⟨o, h⟩ | h
  · exact .inl ⟨o, m _ _ h fun z => z⟩
  · exact .inr h
section
variable {K : PySem.W.Frag} {H H' : Hp}
mutual
theorem Rp.mon (m : Mon H H') : ∀ (d : D) (v : V), Rp K H d v → Rp K H' d v
  | .non, _, h => by unfold Rp at h ⊢; exact h
  | .bl _, _, h => by unfold Rp at h ⊢; exact h
  | .int _, _, h => by unfold Rp at h ⊢; exact h
  | .str _, _, h => by unfold Rp at h ⊢; exact h
  | .ref _, _, h => by unfold Rp at h ⊢; exact h
  | .ty _, _, h => by unfold Rp at h ⊢; exact h
  | .tup ds, v, h => by
    unfold Rp at h ⊢
    obtain ⟨a, vs, e, q, r⟩ := h
    exact ⟨a, vs, e, m.tqt q, RpL.mon m ds vs r⟩
  | .par ds, v, h => by
    unfold Rp at h ⊢
    obtain ⟨a, vs, e, q, r⟩ := h
    exact ⟨a, vs, e, m.sqt q, RpL.mon m ds vs r⟩
  | .lis ds, v, h => by
    unfold Rp at h ⊢
    obtain ⟨a, vs, e, q, r⟩ := h
    exact ⟨a, vs, e, m.fzl q, RpL.mon m ds vs r⟩
  | .dic ks ds, v, h => by
    unfold Rp at h ⊢
    obtain ⟨a, o, us, e, q, l, r⟩ := h
    exact ⟨a, o, us, e, m _ _ q fun z => z, l, RpL.mon m ds us r⟩
theorem RpL.mon (m : Mon H H') : ∀ (ds : List D) (vs : List V), RpL K H ds vs → RpL K H' ds vs
  | [], _, h => by unfold RpL at h ⊢; exact h
  | d :: ds, vs, h => by
    unfold RpL at h ⊢
    obtain ⟨v, r, e, q, t⟩ := h
    exact ⟨v, r, e, Rp.mon m d v q, RpL.mon m ds r t⟩
end
theorem RpM.mon (mo : Mon H H') : ∀ {m : List (Option Int × D)} {kvs : List (Option Int × V)}, RpM K H m kvs → RpM K H' m kvs
  | [], _, h => h
  | p :: m, kvs, h => by
    obtain ⟨v, r, e, q, t⟩ := h
    exact ⟨v, r, e, Rp.mon mo p.2 v q, t.mon mo⟩
theorem RpL.nil : RpL K H [] [] := by unfold RpL; rfl
theorem RpL.cons {d : D} {v : V} {ds : List D} {vs : List V} (h : Rp K H d v) (t : RpL K H ds vs) : RpL K H (d :: ds) (v :: vs) := by
  unfold RpL; exact ⟨v, vs, rfl, h, t⟩
theorem RpL.nil_of {vs : List V} (h : RpL K H [] vs) : vs = [] := by unfold RpL at h; exact h
theorem RpL.cons_of {d : D} {ds : List D} {vs : List V} (h : RpL K H (d :: ds) vs) : ∃ v r, vs = v :: r ∧ Rp K H d v ∧ RpL K H ds r := by unfold RpL at h; exact h
theorem RpL.length : ∀ {ds : List D} {vs : List V}, RpL K H ds vs → ds.length = vs.length
  | [], vs, h => by rw [h.nil_of]; rfl
  | d :: ds, vs, h => by
    obtain ⟨v, r, e, _, t⟩ := h.cons_of
    rw [e, List.length_cons, List.length_cons, t.length]
theorem RpL.append : ∀ {ds es : List D} {vs us : List V}, RpL K H ds vs → RpL K H es us → RpL K H (ds ++ es) (vs ++ us)
  | [], es, vs, us, h, g => by rw [h.nil_of]; exact g
  | d :: ds, es, vs, us, h, g => by
    obtain ⟨v, r, e, q, t⟩ := h.cons_of
    subst e
    exact .cons q (t.append g)
theorem RpL.take : ∀ {ds : List D} {vs : List V} (n : Nat), RpL K H ds vs → RpL K H (ds.take n) (vs.take n)
  | _, _, 0, _ => .nil
  | [], vs, n + 1, h => by rw [h.nil_of]; exact .nil
  | d :: ds, vs, n + 1, h => by
    obtain ⟨v, r, e, q, t⟩ := h.cons_of
    subst e
    exact .cons q (t.take n)
theorem RpL.drop : ∀ {ds : List D} {vs : List V} (n : Nat), RpL K H ds vs → RpL K H (ds.drop n) (vs.drop n)
  | _, _, 0, h => h
  | [], vs, n + 1, h => by rw [h.nil_of]; exact .nil
  | d :: ds, vs, n + 1, h => by
    obtain ⟨v, r, e, q, t⟩ := h.cons_of
    subst e
    exact t.drop n
theorem RpL.get : ∀ {ds : List D} {vs : List V} {i : Nat} {d : D}, RpL K H ds vs → ds[i]? = some d → ∃ v, vs[i]? = some v ∧ Rp K H d v
  | [], _, _, _, _, e => by simp at e
  | x :: ds, vs, 0, d, h, e => by
    obtain ⟨v, r, e', q, t⟩ := h.cons_of
    subst e'
    simp at e
    subst e
    exact ⟨v, rfl, q⟩
  | x :: ds, vs, i + 1, d, h, e => by
    obtain ⟨v, r, e', q, t⟩ := h.cons_of
    subst e'
    obtain ⟨u, h1, h2⟩ := RpL.get (i := i) (d := d) t (by simpa using e)
    exact ⟨u, by simpa using h1, h2⟩
theorem RpL.getV {ds : List D} {vs : List V} {i : Nat} {v : V} (h : RpL K H ds vs) (e : vs[i]? = some v) : ∃ d, ds[i]? = some d ∧ Rp K H d v := by
  have hl := h.length
  have hi : i < ds.length := by rw [hl]; exact (List.getElem?_eq_some_iff.mp e).1
  obtain ⟨u, h1, h2⟩ := h.get (i := i) (d := ds[i]) (by simp [hi])
  rw [e] at h1
  cases h1
  exact ⟨_, by simp [hi], h2⟩
theorem RpL.set : ∀ {ds : List D} {vs : List V} (i : Nat) {d : D} {v : V}, RpL K H ds vs → Rp K H d v → RpL K H (ds.set i d) (vs.set i v)
  | [], vs, _, _, _, h, _ => by rw [h.nil_of]; exact .nil
  | x :: ds, vs, 0, d, v, h, q => by
    obtain ⟨u, r, e', _, t⟩ := h.cons_of
    subst e'
    exact .cons q t
  | x :: ds, vs, i + 1, d, v, h, q => by
    obtain ⟨u, r, e', p, t⟩ := h.cons_of
    subst e'
    exact .cons p (t.set i q)
theorem RpL.erase : ∀ {ds : List D} {vs : List V} (i : Nat), RpL K H ds vs → RpL K H (ds.eraseIdx i) (vs.eraseIdx i)
  | [], vs, _, h => by rw [h.nil_of]; exact .nil
  | x :: ds, vs, 0, h => by
    obtain ⟨u, r, e', _, t⟩ := h.cons_of
    subst e'
    exact t
  | x :: ds, vs, i + 1, h => by
    obtain ⟨u, r, e', p, t⟩ := h.cons_of
    subst e'
    exact .cons p (t.erase i)
theorem RpL.reverse : ∀ {ds : List D} {vs : List V}, RpL K H ds vs → RpL K H ds.reverse vs.reverse
  | [], vs, h => by rw [h.nil_of]; exact .nil
  | x :: ds, vs, h => by
    obtain ⟨u, r, e', p, t⟩ := h.cons_of
    subst e'
    rw [List.reverse_cons, List.reverse_cons]
    exact t.reverse.append (.cons p .nil)
theorem RpM.vals : ∀ {m : List (Option Int × D)} {kvs : List (Option Int × V)}, RpM K H m kvs → RpL K H (m.map (·.2)) (kvs.map (·.2)) ∧ kvs.map (·.1) = m.map (·.1)
  | [], kvs, h => by rw [show kvs = [] from h]; exact ⟨.nil, rfl⟩
  | p :: m, kvs, ⟨v, r, e, q, t⟩ => by
    subst e
    obtain ⟨a, b⟩ := t.vals
    exact ⟨.cons q a, by rw [List.map_cons, List.map_cons, b]⟩
theorem RpL.ints : ∀ {ns : List Int} {vs : List V}, RpL K H (ns.map D.int) vs → vs = ns.map V.int
  | [], vs, h => h.nil_of
  | n :: ns, vs, h => by
    obtain ⟨u, r, e', p, t⟩ := RpL.cons_of (d := .int n) (ds := ns.map D.int) h
    unfold Rp at p
    subst e' p
    rw [t.ints]; rfl
theorem RpL.of_ints : ∀ {ns : List Int}, RpL K H (ns.map D.int) (ns.map V.int)
  | [] => .nil
  | n :: ns => .cons (by unfold Rp; rfl) RpL.of_ints
theorem RpL.bls : ∀ {ns : List Bool} {vs : List V}, RpL K H (ns.map D.bl) vs → vs = ns.map V.bl
  | [], vs, h => h.nil_of
  | n :: ns, vs, h => by
    obtain ⟨u, r, e', p, t⟩ := RpL.cons_of (d := .bl n) (ds := ns.map D.bl) h
    unfold Rp at p
    subst e' p
    rw [t.bls]; rfl
theorem RpL.strs : ∀ {ns : List Str} {vs : List V}, RpL K H (ns.map D.str) vs → vs = ns.map V.str
  | [], vs, h => h.nil_of
  | n :: ns, vs, h => by
    obtain ⟨u, r, e', p, t⟩ := RpL.cons_of (d := .str n) (ds := ns.map D.str) h
    unfold Rp at p
    subst e' p
    rw [t.strs]; rfl
theorem Rp.non_ {v : V} (h : Rp K H .non v) : v = .non := by unfold Rp at h; exact h
theorem Rp.bl_ {b : Bool} {v : V} (h : Rp K H (.bl b) v) : v = .bl b := by unfold Rp at h; exact h
theorem Rp.int_ {b : Int} {v : V} (h : Rp K H (.int b) v) : v = .int b := by unfold Rp at h; exact h
theorem Rp.str_ {b : Str} {v : V} (h : Rp K H (.str b) v) : v = .str b := by unfold Rp at h; exact h
theorem Rp.ref_ {b : Addr} {v : V} (h : Rp K H (.ref b) v) : v = .ref b := by unfold Rp at h; exact h
theorem Rp.ty_ {b : String} {v : V} (h : Rp K H (.ty b) v) : v = .ty b := by unfold Rp at h; exact h
theorem Rp.tup_ {b : List D} {v : V} (h : Rp K H (.tup b) v) : ∃ a vs, v = .ref a ∧ TqT K H a vs ∧ RpL K H b vs := by unfold Rp at h; exact h
theorem Rp.lis_ {b : List D} {v : V} (h : Rp K H (.lis b) v) : ∃ a vs, v = .ref a ∧ FzL K H a vs ∧ RpL K H b vs := by unfold Rp at h; exact h
theorem Rp.non : Rp K H .non .non := by unfold Rp; rfl
theorem Rp.bl {b : Bool} : Rp K H (.bl b) (.bl b) := by unfold Rp; rfl
theorem Rp.int {b : Int} : Rp K H (.int b) (.int b) := by unfold Rp; rfl
theorem Rp.str {b : Str} : Rp K H (.str b) (.str b) := by unfold Rp; rfl
theorem Rp.ref {b : Addr} : Rp K H (.ref b) (.ref b) := by unfold Rp; rfl
theorem Rp.ty {b : String} : Rp K H (.ty b) (.ty b) := by unfold Rp; rfl
theorem Rp.tup {b : List D} {a : Addr} {vs : List V} (h : TqT K H a vs) (r : RpL K H b vs) : Rp K H (.tup b) (.ref a) := by unfold Rp; exact ⟨a, vs, rfl, h, r⟩
theorem Rp.par_ {b : List D} {v : V} (h : Rp K H (.par b) v) : ∃ a vs, v = .ref a ∧ SqT K H a vs ∧ RpL K H b vs := by unfold Rp at h; exact h
theorem Rp.dic_ {ks : List (Option Int)} {b : List D} {v : V} (h : Rp K H (.dic ks b) v) : ∃ a o us, v = .ref a ∧ H a = some (.frz o (dkO a (ks.zip us))) ∧ ks.length = us.length ∧ RpL K H b us := by unfold Rp at h; exact h
theorem Rp.dic {ks : List (Option Int)} {b : List D} {a : Addr} {o : Obj} {us : List V} (h : H a = some (.frz o (dkO a (ks.zip us)))) (l : ks.length = us.length) (r : RpL K H b us) : Rp K H (.dic ks b) (.ref a) := by unfold Rp; exact ⟨a, o, us, rfl, h, l, r⟩
theorem Rp.par {b : List D} {a : Addr} {vs : List V} (h : SqT K H a vs) (r : RpL K H b vs) : Rp K H (.par b) (.ref a) := by unfold Rp; exact ⟨a, vs, rfl, h, r⟩
theorem Rp.lis {b : List D} {a : Addr} {vs : List V} (h : FzL K H a vs) (r : RpL K H b vs) : Rp K H (.lis b) (.ref a) := by unfold Rp; exact ⟨a, vs, rfl, h, r⟩
end

/-- the object h stands for o -/
def AOr (K : PySem.W.Frag) (H : Hp) : O → HO → Prop
  | .lst ds, h => ∃ vs, h = .lst vs ∧ RpL K H ds vs
  | .ho o, h => h = o
  | .dct a m, h => ∃ kvs, h = dkO a kvs ∧ RpM K H m kvs
  | .tab q, h => ∃ ps : Array Value, h = .tbl ps ∧ TriplesOk ps.toList ∧ ∀ (pos : Pos) (cv : Value), codeAmong pos ps.toList = some cv → ∃ (c : Addr) (oc : Obj) (vs : Array Value) (t : Tok) (u : HO), cv = .ref c ∧ H c = some (.frz oc u) ∧ oc.data = .fields vs ∧ vs[1]? = some (.str q t)
def AbsS (K : PySem.W.Frag) (S : Sto) (H : Hp) : Prop := ∀ a o, S a = some o → ∃ h, H a = some h ∧ MutT (some h) ∧ AOr K H o h
def AbsE (K : PySem.W.Frag) (H : Hp) : DEnv → L2.St → Prop
  | [], σ => σ = []
  | none :: e, σ => ∃ x r, σ = x :: r ∧ AbsE K H e r
  | some d :: e, σ => ∃ v r, σ = some v :: r ∧ Rp K H d v ∧ AbsE K H e r
/-- a step: what is not of the store is as it was, and stays without -/
def Stp (H : Hp) (S : Sto) (H' : Hp) (S' : Sto) : Prop := ∀ a o, H a = some o → S a = none → H' a = some o ∧ S' a = none
def Sub (S S' : Sto) : Prop := ∀ a o, S a = some o → S' a = some o
theorem Sub.refl (S : Sto) : Sub S S := fun _ _ h => h
theorem Sub.trans {S S1 S2 : Sto} (a : Sub S S1) (b : Sub S1 S2) : Sub S S2 := fun c o h => b c o (a c o h)
theorem Sub.free {S S' : Sto} {a : Addr} (s : Sub S S') (h : S' a = none) : S a = none := by
  cases q : S a with
  | none => rfl
  | some o => rw [s a o q] at h; cases h
theorem Sub.upd {S : Sto} {a : Addr} {o : O} (h : S a = none) : Sub S (S.upd a o) := fun b u e => by
  rw [Sto.upd_ne]
  · exact e
  · intro q; rw [q, h] at e; cases e
theorem Sub.both {S S' : Sto} {a : Addr} {o : O} (s : Sub S S') : Sub (S.upd a o) (S'.upd a o) := fun b u e => by
  by_cases q : b = a
  · subst q
    rw [Sto.upd_same] at e ⊢
    exact e
  · rw [Sto.upd_ne q] at e ⊢
    exact s b u e
section
variable {K : PySem.W.Frag} {H H' H1 H2 : Hp} {S S' S1 S2 : Sto} {σ : L2.St} {env : DEnv} {a : Addr} {o : O} {h : HO}
theorem Stp.refl : Stp H S H S := fun _ _ h q => ⟨h, q⟩
theorem Stp.trans (x : Stp H S H1 S1) (y : Stp H1 S1 H2 S2) : Stp H S H2 S2 := fun a o h q => let ⟨h1, q1⟩ := x a o h q; y a o h1 q1
theorem Stp.sub (x : Stp H S H1 S1) (s : Sub S2 S1) : Stp H S H1 S2 := fun a o h q => let ⟨h1, q1⟩ := x a o h q; ⟨h1, s.free q1⟩
theorem AbsS.sub (x : AbsS K S H) (s : Sub S' S) : AbsS K S' H := fun a o h => x a o (s a o h)
theorem AOr.mon (m : Mon H H') : ∀ {o : O} {h : HO}, AOr K H o h → AOr K H' o h
  | .lst ds, h, ⟨vs, e, r⟩ => ⟨vs, e, r.mon m⟩
  | .ho _, _, e => e
  | .dct a ds, h, ⟨vs, e, r⟩ => ⟨vs, e, r.mon m⟩
  | .tab q, h, ⟨ps, e, t, g⟩ => ⟨ps, e, t, fun pos cv hc => by
    obtain ⟨c, oc, vs, t, u, e1, e2, e3⟩ := g pos cv hc
    exact ⟨c, oc, vs, t, u, e1, m _ _ e2 fun z => z, e3⟩⟩
theorem Stp.mon (s : Stp H S H' S') (x : AbsS K S H) : Mon H H' := fun a o e m => by
  cases q : S a with
  | none => exact (s a o e q).1
  | some u =>
    obtain ⟨h, e', m', _⟩ := x a u q
    rw [e] at e'; cases e'
    exact absurd m' m
theorem AbsE.mon (m : Mon H H') : ∀ {env : DEnv} {σ : L2.St}, AbsE K H env σ → AbsE K H' env σ
  | [], σ, h => (show σ = [] from h)
  | none :: e, σ, h => by
    obtain ⟨x, r, e', q⟩ := h
    exact ⟨x, r, e', AbsE.mon m q⟩
  | some d :: e, σ, h => by
    obtain ⟨v, r, e', p, q⟩ := h
    exact ⟨v, r, e', p.mon m, AbsE.mon m q⟩
theorem AbsE.get : ∀ {env : DEnv} {σ : L2.St} {i : Nat} {d : D}, AbsE K H env σ → env[i]? = some (some d) → ∃ v, σ[i]? = some (some v) ∧ Rp K H d v
  | [], _, _, _, _, e => by simp at e
  | none :: en, σ, 0, d, h, e => by simp at e
  | some x :: en, σ, 0, d, h, e => by
    obtain ⟨v, r, e', p, q⟩ := h
    simp at e
    subst e e'
    exact ⟨v, rfl, p⟩
  | none :: en, σ, i + 1, d, h, e => by
    obtain ⟨x, r, e', q⟩ := h
    subst e'
    obtain ⟨v, h1, h2⟩ := AbsE.get (i := i) (d := d) q (by simpa using e)
    exact ⟨v, by simpa using h1, h2⟩
  | some x :: en, σ, i + 1, d, h, e => by
    obtain ⟨v, r, e', p, q⟩ := h
    subst e'
    obtain ⟨v, h1, h2⟩ := AbsE.get (i := i) (d := d) q (by simpa using e)
    exact ⟨v, by simpa using h1, h2⟩
theorem AbsE.set : ∀ {env : DEnv} {σ : L2.St} (i : Nat) {d : D} {v : V}, AbsE K H env σ → Rp K H d v → AbsE K H (env.set i (some d)) (σ.set i (some v))
  | [], _, _, _, _, h, _ => by
    cases (show _ = [] from h)
    exact rfl
  | none :: en, σ, 0, d, v, h, p => by
    obtain ⟨x, r, e', q⟩ := h
    subst e'
    exact ⟨v, r, rfl, p, q⟩
  | some x :: en, σ, 0, d, v, h, p => by
    obtain ⟨u, r, e', _, q⟩ := h
    subst e'
    exact ⟨v, r, rfl, p, q⟩
  | none :: en, σ, i + 1, d, v, h, p => by
    obtain ⟨x, r, e', q⟩ := h
    subst e'
    exact ⟨x, _, rfl, AbsE.set i q p⟩
  | some x :: en, σ, i + 1, d, v, h, p => by
    obtain ⟨u, r, e', p', q⟩ := h
    subst e'
    exact ⟨u, _, rfl, p', AbsE.set i q p⟩
theorem AbsE.unset : ∀ {env : DEnv} {σ : L2.St} (i : Nat), AbsE K H env σ → AbsE K H (env.set i none) (σ.set i none)
  | [], _, _, h => by
    cases (show _ = [] from h)
    exact rfl
  | none :: en, σ, 0, h => by
    obtain ⟨x, r, e', q⟩ := h
    subst e'
    exact ⟨none, r, rfl, q⟩
  | some x :: en, σ, 0, h => by
    obtain ⟨u, r, e', _, q⟩ := h
    subst e'
    exact ⟨none, r, rfl, q⟩
  | none :: en, σ, i + 1, h => by
    obtain ⟨x, r, e', q⟩ := h
    subst e'
    exact ⟨x, _, rfl, AbsE.unset i q⟩
  | some x :: en, σ, i + 1, h => by
    obtain ⟨u, r, e', p', q⟩ := h
    subst e'
    exact ⟨u, _, rfl, p', AbsE.unset i q⟩
theorem AbsE.length : ∀ {env : DEnv} {σ : L2.St}, AbsE K H env σ → env.length = σ.length
  | [], _, h => by
    cases (show _ = [] from h)
    rfl
  | none :: en, σ, h => by
    obtain ⟨x, r, e', q⟩ := h
    subst e'
    rw [List.length_cons, List.length_cons, q.length]
  | some x :: en, σ, h => by
    obtain ⟨u, r, e', _, q⟩ := h
    subst e'
    rw [List.length_cons, List.length_cons, q.length]
def wipeE (env : DEnv) : List Nat → DEnv
  | [] => env
  | v :: vs => (wipeE env vs).set v none
theorem AbsE.wipe (x : AbsE K H env σ) : ∀ vs : List Nat, AbsE K H (wipeE env vs) (L2.wipe σ vs)
  | [] => x
  | v :: vs => (AbsE.wipe x vs).unset v
/-- an object is laid -/
theorem Mon.laid {p : Addr} {h : HO} (n : H p = none) : Mon H (L2.upd H p h) := fun a o e _ => by
  rw [L2.upd_ne]
  · exact e
  · intro q; rw [q, n] at e; cases e
theorem AbsS.free (x : AbsS K S H) {p : Addr} (n : H p = none) : S p = none := by
  cases q : S p with
  | none => rfl
  | some o =>
    obtain ⟨h, e, _⟩ := x p o q
    rw [n] at e; cases e
theorem Stp.laid {p : Addr} {h : HO} {o : O} (n : H p = none) : Stp H S (L2.upd H p h) (S.upd p o) := fun a u e q => by
  have ne : a ≠ p := by intro z; rw [z, n] at e; cases e
  exact ⟨by rw [L2.upd_ne ne]; exact e, by rw [Sto.upd_ne ne]; exact q⟩
theorem Stp.laid0 {p : Addr} {h : HO} (n : H p = none) : Stp H S (L2.upd H p h) S := fun a u e q => by
  have ne : a ≠ p := by intro z; rw [z, n] at e; cases e
  exact ⟨by rw [L2.upd_ne ne]; exact e, q⟩
theorem AbsS.laid0 {p : Addr} {h : HO} (x : AbsS K S H) (n : H p = none) : AbsS K S (L2.upd H p h) := fun a o e => by
  obtain ⟨u, e1, m, r⟩ := x a o e
  have ne : a ≠ p := by intro z; rw [z, n] at e1; cases e1
  exact ⟨u, by rw [L2.upd_ne ne]; exact e1, m, r.mon (Mon.laid n)⟩
theorem AbsS.laid {p : Addr} {h : HO} (x : AbsS K S H) (n : H p = none) (m : MutT (some h)) (r : AOr K (L2.upd H p h) o h) : AbsS K (S.upd p o) (L2.upd H p h) := fun a u e => by
  by_cases ne : a = p
  · subst ne
    rw [Sto.upd_same] at e
    cases e
    exact ⟨h, L2.upd_same, m, r⟩
  · rw [Sto.upd_ne ne] at e
    exact x.laid0 n a u e
/-- an object of the store is changed -/
theorem Mon.write {p : Addr} {h h0 : HO} (e0 : H p = some h0) (m : MutT (some h0)) : Mon H (L2.upd H p h) := fun a o e nm => by
  rw [L2.upd_ne]
  · exact e
  · intro q; rw [q, e0] at e; cases e; exact nm m
theorem Stp.write {p : Addr} {h : HO} {o u : O} (q : S p = some u) : Stp H S (L2.upd H p h) (S.upd p o) := fun a v e n => by
  have ne : a ≠ p := by intro z; rw [z, q] at n; cases n
  exact ⟨by rw [L2.upd_ne ne]; exact e, by rw [Sto.upd_ne ne]; exact n⟩
theorem AbsS.write {p : Addr} {h h0 : HO} (x : AbsS K S H) (e0 : H p = some h0) (m0 : MutT (some h0)) (m : MutT (some h)) (r : AOr K (L2.upd H p h) o h) : AbsS K (S.upd p o) (L2.upd H p h) := fun a u e => by
  by_cases ne : a = p
  · subst ne
    rw [Sto.upd_same] at e
    cases e
    exact ⟨h, L2.upd_same, m, r⟩
  · rw [Sto.upd_ne ne] at e
    obtain ⟨v, e1, m1, r1⟩ := x a u e
    exact ⟨v, by rw [L2.upd_ne ne]; exact e1, m1, r1.mon (Mon.write e0 m0)⟩
theorem AbsS.lst {ds : List D} (x : AbsS K S H) (q : S a = some (.lst ds)) : ∃ vs, H a = some (.lst vs) ∧ RpL K H ds vs := by
  obtain ⟨h, e, _, vs, rfl, r⟩ := x a _ q
  exact ⟨vs, e, r⟩
end
end DL
namespace DL
open PySem PySem.Spec PyProof.Rows L2

abbrev RK := D → Sto → Prop
abbrev RT := DEnv → Sto → RK → Prop
def Cl (K : PySem.W.Frag) (H : Hp) (S : Sto) (k : RK) (Q : VK) : Prop := ∀ d S' v H', k d S' → Stp H S H' S' → Rp K H' d v → AbsS K S' H' → Q v H'
def tR (K : PySem.W.Frag) (r : RT) : TE := fun σ H Q => ∃ env S k, AbsE K H env σ ∧ AbsS K S H ∧ r env S k ∧ Cl K H S k Q
def RE (X : Cx) (e : Expr) (r : RT) : Prop := PE X e (tR X.K r)
abbrev TK := Bool → Sto → Prop
abbrev RTt := DEnv → Sto → TK → Prop
def ClB (K : PySem.W.Frag) (H : Hp) (S : Sto) (k : TK) (Q : Bool → Hp → Prop) : Prop := ∀ b S' H', k b S' → Stp H S H' S' → AbsS K S' H' → Q b H'
def tT (K : PySem.W.Frag) (r : RTt) : TT := fun σ H Q => ∃ env S k, AbsE K H env σ ∧ AbsS K S H ∧ r env S k ∧ ClB K H S k Q
def TR (X : Cx) (e : Expr) (r : RTt) : Prop := PT X e (tT X.K r)
abbrev AK := List D → Sto → Prop
abbrev RTa := DEnv → Sto → AK → Prop
def ClA (K : PySem.W.Frag) (H : Hp) (S : Sto) (k : AK) (Q : List V → Hp → Prop) : Prop := ∀ ds S' vs H', k ds S' → Stp H S H' S' → RpL K H' ds vs → AbsS K S' H' → Q vs H'
def tA (K : PySem.W.Frag) (r : RTa) : TA := fun σ H Q => ∃ env S k, AbsE K H env σ ∧ AbsS K S H ∧ r env S k ∧ ClA K H S k Q
def RA (X : Cx) (es : List Expr) (r : RTa) : Prop := PA X es (tA X.K r)

section
variable {X : Cx} {K : PySem.W.Frag} {H H1 : Hp} {S S1 : Sto}
theorem Cl.after {k : RK} {Q : VK} (c : Cl K H S k Q) (s : Stp H S H1 S1) : Cl K H1 S1 k Q := fun d S' v H' q st r a => c d S' v H' q (s.trans st) r a
theorem ClB.after {k : TK} {Q : Bool → Hp → Prop} (c : ClB K H S k Q) (s : Stp H S H1 S1) : ClB K H1 S1 k Q := fun d S' H' q st a => c d S' H' q (s.trans st) a
theorem ClA.after {k : AK} {Q : List V → Hp → Prop} (c : ClA K H S k Q) (s : Stp H S H1 S1) : ClA K H1 S1 k Q := fun d S' v H' q st r a => c d S' v H' q (s.trans st) r a
theorem PE.imp {e : Expr} {t t' : TE} (h : PE X e t) (i : ∀ σ H Q, t' σ H Q → t σ H Q) : PE X e t' := ⟨fun pins s σ H Q I q => h.run pins s σ H Q I (i σ H Q q)⟩
theorem PT.imp {e : Expr} {t t' : TT} (h : PT X e t) (i : ∀ σ H Q, t' σ H Q → t σ H Q) : PT X e t' := ⟨fun pins s σ H Q I q => h.run pins s σ H Q I (i σ H Q q)⟩
theorem PW.imp {e : Expr} {t t' : TT} (h : PW X e t) (i : ∀ σ H Q, t' σ H Q → t σ H Q) : PW X e t' := ⟨fun wh pins s σ H Q I q => h.run wh pins s σ H Q I (i σ H Q q)⟩
theorem PA.imp {e : List Expr} {t t' : TA} (h : PA X e t) (i : ∀ σ H Q, t' σ H Q → t σ H Q) : PA X e t' := ⟨fun pos pins s σ H Q I q => h.run pos pins s σ H Q I (i σ H Q q)⟩

/-! ### names, constants -/
def rVar (i : Nat) : RT := fun env S k => match env[i]? with
  | some (some d) => k d S
  | _ => False
def rC (d : D) : RT := fun _ S k => k d S
theorem re_var (i : Nat) {x : Str} {pos : Pos} (hN : X.N[i]? = some x := by rfl) (hv : Vis X.env.scope x := by first | exact Or.inl rfl | exact Or.inr (Or.inl rfl) | exact Or.inr (Or.inr rfl))
    (hd : (x == ("__debug__" : Str)) = false := by decide) (hcd : (x == ("__classdict__" : Str)) = false := by decide) : RE X (.Name x pos) (rVar i) := by
  refine PE.imp (pe_var hN hv hd hcd) fun σ H Q ⟨env, S, k, hE, hS, h, c⟩ => ?_
  unfold rVar at h
  split at h
  · rename_i d e
    obtain ⟨v, e', r⟩ := hE.get e
    exact ⟨v, e', c _ _ _ _ h Stp.refl r hS⟩
  · exact h.elim
theorem re_const {e : Expr} {v : V} {d : D} (h : PE X e (tC v)) (r : ∀ H, Rp X.K H d v) : RE X e (rC d) :=
  PE.imp h fun σ H Q ⟨env, S, k, hE, hS, q, c⟩ => c _ _ _ _ q Stp.refl (r H) hS
theorem re_int {i j pos} : RE X (.Constant (.int i) j pos) (rC (.int i)) := re_const pe_int fun _ => .int
theorem re_bl {i j pos} : RE X (.Constant (.bool i) j pos) (rC (.bl i)) := re_const pe_bl fun _ => .bl
theorem re_non {j pos} : RE X (.Constant .none j pos) (rC .non) := re_const pe_non fun _ => .non
theorem re_str {i j pos} : RE X (.Constant (.str i) j pos) (rC (.str i)) := re_const pe_str fun _ => .str
theorem re_glob {x : Str} {v : V} {d : D} {u : Value} {pos : Pos} (hg : Gl X x) (hm : X.mg x = some u) (r : RelV v u) (rd : ∀ H, Rp X.K H d v) (hd : (x == ("__debug__" : Str)) = false := by decide) : RE X (.Name x pos) (rC d) := re_const (pe_glob hg hm r hd) rd
theorem re_gint {x : Str} {i : Int} {pos : Pos} (hg : Gl X x) (hm : ∃ t, X.mg x = some (.int i t)) (hd : (x == ("__debug__" : Str)) = false := by decide) : RE X (.Name x pos) (rC (.int i)) := by
  obtain ⟨t, hm⟩ := hm
  exact re_const (pe_glob (v := .int i) hg hm ⟨t, rfl⟩ hd) fun _ => .int
theorem re_type {x : Str} {n : String} {pos : Pos} (hg : Gl X x) (hm : X.mg x = none) (hv : bootBuiltins x = some (.type n)) (hn : x ≠ "__name__" := by decide) (hd : (x == ("__debug__" : Str)) = false := by decide) : RE X (.Name x pos) (rC (.ty n)) :=
  re_const (pe_bltn (v := .ty n) hg hm hv rfl hn hd) fun _ => .ty

/-! ### operations on values -/
abbrev F1 := D → Sto → RK → Prop
abbrev F2 := D → D → Sto → RK → Prop
abbrev FL := List D → Sto → RK → Prop
def Op2 (X : Cx) (f : Value → Value → Sem Value) (g : F2) : Prop := ∃ r, OpR X f r ∧ ∀ x y S k v u H Q, g x y S k → Rp X.K H x v → Rp X.K H y u → AbsS X.K S H → Cl X.K H S k Q → r v u H Q
def Un1 (X : Cx) (f : Value → Sem Value) (g : F1) : Prop := ∃ r, UnR X f r ∧ ∀ x S k v H Q, g x S k → Rp X.K H x v → AbsS X.K S H → Cl X.K H S k Q → r v H Q
def CallD (X : Cx) (f : Value) (g : FL) : Prop := ∃ r, CallR X f r ∧ ∀ ds S k vs H Q, g ds S k → RpL X.K H ds vs → AbsS X.K S H → Cl X.K H S k Q → r vs H Q
def MtD (X : Cx) (id : String) (g : D → FL) : Prop := ∃ r, MtR X id r ∧ ∀ x ds S k v vs H Q, g x ds S k → Rp X.K H x v → RpL X.K H ds vs → AbsS X.K S H → Cl X.K H S k Q → r v vs H Q
def IxD (X : Cx) (g : F2) : Prop := ∃ r, IxR X r ∧ ∀ x y S k v u H Q, g x y S k → Rp X.K H x v → Rp X.K H y u → AbsS X.K S H → Cl X.K H S k Q → r v u H Q
abbrev FS := D → Option Int → Option Int → Sto → RK → Prop
def SlD (X : Cx) (g : FS) : Prop := ∃ r, SlR X r ∧ ∀ x lo hi S k v H Q, g x lo hi S k → Rp X.K H x v → AbsS X.K S H → Cl X.K H S k Q → r v lo hi H Q
theorem Op2.or {f : Value → Value → Sem Value} {g g' : F2} (h : Op2 X f g) (h' : Op2 X f g') : Op2 X f fun x y S k => g x y S k ∨ g' x y S k := by
  obtain ⟨r, a, b⟩ := h
  obtain ⟨r', a', b'⟩ := h'
  refine ⟨_, a.or a', fun x y S k v u H Q q rx ry hS c => ?_⟩
  rcases q with q | q
  · exact .inl (b x y S k v u H Q q rx ry hS c)
  · exact .inr (b' x y S k v u H Q q rx ry hS c)
theorem Op2.imp {f : Value → Value → Sem Value} {g g' : F2} (h : Op2 X f g) (i : ∀ x y S k, g' x y S k → g x y S k) : Op2 X f g' := by
  obtain ⟨r, a, b⟩ := h
  exact ⟨r, a, fun x y S k v u H Q q rx ry hS c => b x y S k v u H Q (i x y S k q) rx ry hS c⟩

variable {a b c e : Expr} {es : List Expr} {ra rb rc : RT} {rl : RTa} {pos : Pos}
def rBin (g : F2) (ra rb : RT) : RT := fun env S k => ra env S fun x S1 => rb env S1 fun y S2 => g x y S2 k
/-- two in a row -/
theorem two {σ : L2.St} {Q : VK} {r2 : R2} {g : F2} (hc : ∀ x y S k v u H Q, g x y S k → Rp X.K H x v → Rp X.K H y u → AbsS X.K S H → Cl X.K H S k Q → r2 v u H Q) (h : tR X.K (rBin g ra rb) σ H Q) :
    tR X.K ra σ H fun x H1 => tR X.K rb σ H1 fun y H2 => r2 x y H2 Q := by
  obtain ⟨env, S, k, hE, hS, h, cl⟩ := h
  refine ⟨env, S, _, hE, hS, h, fun x S1 v H1 q st rx hS1 => ?_⟩
  refine ⟨env, S1, _, hE.mon (st.mon hS), hS1, q, fun y S2 u H2 q2 st2 ry hS2 => ?_⟩
  exact hc x y S2 k v u H2 Q q2 (rx.mon (st2.mon hS1)) ry hS2 ((cl.after st).after st2)
theorem re_bin {op : Operator} {g : F2} (ho : Op2 X (binaryOp op) g) (ha : RE X a ra) (hb : RE X b rb) : RE X (.BinOp a op b pos) (rBin g ra rb) := by
  obtain ⟨r, ho, hc⟩ := ho
  exact PE.imp (pe_op ho ha hb) fun σ H Q h => two hc h
def rUn (g : F1) (ra : RT) : RT := fun env S k => ra env S fun x S1 => g x S1 k
theorem re_un {op : UnaryOp} {g : F1} (ho : Un1 X (unaryOp op) g) (ha : RE X a ra) : RE X (.UnaryOp op a pos) (rUn g ra) := by
  obtain ⟨r, ho, hc⟩ := ho
  refine PE.imp (pe_un ho ha) fun σ H Q h => ?_
  obtain ⟨env, S, k, hE, hS, h, cl⟩ := h
  refine ⟨env, S, _, hE, hS, h, fun x S1 v H1 q st rx hS1 => hc x S1 k v H1 Q q rx hS1 (cl.after st)⟩
theorem re_cmp {op : CmpOp} {g : F2} (ho : Op2 X (compareOp op) g) (ha : RE X a ra) (hb : RE X b rb) (hm : behindInMarks op b = false) : RE X (.Compare a [op] [b] pos) (rBin g ra rb) := by
  obtain ⟨r, ho, hc⟩ := ho
  exact PE.imp (pe_cmpR ho ha hb hm) fun σ H Q h => two hc h
/-- a bool as a test -/
def rB (r : RT) : RTt := fun env S k => r env S fun d S' => match d with
  | .bl b => k b S'
  | _ => False
theorem cl_b {k : TK} {Q : Bool → Hp → Prop} (c : ClB X.K H S k Q) : Cl X.K H S (fun d S' => match d with
  | .bl b => k b S'
  | _ => False) (fun v H' => ∃ b, v = .bl b ∧ Q b H') := fun d S' v H' q st r a => by
  dsimp only at q ⊢
  split at q
  · exact ⟨_, r.bl_, c _ _ _ q st a⟩
  · exact q.elim
theorem tr_val {r : RT} (h : RE X e r) (he : ∀ whole, isTrue e X.env whole = (do let v ← whole; standAt e.pos; holding [v] (truthy v)) := by intro _; rfl) : TR X e (rB r) :=
  PT.imp (pt_val h he) fun σ H Q ⟨env, S, k, hE, hS, q, c⟩ => ⟨env, S, _, hE, hS, q, cl_b c⟩
theorem tr_cmp {op : CmpOp} {g : F2} (ho : Op2 X (compareOp op) g) (ha : RE X a ra) (hb : RE X b rb) (hm : behindInMarks op b = false) : TR X (.Compare a [op] [b] pos) (rB (rBin g ra rb)) := by
  obtain ⟨r, ho, hc⟩ := ho
  exact PT.imp (pt_cmpR ho ha hb hm) fun σ H Q ⟨env, S, k, hE, hS, q, c⟩ => two hc ⟨env, S, _, hE, hS, q, cl_b c⟩
def rChain (g g' : F2) (ra rb rc : RT) : RT := fun env S k => ra env S fun x S1 => rb env S1 fun y S2 => g x y S2 fun d S3 => match d with
  | .bl true => rc env S3 fun z S4 => g' y z S4 k
  | .bl false => k (.bl false) S3
  | _ => False
theorem chain_go {σ : L2.St} {Q : VK} {g g' : F2} {r r' : R2} (hc : ∀ x y S k v u H Q, g x y S k → Rp X.K H x v → Rp X.K H y u → AbsS X.K S H → Cl X.K H S k Q → r v u H Q)
    (hc' : ∀ x y S k v u H Q, g' x y S k → Rp X.K H x v → Rp X.K H y u → AbsS X.K S H → Cl X.K H S k Q → r' v u H Q) (h : tR X.K (rChain g g' ra rb rc) σ H Q) : tChain r r' (tR X.K ra) (tR X.K rb) (tR X.K rc) σ H Q := by
  obtain ⟨env, S, k, hE, hS, h, cl⟩ := h
  refine ⟨env, S, _, hE, hS, h, fun x S1 v H1 q st rx hS1 => ?_⟩
  refine ⟨env, S1, _, hE.mon (st.mon hS), hS1, q, fun y S2 u H2 q2 st2 ry hS2 => ?_⟩
  refine hc x y S2 _ v u H2 _ q2 (rx.mon (st2.mon hS1)) ry hS2 fun d S3 z H3 q3 st3 rz hS3 => ?_
  split at q3
  · refine ⟨true, rz.bl_, ?_⟩
    rw [if_pos rfl]
    refine ⟨env, S3, _, ((hE.mon (st.mon hS)).mon (st2.mon hS1)).mon (st3.mon hS2), hS3, q3, fun w S4 t H4 q4 st4 rw_ hS4 => ?_⟩
    exact hc' y w S4 k u t H4 Q q4 ((ry.mon (st3.mon hS2)).mon (st4.mon hS3)) rw_ hS4 ((((cl.after st).after st2).after st3).after st4)
  · refine ⟨false, rz.bl_, ?_⟩
    rw [if_neg Bool.false_ne_true]
    exact cl _ _ _ _ q3 ((st.trans st2).trans st3) .bl hS3
  · exact q3.elim
theorem re_chain {op op' : CmpOp} {g g' : F2} (ho : Op2 X (compareOp op) g) (ho' : Op2 X (compareOp op') g') (ha : RE X a ra) (hb : RE X b rb) (hc : RE X c rc)
    (hm : lastMarks [op, op'] [b, c] = false := by with_unfolding_all rfl) : RE X (.Compare a [op, op'] [b, c] pos) (rChain g g' ra rb rc) := by
  obtain ⟨r, ho, h1⟩ := ho
  obtain ⟨r', ho', h2⟩ := ho'
  exact PE.imp (pe_chain ho ho' ha hb hc hm) fun σ H Q h => chain_go h1 h2 h
theorem tr_chain {op op' : CmpOp} {g g' : F2} (ho : Op2 X (compareOp op) g) (ho' : Op2 X (compareOp op') g') (ha : RE X a ra) (hb : RE X b rb) (hc : RE X c rc)
    (hm : lastMarks [op, op'] [b, c] = false := by with_unfolding_all rfl) : TR X (.Compare a [op, op'] [b, c] pos) (rB (rChain g g' ra rb rc)) := by
  obtain ⟨r, ho, h1⟩ := ho
  obtain ⟨r', ho', h2⟩ := ho'
  exact PT.imp (pt_chain ho ho' ha hb hc hm) fun σ H Q ⟨env, S, k, hE, hS, q, c⟩ => chain_go h1 h2 ⟨env, S, _, hE, hS, q, cl_b c⟩

/-! ### and, or, not, if -/
variable {tA' tB' : RTt} {rest : List Expr}
def WR (X : Cx) (e : Expr) (r : RTt) : Prop := PW X e (tT X.K r)
def rAnd (t u : RTt) : RTt := fun env S k => t env S fun c S1 => if c = true then u env S1 k else k false S1
def rOr (t u : RTt) : RTt := fun env S k => t env S fun c S1 => if c = true then k true S1 else u env S1 k
def rNot (t : RTt) : RTt := fun env S k => t env S fun c S1 => k (!c) S1
theorem TR.w (h : WR X e tA') : TR X e tA' := L2.PW.pt h
theorem wr_and1 (ha : TR X a tA') : WR X (.BoolOp .And [a] pos) tA' := pw_and1 ha
theorem wr_or1 (ha : TR X a tA') : WR X (.BoolOp .Or [a] pos) tA' := pw_or1 ha
theorem wr_and (ha : TR X a tA') (hb : WR X (.BoolOp .And (b :: rest) pos) tB') : WR X (.BoolOp .And (a :: b :: rest) pos) (rAnd tA' tB') := by
  refine PW.imp (pw_and ha hb) fun σ H Q ⟨env, S, k, hE, hS, q, cl⟩ => ?_
  refine ⟨env, S, _, hE, hS, q, fun c S1 H1 q1 st hS1 => ?_⟩
  by_cases h : c = true
  · rw [if_pos h] at q1 ⊢
    exact ⟨env, S1, k, hE.mon (st.mon hS), hS1, q1, cl.after st⟩
  · rw [if_neg h] at q1 ⊢
    exact cl _ _ _ q1 st hS1
theorem wr_or (ha : TR X a tA') (hb : WR X (.BoolOp .Or (b :: rest) pos) tB') : WR X (.BoolOp .Or (a :: b :: rest) pos) (rOr tA' tB') := by
  refine PW.imp (pw_or ha hb) fun σ H Q ⟨env, S, k, hE, hS, q, cl⟩ => ?_
  refine ⟨env, S, _, hE, hS, q, fun c S1 H1 q1 st hS1 => ?_⟩
  by_cases h : c = true
  · rw [if_pos h] at q1 ⊢
    exact cl _ _ _ q1 st hS1
  · rw [if_neg h] at q1 ⊢
    exact ⟨env, S1, k, hE.mon (st.mon hS), hS1, q1, cl.after st⟩
theorem tr_not (ha : TR X a tA') : TR X (.UnaryOp .Not a pos) (rNot tA') := by
  refine PT.imp (pt_not ha) fun σ H Q ⟨env, S, k, hE, hS, q, cl⟩ => ?_
  exact ⟨env, S, _, hE, hS, q, fun c S1 H1 q1 st hS1 => cl _ _ _ q1 st hS1⟩
/-- as values: bools -/
def rAndV (ra rb : RT) : RT := fun env S k => ra env S fun x S1 => match x with
  | .bl true => rb env S1 k
  | .bl false => k (.bl false) S1
  | _ => False
def rOrV (ra rb : RT) : RT := fun env S k => ra env S fun x S1 => match x with
  | .bl false => rb env S1 k
  | .bl true => k (.bl true) S1
  | _ => False
def rNotV (ra : RT) : RT := fun env S k => ra env S fun x S1 => match x with
  | .bl b => k (.bl (!b)) S1
  | _ => False
theorem re_one {op} (h : RE X a ra) : RE X (.BoolOp op [a] pos) ra := pe_one h
theorem re_and (ha : RE X a ra) (hb : RE X (.BoolOp .And (b :: rest) pos) rb) : RE X (.BoolOp .And (a :: b :: rest) pos) (rAndV ra rb) := by
  refine PE.imp (pe_and ha hb) fun σ H Q ⟨env, S, k, hE, hS, q, cl⟩ => ?_
  refine ⟨env, S, _, hE, hS, q, fun c S1 v H1 q1 st r hS1 => ?_⟩
  split at q1
  · refine ⟨true, r.bl_, ?_⟩
    rw [if_pos rfl]
    exact ⟨env, S1, k, hE.mon (st.mon hS), hS1, q1, cl.after st⟩
  · refine ⟨false, r.bl_, ?_⟩
    rw [if_neg Bool.false_ne_true]
    exact cl _ _ _ _ q1 st .bl hS1
  · exact q1.elim
theorem re_or (ha : RE X a ra) (hb : RE X (.BoolOp .Or (b :: rest) pos) rb) : RE X (.BoolOp .Or (a :: b :: rest) pos) (rOrV ra rb) := by
  refine PE.imp (pe_or ha hb) fun σ H Q ⟨env, S, k, hE, hS, q, cl⟩ => ?_
  refine ⟨env, S, _, hE, hS, q, fun c S1 v H1 q1 st r hS1 => ?_⟩
  split at q1
  · refine ⟨false, r.bl_, ?_⟩
    rw [if_neg Bool.false_ne_true]
    exact ⟨env, S1, k, hE.mon (st.mon hS), hS1, q1, cl.after st⟩
  · refine ⟨true, r.bl_, ?_⟩
    rw [if_pos rfl]
    exact cl _ _ _ _ q1 st .bl hS1
  · exact q1.elim
theorem re_not (ha : RE X a ra) : RE X (.UnaryOp .Not a pos) (rNotV ra) := by
  refine PE.imp (pe_not ha) fun σ H Q ⟨env, S, k, hE, hS, q, cl⟩ => ?_
  refine ⟨env, S, _, hE, hS, q, fun c S1 v H1 q1 st r hS1 => ?_⟩
  split at q1
  · exact ⟨_, r.bl_, cl _ _ _ _ q1 st .bl hS1⟩
  · exact q1.elim
def rIfE (t : RTt) (ra rb : RT) : RT := fun env S k => t env S fun c S1 => if c = true then ra env S1 k else rb env S1 k
theorem re_if (hc : TR X c tA') (ha : RE X a ra) (hb : RE X b rb) : RE X (.IfExp c a b pos) (rIfE tA' ra rb) := by
  refine PE.imp (pe_ifExp hc ha hb) fun σ H Q ⟨env, S, k, hE, hS, q, cl⟩ => ?_
  refine ⟨env, S, _, hE, hS, q, fun c S1 H1 q1 st hS1 => ?_⟩
  by_cases h : c = true
  · rw [if_pos h] at q1 ⊢
    exact ⟨env, S1, k, hE.mon (st.mon hS), hS1, q1, cl.after st⟩
  · rw [if_neg h] at q1 ⊢
    exact ⟨env, S1, k, hE.mon (st.mon hS), hS1, q1, cl.after st⟩

/-! ### argument lists, displays -/
def rNil : RTa := fun _ S k => k [] S
def rCons (ra : RT) (rl : RTa) : RTa := fun env S k => ra env S fun d S1 => rl env S1 fun ds S2 => k (d :: ds) S2
theorem ra_nil : RA X [] rNil := PA.imp pa_nil fun σ H Q ⟨env, S, k, hE, hS, q, cl⟩ => cl _ _ _ _ q Stp.refl .nil hS
theorem ra_cons (ha : RE X e ra) (hr : RA X es rl) (hs : starEach (e :: es) X.env = (false, eval e X.env) :: starEach es X.env := by rfl) : RA X (e :: es) (rCons ra rl) := by
  refine PA.imp (pa_cons ha hr hs) fun σ H Q ⟨env, S, k, hE, hS, q, cl⟩ => ?_
  refine ⟨env, S, _, hE, hS, q, fun d S1 v H1 q1 st r hS1 => ?_⟩
  refine ⟨env, S1, _, hE.mon (st.mon hS), hS1, q1, fun ds S2 vs H2 q2 st2 r2 hS2 => ?_⟩
  exact cl _ _ _ _ q2 (st.trans st2) (.cons (r.mon (st2.mon hS1)) r2) hS2
def rTup (rl : RTa) : RT := fun env S k => rl env S fun ds S1 => ds.length ≤ sizeLine ∧ k (.tup ds) S1
def rLst (rl : RTa) : RT := fun env S k => rl env S fun ds S1 => ds.length ≤ sizeLine ∧ ∀ p, S1 p = none → k (.ref p) (S1.upd p (.lst ds))
/-- a written tuple: its object is known -/
theorem pe_tupF {t : TA} {x1} (h : PA X es t) : PE X (.Tuple es x1 pos) (fun σ H Q => t σ H fun xs H1 => xs.length ≤ sizeLine ∧ ∀ p o, o.dict = none → H1 p = none → Q (.ref p) (L2.upd H1 p (.frz o (.tup xs)))) := by
  constructor
  intro pins s σ H Q I hq
  refine wpAny_Tuple_spliced (thn (h.run pos pins s σ H _ I hq) ?_)
  rintro us s1 ⟨xs, H1, I1, r, z, q⟩
  refine ⟨by rw [← r.length]; exact z, ?_⟩
  refine ⟨.ref s1.heap.objs.size, L2.upd H1 s1.heap.objs.size (.frz { cls := .type "tuple", data := .seq us.toArray } (.tup xs)), I1.laid (t' := s1.toks) (fun b u e => Heap.get?_push_of_some _ e) (Nat.le_refl _) ?_, rfl, q _ _ rfl (I1.hok.fresh (Nat.le_refl _))⟩
  exact ⟨Heap.get?_push_size _ rfl, z, us, r, ⟨_, Heap.get?_push_size _ rfl, rfl, _, rfl⟩⟩
/-- a new tuple -/
theorem cl_newT {k : RK} {Q : VK} {ds : List D} {vs : List V} (cl : Cl K H S k Q) (hS : AbsS K S H) (r : RpL K H ds vs) (q : k (.tup ds) S) : ∀ p o, o.dict = none → H p = none → Q (.ref p) (L2.upd H p (.frz o (.tup vs))) := fun p o ho hp =>
  cl _ _ _ _ q (Stp.laid0 hp) (.tup (.inl ⟨o, L2.upd_same, ho⟩) (r.mon (Mon.laid hp))) (hS.laid0 hp)
theorem re_tup {x1} (h : RA X es rl) : RE X (.Tuple es x1 pos) (rTup rl) := by
  refine PE.imp (pe_tupF h) fun σ H Q ⟨env, S, k, hE, hS, q, cl⟩ => ?_
  refine ⟨env, S, _, hE, hS, q, fun ds S1 vs H1 q1 st r hS1 => ?_⟩
  obtain ⟨hl, q1⟩ := q1
  exact ⟨by rw [← r.length]; exact hl, cl_newT (cl.after st) hS1 r q1⟩
/-- a new list -/
theorem cl_new {k : RK} {Q : VK} {ds : List D} {vs : List V} (cl : Cl K H S k Q) (hS : AbsS K S H) (r : RpL K H ds vs) (q : ∀ p, S p = none → k (.ref p) (S.upd p (.lst ds))) : ∀ p, H p = none → Q (.ref p) (L2.upd H p (.lst vs)) := fun p hp =>
  cl _ _ _ _ (q p (hS.free hp)) (Stp.laid hp) .ref (hS.laid hp True.intro ⟨vs, rfl, r.mon (Mon.laid hp)⟩)
theorem re_lst (h : RA X es rl) : RE X (.List es pos) (rLst rl) := by
  refine PE.imp (pe_lst h) fun σ H Q ⟨env, S, k, hE, hS, q, cl⟩ => ?_
  refine ⟨env, S, _, hE, hS, q, fun ds S1 vs H1 q1 st r hS1 => ?_⟩
  obtain ⟨hl, q1⟩ := q1
  exact ⟨by rw [← r.length]; exact hl, cl_new (cl.after st) hS1 r q1⟩
/-! ### calls of builtins -/
variable {x : Str} {p : Pos} {id T : String}
def rCallB (g : FL) (rl : RTa) : RT := fun env S k => rl env S fun ds S1 => g ds S1 k
theorem call_go {σ : L2.St} {Q : VK} {g : FL} {r : List V → Hp → VK → Prop} (hc : ∀ ds S k vs H Q, g ds S k → RpL X.K H ds vs → AbsS X.K S H → Cl X.K H S k Q → r vs H Q) (h : tR X.K (rCallB g rl) σ H Q) : tCB r (tA X.K rl) σ H Q := by
  obtain ⟨env, S, k, hE, hS, q, cl⟩ := h
  exact ⟨env, S, _, hE, hS, q, fun ds S1 vs H1 q1 st r1 hS1 => hc ds S1 k vs H1 Q q1 r1 hS1 (cl.after st)⟩
theorem re_callB {g : FL} (hc : CallD X (.builtin id) g) (hg : Gl X x) (hm : X.mg x = none) (hv : bootBuiltins x = some (.builtin id)) (ha : RA X (e :: es) rl) (hn : x ≠ "__name__" := by decide) (hdb : (x == ("__debug__" : Str)) = false := by decide)
    (he : starEach (e :: es) X.env = (false, eval e X.env) :: starEach es X.env := by rfl) (hpl : (backTo pos (starEach es X.env)).any (·.1) = false := by rfl) : RE X (.Call (.Name x p) (e :: es) [] pos) (rCallB g rl) := by
  obtain ⟨r, h1, h2⟩ := hc
  exact PE.imp (pe_callB h1 hg hm hv ha hn hdb he hpl) fun σ H Q h => call_go h2 h
theorem re_callTy {g : FL} (hc : CallD X (.type T) g) (hg : Gl X x) (hm : X.mg x = none) (hv : bootBuiltins x = some (.type T)) (ha : RA X (e :: es) rl) (hn : x ≠ "__name__" := by decide) (hdb : (x == ("__debug__" : Str)) = false := by decide)
    (he : starEach (e :: es) X.env = (false, eval e X.env) :: starEach es X.env := by rfl) (hpl : (backTo pos (starEach es X.env)).any (·.1) = false := by rfl) : RE X (.Call (.Name x p) (e :: es) [] pos) (rCallB g rl) := by
  obtain ⟨r, h1, h2⟩ := hc
  exact PE.imp (pe_callTy h1 hg hm hv ha hn hdb he hpl) fun σ H Q h => call_go h2 h
end
end DL
namespace DL
open PySem PySem.Spec PyProof.Rows L2

/-! ### statements -/
structure DE where
  nx : DEnv → Sto → Prop
  rt : RK
  bk : DEnv → Sto → Prop := fun _ _ => False
  ct : DEnv → Sto → Prop := fun _ _ => False
abbrev RTs := DE → DEnv → Sto → Prop
def ClN (K : PySem.W.Frag) (H : Hp) (S : Sto) (k : DEnv → Sto → Prop) (Q : L2.St → Hp → Prop) : Prop := ∀ env S' σ H', k env S' → Stp H S H' S' → AbsE K H' env σ → AbsS K S' H' → Q σ H'
structure ClS (K : PySem.W.Frag) (H : Hp) (S : Sto) (ed : DE) (D : Ends) : Prop where
  nx : ClN K H S ed.nx D.nx
  rt : Cl K H S ed.rt D.rt
  bk : ClN K H S ed.bk D.bk
  ct : ClN K H S ed.ct D.ct
def tS (K : PySem.W.Frag) (r : RTs) : TS := fun D σ H => ∃ env S ed, AbsE K H env σ ∧ AbsS K S H ∧ r ed env S ∧ ClS K H S ed D
def RS (X : Cx) (st : Stmt) (r : RTs) : Prop := PS X st (tS X.K r)
def RSs (X : Cx) (st : List Stmt) (r : RTs) : Prop := PSs X st (tS X.K r)
section
variable {X : Cx} {K : PySem.W.Frag} {H H1 : Hp} {S S1 : Sto}
theorem ClN.after {k : DEnv → Sto → Prop} {Q : L2.St → Hp → Prop} (c : ClN K H S k Q) (s : Stp H S H1 S1) : ClN K H1 S1 k Q := fun d S' v H' q st r a => c d S' v H' q (s.trans st) r a
theorem ClS.after {ed : DE} {D : Ends} (c : ClS K H S ed D) (s : Stp H S H1 S1) : ClS K H1 S1 ed D := ⟨c.nx.after s, c.rt.after s, c.bk.after s, c.ct.after s⟩
theorem PS.imp {e : Stmt} {t t' : TS} (h : PS X e t) (i : ∀ D σ H, t' D σ H → t D σ H) : PS X e t' := ⟨fun pins s σ H D I q => h.run pins s σ H D I (i D σ H q)⟩
theorem PSs.imp {e : List Stmt} {t t' : TS} (h : PSs X e t) (i : ∀ D σ H, t' D σ H → t D σ H) : PSs X e t' := ⟨fun pins s σ H D I q => h.run pins s σ H D I (i D σ H q)⟩

variable {st : Stmt} {rest : List Stmt} {e c : Expr} {r u : RTs} {re : RT} {rt : RTt} {pos : Pos}
def rSkip : RTs := fun ed env S => ed.nx env S
def rSeq (r u : RTs) : RTs := fun ed env S => r { ed with nx := fun env' S' => u ed env' S' } env S
theorem rs_nil : RSs X [] rSkip := PSs.imp pss_nil fun D σ H ⟨env, S, ed, hE, hS, q, cl⟩ => cl.nx _ _ _ _ q Stp.refl hE hS
theorem rs_cons (h1 : RS X st r) (h2 : RSs X rest u) : RSs X (st :: rest) (rSeq r u) := by
  refine PSs.imp (pss_cons h1 h2) fun D σ H ⟨env, S, ed, hE, hS, q, cl⟩ => ?_
  exact ⟨env, S, _, hE, hS, q, ⟨fun env' S' σ' H' q' st' hE' hS' => ⟨env', S', ed, hE', hS', q', cl.after st'⟩, cl.rt, cl.bk, cl.ct⟩⟩
theorem rs_one (h1 : RS X st r) : RSs X [st] r := pss_one h1
theorem rs_pass : RS X (.Pass pos) rSkip := PS.imp ps_pass fun D σ H ⟨env, S, ed, hE, hS, q, cl⟩ => cl.nx _ _ _ _ q Stp.refl hE hS
def rBreak : RTs := fun ed env S => ed.bk env S
def rCont : RTs := fun ed env S => ed.ct env S
theorem rs_break : RS X (.Break pos) rBreak := PS.imp ps_break fun D σ H ⟨env, S, ed, hE, hS, q, cl⟩ => cl.bk _ _ _ _ q Stp.refl hE hS
theorem rs_continue : RS X (.Continue pos) rCont := PS.imp ps_continue fun D σ H ⟨env, S, ed, hE, hS, q, cl⟩ => cl.ct _ _ _ _ q Stp.refl hE hS
def rDrop (re : RT) : RTs := fun ed env S => re env S fun _ S1 => ed.nx env S1
theorem rs_expr (he : RE X e re) (hs : swapsWith e none pos.line X.env = pure false := by rfl) : RS X (.Expr e pos) (rDrop re) :=
  PS.imp (ps_expr he hs) fun D σ H ⟨env, S, ed, hE, hS, q, cl⟩ => ⟨env, S, _, hE, hS, q, fun _ S1 _ H1 q1 st _ hS1 => cl.nx _ _ _ _ q1 st (hE.mon (st.mon hS)) hS1⟩
theorem rs_doc {x j pos pos'} : RS X (.Expr (.Constant (.str x) j pos) pos') rSkip := PS.imp ps_doc fun D σ H ⟨env, S, ed, hE, hS, q, cl⟩ => cl.nx _ _ _ _ q Stp.refl hE hS
def rRet (re : RT) : RTs := fun ed env S => re env S ed.rt
theorem rs_ret (he : RE X e re) : RS X (.Return (some e) pos) (rRet re) :=
  PS.imp (ps_ret he) fun D σ H ⟨env, S, ed, hE, hS, q, cl⟩ => ⟨env, S, _, hE, hS, q, cl.rt⟩
def rRetN : RTs := fun ed env S => ed.rt .non S
theorem rs_retN : RS X (.Return none pos) rRetN :=
  PS.imp ps_retN fun D σ H ⟨env, S, ed, hE, hS, q, cl⟩ => cl.rt _ _ _ _ q Stp.refl .non hS
def rIf (rt : RTt) (r u : RTs) : RTs := fun ed env S => rt env S fun b S1 => if b = true then r ed env S1 else u ed env S1
theorem rs_if {a b : List Stmt} (hc : TR X c rt) (ha : RSs X a r) (hb : RSs X b u) : RS X (.If c a b pos) (rIf rt r u) := by
  refine PS.imp (ps_if hc ha hb) fun D σ H ⟨env, S, ed, hE, hS, q, cl⟩ => ?_
  refine ⟨env, S, _, hE, hS, q, fun b S1 H1 q1 st hS1 => ?_⟩
  by_cases h : b = true
  · rw [if_pos h] at q1 ⊢
    exact ⟨env, S1, ed, hE.mon (st.mon hS), hS1, q1, cl.after st⟩
  · rw [if_neg h] at q1 ⊢
    exact ⟨env, S1, ed, hE.mon (st.mon hS), hS1, q1, cl.after st⟩
def rNever : RTs := fun _ _ _ => False
theorem rs_never : RS X st rNever := PS.imp ps_never fun D σ H ⟨env, S, ed, hE, hS, q, cl⟩ => q.elim
theorem rss_never {sts : List Stmt} : RSs X sts rNever := PSs.imp pss_never fun D σ H ⟨env, S, ed, hE, hS, q, cl⟩ => q.elim

/-! ### targets -/
abbrev RTg := D → DEnv → Sto → (DEnv → Sto → Prop) → Prop
abbrev RTgs := List D → DEnv → Sto → (DEnv → Sto → Prop) → Prop
/-- the slots outside is are as they were -/
def Out (is : List Nat) (σ σ' : L2.St) : Prop := σ'.length = σ.length ∧ ∀ j, j ∉ is → σ'[j]? = σ[j]?
theorem Out.refl (is : List Nat) (σ : L2.St) : Out is σ σ := ⟨rfl, fun _ _ => rfl⟩
theorem Out.trans {is : List Nat} {σ σ1 σ2 : L2.St} (a : Out is σ σ1) (b : Out is σ1 σ2) : Out is σ σ2 := ⟨b.1.trans a.1, fun j h => (b.2 j h).trans (a.2 j h)⟩
theorem Out.set {is : List Nat} {σ : L2.St} {i : Nat} {o : Option V} (h : i ∈ is) : Out is σ (σ.set i o) := ⟨List.length_set .., fun j hj => List.getElem?_set_ne (fun e => by subst e; exact hj h)⟩
theorem wipe_eq_of : ∀ (is : List Nat) (σ σ' : L2.St), σ'.length = σ.length → (∀ j, j ∉ is → σ'[j]? = σ[j]?) → L2.wipe σ' is = L2.wipe σ is := by
  intro is σ σ' hl h
  refine List.ext_getElem? fun j => ?_
  by_cases hj : j ∈ is
  · have key : ∀ (τ : L2.St) (vs : List Nat), j ∈ vs → (L2.wipe τ vs)[j]? = if j < τ.length then some none else none := by
      intro τ vs
      induction vs with
      | nil => intro z; cases z
      | cons v vs ih =>
        intro z
        unfold L2.wipe
        by_cases e : v = j
        · subst e
          by_cases hlt : v < (L2.wipe τ vs).length
          · rw [List.getElem?_set_self hlt, if_pos (by rw [L2.wipe_length] at hlt; exact hlt)]
          · rw [List.getElem?_eq_none (by rw [List.length_set]; omega), if_neg (by rw [L2.wipe_length] at hlt; exact hlt)]
        · rw [List.getElem?_set_ne e]
          exact ih (by rcases List.mem_cons.mp z with q | q; exact absurd q.symm e; exact q)
    rw [key _ _ hj, key _ _ hj, hl]
  · rw [L2.wipe_out hj, L2.wipe_out hj, h j hj]
def tG (K : PySem.W.Frag) (is : List Nat) (g : RTg) : TG := fun v σ H Q => ∃ d env S kk, Rp K H d v ∧ AbsE K H env σ ∧ AbsS K S H ∧ g d env S kk ∧
  ∀ env' S' σ' H', kk env' S' → Stp H S H' S' → AbsE K H' env' σ' → AbsS K S' H' → Out is σ σ' → Q σ' H'
def tGs (K : PySem.W.Frag) (is : List Nat) (g : RTgs) : TGs := fun vs σ H Q => ∃ ds env S kk, RpL K H ds vs ∧ AbsE K H env σ ∧ AbsS K S H ∧ g ds env S kk ∧
  ∀ env' S' σ' H', kk env' S' → Stp H S H' S' → AbsE K H' env' σ' → AbsS K S' H' → Out is σ σ' → Q σ' H'
def RG (X : Cx) (is : List Nat) (e : Expr) (g : RTg) : Prop := PG X e (tG X.K is g)
def RGs (X : Cx) (is : List Nat) (es : List Expr) (g : RTgs) : Prop := PGs X es (tGs X.K is g)
theorem PG.imp {e : Expr} {t t' : TG} (h : PG X e t) (i : ∀ v σ H Q, t' v σ H Q → t v σ H Q) : PG X e t' := ⟨fun pins s σ H v u Q I r q => h.run pins s σ H v u Q I r (i v σ H Q q)⟩
theorem PGs.imp {e : List Expr} {t t' : TGs} (h : PGs X e t) (i : ∀ v σ H Q, t' v σ H Q → t v σ H Q) : PGs X e t' := ⟨fun pins s σ H v u Q I r q => h.run pins s σ H v u Q I r (i v σ H Q q)⟩
def gN (i : Nat) : RTg := fun d env S k => k (env.set i (some d)) S
theorem rg_name {is : List Nat} (i : Nat) {x : Str} (hN : X.N.Nodup) (hm : i ∈ is) (hi : X.N[i]? = some x := by rfl) (hx : Loc X.env.scope x := by first | exact Or.inl rfl | exact Or.inr rfl)
    (hf : X.fn x = true ∨ X.env.scope.names.lookup x = some .local := by first | exact .inl rfl | exact .inr rfl | assumption) : RG X is (.Name x pos) (gN i) :=
  PG.imp (pg_name hN hi hx hf) fun v σ H Q ⟨d, env, S, kk, r, hE, hS, q, cl⟩ => cl _ _ _ _ q Stp.refl (hE.set i r) hS (Out.set hm)
def gNil' : RTgs := fun ds env S k => ds = [] ∧ k env S
def gCons' (g : RTg) (u : RTgs) : RTgs := fun ds env S k => ∃ d t, ds = d :: t ∧ g d env S fun env' S' => u t env' S' k
theorem rgs_nil {is : List Nat} : RGs X is [] gNil' := PGs.imp pgs_nil fun v σ H Q ⟨ds, env, S, kk, r, hE, hS, ⟨e, q⟩, cl⟩ => by
  subst e
  exact ⟨r.nil_of, cl _ _ _ _ q Stp.refl hE hS (Out.refl ..)⟩
theorem rgs_cons {is : List Nat} {es : List Expr} {g : RTg} {u : RTgs} (h1 : RG X is e g) (h2 : RGs X is es u)
    (hs : (assignEach (e :: es) X.env).map (·.2) = assign e X.env :: (assignEach es X.env).map (·.2) := by rfl) : RGs X is (e :: es) (gCons' g u) :=
  PGs.imp (pgs_cons h1 h2 hs) fun v σ H Q ⟨ds, env, S, kk, r, hE, hS, ⟨d, t, e, q⟩, cl⟩ => by
    subst e
    obtain ⟨v0, vr, e, p, r⟩ := r.cons_of
    refine ⟨v0, vr, e, d, env, S, _, p, hE, hS, q, fun env1 S1 σ1 H1 q1 st1 hE1 hS1 o1 => ?_⟩
    exact ⟨t, env1, S1, kk, r.mon (st1.mon hS), hE1, hS1, q1, fun env2 S2 σ2 H2 q2 st2 hE2 hS2 o2 => cl _ _ _ _ q2 (st1.trans st2) hE2 hS2 (o1.trans o2)⟩
def gTup' (n : Nat) (u : RTgs) : RTg := fun d env S k => match d with
  | .tup ds => ds.length = n ∧ u ds env S k
  | .par ds => ds.length = n ∧ u ds env S k
  | _ => False
theorem rg_tup {is : List Nat} {es : List Expr} {k : Nat} {u : RTgs} {n : Nat} (hc : X.calm = true) (h : RGs X is es u)
    (hn : (assignEach es X.env).length = n := by rfl) (hst : (assignEach es X.env).findIdx? (·.1) = none := by rfl) : RG X is (.Tuple es k pos) (gTup' n u) :=
  PG.imp (pg_tup hc h hn hst) fun v σ H Q ⟨d, env, S, kk, r, hE, hS, q, cl⟩ => by
    unfold gTup' at q
    split at q
    · obtain ⟨a, vs, e, hq, hl⟩ := r.tup_
      exact ⟨a, vs, e, hq.sq, by rw [← hl.length]; exact q.1, _, env, S, kk, hl, hE, hS, q.2, cl⟩
    · obtain ⟨a, vs, e, hq, hl⟩ := r.par_
      exact ⟨a, vs, e, hq, by rw [← hl.length]; exact q.1, _, env, S, kk, hl, hE, hS, q.2, cl⟩
    · exact q.elim
abbrev SetF := D → D → D → Sto → (Sto → Prop) → Prop
def SetD (X : Cx) (g : SetF) : Prop := ∃ t, PSet X t ∧ ∀ o i d S k ov iv v H Q, g o i d S k → Rp X.K H o ov → Rp X.K H i iv → Rp X.K H d v → AbsS X.K S H → (∀ S' H', k S' → Stp H S H' S' → AbsS X.K S' H' → Q H') → t ov iv v H Q
def gIx (ro ri : RT) (g : SetF) : RTg := fun d env S k => ro env S fun o S1 => ri env S1 fun i S2 => g o i d S2 fun S3 => k env S3
theorem rg_sub {is : List Nat} {o i : Expr} {ro ri : RT} {g : SetF} (ho : RE X o ro) (hi : RE X i ri) (hs : SetD X g)
    (ha : ∀ v, assign (.Subscript o i pos) X.env v = (do
      let ov ← holding [v] (eval o X.env)
      let iv ← holding [v, ov] (eval i X.env)
      standAt pos
      holding [v, ov, iv] (setItem ov iv v)
      release [v, ov, iv] []) := by intro _; rfl) : RG X is (.Subscript o i pos) (gIx ro ri g) := by
  obtain ⟨t, h1, h2⟩ := hs
  refine PG.imp (pg_sub ho hi h1 ha) fun v σ H Q ⟨d, env, S, kk, r, hE, hS, q, cl⟩ => ?_
  refine ⟨env, S, _, hE, hS, q, fun od S1 ov H1 q1 st1 r1 hS1 => ?_⟩
  refine ⟨env, S1, _, hE.mon (st1.mon hS), hS1, q1, fun id S2 iv H2 q2 st2 r2 hS2 => ?_⟩
  refine h2 od id d S2 _ ov iv v H2 _ q2 (r1.mon (st2.mon hS1)) r2 ((r.mon (st1.mon hS)).mon (st2.mon hS1)) hS2 fun S3 H3 q3 st3 hS3 => ?_
  exact cl _ _ _ _ q3 ((st1.trans st2).trans st3) (((hE.mon (st1.mon hS)).mon (st2.mon hS1)).mon (st3.mon hS2)) hS3 (Out.refl ..)
def rAsg (re : RT) (g : RTg) : RTs := fun ed env S => re env S fun d S1 => g d env S1 ed.nx
theorem rs_asg {is : List Nat} {tg : Expr} {g : RTg} (he : RE X e re) (hg : RG X is tg g) (hs : swapsWithSole [tg] e pos.line X.env = pure false := by rfl) (hw : swappedStores [tg] e X.env = pure none := by rfl)
    (h1 : (assignEach [tg] X.env).map (·.2) = [assign tg X.env] := by rfl) : RS X (.Assign [tg] e pos) (rAsg re g) := by
  refine PS.imp (ps_asg he hg hs hw h1) fun D σ H ⟨env, S, ed, hE, hS, q, cl⟩ => ?_
  refine ⟨env, S, _, hE, hS, q, fun d S1 v H1 q1 st1 r1 hS1 => ?_⟩
  exact ⟨d, env, S1, ed.nx, r1, hE.mon (st1.mon hS), hS1, q1, fun env2 S2 σ2 H2 q2 st2 hE2 hS2 _ => cl.nx _ _ _ _ q2 (st1.trans st2) hE2 hS2⟩
theorem rs_set (i : Nat) {x : Str} {pos' : Pos} (hN : X.N.Nodup) (he : RE X e re) (hi : X.N[i]? = some x := by rfl) (hx : Loc X.env.scope x := by first | exact Or.inl rfl | exact Or.inr rfl) (hs : swapsWith e (some (.Name x pos')) pos.line X.env = pure false := by rfl)
    (hf : X.fn x = true ∨ X.env.scope.names.lookup x = some .local := by first | exact .inl rfl | exact .inr rfl | assumption) : RS X (.Assign [.Name x pos'] e pos) (rAsg re (gN i)) := by
  refine PS.imp (ps_set hN hi hx he hs hf) fun D σ H ⟨env, S, ed, hE, hS, q, cl⟩ => ?_
  refine ⟨env, S, _, hE, hS, q, fun d S1 v H1 q1 st1 r1 hS1 => ?_⟩
  exact cl.nx _ _ _ _ q1 st1 ((hE.mon (st1.mon hS)).set i r1) hS1
/-- a, b = x, y with two local names -/
def rPar (i j : Nat) (rl : RTa) : RTs := fun ed env S => rl env S fun ds S1 => match ds with
  | [d, e] => ed.nx ((env.set i (some d)).set j (some e)) S1
  | _ => False
theorem rs_par (i j : Nat) {x y : Str} {a b : Expr} {rl : RTa} {px py pt : Pos} {kt k2 pt2} (hc : X.calm = true) (hN : X.N.Nodup) (ha : RA X [a, b] rl) (hi : X.N[i]? = some x := by rfl) (hj : X.N[j]? = some y := by rfl) (hij : i ≠ j := by decide)
    (hx : X.env.scope.names.lookup x = some .local := by rfl) (hy : X.env.scope.names.lookup y = some .local := by rfl)
    (hw : swappedStores [.Tuple [.Name x px, .Name y py] kt pt] (.Tuple [a, b] k2 pt2) X.env = pure (some [x, y]) := by rfl)
    (hs : swapsWithSole [.Tuple [.Name x px, .Name y py] kt pt] (.Tuple [a, b] k2 pt2) pos.line X.env = pure false := by rfl) : RS X (.Assign [.Tuple [.Name x px, .Name y py] kt pt] (.Tuple [a, b] k2 pt2) pos) (rPar i j rl) := by
  refine PS.imp (ps_par hc hN hi hj hij hx hy ha hw hs) fun D σ H ⟨env, S, ed, hE, hS, q, cl⟩ => ?_
  refine ⟨env, S, _, hE, hS, q, fun ds S1 vs H1 q1 st1 r1 hS1 => ?_⟩
  dsimp only at q1 ⊢
  split at q1
  · obtain ⟨v, r', e1, p1, t1⟩ := r1.cons_of
    obtain ⟨w, r'', e2, p2, t2⟩ := t1.cons_of
    have e3 := t2.nil_of
    subst e3 e2 e1
    exact ⟨v, w, rfl, cl.nx _ _ _ _ q1 st1 (((hE.mon (st1.mon hS)).set i p1).set j p2) hS1⟩
  · exact q1.elim
/-- name op= e -/
def IpD (X : Cx) (op : Operator) (g : F2) : Prop := ∃ t, PIp X op t ∧ ∀ x y S k v u H Q, g x y S k → Rp X.K H x v → Rp X.K H y u → AbsS X.K S H → Cl X.K H S k Q → t v u H Q
def rAug (i : Nat) (re : RT) (g : F2) : RTs := fun ed env S => match env[i]? with
  | some (some d) => re env S fun y S1 => g d y S1 fun z S2 => ed.nx (env.set i (some z)) S2
  | _ => False
theorem rs_aug (i : Nat) {x : Str} {op : Operator} {g : F2} {pos' : Pos} (hN : X.N.Nodup) (he : RE X e re) (ho : IpD X op g) (hi : X.N[i]? = some x := by rfl) (hx : Loc X.env.scope x := by first | exact Or.inl rfl | exact Or.inr rfl)
    (hf : X.fn x = true ∨ X.env.scope.names.lookup x = some .local := by first | exact .inl rfl | exact .inr rfl | assumption) : RS X (.AugAssign (.Name x pos') op e pos) (rAug i re g) := by
  obtain ⟨t, h1, h2⟩ := ho
  refine PS.imp (ps_aug hN hi hx he h1 hf) fun D σ H ⟨env, S, ed, hE, hS, q, cl⟩ => ?_
  unfold rAug at q
  split at q
  · rename_i d e
    obtain ⟨v, e', p⟩ := hE.get e
    refine ⟨v, e', env, S, _, hE, hS, q, fun y S1 u H1 q1 st1 r1 hS1 => ?_⟩
    refine h2 d y S1 _ v u H1 _ q1 (p.mon (st1.mon hS)) r1 hS1 fun z S2 w H2 q2 st2 r2 hS2 => ?_
    exact cl.nx _ _ _ _ q2 (st1.trans st2) (((hE.mon (st1.mon hS)).mon (st2.mon hS1)).set i r2) hS2
  · exact q.elim

/-! ### while -/
def rWhile (rt : RTt) (rb : RTs) : RTs := fun ed env S => ∃ I : Nat → DEnv → Sto → Prop, (∃ m, I m env S) ∧ ∀ m env S, I m env S →
  rt env S fun b S1 => if b = true then rb { ed with nx := fun env' S' => ∃ m' S'', m' < m ∧ Sub S'' S' ∧ I m' env' S'', ct := fun env' S' => ∃ m' S'', m' < m ∧ Sub S'' S' ∧ I m' env' S'', bk := ed.nx } env S1 else ed.nx env S1
theorem rs_while {body : List Stmt} {rb : RTs} (hp : PassesOwn (model X.prog X.w) X.A X.env X.xe) (hc : TR X c rt) (hb : RSs X body rb) : RS X (.While c body [] pos) (rWhile rt rb) := by
  refine PS.imp (ps_while hp hc hb) fun D σ H ⟨env, S, ed, hE, hS, ⟨I, ⟨m0, i0⟩, go⟩, cl⟩ => ?_
  refine ⟨fun m σ' H' => ∃ env' S', AbsE X.K H' env' σ' ∧ AbsS X.K S' H' ∧ Stp H S H' S' ∧ I m env' S', ⟨m0, env, S, hE, hS, Stp.refl, i0⟩, ?_⟩
  rintro m σ1 H1 ⟨env1, S1, hE1, hS1, st1, i1⟩
  refine ⟨env1, S1, _, hE1, hS1, go m env1 S1 i1, fun b S2 H2 q2 st2 hS2 => ?_⟩
  by_cases h : b = true
  · rw [if_pos h] at q2 ⊢
    refine ⟨fun σ' H' => ∃ m', m' < m ∧ ∃ env' S', AbsE X.K H' env' σ' ∧ AbsS X.K S' H' ∧ Stp H S H' S' ∧ I m' env' S', fun σ' H' q => q, ?_⟩
    refine ⟨env1, S2, _, hE1.mon (st2.mon hS1), hS2, q2, ⟨fun env' S' σ' H' ⟨m', S'', lt, sb, i'⟩ st' hE' hS' => ?_, cl.rt.after (st1.trans st2), cl.nx.after (st1.trans st2), fun env' S' σ' H' ⟨m', S'', lt, sb, i'⟩ st' hE' hS' => ?_⟩⟩
    · exact ⟨m', lt, env', S'', hE', hS'.sub sb, ((st1.trans st2).trans st').sub sb, i'⟩
    · exact ⟨m', lt, env', S'', hE', hS'.sub sb, ((st1.trans st2).trans st').sub sb, i'⟩
  · rw [if_neg h] at q2 ⊢
    exact cl.nx _ _ _ _ q2 (st1.trans st2) (hE1.mon (st2.mon hS1)) hS2

/-! ### what is walked -/
/-- items, and what must stand while they are walked -/
abbrev RTi := DEnv → Sto → (List D → (Sto → Prop) → Sto → Prop) → Prop
def WalkD (K : PySem.W.Frag) (H0 : Hp) (J : It) (items : List D) (G : Sto → Prop) : Prop := ∃ Gh Y, Walk J items.length Gh Y ∧ (∀ S H, Mon H0 H → AbsS K S H → G S → Gh H) ∧
  ∀ i H x H', i < items.length → Gh H → Y i H x H' → ∃ d, items[i]? = some d ∧ ∀ S, Mon H0 H → AbsS K S H → Rp K H' d x ∧ Stp H S H' S ∧ AbsS K S H'
def tI (K : PySem.W.Frag) (r : RTi) : TI := fun σ H R => ∃ env S k, AbsE K H env σ ∧ AbsS K S H ∧ r env S k ∧
  ∀ items G S1 J H1, k items G S1 → Stp H S H1 S1 → AbsS K S1 H1 → WalkD K H1 J items G → R J H1
def RI (X : Cx) (tg iter : Expr) (r : RTi) : Prop := PI X tg iter (tI X.K r)
theorem PI.imp {tg e : Expr} {t t' : TI} (h : PI X tg e t) (i : ∀ σ H Q, t' σ H Q → t σ H Q) : PI X tg e t' := ⟨fun pins s σ H Q I q => h.run pins s σ H Q I (i σ H Q q)⟩
def rFor (ri : RTi) (g : RTg) (rb : RTs) : RTs := fun ed env S => ri env S fun items G S1 => ∃ I : Nat → DEnv → Sto → Prop, I 0 env S1 ∧ (∀ i env S, i ≤ items.length → I i env S → G S) ∧
  (∀ i x env S, items[i]? = some x → I i env S → g x env S fun env' S' => rb { ed with nx := fun env2 S2 => ∃ S3, Sub S3 S2 ∧ I (i + 1) env2 S3, ct := fun env2 S2 => ∃ S3, Sub S3 S2 ∧ I (i + 1) env2 S3, bk := ed.nx } env' S') ∧
  ∀ env S, I items.length env S → ed.nx env S
theorem rs_for {is : List Nat} {tg iter : Expr} {body : List Stmt} {ri : RTi} {g : RTg} {rb : RTs} (hp : PassesOwn (model X.prog X.w) X.A X.env X.xe) (hc : X.calm = true) (hi : RI X tg iter ri) (hg : RG X is tg g) (hb : RSs X body rb)
    (hs : ∀ x, foldedSetIterable iter X.env x = pure x := by intro _; rfl) : RS X (.For tg iter body [] pos) (rFor ri g rb) := by
  refine PS.imp (ps_for hp hc hi hg hb hs) fun D σ H ⟨env, S, ed, hE, hS, q, cl⟩ => ?_
  refine ⟨env, S, _, hE, hS, q, fun items G S1 J H1 ⟨I, i0, iG, go, fin⟩ st1 hS1 w => ?_⟩
  obtain ⟨Gh, Y, wk, hG, hY⟩ := w
  refine for_it wk (fun i σ' H' => ∃ env' S', AbsE X.K H' env' σ' ∧ AbsS X.K S' H' ∧ Stp H1 S1 H' S' ∧ I i env' S') ⟨env, S1, hE.mon (st1.mon hS), hS1, Stp.refl, i0⟩ ?_ ?_ ?_
  · rintro i σ' H' hi' ⟨env', S', hE', hS', st', q'⟩
    exact hG S' H' (st'.mon hS1) hS' (iG i env' S' hi' q')
  · rintro i x σ' H' H2 hi' ⟨env', S', hE', hS', st', q'⟩ y
    obtain ⟨d, e, hd⟩ := hY i H' x H2 hi' (hG S' H' (st'.mon hS1) hS' (iG i env' S' (Nat.le_of_lt hi') q')) y
    obtain ⟨rd, st2, hS2⟩ := hd S' (st'.mon hS1) hS'
    refine ⟨d, env', S', _, rd, hE'.mon (st2.mon hS'), hS2, go i d env' S' e q', fun env3 S3 σ3 H3 q3 st3 hE3 hS3 _ => ?_⟩
    have sA := (st'.trans st2).trans st3
    refine ⟨env3, S3, _, hE3, hS3, q3, ⟨fun env4 S4 σ4 H4 ⟨S5, sb, i5⟩ st4 hE4 hS4 => ?_, cl.rt.after (st1.trans sA), cl.nx.after (st1.trans sA), fun env4 S4 σ4 H4 ⟨S5, sb, i5⟩ st4 hE4 hS4 => ?_⟩⟩
    · exact ⟨env4, S5, hE4, hS4.sub sb, (sA.trans st4).sub sb, i5⟩
    · exact ⟨env4, S5, hE4, hS4.sub sb, (sA.trans st4).sub sb, i5⟩
  · rintro σ' H' ⟨env', S', hE', hS', st', q'⟩
    exact cl.nx _ _ _ _ (fin env' S' q') (st1.trans st') hE' hS'

/-! ### comprehensions -/
def rComp (ri : RTi) (g : RTg) (tt : RTt) (re : RT) (vs : List Nat) : RT := fun env S k => ri env S fun items G S1 => ∃ I : Nat → List D → Sto → Prop, I 0 [] S1 ∧ (∀ i acc S, i ≤ items.length → I i acc S → G S) ∧
  (∀ i x acc S, items[i]? = some x → I i acc S → g x (wipeE env vs) S fun env2 S2 => tt env2 S2 fun b S3 => if b = true then re env2 S3 fun d S4 => acc.length < sizeLine ∧ ∃ S5, Sub S5 S4 ∧ I (i + 1) (acc ++ [d]) S5 else ∃ S5, Sub S5 S3 ∧ I (i + 1) acc S5) ∧
  ∀ acc S, I items.length acc S → ∀ p, S p = none → k (.ref p) (S.upd p (.lst acc))
theorem comp_go {σ : L2.St} {Q : VK} {is : List Nat} {ri : RTi} {g : RTg} {tt : RTt} {re : RT} (h : tR X.K (rComp ri g tt re is) σ H Q) : tLc (tI X.K ri) (tG X.K is g) (tT X.K tt) (tR X.K re) is σ H Q := by
  obtain ⟨env, S, k, hE, hS, q, cl⟩ := h
  refine ⟨env, S, _, hE, hS, q, fun items G S1 J H1 ⟨I, i0, iG, go, fin⟩ st1 hS1 w D hD => ?_⟩
  obtain ⟨Gh, Y, wk, hG, hY⟩ := w
  refine lc_it wk (fun i H' => ∃ acc S' vs, H' D = some (.lst vs) ∧ RpL X.K H' acc vs ∧ S' D = none ∧ AbsS X.K S' H' ∧ Stp H1 S1 H' S' ∧ I i acc S')
    ⟨[], S1, [], L2.upd_same, .nil, hS1.free hD, hS1.laid0 hD, Stp.laid0 hD, i0⟩ ?_ ?_ ?_
  · rintro i H' hi' ⟨acc, S', vs, hd, rl, fr, hS', st', q'⟩
    exact hG S' H' (st'.mon hS1) hS' (iG i acc S' hi' q')
  · rintro i x H' H2 hi' ⟨acc, S', vs, hd, rl, fr, hS', st', q'⟩ y
    obtain ⟨d, e, hd'⟩ := hY i H' x H2 hi' (hG S' H' (st'.mon hS1) hS' (iG i acc S' (Nat.le_of_lt hi') q')) y
    obtain ⟨rd, st2, hS2⟩ := hd' S' (st'.mon hS1) hS'
    have hE2 : AbsE X.K H2 env σ := ((hE.mon (st1.mon hS)).mon (st'.mon hS1)).mon (st2.mon hS')
    refine ⟨d, wipeE env is, S', _, rd, hE2.wipe is, hS2, go i d acc S' e q', fun env3 S3 σ3 H3 q3 st3 hE3 hS3 o3 => ?_⟩
    refine ⟨?_, ?_⟩
    · have z := wipe_eq_of is (L2.wipe σ is) σ3 o3.1 o3.2
      rw [z]
      exact wipe_eq_of is σ (L2.wipe σ is) (L2.wipe_length _ _) fun j hj => L2.wipe_out hj
    · refine ⟨env3, S3, _, hE3, hS3, q3, fun b S4 H4 q4 st4 hS4 => ?_⟩
      have sA : Stp H' S' H4 S4 := (st2.trans st3).trans st4
      dsimp only
      by_cases h : b = true
      · rw [if_pos h] at q4 ⊢
        refine ⟨env3, S4, _, hE3.mon (st4.mon hS3), hS4, q4, fun y S5 v H5 ⟨hl, S6, sb, i6⟩ st5 r5 hS5 => ?_⟩
        have sB : Stp H' S' H5 S5 := sA.trans st5
        have at5 : H5 D = some (.lst vs) := (sB _ _ hd fr).1
        have rl5 : RpL X.K H5 acc vs := rl.mon (sB.mon hS')
        refine ⟨vs, at5, by rw [← rl.length]; exact hl, acc ++ [y], S6, vs ++ [v], L2.upd_same, ?_, ?_, ?_, ?_, i6⟩
        · exact (rl5.append (.cons r5 .nil)).mon (Mon.write at5 True.intro)
        · exact sb.free (sB _ _ hd fr).2
        · exact fun a o ea => by
            have ha := sb a o ea
            obtain ⟨u, e1, m1, r1⟩ := hS5 a o ha
            have ne : a ≠ D := by intro z; rw [z, (sB _ _ hd fr).2] at ha; cases ha
            exact ⟨u, by rw [L2.upd_ne ne]; exact e1, m1, r1.mon (Mon.write at5 True.intro)⟩
        · exact fun a o ea en => by
            have ne : a ≠ D := by intro z; rw [z, hD] at ea; cases ea
            obtain ⟨z1, z2⟩ := (st'.trans sB) a o ea en
            exact ⟨by rw [L2.upd_ne ne]; exact z1, sb.free z2⟩
      · rw [if_neg h] at q4 ⊢
        obtain ⟨S6, sb, i6⟩ := q4
        exact ⟨acc, S6, vs, (sA _ _ hd fr).1, rl.mon (sA.mon hS'), sb.free (sA _ _ hd fr).2, hS4.sub sb, (st'.trans sA).sub sb, i6⟩
  · rintro H' ⟨acc, S', vs, hd, rl, fr, hS', st', q'⟩
    refine cl _ _ _ _ (fin acc S' q' D fr) ?_ .ref ?_
    · exact fun a o ea en => by
        obtain ⟨z1, z2⟩ := st1 a o ea en
        have ne : a ≠ D := by intro z; rw [z, hD] at z1; cases z1
        obtain ⟨y1, y2⟩ := st' a o z1 z2
        exact ⟨y1, by rw [Sto.upd_ne ne]; exact y2⟩
    · exact fun a o ea => by
        by_cases ne : a = D
        · subst ne
          rw [Sto.upd_same] at ea
          cases ea
          exact ⟨_, hd, True.intro, vs, rfl, rl⟩
        · rw [Sto.upd_ne ne] at ea
          exact hS' a o ea
def RTs1 (X : Cx) (ifs : List Expr) (t : RTt) : Prop := PTs X ifs (tT X.K t)
def rYes : RTt := fun _ S k => k true S
theorem PTs.imp {e : List Expr} {t t' : TT} (h : PTs X e t) (i : ∀ σ H Q, t' σ H Q → t σ H Q) : PTs X e t' := ⟨fun pins s σ H Q I q => h.run pins s σ H Q I (i σ H Q q)⟩
theorem ts_nil : RTs1 X [] rYes := PTs.imp pts_nil fun σ H Q ⟨env, S, k, hE, hS, q, cl⟩ => cl _ _ _ q Stp.refl hS
theorem ts_one {t : RTt} (h : TR X c t) : RTs1 X [c] t := pts_one h
theorem re_comp {elt tg iter : Expr} {ifs : List Expr} {scope : Scope} (own : List (Str × Nat)) {ri : RTi} {g : RTg} {tt : RTt} {re : RT} (hc : X.calm = true) (hN : X.N.Nodup) (hi : RI X tg iter ri) (ok : BlkOk X.N X.env.scope scope own)
    (hg : ∀ (s : Shared) (H : Hp) (C : Addr) (cl : List (Str × Addr)) (fp : List Addr), RG (X.blk s H scope (compEnvC scope cl C X.env) fp) (own.map (·.2)) tg g) (ht : ∀ (s : Shared) (H : Hp) (C : Addr) (cl : List (Str × Addr)) (fp : List Addr), RTs1 (X.blk s H scope (compEnvC scope cl C X.env) fp) ifs tt)
    (he : ∀ (s : Shared) (H : Hp) (C : Addr) (cl : List (Str × Addr)) (fp : List Addr), RE (X.blk s H scope (compEnvC scope cl C X.env) fp) elt re) (hs : ∀ x, foldedSetIterable iter X.env x = pure x := by intro _; rfl) :
    RE X (.ListComp elt [⟨tg, iter, ifs, 0⟩] scope pos) (rComp ri g tt re (own.map (·.2))) :=
  PE.imp (pe_lc (own := own) (g := tG X.K (own.map fun (x : Str × Nat) => x.2) g) (tt := tT X.K tt) (te := tR X.K re) hc hN hi ok hg ht he hs) fun σ H Q h => comp_go h
theorem rs_setComp (i : Nat) {y : Str} {py : Pos} {elt tg iter : Expr} {ifs : List Expr} {scope : Scope} (own : List (Str × Nat)) {spos : Pos} {ri : RTi} {g : RTg} {tt : RTt} {re : RT} (hc : X.calm = true) (hN : X.N.Nodup)
    (hsw : swapsWith (.ListComp elt [⟨tg, iter, ifs, 0⟩] scope pos) (some (.Name y py)) spos.line X.env = pure true) (hi : RI X tg iter ri) (ok : BlkOk X.N X.env.scope scope own)
    (hg : ∀ (s : Shared) (H : Hp) (C : Addr) (cl : List (Str × Addr)) (fp : List Addr), RG (X.blk s H scope (compEnvC scope cl C X.env) fp) (own.map (·.2)) tg g) (ht : ∀ (s : Shared) (H : Hp) (C : Addr) (cl : List (Str × Addr)) (fp : List Addr), RTs1 (X.blk s H scope (compEnvC scope cl C X.env) fp) ifs tt)
    (he : ∀ (s : Shared) (H : Hp) (C : Addr) (cl : List (Str × Addr)) (fp : List Addr), RE (X.blk s H scope (compEnvC scope cl C X.env) fp) elt re) (hy : X.N[i]? = some y := by rfl) (hyl : X.env.scope.names.lookup y = some .local := by rfl) (hs : ∀ x, foldedSetIterable iter X.env x = pure x := by intro _; rfl) :
    RS X (.Assign [.Name y py] (.ListComp elt [⟨tg, iter, ifs, 0⟩] scope pos) spos) (rAsg (rComp ri g tt re (own.map (·.2))) (gN i)) := by
  refine PS.imp (ps_setLc (own := own) (g := tG X.K (own.map fun (x : Str × Nat) => x.2) g) (tt := tT X.K tt) (te := tR X.K re) hc hN hy hyl hsw hi ok hg ht he hs) fun D σ H ⟨env, S, ed, hE, hS, q, cl⟩ => ?_
  refine comp_go ⟨env, S, _, hE, hS, q, fun d S1 v H1 q1 st1 r1 hS1 => ?_⟩
  exact cl.nx _ _ _ _ q1 st1 ((hE.mon (st1.mon hS)).set i r1) hS1

/-! ### own defs -/
abbrev XKd := Addr → Sto → Prop
abbrev Cn := List D → Sto → RK → XKd → Prop
def ClX (K : PySem.W.Frag) (H : Hp) (S : Sto) (k : XKd) (E : XK) : Prop := ∀ c S' H', k c S' → Stp H S H' S' → AbsS K S' H' → E (.ref c) none H'
def spD (K : PySem.W.Frag) (n : Nat) (C : Cn) : Sp := fun vs H Q E => ∃ ds S k ek, ds.length = n ∧ RpL K H ds vs ∧ AbsS K S H ∧ C ds S k ek ∧ Cl K H S k Q ∧ ClX K H S ek E
def noX : XKd := fun _ _ => False
/-- as FnOk, where no repr of a container is under way around -/
structure FnG (P : Program) (w : World) (K : PySem.W.Frag) (mg : Str → Option Value) (base : Heap) (CX : CXT) (k : Nat) (f : Addr) (fd : FuncData) (ps : List Str) (sp : Sp) : Prop where
  len : ∀ vs H Q E, sp vs H Q E → vs.length = ps.length
  go : ∀ (A : Around) (outer : List Env) (s : Shared) (H : Hp) (args : Args) (us : List Value) (vs : List V) (Q : VK) (E : XK), Room k A → A.guards = some [] → Env0 P w K mg base A outer s H →
    BindsTo s fd args (ps.zip us) → Vals vs us → sp vs H Q E → codeAny (model P w) A (.call (.ref f) args) (CR CX outer P w H s Q E) s
/-- room, and no repr under way -/
structure RoomG (k : Nat) (A : Around) : Prop where
  r : Room k A
  g : A.guards = some []
theorem RoomG.mono {j k : Nat} {A : Around} (h : RoomG k A) (l : j ≤ k) : RoomG j A := ⟨h.r.mono l, h.g⟩
theorem runG {CX : CXT} {k : Nat} {f : Addr} {fd : FuncData} {ps : List Str} {sp : Sp} {dvs : List V} {ds us : List Value} {vs : List V} {E : XK} {Q : VK} {pins : List (Addr × Obj)} {s : Shared} {σ : L2.St} {H : Hp}
    (F : FnG X.prog X.w X.K X.mg X.base CX k f fd ps sp) (hr : RoomG k X.A) (hb : Binds X.K fd ps ds) (hd : Vals dvs ds) (hx : Passes CX X E) (I : Inv X pins σ H s) (rv : Vals vs us) (h : sp (vs ++ dvs) H Q E) :
    wpAny (model X.prog X.w) X.A (call (.ref f) us) (EP X pins σ Q) X.xe s := by
  have both := rv.append hd
  have cnt : (us ++ ds).length = ps.length := both.length.symm.trans (F.len _ _ _ _ h)
  refine wpAny_call (codeAny_mono (F.go X.A X.stack s H ⟨us, []⟩ (us ++ ds) (vs ++ dvs) Q E hr.r hr.g I.env0 (hb s us I.kIn cnt) both h) fun res s2 z => ?_)
  match res, z with
  | .error ev, z => exact hx pins σ H s ev s2 I z
  | .ok (.ret _), z => exact I.after z
  | .ok .next, z => exact z.elim
  | .ok .brk, z => exact z.elim
  | .ok .cont, z => exact z.elim
/-- the def x keeps the contract C, at level k -/
def Callee (P : Program) (w : World) (K : PySem.W.Frag) (mg : Str → Option Value) (base : Heap) (CX : CXT) (k : Nat) (x : Str) (n : Nat) (C : Cn) : Prop :=
  ∃ f fd ps, ps.length = n ∧ FnG P w K mg base CX k f fd ps (spD K n C) ∧ mg x = some (.ref f) ∧ PySem.W.keepIn K (.ref f) = true ∧ Binds K fd ps []
def rCall (n : Nat) (C : Cn) (rl : RTa) : RT := fun env S k => rl env S fun ds S1 => ds.length = n ∧ C ds S1 k noX
theorem re_call {k n : Nat} {x : Str} {p : Pos} {C : Cn} {es : List Expr} {rl : RTa} (F : Callee X.prog X.w X.K X.mg X.base CX0 k x n C) (hr : RoomG k X.A) (hg : Gl X x) (ha : RA X (e :: es) rl) (hdb : (x == ("__debug__" : Str)) = false := by decide)
    (he : starEach (e :: es) X.env = (false, eval e X.env) :: starEach es X.env := by rfl) (hpl : (backTo pos (starEach es X.env)).any (·.1) = false := by rfl) : RE X (.Call (.Name x p) (e :: es) [] pos) (rCall n C rl) := by
  obtain ⟨f, fd, ps, hn, G, hm, hk, hb⟩ := F
  have base : PE X (.Call (.Name x p) (e :: es) [] pos) (tCall (spD X.K n C) [] E0 (tA X.K rl)) := by
    constructor
    intro pins s σ H Q I h
    refine wpAny_Call_Name_kw (ld_glob I hg hm (PySem.W.callWith_K (h₀ := X.base) I.ok.mod.kin hk (thn (PA.run ha pos pins s σ H _ I h) ?_) he hpl) hdb)
    rintro us s1 ⟨vs, H1, I1, rv, q⟩
    exact ⟨I1.kIn, runG G hr hb .nil (pass0 (X := X)) I1 rv q⟩
  refine PE.imp base fun σ H Q ⟨env, S, kk, hE, hS, q, cl⟩ => ?_
  refine ⟨env, S, _, hE, hS, q, fun ds S1 vs H1 ⟨hl, q1⟩ st1 r1 hS1 => ?_⟩
  show spD X.K n C (vs ++ []) H1 Q E0
  rw [List.append_nil]
  exact ⟨ds, S1, kk, noX, hl, r1, hS1, q1, cl.after st1, fun _ _ _ z => z.elim⟩
def envOf (N : List Str) (ds : List D) : DEnv := ds.map some ++ List.replicate (N.length - ds.length) none
theorem absE_none {K : PySem.W.Frag} {H : Hp} : ∀ n, AbsE K H (List.replicate n none) (List.replicate n none)
  | 0 => rfl
  | n + 1 => ⟨none, _, rfl, absE_none n⟩
theorem absE_start {K : PySem.W.Frag} {H : Hp} {n : Nat} : ∀ {ds : List D} {vs : List V}, RpL K H ds vs → AbsE K H (ds.map some ++ List.replicate n none) (vs.map some ++ List.replicate n none)
  | [], vs, h => by rw [h.nil_of]; exact absE_none n
  | d :: ds, vs, h => by
    obtain ⟨v, r, e, p, t⟩ := h.cons_of
    subst e
    exact ⟨v, _, rfl, p, absE_start t⟩
def endOf (k : RK) : DE := { nx := fun _ S => ∃ S', Sub S' S ∧ k .non S', rt := fun d S => ∃ S', Sub S' S ∧ k d S' }
/-- a def of the text -/
structure DefAt (K : PySem.W.Frag) (mg : Str → Option Value) (x : Str) (st : Stmt) (ps : List Str) : Prop where
  ex : ∃ f fd, Fun K x x st f fd ∧ mg x = some (.ref f) ∧ Binds K fd ps []
/-- a def from its body -/
theorem fnG_of {P : Program} {w : World} {mg : Str → Option Value} {base : Heap} {CX : CXT} {k : Nat} {f : Addr} {x : Str} {st : Stmt} {fd : FuncData} {N ps : List Str} {sp : Sp} (F : Fun K x x st f fd) (Sc : FnScope N ps (defScope st))
    (len : ∀ vs H Q E, sp vs H Q E → vs.length = ps.length)
    (body : ∀ (cdv : Value) (A : Around) (outer : List Env) (s : Shared) (H : Hp) (vs : List V) (Q : VK) (E : XK), RoomG k (A.deeper (envOfC x (defScope st) s.heap.objs.size f cdv)) → sp vs H Q E →
      ∃ t, PSs (cxOf CX P w K mg base N x (defScope st) f cdv A outer s H E) (defBody st) t ∧ t { nx := fun _ H' => Q .non H', rt := Q } (start N vs) H) : FnG P w K mg base CX (k + 1) f fd ps sp := by
  obtain ⟨oc, od, kV, doc, pm, an, cdv, ct, osl, rfl, lk, hcd⟩ := F.ex
  refine ⟨len, ?_⟩
  intro A outer s H args us vs Q E hr hgd e0 hb rv hsp
  have cnt := len _ _ _ _ hsp
  have inS : K.In s.heap := e0.mod.kin.keeps fun b o z => (e0.bs b o z).1
  have lims : s.heap.NoLimit := e0.mod.nolimit.keeps fun b o z => (e0.bs b o z).1
  have kinds : ∀ y ∈ ps.zip us, (defScope st).names.lookup y.1 = some .local ∨ ((defScope st).names.lookup y.1 = some .cell ∧ ((cellsFrom (s.heap.objs.size + 1) (defScope st).names []).lookup y.1).isSome = true) := by
    rintro ⟨y, v⟩ hy
    exact (Sc.par y (List.of_mem_zip hy).1).imp (fun q => q) fun q => ⟨q, PySem.W.cellsFrom_some _ _ _ (.inl q)⟩
  refine codeAny_call_function hr.depth (inS _ _ lk) rfl Sc.co Sc.gen rfl (PySem.W.codeRec_of inS hcd) (hb _ _ _ _ (wpAny_newFunctionEnv_cells Sc.kind kinds ?_))
  intro env he s1 xt
  subst he
  refine ⟨lims.keeps xt.toInCall.keep, codeAny_func ?_⟩
  obtain ⟨t, ht, hq⟩ := body cdv A outer s H vs Q E ⟨hr.deeper _, hgd⟩ hsp
  have J0 : Inv (cxOf CX P w K mg base N x (defScope st) f cdv A outer s H E) [] (start N vs) H s1 := inv_start Sc hr.hd e0 cnt rv xt
  refine wpAny_mono (ht.run [] s1 (start N vs) H _ J0 hq) ?_ fun ev s2 z => z
  intro fl s2 z
  match fl, z with
  | .ret u, ⟨v, σ', H', J, r, q⟩ => exact (⟨v, H', J.os, J.bare, J.base, J.hok, r, q⟩ : CE outer P w H s Q u s2)
  | .next, ⟨σ', H', J, q⟩ => exact (⟨V.non, H', J.os, J.bare, J.base, J.hok, rfl, q⟩ : CE outer P w H s Q Value.none s2)
  | .brk, ⟨_, _, _, q⟩ => exact q.elim
  | .cont, ⟨_, _, _, q⟩ => exact q.elim
theorem mkCallee {P : Program} {w : World} {mg : Str → Option Value} {base : Heap} {k : Nat} {x : Str} {st : Stmt} {N ps : List Str} {C : Cn} (F : DefAt K mg x st ps) (Sc : FnScope N ps (defScope st)) (n : Nat) (hn : ps.length = n)
    (r : RTs) (hd : ∀ (cdv : Value) (A : Around) (outer : List Env) (s : Shared) (H : Hp) (E : XK) (f : Addr), RoomG k (A.deeper (envOfC x (defScope st) s.heap.objs.size f cdv)) → RSs (cxOf CX0 P w K mg base N x (defScope st) f cdv A outer s H E).nox (defBody st) r)
    (hs : ∀ ds S kk, ds.length = n → C ds S kk noX → r (endOf kk) (envOf N ds) S) (hx : ∀ ds S kk ek, C ds S kk ek → C ds S kk noX) : Callee P w K mg base CX0 (k + 1) x n C := by
  obtain ⟨f, fd, F, hm, hb⟩ := F.ex
  refine ⟨f, fd, ps, hn, fnG_of F Sc (fun vs H Q E ⟨ds, S, kk, ek, hl, r, _⟩ => by rw [← r.length, hl, hn]) (fun cdv A outer s H vs Q E hr ⟨ds, S, kk, ek, hl, rl, hS, q, cl, cx⟩ => ?_), hm, F.kp, hb⟩
  refine ⟨_, PSs.nox (hd cdv A outer s H E f hr), envOf N ds, S, endOf kk, ?_, hS, hs ds S kk hl (hx _ _ _ _ q), ⟨fun env' S' σ' H' ⟨S2, sb, q'⟩ st' hE' hS' => ?_, fun d S' v H' ⟨S2, sb, q'⟩ st' r' hS' => ?_, fun _ _ _ _ z => z.elim, fun _ _ _ _ z => z.elim⟩⟩
  · unfold envOf L2.start
    rw [rl.length]
    exact absE_start rl
  · exact cl _ _ _ _ q' (st'.sub sb) .non (hS'.sub sb)
  · exact cl _ _ _ _ q' (st'.sub sb) r' (hS'.sub sb)
end
end DL
namespace DL
open PySem PySem.Spec PyProof.Rows L2

section
variable {X : Cx} {K : PySem.W.Frag} {H : Hp} {S : Sto}
/-- the items of a sequence -/
def seqOf (S : Sto) : D → Option (List D)
  | .tup xs => some xs
  | .lis xs => some xs
  | .ref a => match S a with
    | some (.lst xs) => some xs
    | _ => none
  | _ => none
theorem seq_of {d : D} {v : V} {xs : List D} (e : seqOf S d = some xs) (r : Rp K H d v) (hS : AbsS K S H) : ∃ a vs, v = .ref a ∧ (SqL K H a vs ∨ SqT K H a vs) ∧ RpL K H xs vs := by
  unfold seqOf at e
  split at e
  · cases e
    obtain ⟨a, vs, h1, h2, h3⟩ := r.tup_
    exact ⟨a, vs, h1, .inr h2.sq, h3⟩
  · cases e
    obtain ⟨a, vs, h1, h2, h3⟩ := r.lis_
    exact ⟨a, vs, h1, .inl h2.sq, h3⟩
  · split at e
    · rename_i a _ xs' q
      cases e
      obtain ⟨vs, h1, h2⟩ := hS.lst q
      exact ⟨a, vs, r.ref_, .inl (SqL.of h1), h2⟩
    · cases e
  · cases e

/-! ### tuples whose object is known -/
abbrev NewT (H : Hp) (Q : VK) (xs : List V) : Prop := ∀ p o, o.dict = none → H p = none → Q (.ref p) (L2.upd H p (.frz o (.tup xs)))
theorem laidT {pins : List (Addr × Obj)} {σ : L2.St} {s : Shared} {h' : Heap} {tk : Nat} {xs : List V} {its : List Value} {Q : VK} (I : Inv X pins σ H s) (kp : ∀ b o, s.heap.get? b = some o → h'.get? b = some o) (hz : xs.length ≤ sizeLine) (r : Vals xs its)
    (q : NewT H Q xs) : EP X pins σ Q (.ref h'.objs.size) { s with heap := h'.push { cls := .type "tuple", data := .seq its.toArray }, toks := tk } := by
  have I1 : Inv X pins σ H { s with heap := h', toks := tk } := I.kept kp
  refine ⟨.ref h'.objs.size, L2.upd H h'.objs.size (.frz { cls := .type "tuple", data := .seq its.toArray } (.tup xs)), I1.laid (t' := tk) (fun b o e => Heap.get?_push_of_some _ e) (Nat.le_refl _) ?_, rfl, q _ _ rfl (I1.hok.fresh (Nat.le_refl _))⟩
  exact ⟨Heap.get?_push_size _ rfl, hz, its, r, IsTup.new _ _⟩
def rCatF (K : PySem.W.Frag) : R2 := fun x y H Q => ∃ a b xs ys, x = .ref a ∧ y = .ref b ∧ SqT K H a xs ∧ SqT K H b ys ∧ xs.length + ys.length ≤ sizeLine ∧ (xs = [] → Q (.ref b) H) ∧ (ys = [] → Q (.ref a) H) ∧ NewT H Q (xs ++ ys)
theorem op_catF : OpR X (binaryOp .Add) (rCatF X.K) := by
  rintro pins s σ H x y v u Q I rx ry ⟨a, b, xs, ys, rfl, rfl, ha, hb, hz, q0, q1, q2⟩
  cases rx
  cases ry
  obtain ⟨its, r1, p1, _⟩ := I.tuple ha
  obtain ⟨its2, r2, p2, _⟩ := I.tuple hb
  by_cases hx : its = []
  · subst hx
    exact cat_tup0 p1 p2 ⟨.ref b, H, I, rfl, q0 (by cases r1; rfl)⟩
  · refine HT.cat_tup p1 p2 hx (fun z => ⟨.ref a, H, I, rfl, q1 (by rw [z] at r2; cases r2; rfl)⟩) (fun z => ?_) (by rw [← r1.length, ← r2.length]; exact hz)
    exact laidT (tk := s.toks) I (fun _ _ z => z) (by rw [List.length_append]; exact hz) (r1.append r2) q2
def rSlF (K : PySem.W.Frag) : V → Option Int → Option Int → Hp → VK → Prop := fun x lo hi H Q => ∃ a xs, x = .ref a ∧ SqT K H a xs ∧ (cutV xs lo hi = xs → Q (.ref a) H) ∧ NewT H Q (cutV xs lo hi)
theorem sl_tupF : SlR X (rSlF X.K) := by
  rintro pins s σ H x v vl vu lo hi sl Q I rx hs pl pu ⟨a, xs, rfl, hx, q1, q2⟩
  cases rx
  obtain ⟨its, r, ht, hz⟩ := I.tuple hx
  have hlen : its.toArray.size = xs.length := by rw [List.size_toArray]; exact r.length.symm
  refine ⟨"tuple", _, PyProof.Rows.slot_tuple_getitem.lookup, ht.typeIs, ?_⟩
  by_cases hw : HT.sIx xs.length 0 lo = 0 ∧ HT.sIx xs.length xs.length hi = xs.length
  · refine getItem_tuple_whole ht hs pl pu (by rw [hlen]; exact hw) ⟨.ref a, H, I, rfl, q1 ?_⟩
    unfold cutV
    rw [hw.1, hw.2, List.drop_zero, Nat.sub_zero, List.take_length]
  · refine HT.getItem_tuple_cut ht hs pl pu (by rw [hlen]; exact hw) ?_ (by rw [hlen]; exact hz)
    rw [hlen]
    exact laidT (tk := s.toks) I (fun _ _ z => z) (Nat.le_trans (cutV_length xs lo hi) hz) ((r.drop (HT.sIx xs.length 0 lo)).take (HT.sIx xs.length xs.length hi - HT.sIx xs.length 0 lo)) q2
theorem call_tupleF : CallR X (.type "tuple") (fun xs H Q => ∃ p ys, xs = [.ref p] ∧ ((SqL X.K H p ys ∧ NewT H Q ys) ∨ (SqT X.K H p ys ∧ Q (.ref p) H))) := by
  rintro pins s σ H xs us Q I r ⟨p, ys, rfl, h⟩
  obtain ⟨u, rfl, rx⟩ := vals1 r
  cases rx
  rcases h with ⟨hq, q⟩ | ⟨hq, q⟩
  · obtain ⟨its, r', pl, hz⟩ := I.list hq
    have hlen := r'.length
    exact call_tuple_list pl.isList (fun h' kp => laidT (tk := s.toks) I kp hz r' q) (by simp only [List.size_toArray] <;> omega)
  · obtain ⟨its, r', pl, hz⟩ := I.tuple hq
    exact call_tuple_same pl ⟨.ref p, H, I, rfl, q⟩
def rRepF (K : PySem.W.Frag) : R2 := fun x y H Q => ∃ l k xs, x = .ref l ∧ y = .int k ∧ SqT K H l xs ∧ xs ≠ [] ∧ 2 ≤ k ∧ k ≤ 1000 ∧ xs.length ≤ 1000 ∧ NewT H Q (List.replicate k.toNat xs).flatten
theorem op_repF : OpR X (binaryOp .Mult) (rRepF X.K) := by
  rintro pins s σ H x y v u Q I rx ry ⟨l, k, xs, rfl, rfl, hT, hne, h1, h2, hz, q⟩
  cases rx
  obtain ⟨t, rfl⟩ := ry
  obtain ⟨its, r, ⟨⟨cls, dd, data, sl⟩, ho, hc, n, hd⟩, hs⟩ := I.tuple hT
  simp only at hc hd
  subst hc hd
  have el : its.length = xs.length := r.length.symm
  have hne' : its.toArray.isEmpty = false := by
    cases its with
    | nil => exact absurd (List.eq_nil_of_length_eq_zero el.symm) hne
    | cons a b => rfl
  have esz : its.toArray.size = xs.length := by rw [List.size_toArray, el]
  have few : ((its.toArray.size : Nat) : Int) * k ≤ 1000000 := by
    rw [esz]
    exact Int.le_trans (Int.mul_le_mul_of_nonneg_right (b := 1000) (by omega) (by omega)) (by omega)
  have len : (List.replicate k.toNat its).flatten.length ≤ sizeLine := by
    rw [PyProof.Rows.lm_len_rep_flat, el, sizeLine_eq]
    exact Nat.le_trans (Nat.mul_le_mul (show k.toNat ≤ 1000 by omega) hz) (by decide)
  have g0 : (decide (k < -(2 ^ 63)) || decide (k ≥ 2 ^ 63)) = false := by simp; omega
  have g1 : (its.toArray.isEmpty || k == 1) = false := by rw [hne', Bool.false_or]; exact beq_eq_false_iff_ne.mpr (by omega)
  have g2 : (decide (k ≤ 0) || its.toArray.isEmpty) = false := by rw [hne', Bool.or_false]; exact decide_eq_false (by omega)
  have g4 : Builtin.Tuple.tupleTooMany (((its.toArray.size : Nat) : Int) * k) = false := by
    unfold Builtin.Tuple.tupleTooMany; rw [sizeLine_eq]; exact decide_eq_false (by omega)
  refine wpAny_binaryOp_repeat_ref (T := "tuple") (U := "int") (by decide) ⟨_, ho, rfl⟩ (fun s' => typeIs_int s' k t) noFill_tuple_mul F.fills_int_mul F.slot_int_rmul repeat_tuple F.slot_int_index.lookup ?_
  refine call_meets F.slot_int_rmul (typeIs_int s k t) F.entry_int_rmul (F.args_int_rmul_2 _ _) (int_rmul_tuple k t l its.toArray n dd sl) ⟨ho, rfl, ⟨_, ho, rfl⟩, ?_⟩
  refine call_meets F.slot_tuple_mul ⟨_, ho, rfl⟩ F.entry_tuple_mul (F.args_tuple_mul_2 _ _) (tuple_mulW l its.toArray n dd sl k t g0 g1 g2 (by omega) g4 (by rw [size_rep, List.size_toArray]; exact len)) ⟨ho, ?_⟩
  rw [size_rep]
  exact laidT (tk := s.toks) I (fun _ _ z => z) (by rw [PyProof.Rows.lm_len_rep_flat] at len ⊢; rw [← el]; exact len) (r.rep k.toNat) q

/-! ### + - * // % ** -/
def addD : F2 := fun x y S k => match x, y with
  | .int i, .int j => k (.int (i + j)) S
  | .str a, .str b => a.length + b.length ≤ sizeLine ∧ k (.str (a ++ b)) S
  | .tup a, .tup b => a.length + b.length ≤ sizeLine ∧ k (.tup (a ++ b)) S
  | .ref a, .ref b => match S a, S b with
    | some (.lst xs), some (.lst ys) => xs.length + ys.length ≤ sizeLine ∧ ∀ p, S p = none → k (.ref p) (S.upd p (.lst (xs ++ ys)))
    | _, _ => False
  | _, _ => False
theorem opAdd : Op2 X (binaryOp .Add) addD := by
  refine ⟨_, op_add.or (op_add_str.or (op_catF.or op_cat)), fun x y S k v u H Q q rx ry hS c => ?_⟩
  unfold addD at q
  split at q
  · have := rx.int_; have := ry.int_; subst v u
    exact .inl ⟨_, _, rfl, rfl, c _ _ _ _ q Stp.refl .int hS⟩
  · have := rx.str_; have := ry.str_; subst v u
    exact .inr (.inl ⟨_, _, rfl, rfl, q.1, c _ _ _ _ q.2 Stp.refl .str hS⟩)
  · obtain ⟨a', vs, rfl, h1, h2⟩ := rx.tup_
    obtain ⟨b', us, rfl, h3, h4⟩ := ry.tup_
    refine .inr (.inr (.inl ⟨a', b', vs, us, rfl, rfl, h1.sq, h3.sq, by rw [← h2.length, ← h4.length]; exact q.1, fun e => ?_, fun e' => ?_, cl_newT c hS (h2.append h4) q.2⟩))
    · subst e
      have z := h2.length
      have z' : _ = [] := List.length_eq_zero_iff.mp z
      rw [z', List.nil_append] at q
      exact c _ _ _ _ q.2 Stp.refl ry hS
    · subst e'
      have z := h4.length
      have z' : _ = [] := List.length_eq_zero_iff.mp z
      rw [z', List.append_nil] at q
      exact c _ _ _ _ q.2 Stp.refl rx hS
  · split at q
    · rename_i a b _ _ xs ys e1 e2
      have := rx.ref_; have := ry.ref_; subst v u
      obtain ⟨vs, h1, h2⟩ := hS.lst e1
      obtain ⟨us, h3, h4⟩ := hS.lst e2
      exact .inr (.inr (.inr ⟨a, b, vs, us, rfl, rfl, h1, h3, by rw [← h2.length, ← h4.length]; exact q.1, cl_new c hS (h2.append h4) q.2⟩))
    · exact q.elim
  · exact q.elim
def i2 (C : Int → Int → Prop) (g : Int → Int → Int) : F2 := fun x y S k => match x, y with
  | .int i, .int j => C i j ∧ k (.int (g i j)) S
  | _, _ => False
theorem opI2 {f : Value → Value → Sem Value} {C : Int → Int → Prop} {g : Int → Int → Int} (h : OpR X f (rI C fun i j => .int (g i j))) : Op2 X f (i2 C g) := by
  refine ⟨_, h, fun x y S k v u H Q q rx ry hS c => ?_⟩
  unfold i2 at q
  split at q
  · have := rx.int_; have := ry.int_; subst v u
    exact ⟨_, _, rfl, rfl, q.1, c _ _ _ _ q.2 Stp.refl .int hS⟩
  · exact q.elim
def i20 (g : Int → Int → Int) : F2 := fun x y S k => match x, y with
  | .int i, .int j => k (.int (g i j)) S
  | _, _ => False
theorem opI20 {f : Value → Value → Sem Value} {g : Int → Int → Int} (h : OpR X f (rI0 fun i j => .int (g i j))) : Op2 X f (i20 g) := by
  refine ⟨_, h, fun x y S k v u H Q q rx ry hS c => ?_⟩
  unfold i20 at q
  split at q
  · have := rx.int_; have := ry.int_; subst v u
    exact ⟨_, _, rfl, rfl, c _ _ _ _ q Stp.refl .int hS⟩
  · exact q.elim
def b20 (g : Int → Int → Bool) : F2 := fun x y S k => match x, y with
  | .int i, .int j => k (.bl (g i j)) S
  | _, _ => False
theorem opB20 {f : Value → Value → Sem Value} {g : Int → Int → Bool} (h : OpR X f (rI0 fun i j => .bl (g i j))) : Op2 X f (b20 g) := by
  refine ⟨_, h, fun x y S k v u H Q q rx ry hS c => ?_⟩
  unfold b20 at q
  split at q
  · have := rx.int_; have := ry.int_; subst v u
    exact ⟨_, _, rfl, rfl, c _ _ _ _ q Stp.refl .bl hS⟩
  · exact q.elim
theorem opSub : Op2 X (binaryOp .Sub) (i20 fun i j => i - j) := opI20 op_sub
theorem opMod : Op2 X (binaryOp .Mod) (i2 (fun _ j => 0 < j) fun i j => i % j) := opI2 op_mod
theorem opDiv : Op2 X (binaryOp .FloorDiv) (i2 CDivW fun i j => i / j) := opI2 op_fdivW
theorem opPow : Op2 X (binaryOp .Pow) (i2 CPow fun i j => i ^ j.toNat) := opI2 op_pow
/-- int * int, tuple * int, list * int -/
def mulD : F2 := fun x y S k => match x, y with
  | .int i, .int j => CMul i j ∧ k (.int (i * j)) S
  | .tup xs, .int j => xs ≠ [] ∧ 2 ≤ j ∧ j ≤ 1000 ∧ xs.length ≤ 1000 ∧ k (.tup (List.replicate j.toNat xs).flatten) S
  | _, _ => False
theorem RpL.rep {ds : List D} {vs : List V} (h : RpL K H ds vs) : ∀ n : Nat, RpL K H (List.replicate n ds).flatten (List.replicate n vs).flatten
  | 0 => .nil
  | n + 1 => by
    rw [List.replicate_succ, List.replicate_succ, List.flatten_cons, List.flatten_cons]
    exact h.append (RpL.rep h n)
theorem opMul : Op2 X (binaryOp .Mult) mulD := by
  refine ⟨_, op_mul.or op_repF, fun x y S k v u H Q q rx ry hS c => ?_⟩
  unfold mulD at q
  split at q
  · have := rx.int_; have := ry.int_; subst v u
    exact .inl ⟨_, _, rfl, rfl, q.1, c _ _ _ _ q.2 Stp.refl .int hS⟩
  · have := ry.int_; subst u
    obtain ⟨a, vs, rfl, h1, h2⟩ := rx.tup_
    obtain ⟨n0, n1, n2, n3, q⟩ := q
    refine .inr ⟨a, _, vs, rfl, rfl, h1.sq, fun e => n0 ?_, n1, n2, by rw [← h2.length]; exact n3, cl_newT c hS (h2.rep _) q⟩
    subst e
    exact List.length_eq_zero_iff.mp h2.length
  · exact q.elim
def negD : F1 := fun x S k => match x with
  | .int i => k (.int (-i)) S
  | _ => False
theorem unNeg : Un1 X (unaryOp .USub) negD := by
  refine ⟨_, un_neg, fun x S k v H Q q rx hS c => ?_⟩
  unfold negD at q
  split at q
  · have := rx.int_; subst v
    exact ⟨_, rfl, c _ _ _ _ q Stp.refl .int hS⟩
  · exact q.elim

/-! ### comparisons -/
theorem opLt : Op2 X (compareOp .Lt) (b20 fun i j => decide (i < j)) := opB20 op_lt
theorem opLe : Op2 X (compareOp .LtE) (b20 fun i j => decide (i ≤ j)) := opB20 op_le
theorem opGt : Op2 X (compareOp .Gt) (b20 fun i j => decide (j < i)) := opB20 op_gt
theorem opGe : Op2 X (compareOp .GtE) (b20 fun i j => decide (j ≤ i)) := opB20 op_ge
mutual
/-- the datum of a value, the lists by what the store holds -/
inductive Py (S : Sto) : D → PyData → Prop
  | non : Py S .non .none
  | bl (b : Bool) : Py S (.bl b) (.bool b)
  | int (i : Int) : Py S (.int i) (.int i)
  | str (x : Str) : Py S (.str x) (.str x)
  | tup {xs : List D} {ps : List PyData} : PyL S xs ps → Py S (.tup xs) (.tuple ps)
  | lis {xs : List D} {ps : List PyData} : PyL S xs ps → Py S (.lis xs) (.list ps)
  | lst {a : Addr} {xs : List D} {ps : List PyData} : S a = some (.lst xs) → PyL S xs ps → Py S (.ref a) (.list ps)
inductive PyL (S : Sto) : List D → List PyData → Prop
  | nil : PyL S [] []
  | cons {d : D} {ds : List D} {p : PyData} {ps : List PyData} : Py S d p → PyL S ds ps → PyL S (d :: ds) (p :: ps)
end
mutual
theorem Py.dp (hS : AbsS K S H) : ∀ (p : PyData) (d : D) (v : V), Py S d p → Rp K H d v → Dp K H v p
  | _, _, v, .non, r => by rw [r.non_]; exact .non
  | _, _, v, .bl b, r => by rw [r.bl_]; exact .bl b
  | _, _, v, .int b, r => by rw [r.int_]; exact .int b
  | _, _, v, .str b, r => by rw [r.str_]; exact .str b
  | .tuple ps, _, v, .tup (xs := xs) l, r => by
    obtain ⟨a, vs, e, h1, h2⟩ := r.tup_
    rw [e]
    exact .tup h1.sq (PyL.dp hS ps xs vs l h2)
  | .list ps, _, v, .lis (xs := xs) l, r => by
    obtain ⟨a, vs, e, h1, h2⟩ := r.lis_
    rw [e]
    exact .lst h1.sq (PyL.dp hS ps xs vs l h2)
  | .list ps, _, v, .lst (xs := xs) e l, r => by
    obtain ⟨vs, h1, h2⟩ := hS.lst e
    rw [r.ref_]
    exact .lst (SqL.of h1) (PyL.dp hS ps xs vs l h2)
theorem PyL.dp (hS : AbsS K S H) : ∀ (ps : List PyData) (ds : List D) (vs : List V), PyL S ds ps → RpL K H ds vs → DpAll K H vs ps
  | _, _, vs, .nil, r => by rw [r.nil_of]; exact .nil
  | p :: ps, d :: ds, vs, .cons h t, r => by
    obtain ⟨v, r', e, h1, h2⟩ := r.cons_of
    rw [e]
    exact .cons (Py.dp hS p d v h h1) (PyL.dp hS ps ds r' t h2)
end
def eqG (neg : Bool) : F2 := fun x y S k => ∃ p q, Py S x p ∧ Py S y q ∧ SeqAt.shaped p = true ∧ SeqAt.shaped q = true ∧ k (.bl (neg ^^ PyData.eqv p q)) S
def eqD (neg : Bool) : F2 := fun x y S k => match x, y with
  | .int i, .int j => k (.bl (neg ^^ decide (i = j))) S
  | .str i, .str j => k (.bl (neg ^^ decide (i = j))) S
  | .non, .int _ => k (.bl (neg ^^ false)) S
  | .int _, .non => k (.bl (neg ^^ false)) S
  | .non, .non => k (.bl (neg ^^ true)) S
  | x, y => eqG neg x y S k
theorem eq_go {neg : Bool} {r1 r2 : R2} (h1 : ∀ x y H Q, scal x y = true → Q (.bl (neg ^^ decide (x = y))) H → r1 x y H Q)
    (h2 : ∀ x y H Q p q, Dp K H x p → Dp K H y q → SeqAt.shaped p = true → SeqAt.shaped q = true → Q (.bl (neg ^^ PyData.eqv p q)) H → r2 x y H Q)
    {x y : D} {k : RK} {v u : V} {Q : VK} (q : eqD neg x y S k) (rx : Rp K H x v) (ry : Rp K H y u) (hS : AbsS K S H) (c : Cl K H S k Q) : r1 v u H Q ∨ r2 v u H Q := by
  unfold eqD at q
  split at q
  · have := rx.int_; have := ry.int_; subst v u
    refine .inl (h1 _ _ _ _ rfl ?_)
    rw [dec_int, Bool.beq_eq_decide_eq]
    exact c _ _ _ _ q Stp.refl .bl hS
  · have := rx.str_; have := ry.str_; subst v u
    refine .inl (h1 _ _ _ _ rfl ?_)
    rw [dec_str, Bool.beq_eq_decide_eq]
    exact c _ _ _ _ q Stp.refl .bl hS
  · have := rx.non_; have := ry.int_; subst v u
    exact .inr (h2 _ _ _ _ _ _ .non (.int _) (by simp [SeqAt.shaped, PyData.canLay0, PyData.depth]) (by simp [SeqAt.shaped, PyData.canLay0, PyData.depth]) (by simp only [PyData.eqv]; exact c _ _ _ _ q Stp.refl .bl hS))
  · have := rx.int_; have := ry.non_; subst v u
    exact .inr (h2 _ _ _ _ _ _ (.int _) .non (by simp [SeqAt.shaped, PyData.canLay0, PyData.depth]) (by simp [SeqAt.shaped, PyData.canLay0, PyData.depth]) (by simp only [PyData.eqv]; exact c _ _ _ _ q Stp.refl .bl hS))
  · have := rx.non_; have := ry.non_; subst v u
    exact .inr (h2 _ _ _ _ _ _ .non .non (by simp [SeqAt.shaped, PyData.canLay0, PyData.depth]) (by simp [SeqAt.shaped, PyData.canLay0, PyData.depth]) (by simp only [PyData.eqv]; exact c _ _ _ _ q Stp.refl .bl hS))
  · obtain ⟨p, q', e1, e2, e3, e4, e5⟩ := q
    exact .inr (h2 _ _ _ _ _ _ (e1.dp hS _ _ _ rx) (e2.dp hS _ _ _ ry) e3 e4 (c _ _ _ _ e5 Stp.refl .bl hS))
theorem opEq (hu : X.A.units + 64 < cLine) : Op2 X (compareOp .Eq) (eqD false) :=
  ⟨_, op_eq.or (op_eqD hu), fun x y S k v u H Q q rx ry hS c => eq_go (neg := false) (fun x y H Q a b => ⟨a, by simpa using b⟩) (fun x y H Q p q a b d e f => ⟨p, q, a, b, d, e, by simpa using f⟩) q rx ry hS c⟩
theorem opNe (hu : X.A.units + 64 < cLine) : Op2 X (compareOp .NotEq) (eqD true) :=
  ⟨_, op_ne.or (op_neD hu), fun x y S k v u H Q q rx ry hS c => eq_go (neg := true) (fun x y H Q a b => ⟨a, by simpa using b⟩) (fun x y H Q p q a b d e f => ⟨p, q, a, b, d, e, by simpa using f⟩) q rx ry hS c⟩
/-- is None, is not None -/
def isN (neg : Bool) : F2 := fun x y S k => match y with
  | .non => k (.bl (neg ^^ (match x with | .non => true | _ => false))) S
  | _ => False
theorem Rp.non_iff : ∀ {x : D} {v : V}, Rp K H x v → (decide (v = .non)) = (match x with | .non => true | _ => false)
  | .non, v, r => by rw [r.non_]; rfl
  | .bl _, v, r => by rw [r.bl_]; rfl
  | .int _, v, r => by rw [r.int_]; rfl
  | .str _, v, r => by rw [r.str_]; rfl
  | .ref _, v, r => by rw [r.ref_]; rfl
  | .ty _, v, r => by rw [r.ty_]; rfl
  | .tup _, v, r => by obtain ⟨_, _, e, _⟩ := r.tup_; rw [e]; rfl
  | .lis _, v, r => by obtain ⟨_, _, e, _⟩ := r.lis_; rw [e]; rfl
  | .par _, v, r => by obtain ⟨_, _, e, _⟩ := r.par_; rw [e]; rfl
  | .dic _ _, v, r => by obtain ⟨_, _, _, e, _⟩ := r.dic_; rw [e]; rfl
theorem opIs : Op2 X (compareOp .Is) (isN false) := by
  refine ⟨_, op_isN, fun x y S k v u H Q q rx ry hS c => ?_⟩
  unfold isN at q
  split at q
  · refine ⟨ry.non_, ?_⟩
    rw [rx.non_iff]
    exact c _ _ _ _ (by simpa using q) Stp.refl .bl hS
  · exact q.elim
theorem opIsNot : Op2 X (compareOp .IsNot) (isN true) := by
  refine ⟨_, op_notN, fun x y S k v u H Q q rx ry hS c => ?_⟩
  unfold isN at q
  split at q
  · refine ⟨ry.non_, ?_⟩
    rw [rx.non_iff]
    exact c _ _ _ _ (by simpa using q) Stp.refl .bl hS
  · exact q.elim
/-- an int in a sequence of ints; a datum in a list of data -/
def inD (neg : Bool) : F2 := fun x y S k => (∃ (i : Int) (ns : List Int), x = .int i ∧ seqOf S y = some (ns.map D.int) ∧ k (.bl (neg ^^ decide (i ∈ ns))) S) ∨
  ∃ p ps, Py S x p ∧ Py S y (.list ps) ∧ SeqAt.shaped p = true ∧ SeqAt.shaped (.list ps) = true ∧ k (.bl (neg ^^ ps.any fun z => PyData.eqv z p)) S
theorem inV_ints (i : Int) : ∀ ns : List Int, inV (.int i) (ns.map V.int) = decide (i ∈ ns)
  | [] => rfl
  | n :: ns => by
    have ih := inV_ints i ns
    unfold inV at ih ⊢
    rw [List.map_cons, List.any_cons, ih]
    show ((n == i) || _) = _
    by_cases h : i = n
    · subst h; simp
    · have h' : (n == i) = false := beq_eq_false_iff_ne.mpr fun e => h e.symm
      rw [h']; simp [h]
theorem flat_ints (ns : List Int) : (ns.map V.int).all flatV = true := by
  rw [List.all_map]
  exact List.all_eq_true.mpr fun _ _ => rfl
theorem opIn (hu : X.A.units + 65 < cLine) : Op2 X (compareOp .In) (inD false) := by
  refine ⟨_, op_in_seq.or (op_inD hu), fun x y S k v u H Q q rx ry hS c => ?_⟩
  rcases q with ⟨i, ns, rfl, e, q⟩ | ⟨p, ps, h1, h2, h3, h4, q⟩
  · obtain ⟨a, vs, rfl, h1, h2⟩ := seq_of e ry hS
    have := h2.ints; subst vs
    have := rx.int_; subst v
    exact .inl ⟨a, _, rfl, h1, rfl, flat_ints ns, by rw [inV_ints]; exact c _ _ _ _ (by simpa using q) Stp.refl .bl hS⟩
  · exact .inr ⟨p, ps, h1.dp hS _ _ _ rx, h2.dp hS _ _ _ ry, h3, h4, c _ _ _ _ (by simpa using q) Stp.refl .bl hS⟩
theorem opNotIn (hu : X.A.units + 65 < cLine) : Op2 X (compareOp .NotIn) (inD true) := by
  refine ⟨_, op_notIn_seq.or (op_notInD hu), fun x y S k v u H Q q rx ry hS c => ?_⟩
  rcases q with ⟨i, ns, rfl, e, q⟩ | ⟨p, ps, h1, h2, h3, h4, q⟩
  · obtain ⟨a, vs, rfl, h1, h2⟩ := seq_of e ry hS
    have := h2.ints; subst vs
    have := rx.int_; subst v
    exact .inl ⟨a, _, rfl, h1, rfl, flat_ints ns, by rw [inV_ints]; exact c _ _ _ _ (by simpa using q) Stp.refl .bl hS⟩
  · exact .inr ⟨p, ps, h1.dp hS _ _ _ rx, h2.dp hS _ _ _ ry, h3, h4, c _ _ _ _ (by simpa using q) Stp.refl .bl hS⟩

/-! ### subscripts, slices, stores -/
def ixD : F2 := fun x y S k => match y with
  | .int i => ∃ xs d, seqOf S x = some xs ∧ atI xs i = some d ∧ k d S
  | _ => False
theorem RpL.at {ds : List D} {vs : List V} {i : Int} {d : D} (h : RpL K H ds vs) (e : atI ds i = some d) : ∃ v, atI vs i = some v ∧ Rp K H d v := by
  unfold atI at e ⊢
  rw [← h.length]
  cases q : ixN ds.length i with
  | none => rw [q] at e; cases e
  | some j =>
    rw [q] at e
    exact h.get e
theorem ixSeq : IxD X ixD := by
  refine ⟨_, ix_seq, fun x y S k v u H Q q rx ry hS c => ?_⟩
  unfold ixD at q
  split at q
  · have := ry.int_; subst u
    obtain ⟨xs, d, e, e2, q⟩ := q
    obtain ⟨a, vs, rfl, h1, h2⟩ := seq_of e rx hS
    obtain ⟨w, h3, h4⟩ := h2.at e2
    rcases h1 with h1 | h1
    · exact .inl ⟨a, vs, _, w, rfl, rfl, h1, h3, c _ _ _ _ q Stp.refl h4 hS⟩
    · exact .inr (.inl ⟨a, vs, _, w, rfl, rfl, h1, h3, c _ _ _ _ q Stp.refl h4 hS⟩)
  · exact q.elim
def cutD (xs : List D) (lo hi : Option Int) : List D := (xs.drop (HT.sIx xs.length 0 lo)).take (HT.sIx xs.length xs.length hi - HT.sIx xs.length 0 lo)
theorem RpL.cut {ds : List D} {vs : List V} (h : RpL K H ds vs) (lo hi : Option Int) : RpL K H (cutD ds lo hi) (cutV vs lo hi) := by
  unfold cutD cutV
  rw [h.length]
  exact (h.drop _).take _
def slD : FS := fun x lo hi S k => match x with
  | .tup xs => k (.tup (cutD xs lo hi)) S
  | .lis xs => ∀ p, S p = none → k (.ref p) (S.upd p (.lst (cutD xs lo hi)))
  | .ref a => match S a with
    | some (.lst xs) => ∀ p, S p = none → k (.ref p) (S.upd p (.lst (cutD xs lo hi)))
    | _ => False
  | _ => False
theorem RpL.inj_ : ∀ {xs ys : List D} {vs : List V}, RpL K H xs vs → RpL K H ys vs → xs.length = ys.length := fun a b => a.length.trans b.length.symm
theorem slSeq : SlD X slD := by
  refine ⟨_, sl_tupF.or sl_list, fun x lo hi S k v H Q q rx hS c => ?_⟩
  unfold slD at q
  split at q
  · rename_i xs
    obtain ⟨a, vs, rfl, h1, h2⟩ := rx.tup_
    refine .inl ⟨a, vs, rfl, h1.sq, fun w => ?_, cl_newT c hS (h2.cut lo hi) q⟩
    have hr := h2.cut lo hi
    rw [w] at hr
    exact c _ _ _ _ q Stp.refl (.tup h1 hr) hS
  · obtain ⟨a, vs, rfl, h1, h2⟩ := rx.lis_
    exact .inr ⟨a, vs, rfl, h1.sq, cl_new c hS (h2.cut lo hi) q⟩
  · split at q
    · rename_i a _ xs e
      have := rx.ref_; subst v
      obtain ⟨vs, h1, h2⟩ := hS.lst e
      exact .inr ⟨a, vs, rfl, SqL.of h1, cl_new c hS (h2.cut lo hi) q⟩
    · exact q.elim
  · exact q.elim
variable {a b e lo hi : Expr} {es : List Expr} {ra rb : RT} {rl : RTa} {pos p2 : Pos}
theorem re_ix {g : F2} (hr : IxD X g) (ha : RE X a ra) (hb : RE X b rb) (hs : PlainIx b := by exact fun _ _ => rfl) : RE X (.Subscript a b pos) (rBin g ra rb) := by
  obtain ⟨r, ho, hc⟩ := hr
  exact PE.imp (pe_ix ho ha hb hs) fun σ H Q h => two hc h
abbrev RTo := DEnv → Sto → (Option Int → Sto → Prop) → Prop
def tO (K : PySem.W.Frag) (r : RTo) : TO := fun σ H Q => ∃ env S k, AbsE K H env σ ∧ AbsS K S H ∧ r env S k ∧ ∀ o S' H', k o S' → Stp H S H' S' → AbsS K S' H' → Q o H'
def RO (X : Cx) (e : Option Expr) (r : RTo) : Prop := PO X e (tO X.K r)
theorem PO.imp {e : Option Expr} {t t' : TO} (h : PO X e t) (i : ∀ σ H Q, t' σ H Q → t σ H Q) : PO X e t' := ⟨fun pins s σ H Q I q => h.run pins s σ H Q I (i σ H Q q)⟩
def oNone : RTo := fun _ S k => k none S
def oSome (r : RT) : RTo := fun env S k => r env S fun d S1 => match d with
  | .int i => k (some i) S1
  | _ => False
theorem ro_none : RO X none oNone := PO.imp po_none fun σ H Q ⟨env, S, k, hE, hS, q, c⟩ => c _ _ _ q Stp.refl hS
theorem ro_some (h : RE X e ra) : RO X (some e) (oSome ra) := PO.imp (po_some h) fun σ H Q ⟨env, S, k, hE, hS, q, c⟩ =>
  ⟨env, S, _, hE, hS, q, fun d S1 v H1 q1 st r hS1 => by
    dsimp only at q1 ⊢
    split at q1
    · exact ⟨_, r.int_, c _ _ _ q1 st hS1⟩
    · exact q1.elim⟩
def rSl (g : FS) (re : RT) (rlo rhi : RTo) : RT := fun env S k => re env S fun x S1 => rlo env S1 fun lo S2 => rhi env S2 fun hi S3 => g x lo hi S3 k
theorem re_slice {lo hi : Option Expr} {g : FS} {rlo rhi : RTo} (hr : SlD X g) (he : RE X e ra) (hl : RO X lo rlo) (hu : RO X hi rhi) : RE X (.Subscript e (.Slice lo hi none p2) pos) (rSl g ra rlo rhi) := by
  obtain ⟨r, h1, h2⟩ := hr
  refine PE.imp (pe_slice h1 he hl hu) fun σ H Q ⟨env, S, k, hE, hS, q, c⟩ => ?_
  refine ⟨env, S, _, hE, hS, q, fun x S1 v H1 q1 st1 r1 hS1 => ?_⟩
  refine ⟨env, S1, _, hE.mon (st1.mon hS), hS1, q1, fun l S2 H2 q2 st2 hS2 => ?_⟩
  refine ⟨env, S2, _, (hE.mon (st1.mon hS)).mon (st2.mon hS1), hS2, q2, fun u S3 H3 q3 st3 hS3 => ?_⟩
  exact h2 x l u S3 k v H3 Q q3 ((r1.mon (st2.mon hS1)).mon (st3.mon hS2)) hS3 (((c.after st1).after st2).after st3)
/-- xs[i] = v -/
def setL : SetF := fun o i d S k => match o, i with
  | .ref l, .int n => match S l with
    | some (.lst xs) => ∃ j, ixN xs.length n = some j ∧ k (S.upd l (.lst (xs.set j d)))
    | _ => False
  | _, _ => False
theorem setLst : SetD X setL := by
  refine ⟨_, set_list, fun o i d S k ov iv v H Q q ro ri rv hS c => ?_⟩
  unfold setL at q
  split at q
  · split at q
    · rename_i l n _ xs e
      have := ro.ref_; have := ri.int_; subst ov iv
      obtain ⟨vs, h1, h2⟩ := hS.lst e
      obtain ⟨j, e2, q⟩ := q
      refine ⟨l, vs, n, j, rfl, rfl, h1, by rw [← h2.length]; exact e2, ?_⟩
      exact c _ _ q (Stp.write e) (hS.write h1 True.intro True.intro ⟨_, rfl, (h2.set j rv).mon (Mon.write h1 True.intro)⟩)
    · exact q.elim
  · exact q.elim

/-! ### builtins -/
def lenD : FL := fun ds S k => match ds with
  | [.str x] => x.length ≤ sizeLine ∧ k (.int x.length) S
  | [d] => ∃ xs, seqOf S d = some xs ∧ k (.int xs.length) S
  | _ => False
theorem RpL.one {d : D} {vs : List V} (h : RpL K H [d] vs) : ∃ v, vs = [v] ∧ Rp K H d v := by
  obtain ⟨v, r, e, p, t⟩ := h.cons_of
  rw [t.nil_of] at e
  exact ⟨v, e, p⟩
theorem RpL.two {d d' : D} {vs : List V} (h : RpL K H [d, d'] vs) : ∃ v v', vs = [v, v'] ∧ Rp K H d v ∧ Rp K H d' v' := by
  obtain ⟨v, r, e, p, t⟩ := h.cons_of
  obtain ⟨v', e', p'⟩ := t.one
  exact ⟨v, v', by rw [e, e'], p, p'⟩
theorem cLen : CallD X (.builtin "len") lenD := by
  refine ⟨_, call_len, fun ds S k vs H Q q r hS c => ?_⟩
  unfold lenD at q
  split at q
  · obtain ⟨v, rfl, r0⟩ := r.one
    have := r0.str_; subst v
    exact ⟨_, _, rfl, ⟨q.1, rfl⟩, c _ _ _ _ q.2 Stp.refl .int hS⟩
  · obtain ⟨v, rfl, r0⟩ := r.one
    obtain ⟨xs, e, q⟩ := q
    obtain ⟨a, us, rfl, h1, h2⟩ := seq_of e r0 hS
    rw [h2.length] at q
    refine ⟨_, us.length, rfl, ?_, c _ _ _ _ q Stp.refl .int hS⟩
    rcases h1 with h1 | h1
    · exact .inl ⟨us, h1, rfl⟩
    · exact .inr ⟨us, h1, rfl⟩
  · exact q.elim
def maxD : FL := fun ds S k => match ds with
  | [.int i, .int j] => k (.int (if j > i then j else i)) S
  | _ => False
theorem cMax (hc : X.calm = true) : CallD X (.builtin "max") maxD := by
  refine ⟨_, call_max2 hc, fun ds S k vs H Q q r hS c => ?_⟩
  unfold maxD at q
  split at q
  · obtain ⟨v, v', rfl, r1, r2⟩ := r.two
    have := r1.int_; have := r2.int_; subst v v'
    exact ⟨_, _, rfl, c _ _ _ _ q Stp.refl .int hS⟩
  · exact q.elim
/-- list(xs) -/
def listD : FL := fun ds S k => match ds with
  | [d] => ∃ xs, seqOf S d = some xs ∧ ∀ p, S p = none → k (.ref p) (S.upd p (.lst xs))
  | _ => False
theorem cList : CallD X (.type "list") listD := by
  refine ⟨_, call_list_of, fun ds S k vs H Q q r hS c => ?_⟩
  unfold listD at q
  split at q
  · obtain ⟨v, rfl, r0⟩ := r.one
    obtain ⟨xs, e, q⟩ := q
    obtain ⟨a, us, rfl, h1, h2⟩ := seq_of e r0 hS
    exact ⟨a, us, rfl, h1, cl_new c hS h2 q⟩
  · exact q.elim
def isTup : D → Bool
  | .tup _ => true
  | _ => false
theorem sq_lst {d : D} {a : Addr} {xs : List D} (e : seqOf S d = some xs) (n : isTup d = false) (r0 : Rp K H d (.ref a)) (hS : AbsS K S H) : ∃ vs, SqL K H a vs ∧ RpL K H xs vs := by
  cases d with
  | tup ys => cases n
  | lis ys =>
    cases (show some ys = some xs from e)
    obtain ⟨a', vs, h1, h2, h3⟩ := r0.lis_
    cases h1
    exact ⟨vs, h2.sq, h3⟩
  | ref a' =>
    have := r0.ref_
    cases this
    unfold seqOf at e
    dsimp only at e
    split at e
    · rename_i xs' q
      cases e
      obtain ⟨vs, h1, h2⟩ := hS.lst q
      exact ⟨vs, SqL.of h1, h2⟩
    · cases e
  | _ => cases e
/-- tuple(xs) -/
def tupleD : FL := fun ds S k => match ds with
  | [.tup xs] => k (.tup xs) S
  | [d] => ∃ xs, seqOf S d = some xs ∧ isTup d = false ∧ k (.tup xs) S
  | _ => False
theorem cTuple : CallD X (.type "tuple") tupleD := by
  refine ⟨_, call_tupleF, fun ds S k vs H Q q r hS c => ?_⟩
  unfold tupleD at q
  split at q
  · obtain ⟨v, rfl, r0⟩ := r.one
    obtain ⟨a, us, rfl, h1, h2⟩ := r0.tup_
    exact ⟨a, us, rfl, .inr ⟨h1.sq, c _ _ _ _ q Stp.refl r0 hS⟩⟩
  · obtain ⟨v, rfl, r0⟩ := r.one
    obtain ⟨xs, e, n, q⟩ := q
    obtain ⟨a, us, rfl, _, _⟩ := seq_of e r0 hS
    obtain ⟨us, h3, h4⟩ := sq_lst e n r0 hS
    exact ⟨a, us, rfl, .inl ⟨h3, cl_newT c hS h4 q⟩⟩
  · exact q.elim
def allD : FL := fun ds S k => match ds with
  | [d] => ∃ bs : List Bool, seqOf S d = some (bs.map D.bl) ∧ isTup d = false ∧ k (.bl (bs.all id)) S
  | _ => False
theorem cAll (hc : X.calm = true) : CallD X (.builtin "all") allD := by
  refine ⟨_, cr_all hc, fun ds S k vs H Q q r hS c => ?_⟩
  unfold allD at q
  split at q
  · obtain ⟨v, rfl, r0⟩ := r.one
    obtain ⟨bs, e, n, q⟩ := q
    obtain ⟨a, us, rfl, _, _⟩ := seq_of e r0 hS
    obtain ⟨us, h1, h2⟩ := sq_lst e n r0 hS
    have := h2.bls; subst us
    exact ⟨a, bs, rfl, h1, c _ _ _ _ q Stp.refl .bl hS⟩
  · exact q.elim
end
end DL
/-! enumerate over what begins anywhere; walks of lists, tuples, ranges -/
namespace DLE
open PySem
theorem new_enum1 {v : Value} {o : Obj} {H : Heap → Prop} (B : Begins v o H) : Meets (Builtin.«enumerate.__new__» ⟨[.type "enumerate", v], []⟩) (fun _ R s => H s.heap ∧
      R (.ok (.ret (.ref (s.heap.push o).objs.size))) { s with heap := (s.heap.push o).push { cls := .type "enumerate", data := .fields #[.none, .bool false, .ref s.heap.objs.size, rawInt 0, .none, .none] } }) := by
  refine .of_wp fun prog w A R s hh => ?_
  obtain ⟨hp, g, d, tk, os⟩ := s
  obtain ⟨h1, h⟩ := hh
  have hsub := sub_enumerate
  have qi : ∀ {A' : Around} {E Q : Value → Shared → Prop}, Q (.ref hp.objs.size) ⟨hp.push o, g, d, tk, os⟩ → wpAny (model prog w) A' (pyIter v) Q E ⟨hp, g, d, tk, os⟩ := fun {A' E Q} z => B.iter prog w _ _ ⟨hp, g, d, tk, os⟩ _ h1 z
  wp_walk using qi
  refine wpAny_stack_any fun _ => wpAny_pure ?_
  split
  · rename_i c _ _ _ _ _
    cases (c == Value.type "enumerate") <;> (wp_walk using qi; exact ⟨_, rfl, h⟩)
  · wp_walk using qi; exact ⟨_, rfl, h⟩
theorem enum_begins1 {prog : Program} {w : World} {A : Around} {E : Value → Shared → Prop} {s : Shared} {v : Value} {o : Obj} {H : Heap → Prop} {Q : Value → Shared → Prop} (B : Begins v o H) (h1 : H s.heap)
    (h : ∀ h', IsEnum h' (s.heap.objs.size + 1) s.heap.objs.size 0 .none → h'.get? s.heap.objs.size = some o → (∀ b u, s.heap.get? b = some u → h'.get? b = some u) → Q (.ref (s.heap.objs.size + 1)) { s with heap := h' }) :
    wpAny (model prog w) A (call (.type "enumerate") [v]) Q E s := by
  refine callType_new F.called_enumerate (by decide) (F.typeCall_enumerate_1 _) (F.newCall_enumerate_1 _) (fun obj => F.args_object_init_2 obj _) F.entry_enumerate_new (new_enum1 B) ⟨h1, ?_⟩
  have hz : (s.heap.push o).objs.size = s.heap.objs.size + 1 := Heap.size_push ..
  have he := Heap.get?_push_size (s.heap.push o) (o := { cls := .type "enumerate", data := .fields #[.none, .bool false, .ref s.heap.objs.size, rawInt 0, .none, .none] }) rfl
  rw [hz] at he
  show _ ∧ _
  rw [hz]
  exact ⟨⟨_, he, rfl⟩, h _ he (Heap.get?_push_of_some _ (Heap.get?_push_size _ B.free)) fun b u x => Heap.get?_push_of_some _ (Heap.get?_push_of_some _ x)⟩
end DLE
namespace DL
open PySem PySem.Spec PyProof.Rows L2
/-- the tuple at a, each item in a new pair with its place -/
def ItE (K : PySem.W.Frag) (a : Addr) (xs : List V) : It :=
  ⟨fun i H => SqT K H a xs ∧ i < xs.length, fun i H v H' => ∃ T x, v = .ref T ∧ H T = none ∧ H' = L2.upd H T (.tup [.int (i : Nat), x]) ∧ xs[i]? = some x, fun i H => SqT K H a xs ∧ i = xs.length⟩
theorem turn_enumT {P : Program} {w : World} {K : PySem.W.Frag} {elts : List Expr} {kk : Nat} {tpos : Pos} (a e it : Addr) (xs : List V) (hei : e ≠ it) (hai : a ≠ it) (hea : e ≠ a) :
    Turn P w K (.Tuple elts kk tpos) (ItE K a xs) [e, it] e (fun i h => (∃ old, IsEnum h e it ((i : Nat) : Int) old) ∧ h.IsTupleIter it a i) where
  mem := by simp
  obj := by
    intro i h st b hb
    obtain ⟨⟨old, he⟩, ⟨o, ho, hc, hd⟩⟩ := st
    rcases (by simpa using hb : b = e ∨ b = it) with rfl | rfl
    · exact ⟨_, he, fun v q => nomatch q⟩
    · exact ⟨o, ho, fun v q => by rw [hd] at q; cases q⟩
  keep := by
    intro i h h' st k
    obtain ⟨⟨old, he⟩, hi⟩ := st
    exact ⟨⟨old, k e (by simp) _ he⟩, hi.at fun o q => k it (by simp) o q⟩
  item := by
    intro X hP hw hK hc i pins s σ H E I hf st hg
    subst hP hw hK
    obtain ⟨⟨old, he⟩, hit⟩ := st
    obtain ⟨hq, hlt⟩ := hg
    obtain ⟨its, rv, p, hz⟩ := I.tuple hq
    have hl := rv.length
    have Dr := Draws.tuple (prog := X.prog) (w := X.w) (A := X.A.in1) (I.ok.hd hc) it a hai its.toArray
    have W := GoesN.enumFrom (elts := elts) (x1 := kk) (pos := tpos) 0 Dr e hei (by simp [hei, hea]) (by simp)
    refine W.goes i s _ E (by simp; omega) ⟨⟨old, by rw [Int.zero_add]; exact he⟩, hit, p⟩ fun v h' tk Y st' kp _ => ?_
    obtain ⟨T, t, x, ev, hnew, hx, hT⟩ := Y
    subst ev
    obtain ⟨⟨old', he'⟩, hit', _⟩ := st'
    have hx' : its[i]? = some x := by simpa using hx
    obtain ⟨y, hy⟩ : ∃ y, xs[i]? = some y := ⟨xs[i], by simp [hlt]⟩
    obtain ⟨u, hu, ru⟩ := rv.get hy
    rw [hx'] at hu
    cases hu
    rw [Int.zero_add] at hT
    have hT' : IsTup h' T #[.int ((i : Nat) : Int) t, x] := hT
    have Tf : H T = none := I.hok.fresh hnew
    have I1 : Inv X pins σ (L2.upd H T (.tup [.int (i : Nat), y])) { s with heap := h', toks := tk } := by
      refine I.turnedNew (ch := [e, it]) (fun b ob hb q => kp b ob hb q) hf hnew ?_
      exact ⟨by show 2 ≤ sizeLine; decide, [.int ((i : Nat) : Int) t, x], .cons ⟨_, rfl⟩ (.cons ru .nil), hT'⟩
    refine ⟨.ref T, _, I1, rfl, ⟨T, y, rfl, Tf, rfl, hy⟩, ⟨⟨old', ?_⟩, hit'⟩, fun b hb => ?_⟩
    · have e1 : (0 : Int) + ((i + 1 : Nat) : Int) = ((i + 1 : Nat) : Int) := Int.zero_add _
      rw [← e1]
      exact he'
    · have hb' : b < s.heap.objs.size := by
        rcases (by simpa using hb : b = e ∨ b = it) with rfl | rfl
        · exact Heap.lt_size he
        · obtain ⟨_, q, _⟩ := hit; exact Heap.lt_size q
      rw [L2.upd_ne (Nat.ne_of_lt (Nat.lt_of_lt_of_le hb' hnew))]
      exact (hf b hb).1
  done := by
    intro X hP hw hK hc i pins s σ H E I hf st hg
    subst hP hw hK
    obtain ⟨⟨old, he⟩, hit⟩ := st
    obtain ⟨hq, hlt⟩ := hg
    subst hlt
    obtain ⟨its, rv, p, hz⟩ := I.tuple hq
    have hl := rv.length
    have Dr := Draws.tuple (prog := X.prog) (w := X.w) (A := X.A.in1) (I.ok.hd hc) it a hai its.toArray
    have W := GoesN.enumFrom (elts := elts) (x1 := kk) (pos := tpos) 0 Dr e hei (by simp [hei, hea]) (by simp)
    have hn : its.toArray.size = xs.length := by simp; omega
    rw [hn] at W
    refine W.stops s _ E ⟨⟨old, by rw [Int.zero_add]; exact he⟩, hit, p⟩ fun h' tk kp _ => ?_
    exact I.turnedL (ch := [e, it]) kp hf
  self := by
    intro A i s Q E st h
    obtain ⟨⟨_, he⟩, _⟩ := st
    exact wpAny_pyIter_enum he h
theorem walk_enumT {K : PySem.W.Frag} {a : Addr} {xs : List V} : Walk (ItE K a xs) xs.length (fun H => SqT K H a xs) (YPair (fun i => some (.int (i : Nat))) (fun i => xs[i]?)) :=
  ⟨fun _ _ hi q => ⟨q, hi⟩, fun _ q => ⟨q, rfl⟩, fun i H v H' _ q ⟨T, x, h1, h2, h3, h4⟩ => ⟨T, .int (i : Nat), x, h1, h2, h3, rfl, h4⟩⟩
section
variable {X : Cx} {K : PySem.W.Frag} {H : Hp} {S : Sto}
/-- what may be walked: a tuple, a list -/
theorem walkD_tup {a : Addr} {vs : List V} {xs : List D} {G : Sto → Prop} (h : SqT K H a vs) (r : RpL K H xs vs) : WalkD K H (Itt K a) xs G := by
  refine ⟨_, _, by rw [r.length]; exact walk_tup (xs := vs), fun S' H' m _ _ => m.sqt h, fun i H' x H2 hi _ y => ?_⟩
  obtain ⟨rfl, y⟩ := y
  obtain ⟨d, e, _⟩ := r.getV y
  refine ⟨d, e, fun S' m hS' => ⟨?_, Stp.refl, hS'⟩⟩
  obtain ⟨v, e1, e2⟩ := (r.mon m).get e
  rw [y] at e1; cases e1
  exact e2
theorem walkD_lis {a : Addr} {vs : List V} {xs : List D} {G : Sto → Prop} (h : FzL K H a vs) (r : RpL K H xs vs) : WalkD K H (Itl K a) xs G := by
  refine ⟨_, _, by rw [r.length]; exact walk_list (xs := vs), fun S' H' m _ _ => (m.fzl h).sq, fun i H' x H2 hi _ y => ?_⟩
  obtain ⟨rfl, y⟩ := y
  obtain ⟨d, e, _⟩ := r.getV y
  refine ⟨d, e, fun S' m hS' => ⟨?_, Stp.refl, hS'⟩⟩
  obtain ⟨v, e1, e2⟩ := (r.mon m).get e
  rw [y] at e1; cases e1
  exact e2
/-- a list of the store that is as it was at each turn -/
theorem walkD_lst {a : Addr} {xs : List D} {vs : List V} (h : H a = some (.lst vs)) (r : RpL K H xs vs) : WalkD K H (Itl K a) xs fun S => S a = some (.lst xs) := by
  refine ⟨fun H' => ∃ vs', SqL K H' a vs' ∧ vs'.length = xs.length ∧ H' a = some (.lst vs') ∧ RpL K H' xs vs', fun i H' x H2 => H2 = H' ∧ ∃ vs', H' a = some (.lst vs') ∧ RpL K H' xs vs' ∧ vs'[i]? = some x, ⟨?_, ?_, ?_⟩, fun S' H' m hS' e => ?_, fun i H' x H2 hi _ y => ?_⟩
  · rintro i H' hi ⟨vs', q, hl, _⟩
    exact ⟨vs', vs'[i]'(by omega), q, by simp [hl, hi]⟩
  · rintro H' ⟨vs', q, hl, _⟩
    exact ⟨vs', q, by omega⟩
  · rintro i H' x H2 hi ⟨vs', q, hl, e, r'⟩ ⟨rfl, y⟩
    exact ⟨rfl, vs', e, r', y vs' q⟩
  · obtain ⟨vs', h1, h2⟩ := hS'.lst e
    exact ⟨vs', SqL.of h1, h2.length.symm, h1, h2⟩
  · obtain ⟨rfl, vs', e, r', y⟩ := y
    obtain ⟨d, e1, e2⟩ := r'.getV y
    exact ⟨d, e1, fun S' m hS' => ⟨e2, Stp.refl, hS'⟩⟩
variable {tg e e2 : Expr} {re : RT} {p pos : Pos}
/-- for x in a tuple, a list (the list known at its start; it stays as it is) -/
def iSeq (re : RT) : RTi := fun env S k => re env S fun d S1 => match d with
  | .tup xs => k xs (fun _ => True) S1
  | .lis xs => k xs (fun _ => True) S1
  | .ref a => match S1 a with
    | some (.lst xs) => k xs (fun S => S a = some (.lst xs)) S1
    | _ => False
  | _ => False
def isRefD : D → Bool
  | .tup _ => false
  | _ => true
/-- a tuple -/
def iTupD (re : RT) : RTi := fun env S k => re env S fun d S1 => match d with
  | .tup xs => k xs (fun _ => True) S1
  | _ => False
theorem ri_tup (h : RE X e re) : RI X tg e (iTupD re) := by
  refine PI.imp (pi_tup h) fun σ H R ⟨env, S, k, hE, hS, q, cl⟩ => ?_
  refine ⟨env, S, _, hE, hS, q, fun d S1 v H1 q1 st r1 hS1 => ?_⟩
  dsimp only at q1 ⊢
  split at q1
  · obtain ⟨a, vs, rfl, h1, h2⟩ := r1.tup_
    exact ⟨a, rfl, ⟨vs, h1.sq⟩, cl _ _ _ _ _ q1 st hS1 (walkD_tup h1.sq h2)⟩
  · exact q1.elim
/-- a list -/
def iLstD (re : RT) : RTi := fun env S k => re env S fun d S1 => match d with
  | .lis xs => k xs (fun _ => True) S1
  | .ref a => match S1 a with
    | some (.lst xs) => k xs (fun S => S a = some (.lst xs)) S1
    | _ => False
  | _ => False
theorem ri_lst (h : RE X e re) : RI X tg e (iLstD re) := by
  refine PI.imp (pi_list h) fun σ H R ⟨env, S, k, hE, hS, q, cl⟩ => ?_
  refine ⟨env, S, _, hE, hS, q, fun d S1 v H1 q1 st r1 hS1 => ?_⟩
  dsimp only at q1 ⊢
  split at q1
  · obtain ⟨a, vs, rfl, h1, h2⟩ := r1.lis_
    exact ⟨a, rfl, ⟨vs, h1.sq⟩, cl _ _ _ _ _ q1 st hS1 (walkD_lis h1 h2)⟩
  · split at q1
    · rename_i a _ xs e1
      have := r1.ref_; subst this
      obtain ⟨vs, h1, h2⟩ := hS1.lst e1
      exact ⟨a, rfl, ⟨vs, SqL.of h1⟩, cl _ _ _ _ _ q1 st hS1 (walkD_lst h1 h2)⟩
    · exact q1.elim
  · exact q1.elim
def rngD (lo : Int) (n : Nat) : List D := (List.range n).map fun i => D.int (lo + (i : Nat))
theorem rngD_length (lo : Int) (n : Nat) : (rngD lo n).length = n := by unfold rngD; simp
theorem rngD_get {lo : Int} {n i : Nat} (h : i < n) : (rngD lo n)[i]? = some (.int (lo + (i : Nat))) := by unfold rngD; simp [h]
theorem walkD_rng {lo : Int} {n : Nat} {G : Sto → Prop} : WalkD K H (Itr lo n) (rngD lo n) G := by
  refine ⟨_, _, by rw [rngD_length]; exact walk_range, fun _ _ _ _ _ => True.intro, fun i H' x H2 hi _ y => ?_⟩
  obtain ⟨rfl, rfl⟩ := y
  rw [rngD_length] at hi
  exact ⟨_, rngD_get hi, fun S' m hS' => ⟨.int, Stp.refl, hS'⟩⟩
/-- range(n), range(a, b) -/
def iRng (rl : RTa) : RTi := fun env S k => rl env S fun ds S1 => match ds with
  | [.int n] => n < 2 ^ 62 ∧ -(2 ^ 62) ≤ n ∧ k (rngD 0 n.toNat) (fun _ => True) S1
  | _ => False
def iRng' (rl : RTa) : RTi := fun env S k => rl env S fun ds S1 => match ds with
  | [.int a, .int b] => (-(2 ^ 62) ≤ a ∧ a < 2 ^ 62 ∧ -(2 ^ 62) ≤ b ∧ b < 2 ^ 62) ∧ k (rngD a (b - a).toNat) (fun _ => True) S1
  | _ => False
variable {rl : RTa}
theorem ri_rng (hg : Gl X "range") (hm : X.mg "range" = none) (ha : RA X [e] rl) (hs : starEach [e] X.env = [(false, eval e X.env)] := by rfl) : RI X tg (.Call (.Name "range" p) [e] [] pos) (iRng rl) := by
  refine PI.imp (pi_range1 hg hm ha hs) fun σ H R ⟨env, S, k, hE, hS, q, cl⟩ => ?_
  refine ⟨env, S, _, hE, hS, q, fun ds S1 vs H1 q1 st r1 hS1 => ?_⟩
  dsimp only at q1 ⊢
  split at q1
  · obtain ⟨v, rfl, r2⟩ := r1.one
    have := r2.int_; subst this
    exact ⟨_, rfl, q1.2.1, q1.1, cl _ _ _ _ _ q1.2.2 st hS1 walkD_rng⟩
  · exact q1.elim
theorem ri_rng2 (hg : Gl X "range") (hm : X.mg "range" = none) (ha : RA X [e, e2] rl) (hs : starEach [e, e2] X.env = [(false, eval e X.env), (false, eval e2 X.env)] := by rfl) (hs2 : starEach [e2] X.env = [(false, eval e2 X.env)] := by rfl) : RI X tg (.Call (.Name "range" p) [e, e2] [] pos) (iRng' rl) := by
  refine PI.imp (pi_range2 hg hm ha hs hs2) fun σ H R ⟨env, S, k, hE, hS, q, cl⟩ => ?_
  refine ⟨env, S, _, hE, hS, q, fun ds S1 vs H1 q1 st r1 hS1 => ?_⟩
  dsimp only at q1 ⊢
  split at q1
  · obtain ⟨v, v', rfl, r1, r2⟩ := r1.two
    have := r1.int_; have := r2.int_; subst v v'
    exact ⟨_, _, rfl, q1.1, cl _ _ _ _ _ q1.2 st hS1 walkD_rng⟩
  · exact q1.elim
/-- enumerate of a tuple -/
def enumD (xs : List D) : List D := (List.range xs.length).map fun i => D.par [.int (i : Nat), xs.getD i .non]
theorem enumD_length (xs : List D) : (enumD xs).length = xs.length := by unfold enumD; simp
theorem enumD_get {xs : List D} {i : Nat} {d : D} (h : xs[i]? = some d) : (enumD xs)[i]? = some (.par [.int (i : Nat), d]) := by
  unfold enumD
  have hi := (List.getElem?_eq_some_iff.mp h).1
  simp [hi, List.getD_eq_getElem?_getD, (List.getElem?_eq_some_iff.mp h).2]
def iEnumT (rl : RTa) : RTi := fun env S k => rl env S fun ds S1 => match ds with
  | [.tup xs] => k (enumD xs) (fun _ => True) S1
  | _ => False
theorem walkD_pair {J : It} {Gh : Hp → Prop} {fx fy : Nat → Option V} {items : List D} {G : Sto → Prop} (w : Walk J items.length Gh (YPair fx fy)) (hG : ∀ S H', Mon H H' → AbsS K S H' → G S → Gh H')
    (hd : ∀ i x y, i < items.length → fx i = some x → fy i = some y → ∃ dx dy, items[i]? = some (.par [dx, dy]) ∧ ∀ H', Mon H H' → Rp K H' dx x ∧ Rp K H' dy y) : WalkD K H J items G := by
  refine ⟨Gh, _, w, hG, fun i H' v H2 hi _ y => ?_⟩
  obtain ⟨T, x, z, rfl, fr, rfl, e1, e2⟩ := y
  obtain ⟨dx, dy, e3, h3⟩ := hd i x z hi e1 e2
  refine ⟨_, e3, fun S' m hS' => ⟨?_, Stp.laid0 fr, hS'.laid0 fr⟩⟩
  obtain ⟨r1, r2⟩ := h3 (L2.upd H' T (.tup [x, z])) (m.trans (Mon.laid fr))
  exact .par (SqT.of L2.upd_same) (.cons r1 (.cons r2 .nil))
theorem ri_enumT {elts : List Expr} {kk : Nat} {tpos : Pos} (hg : Gl X "enumerate") (hm : X.mg "enumerate" = none) (ha : RA X [e] rl) (hs : starEach [e] X.env = [(false, eval e X.env)] := by rfl) :
    RI X (.Tuple elts kk tpos) (.Call (.Name "enumerate" p) [e] [] pos) (iEnumT rl) := by
  constructor
  rintro pins s σ H R I ⟨env, S, k, hE, hS, q, cl⟩
  refine Call_ (ld_blt I hg hm boot_enumerate (PyProof.Rows.callWith_type1 (thn (PA.run ha pos pins s σ H (fun vs H1 => ∃ xs S1, k (enumD xs) (fun _ => True) S1 ∧ Stp H S H1 S1 ∧ AbsS X.K S1 H1 ∧ ∃ a us, vs = [.ref a] ∧ SqT X.K H1 a us ∧ RpL X.K H1 xs us) I ⟨env, S, _, hE, hS, q, fun ds S1 vs H1 q1 st r1 hS1 => ?_⟩) fun us s1 ⟨vs, H1, I1, r1, xs, S1, q1, st, hS1, a, ws, ev, h1, h2⟩ => ?_) hs rfl))
  · split at q1
    · obtain ⟨v, rfl, r2⟩ := r1.one
      obtain ⟨a, us, rfl, h1, h2⟩ := r2.tup_
      exact ⟨_, S1, q1, st, hS1, a, us, rfl, h1.sq, h2⟩
    · exact q1.elim
  · subst ev
    obtain ⟨u, rfl, ru⟩ := vals1 r1
    cases ru
    obtain ⟨its, rv, p', hz⟩ := I1.tuple h1
    have hlt : a < s1.heap.objs.size := by obtain ⟨_, z, _⟩ := p'; exact Heap.lt_size z
    refine DLE.enum_begins1 (begins_tuple a its.toArray) (show s1.heap.IsTuple a its.toArray from p') fun h' he hit kp => wpAny_pyIter_enum he ?_
    have I2 : Inv X pins σ H1 { s1 with heap := h' } := I1.kept (t' := s1.toks) kp
    refine ⟨s1.heap.objs.size + 1, [s1.heap.objs.size + 1, s1.heap.objs.size], _, _, H1, rfl, I2, turn_enumT a (s1.heap.objs.size + 1) s1.heap.objs.size ws (Nat.succ_ne_self _) (Nat.ne_of_lt hlt) (Nat.ne_of_gt (Nat.lt_succ_of_lt hlt)), ⟨⟨.none, he⟩, ⟨_, hit, rfl, rfl⟩⟩, fun b hb => ?_, ?_⟩
    · have hle : s1.heap.objs.size ≤ b := by
        rcases (by simpa using hb : b = s1.heap.objs.size + 1 ∨ b = s1.heap.objs.size) with z | z
        · rw [z]; exact Nat.le_succ _
        · exact Nat.le_of_eq z.symm
      exact I1.fpOk hle (I1.hok.fresh hle)
    · refine cl _ _ _ _ _ q1 st hS1 ?_
      have w := walk_enumT (K := X.K) (a := a) (xs := ws)
      have el : ws.length = (enumD xs).length := by rw [enumD_length, h2.length]
      rw [el] at w
      refine walkD_pair w (fun S' H' m _ _ => m.sqt h1) fun i x y hi e1 e2 => ?_
      cases e1
      obtain ⟨d, e3, _⟩ := h2.getV e2
      refine ⟨_, d, enumD_get e3, fun H' m => ⟨.int, ?_⟩⟩
      obtain ⟨v, e4, e5⟩ := (h2.mon m).get e3
      rw [e2] at e4
      cases e4
      exact e5
end
end DL
/-! t[::-1] of a tuple; repr of data; isinstance; len(set(t)); t.index(i) -/
namespace DLF
open PySem PySem.Calls PyProof.Rows
section
variable {prog : Program} {w : World} {A : Around} {E : Value → Shared → Prop} {s : Shared}
theorem applied_rev {sl : Addr} {t : Tok} {n : Nat} {Q : Int × Int × Nat → Shared → Prop} (hs : s.heap.IsSliceOf sl .none .none (.int (-1) t)) (h : Q ((n : Int) - 1, -1, n) s) :
    wpAny (model prog w) A (Builtin.Slice.sliceApplied (.ref sl) (pure (n : Int))) Q E s := by
  obtain ⟨os, hos, hcs, hds⟩ := id hs
  unfold Builtin.Slice.sliceApplied Builtin.Slice.sliceFields
  refine wpAny_bind (wpAny_bind (wpAny_field hos hds (x := .none) rfl (wpAny_bind (wpAny_field hos hds (x := .none) rfl (wpAny_bind (wpAny_field hos hds (x := .int (-1) t) rfl (wpAny_pure ?_)))))))
  refine wpAny_bind (slicePart_int ?_)
  show wpAny _ _ (if ((-1 : Int) == 0) = true then _ else _) _ _ s
  rw [if_neg (by decide)]
  refine wpAny_bind (slicePart_none (wpAny_bind (slicePart_none (wpAny_bind (wpAny_pure ?_)))))
  show wpAny _ _ (pure ((n : Int) - 1, (-1 : Int), Builtin.Slice.slicePlaces ((n : Int) - 1) (-1) (-1))) _ _ s
  have e : Builtin.Slice.slicePlaces ((n : Int) - 1) (-1) (-1) = n := by
    unfold Builtin.Slice.slicePlaces
    have h1 : ¬ ((-1 : Int) > 0) := by decide
    simp only [h1, if_false, show (- -1 : Int) = 1 by decide, Int.ediv_one]
    split <;> omega
  rw [e]
  exact wpAny_pure h
theorem fm_congr {α β : Type} {f g : α → Option β} : ∀ {l : List α}, (∀ x ∈ l, f x = g x) → l.filterMap f = l.filterMap g
  | [], _ => rfl
  | x :: l, h => by
    rw [List.filterMap_cons, List.filterMap_cons, h x List.mem_cons_self, fm_congr fun y hy => h y (List.mem_cons_of_mem _ hy)]
theorem pick_rev (xs : Array Value) : ((List.range xs.size).filterMap fun (m : Nat) => xs[(((xs.size : Int) - 1) + (m : Int) * -1).toNat]?).toArray = xs.toList.reverse.toArray := by
  have e : ((List.range xs.size).filterMap fun (m : Nat) => xs[(((xs.size : Int) - 1) + (m : Int) * -1).toNat]?) = ((List.range xs.size).map fun k => xs.size - 1 - k).filterMap (xs[·]?) := by
    rw [List.filterMap_map]
    refine fm_congr fun m hm => ?_
    have := List.mem_range.mp hm
    have q : (((xs.size : Int) - 1) + (m : Int) * -1).toNat = xs.size - 1 - m := by omega
    rw [q]
    rfl
  rw [e, PySem.W.krv_range, List.filterMap_reverse, PySem.W.krv_all]
theorem tuple_rev {t sl : Addr} {items : Array Value} {tk : Tok} {Q : Value → Shared → Prop} (ht : IsTup s.heap t items) (hs : s.heap.IsSliceOf sl .none .none (.int (-1) tk))
    (h : Q (.ref s.heap.objs.size) { s with heap := s.heap.push { cls := .type "tuple", data := .seq items.toList.reverse.toArray } }) (hsz : items.size ≤ sizeLine) : wpAny (model prog w) A (getItem (.ref t) (.ref sl)) Q E s := by
  have hok : sizeOk (.seq items.toList.reverse.toArray) := by
    show items.toList.reverse.toArray.size ≤ sizeLine
    rw [List.size_toArray, List.length_reverse, Array.length_toList]
    exact hsz
  obtain ⟨os, hos, hcs, hds⟩ := id hs
  have hTs : s.TypeIs (.ref sl) "slice" := ⟨os, hos, hcs⟩
  unfold getItem
  try with_reducible refine wpAny_holding ?_
  first | refine wpAny_bind (wpAny_pure ?_) | skip
  refine wpAny_bind (wpAny_sequenceKey ht.typeIs (by decide) (wpAny_bind (wpAny_callSpecial?_slot (name := Str.ofString "__getitem__") ht.typeIs slot_tuple_getitem (wpAny_call_entry slot_tuple_getitem ht.typeIs entry_tuple_getitem ?_ (args_tuple_getitem _ _)))))
  refine wpAny_bind (m := Builtin.Tuple.tupleItemsOf (.ref t)) (tupleItemsOf_ ht (wpAny_bind (wpAny_typeOf hTs ?_)))
  rw [if_pos (by decide)]
  refine wpAny_bind (applied_rev (n := items.size) hs ?_)
  show wpAny _ _ (if (((items.size : Int) - 1) == 0 && (-1 : Int) == 1 && items.size == items.size) = true then _ else _) _ _ s
  rw [if_neg (by simp), pick_rev]
  first
    | exact wpAny_bind (m := Builtin.Tuple.tupleExact _) (wpAny_newObj_type (wpAny_pure ⟨_, rfl, wpAny_pure h⟩) hok)
    | exact wpAny_bind (m := Builtin.Tuple.tupleExact _) (wpAny_newObj_type (wpAny_bind (wpAny_pure (wpAny_pure ⟨_, rfl, wpAny_pure h⟩))) hok)
    | exact wpAny_bind (wpAny_bind (m := Builtin.Tuple.tupleExact _) (wpAny_newObj_type (wpAny_pure (wpAny_pure ⟨_, rfl, wpAny_pure h⟩)) hok))
    | exact wpAny_bind (wpAny_bind (m := Builtin.Tuple.tupleExact _) (wpAny_newObj_type (wpAny_pure ⟨_, rfl, wpAny_pure h⟩) hok))
end
end DLF
namespace DL
open PySem PySem.Spec PyProof.Rows L2
section
variable {X : Cx} {K : PySem.W.Frag} {H : Hp} {S : Sto} {e a : Expr} {re : RT} {p pos : Pos}
/-- t[::-1] -/
def tRevT (K : PySem.W.Frag) (te : TE) : TE := fun σ H Q => te σ H fun x H1 => ∃ a xs, x = .ref a ∧ SqT K H1 a xs ∧ NewT H1 Q xs.reverse
theorem pe_revT {te : TE} {k : Nat} {p1 p2 p3 pos : Pos} (he : PE X e te) : PE X (.Subscript e (.Slice none none (some (.UnaryOp .USub (.Constant (.int 1) k p1) p2)) p3) pos) (tRevT X.K te) := by
  constructor
  intro pins s σ H Q I h
  refine Subscript_ (thn (he.run pins s σ H _ I h) ?_)
  rintro v s1 ⟨x, H1, I1, r1, a, xs, rfl, hx, q⟩
  cases r1
  have step : PO X (some (.UnaryOp .USub (.Constant (.int 1) k p1) p2)) (tPart (tUn (rU fun i => .int (-i)) (tC (.int 1)))) := po_some (pe_un un_neg pe_int)
  refine wpAny_Slice (thn (po_none.run pins s1 σ H1 (fun o H2 => o = none ∧ H2 = H1) I1 ⟨rfl, rfl⟩) ?_)
  rintro vl s2 ⟨l, H2, I2, pl, rfl, rfl⟩
  refine thn (po_none.run pins s2 σ H2 (fun o H3 => o = none ∧ H3 = H2) I2 ⟨rfl, rfl⟩) ?_
  rintro vu s3 ⟨u, H3, I3, pu, rfl, rfl⟩
  refine thn (step.run pins s3 σ H3 (fun o H4 => o = some (-1) ∧ H4 = H3) I3 ⟨1, rfl, -1, rfl, rfl, rfl⟩) ?_
  rintro vs s4 ⟨o, H4, I4, ps, rfl, rfl⟩
  cases pl
  cases pu
  obtain ⟨t, rfl⟩ : ∃ t, vs = .int (-1) t := by cases ps; exact ⟨_, rfl⟩
  have I5 : Inv X pins σ H4 { s4 with heap := s4.heap.push { cls := .type "slice", data := .fields #[.none, .none, .int (-1) t] } } := I4.kept (t' := s4.toks) fun b ob z => Heap.get?_push_of_some _ z
  obtain ⟨its, r, ht, hz⟩ := I5.tuple hx
  have hlen := r.length
  show wpAny (model X.prog X.w) X.A (subscriptTail e (.Slice none none (some (.UnaryOp .USub (.Constant (.int 1) k p1) p2)) p3) (.ref a) (.ref s4.heap.objs.size)) _ _ _
  refine tail_any (ops := [.ref a, .ref s4.heap.objs.size]) ht.typeIs (PyProof.Rows.slot_tuple_getitem.lookup) ?_ (by with_unfolding_all rfl)
  refine DLF.tuple_rev ht (Heap.IsSliceOf.new _ .none .none (.int (-1) t)) ?_ (by rw [List.size_toArray]; omega)
  exact laidT (tk := s4.toks) I5 (fun _ _ z => z) (by rw [List.length_reverse]; exact hz) r.reverse q
def rRevT (re : RT) : RT := fun env S k => re env S fun d S1 => match d with
  | .tup xs => k (.tup xs.reverse) S1
  | _ => False
theorem re_revT {k : Nat} {p1 p2 p3 : Pos} (he : RE X e re) : RE X (.Subscript e (.Slice none none (some (.UnaryOp .USub (.Constant (.int 1) k p1) p2)) p3) pos) (rRevT re) := by
  refine PE.imp (pe_revT he) fun σ H Q ⟨env, S, k, hE, hS, q, c⟩ => ⟨env, S, _, hE, hS, q, fun d S1 v H1 q1 st r1 hS1 => ?_⟩
  dsimp only at q1 ⊢
  split at q1
  · obtain ⟨a, vs, rfl, h1, h2⟩ := r1.tup_
    exact ⟨a, vs, rfl, h1.sq, cl_newT (c.after st) hS1 h2.reverse q1⟩
  · exact q1.elim
def rRevL (re : RT) : RT := fun env S k => re env S fun d S1 => match d with
  | .ref a => match S1 a with
    | some (.lst xs) => ∀ p, S1 p = none → k (.ref p) (S1.upd p (.lst xs.reverse))
    | _ => False
  | _ => False
theorem re_revL {k : Nat} {p1 p2 p3 : Pos} (he : RE X e re) : RE X (.Subscript e (.Slice none none (some (.UnaryOp .USub (.Constant (.int 1) k p1) p2)) p3) pos) (rRevL re) := by
  refine PE.imp (pe_revL he) fun σ H Q ⟨env, S, k, hE, hS, q, c⟩ => ⟨env, S, _, hE, hS, q, fun d S1 v H1 q1 st r1 hS1 => ?_⟩
  dsimp only at q1 ⊢
  split at q1
  · split at q1
    · rename_i a _ xs e1
      have := r1.ref_; subst this
      obtain ⟨vs, h1, h2⟩ := hS1.lst e1
      exact ⟨a, vs, rfl, SqL.of h1, cl_new (c.after st) hS1 h2.reverse q1⟩
    · exact q1.elim
  · exact q1.elim

/-! ### repr -/
mutual
/-- data without a list, a new dict in it perhaps -/
inductive PyD (S : Sto) : D → PyData → Prop
  | non : PyD S .non .none
  | bl (b : Bool) : PyD S (.bl b) (.bool b)
  | int (i : Int) : PyD S (.int i) (.int i)
  | str (x : Str) : PyD S (.str x) (.str x)
  | tup {xs : List D} {ps : List PyData} : PyDL S xs ps → PyD S (.tup xs) (.tuple ps)
  | dk0 {a : Addr} : S a = some (.ho (.dK [])) → PyD S (.ref a) (.dict [])
  | dic {ks : List Ck} {ds : List D} {ps : List PyData} : PyDL S ds ps → PyD S (.dic ks ds) (.dict ((ks.map ckP).zip ps))
  | dct {a : Addr} {m : List (Ck × D)} {ps : List PyData} : S a = some (.dct a m) → PyDL S (m.map (·.2)) ps → PyD S (.ref a) (.dict ((m.map fun p => ckP p.1).zip ps))
  | dcm {a : Addr} {m : List (Ck × Ck)} : S a = some (.ho (dkO a (m.map fun p => (p.1, ckV p.2)))) → PyD S (.ref a) (.dict (m.map fun p => (ckP p.1, ckP p.2)))
inductive PyDL (S : Sto) : List D → List PyData → Prop
  | nil : PyDL S [] []
  | cons {d : D} {ds : List D} {p : PyData} {ps : List PyData} : PyD S d p → PyDL S ds ps → PyDL S (d :: ds) (p :: ps)
end
theorem PyDL.length {S : Sto} : ∀ {ds : List D} {ps : List PyData}, PyDL S ds ps → ds.length = ps.length
  | _, _, .nil => rfl
  | _, _, .cons _ t => by rw [List.length_cons, List.length_cons, PyDL.length t]
theorem reads_keys {P : Program} {w : World} {h : Heap} : ∀ {es : List DictEntry} {vs : List (Ck × Value)} {kvs : List (Ck × V)}, Pairs (caseK P w) es vs → KV kvs vs → ReadsAll h (es.map (·.key)) (kvs.map fun p => ckP p.1) []
  | _, _, _, .nil, q => by cases q; exact .nil
  | _, _, _, .cons (e := e) (kv := kv) i _ t, q => by
    cases q with
    | @cons p _ ps _ h1 h2 =>
      have r := ck_rel i
      have rd : Reads h e.key (ckP p.1) [] := by
        rw [h1.1]
        cases hk : kv.1 with
        | none => rw [hk] at r; rw [show e.key = Value.none from r]; exact .none
        | some i => rw [hk] at r; obtain ⟨t, ek⟩ := r; rw [ek]; exact .int i t
      exact .cons rd (reads_keys t h2)
theorem vals_pairs {P : Program} {w : World} : ∀ {es : List DictEntry} {vs : List (Ck × Value)} {kvs : List (Ck × V)}, Pairs (caseK P w) es vs → KV kvs vs → Vals (kvs.map (·.2)) (es.map (·.val))
  | _, _, _, .nil, q => by cases q; exact .nil
  | _, _, _, .cons (e := en) i e t, q => by
    cases q with
    | cons h1 h2 =>
      refine .cons ?_ (vals_pairs t h2)
      show RelV _ en.val
      rw [e]; exact h1.2
theorem reads_ck {h : Heap} : ∀ {m : List Ck} {us : List Value}, Vals (m.map ckV) us → ReadsAll h us (m.map ckP) []
  | [], _, q => by cases q; exact .nil
  | k :: m, _, q => by
    cases q with
    | @cons _ u _ us h1 h2 =>
      have rd : Reads h u (ckP k) [] := by
        cases k with
        | none => cases (show _ = Value.none from h1); exact .none
        | some i => obtain ⟨t, rfl⟩ := h1; exact .int i t
      exact .cons rd (reads_ck h2)
section
variable {pins : List (Addr × Obj)} {σ : L2.St} {s : Shared}
mutual
theorem PyD.reads (I : Inv X pins σ H s) (hS : AbsS X.K S H) : ∀ (p : PyData) (d : D) (v : V) (u : Value), PyD S d p → Rp X.K H d v → RelV v u → ∃ as, Reads s.heap u p as ∧ ∀ b ∈ as, (b == sysModules) = false
  | _, _, v, u, .non, r, q => by rw [r.non_] at q; cases q; exact ⟨_, .none, fun _ z => nomatch z⟩
  | _, _, v, u, .bl b, r, q => by rw [r.bl_] at q; cases q; exact ⟨_, .bool b, fun _ z => nomatch z⟩
  | _, _, v, u, .int b, r, q => by rw [r.int_] at q; obtain ⟨t, rfl⟩ := q; exact ⟨_, .int b t, fun _ z => nomatch z⟩
  | _, _, v, u, .str b, r, q => by rw [r.str_] at q; obtain ⟨t, rfl⟩ := q; exact ⟨_, .str b t, fun _ z => nomatch z⟩
  | .tuple ps, _, v, u, .tup (xs := xs) l, r, q => by
    obtain ⟨a, vs, rfl, h1, h2⟩ := r.tup_
    cases q
    obtain ⟨its, rv, ⟨o, ho, hc, n, hd⟩, hz⟩ := I.tuple h1.sq
    obtain ⟨as, h3, h4⟩ := PyDL.reads I hS ps xs vs its l h2 rv
    exact ⟨as, .tuple ho hc hd (by simpa using h3), h4⟩
  | _, _, v, u, .dk0 (a := a) e, r, q => by
    have := r.ref_; subst this
    cases q
    obtain ⟨h, e1, _, e2⟩ := hS _ _ e
    have e2' : h = .dK [] := e2
    subst e2'
    obtain ⟨_, nm, vs, kv, o, es, ep, ho, hx, hd, _, he, _⟩ := (show ObjOk X.prog X.w H s.heap a (.dK []) from I.hok a _ e1)
    cases kv
    have es0 : es.toList = [] := by
      generalize es.toList = l at he
      cases he
      rfl
    exact ⟨_, .dict (as := []) (bs := []) ho hx.1 hd (by rw [es0]; exact .nil) (by rw [es0]; exact .nil), fun b hb => by simp at hb; subst hb; exact nm⟩
  | _, _, v, u, .dic (ks := ks) (ds := ds) (ps := ps) l, r, q => by
    obtain ⟨a, o, us, rfl, e1, ll, rl⟩ := r.dic_
    cases q
    obtain ⟨_, _, nm, vs, kv, o', es, ep, ho, hx, hd, _, pr, _⟩ := lk_at I e1
    have vl := vals_pairs pr kv
    rw [List.map_snd_zip (by omega)] at vl
    obtain ⟨bs, h3, h4⟩ := PyDL.reads I hS ps ds us _ l rl vl
    have kr := reads_keys (h := s.heap) pr kv
    have ek : (ks.zip us).map (fun p => ckP p.1) = ks.map ckP := by
      have : (ks.zip us).map (fun p => ckP p.1) = ((ks.zip us).map (·.1)).map ckP := by rw [List.map_map]; rfl
      rw [this, List.map_fst_zip (by omega)]
    rw [ek] at kr
    have pl := PyDL.length l
    have dl := rl.length
    refine ⟨_, .dict (as := []) (bs := bs) ho hx.1 hd (by rw [List.map_fst_zip (by rw [List.length_map]; omega)]; exact kr) (by rw [List.map_snd_zip (by rw [List.length_map]; omega)]; exact h3), fun b hb => ?_⟩
    rcases List.mem_cons.mp hb with e | z
    · subst e; exact nm
    · exact h4 b (by simpa using z)
  | _, _, v, u, .dct (a := a) (m := m) (ps := ps) e l, r, q => by
    have := r.ref_; subst this
    cases q
    obtain ⟨h, e1, _, kvs, e2, rm⟩ := hS _ _ e
    subst e2
    obtain ⟨_, nm, vs, kv, o', es, ep, ho, hx, hd, _, pr, _⟩ := dk_at (I.hok a _ e1)
    have vl := vals_pairs pr kv
    obtain ⟨rl, ek⟩ := rm.vals
    obtain ⟨bs, h3, h4⟩ := PyDL.reads I hS ps (m.map (·.2)) _ _ l rl vl
    have kr := reads_keys (h := s.heap) pr kv
    have ek' : kvs.map (fun p => ckP p.1) = m.map fun p => ckP p.1 := by
      have e1 : kvs.map (fun p => ckP p.1) = (kvs.map (·.1)).map ckP := by rw [List.map_map]; rfl
      rw [e1, ek, List.map_map]; rfl
    rw [ek'] at kr
    have pl := PyDL.length l
    rw [List.length_map] at pl
    refine ⟨_, .dict (as := []) (bs := bs) ho hx.1 hd (by rw [List.map_fst_zip (by rw [List.length_map]; omega)]; exact kr) (by rw [List.map_snd_zip (by rw [List.length_map]; omega)]; exact h3), fun b hb => ?_⟩
    rcases List.mem_cons.mp hb with e | z
    · subst e; exact nm
    · exact h4 b (by simpa using z)
  | _, _, v, u, .dcm (a := a) (m := m) e, r, q => by
    have := r.ref_; subst this
    cases q
    obtain ⟨h, e1, _, e2⟩ := hS _ _ e
    have e2' : h = dkO a (m.map fun p => (p.1, ckV p.2)) := e2
    subst e2'
    obtain ⟨_, nm, vs, kv, o', es, ep, ho, hx, hd, _, pr, _⟩ := dk_at (I.hok a _ e1)
    have vl := vals_pairs pr kv
    have kr := reads_keys (h := s.heap) pr kv
    have ev : (m.map fun p => (p.1, ckV p.2)).map (fun p : Ck × V => p.2) = (m.map (·.2)).map ckV := by rw [List.map_map, List.map_map]; rfl
    rw [ev] at vl
    have vr := reads_ck (h := s.heap) vl
    rw [List.map_map] at kr
    refine ⟨_, .dict (as := []) (bs := []) ho hx.1 hd (by rw [List.map_map]; exact kr) (by rw [List.map_map]; rw [List.map_map] at vr; exact vr), fun b hb => ?_⟩
    rcases List.mem_cons.mp hb with e | z
    · subst e; exact nm
    · simp at z
theorem PyDL.reads (I : Inv X pins σ H s) (hS : AbsS X.K S H) : ∀ (ps : List PyData) (ds : List D) (vs : List V) (us : List Value), PyDL S ds ps → RpL X.K H ds vs → Vals vs us → ∃ as, ReadsAll s.heap us ps as ∧ ∀ b ∈ as, (b == sysModules) = false
  | _, _, vs, us, .nil, r, q => by rw [r.nil_of] at q; cases q; exact ⟨_, .nil, fun _ z => nomatch z⟩
  | p :: ps, d :: ds, vs, us, .cons h t, r, q => by
    obtain ⟨v, r', rfl, h1, h2⟩ := r.cons_of
    cases q with
    | cons q1 q2 =>
      obtain ⟨as, z1, z2⟩ := PyD.reads I hS p d v _ h h1 q1
      obtain ⟨bs, y1, y2⟩ := PyDL.reads I hS ps ds r' _ t h2 q2
      exact ⟨_, .cons z1 y1, fun b hb => (List.mem_append.mp hb).elim (z2 b) (y2 b)⟩
end
end
def ShP (S : Sto) (d : D) (p : PyData) : Prop := (Py S d p ∧ p.hasDict = false) ∨ PyD S d p
def reprD : FL := fun ds S k => match ds with
  | [d] => ∃ p, ShP S d p ∧ p.showable = true ∧ p.depth ≤ 30 ∧ p.shown.length ≤ sizeLine ∧ k (.str p.shown) S
  | _ => False
def rRepr (K : PySem.W.Frag) (P : Program) (w : World) : List V → Hp → VK → Prop := fun vs H Q => ∃ v p, vs = [v] ∧ (∀ (X : Cx) (pins : List (Addr × Obj)) (σ : L2.St) (s : Shared) (u : Value), X.K = K → X.prog = P → X.w = w → Inv X pins σ H s → RelV v u → ∃ as, Reads s.heap u p as ∧ (p.hasDict = true → sysModules ∉ as)) ∧
  p.showable = true ∧ p.depth ≤ 30 ∧ p.shown.length ≤ sizeLine ∧ Q (.str p.shown) H
theorem call_repr_data (hu : X.A.units + 64 < cLine) (hg : X.A.guards = some []) : CallR X (.builtin "repr") (rRepr X.K X.prog X.w) := by
  intro pins s σ H xs us Q I r h
  obtain ⟨v, p, rfl, hr, hs, hd, hz, q⟩ := h
  obtain ⟨u, rfl, ru⟩ := vals1 r
  obtain ⟨as, rd, hm⟩ := hr X pins σ s u rfl rfl rfl I ru
  cases rd with
  | none => exact PySem.P.repr_of_none ⟨.str _, H, I.tok _, ⟨_, rfl⟩, by simpa [PyData.shown] using q⟩
  | bool b => exact PySem.P.repr_of_bool ⟨.str _, H, I.tok _, ⟨_, rfl⟩, by simpa [PyData.shown] using q⟩
  | int i t => exact PySem.P.repr_of_int (by simpa [PyData.showable] using hs) ⟨.str _, H, I.tok _, ⟨_, rfl⟩, by simpa [PyData.shown] using q⟩
  | str x t => exact PySem.P.repr_of_str ⟨.str _, H, I.tok _, ⟨_, rfl⟩, by simpa [PyData.shown] using q⟩ (by simpa [PyData.shown] using hz)
  | list h1 h2 h3 h4 =>
    exact repr_of_reads' (.list h1 h2 h3 h4) hs hm hg (by omega) (fun _ _ z => z) (fun h' u tk kp => ⟨.str _, H, I.kept (t' := tk) kp, ⟨u, rfl⟩, q⟩) hz
  | tuple h1 h2 h3 h4 =>
    exact repr_of_reads' (.tuple h1 h2 h3 h4) hs hm hg (by omega) (fun _ _ z => z) (fun h' u tk kp => ⟨.str _, H, I.kept (t' := tk) kp, ⟨u, rfl⟩, q⟩) hz
  | dict h1 h2 h3 h4 h5 =>
    exact repr_of_reads' (.dict h1 h2 h3 h4 h5) hs hm hg (by omega) (fun _ _ z => z) (fun h' u tk kp => ⟨.str _, H, I.kept (t' := tk) kp, ⟨u, rfl⟩, q⟩) hz
theorem cRepr (hu : X.A.units + 64 < cLine) (hg : X.A.guards = some []) : CallD X (.builtin "repr") reprD := by
  refine ⟨_, call_repr_data hu hg, fun ds S k vs H Q q r hS c => ?_⟩
  unfold reprD at q
  split at q
  · obtain ⟨v, rfl, r0⟩ := r.one
    obtain ⟨p, hp, hs, hd, hz, q⟩ := q
    refine ⟨v, p, rfl, fun X' pins σ s u eK eP eW I ru => ?_, hs, hd, hz, c _ _ _ _ q Stp.refl .str hS⟩
    rw [← eK] at r0 hS
    rcases hp with ⟨hp, hn⟩ | hp
    · obtain ⟨as, z⟩ := Dp.reads I p v u (hp.dp hS _ _ _ r0) ru
      exact ⟨as, z, fun e => by rw [hn] at e; cases e⟩
    · obtain ⟨as, z1, z2⟩ := hp.reads I hS p _ v u r0 ru
      exact ⟨as, z1, fun _ hm => by have := z2 _ hm; simp at this⟩
  · exact q.elim

/-! ### isinstance -/
def kindD (S : Sto) : D → Option String
  | .non => some "NoneType"
  | .bl _ => some "bool"
  | .int _ => some "int"
  | .str _ => some "str"
  | .tup _ => some "tuple"
  | .lis _ => some "list"
  | .ref a => match S a with
    | some (.lst _) => some "list"
    | some (.ho (.dK _)) => some "dict"
    | _ => none
  | .par _ => none
  | .dic _ _ => none
  | .ty _ => none
def isiD : FL := fun ds S k => match ds with
  | [x, .ty T] => ∃ t b, kindD S x = some t ∧ kitB t T = some b ∧ k (.bl b) S
  | _ => False
theorem kind_ty {x : D} {v : V} {t : String} (e : kindD S x = some t) (r : Rp K H x v) (hS : AbsS K S H) : TyX K H v (.type t) := by
  cases x with
  | non => cases e; rw [r.non_]; exact .base .non
  | bl b => cases e; rw [r.bl_]; exact .base (.bl b)
  | int b => cases e; rw [r.int_]; exact .base (.int b)
  | str b => cases e; rw [r.str_]; exact .base (.str b)
  | ty n => cases e
  | par n => cases e
  | dic _ _ => cases e
  | tup xs =>
    cases e
    obtain ⟨a, vs, rfl, h, _⟩ := r.tup_
    rcases h with ⟨o, h, _⟩ | ⟨o, its, n, h1, h2, _⟩
    · exact .fTuple h
    · exact .kTuple h1 h2
  | lis xs =>
    cases e
    obtain ⟨a, vs, rfl, h, _⟩ := r.lis_
    rcases h with ⟨o, h⟩ | ⟨o, its, n, h1, h2, _⟩
    · exact .base (.frz h)
    · exact .kList h1 h2
  | ref a =>
    rw [r.ref_]
    unfold kindD at e
    dsimp only at e
    split at e
    · rename_i xs q
      cases e
      obtain ⟨vs, h1, _⟩ := hS.lst q
      exact .base (.lst h1)
    · rename_i kvs q
      cases e
      obtain ⟨h, e1, _, e2⟩ := hS _ _ q
      have e2' : h = .dK kvs := e2
      subst e2'
      exact .base (.dK e1)
    · cases e
theorem cIsi : CallD X (.builtin "isinstance") isiD := by
  refine ⟨_, call_isi, fun ds S k vs H Q q r hS c => ?_⟩
  unfold isiD at q
  split at q
  · obtain ⟨v, v', rfl, r1, r2⟩ := r.two
    obtain ⟨t, b, e1, e2, q⟩ := q
    have := r2.ty_; subst this
    exact ⟨v, _, _, _, b, rfl, .ty _, kind_ty e1 r1 hS, kit_ty e2, c _ _ _ _ q Stp.refl .bl hS⟩
  · exact q.elim

/-! ### len(set(t)) of ints -/
def rLenSet (re : RT) : RT := fun env S k => re env S fun d S1 => ∃ ns : List Int, d = .tup (ns.map D.int) ∧ ns.length ≤ 4000 ∧ ∀ L : List Int, L.Nodup → (∀ i, i ∈ L ↔ i ∈ ns) → k (.int L.length) S1
theorem re_lenSet {p2 q pos : Pos} (hg : Gl X "len") (hm : X.mg "len" = none) (hg2 : Gl X "set") (hm2 : X.mg "set" = none) (ha : RE X a re) (hc : X.calm = true := by rfl)
    (na : starEach [a] X.env = (false, eval a X.env) :: starEach [] X.env := by rfl) : RE X (.Call (.Name "len" p) [.Call (.Name "set" p2) [a] [] q] [] pos) (rLenSet re) := by
  constructor
  rintro pins s σ H Q I ⟨env, S, k, hE, hS, hq, c⟩
  refine Call_ (ld_blt I hg hm boot_len (PyProof.Rows.callWith_builtin1 (PyProof.Rows.args_cons (Call_ (ld_blt I hg2 hm2 boot_set ?_)) rfl) rfl rfl))
  refine PyProof.Rows.callWith_type1 (PyProof.Rows.args_cons (thn (PE.run ha pins s σ H (fun v H1 => ∃ d S1, (∃ ns : List Int, d = .tup (ns.map D.int) ∧ ns.length ≤ 4000 ∧ ∀ L : List Int, L.Nodup → (∀ i, i ∈ L ↔ i ∈ ns) → k (.int L.length) S1) ∧ Stp H S H1 S1 ∧ Rp X.K H1 d v ∧ AbsS X.K S1 H1) I ⟨env, S, _, hE, hS, hq, fun d S1 v H1 q1 st r1 hS1 => ⟨d, S1, q1, st, r1, hS1⟩⟩) ?_) na) na rfl
  rintro v s1 ⟨x, H1, I1, r1, d, S1, ⟨ns, rfl, hl, q1⟩, st, rd, hS1⟩
  refine PyProof.Rows.args_nil ?_
  obtain ⟨l, vs, rfl, h1, h2⟩ := rd.tup_
  have := h2.ints; subst this
  cases r1
  obtain ⟨its, r, pl, hz⟩ := I1.tuple h1.sq
  have hdn := I1.ok.hd hc
  refine call_set_tupI ns hdn (show s1.heap.IsTuple l its.toArray from pl) (by simpa using r.ints) (by unfold scanBound; omega) fun h' tk cc R1 hcn kp => PyProof.Rows.args_nil ?_
  obtain ⟨o, es, ep, t, ho, hex, hd, g, nd, mem, hb, hf, hn, _, _⟩ := R1
  have I2 : Inv X pins σ H1 { s1 with heap := h', toks := tk } := I1.kept kp
  have el : (es.toList.map keyOf).length = cc := by rw [List.length_map, Array.length_toList, hn]
  refine call_len_set ho hex hd hf (by rw [hn]; have := hcn; omega) ⟨.int cc, H1, I2.tok _, ⟨_, by rw [hn]⟩, ?_⟩
  have fin := q1 (es.toList.map keyOf) nd fun i => by
    have := mem i
    rw [← this]
    exact decide_eq_true_iff
  rw [el] at fin
  exact c _ _ _ _ fin st .int hS1
end
end DL
/-! methods; ranges as lists and tuples; texts; new dicts; a list against the empty one -/
namespace DL
open PySem PySem.Spec PyProof.Rows L2
section
variable {X : Cx} {K : PySem.W.Frag} {H : Hp} {S : Sto} {o e a b : Expr} {es : List Expr} {ro re ra rb : RT} {rl : RTa} {p pos : Pos} {x : Str}
def tyD (S : Sto) (T : String) : D → Prop
  | .str _ => T = "str"
  | .tup _ => T = "tuple"
  | .dic _ _ => T = "dict"
  | .ref a => match S a with
    | some (.lst _) => T = "list"
    | some (.ho (.dK _)) => T = "dict"
    | some (.dct b _) => T = "dict" ∧ b = a
    | _ => False
  | _ => False
theorem tyD_is {pins : List (Addr × Obj)} {σ : L2.St} {s : Shared} {T : String} {d : D} {v : V} {u : Value} (I : Inv X pins σ H s) (hS : AbsS X.K S H) (r : Rp X.K H d v) (q : RelV v u) (ty : tyD S T d) :
    s.TypeIs u T ∧ ∀ a, u = .ref a → ∃ ob, s.heap.get? a = some ob ∧ ob.dict = none := by
  cases d with
  | str x => exact tyV_is I (x := .str x) (by rw [r.str_] at q; exact q) ty
  | dic ks ds =>
    cases (show T = "dict" from ty)
    obtain ⟨a, o, us, rfl, h, _⟩ := r.dic_
    cases q
    obtain ⟨_, _, _, vs, _, d⟩ := lk_at I h
    exact ⟨d.typeIs, d.mapOf.noDict⟩
  | tup xs =>
    cases (show T = "tuple" from ty)
    obtain ⟨a, vs, rfl, h, _⟩ := r.tup_
    cases q
    obtain ⟨its, rv, pt, hz⟩ := I.tuple h.sq
    refine ⟨by obtain ⟨ob, h1, h2, _⟩ := pt; exact ⟨ob, h1, h2⟩, fun a' e => ?_⟩
    cases e
    rcases h with ⟨ob, h, hd⟩ | ⟨ob, its', n, h1, _, hd, _⟩
    · exact ⟨ob, (I.hok a _ h).1, hd⟩
    · exact ⟨ob, I.kIn a ob h1, hd⟩
  | ref a =>
    have := r.ref_; subst this
    unfold tyD at ty
    dsimp only at ty
    split at ty
    · rename_i xs e1
      obtain ⟨vs, h1, _⟩ := hS.lst e1
      exact tyV_is I (x := .ref a) q (.inl ⟨ty, vs, SqL.of h1⟩)
    · rename_i kvs e1
      obtain ⟨h, e2, _, e3⟩ := hS _ _ e1
      have e3' : h = .dK kvs := e3
      subst e3'
      exact tyV_is I (x := .ref a) q (.inr (.inr (.inl ⟨ty, .inl ⟨kvs, e2⟩⟩)))
    · rename_i b m e1
      obtain ⟨rfl, rfl⟩ := ty
      obtain ⟨h, e2, _, kvs, e3, _⟩ := hS _ _ e1
      subst e3
      cases q
      obtain ⟨_, _, vs, _, d⟩ := dk_at (I.hok b _ e2)
      exact ⟨d.typeIs, d.mapOf.noDict⟩
    · exact ty.elim
  | _ => exact ty.elim
def rBm (T : String) (g : D → FL) (ro : RT) (rl : RTa) : RT := fun env S k => ro env S fun x S1 => tyD S1 T x ∧ rl env S1 fun ds S2 => g x ds S2 k
def rBm0 (T : String) (g : D → FL) (ro : RT) : RT := fun env S k => ro env S fun x S1 => tyD S1 T x ∧ g x [] S1 k
variable {T id : String} {name : Str} {apos cpos : Pos} {g : D → FL}
theorem re_bm (pa : PlainAttrs T) (slot : Slot T name id) (hty : typeOf (.builtin id) = pure (.type "method_descriptor")) (hm : MtD X id g) (ho : RE X o ro) (ha : RA X (e :: es) rl)
    (hbase : attributeBase o name X.env (eval o X.env) = eval o X.env := by rfl)
    (few : ((backTo cpos (starEach (e :: es) X.env)).all (fun x => !x.1) && (backToKw cpos (keywordEach [] X.env)).all (fun x => x.1.isSome) && decide ((e :: es).length + ([] : List Keyword).length + (if ([] : List Keyword).isEmpty then 0 else 1) < 30)) = true := by rfl)
    (hline : (apos.endLine == cpos.line) = true := by rfl) (hs : starEach (e :: es) X.env = (false, eval e X.env) :: starEach es X.env := by rfl) (hp : (backTo cpos (starEach es X.env)).any (·.1) = false := by rfl) :
    RE X (.Call (.Attribute o name apos) (e :: es) [] cpos) (rBm T g ro rl) := by
  obtain ⟨r, m1, m2⟩ := hm
  constructor
  rintro pins s σ H Q I ⟨env, S, k, hE, hS, q, c⟩
  refine wpAny_Call_method_late hbase few hline rfl (thn (PE.run ho pins s σ H (fun v H1 => ∃ d S1, (tyD S1 T d ∧ rl env S1 fun ds S2 => g d ds S2 k) ∧ Stp H S H1 S1 ∧ Rp X.K H1 d v ∧ AbsS X.K S1 H1) I ⟨env, S, _, hE, hS, q, fun d S1 v H1 q1 st r1 hS1 => ⟨d, S1, q1, st, r1, hS1⟩⟩) ?_)
  rintro v s1 ⟨xv, H1, I1, rx, d, S1, ⟨ty, q1⟩, st, rd, hS1⟩
  obtain ⟨t1, t2⟩ := tyD_is I1 hS1 rd rx ty
  refine ⟨T, id, pa, slot, hty, t1, t2, ?_⟩
  have hA := PA.run ha cpos pins s1 σ H1 (fun vs H2 => ∃ ds S2, g d ds S2 k ∧ Stp H1 S1 H2 S2 ∧ RpL X.K H2 ds vs ∧ AbsS X.K S2 H2) I1 ⟨env, S1, _, hE.mon (st.mon hS), hS1, q1, fun ds S2 vs H2 q2 st2 r2 hS2 => ⟨ds, S2, q2, st2, r2, hS2⟩⟩
  rw [hs] at hA ⊢
  refine Calls.callWith_builtin (by show (false || (backTo cpos (starEach es X.env)).any (·.1)) = false; rw [hp]; rfl) (Calls.evalArgs_plain (thn hA ?_))
  rintro us s2 ⟨vs, H2, I2, rv, ds, S2, q2, st2, r2, hS2⟩
  exact m1 pins s2 σ H2 xv vs v us Q I2 rx rv (m2 d ds S2 k xv vs H2 Q q2 (rd.mon (st2.mon hS1)) r2 hS2 ((c.after st).after st2))
theorem re_bm0 (pa : PlainAttrs T) (slot : Slot T name id) (hty : typeOf (.builtin id) = pure (.type "method_descriptor")) (hm : MtD X id g) (ho : RE X o ro)
    (hbase : attributeBase o name X.env (eval o X.env) = eval o X.env := by rfl) (hline : (apos.endLine == cpos.line) = true := by rfl) : RE X (.Call (.Attribute o name apos) [] [] cpos) (rBm0 T g ro) := by
  obtain ⟨r, m1, m2⟩ := hm
  constructor
  rintro pins s σ H Q I ⟨env, S, k, hE, hS, q, c⟩
  refine wpAny_Call_method0_late hbase hline (thn (PE.run ho pins s σ H (fun v H1 => ∃ d S1, (tyD S1 T d ∧ g d [] S1 k) ∧ Stp H S H1 S1 ∧ Rp X.K H1 d v ∧ AbsS X.K S1 H1) I ⟨env, S, _, hE, hS, q, fun d S1 v H1 q1 st r1 hS1 => ⟨d, S1, q1, st, r1, hS1⟩⟩) ?_)
  rintro v s1 ⟨xv, H1, I1, rx, d, S1, ⟨ty, q1⟩, st, rd, hS1⟩
  obtain ⟨t1, t2⟩ := tyD_is I1 hS1 rd rx ty
  exact ⟨T, id, pa, slot, hty, t1, t2, Calls.callWith_builtin rfl (PySem.evalArgs_none (m1 pins s1 σ H1 xv [] v [] Q I1 rx .nil (m2 d [] S1 k xv [] H1 Q q1 rd .nil hS1 (c.after st))))⟩

def appendD : D → FL := fun x ds S k => match x, ds with
  | .ref l, [d] => match S l with
    | some (.lst xs) => xs.length < sizeLine ∧ k .non (S.upd l (.lst (xs ++ [d])))
    | _ => False
  | _, _ => False
theorem mAppend : MtD X "list.append" appendD := by
  refine ⟨_, mt_append, fun x ds S k v vs H Q q rx rl hS c => ?_⟩
  unfold appendD at q
  split at q
  · split at q
    · rename_i l d _ xs e1
      have := rx.ref_; subst this
      obtain ⟨u, rfl, ru⟩ := rl.one
      obtain ⟨ws, h1, h2⟩ := hS.lst e1
      refine ⟨l, ws, u, rfl, rfl, h1, by rw [← h2.length]; exact q.1, c _ _ _ _ q.2 (Stp.write e1) .non (hS.write h1 True.intro True.intro ⟨_, rfl, (h2.append (.cons ru .nil)).mon (Mon.write h1 True.intro)⟩)⟩
    · exact q.elim
  · exact q.elim
def popAtD : D → FL := fun x ds S k => match x, ds with
  | .ref l, [.int i] => match S l with
    | some (.lst xs) => ∃ d, 0 ≤ i ∧ i < 2 ^ 63 ∧ xs[i.toNat]? = some d ∧ k d (S.upd l (.lst (xs.eraseIdx i.toNat)))
    | _ => False
  | _, _ => False
theorem mPopAt : MtD X "list.pop" popAtD := by
  refine ⟨_, mt_popAt, fun x ds S k v vs H Q q rx rl hS c => ?_⟩
  unfold popAtD at q
  split at q
  · split at q
    · rename_i l i _ xs e1
      have := rx.ref_; subst this
      obtain ⟨u, rfl, ru⟩ := rl.one
      have := ru.int_; subst this
      obtain ⟨ws, h1, h2⟩ := hS.lst e1
      obtain ⟨d, i0, i1, e2, q⟩ := q
      obtain ⟨y, e3, ry⟩ := h2.get e2
      have hlt := (List.getElem?_eq_some_iff.mp e3).1
      refine ⟨l, ws, i, i.toNat, y, rfl, rfl, h1, by omega, i1, ?_, e3, c _ _ _ _ q (Stp.write e1) (ry.mon (Mon.write h1 True.intro)) (hS.write h1 True.intro True.intro ⟨_, rfl, (h2.erase _).mon (Mon.write h1 True.intro)⟩)⟩
      have z := ixN_seq (n := ws.length) (i := i) (j := i.toNat) (by unfold ixN; rw [if_pos i0, if_pos (by omega)])
      exact z.1
    · exact q.elim
  · exact q.elim
/-- the place of an int in a tuple of ints -/
theorem mt_tup_indexI : MtR X "tuple.index" (fun x xs H Q => ∃ p, ∃ ys : List Int, ∃ z j, x = .ref p ∧ xs = [.int z] ∧ SqT X.K H p (ys.map V.int) ∧ ys[j]? = some z ∧ (∀ m, m < j → ys[m]? ≠ some z) ∧ Q (.int (j : Nat)) H) := by
  rintro pins s σ H x xs v us Q I rx rs ⟨p, ys, z, j, rfl, rfl, hq, hy, hno, q⟩
  cases rx
  obtain ⟨u, rfl, t, rfl⟩ := vals1 rs
  obtain ⟨its, r, pl, hz⟩ := I.tuple hq
  obtain ⟨⟨cls, dd, dt, sl⟩, ho, hc, n, hd⟩ := pl
  simp only at hc hd
  subst hc hd
  have hl : its.toArray.size = ys.length := by rw [List.size_toArray, ← r.length, List.length_map]
  have hj : j < its.toArray.size := hl ▸ (List.getElem?_eq_some_iff.mp hy).1
  have item : ∀ (m : Nat) (hm : m < its.toArray.size), ∃ y t', ys[m]? = some y ∧ its.toArray[m] = Value.int y t' := by
    intro m hm
    have hm' : m < ys.length := hl ▸ hm
    obtain ⟨w, hw, t', hw'⟩ := r.get (i := m) (x := .int ys[m]) (by simp [hm'])
    refine ⟨ys[m], t', List.getElem?_eq_getElem hm', ?_⟩
    rw [← hw', ← (List.getElem?_eq_some_iff.mp hw).2]
    simp
  refine call_meets PySem.F.slot_tuple_index ⟨_, ho, rfl⟩ PySem.F.entry_tuple_index (PySem.F.args_tuple_index_2 _ _) (TI.tuple_indexAt p its.toArray n dd sl (.int z t) (eqU (.int z)) j hj ?_ ?_) ⟨ho, ?_, ⟨.int (j : Nat), H, I.tok _, ⟨_, rfl⟩, q⟩⟩
  · obtain ⟨y, t', h1, h2⟩ := item j hj
    rw [hy] at h1
    cases h1
    rw [h2]
    exact beq_self_eq_true z
  · intro m hm hmj
    obtain ⟨y, t', h1, h2⟩ := item m hm
    rw [h2]
    exact beq_eq_false_iff_ne.mpr fun e => hno m hmj (e ▸ h1)
  · intro w hw
    exact mem_eqAt (x := .int z) ⟨t, rfl⟩ rfl r (flat_ints ys) w (by simpa using hw)
/-- t.index(z) of ints, z there -/
def indexD : D → FL := fun x ds S k => ∃ (ys : List Int) (z : Int) (j : Nat), x = .tup (ys.map D.int) ∧ ds = [.int z] ∧ ys[j]? = some z ∧ (∀ m, m < j → ys[m]? ≠ some z) ∧ k (.int (j : Nat)) S
theorem mIndex : MtD X "tuple.index" indexD := by
  refine ⟨_, mt_tup_indexI, fun x ds S k v vs H Q q rx rl hS c => ?_⟩
  obtain ⟨ys, z, j, rfl, rfl, h1, h2, q⟩ := q
  obtain ⟨u, rfl, ru⟩ := rl.one
  have := ru.int_; subst this
  obtain ⟨a, ws, rfl, h3, h4⟩ := rx.tup_
  have := h4.ints; subst this
  exact ⟨a, ys, z, j, rfl, rfl, h3.sq, h1, h2, c _ _ _ _ q Stp.refl .int hS⟩
/-- sep.join(a list of texts) -/
def joinD : D → FL := fun x ds S k => match x, ds with
  | .str a, [d] => ∃ ys : List Str, seqOf S d = some (ys.map D.str) ∧ (ys.map (·.length)).sum + ys.length * a.length ≤ 16777216 ∧ k (.str (Txt.join a ys)) S
  | _, _ => False
theorem mJoin : MtD X "str.join" joinD := by
  refine ⟨_, mt_join, fun x ds S k v vs H Q q rx rl hS c => ?_⟩
  unfold joinD at q
  split at q
  · have := rx.str_; subst this
    obtain ⟨u, rfl, ru⟩ := rl.one
    obtain ⟨ys, e1, hz, q⟩ := q
    obtain ⟨p', us, rfl, h1, h2⟩ := seq_of e1 ru hS
    have := h2.strs; subst this
    exact ⟨_, p', ys, rfl, rfl, h1, hz, c _ _ _ _ q Stp.refl .str hS⟩
  · exact q.elim
/-- str of an int -/
def strD : FL := fun ds S k => match ds with
  | [.int i] => i.natAbs.log2 < 1920 ∧ k (.str (toString i)) S
  | _ => False
theorem cStr : CallD X (.type "str") strD := by
  refine ⟨_, call_str_int, fun ds S k vs H Q q r hS c => ?_⟩
  unfold strD at q
  split at q
  · obtain ⟨v, rfl, r0⟩ := r.one
    have := r0.int_; subst this
    exact ⟨_, rfl, q.1, c _ _ _ _ q.2 Stp.refl .str hS⟩
  · exact q.elim
/-- {} -/
def rDnew : RT := fun _ S k => ∀ p, S p = none → k (.ref p) (S.upd p (.ho (.dK [])))
theorem re_dnew : RE X (.Dict [] [] pos) rDnew := PE.imp pe_dnewK fun σ H Q ⟨env, S, k, hE, hS, q, c⟩ p hp =>
  c _ _ _ _ (q p (hS.free hp)) (Stp.laid hp) .ref (hS.laid hp True.intro rfl)

/-! ### ranges -/
theorem rng_rp {K : PySem.W.Frag} {H : Hp} (n : Nat) (lo : Int) : RpL K H (rngD lo n) ((List.range n).map fun i => V.int (lo + (i : Nat))) := by
  unfold rngD
  generalize List.range n = l
  induction l with
  | nil => exact .nil
  | cons x l ih => exact .cons .int ih
/-- list(range(n)) -/
def rLrg (rl : RTa) : RT := fun env S k => rl env S fun ds S1 => match ds with
  | [.int n] => 0 ≤ n ∧ n ≤ 16777216 ∧ ∀ p, S1 p = none → k (.ref p) (S1.upd p (.lst (rngD 0 n.toNat)))
  | _ => False
/-- tuple(range(n)) -/
def rTrg (rl : RTa) : RT := fun env S k => rl env S fun ds S1 => match ds with
  | [.int n] => 0 ≤ n ∧ n ≤ 16777216 ∧ k (.tup (rngD 0 n.toNat)) S1
  | _ => False
theorem range1 {rl : RTa} {σ : L2.St} {env : DEnv} {k : Int → Sto → Prop} {Q : V → Hp → Prop} (hE : AbsE X.K H env σ) (hS : AbsS X.K S H) {re : RT} (q : rCons re rNil env S fun ds S1 => match ds with
  | [.int n] => k n S1
  | _ => False) (h : ∀ n S1 H1, k n S1 → Stp H S H1 S1 → AbsS X.K S1 H1 → Q (.int n) H1) : tR X.K re σ H Q := by
  refine ⟨env, S, _, hE, hS, q, fun d S1 v H1 q1 st r1 hS1 => ?_⟩
  dsimp only [rNil] at q1
  split at q1
  · rename_i n e1
    cases e1
    have := r1.int_; subst this
    exact h _ _ _ q1 st hS1
  · exact q1.elim
theorem re_lrg {p2 pos2 : Pos} (hc : X.calm = true) (hg : Gl X "list") (hm : X.mg "list" = none) (hg2 : Gl X "range") (hm2 : X.mg "range" = none) (ha : RE X e re) (na : starEach [e] X.env = (false, eval e X.env) :: starEach [] X.env := by rfl)
    (na2 : starEach [(.Call (.Name "range" p2) [e] [] pos2 : Expr)] X.env = (false, eval (.Call (.Name "range" p2) [e] [] pos2) X.env) :: starEach [] X.env := by rfl) :
    RE X (.Call (.Name "list" p) [.Call (.Name "range" p2) [e] [] pos2] [] pos) (rLrg (rCons re rNil)) := by
  refine PE.imp (pe_listRg hc hg hm (prg_1 hg2 hm2 ha na) na2) fun σ H Q ⟨env, S, k, hE, hS, q, c⟩ => ?_
  refine range1 (rl := rNil) hE hS q fun n S1 H1 q1 st hS1 => ⟨n, rfl, .of_le (by omega) q1.2.1 (by omega) q1.1, fun q hq => ?_⟩
  have := cl_new (c.after st) hS1 (rng_rp n.toNat 0) q1.2.2 q hq
  unfold rgV
  rw [Int.sub_zero]
  exact this
theorem pe_tupRgF {te : L2.St → Hp → (Int → Int → Hp → Prop) → Prop} {p pos : Pos} (hc : X.calm = true) (hg : Gl X "tuple") (hm : X.mg "tuple" = none) (he : PRg X e te) (na : starEach [e] X.env = (false, eval e X.env) :: starEach [] X.env := by rfl) :
    PE X (.Call (.Name "tuple" p) [e] [] pos) (fun σ H Q => te σ H fun a b H1 => RgOk a b ∧ NewT H1 Q (rgV a b)) := by
  constructor
  intro pins s σ H Q I h
  refine Call_ (ld_blt I hg hm boot_tuple (PyProof.Rows.callWith_type1 (args_cons (thn (he pins s σ H _ I h) ?_) na) na))
  rintro x s1 ⟨r, a, b, t, u, v, H1, rfl, hr, I1, ⟨b1, b2, b3, b4, b5⟩, q⟩
  refine args_nil (call_tuple_range (n := (b - a).toNat) (I1.ok.hd hc) hr (small_one b1 b2 b3 b4) (rangeSize_nat a b) b5 fun h' tk acc hk hi => ?_)
  have fin := laidT (tk := tk) (its := acc.toList) I1 hk (by rw [rgV_length, sizeLine_eq]; omega) (vals_rg hi) q
  rw [Array.toArray_toList] at fin
  exact fin
theorem re_trg {p2 pos2 : Pos} (hc : X.calm = true) (hg : Gl X "tuple") (hm : X.mg "tuple" = none) (hg2 : Gl X "range") (hm2 : X.mg "range" = none) (ha : RE X e re) (na : starEach [e] X.env = (false, eval e X.env) :: starEach [] X.env := by rfl)
    (na2 : starEach [(.Call (.Name "range" p2) [e] [] pos2 : Expr)] X.env = (false, eval (.Call (.Name "range" p2) [e] [] pos2) X.env) :: starEach [] X.env := by rfl) :
    RE X (.Call (.Name "tuple" p) [.Call (.Name "range" p2) [e] [] pos2] [] pos) (rTrg (rCons re rNil)) := by
  refine PE.imp (pe_tupRgF hc hg hm (prg_1 hg2 hm2 ha na) na2) fun σ H Q ⟨env, S, k, hE, hS, q, c⟩ => ?_
  refine range1 (rl := rNil) hE hS q fun n S1 H1 q1 st hS1 => ⟨n, rfl, .of_le (by omega) q1.2.1 (by omega) q1.1, fun q o ho hq => ?_⟩
  have := cl_newT (c.after st) hS1 (rng_rp n.toNat 0) q1.2.2 q o ho hq
  unfold rgV
  rw [Int.sub_zero]
  exact this

/-! ### a list against the empty one -/
def rNil2 (K : PySem.W.Frag) (neg : Bool) : R2 := fun x y H Q => ∃ a b xs, x = .ref a ∧ y = .ref b ∧ SqL K H a xs ∧ SqL K H b [] ∧ Q (.bl (neg ^^ xs.isEmpty)) H
theorem op_eqNil (hu : X.A.units < cLine) : OpR X (compareOp .Eq) (rNil2 X.K false) := by
  rintro pins s σ H x y v u Q I rx ry ⟨a, b, xs, rfl, rfl, h1, h2, q⟩
  cases rx
  cases ry
  obtain ⟨its, r, pl, _⟩ := I.list h1
  obtain ⟨its2, r2, pl2, _⟩ := I.list h2
  cases r2
  cases xs with
  | nil =>
    cases r
    exact SeqAt.eq_listAt (e := fun _ => true) pl.isList pl2.isList rfl hu (fun j h _ => absurd h (Nat.not_lt_zero j)) ⟨.bl _, H, I, rfl, q⟩
  | cons y ys =>
    cases r with
    | cons r0 rr => exact SeqAt.eq_list_lengthsAt pl.isList pl2.isList (by simp) hu ⟨.bl _, H, I, rfl, q⟩
theorem op_neNil (hu : X.A.units < cLine) : OpR X (compareOp .NotEq) (rNil2 X.K true) := by
  rintro pins s σ H x y v u Q I rx ry ⟨a, b, xs, rfl, rfl, h1, h2, q⟩
  cases rx
  cases ry
  obtain ⟨its, r, pl, _⟩ := I.list h1
  obtain ⟨its2, r2, pl2, _⟩ := I.list h2
  cases r2
  cases xs with
  | nil =>
    cases r
    exact SeqAt.RcNeAt.lists (e := fun _ => true) pl.isList pl2.isList rfl hu (fun j h _ => absurd h (Nat.not_lt_zero j)) _ _ _ _ ⟨.bl _, H, I, rfl, q⟩
  | cons y ys =>
    cases r with
    | cons r0 rr => exact SeqAt.RcNeAt.lists_lengths pl.isList pl2.isList (by simp) hu _ _ _ _ ⟨.bl _, H, I, rfl, q⟩
def eqNilD (neg : Bool) : F2 := fun x y S k => match x, y with
  | .ref a, .ref b => match S a, S b with
    | some (.lst xs), some (.lst []) => k (.bl (neg ^^ xs.isEmpty)) S
    | _, _ => False
  | _, _ => False
theorem eqNil_go {neg : Bool} {r2 : R2} (h : ∀ x y H Q, rNil2 X.K neg x y H Q → r2 x y H Q) {x y : D} {k : RK} {v u : V} {Q : VK} (q : eqNilD neg x y S k) (rx : Rp X.K H x v) (ry : Rp X.K H y u) (hS : AbsS X.K S H) (c : Cl X.K H S k Q) : r2 v u H Q := by
  unfold eqNilD at q
  split at q
  · split at q
    · rename_i a b _ _ xs e1 e2
      have := rx.ref_; have := ry.ref_; subst v u
      obtain ⟨vs, h1, h2⟩ := hS.lst e1
      obtain ⟨us, h3, h4⟩ := hS.lst e2
      have := h4.nil_of; subst this
      refine h _ _ _ _ ⟨a, b, vs, rfl, rfl, SqL.of h1, SqL.of h3, ?_⟩
      have e : vs.isEmpty = xs.isEmpty := by
        have hl := h2.length
        cases xs <;> cases vs <;> simp_all
      rw [e]
      exact c _ _ _ _ q Stp.refl .bl hS
    · exact q.elim
  · exact q.elim
theorem opEqNil (hu : X.A.units < cLine) : Op2 X (compareOp .Eq) (eqNilD false) := ⟨_, op_eqNil hu, fun x y S k v u H Q q rx ry hS c => eqNil_go (r2 := rNil2 X.K false) (fun _ _ _ _ z => z) q rx ry hS c⟩
theorem opNeNil (hu : X.A.units < cLine) : Op2 X (compareOp .NotEq) (eqNilD true) := ⟨_, op_neNil hu, fun x y S k v u H Q q rx ry hS c => eqNil_go (r2 := rNil2 X.K true) (fun _ _ _ _ z => z) q rx ry hS c⟩
end
end DL
namespace DL
open PySem PySem.Spec PyProof.Rows L2
section
variable {X : Cx} {tg e : Expr} {re : RT}
/-- for x in a tuple or a list, whichever comes -/
theorem ri_seq (h : RE X e re) : RI X tg e (iSeq re) := by
  constructor
  rintro pins s σ H R I ⟨env, S, k, hE, hS, q, cl⟩
  refine thn (PE.run h pins s σ H (fun v H1 => ∃ d S1, (match d with
    | .tup xs => k xs (fun _ => True) S1
    | .lis xs => k xs (fun _ => True) S1
    | .ref a => match S1 a with
      | some (.lst xs) => k xs (fun S => S a = some (.lst xs)) S1
      | _ => False
    | _ => False) ∧ Stp H S H1 S1 ∧ Rp X.K H1 d v ∧ AbsS X.K S1 H1) I ⟨env, S, _, hE, hS, q, fun d S1 v H1 q1 st r1 hS1 => ⟨d, S1, q1, st, r1, hS1⟩⟩) ?_
  rintro u s1 ⟨v, H1, I1, ru, d, S1, q1, st, rd, hS1⟩
  have fp : ∀ b ∈ [s1.heap.objs.size], FpOk X pins H1 b := fun b hb => by
    have e : b = s1.heap.objs.size := by simpa using hb
    subst e
    exact I1.fpOk (Nat.le_refl _) (I1.hok.fresh (Nat.le_refl _))
  have lists : ∀ {a : Addr} {vs : List V} {xs : List D} {G : Sto → Prop}, u = .ref a → SqL X.K H1 a vs → k xs G S1 → WalkD X.K H1 (Itl X.K a) xs G → wpAny (model X.prog X.w) X.A (pyIter u) (PIE X pins σ tg R) X.xe s1 := by
    intro a vs xs G eu hq qk w
    subst eu
    obtain ⟨its, rv, p, hz⟩ := I1.list hq
    exact wpAny_pyIter_list p.isList ⟨s1.heap.objs.size, [s1.heap.objs.size], _, _, H1, rfl, I1.kept (t' := s1.toks) fun b o e => Heap.get?_push_of_some _ e, turn_list a _, ⟨_, Heap.get?_push_size _ rfl, rfl, rfl⟩, fp, cl _ _ _ _ _ qk st hS1 w⟩
  split at q1
  · obtain ⟨a, vs, rfl, h1, h2⟩ := rd.tup_
    cases ru
    obtain ⟨its, rv, p, hz⟩ := I1.tuple h1.sq
    exact wpAny_pyIter_tuple (show s1.heap.IsTuple a its.toArray from p) ⟨s1.heap.objs.size, [s1.heap.objs.size], _, _, H1, rfl, I1.kept (t' := s1.toks) fun b o e => Heap.get?_push_of_some _ e, turn_tuple a _, ⟨_, Heap.get?_push_size _ rfl, rfl, rfl⟩, fp, cl _ _ _ _ _ q1 st hS1 (walkD_tup h1.sq h2)⟩
  · obtain ⟨a, vs, rfl, h1, h2⟩ := rd.lis_
    exact lists ru h1.sq q1 (walkD_lis h1 h2)
  · split at q1
    · rename_i a _ xs e1
      have := rd.ref_; subst this
      obtain ⟨vs, h1, h2⟩ := hS1.lst e1
      exact lists ru (SqL.of h1) q1 (walkD_lst h1 h2)
    · exact q1.elim
  · exact q1.elim
end
theorem RoomG.u64 {k : Nat} {A : Around} (h : RoomG k A) : A.units + 64 < cLine := h.r.units
theorem RoomG.u65 {k : Nat} {A : Around} (h : RoomG k A) : A.units + 65 < cLine := by have := h.r.un; omega
theorem RoomG.u0 {k : Nat} {A : Around} (h : RoomG k A) : A.units < cLine := by have := h.r.un; omega
end DL
/-! the end: from the law's contract to the row -/
namespace DL
open PySem PySem.Spec PyProof.Rows L2
section
variable {P : Program} {w : World} {K : PySem.W.Frag} {mg mb : Str → Option Value} {H : Hp} {s : Shared} {a : Addr} {vs : List Value} {ns : List Int}
/-- where nothing is tracked but the script -/
theorem env0G (KX : K.In s.heap) (hns : s.heap.Ns mainGlobals mg) (hb : s.heap.Ns builtinsNs mb) (hbb : ∀ x : Str, x ≠ "__name__" → mb x = bootBuiltins x) (hlim : s.heap.NoLimit) (hg : s.gens = #[])
    (ha : s.heap.get? a = some { cls := .type "list", data := .seq vs.toArray }) (only : ∀ b, H b ≠ none → b = a) (own : H a ≠ none → K.lookup a = none) (hok : HOk P w H s.heap) :
    K.In (hidT s.heap H) ∧ (hidT s.heap H).Ns mainGlobals mg ∧ Env0 P w K mg (hidT s.heap H) callerA [] s H := by
  have free : ∀ {b : Addr} {o : Obj}, s.heap.get? b = some o → (b = a → False) → (hidT s.heap H).get? b = some o := fun {b o} e ne => hidT_get e (Classical.byContradiction fun z => ne (only b z))
  have spaces : ∀ {b : Addr} {m : Str → Option Value}, s.heap.Ns b m → (hidT s.heap H).Ns b m := by
    rintro b m ⟨o, es, ep, e, d, r⟩
    refine ⟨o, es, ep, free e fun z => ?_, d, r⟩
    subst z
    rw [ha] at e
    cases e
    cases d
  have kin : K.In (hidT s.heap H) := fun b o e => hidT_get (KX b o e) (Classical.byContradiction fun z => by
    have eb := only b z
    subst eb
    rw [own z] at e
    cases e)
  obtain ⟨mc, l1, l2⟩ := hlim
  exact ⟨kin, spaces hns, rfl, ⟨kin, spaces hns, ⟨mb, spaces hb, hbb⟩, ⟨mc, spaces l1, l2⟩⟩, fun b o e => of_hidT e, Nat.le_of_eq (hidT_size _ _), trivial, fun b hb => absurd (show b ∈ ([] : List Addr) from hb) (by simp), hok, .of_eq hg⟩
theorem codeG {k : Nat} {fa : Addr} {fd : FuncData} {x : Str} {C : Cn} (KX : K.In s.heap) (hns : s.heap.Ns mainGlobals mg) (hb : s.heap.Ns builtinsNs mb) (hbb : ∀ x : Str, x ≠ "__name__" → mb x = bootBuiltins x) (hlim : s.heap.NoLimit) (hg : s.gens = #[])
    (ha : s.heap.get? a = some { cls := .type "list", data := .seq vs.toArray }) (hi : IntsAre vs ns) (hl : ns.length ≤ sizeLine) (hr : Room k callerA)
    (F : ∀ base : Heap, K.In base → base.Ns mainGlobals mg → FnG P w K mg base CX0 k fa fd [x] (spD K 1 C)) (hbind : ∀ (s : Shared) (u : Value), BindsTo s fd ⟨[u], []⟩ [(x, u)])
    (hC : C [.lis (ns.map D.int)] (fun _ => none) (fun d _ => d = .bl true) noX) :
    codeAny (model P w) callerA (.call (.ref fa) ⟨[.ref a], []⟩) (fun r s' => r = .ok (.ret (.bool true)) ∧ OldK s.heap s'.heap ∧ s'.os = s.os ∧ AllBare s'.gens) s := by
  have go : ∀ H : Hp, FzL K H a (ns.map V.int) → (∀ b, H b ≠ none → b = a ∧ ∃ o xs, H b = some (.frz o (.lst xs))) → (H a ≠ none → K.lookup a = none) → HOk P w H s.heap →
      codeAny (model P w) callerA (.call (.ref fa) ⟨[.ref a], []⟩) (fun r s' => r = .ok (.ret (.bool true)) ∧ OldK s.heap s'.heap ∧ s'.os = s.os ∧ AllBare s'.gens) s := by
    intro H fz only own hok
    obtain ⟨k1, k2, e0⟩ := env0G KX hns hb hbb hlim hg ha (fun b z => (only b z).1) own hok
    have want : spD K 1 C [.ref a] H (fun v _ => v = .bl true) fun _ _ _ => False :=
      ⟨[.lis (ns.map D.int)], fun _ => none, fun d _ => d = .bl true, noX, rfl, .cons (.lis fz RpL.of_ints) .nil, (fun _ _ z => nomatch z), hC, fun d S' v H' e _ r _ => by subst e; exact r.bl_, fun _ _ _ z => z.elim⟩
    refine codeAny_mono ((F _ k1 k2).go callerA [] s H ⟨[.ref a], []⟩ [.ref a] [.ref a] _ _ hr rfl e0 (hbind s (.ref a)) (.cons rfl .nil) want) ?_
    intro r s' z
    match r, z with
    | .error _, z => exact z.elim
    | .ok .next, z => exact z.elim
    | .ok .brk, z => exact z.elim
    | .ok .cont, z => exact z.elim
    | .ok (.ret u), ⟨v, H', os, bare, un, hok', ru, q⟩ =>
      have q' : v = .bl true := q
      subst q'
      have ru' : u = Value.bool true := ru
      subst ru'
      refine ⟨rfl, OldK.of_keep fun b o e => ?_, os, bare⟩
      cases qb : H b with
      | none => exact un.keep b o e qb (fun z => absurd (show b ∈ ([] : List Addr) from z) (by simp)) (by simp)
      | some u =>
        obtain ⟨_, ob, xs, z⟩ := only b (by rw [qb]; exact fun z => nomatch z)
        have e1 := (hok b _ z).1
        have e2 := (hok' b _ (un.frzs b ob _ z)).1
        rw [e] at e1
        cases e1
        exact e2
  have rv : Vals (ns.map V.int) vs := vals_of_ints hi
  cases hk : K.lookup a with
  | some o =>
    have e := KX a o hk
    rw [ha] at e
    cases e
    exact go (fun _ => none) (.inr ⟨_, vs.toArray, _, hk, rfl, rfl, rfl, by rw [List.size_toArray, hi.length]; exact hl, by simpa using rv⟩) (fun b z => absurd rfl z) (fun z => absurd rfl z) fun b u z => nomatch z
  | none =>
    have at_ : ∀ b, (if b = a then some (HO.frz { cls := .type "list", data := .seq vs.toArray } (.lst (ns.map V.int))) else none) ≠ none → b = a := fun b z => Classical.byContradiction fun ne => z (if_neg ne)
    refine go (fun b => if b = a then some (.frz { cls := .type "list", data := .seq vs.toArray } (.lst (ns.map V.int))) else none) (.inl ⟨_, if_pos rfl⟩) (fun b z => ⟨at_ b z, ?_⟩) (fun _ => hk) fun b u z => ?_
    · have eb := at_ b z
      subst eb
      exact ⟨_, _, if_pos rfl⟩
    · have eb := at_ b (fun q => nomatch (show some u = none from z.symm.trans q))
      subst eb
      have z' := (if_pos rfl).symm.trans z
      cases z'
      exact ⟨ha, by rw [List.length_map]; exact hl, vs, _, rv, ha⟩
theorem walkG {l : PySem.W.OpenLaw} {n k : Nat} {q : Program} {loose : List Str} {XP : (Str → Option Value) → Heap → Prop} {YP : World → Heap → Prop} {d : DefRec} {Kf : Params → PySem.W.Frag} {x : Str} {C : Cn}
    (hn : l.most = some n) (hn2 : n ≤ sizeLine) (hdf : d.params.defaults = []) (hr : Room k callerA) (hY : ∀ (w : World) (h : Heap), YP w h → (Kf w.params).In h)
    (F : ∀ (w : World) (mg : Str → Option Value) (fa : Addr) (h : Heap), (Kf w.params).In h → h.Ns mainGlobals mg → mg d.name = some (.ref fa) →
      ∃ fd : FuncData, (∀ (s : Shared) (u : Value), BindsTo s fd ⟨[u], []⟩ [(x, u)]) ∧ ∀ base : Heap, (Kf w.params).In base → base.Ns mainGlobals mg → FnG l.prog w (Kf w.params) mg base CX0 k fa fd [x] (spD (Kf w.params) 1 C))
    (hC : ∀ ns : List Int, ns.length ≤ n → C [.lis (ns.map D.int)] (fun _ => none) (fun d _ => d = .bl true) noX) : PySem.W.WalkO q loose XP YP l.row.toRowW d [] (fun f vs => PySem.call f vs) := by
  refine Att.attach_call hn hdf ?_
  intro w s₀ s₁ mg mb fa o pm cd doc a vs ns G Y ho hd hcd hmg hobj hints hlen hgn
  obtain ⟨fd, hb, hF⟩ := F w mg fa _ (hY w _ Y) G.T.g hmg
  exact codeG (hY w _ Y) G.T.g G.T.b G.T.builtins G.T.nolimit hgn hobj hints (Nat.le_trans hlen hn2) hr hF hb (hC ns hlen)
/-- from the def's contract -/
theorem fn_of_callee {base : Heap} {k : Nat} {x : Str} {C : Cn} {fa : Addr} (h : Callee P w K mg base CX0 k x 1 C) (hm : mg x = some (.ref fa)) : ∃ fd ps, ps.length = 1 ∧ FnG P w K mg base CX0 k fa fd ps (spD K 1 C) := by
  obtain ⟨f, fd, ps, h1, h2, h3, _⟩ := h
  rw [hm] at h3
  cases h3
  exact ⟨fd, ps, h1, h2⟩
end
end DL
namespace DL
open PySem PySem.Spec PyProof.Rows L2
/-! ### what the combinators say, step by step -/
theorem nd_le : ∀ {L M : List Int}, L.Nodup → (∀ x ∈ L, x ∈ M) → L.length ≤ M.length
  | [], M, _, _ => Nat.zero_le _
  | x :: L, M, h, g => by
    have hx := g x (List.mem_cons_self ..)
    have h' := List.nodup_cons.mp h
    have := nd_le (L := L) (M := M.erase x) h'.2 fun y hy => (List.mem_erase_of_ne (fun e => by rw [e] at hy; exact h'.1 hy)).mpr (g y (List.mem_cons_of_mem _ hy))
    rw [List.length_erase_of_mem hx] at this
    have := List.length_pos_of_mem hx
    rw [List.length_cons]; omega
theorem nd_of_len : ∀ {M L : List Int}, L.Nodup → (∀ x ∈ L, x ∈ M) → M.length ≤ L.length → (∀ x ∈ M, x ∈ L) → M.Nodup
  | [], _, _, _, _, _ => List.nodup_nil
  | x :: M, L, h, g, l, g' => by
    have hx : x ∉ M := fun z => by
      have := nd_le (M := M) h fun y hy => by
        rcases List.mem_cons.mp (g y hy) with e | q
        · rw [e]; exact z
        · exact q
      rw [List.length_cons] at l; omega
    refine List.nodup_cons.mpr ⟨hx, nd_of_len (L := L.erase x) (h.erase x) (fun y hy => ?_) ?_ fun y hy => ?_⟩
    · have z := (h.mem_erase_iff).mp hy
      rcases List.mem_cons.mp (g y z.2) with e | q
      · exact absurd e z.1
      · exact q
    · rw [List.length_erase_of_mem (g' x (List.mem_cons_self ..))]
      rw [List.length_cons] at l; omega
    · exact (h.mem_erase_iff).mpr ⟨fun e => hx (e ▸ hy), g' y (List.mem_cons_of_mem _ hy)⟩
theorem ixN_of {n j : Nat} (hj : j < n) : ixN n (j : Int) = some j := by
  unfold ixN
  rw [if_pos (by omega), if_pos (by omega), Int.toNat_natCast]
theorem rVar_at {i : Nat} {env : DEnv} {S : Sto} {k : RK} {d : D} (h : env[i]? = some (some d)) (q : k d S) : rVar i env S k := by
  unfold rVar; rw [h]; exact q
theorem ixD_at {x : D} {i : Int} {S : Sto} {k : RK} {xs : List D} {d : D} (h : seqOf S x = some xs) (e : atI xs i = some d) (q : k d S) : ixD x (.int i) S k := ⟨xs, d, h, e, q⟩
theorem inD_int {neg : Bool} {i : Int} {y : D} {S : Sto} {k : RK} {ns : List Int} (h : seqOf S y = some (ns.map D.int)) (q : k (.bl (neg ^^ decide (i ∈ ns))) S) : inD neg (.int i) y S k := .inl ⟨i, ns, rfl, h, q⟩
theorem seq_tup {S : Sto} {xs : List D} : seqOf S (.tup xs) = some xs := rfl
theorem seq_ref {S : Sto} {a : Addr} {xs : List D} (h : S a = some (.lst xs)) : seqOf S (.ref a) = some xs := by unfold seqOf; simp only [h]
theorem seq_lis {S : Sto} {xs : List D} : seqOf S (.lis xs) = some xs := rfl
theorem cut_to {xs : List D} {n : Nat} : cutD xs none (some (n : Int)) = xs.take n := by
  unfold cutD
  rw [HT.sIx_none, HT.sIx_nat, List.drop_zero, Nat.sub_zero]
  by_cases h : n ≤ xs.length
  · rw [Nat.min_eq_left h]
  · rw [Nat.min_eq_right (by omega), List.take_length, List.take_of_length_le (by omega)]
theorem cut_from {xs : List D} {n : Nat} : cutD xs (some (n : Int)) none = xs.drop n := by
  unfold cutD
  rw [HT.sIx_none, HT.sIx_nat]
  by_cases h : n ≤ xs.length
  · rw [Nat.min_eq_left h, List.take_of_length_le (by rw [List.length_drop]; omega)]
  · rw [Nat.min_eq_right (by omega), Nat.sub_self, List.take_zero, List.drop_eq_nil_of_le (by omega)]
theorem cut_toI {xs : List D} {i : Int} (h : 0 ≤ i) : cutD xs none (some i) = xs.take i.toNat := by
  obtain ⟨n, rfl⟩ := Int.eq_ofNat_of_zero_le h
  exact cut_to
theorem cut_fromI {xs : List D} {i : Int} (h : 0 ≤ i) : cutD xs (some i) none = xs.drop i.toNat := by
  obtain ⟨n, rfl⟩ := Int.eq_ofNat_of_zero_le h
  exact cut_from
theorem setL_at {l : Addr} {i : Nat} {d : D} {S : Sto} {k : Sto → Prop} {xs : List D} (h : S l = some (.lst xs)) (hi : i < xs.length) (q : k (S.upd l (.lst (xs.set i d)))) : setL (.ref l) (.int (i : Nat)) d S k := by
  unfold setL
  simp only [h]
  exact ⟨i, ixN_of hi, q⟩
theorem sl_ref {a : Addr} {lo hi : Option Int} {S : Sto} {k : RK} {xs : List D} (h : S a = some (.lst xs)) (q : ∀ p, S p = none → k (.ref p) (S.upd p (.lst (cutD xs lo hi)))) : slD (.ref a) lo hi S k := by
  unfold slD; simp only [h]; exact q
theorem add_ref {a b : Addr} {S : Sto} {k : RK} {xs ys : List D} (h : S a = some (.lst xs)) (g : S b = some (.lst ys)) (l : xs.length + ys.length ≤ sizeLine) (q : ∀ p, S p = none → k (.ref p) (S.upd p (.lst (xs ++ ys)))) : addD (.ref a) (.ref b) S k := by
  unfold addD; simp only [h, g]; exact ⟨l, q⟩
theorem len_at {d : D} {S : Sto} {k : RK} {xs : List D} (h : seqOf S d = some xs) (q : k (.int (xs.length : Nat)) S) : lenD [d] S k := by
  cases d with
  | str x => simp [seqOf] at h
  | _ => exact ⟨xs, h, q⟩
theorem iSeq_ref {re : RT} {env : DEnv} {S : Sto} {k : List D → (Sto → Prop) → Sto → Prop} {a : Addr} {xs : List D} (e : ∀ K : RK, K (.ref a) S → re env S K) (h : S a = some (.lst xs)) (q : k xs (fun S => S a = some (.lst xs)) S) : iSeq re env S k := by
  unfold iSeq
  refine e _ ?_
  simp only [h]
  exact q

/-! ### cars -/
def isW : D → Bool
  | .int _ => true
  | _ => false
def isCar : D → Bool
  | .int i => decide (0 ≤ i) && decide (i < 60)
  | _ => false
def carsIn : D → Bool
  | .tup xs => xs.all isCar
  | _ => false
def intsOf : List D → List Int
  | [] => []
  | .int i :: r => i :: intsOf r
  | _ :: r => intsOf r
theorem intsOf_map (ns : List Int) : intsOf (ns.map D.int) = ns := by
  induction ns with
  | nil => rfl
  | cons n ns ih => rw [List.map_cons, intsOf, ih]
theorem map_intsOf : ∀ xs : List D, xs.all isCar = true → xs = (intsOf xs).map D.int
  | [], _ => rfl
  | x :: xs, h => by
    rw [List.all_cons, Bool.and_eq_true] at h
    cases x with
    | int i => rw [intsOf, List.map_cons, ← map_intsOf xs h.2]
    | _ => simp [isCar] at h
def Car (i : Int) : Prop := 0 ≤ i ∧ i < 60
theorem isCar_int {i : Int} : isCar (.int i) = true ↔ Car i := by simp [isCar, Car]
theorem all_isCar {ns : List Int} : (ns.map D.int).all isCar = true ↔ ∀ n ∈ ns, Car n := by
  simp [List.all_map, isCar, Car]
def isLaneD : D → Bool
  | .tup xs => xs.all isCar && decide ((intsOf xs).Nodup)
  | _ => false
def areCallsD : D → Bool
  | .tup xs => xs.all isCar && (decide (1 ≤ xs.length) && decide (xs.length ≤ 200))
  | _ => false
/-- a value whose kind is known, and its items' -/
def Kn (S : Sto) (x : D) : Prop := (kindD S x).isSome = true ∧ ∀ xs, x = .tup xs → xs.length ≤ 4000 ∧ ∀ y ∈ xs, (kindD S y).isSome = true
def stepN (ns : List Int) (c : Int) : List Int := if c ∈ ns then ns.takeWhile (fun n => !decide (n = c)) else ns ++ [c]
def leftN (ns : List Int) (c : Int) : List Int := ns.dropWhile fun n => !decide (n = c)
theorem find_first {ns : List Int} {c : Int} (h : c ∈ ns) : ∃ j, ns[j]? = some c ∧ (∀ m, m < j → ns[m]? ≠ some c) ∧ ns.takeWhile (fun n => !decide (n = c)) = ns.take j ∧ leftN ns c = ns.drop j := by
  induction ns with
  | nil => cases h
  | cons n ns ih =>
    by_cases e : n = c
    · subst e
      exact ⟨0, rfl, fun m hm => absurd hm (Nat.not_lt_zero m), by simp, by simp [leftN]⟩
    · obtain ⟨j, h1, h2, h3, h4⟩ := ih (by rcases List.mem_cons.mp h with q | q; exact absurd q.symm e; exact q)
      refine ⟨j + 1, by simpa using h1, ?_, ?_, ?_⟩
      · intro m hm
        cases m with
        | zero => simpa using e
        | succ m => simpa using h2 m (by omega)
      · simp [e, h3]
      · simpa [leftN, e] using h4
theorem step_in {ns : List Int} {c : Int} (h : c ∈ ns) : stepN ns c = ns.takeWhile (fun n => !decide (n = c)) := if_pos h
theorem step_out {ns : List Int} {c : Int} (h : c ∉ ns) : stepN ns c = ns ++ [c] := if_neg h
theorem left_out {ns : List Int} {c : Int} (h : c ∉ ns) : leftN ns c = [] := by
  unfold leftN
  induction ns with
  | nil => rfl
  | cons n ns ih =>
    rw [List.dropWhile_cons, if_pos (by simp; intro e; exact h (e ▸ List.mem_cons_self ..))]
    exact ih fun q => h (List.mem_cons_of_mem _ q)

/-! ### contracts of the program -/
def c_is_whole : Cn := fun ds S k _ => ∃ x, ds = [x] ∧ (kindD S x).isSome = true ∧ k (.bl (isW x)) S
def c_is_car : Cn := fun ds S k _ => ∃ x, ds = [x] ∧ (kindD S x).isSome = true ∧ k (.bl (isCar x)) S
def c_are_cars : Cn := fun ds S k _ => ∃ x, ds = [x] ∧ Kn S x ∧ k (.bl (carsIn x)) S
def c_is_lane : Cn := fun ds S k _ => ∃ x, ds = [x] ∧ Kn S x ∧ k (.bl (isLaneD x)) S
def c_are_calls : Cn := fun ds S k _ => ∃ x, ds = [x] ∧ Kn S x ∧ k (.bl (areCallsD x)) S
/-- a lane, by its cars -/
structure LaneN (ns : List Int) : Prop where
  cars : ∀ n ∈ ns, Car n
  nodup : ns.Nodup
structure CallsN (ns : List Int) : Prop where
  cars : ∀ n ∈ ns, Car n
  pos : 1 ≤ ns.length
  most : ns.length ≤ 200
abbrev tupI (ns : List Int) : D := .tup (ns.map D.int)
def c_check_lane : Cn := fun ds S k _ => ∃ ns, ds = [tupI ns] ∧ LaneN ns ∧ k .non S
def c_check_calls : Cn := fun ds S k _ => ∃ ns, ds = [tupI ns] ∧ CallsN ns ∧ k .non S
def c_check_car : Cn := fun ds S k _ => ∃ n, ds = [.int n] ∧ Car n ∧ k .non S
def c_step : Cn := fun ds S k _ => ∃ ns c, ds = [tupI ns, .int c] ∧ ns.length ≤ 100 ∧ k (tupI (stepN ns c)) S
def c_called : Cn := fun ds S k _ => ∃ ns c, ds = [tupI ns, .int c] ∧ LaneN ns ∧ Car c ∧ k (tupI (stepN ns c)) S
def c_leaving : Cn := fun ds S k _ => ∃ ns c, ds = [tupI ns, .int c] ∧ LaneN ns ∧ Car c ∧ k (tupI (leftN ns c)) S
/-- different cars are at most sixty -/
theorem cars60 {ns : List Int} (h : LaneN ns) : ns.length ≤ 60 := by
  have := nd_le (M := (List.range 60).map fun i : Nat => (i : Int)) h.nodup fun x hx => by
    have c := h.cars x hx
    unfold Car at c
    exact List.mem_map.mpr ⟨x.toNat, List.mem_range.mpr (by omega), by omega⟩
  rw [List.length_map, List.length_range] at this
  exact this
theorem lane_step {ns : List Int} {c : Int} (h : LaneN ns) (hc : Car c) : LaneN (stepN ns c) := by
  by_cases m : c ∈ ns
  · rw [step_in m]
    obtain ⟨j, _, _, e, _⟩ := find_first m
    rw [e]
    exact ⟨fun n hn => h.cars n (List.mem_of_mem_take hn), h.nodup.sublist (List.take_sublist ..)⟩
  · rw [step_out m]
    refine ⟨fun n hn => ?_, ?_⟩
    · rcases List.mem_append.mp hn with q | q
      · exact h.cars n q
      · rw [List.mem_singleton.mp q]; exact hc
    · rw [List.nodup_append]
      refine ⟨h.nodup, List.nodup_cons.mpr ⟨List.not_mem_nil, List.nodup_nil⟩, fun a ha b hb e => ?_⟩
      rw [List.mem_singleton.mp hb] at e
      subst e; exact m ha
theorem kn_ints {S : Sto} {ns : List Int} (h : ns.length ≤ 4000) : Kn S (tupI ns) := by
  refine ⟨rfl, fun xs e => ?_⟩
  cases e
  refine ⟨by rw [List.length_map]; exact h, fun y hy => ?_⟩
  obtain ⟨i, _, rfl⟩ := List.mem_map.mp hy
  rfl
theorem lane_is {ns : List Int} (h : LaneN ns) : isLaneD (tupI ns) = true := by
  unfold isLaneD tupI
  simp only [intsOf_map, Bool.and_eq_true, decide_eq_true_eq]
  exact ⟨all_isCar.mpr h.cars, h.nodup⟩
theorem calls_are {ns : List Int} (h : CallsN ns) : areCallsD (tupI ns) = true := by
  unfold areCallsD tupI
  simp only [List.length_map, Bool.and_eq_true, decide_eq_true_eq]
  exact ⟨all_isCar.mpr h.cars, h.pos, h.most⟩
/-- a list without doubles that holds the same -/
theorem nodup_len {L ns : List Int} (hL : L.Nodup) (h : ∀ i, i ∈ L ↔ i ∈ ns) : decide ((L.length : Int) = (ns.length : Int)) = decide ns.Nodup := by
  rw [decide_eq_decide]
  constructor
  · intro e
    exact nd_of_len hL (fun x hx => (h x).mp hx) (by omega) fun x hx => (h x).mpr hx
  · intro d
    have := nd_le hL fun x hx => (h x).mp hx
    have := nd_le d fun x hx => (h x).mpr hx
    omega
end DL
namespace DL
open PySem PySem.Spec PyProof.Rows L2
/-! ### contracts of the drawing -/
def BagV (b : List D) : Prop := ∃ u c t : Int, 0 ≤ u ∧ b = [.int u, .int c, .int t]
def c_law_bag : Cn := fun ds S k _ => ∃ c : Int, ds = [.int c] ∧ ∀ b p, BagV b → S p = none → k (.ref p) (S.upd p (.lst b))
def c_law_pick : Cn := fun ds S k _ => ∃ a m b, ds = [.ref a, .int m] ∧ 0 < m ∧ m.natAbs.log2 < 9000 ∧ S a = some (.lst b) ∧ BagV b ∧ ∀ told b', 0 ≤ told → told < m → BagV b' → k (.int told) (S.upd a (.lst b'))
def c_law_cars : Cn := fun ds S k _ => ∃ a m b, ds = [.ref a, .int m] ∧ 0 < m ∧ m ≤ 60 ∧ S a = some (.lst b) ∧ BagV b ∧
  ∀ b' ns p, BagV b' → (ns.length : Int) = m → LaneN ns → S p = none → k (.ref p) ((S.upd a (.lst b')).upd p (.lst (ns.map D.int)))
def c_law_calls : Cn := fun ds S k _ => ∃ a c m b ns, ds = [.ref a, .ref c, .int m] ∧ 0 < m ∧ m ≤ 200 ∧ S a = some (.lst b) ∧ BagV b ∧ a ≠ c ∧ S c = some (.lst (ns.map D.int)) ∧ ns ≠ [] ∧ ns.length ≤ 60 ∧
  ∀ b' cs, BagV b' → 1 ≤ cs.length → (cs.length : Int) ≤ m → (∀ x ∈ cs, x ∈ ns) → k (tupI cs) (S.upd a (.lst b'))
def c_law_lane : Cn := fun ds S k _ => ∃ a c b ns cs, ds = [.ref a, .ref c, tupI cs] ∧ S a = some (.lst b) ∧ BagV b ∧ a ≠ c ∧ S c = some (.lst (ns.map D.int)) ∧ LaneN ns ∧ CallsN cs ∧
  ∀ b' ls, BagV b' → LaneN ls → k (tupI ls) (S.upd a (.lst b'))
def c_law_case : Cn := fun ds S k _ => ∃ a m l b, ds = [.ref a, .int m, .int l] ∧ 0 < m ∧ m ≤ 60 ∧ 0 < l ∧ l ≤ 200 ∧ S a = some (.lst b) ∧ BagV b ∧
  ∀ b' ls cs, BagV b' → LaneN ls → CallsN cs → (cs.length : Int) ≤ l → k (.tup [tupI ls, tupI cs]) (S.upd a (.lst b'))
def c_law_call : Cn := fun ds S k _ => ∃ ns c, ds = [tupI ns, .int c] ∧ ns.length ≤ 100 ∧ k (.tup [tupI (stepN ns c), tupI (leftN ns c)]) S
end DL
namespace DL
open PySem PySem.Spec PyProof.Rows L2
theorem setL_lit {l : Addr} {n : Int} {j : Nat} {d : D} {S : Sto} {k : Sto → Prop} {xs : List D} (h : S l = some (.lst xs)) (hi : ixN xs.length n = some j) (q : k (S.upd l (.lst (xs.set j d)))) : setL (.ref l) (.int n) d S k := by
  unfold setL
  simp only [h]
  exact ⟨j, hi, q⟩
theorem mul_int {i j : Int} {S : Sto} {k : RK} (h : -(2 ^ 64) < j ∧ j < 2 ^ 64) (q : k (.int (i * j)) S) : mulD (.int i) (.int j) S k := ⟨.inr h, q⟩
theorem add_int {i j : Int} {S : Sto} {k : RK} (q : k (.int (i + j)) S) : addD (.int i) (.int j) S k := q
theorem add_tup {a b : List D} {S : Sto} {k : RK} (h : a.length + b.length ≤ sizeLine) (q : k (.tup (a ++ b)) S) : addD (.tup a) (.tup b) S k := ⟨h, q⟩
end DL
namespace DL
open PySem PySem.Spec PyProof.Rows L2
def isB : D → Bool
  | .bl _ => true
  | _ => false
theorem isi_int {S : Sto} {x : D} {k : RK} (h : (kindD S x).isSome = true) (q : k (.bl (isW x || isB x)) S) : isiD [x, .ty "int"] S k := by
  obtain ⟨t, ht⟩ := Option.isSome_iff_exists.mp h
  refine ⟨t, isW x || isB x, ht, ?_, q⟩
  unfold kindD at ht
  split at ht <;> first | (cases ht; done) | (cases ht; rfl) | skip
  · split at ht <;> first | (cases ht; done) | (cases ht; rfl)
theorem isi_bool {S : Sto} {x : D} {k : RK} (h : (kindD S x).isSome = true) (q : k (.bl (isB x)) S) : isiD [x, .ty "bool"] S k := by
  obtain ⟨t, ht⟩ := Option.isSome_iff_exists.mp h
  refine ⟨t, isB x, ht, ?_, q⟩
  unfold kindD at ht
  split at ht <;> first | (cases ht; done) | (cases ht; rfl) | skip
  · split at ht <;> first | (cases ht; done) | (cases ht; rfl)
theorem isi_tup {S : Sto} {x : D} {k : RK} (h : (kindD S x).isSome = true) (q : k (.bl (isTup x)) S) : isiD [x, .ty "tuple"] S k := by
  obtain ⟨t, ht⟩ := Option.isSome_iff_exists.mp h
  refine ⟨t, isTup x, ht, ?_, q⟩
  unfold kindD at ht
  split at ht <;> first | (cases ht; done) | (cases ht; rfl) | skip
  · split at ht <;> first | (cases ht; done) | (cases ht; rfl)
theorem max0 {j : Int} {S : Sto} {k : RK} (q : ∀ u : Int, 0 ≤ u → k (.int u) S) : maxD [.int 0, .int j] S k := by
  unfold maxD
  refine q _ ?_
  split <;> omega
end DL
namespace DL
open PySem PySem.Spec PyProof.Rows L2
/-- a comprehension that changes nothing -/
theorem comp_fm {ri : RTi} {g : RTg} {tt : RTt} {re : RT} {vs : List Nat} {env : DEnv} {S : Sto} {k : RK} {xs : List D} {G : Sto → Prop} (P : D → Bool) (f : D → D)
    (hri : ∀ K : List D → (Sto → Prop) → Sto → Prop, K xs G S → ri env S K) (hG : G S) (hl : xs.length ≤ sizeLine)
    (step : ∀ x ∈ xs, ∀ (kt : RK) (kf : Sto → Prop), (P x = true → kt (f x) S) → (P x = false → kf S) → g x (wipeE env vs) S fun env2 S2 => tt env2 S2 fun b S3 => if b = true then re env2 S3 kt else kf S3)
    (q : ∀ p, S p = none → k (.ref p) (S.upd p (.lst ((xs.filter P).map f)))) : rComp ri g tt re vs env S k := by
  refine hri _ ⟨fun i acc S' => S' = S ∧ acc = ((xs.take i).filter P).map f, ⟨rfl, rfl⟩, ?_, ?_, ?_⟩
  · rintro i acc S' _ ⟨rfl, _⟩
    exact hG
  · rintro i x acc S' hx ⟨rfl, rfl⟩
    have hi := (List.getElem?_eq_some_iff.mp hx).1
    have ht : xs.take (i + 1) = xs.take i ++ [x] := by
      rw [List.take_add_one, hx]; rfl
    refine step x (List.mem_of_getElem? hx) _ _ (fun e => ⟨?_, S', Sub.refl _, rfl, ?_⟩) fun e => ⟨S', Sub.refl _, rfl, ?_⟩
    · have l1 := List.length_filter_le P (xs.take i)
      have l2 := List.length_take_le i xs
      rw [List.length_map]
      omega
    · rw [ht, List.filter_append, List.map_append, List.filter_cons_of_pos e]; rfl
    · rw [ht, List.filter_append, List.filter_cons_of_neg (by simp [e])]
      simp
  · rintro acc S' ⟨rfl, rfl⟩ p hp
    rw [List.take_length]
    exact q p hp
theorem comp_map {ri : RTi} {g : RTg} {re : RT} {vs : List Nat} {env : DEnv} {S : Sto} {k : RK} {xs : List D} {G : Sto → Prop} (f : D → D)
    (hri : ∀ K : List D → (Sto → Prop) → Sto → Prop, K xs G S → ri env S K) (hG : G S) (hl : xs.length ≤ sizeLine)
    (step : ∀ x ∈ xs, ∀ (kt : RK), kt (f x) S → g x (wipeE env vs) S fun env2 S2 => re env2 S2 kt)
    (q : ∀ p, S p = none → k (.ref p) (S.upd p (.lst (xs.map f)))) : rComp ri g rYes re vs env S k := by
  refine comp_fm (fun _ => true) f hri hG hl (fun x hx kt kf h1 _ => ?_) ?_
  · simp only [rYes, if_true]
    exact step x hx kt (h1 rfl)
  · have e : xs.filter (fun _ => true) = xs := by simp
    rw [e]; exact q
end DL
namespace DL
open PySem PySem.Spec PyProof.Rows L2
/-! ### a store that is as before but for the bag, and what is new -/
structure Ex (a : Addr) (S : Sto) (b : List D) (S' : Sto) : Prop where
  bag : S' a = some (.lst b)
  rest : ∀ c o, c ≠ a → S c = some o → S' c = some o
theorem Ex.refl {a : Addr} {S : Sto} {b : List D} (h : S a = some (.lst b)) : Ex a S b S := ⟨h, fun _ _ _ z => z⟩
theorem Ex.upd {a : Addr} {S S' : Sto} {b b' : List D} (h : Ex a S b S') : Ex a S b' (S'.upd a (.lst b')) := ⟨Sto.upd_same, fun c o n z => by rw [Sto.upd_ne n]; exact h.rest c o n z⟩
theorem Ex.ne {a p : Addr} {S S' : Sto} {b : List D} (h : Ex a S b S') (hp : S' p = none) : p ≠ a := fun e => by rw [e, h.bag] at hp; cases hp
theorem Ex.free {a p : Addr} {S S' : Sto} {b : List D} (h : Ex a S b S') (hp : S' p = none) : S p = none := by
  cases q : S p with
  | none => rfl
  | some o => rw [h.rest p o (h.ne hp) q] at hp; cases hp
theorem Ex.mod {a p : Addr} {S S' : Sto} {b : List D} {o : O} (h : Ex a S b S') (hp : S p = none) (n : p ≠ a) : Ex a S b (S'.upd p o) := ⟨by rw [Sto.upd_ne n.symm]; exact h.bag, fun c o' hn z => by
  rw [Sto.upd_ne]
  · exact h.rest c o' hn z
  · intro e; rw [e, hp] at z; cases z⟩
theorem Ex.new {a p : Addr} {S S' : Sto} {b : List D} {o : O} (h : Ex a S b S') (hp : S' p = none) : Ex a S b (S'.upd p o) := h.mod (h.free hp) (h.ne hp)
theorem Ex.sub {a : Addr} {S S' : Sto} {b : List D} (h : Ex a S b S') : Sub (S.upd a (.lst b)) S' := fun c o e => by
  by_cases n : c = a
  · subst n; rw [Sto.upd_same] at e; cases e; exact h.bag
  · rw [Sto.upd_ne n] at e; exact h.rest c o n e
theorem Ex.trans {a : Addr} {S S1 S2 : Sto} {b b1 : List D} (h : Ex a S b S1) (g : Ex a S1 b1 S2) : Ex a S b1 S2 := ⟨g.bag, fun c o n z => g.rest c o n (h.rest c o n z)⟩
theorem rngD_it {n i : Nat} {x : D} (h : (rngD 0 n)[i]? = some x) : i < n ∧ x = .int (i : Nat) := by
  unfold rngD at h
  rw [List.getElem?_map, Option.map_eq_some_iff] at h
  obtain ⟨j, h1, h2⟩ := h
  have := List.getElem?_eq_some_iff.mp h1
  obtain ⟨l, e⟩ := this
  rw [List.getElem_range] at e
  rw [List.length_range] at l
  subst e
  exact ⟨l, by rw [← h2]; simp⟩
theorem rngD_len {n : Nat} : (rngD 0 n).length = n := by simp [rngD]
theorem rngD_ints {n : Nat} : rngD 0 n = ((List.range n).map fun i : Nat => (i : Int)).map D.int := by
  unfold rngD
  rw [List.map_map]
  exact List.map_congr_left fun i _ => by simp
theorem erase_perm {α : Type} : ∀ {l : List α} {j : Nat} {x : α}, l[j]? = some x → l.Perm (x :: l.eraseIdx j)
  | [], _, _, h => by simp at h
  | y :: l, 0, x, h => by
    simp at h; subst h; exact List.Perm.refl _
  | y :: l, j + 1, x, h => by
    have := erase_perm (l := l) (j := j) (x := x) (by simpa using h)
    rw [List.eraseIdx_cons_succ]
    exact (this.cons y).trans (List.Perm.swap x y _)
theorem LaneN.perm {ns ms : List Int} (h : LaneN ns) (p : ns.Perm ms) : LaneN ms := ⟨fun n hn => h.cars n (p.mem_iff.mpr hn), p.nodup_iff.mp h.nodup⟩
theorem LaneN.sub {ns ms : List Int} (h : LaneN ns) (p : ms.Sublist ns) : LaneN ms := ⟨fun n hn => h.cars n (p.subset hn), h.nodup.sublist p⟩
theorem all60 : LaneN ((List.range 60).map fun i : Nat => (i : Int)) := ⟨by unfold Car; decide, by decide⟩
theorem eraseIdx_ints : ∀ {ns : List Int} {j : Nat}, (ns.map D.int).eraseIdx j = (ns.eraseIdx j).map D.int
  | [], _ => rfl
  | _ :: _, 0 => rfl
  | n :: ns, j + 1 => by
    rw [List.map_cons, List.eraseIdx_cons_succ, List.eraseIdx_cons_succ, List.map_cons, eraseIdx_ints]
theorem popAt_at {l : Addr} {i : Int} {S : Sto} {k : RK} {xs : List D} {d : D} (h : S l = some (.lst xs)) (h0 : 0 ≤ i) (h1 : i < 2 ^ 63) (e : xs[i.toNat]? = some d) (q : k d (S.upd l (.lst (xs.eraseIdx i.toNat)))) : popAtD (.ref l) [.int i] S k := by
  unfold popAtD
  simp only [h]
  exact ⟨d, h0, h1, e, q⟩
theorem tyD_lst {S : Sto} {a : Addr} {xs : List D} (h : S a = some (.lst xs)) : tyD S "list" (.ref a) := by
  unfold tyD; simp only [h]
theorem tuple_lst {S : Sto} {a : Addr} {xs : List D} {k : RK} (h : S a = some (.lst xs)) (q : k (.tup xs) S) : tupleD [.ref a] S k := ⟨xs, seq_ref h, rfl, q⟩
theorem eq_int {neg : Bool} {i j : Int} {S : Sto} {k : RK} (q : k (.bl (neg ^^ decide (i = j))) S) : eqD neg (.int i) (.int j) S k := q
/-- drawing out of a list -/
theorem comp_draw {a p : Addr} {S : Sto} {b : List D} {vi : Nat} {m : Nat} {left : List Int} {env : DEnv} {S0 : Sto} {k : RK} {vb vl : Nat} {ri : RTi}
    (hri : ∀ K : List D → (Sto → Prop) → Sto → Prop, K (rngD 0 m) (fun _ => True) S0 → ri env S0 K)
    (e0 : ∀ d, ((wipeE env [vi]).set vi (some d))[vb]? = some (some (.ref a))) (e1 : ∀ d, ((wipeE env [vi]).set vi (some d))[vl]? = some (some (.ref p)))
    (hx : Ex a S b S0) (hb : BagV b) (hp : S p = none) (hpa : p ≠ a) (hl : S0 p = some (.lst (left.map D.int))) (hL : LaneN left) (hm : m ≤ left.length)
    (q : ∀ b' cs S', BagV b' → Ex a S b' S' → LaneN cs → cs.length = m → ∀ p, S' p = none → k (.ref p) (S'.upd p (.lst (cs.map D.int)))) :
    rComp ri (gN vi) rYes (rBm "list" popAtD (rVar vl) (rCons (rCall 2 c_law_pick (rCons (rVar vb) (rCons (rCallB lenD (rCons (rVar vl) rNil)) rNil))) rNil)) [vi] env S0 k := by
  refine hri _ ⟨fun i acc S' => ∃ b' cs rest, BagV b' ∧ Ex a S b' S' ∧ S' p = some (.lst (rest.map D.int)) ∧ acc = cs.map D.int ∧ cs.length = i ∧ left.Perm (cs ++ rest), ⟨b, [], left, hb, hx, hl, rfl, rfl, List.Perm.refl _⟩, fun _ _ _ _ _ => trivial, ?_, ?_⟩
  · rintro i x acc S' hi ⟨b', cs, rest, hb', hx', hp', rfl, rfl, pm⟩
    obtain ⟨hi', rfl⟩ := rngD_it hi
    have ln := pm.length_eq
    have l60 := cars60 hL
    rw [List.length_append] at ln
    simp only [gN, rYes, if_true, rBm, rVar, e0, e1, rCons, rNil, rCall, rCallB]
    refine ⟨tyD_lst hp', len_at (seq_ref hp') ⟨rfl, a, _, b', rfl, ?_, ?_, hx'.bag, hb', fun told b'' t0 t1 hb'' => ?_⟩⟩
    · rw [List.length_map]; omega
    · rw [List.length_map]
      have : ((rest.length : Nat) : Int).natAbs = rest.length := Int.natAbs_natCast _
      rw [this]
      have : rest.length < 2 ^ 64 := by omega
      have := (Nat.log2_lt (n := rest.length) (k := 64) (by omega)).mpr this
      omega
    · rw [List.length_map] at t1
      have hj : told.toNat < rest.length := by omega
      have ej : rest[told.toNat]? = some rest[told.toNat] := List.getElem?_eq_getElem hj
      refine popAt_at (xs := rest.map D.int) (d := .int rest[told.toNat]) (by rw [Sto.upd_ne hpa]; exact hp') t0 (by omega) (by rw [List.getElem?_map, ej]; rfl) ⟨?_, _, Sub.refl _, b'', cs ++ [rest[told.toNat]], rest.eraseIdx told.toNat, hb'', ?_, ?_, ?_, ?_, ?_⟩
      · rw [List.length_map]; exact Nat.lt_of_le_of_lt (show cs.length ≤ 60 by omega) (by decide)
      · exact (hx'.upd).mod hp hpa
      · rw [Sto.upd_same, eraseIdx_ints]
      · simp
      · simp
      · rw [List.append_assoc, List.singleton_append]
        exact pm.trans (List.Perm.append_left cs (erase_perm ej))
  · rintro acc S' ⟨b', cs, rest, hb', hx', hp', rfl, hcs, pm⟩
    rw [rngD_len] at hcs
    exact q b' cs S' hb' hx' ((hL.perm pm).sub (List.sublist_append_left ..)) hcs
end DL
namespace DL
open PySem PySem.Spec PyProof.Rows L2
theorem rev_ref {re : RT} {env : DEnv} {S : Sto} {a : Addr} {xs : List D} {k : RK} (e : ∀ K : RK, K (.ref a) S → re env S K) (h : S a = some (.lst xs)) (q : ∀ p, S p = none → k (.ref p) (S.upd p (.lst xs.reverse))) : rRevL re env S k := by
  unfold rRevL
  refine e _ ?_
  simp only [h]
  exact q
theorem pick_at {a : Addr} {m : Int} {S : Sto} {k : RK} {ek : XKd} {S0 : Sto} {b : List D} (hx : Ex a S0 b S) (hb : BagV b) (h0 : 0 < m) (h1 : m < 2 ^ 64) (q : ∀ told b' S', 0 ≤ told → told < m → BagV b' → Ex a S0 b' S' → (∀ c, c ≠ a → S' c = S c) → k (.int told) S') : c_law_pick [.ref a, .int m] S k ek := by
  refine ⟨a, m, b, rfl, h0, ?_, hx.bag, hb, fun told b' t0 t1 hb' => q told b' _ t0 t1 hb' hx.upd fun c hc => Sto.upd_ne hc⟩
  have : m.natAbs < 2 ^ 64 := by omega
  have := (Nat.log2_lt (n := m.natAbs) (k := 64) (by omega)).mpr this
  omega
theorem mem_ints {x : D} {ns : List Int} (h : x ∈ ns.map D.int) : ∃ n ∈ ns, x = .int n := by
  obtain ⟨n, h1, h2⟩ := List.mem_map.mp h
  exact ⟨n, h1, h2.symm⟩
/-- [some[_law_pick(bag, len(some))] for k in range(many)] -/
theorem comp_pick {a p : Addr} {S : Sto} {b : List D} {vi : Nat} {m : Nat} {sm : List Int} {env : DEnv} {S0 : Sto} {k : RK} {vb vl : Nat} {ri : RTi}
    (hri : ∀ K : List D → (Sto → Prop) → Sto → Prop, K (rngD 0 m) (fun _ => True) S0 → ri env S0 K)
    (e0 : ∀ d, ((wipeE env [vi]).set vi (some d))[vb]? = some (some (.ref a))) (e1 : ∀ d, ((wipeE env [vi]).set vi (some d))[vl]? = some (some (.ref p)))
    (hx : Ex a S b S0) (hb : BagV b) (hpa : p ≠ a) (hl : S0 p = some (.lst (sm.map D.int))) (hL : sm ≠ []) (h60 : sm.length ≤ 60) (hm : m ≤ 1000)
    (q : ∀ (b' : List D) (cs : List Int) (S' : Sto), BagV b' → Ex a S b' S' → (∀ x ∈ cs, x ∈ sm) → cs.length = m → ∀ p, S' p = none → k (.ref p) (S'.upd p (.lst (cs.map D.int)))) :
    rComp ri (gN vi) rYes (rBin ixD (rVar vl) (rCall 2 c_law_pick (rCons (rVar vb) (rCons (rCallB lenD (rCons (rVar vl) rNil)) rNil)))) [vi] env S0 k := by
  have lp : 0 < sm.length := List.length_pos_iff.mpr hL
  refine hri _ ⟨fun i acc S' => ∃ b' cs, BagV b' ∧ Ex a S b' S' ∧ S' p = some (.lst (sm.map D.int)) ∧ acc = cs.map D.int ∧ cs.length = i ∧ (∀ x ∈ cs, x ∈ sm), ⟨b, [], hb, hx, hl, rfl, rfl, fun _ z => nomatch z⟩, fun _ _ _ _ _ => trivial, ?_, ?_⟩
  · rintro i x acc S' hi ⟨b', cs, hb', hx', hp', rfl, rfl, pm⟩
    obtain ⟨hi', rfl⟩ := rngD_it hi
    simp only [gN, rYes, if_true, rBin, rVar, e0, e1, rCons, rNil, rCall, rCallB]
    refine len_at (seq_ref hp') ⟨rfl, pick_at hx' hb' (by rw [List.length_map]; omega) (by rw [List.length_map]; omega) fun told b'' S2 t0 t1 hb'' hx2 hk => ?_⟩
    rw [List.length_map] at t1
    have hj : told.toNat < sm.length := by omega
    have ej : sm[told.toNat]? = some sm[told.toNat] := List.getElem?_eq_getElem hj
    have et : told = (told.toNat : Int) := by omega
    rw [et]
    refine ixD_at (xs := sm.map D.int) (seq_ref ((hk p hpa).trans hp')) (atI_nat (v := D.int sm[told.toNat]) (by rw [List.getElem?_map, ej]; rfl)) ⟨?_, _, Sub.refl _, b'', cs ++ [sm[told.toNat]], hb'', hx2, (hk p hpa).trans hp', by simp, by simp, fun x hx => ?_⟩
    · rw [List.length_map]; exact Nat.lt_of_lt_of_le (show cs.length < 1000 by omega) (by decide)
    · rcases List.mem_append.mp hx with z | z
      · exact pm x z
      · rw [List.mem_singleton.mp z]; exact List.getElem_mem hj
  · rintro acc S' ⟨b', cs, hb', hx', hp', rfl, hcs, pm⟩
    rw [rngD_len] at hcs
    exact q b' cs S' hb' hx' pm hcs
end DL
namespace DL
open PySem PySem.Spec PyProof.Rows L2
/-! ### what repr shows -/
structure RepOk (d W : Nat) (p : PyData) : Prop where
  sh : p.showable = true
  dp : p.depth ≤ d
  lv : p.leavesShort 22 = true
  wt : p.weight ≤ W
theorem RepOk.fits {W : Nat} {p : PyData} (h : RepOk 30 W p) (hW : W ≤ 600000) : p.showable = true ∧ p.depth ≤ 30 ∧ p.shown.length ≤ sizeLine := by
  refine ⟨h.sh, h.dp, ?_⟩
  have a := PyData.shown_le 22 (by decide) p h.lv
  have b : (22 + 2) * p.weight ≤ 24 * 600000 := Nat.mul_le_mul (by decide) (Nat.le_trans h.wt hW)
  rw [sizeLine_eq]
  omega
theorem RepOk.mono {d e W V : Nat} {p : PyData} (h : RepOk d W p) (a : d ≤ e) (b : W ≤ V) : RepOk e V p := ⟨h.sh, Nat.le_trans h.dp a, h.lv, Nat.le_trans h.wt b⟩
def Sm (i : Int) : Prop := i.natAbs < 10 ^ 21
theorem Car.sm {i : Int} (h : Car i) : Sm i := by
  unfold Car at h; unfold Sm; omega
theorem rep_int {i : Int} (h : Sm i) : RepOk 0 70 (.int i) := by
  unfold Sm at h
  have lg : i.natAbs.log2 < 70 := by
    by_cases z : i.natAbs = 0
    · rw [z]; decide
    · exact (Nat.log2_lt z).mpr (Nat.lt_trans h (by decide))
  refine ⟨?_, Nat.le_refl _, ?_, ?_⟩
  · simp only [PyData.showable, decide_eq_true_eq]; omega
  · simp only [PyData.leavesShort, decide_eq_true_eq]
    have e := int_text_length_le10 (k := 21) (by decide) h
    show (Str.ofString (toString i)).length ≤ 22
    rw [PySem.ofString_length]; exact e
  · unfold PyData.weight
    split
    · omega
    · omega
theorem rep_bl {b : Bool} : RepOk 0 0 (.bool b) := ⟨by simp [PyData.showable], Nat.le_refl _, by simp [PyData.leavesShort], Nat.le_refl _⟩
theorem rep_non : RepOk 0 0 .none := ⟨by simp [PyData.showable], Nat.le_refl _, by simp [PyData.leavesShort], Nat.le_refl _⟩
theorem rep_all {d W : Nat} : ∀ {ps : List PyData}, (∀ p ∈ ps, RepOk d W p) → PyData.showableAll ps = true ∧ PyData.depthAll ps ≤ d ∧ PyData.leavesShortAll 22 ps = true ∧ PyData.weightAll ps ≤ ps.length * (W + 1)
  | [], _ => ⟨rfl, Nat.zero_le _, rfl, Nat.zero_le _⟩
  | p :: ps, h => by
    obtain ⟨a, b, c, e⟩ := rep_all (ps := ps) fun q hq => h q (List.mem_cons_of_mem _ hq)
    have g := h p (List.mem_cons_self ..)
    refine ⟨by simp only [PyData.showableAll, g.sh, a, Bool.and_self], ?_, by simp only [PyData.leavesShortAll, g.lv, c, Bool.and_self], ?_⟩
    · have := g.dp
      simp only [PyData.depthAll]; omega
    · have := g.wt
      simp only [PyData.weightAll, List.length_cons, Nat.add_mul]; omega
theorem rep_tup {d W : Nat} {ps : List PyData} (h : ∀ p ∈ ps, RepOk d W p) : RepOk (d + 1) (ps.length * (W + 1)) (.tuple ps) := by
  obtain ⟨a, b, c, e⟩ := rep_all h
  exact ⟨by simpa only [PyData.showable] using a, by simp only [PyData.depth]; omega, by simpa only [PyData.leavesShort] using c, by simpa only [PyData.weight] using e⟩
theorem rep_lst {d W : Nat} {ps : List PyData} (h : ∀ p ∈ ps, RepOk d W p) : RepOk (d + 1) (ps.length * (W + 1)) (.list ps) := by
  obtain ⟨a, b, c, e⟩ := rep_all h
  exact ⟨by simpa only [PyData.showable] using a, by simp only [PyData.depth]; omega, by simpa only [PyData.leavesShort] using c, by simpa only [PyData.weight] using e⟩
/-- a text of small code points -/
def Tx (x : Str) : Prop := ∀ c ∈ x.cps.toList, c < 16 ^ 8
theorem rep_str {x : Str} (h : Tx x) : RepOk 0 x.length (.str x) := by
  refine ⟨by simp [PyData.showable], Nat.le_refl _, ?_, Nat.le_refl _⟩
  simp only [PyData.leavesShort, List.all_eq_true, decide_eq_true_eq]
  exact h
theorem Tx.append {x y : Str} (h : Tx x) (g : Tx y) : Tx (x ++ y) := by
  intro c hc
  rw [PySem.Str.cps_append, Array.toList_append, List.mem_append] at hc
  exact hc.elim (h c) (g c)
theorem Tx.of (s : String) : Tx (Str.ofString s) := by
  intro c hc
  have e : (Str.ofString s).cps.toList = s.toList.map Char.toNat := by rw [PySem.Str.ofString_eq_toList]
  rw [e] at hc
  obtain ⟨z, _, rfl⟩ := List.mem_map.mp hc
  exact z.val.toNat_lt
end DL
namespace DL
open PySem PySem.Spec PyProof.Rows L2
theorem Tx.join {g : Str} (hg : Tx g) {ys : List Str} (h : ∀ y ∈ ys, Tx y) : Tx (Txt.join g ys) := by
  have go : ∀ (l : List Str) (acc : Array Nat), (∀ y ∈ l, Tx y) → (∀ c ∈ acc.toList, c < 16 ^ 8) → ∀ c ∈ (l.foldl (fun acc p => acc ++ g.cps ++ p.cps) acc).toList, c < 16 ^ 8 := by
    intro l
    induction l with
    | nil => intro acc _ ha; exact ha
    | cons y l ih =>
      intro acc hl ha
      refine ih _ (fun z hz => hl z (List.mem_cons_of_mem _ hz)) fun c hc => ?_
      rw [Array.toList_append, Array.toList_append, List.mem_append, List.mem_append] at hc
      rcases hc with (q | q) | q
      · exact ha c q
      · exact hg c q
      · exact hl y (List.mem_cons_self ..) c q
  show Tx (PySem.Builtin.Str.glued g ys)
  unfold PySem.Builtin.Str.glued
  refine go _ _ (fun y hy => h y (List.mem_of_mem_drop hy)) fun c hc => ?_
  cases ys with
  | nil => simp [Str.empty] at hc
  | cons y ys => exact h y (List.mem_cons_self ..) c hc
theorem joinLen (g : Str) : ∀ ys : List Str, (Txt.join g ys).length ≤ (ys.map (·.length)).sum + ys.length * g.length := by
  intro ys
  have go : ∀ (l : List Str) (acc : Array Nat), (l.foldl (fun acc p => acc ++ g.cps ++ p.cps) acc).size = acc.size + (l.map (·.length)).sum + l.length * g.length := by
    intro l
    induction l with
    | nil => intro acc; simp
    | cons y l ih =>
      intro acc
      rw [List.foldl_cons, ih, Array.size_append, Array.size_append, List.map_cons, List.sum_cons, List.length_cons, Nat.add_mul]
      have e1 : y.cps.size = y.length := rfl
      have e2 : g.cps.size = g.length := rfl
      rw [e1, e2]
      omega
  show (PySem.Builtin.Str.glued g ys).length ≤ _
  show (PySem.Builtin.Str.glued g ys).cps.size ≤ _
  unfold PySem.Builtin.Str.glued
  rw [go]
  cases ys with
  | nil => simp [Str.empty]
  | cons y ys =>
    have e1 : y.cps.size = y.length := rfl
    simp only [List.headD_cons, List.drop_succ_cons, List.drop_zero, List.map_cons, List.sum_cons, List.length_cons, Nat.add_mul, e1]
    omega
/-- an odd value, with what it shows -/
inductive Od (a : Addr) (S : Sto) : D → PyData → Prop
  | non : Od a S .non .none
  | bl (b : Bool) : Od a S (.bl b) (.bool b)
  | int {i : Int} : Sm i → Od a S (.int i) (.int i)
  | str {x : Str} : Tx x → x.length ≤ 5000 → Od a S (.str x) (.str x)
  | nil : Od a S (.tup []) (.tuple [])
  | ls {p : Addr} : p ≠ a → S p = some (.lst []) → Od a S (.ref p) (.list [])
  | dc {p : Addr} : p ≠ a → S p = some (.ho (.dK [])) → Od a S (.ref p) (.dict [])
inductive GD (a : Addr) (S : Sto) : D → Prop
  | odd {d : D} {p : PyData} : Od a S d p → GD a S d
  | mix {as bs : List Int} {d : D} {p : PyData} : (∀ i ∈ as, Sm i) → (∀ i ∈ bs, Sm i) → Od a S d p → as.length + bs.length ≤ 400 → GD a S (.tup (as.map D.int ++ [d] ++ bs.map D.int))
  | il {ns : List Int} : (∀ i ∈ ns, Sm i) → ns.length ≤ 401 → GD a S (tupI ns)
  | lst {p : Addr} {ns : List Int} : p ≠ a → S p = some (.lst (ns.map D.int)) → (∀ i ∈ ns, Sm i) → ns.length ≤ 401 → GD a S (.ref p)
  | tt {ns : List Int} : (∀ i ∈ ns, Sm i) → ns.length ≤ 401 → GD a S (.tup [tupI ns])
def Keep (a : Addr) (S S' : Sto) : Prop := ∀ c o, c ≠ a → S c = some o → S' c = some o
theorem Od.mono {a : Addr} {S S' : Sto} (k : Keep a S S') {d : D} {p : PyData} (h : Od a S d p) : Od a S' d p := by
  cases h with
  | non => exact .non
  | bl b => exact .bl b
  | int h => exact .int h
  | str h g => exact .str h g
  | nil => exact .nil
  | ls n h => exact .ls n (k _ _ n h)
  | dc n h => exact .dc n (k _ _ n h)
theorem GD.mono {a : Addr} {S S' : Sto} (k : Keep a S S') {d : D} (h : GD a S d) : GD a S' d := by
  cases h with
  | odd h => exact .odd (h.mono k)
  | mix h1 h2 h3 h4 => exact .mix h1 h2 (h3.mono k) h4
  | il h g => exact .il h g
  | lst n h1 h2 h3 => exact .lst n (k _ _ n h1) h2 h3
  | tt h g => exact .tt h g
theorem Od.kind {a : Addr} {S : Sto} {d : D} {p : PyData} (h : Od a S d p) : (kindD S d).isSome = true ∧ (d = .tup [] ∨ isTup d = false) := by
  cases h with
  | non => exact ⟨rfl, .inr rfl⟩
  | bl b => exact ⟨rfl, .inr rfl⟩
  | int h => exact ⟨rfl, .inr rfl⟩
  | str h => exact ⟨rfl, .inr rfl⟩
  | nil => exact ⟨rfl, .inl rfl⟩
  | ls n h => exact ⟨by simp only [kindD, h]; rfl, .inr rfl⟩
  | dc n h => exact ⟨by simp only [kindD, h]; rfl, .inr rfl⟩
theorem GD.kn {a : Addr} {S : Sto} {d : D} (h : GD a S d) : Kn S d := by
  cases h with
  | odd h =>
    obtain ⟨h1, h2⟩ := h.kind
    refine ⟨h1, fun xs e => ?_⟩
    rcases h2 with q | q
    · rw [q] at e; cases e; exact ⟨Nat.zero_le _, fun y hy => nomatch hy⟩
    · rw [e] at q; simp [isTup] at q
  | mix h1 h2 h3 h4 =>
    refine ⟨rfl, fun xs e => ?_⟩
    cases e
    refine ⟨by simp; omega, fun y hy => ?_⟩
    rcases List.mem_append.mp hy with q | q
    · rcases List.mem_append.mp q with q | q
      · obtain ⟨n, _, rfl⟩ := mem_ints q; rfl
      · rw [List.mem_singleton.mp q]; exact h3.kind.1
    · obtain ⟨n, _, rfl⟩ := mem_ints q; rfl
  | il h g => exact kn_ints (by omega)
  | lst n h1 h2 h3 => exact ⟨by simp only [kindD, h1]; rfl, fun xs e => nomatch e⟩
  | tt h g =>
    refine ⟨rfl, fun xs e => ?_⟩
    cases e
    exact ⟨by simp, fun y hy => by rw [List.mem_singleton.mp hy]; rfl⟩
theorem pyl_ints {S : Sto} : ∀ ns : List Int, PyL S (ns.map D.int) (ns.map PyData.int)
  | [] => .nil
  | n :: ns => .cons (.int n) (pyl_ints ns)
theorem pydl_ints {S : Sto} : ∀ ns : List Int, PyDL S (ns.map D.int) (ns.map PyData.int)
  | [] => .nil
  | n :: ns => .cons (.int n) (pydl_ints ns)
theorem PyL.append {S : Sto} : ∀ {xs ys : List D} {ps qs : List PyData}, PyL S xs ps → PyL S ys qs → PyL S (xs ++ ys) (ps ++ qs)
  | [], _, [], _, _, g => g
  | x :: xs, ys, p :: ps, qs, .cons h t, g => .cons h (PyL.append t g)
theorem PyDL.append {S : Sto} : ∀ {xs ys : List D} {ps qs : List PyData}, PyDL S xs ps → PyDL S ys qs → PyDL S (xs ++ ys) (ps ++ qs)
  | [], _, [], _, _, g => g
  | x :: xs, ys, p :: ps, qs, .cons h t, g => .cons h (PyDL.append t g)
theorem Od.py {a : Addr} {S : Sto} {d : D} {p : PyData} (h : Od a S d p) : ((Py S d p ∧ p.hasDict = false) ∨ PyD S d p) ∧ RepOk 1 5000 p := by
  cases h with
  | non => exact ⟨.inr .non, rep_non.mono (by omega) (by omega)⟩
  | bl b => exact ⟨.inr (.bl b), rep_bl.mono (by omega) (by omega)⟩
  | int h => exact ⟨.inr (.int _), (rep_int h).mono (by omega) (by omega)⟩
  | str h g => exact ⟨.inr (.str _), (rep_str h).mono (by omega) g⟩
  | nil => exact ⟨.inr (.tup .nil), (rep_tup (ps := []) (d := 0) (W := 0) fun p hp => nomatch hp).mono (by omega) (by simp)⟩
  | ls n h => exact ⟨.inl ⟨.lst h .nil, rfl⟩, (rep_lst (ps := []) (d := 0) (W := 0) fun p hp => nomatch hp).mono (by omega) (by simp)⟩
  | dc n h => exact ⟨.inr (.dk0 h), ⟨by simp [PyData.showable, PyData.showableKv], by simp [PyData.depth, PyData.depthKv], by simp [PyData.leavesShort, PyData.leavesShortKv], by simp [PyData.weight, PyData.weightKv]⟩⟩
theorem noDict_ints : ∀ ns : List Int, PyData.hasDictAll (ns.map PyData.int) = false
  | [] => rfl
  | n :: ns => by simp only [List.map_cons, PyData.hasDictAll, PyData.hasDict, noDict_ints ns, Bool.or_self]
theorem noDict_app : ∀ ps qs : List PyData, PyData.hasDictAll (ps ++ qs) = (PyData.hasDictAll ps || PyData.hasDictAll qs)
  | [], qs => by simp [PyData.hasDictAll]
  | p :: ps, qs => by simp only [List.cons_append, PyData.hasDictAll, noDict_app ps qs, Bool.or_assoc]
theorem rep_ints {ns : List Int} (h : ∀ i ∈ ns, Sm i) : ∀ p ∈ ns.map PyData.int, RepOk 0 70 p := fun p hp => by
  obtain ⟨n, hn, rfl⟩ := List.mem_map.mp hp
  exact rep_int (h n hn)
theorem GD.show {a : Addr} {S : Sto} {d : D} (h : GD a S d) : ∃ p, ShP S d p ∧ p.showable = true ∧ p.depth ≤ 30 ∧ p.shown.length ≤ sizeLine := by
  have go : ∃ p, ShP S d p ∧ RepOk 30 600000 p := by
    cases h with
    | odd h =>
      obtain ⟨h1, h2⟩ := h.py
      exact ⟨_, h1, h2.mono (by omega) (by omega)⟩
    | @mix as bs x p h1 h2 h3 h4 =>
      obtain ⟨g1, g2⟩ := h3.py
      have tot : (∀ (w : Nat), True) := fun _ => trivial
      have wa := rep_all (rep_ints h1)
      have wb := rep_all (rep_ints h2)
      refine ⟨.tuple (as.map .int ++ [p] ++ bs.map .int), ?_, ?_⟩
      · rcases g1 with ⟨g1, nd⟩ | g1
        · refine .inl ⟨.tup (((pyl_ints as).append (.cons g1 .nil)).append (pyl_ints bs)), ?_⟩
          show PyData.hasDictAll _ = false
          rw [noDict_app, noDict_app, noDict_ints, noDict_ints]
          simp only [PyData.hasDictAll, nd, Bool.or_self]
        · exact .inr (.tup (((pydl_ints as).append (.cons g1 .nil)).append (pydl_ints bs)))
      · have w3 : PyData.weightAll (as.map .int ++ [p] ++ bs.map .int) ≤ 600000 := by
          have app : ∀ ps qs : List PyData, PyData.weightAll (ps ++ qs) = PyData.weightAll ps + PyData.weightAll qs := by
            intro ps qs
            induction ps with
            | nil => simp [PyData.weightAll]
            | cons x ps ih => simp only [List.cons_append, PyData.weightAll, ih]; omega
          rw [app, app]
          have e1 : PyData.weightAll [p] = p.weight + 1 := by simp [PyData.weightAll]
          have := wa.2.2.2
          have := wb.2.2.2
          have := g2.wt
          rw [List.length_map] at *
          omega
        have all : ∀ q ∈ as.map PyData.int ++ [p] ++ bs.map PyData.int, RepOk 1 5000 q := by
          intro q hq
          rcases List.mem_append.mp hq with z | z
          · rcases List.mem_append.mp z with z | z
            · exact (rep_ints h1 q z).mono (by omega) (by omega)
            · rw [List.mem_singleton.mp z]; exact g2
          · exact (rep_ints h2 q z).mono (by omega) (by omega)
        have t := rep_tup all
        exact ⟨t.sh, Nat.le_trans t.dp (by omega), t.lv, by simpa only [PyData.weight] using w3⟩
    | @il ns h g => exact ⟨.tuple (ns.map .int), .inr (.tup (pydl_ints ns)), (rep_tup (rep_ints h)).mono (by omega) (by rw [List.length_map]; omega)⟩
    | @lst p ns n h1 h2 h3 => exact ⟨.list (ns.map .int), .inl ⟨.lst h1 (pyl_ints ns), noDict_ints ns⟩, (rep_lst (rep_ints h2)).mono (by omega) (by rw [List.length_map]; omega)⟩
    | @tt ns h g =>
      have t1 : RepOk 1 40000 (.tuple (ns.map .int)) := (rep_tup (rep_ints h)).mono (by omega) (by rw [List.length_map]; omega)
      exact ⟨.tuple [.tuple (ns.map .int)], .inr (.tup (.cons (.tup (pydl_ints ns)) .nil)), (rep_tup (ps := [.tuple (ns.map .int)]) (d := 1) (W := 40000) fun q hq => by rw [List.mem_singleton.mp hq]; exact t1).mono (by omega) (by simp)⟩
  obtain ⟨p, h1, h2⟩ := go
  exact ⟨p, h1, h2.fits (by omega)⟩
def c_law_is_car : Cn := c_is_car
def c_law_due : Cn := fun ds S k _ => ∃ x, ds = [x] ∧ Kn S x ∧ ∀ p S', Sub S S' → S' p = none → k (.ref p) (S'.upd p (.lst [.bl (isLaneD x), .bl (areCallsD x)]))
def c_law_others : Cn := fun ds S k _ => ∃ a b row, ds = [.ref a, tupI row] ∧ S a = some (.lst b) ∧ BagV b ∧ (∀ i ∈ row, Car i) ∧ row.length ≤ 200 ∧
  ∀ b' xs S' p, BagV b' → Ex a S b' S' → (∀ x ∈ xs, GD a S' x) → xs.length ≤ 100 → S' p = none → k (.ref p) (S'.upd p (.lst xs))
end DL
namespace DL
open PySem PySem.Spec PyProof.Rows L2
theorem sl_tup {xs : List D} {lo hi : Option Int} {S : Sto} {k : RK} (q : k (.tup (cutD xs lo hi)) S) : slD (.tup xs) lo hi S k := q
theorem keep_new {a p : Addr} {S : Sto} {o : O} (h : S p = none) : Keep a S (S.upd p o) := fun c u n e => by
  rw [Sto.upd_ne]
  · exact e
  · intro z; rw [z, h] at e; cases e
theorem old_new {p c : Addr} {S : Sto} {o u : O} (h : S p = none) (e : S c = some u) : (S.upd p o) c = some u := by
  rw [Sto.upd_ne]
  · exact e
  · intro z; rw [z, h] at e; cases e
theorem list_at {d : D} {xs : List D} {S : Sto} {k : RK} (h : seqOf S d = some xs) (q : ∀ p, S p = none → k (.ref p) (S.upd p (.lst xs))) : listD [d] S k := ⟨xs, h, q⟩
theorem atI_in {xs : List D} {i : Int} (h0 : 0 ≤ i) (h1 : i < (xs.length : Nat)) : ∃ d ∈ xs, atI xs i = some d := by
  have hj : i.toNat < xs.length := by omega
  have e : ((i.toNat : Nat) : Int) = i := by omega
  have t : atI xs ((i.toNat : Nat) : Int) = some xs[i.toNat] := atI_nat (List.getElem?_eq_getElem hj)
  rw [e] at t
  exact ⟨xs[i.toNat], List.getElem_mem hj, t⟩
end DL
namespace DL
open PySem PySem.Spec PyProof.Rows L2
theorem txt_sm {i : Int} (h : Sm i) : (Str.ofString (toString i)).length ≤ 22 := by
  have e := int_text_length_le10 (k := 21) (by decide) h
  rw [PySem.ofString_length]; exact e
theorem sum_txt : ∀ {ys : List Str}, (∀ y ∈ ys, y.length ≤ 22) → (ys.map (·.length)).sum ≤ ys.length * 22
  | [], _ => Nat.zero_le _
  | y :: ys, h => by
    have := sum_txt (ys := ys) fun z hz => h z (List.mem_cons_of_mem _ hz)
    have := h y (List.mem_cons_self ..)
    rw [List.map_cons, List.sum_cons, List.length_cons, Nat.add_mul]; omega
theorem rep_flat (x : Int) : ∀ n : Nat, (List.replicate n [D.int x]).flatten = (List.replicate n x).map D.int
  | 0 => rfl
  | n + 1 => by rw [List.replicate_succ, List.replicate_succ, List.flatten_cons, List.map_cons, rep_flat x n]; rfl
theorem mul_tup {xs : List D} {j : Int} {S : Sto} {k : RK} (h0 : xs ≠ []) (h1 : 2 ≤ j) (h2 : j ≤ 1000) (h3 : xs.length ≤ 1000) (q : k (.tup (List.replicate j.toNat xs).flatten) S) : mulD (.tup xs) (.int j) S k := ⟨h0, h1, h2, h3, q⟩
theorem str_at {i : Int} {S : Sto} {k : RK} (h : Sm i) (q : k (.str (Str.ofString (toString i))) S) : strD [.int i] S k := by
  refine ⟨?_, q⟩
  unfold Sm at h
  by_cases z : i.natAbs = 0
  · rw [z]; decide
  · exact Nat.lt_trans ((Nat.log2_lt z).mpr (Nat.lt_trans h (show 10 ^ 21 < 2 ^ 70 by decide))) (by decide)
theorem rng_sm {n : Nat} (h : n ≤ 1000) : ∀ i ∈ (List.range n).map (fun i : Nat => (i : Int)), Sm i := fun i hi => by
  obtain ⟨j, hj, rfl⟩ := List.mem_map.mp hi
  have := List.mem_range.mp hj
  unfold Sm; omega
theorem gd_rng {a : Addr} {S : Sto} {n : Nat} (h : n ≤ 400) : GD a S (.tup (rngD 0 n)) := by
  rw [rngD_ints]
  exact .il (rng_sm (by omega)) (by simp; omega)
theorem gd_rep {a : Addr} {S : Sto} {n : Nat} (h : n ≤ 400) : GD a S (.tup (List.replicate n [D.int 0]).flatten) := by
  rw [rep_flat]
  exact .il (fun i hi => by rw [(List.mem_replicate.mp hi).2]; unfold Sm; decide) (by simp; omega)
theorem gd_few {a : Addr} {S : Sto} {ns : List Int} (h : ∀ i ∈ ns, Sm i) (l : ns.length ≤ 401) : GD a S (.tup (ns.map D.int)) := .il h l
end DL
namespace DL
open PySem PySem.Spec PyProof.Rows L2
theorem filt_all : ∀ xs : List D, (xs.filter fun y => !isCar y).isEmpty = xs.all isCar
  | [] => rfl
  | y :: ys => by
    rw [List.filter_cons, List.all_cons, ← filt_all ys]
    cases h : isCar y <;> simp
end DL
namespace DL
open PySem PySem.Spec PyProof.Rows L2
mutual
theorem Py.sub {S S' : Sto} (k : Sub S S') : ∀ (p : PyData) (d : D), Py S d p → Py S' d p
  | _, _, .non => .non
  | _, _, .bl b => .bl b
  | _, _, .int i => .int i
  | _, _, .str x => .str x
  | .tuple ps, _, .tup (xs := xs) l => .tup (PyL.sub k ps xs l)
  | .list ps, _, .lis (xs := xs) l => .lis (PyL.sub k ps xs l)
  | .list ps, _, .lst (xs := xs) e l => .lst (k _ _ e) (PyL.sub k ps xs l)
theorem PyL.sub {S S' : Sto} (k : Sub S S') : ∀ (ps : List PyData) (ds : List D), PyL S ds ps → PyL S' ds ps
  | _, _, .nil => .nil
  | p :: ps, d :: ds, .cons h t => .cons (Py.sub k p d h) (PyL.sub k ps ds t)
end
mutual
theorem PyD.sub {S S' : Sto} (k : Sub S S') : ∀ (p : PyData) (d : D), PyD S d p → PyD S' d p
  | _, _, .non => .non
  | _, _, .bl b => .bl b
  | _, _, .int i => .int i
  | _, _, .str x => .str x
  | .tuple ps, _, .tup (xs := xs) l => .tup (PyDL.sub k ps xs l)
  | _, _, .dk0 e => .dk0 (k _ _ e)
  | _, _, .dic (ds := ds) (ps := ps) l => .dic (PyDL.sub k ps ds l)
  | _, _, .dct (m := m) (ps := ps) e l => .dct (k _ _ e) (PyDL.sub k ps (m.map (·.2)) l)
  | _, _, .dcm e => .dcm (k _ _ e)
theorem PyDL.sub {S S' : Sto} (k : Sub S S') : ∀ (ps : List PyData) (ds : List D), PyDL S ds ps → PyDL S' ds ps
  | _, _, .nil => .nil
  | p :: ps, d :: ds, .cons h t => .cons (PyD.sub k p d h) (PyDL.sub k ps ds t)
end
theorem ShP.sub {S S' : Sto} (k : Sub S S') {d : D} {p : PyData} (h : ShP S d p) : ShP S' d p := by
  rcases h with ⟨h, e⟩ | h
  · exact .inl ⟨h.sub k, e⟩
  · exact .inr (h.sub k)
theorem Sub.keep {a : Addr} {S S' : Sto} (k : Sub S S') : Keep a S S' := fun c o _ e => k c o e
theorem kn_sub {a : Addr} {S S' : Sto} (k : Sub S S') {d : D} (h : GD a S d) : Kn S' d := (h.mono k.keep).kn
theorem repr_at {d : D} {S : Sto} {k : RK} {p : PyData} (h : ShP S d p) (s : p.showable = true ∧ p.depth ≤ 30 ∧ p.shown.length ≤ sizeLine) (q : k (.str p.shown) S) : reprD [d] S k := ⟨p, h, s.1, s.2.1, s.2.2, q⟩
theorem ne_str {neg : Bool} {x y : Str} {S : Sto} {k : RK} (q : k (.bl (neg ^^ decide (x = y))) S) : eqD neg (.str x) (.str y) S k := q
theorem sh_bls {S : Sto} {p : Addr} {bs : List Bool} (h : S p = some (.lst (bs.map D.bl))) : ShP S (.ref p) (.list (bs.map PyData.bool)) := by
  have go : ∀ bs : List Bool, PyL S (bs.map D.bl) (bs.map PyData.bool) := fun bs => by
    induction bs with
    | nil => exact .nil
    | cons b bs ih => exact .cons (.bl b) ih
  have nd : ∀ bs : List Bool, PyData.hasDictAll (bs.map PyData.bool) = false := fun bs => by
    induction bs with
    | nil => rfl
    | cons b bs ih => simp only [List.map_cons, PyData.hasDictAll, PyData.hasDict, ih, Bool.or_self]
  exact .inl ⟨.lst h (go bs), nd bs⟩
theorem fit_bls {bs : List Bool} (h : bs.length ≤ 100) : (PyData.list (bs.map PyData.bool)).showable = true ∧ (PyData.list (bs.map PyData.bool)).depth ≤ 30 ∧ (PyData.list (bs.map PyData.bool)).shown.length ≤ sizeLine :=
  ((rep_lst (ps := bs.map PyData.bool) (d := 0) (W := 0) fun p hp => by obtain ⟨b, _, rfl⟩ := List.mem_map.mp hp; exact rep_bl).mono (e := 30) (V := 600000) (by omega) (by rw [List.length_map]; omega)).fits (by omega)
theorem sh_tupI {S : Sto} {ns : List Int} : ShP S (tupI ns) (.tuple (ns.map PyData.int)) := .inr (.tup (pydl_ints ns))
theorem fit_tupI {ns : List Int} (h : ∀ i ∈ ns, Sm i) (l : ns.length ≤ 401) : (PyData.tuple (ns.map PyData.int)).showable = true ∧ (PyData.tuple (ns.map PyData.int)).depth ≤ 30 ∧ (PyData.tuple (ns.map PyData.int)).shown.length ≤ sizeLine :=
  ((rep_tup (rep_ints h)).mono (e := 30) (V := 600000) (by omega) (by rw [List.length_map]; omega)).fits (by omega)
theorem nodup_take : ∀ {ns : List Int}, ns.Nodup ↔ ∀ i, i < ns.length → ns.getD i 0 ∉ ns.take i := by
  intro ns
  constructor
  · intro h i hi hm
    obtain ⟨j, hj, e⟩ := List.mem_take_iff_getElem.mp hm
    rw [List.getD, List.getElem?_eq_getElem hi] at e
    have := (List.getElem_inj (h₀ := by omega) (h₁ := hi) h).mp e
    omega
  · intro h
    rw [List.nodup_iff_pairwise_ne, List.pairwise_iff_getElem]
    intro i j hi hj hij e
    refine h j hj ?_
    rw [List.getD, List.getElem?_eq_getElem hj, Option.getD_some, ← e]
    exact List.mem_take_iff_getElem.mpr ⟨i, by omega, rfl⟩
def c_law : Cn := fun ds S k _ => ∃ ns : List Int, ds = [.lis (ns.map D.int)] ∧ ns.length ≤ 63 ∧ k (.bl true) S
end DL
namespace DL
open PySem PySem.Spec PyProof.Rows L2
section
variable {K : PySem.W.Frag}
theorem mkFnG {P : Program} {w : World} {mg : Str → Option Value} {base : Heap} {k : Nat} {x : Str} {st : Stmt} {N ps : List Str} {C : Cn} {f : Addr} {fd : FuncData} (F : Fun K x x st f fd) (Sc : FnScope N ps (defScope st)) (n : Nat) (hn : ps.length = n)
    (r : RTs) (hd : ∀ (cdv : Value) (A : Around) (outer : List Env) (s : Shared) (H : Hp) (E : XK) (f : Addr), RoomG k (A.deeper (envOfC x (defScope st) s.heap.objs.size f cdv)) → RSs (cxOf CX0 P w K mg base N x (defScope st) f cdv A outer s H E).nox (defBody st) r)
    (hs : ∀ ds S kk, ds.length = n → C ds S kk noX → r (endOf kk) (DL.envOf N ds) S) (hx : ∀ ds S kk ek, C ds S kk ek → C ds S kk noX) : FnG P w K mg base CX0 (k + 1) f fd ps (spD K n C) := by
  refine fnG_of F Sc (fun vs H Q E ⟨ds, S, kk, ek, hl, r, _⟩ => by rw [← r.length, hl, hn]) (fun cdv A outer s H vs Q E hr ⟨ds, S, kk, ek, hl, rl, hS, q, cl, cx⟩ => ?_)
  refine ⟨_, PSs.nox (hd cdv A outer s H E f hr), DL.envOf N ds, S, endOf kk, ?_, hS, hs ds S kk hl (hx _ _ _ _ q), ⟨fun env' S' σ' H' ⟨S2, sb, q'⟩ st' hE' hS' => ?_, fun d S' v H' ⟨S2, sb, q'⟩ st' r' hS' => ?_, fun _ _ _ _ z => z.elim, fun _ _ _ _ z => z.elim⟩⟩
  · unfold DL.envOf L2.start
    rw [rl.length]
    exact absE_start rl
  · exact cl _ _ _ _ q' (st'.sub sb) .non (hS'.sub sb)
  · exact cl _ _ _ _ q' (st'.sub sb) r' (hS'.sub sb)
theorem def_at {h : Heap} {mg : Str → Option Value} {x : Str} {st : Stmt} {ps : List Str} {f : Addr} {oc : Value} {od an : Option Addr} {osl : Array (Option Value)} {kV doc pm cdv ct : Value} (X : K.In h) (G : h.Ns mainGlobals mg)
    (a : PySem.W.nsIn K mainGlobals x = some (some (.ref f))) (l : K.lookup f = some ⟨oc, od, .func (PySem.W.fnOf x x (defArgs st) (defBody st) (defScope st) .none kV doc pm an cdv ct), osl⟩) (c : PySem.W.codeIn K cdv x = true) (k : PySem.W.keepIn K (.ref f) = true)
    (hb : ∀ (kV doc pm : Value) (an : Option Addr) (cdv ct : Value) (us : List Value), us.length = ps.length → bindArgs (PySem.W.fnOf x x (defArgs st) (defBody st) (defScope st) .none kV doc pm an cdv ct) ⟨us, []⟩ = pure (ps.zip us)) : DefAt K mg x st ps :=
  ⟨f, _, fun_mk l c k, PySem.W.mg_of X G a, (fun_mk l c k).binds hb⟩
end
end DL
/-! dicts with keys None or ints, as data -/
namespace DL
open PySem PySem.Spec PyProof.Rows L2
def ckD : Ck → D
  | none => .non
  | some i => .int i
section
variable {K : PySem.W.Frag} {H : Hp}
theorem ck_of {c : Ck} {v : V} (r : Rp K H (ckD c) v) : v = ckV c := by
  cases c with
  | none => exact r.non_
  | some i => exact r.int_
theorem ck_rp (c : Ck) : Rp K H (ckD c) (ckV c) := by
  cases c with
  | none => exact .non
  | some i => exact .int
theorem ckD_inj {a b : Ck} (e : ckD a = ckD b) : a = b := by
  cases a <;> cases b <;> first | rfl | (cases e; rfl) | cases e
end
section
variable {X : Cx}
theorem dk_it {J : It} {n : Nat} {Gh : Hp → Prop} {Y : Nat → Hp → V → Hp → Prop} {g : TG} {tt : TT} {tk tv : TE} {vs : List Nat} {σ : L2.St} {D : Addr} {H1 : Hp} {Qd : Hp → Prop} (wk : Walk J n Gh Y) (Pv : Nat → Hp → Prop) (p0 : Pv 0 (L2.upd H1 D (dkO D [])))
    (pg : ∀ i H, i ≤ n → Pv i H → Gh H) (step : ∀ i x H H', i < n → Pv i H → Y i H x H' → turnK g tt tk tv vs σ D (Pv (i + 1)) x H') (fin : ∀ H, Pv n H → Qd H) :
    ∃ W : Nat → Nat → Hp → Prop, (∃ m, W 0 m (L2.upd H1 D (dkO D []))) ∧
      ∀ i m H, W i m H → (J.stop i H ∧ Qd H) ∨ (J.go i H ∧ ∃ Nx : Hp → Prop, (∀ H', Nx H' → ∃ m', m' < m ∧ W (i + 1) m' H') ∧ ∀ x H', J.yld i H x H' → turnK g tt tk tv vs σ D Nx x H') := by
  refine ⟨fun i m H => m = n - i ∧ i ≤ n ∧ Pv i H, ⟨n, by simp, Nat.zero_le _, p0⟩, ?_⟩
  rintro i m H ⟨rfl, hi, p⟩
  have gh := pg i H hi p
  rcases Nat.lt_or_eq_of_le hi with lt | rfl
  · exact .inr ⟨wk.goes i H lt gh, Pv (i + 1), fun H' p' => ⟨n - (i + 1), by omega, rfl, lt, p'⟩, fun x H' y => step i x H H' lt p (wk.yields i H x H' lt gh y)⟩
  · exact .inl ⟨wk.stops H gh, fin H p⟩
/-- locked when it has come -/
def tLk (t : TE) : TE := fun σ H Q => t σ H fun v H1 => ∃ d u, v = .ref d ∧ H1 d = some u ∧ Mut (some u) ∧ ∀ od, Q v (L2.upd H1 d (.frz od u))
theorem pe_lk {e : Expr} {t : TE} (h : PE X e t) : PE X e (tLk t) := by
  refine ⟨fun pins s σ H Q I q => thn (h.run pins s σ H _ I q) fun u s1 ⟨v, H1, I1, r, d, o, e1, e2, mu, q1⟩ => ?_⟩
  obtain ⟨od, I2⟩ := I1.lock e2 mu
  exact ⟨v, _, I2, r, q1 od⟩
def rDk (ri : RTi) (g : RTg) (tt : RTt) (rk rv : RT) (vs : List Nat) : RT := fun env S k => ri env S fun items G S1 => ∃ I : Nat → List Ck → List D → Sto → Prop, I 0 [] [] S1 ∧ (∀ i ks ds S, i ≤ items.length → I i ks ds S → G S) ∧
  (∀ i x ks ds S, items[i]? = some x → I i ks ds S → g x (wipeE env vs) S fun env2 S2 => tt env2 S2 fun b S3 => if b = true then rk env2 S3 fun y S4 => rv env2 S4 fun d S5 => ∃ c, y = ckD c ∧ c ∉ ks ∧ ks.length < sizeLine ∧ ∃ S6, Sub S6 S5 ∧ I (i + 1) (ks ++ [c]) (ds ++ [d]) S6 else ∃ S5, Sub S5 S3 ∧ I (i + 1) ks ds S5) ∧
  ∀ ks ds S, I items.length ks ds S → k (.dic ks ds) S
theorem val_new {kvs : List (Ck × V)} {c : Ck} (h : c ∉ kvs.map (·.1)) : valV kvs c = none := by
  have := valV_any c kvs
  cases q : valV kvs c with
  | none => rfl
  | some v =>
    rw [q] at this
    replace this : (kvs.any fun kv => decide (kv.fst = c)) = true := this
    rw [List.any_eq_true] at this
    obtain ⟨p, hp, e⟩ := this
    exact absurd (List.mem_map.mpr ⟨p, hp, of_decide_eq_true e⟩) h
theorem dk_go {σ : L2.St} {Q : VK} {is : List Nat} {ri : RTi} {g : RTg} {tt : RTt} {rk rv : RT} (h : tR X.K (rDk ri g tt rk rv is) σ H Q) : tLk (tDk (tI X.K ri) (tG X.K is g) (tT X.K tt) (tR X.K rk) (tR X.K rv) is) σ H Q := by
  obtain ⟨env, S, k, hE, hS, q, cl⟩ := h
  refine ⟨env, S, _, hE, hS, q, fun items G S1 J H1 ⟨I, i0, iG, go, fin⟩ st1 hS1 w D hD => ?_⟩
  obtain ⟨Gh, Y, wk, hG, hY⟩ := w
  refine dk_it wk (fun i H' => ∃ ks ds S' us, H' D = some (dkO D (ks.zip us)) ∧ ks.length = us.length ∧ RpL X.K H' ds us ∧ S' D = none ∧ AbsS X.K S' H' ∧ Stp H1 S1 H' S' ∧ I i ks ds S')
    ⟨[], [], S1, [], L2.upd_same, rfl, .nil, hS1.free hD, hS1.laid0 hD, Stp.laid0 hD, i0⟩ ?_ ?_ ?_
  · rintro i H' hi' ⟨ks, ds, S', us, hd, ll, rl, fr, hS', st', q'⟩
    exact hG S' H' (st'.mon hS1) hS' (iG i ks ds S' hi' q')
  · rintro i x H' H2 hi' ⟨ks, ds, S', us, hd, ll, rl, fr, hS', st', q'⟩ y
    obtain ⟨d, e, hd'⟩ := hY i H' x H2 hi' (hG S' H' (st'.mon hS1) hS' (iG i ks ds S' (Nat.le_of_lt hi') q')) y
    obtain ⟨rd, st2, hS2⟩ := hd' S' (st'.mon hS1) hS'
    have hE2 : AbsE X.K H2 env σ := ((hE.mon (st1.mon hS)).mon (st'.mon hS1)).mon (st2.mon hS')
    refine ⟨d, wipeE env is, S', _, rd, hE2.wipe is, hS2, go i d ks ds S' e q', fun env3 S3 σ3 H3 q3 st3 hE3 hS3 o3 => ?_⟩
    refine ⟨?_, ?_⟩
    · have z := wipe_eq_of is (L2.wipe σ is) σ3 o3.1 o3.2
      rw [z]
      exact wipe_eq_of is σ (L2.wipe σ is) (L2.wipe_length _ _) fun j hj => L2.wipe_out hj
    · refine ⟨env3, S3, _, hE3, hS3, q3, fun b S4 H4 q4 st4 hS4 => ?_⟩
      have sA : Stp H' S' H4 S4 := (st2.trans st3).trans st4
      dsimp only
      by_cases h : b = true
      · rw [if_pos h] at q4 ⊢
        refine ⟨env3, S4, _, hE3.mon (st4.mon hS3), hS4, q4, fun yk S5 v H5 q5 st5 r5 hS5 => ?_⟩
        refine ⟨env3, S5, _, (hE3.mon (st4.mon hS3)).mon (st5.mon hS4), hS5, q5, fun yd S6 v6 H6 q6 st6 r6 hS6 => ?_⟩
        obtain ⟨c, rfl, nc, hl, S7, sb, i7⟩ := q6
        have sB : Stp H' S' H6 S6 := (sA.trans st5).trans st6
        have at6 : H6 D = some (dkO D (ks.zip us)) := (sB _ _ hd fr).1
        have rl6 : RpL X.K H6 ds us := rl.mon (sB.mon hS')
        have kz : (ks.zip us).map (·.1) = ks := List.map_fst_zip (by omega)
        refine ⟨ks.zip us, c, ck_of (r5.mon (st6.mon hS5)), at6, ?_, ?_⟩
        · rw [List.length_zip]; omega
        · rw [putK_new v6 (val_new (by rw [kz]; exact nc))]
          have ez : ks.zip us ++ [(c, v6)] = (ks ++ [c]).zip (us ++ [v6]) := by
            rw [List.zip_append ll]; rfl
          rw [ez]
          refine ⟨ks ++ [c], ds ++ [yd], S7, us ++ [v6], L2.upd_same, by simp [ll], ?_, ?_, ?_, ?_, i7⟩
          · exact (rl6.append (.cons r6 .nil)).mon (Mon.write at6 True.intro)
          · exact sb.free (sB _ _ hd fr).2
          · exact fun a o ea => by
              have ha := sb a o ea
              obtain ⟨u, e1, m1, r1⟩ := hS6 a o ha
              have ne : a ≠ D := by intro z; rw [z, (sB _ _ hd fr).2] at ha; cases ha
              exact ⟨u, by rw [L2.upd_ne ne]; exact e1, m1, r1.mon (Mon.write at6 True.intro)⟩
          · exact fun a o ea en => by
              have ne : a ≠ D := by intro z; rw [z, hD] at ea; cases ea
              obtain ⟨z1, z2⟩ := (st'.trans sB) a o ea en
              exact ⟨by rw [L2.upd_ne ne]; exact z1, sb.free z2⟩
      · rw [if_neg h] at q4 ⊢
        obtain ⟨S6, sb, i6⟩ := q4
        exact ⟨ks, ds, S6, us, (sA _ _ hd fr).1, ll, rl.mon (sA.mon hS'), sb.free (sA _ _ hd fr).2, hS4.sub sb, (st'.trans sA).sub sb, i6⟩
  · rintro H' ⟨ks, ds, S', us, hd, ll, rl, fr, hS', st', q'⟩
    refine ⟨D, _, rfl, hd, True.intro, fun od => ?_⟩
    have mo : Mon H' (L2.upd H' D (.frz od (dkO D (ks.zip us)))) := Mon.write hd True.intro
    refine cl _ _ _ _ (fin ks ds S' q') ?_ (.dic L2.upd_same ll (rl.mon mo)) ?_
    · exact fun a o ea en => by
        obtain ⟨z1, z2⟩ := st1 a o ea en
        have ne : a ≠ D := by intro z; rw [z, hD] at z1; cases z1
        obtain ⟨y1, y2⟩ := st' a o z1 z2
        exact ⟨by rw [L2.upd_ne ne]; exact y1, y2⟩
    · exact fun a o ea => by
        have ne : a ≠ D := by intro z; rw [z, fr] at ea; cases ea
        obtain ⟨u, e1, m1, r1⟩ := hS' a o ea
        exact ⟨u, by rw [L2.upd_ne ne]; exact e1, m1, r1.mon mo⟩
theorem re_dk {kx vx tg iter : Expr} {ifs : List Expr} {scope : Scope} {pos : Pos} (own : List (Str × Nat)) {ri : RTi} {g : RTg} {tt : RTt} {rk rv : RT} (hc : X.calm = true) (hN : X.N.Nodup) (hi : RI X tg iter ri) (ok : BlkOk X.N X.env.scope scope own)
    (hg : ∀ (s : Shared) (H : Hp) (C : Addr) (cl : List (Str × Addr)) (fp : List Addr), RG (X.blk s H scope (compEnvC scope cl C X.env) fp) (own.map (·.2)) tg g) (ht : ∀ (s : Shared) (H : Hp) (C : Addr) (cl : List (Str × Addr)) (fp : List Addr), RTs1 (X.blk s H scope (compEnvC scope cl C X.env) fp) ifs tt)
    (hk : ∀ (s : Shared) (H : Hp) (C : Addr) (cl : List (Str × Addr)) (fp : List Addr), RE (X.blk s H scope (compEnvC scope cl C X.env) fp) kx rk)
    (he : ∀ (s : Shared) (H : Hp) (C : Addr) (cl : List (Str × Addr)) (fp : List Addr), RE (X.blk s H scope (compEnvC scope cl C X.env) fp) vx rv) (hs : ∀ x, foldedSetIterable iter X.env x = pure x := by intro _; rfl) :
    RE X (.DictComp kx vx [⟨tg, iter, ifs, 0⟩] scope pos) (rDk ri g tt rk rv (own.map (·.2))) :=
  PE.imp (pe_lk (pe_dk (own := own) (g := tG X.K (own.map fun (x : Str × Nat) => x.2) g) (tt := tT X.K tt) (tk := tR X.K rk) (tv := tR X.K rv) hc hN hi ok hg ht hk he hs)) fun σ H Q h => dk_go h
end
end DL
namespace DL
open PySem PySem.Spec PyProof.Rows L2
/-! ### d[k] -/
def dicAt : List Ck → List D → Ck → Option D
  | k :: ks, d :: ds, c => if k = c then some d else dicAt ks ds c
  | _, _, _ => none
section
variable {X : Cx} {K : PySem.W.Frag} {H : Hp}
theorem dicAt_val : ∀ {ks : List Ck} {ds : List D} {us : List V} {c : Ck} {d : D}, dicAt ks ds c = some d → RpL K H ds us → ∃ v, valV (ks.zip us) c = some v ∧ Rp K H d v
  | [], _, _, _, _, e, _ => by simp [dicAt] at e
  | k :: ks, [], _, _, _, e, _ => by simp [dicAt] at e
  | k :: ks, x :: ds, us, c, d, e, r => by
    obtain ⟨v, r', eu, p, t⟩ := r.cons_of
    subst eu
    unfold dicAt at e
    rw [List.zip_cons_cons]
    by_cases h : k = c
    · rw [if_pos h] at e
      cases e
      exact ⟨v, valV_pos h, p⟩
    · rw [if_neg h] at e
      obtain ⟨v', h1, h2⟩ := dicAt_val e t
      exact ⟨v', by rw [valV_neg h]; exact h1, h2⟩
def rIxDk (K : PySem.W.Frag) : R2 := fun x y H Q => ∃ a o kvs c v, x = .ref a ∧ y = ckV c ∧ H a = some (.frz o (dkO a kvs)) ∧ valV kvs c = some v ∧ Q v H
theorem ix_dic : IxR X (rIxDk X.K) := by
  intro value slice pins s σ H x y v u Q I rx ry h hs
  obtain ⟨a, o, kvs, c, z, rfl, rfl, e, l, q⟩ := h
  obtain rfl : v = Value.ref a := rx
  obtain ⟨_, _, _, vs, _, d⟩ := lk_at I e
  exact tail_any d.typeIs slot_dict_getitem.lookup (lk_get I e ry l fun w' s' I' rw' => ⟨z, H, I', rw', q⟩) hs
def ixDk : F2 := fun x y S k => ∃ ks ds c d, x = .dic ks ds ∧ y = ckD c ∧ dicAt ks ds c = some d ∧ k d S
theorem ixDic : IxD X ixDk := by
  refine ⟨_, ix_dic, fun x y S k v u H Q ⟨ks, ds, c, d, ex, ey, l, q⟩ rx ry hS cl => ?_⟩
  subst ex ey
  obtain ⟨a, o, us, rfl, e, ll, r⟩ := rx.dic_
  obtain ⟨v', h1, h2⟩ := dicAt_val l r
  exact ⟨a, o, _, c, v', rfl, ck_of ry, e, h1, cl _ _ _ _ q Stp.refl h2 hS⟩

/-! ### for k in d -/
def Jk (d : Addr) (o : Obj) (kvs : List (Ck × V)) : It :=
  ⟨fun i H => H d = some (.frz o (dkO d kvs)) ∧ i < kvs.length, fun i H x H' => H' = H ∧ ∃ p, kvs[i]? = some p ∧ x = ckV p.1, fun i H => H d = some (.frz o (dkO d kvs)) ∧ kvs.length ≤ i⟩
theorem lk_raw {pins : List (Addr × Obj)} {σ : L2.St} {s : Shared} {d : Addr} {o : Obj} {kvs : List (Ck × V)} (I : Inv X pins σ H s) (e : H d = some (.frz o (dkO d kvs))) :
    (d == sysModules) = false ∧ s.heap.get? d = some o ∧ o.ExactDict ∧ ∃ (es : Array DictEntry) (ep : Nat) (vs : List (Ck × Value)), o.data = .dict es ep ∧ es.size = kvs.length ∧ KV kvs vs ∧ s.heap.DictAt (caseK X.prog X.w) d vs ep := by
  obtain ⟨g, _, n, vs, r, o', es, ep, g', x, t, ky, pr, nd⟩ := lk_at I e
  rw [g] at g'
  cases g'
  refine ⟨n, g, x, es, ep, vs, t, ?_, r, o, es, g, x, t, ky, pr, nd⟩
  have a := pr.length
  have b : kvs.length = vs.length := Paired.length r
  rw [Array.length_toList] at a
  omega
theorem turn_dk {P : Program} {w : World} {tg : Expr} {d : Addr} {o : Obj} {es : Array DictEntry} {ep : Nat} {kvs : List (Ck × V)} (it : Addr) (hod : o.data = .dict es ep) : Turn P w K tg (Jk d o kvs) [it] it (fun i h => h.IsKeyIter it d i kvs.length ep) where
  mem := List.mem_singleton.mpr rfl
  obj := fun i h st b hb => by
    obtain rfl := List.mem_singleton.mp hb
    obtain ⟨oi, e, _, dd⟩ := st
    exact ⟨oi, e, fun v z => by rw [dd] at z; cases z⟩
  keep := fun i h h' st k => st.at fun oi e => k it (List.mem_singleton.mpr rfl) oi e
  item := by
    rintro X rfl rfl rfl hc i pins s σ H E J free st ⟨at_, lt⟩
    obtain ⟨f0, f1, f2, f3, f4, f5⟩ := free it (List.mem_singleton.mpr rfl)
    obtain ⟨_, _, _, es', ep', vs, dt, _, kv, da⟩ := lk_raw J at_
    obtain ⟨rfl, rfl⟩ := dict_ep hod dt
    have len : kvs.length = vs.length := Paired.length kv
    have ei : kvs[i]? = some kvs[i] := List.getElem?_eq_getElem lt
    obtain ⟨u, hu, _⟩ := kv_get kv (k := kvs[i].1) (v := kvs[i].2) ei
    rw [len] at st
    refine wpAny_pyNext_dict_item st da hu fun key h' isk st' sb => ?_
    have J1 : Inv X pins σ H { s with heap := h' } := J.turned (t' := s.toks) (fun b ob hb e => (sb.2 b hb).trans e) f0 f1 f3 f4 f5
    obtain ⟨oi, e, c, dd⟩ := id st'
    refine ⟨key, rfl, go_of (s := { s with heap := h' }) e c dd (by decide) ⟨ckV kvs[i].1, H, J1, ck_rel isk, ⟨rfl, kvs[i], ei, rfl⟩, ?_, fun b hb => (free b hb).1⟩⟩
    show h'.IsKeyIter it d (i + 1) kvs.length _
    rw [len]; exact st'
  done := by
    rintro X rfl rfl rfl hc i pins s σ H E J free st ⟨at_, ge⟩
    obtain ⟨f0, f1, f2, f3, f4, f5⟩ := free it (List.mem_singleton.mpr rfl)
    obtain ⟨_, g, _, es', ep', vs, dt, sz, _, _⟩ := lk_raw J at_
    obtain ⟨rfl, rfl⟩ := dict_ep hod dt
    exact next_key_end (J.ok.hd hc) st g dt sz ge fun h' eb => ⟨rfl, J.turned (t' := s.toks) (fun b ob hb e => eb b ob hb e) f0 f1 f3 f4 f5⟩
  self := fun A i s Q E st h => wpAny_pyIter_keyiter st h
def iDk (re : RT) : RTi := fun env S k => re env S fun d S1 => match d with
  | .dic ks _ => k (ks.map ckD) (fun _ => True) S1
  | _ => False
theorem ri_dk {tg e : Expr} {re : RT} (h : RE X e re) : RI X tg e (iDk re) := by
  constructor
  rintro pins s σ H0 R I ⟨env, S, k, hE, hS, q, cl⟩
  refine thn (PE.run h pins s σ H0 (fun v H1 => ∃ d S1, (match d with
    | .dic ks _ => k (ks.map ckD) (fun _ => True) S1
    | _ => False) ∧ Stp H0 S H1 S1 ∧ Rp X.K H1 d v ∧ AbsS X.K S1 H1) I ⟨env, S, _, hE, hS, q, fun d S1 v H1 q1 st1 r1 hS1 => ⟨d, S1, q1, st1, r1, hS1⟩⟩) ?_
  rintro u s1 ⟨v, H1, I1, ru, d, S1, q1, st, rd, hS1⟩
  split at q1
  · rename_i ks ds
    obtain ⟨a, o, us, rfl, at_, ll, r⟩ := rd.dic_
    obtain rfl : u = Value.ref a := ru
    obtain ⟨n, g, x, es, ep, vs, dt, sz, kv, da⟩ := lk_raw I1 at_
    have kz : (ks.zip us).length = ks.length := by rw [List.length_zip]; omega
    refine iter_keys n g x dt (pi_one (tk := s1.toks) I1 _ (turn_dk _ dt) ⟨_, Heap.get?_push_size _ rfl, rfl, by rw [← sz] <;> rfl⟩ ?_)
    refine cl _ _ _ _ _ q1 st hS1 ⟨fun H => H a = some (.frz o (dkO a (ks.zip us))), fun i H x H' => H' = H ∧ ∃ p, (ks.zip us)[i]? = some p ∧ x = ckV p.1, ?_, fun S' H' m _ _ => m _ _ at_ fun z => z, ?_⟩
    · rw [List.length_map, ← kz]
      exact ⟨fun i H lt q => ⟨q, lt⟩, fun H q => ⟨q, Nat.le_refl _⟩, fun i H x H' _ _ y => y⟩
    · rintro i H' x H'' lt at' ⟨rfl, p, e, rfl⟩
      have ek : ks[i]? = some p.1 := by
        have := congrArg (Option.map Prod.fst) e
        rw [← List.getElem?_map, List.map_fst_zip (by omega)] at this
        exact this
      exact ⟨ckD p.1, by rw [List.getElem?_map, ek]; rfl, fun S' m hS' => ⟨ck_rp _, Stp.refl, hS'⟩⟩
  · exact q1.elim
end
end DL
/-! more builtins and methods -/
namespace DL
open PySem PySem.Spec PyProof.Rows L2
section
variable {X : Cx}
/-! ### great powers -/
def CPowB (i j : Int) : Prop := 0 ≤ j ∧ j ≤ 100000 ∧ i.natAbs.log2 < 1000
theorem op_powB : OpR X (binaryOp .Pow) (rI CPowB fun i j => .int (i ^ j.toNat)) := opI fun i j _ _ _ _ _ hc q => by
  obtain ⟨h0, h1, h2⟩ := hc
  refine pow_int h0 ?_ q
  have b : Builtin.Int.intBits i ≤ 1000 := by
    unfold Builtin.Int.intBits
    split <;> omega
  exact Int.le_trans (Int.mul_le_mul (show (Builtin.Int.intBits i : Int) ≤ 1000 by omega) h1 h0 (by omega)) (by decide)
theorem opPowB : Op2 X (binaryOp .Pow) (i2 CPowB fun i j => i ^ j.toNat) := opI2 op_powB
/-! ### min, abs, int, sum -/
def minD : FL := fun ds S k => match ds with
  | [.int i, .int j] => k (.int (if j < i then j else i)) S
  | _ => False
theorem cMin (hc : X.calm = true) : CallD X (.builtin "min") minD := by
  refine ⟨_, call_min2 hc, fun ds S k vs H Q q r hS c => ?_⟩
  unfold minD at q
  split at q
  · obtain ⟨a, b, rfl, ra, rb⟩ := r.two
    obtain rfl := ra.int_
    obtain rfl := rb.int_
    exact ⟨_, _, rfl, c _ _ _ _ q Stp.refl .int hS⟩
  · exact q.elim
def absD : FL := fun ds S k => match ds with
  | [.int i] => k (.int (if i < 0 then -i else i)) S
  | _ => False
theorem cAbs : CallD X (.builtin "abs") absD := by
  refine ⟨_, call_abs, fun ds S k vs H Q q r hS c => ?_⟩
  unfold absD at q
  split at q
  · obtain ⟨a, rfl, ra⟩ := r.one
    obtain rfl := ra.int_
    exact ⟨_, rfl, c _ _ _ _ q Stp.refl .int hS⟩
  · exact q.elim
def intD : FL := fun ds S k => match ds with
  | [.int i] => k (.int i) S
  | [.bl b] => k (.int (if b then 1 else 0)) S
  | _ => False
theorem cInt : CallD X (.type "int") intD := by
  refine ⟨_, call_int1, fun ds S k vs H Q q r hS c => ?_⟩
  unfold intD at q
  split at q
  · obtain ⟨a, rfl, ra⟩ := r.one
    obtain rfl := ra.int_
    exact .inl ⟨_, rfl, c _ _ _ _ q Stp.refl .int hS⟩
  · obtain ⟨a, rfl, ra⟩ := r.one
    obtain rfl := ra.bl_
    exact .inr ⟨_, rfl, c _ _ _ _ q Stp.refl .int hS⟩
  · exact q.elim
/-! ### methods of lists -/
def extendD : D → FL := fun x ds S k => match x, ds with
  | .ref l, [.ref b] => match S l, S b with
    | some (.lst xs), some (.lst ys) => xs.length + ys.length ≤ sizeLine ∧ k .non (S.upd l (.lst (xs ++ ys)))
    | _, _ => False
  | _, _ => False
theorem mExtend : MtD X "list.extend" extendD := by
  refine ⟨_, mt_extend, fun x ds S k v vs H Q q rx rl hS c => ?_⟩
  unfold extendD at q
  split at q
  · split at q
    · rename_i l b _ _ xs ys e1 e2
      have := rx.ref_; subst this
      obtain ⟨u, rfl, ru⟩ := rl.one
      have := ru.ref_; subst this
      obtain ⟨ws, h1, h2⟩ := hS.lst e1
      obtain ⟨zs, h3, h4⟩ := hS.lst e2
      refine ⟨l, b, ws, zs, rfl, rfl, h1, h3, by rw [← h2.length, ← h4.length]; exact q.1, c _ _ _ _ q.2 (Stp.write e1) .non (hS.write h1 True.intro True.intro ⟨_, rfl, (h2.append h4).mon (Mon.write h1 True.intro)⟩)⟩
    · exact q.elim
  · exact q.elim
def clearD : D → FL := fun x ds S k => match x, ds with
  | .ref l, [] => match S l with
    | some (.lst _) => k .non (S.upd l (.lst []))
    | _ => False
  | _, _ => False
theorem mClear : MtD X "list.clear" clearD := by
  refine ⟨_, mt_clear, fun x ds S k v vs H Q q rx rl hS c => ?_⟩
  unfold clearD at q
  split at q
  · split at q
    · rename_i l _ xs e1
      have := rx.ref_; subst this
      obtain rfl := rl.nil_of
      obtain ⟨ws, h1, h2⟩ := hS.lst e1
      exact ⟨l, ws, rfl, rfl, h1, c _ _ _ _ q (Stp.write e1) .non (hS.write h1 True.intro True.intro ⟨_, rfl, .nil⟩)⟩
    · exact q.elim
  · exact q.elim
def insertD : D → FL := fun x ds S k => match x, ds with
  | .ref l, [.int i, d] => match S l with
    | some (.lst xs) => xs.length < sizeLine ∧ 0 ≤ i ∧ i < 2 ^ 63 ∧ k .non (S.upd l (.lst (xs.take i.toNat ++ [d] ++ xs.drop i.toNat)))
    | _ => False
  | _, _ => False
theorem mInsert : MtD X "list.insert" insertD := by
  refine ⟨_, mt_insert, fun x ds S k v vs H Q q rx rl hS c => ?_⟩
  unfold insertD at q
  split at q
  · split at q
    · rename_i l i d _ xs e1
      have := rx.ref_; subst this
      obtain ⟨a, b, rfl, ra, rb⟩ := rl.two
      have := ra.int_; subst this
      obtain ⟨ws, h1, h2⟩ := hS.lst e1
      obtain ⟨q1, q2, q3, q⟩ := q
      exact ⟨l, ws, i, b, rfl, rfl, h1, by rw [← h2.length]; exact q1, q2, q3, c _ _ _ _ q (Stp.write e1) .non (hS.write h1 True.intro True.intro ⟨_, rfl, (((h2.take _).append (.cons rb .nil)).append (h2.drop _)).mon (Mon.write h1 True.intro)⟩)⟩
    · exact q.elim
  · exact q.elim
/-- xs.pop() -/
def popD : D → FL := fun x ds S k => match x, ds with
  | .ref l, [] => match S l with
    | some (.lst xs) => ∃ ys d, xs = ys ++ [d] ∧ k d (S.upd l (.lst ys))
    | _ => False
  | _, _ => False
theorem mPop : MtD X "list.pop" popD := by
  refine ⟨_, mt_pop, fun x ds S k v vs H Q q rx rl hS c => ?_⟩
  unfold popD at q
  split at q
  · split at q
    · rename_i l _ xs e1
      have := rx.ref_; subst this
      obtain rfl := rl.nil_of
      obtain ⟨ys, d, rfl, q⟩ := q
      obtain ⟨ws, h1, h2⟩ := hS.lst e1
      obtain ⟨y, e2, ry⟩ := h2.get (i := ys.length) (d := d) (by simp)
      have hl := h2.length
      have t := h2.take ys.length
      rw [List.take_left] at t
      have el : ws.dropLast = ws.take ys.length := by
        rw [List.dropLast_eq_take]
        congr 1
        simp at hl; omega
      refine ⟨l, ws, y, rfl, rfl, h1, by rw [show ws.length - 1 = ys.length by simp at hl; omega]; exact e2, ?_⟩
      rw [el]
      exact c _ _ _ _ q (Stp.write e1) (ry.mon (Mon.write h1 True.intro)) (hS.write h1 True.intro True.intro ⟨_, rfl, t.mon (Mon.write h1 True.intro)⟩)
    · exact q.elim
  · exact q.elim
end
end DL
/-! sorted(set(..)), stars, sum -/
namespace DL
open PySem PySem.Spec PyProof.Rows L2
section
variable {X : Cx} {e a : Expr} {re : RT} {p pos : Pos}
/-- sorted(set(t)) of a tuple of ints: a new list, ascending -/
def rSortSet (re : RT) : RT := fun env S k => re env S fun d S1 => ∃ ns : List Int, d = .tup (ns.map D.int) ∧ ns.length ≤ 4000 ∧ (∀ L : List Int, L.Nodup → (∀ i ∈ L, i ∈ ns) → L.length < 64) ∧ ∀ (L : List Int) (p : Addr), L.Pairwise (· < ·) → (∀ i, i ∈ L ↔ i ∈ ns) → S1 p = none → k (.ref p) (S1.upd p (.lst (L.map D.int)))
theorem re_sortSet {p2 q : Pos} (hg : Gl X "sorted") (hm : X.mg "sorted" = none) (hg2 : Gl X "set") (hm2 : X.mg "set" = none) (ha : RE X a re) (hc : X.calm = true := by rfl)
    (na : starEach [a] X.env = (false, eval a X.env) :: starEach [] X.env := by rfl) : RE X (.Call (.Name "sorted" p) [.Call (.Name "set" p2) [a] [] q] [] pos) (rSortSet re) := by
  constructor
  rintro pins s σ H Q I ⟨env, S, k, hE, hS, hq, c⟩
  refine Call_ (ld_blt I hg hm boot_sorted (PyProof.Rows.callWith_builtin1 (PyProof.Rows.args_cons (Call_ (ld_blt I hg2 hm2 boot_set ?_)) rfl) rfl rfl))
  refine PyProof.Rows.callWith_type1 (PyProof.Rows.args_cons (thn (PE.run ha pins s σ H (fun v H1 => ∃ d S1, (∃ ns : List Int, d = .tup (ns.map D.int) ∧ ns.length ≤ 4000 ∧ (∀ L : List Int, L.Nodup → (∀ i ∈ L, i ∈ ns) → L.length < 64) ∧ ∀ (L : List Int) (p : Addr), L.Pairwise (· < ·) → (∀ i, i ∈ L ↔ i ∈ ns) → S1 p = none → k (.ref p) (S1.upd p (.lst (L.map D.int)))) ∧ Stp H S H1 S1 ∧ Rp X.K H1 d v ∧ AbsS X.K S1 H1) I ⟨env, S, _, hE, hS, hq, fun d S1 v H1 q1 st r1 hS1 => ⟨d, S1, q1, st, r1, hS1⟩⟩) ?_) na) na rfl
  rintro v s1 ⟨x, H1, I1, r1, d, S1, ⟨ns, rfl, hl, few, q1⟩, st, rd, hS1⟩
  refine PyProof.Rows.args_nil ?_
  obtain ⟨l, vs, rfl, h1, h2⟩ := rd.tup_
  have := h2.ints; subst this
  cases r1
  obtain ⟨its, r, pl, hz⟩ := I1.tuple h1.sq
  have hdn := I1.ok.hd hc
  refine call_set_tupI ns hdn (show s1.heap.IsTuple l its.toArray from pl) (by simpa using r.ints) (by unfold scanBound; omega) fun h' tk cc R1 hcn kp => PyProof.Rows.args_nil ?_
  have I2 : Inv X pins σ H1 { s1 with heap := h', toks := tk } := I1.kept kp
  have room : cc < 64 := by
    obtain ⟨o, es, ep, t, ho, hex, hd, g, nd, mem, hb, hf, hn, _, _⟩ := R1
    have el : (es.toList.map keyOf).length = cc := by rw [List.length_map, Array.length_toList, hn]
    rw [← el]
    exact few _ nd fun i hi => of_decide_eq_true ((mem i).mpr hi)
  refine sorted_set R1 hdn room fun s' q out cap L keep gens os young at_ il asc mem len => ?_
  have fresh : H1 q = none := I2.hok.fresh young
  have short : (L.map V.int).length ≤ sizeLine := by rw [List.length_map, len]; exact Nat.le_of_lt (Nat.lt_trans room (by decide))
  have J : Inv X pins σ (L2.upd H1 q (.lst (L.map V.int))) { ({ s1 with heap := h', toks := tk } : Shared) with heap := s'.heap, gens := s'.gens, drawn := s'.drawn, toks := s'.toks } := by
    refine I2.call (ch := []) (Un.laid keep young fresh) (I2.hok.laid keep young ⟨short, out.toList, cap, vals_of_ints il, at_⟩) ?_ (fun _ z => nomatch z)
    rw [gens]; exact I2.bare
  have same : s' = { s1 with heap := s'.heap, gens := s'.gens, drawn := s'.drawn, toks := s'.toks } := by
    cases s'; cases os; rfl
  rw [same]
  refine ⟨.ref q, _, J, rfl, ?_⟩
  refine c _ _ _ _ (q1 L q asc (fun i => by rw [mem i, decide_eq_true_iff]) (hS1.free fresh)) (st.trans (Stp.laid fresh)) .ref (hS1.laid fresh True.intro ⟨_, rfl, RpL.of_ints.mon (Mon.laid fresh)⟩)
end
end DL
namespace DL
open PySem PySem.Spec PyProof.Rows L2
section
variable {X : Cx} {e : Expr} {es : List Expr} {re : RT} {rl : RTa} {p : Pos}
/-- *e among arguments or in a display -/
def rStar (re : RT) (rl : RTa) : RTa := fun env S k => re env S fun d S1 => ∃ xs, seqOf S1 d = some xs ∧ rl env S1 fun ys S2 => k (xs ++ ys) S2
theorem ra_star (he : RE X e re) (hr : RA X es rl) (hs : starEach (.Starred e p :: es) X.env = (true, eval e X.env) :: starEach es X.env := by rfl) : RA X (.Starred e p :: es) (rStar re rl) := by
  refine PA.imp (StX.pa_star he hr hs) fun σ H Q ⟨env, S, k, hE, hS, q, c⟩ => ?_
  refine ⟨env, S, _, hE, hS, q, fun d S1 v H1 ⟨xs, ex, q1⟩ st1 r1 hS1 => ?_⟩
  obtain ⟨a, vs, rfl, hq, rl1⟩ := seq_of ex r1 hS1
  refine ⟨a, vs, rfl, hq.symm, env, S1, _, hE.mon (st1.mon hS), hS1, q1, fun ys S2 us H2 q2 st2 r2 hS2 => ?_⟩
  exact c _ _ _ _ q2 (st1.trans st2) ((rl1.mon (st2.mon hS1)).append r2) hS2
/-- sum of a list of ints -/
def sumD : FL := fun ds S k => match ds with
  | [d] => ∃ ns : List Int, seqOf S d = some (ns.map D.int) ∧ isTup d = false ∧ k (.int ns.sum) S
  | _ => False
theorem cSum (hc : X.calm = true) : CallD X (.builtin "sum") sumD := by
  refine ⟨_, cr_sum hc, fun ds S k vs H Q q r hS c => ?_⟩
  unfold sumD at q
  split at q
  · obtain ⟨v, rfl, rv⟩ := r.one
    obtain ⟨ns, ex, nt, q⟩ := q
    obtain ⟨a, us, rfl, _, _⟩ := seq_of ex rv hS
    obtain ⟨ws, hl, rw_⟩ := sq_lst ex nt rv hS
    have := rw_.ints; subst this
    exact ⟨a, ns, rfl, hl, c _ _ _ _ q Stp.refl .int hS⟩
  · exact q.elim
/-- xs.count(i) of a list of ints -/
def countD : D → FL := fun x ds S k => match ds with
  | [.int i] => ∃ ns : List Int, seqOf S x = some (ns.map D.int) ∧ isTup x = false ∧ k (.int (ns.count i : Nat)) S
  | _ => False
theorem mCount : MtD X "list.count" countD := by
  refine ⟨_, mt_lcount, fun x ds S k v vs H Q q rx rl hS c => ?_⟩
  unfold countD at q
  split at q
  · obtain ⟨u, rfl, ru⟩ := rl.one
    obtain rfl := ru.int_
    obtain ⟨ns, ex, nt, q⟩ := q
    obtain ⟨a, us, rfl, _, _⟩ := seq_of ex rx hS
    obtain ⟨ws, hl, rw_⟩ := sq_lst ex nt rx hS
    have := rw_.ints; subst this
    exact ⟨a, ns, _, rfl, rfl, hl, c _ _ _ _ q Stp.refl .int hS⟩
  · exact q.elim
end
end DL
namespace DL
open PySem PySem.Spec PyProof.Rows L2
/-! ### sets of None and ints -/
def SkAt (a : Addr) (f : Ck → Bool) (n : Nat) : Heap → Prop := fun h => ∀ (P : Program) (w : World), h.SetOf (caseK P w) a f n
abbrev skO (a : Addr) (f : Ck → Bool) (n : Nat) : HO := .ext (SkAt a f n)
theorem set_world {P P' : Program} {w w' : World} {h : Heap} {a : Addr} {f : Ck → Bool} {n : Nat} (d : h.SetOf (caseK P w) a f n) : h.SetOf (caseK P' w') a f n := d
theorem sk_ok {P : Program} {w : World} {H : Hp} {h : Heap} {a : Addr} {f : Ck → Bool} {n : Nat} (d : h.SetOf (caseK P w) a f n) : ObjOk P w H h a (skO a f n) := by
  refine ⟨fun P' w' => set_world d, ?_, ?_⟩
  · obtain ⟨o, _, _, _, e, _⟩ := d
    exact ⟨o, e⟩
  · intro h1 h2 p k P' w'
    obtain ⟨o, es, ep, t, e, rest⟩ := p P' w'
    exact ⟨o, es, ep, t, k o e, rest⟩
theorem ck_scan {k : Ck} {u : Value} (r : RelV (ckV k) u) : u.scannable = true := by
  cases k with
  | none => cases (show u = Value.none from r); rfl
  | some i => obtain ⟨t, rfl⟩ := r; rfl
section
variable {X : Cx}
/-- set() -/
def rSet0 : RT := fun _ S k => ∀ p, S p = none → k (.ref p) (S.upd p (.ho (skO p (fun _ => false) 0)))
theorem cr_skNew : CallR X (.type "set") (fun xs H Q => xs = [] ∧ ∀ p, H p = none → Q (.ref p) (L2.upd H p (skO p (fun _ => false) 0))) := by
  rintro pins s σ H xs us Q I r ⟨rfl, q⟩
  cases r
  refine setR_new fun _ => ?_
  have d : (s.heap.push { cls := .type "set", dict := none, data := .set #[] 0 (.fresh 0 0 (!X.w.params.followText "set-order")) }).SetOf (caseK X.prog X.w) s.heap.objs.size (fun _ => false) 0 :=
    ⟨_, #[], 0, _, Heap.get?_push_size _ rfl, ⟨rfl, rfl, rfl⟩, rfl, (fun e he => by simp at he), (fun k => by simp), (by decide), (by rfl), rfl⟩
  exact ⟨.ref _, _, I.laid (t' := s.toks) (fun b u e => Heap.get?_push_of_some _ e) (Nat.le_refl _) (sk_ok d), rfl, q _ (I.hok.fresh (Nat.le_refl _))⟩
theorem re_set0 {p pos : Pos} (hg : Gl X "set") (hm : X.mg "set" = none) : RE X (.Call (.Name "set" p) [] [] pos) rSet0 := by
  refine PE.imp (pe_callTy0 cr_skNew hg hm PyProof.Rows.boot_set) fun σ H Q ⟨env, S, k, hE, hS, q, c⟩ => ?_
  refine ⟨rfl, fun p hp => c _ _ _ _ (q p (hS.free hp)) (Stp.laid hp) .ref (hS.laid hp True.intro rfl)⟩
/-- k in found -/
def inSk (neg : Bool) : F2 := fun x y S k => ∃ c a f n, x = ckD c ∧ y = .ref a ∧ S a = some (.ho (skO a f n)) ∧ k (.bl (neg ^^ f c)) S
def rInSk (neg : Bool) : R2 := fun x y H Q => ∃ c a f n, x = ckV c ∧ y = .ref a ∧ H a = some (skO a f n) ∧ Q (.bl (neg ^^ f c)) H
theorem or_inSk : OpR X (compareOp .In) (rInSk false) := by
  rintro pins s σ H x y v u Q I rx ry ⟨c, a, f, n, rfl, rfl, e, q⟩
  cases ry
  refine wpAny_inSet_of (ck_is rx) (ck_scan rx) ((I.hok a _ e).1 X.prog X.w) ⟨.bl (f c), H, I.tok _, rfl, ?_⟩
  rw [Bool.false_xor] at q; exact q
theorem or_notinSk : OpR X (compareOp .NotIn) (rInSk true) := by
  rintro pins s σ H x y v u Q I rx ry ⟨c, a, f, n, rfl, rfl, e, q⟩
  cases ry
  refine wpAny_notInSet_of (ck_is rx) (ck_scan rx) ((I.hok a _ e).1 X.prog X.w) ⟨.bl (!f c), H, I.tok _, rfl, ?_⟩
  rw [Bool.true_xor] at q; exact q
theorem inSk_go {neg : Bool} {x y : D} {S : Sto} {k : RK} {v u : V} {H : Hp} {Q : VK} (q : inSk neg x y S k) (rx : Rp X.K H x v) (ry : Rp X.K H y u) (hS : AbsS X.K S H) (c : Cl X.K H S k Q) : rInSk neg v u H Q := by
  obtain ⟨c0, a, f, n, rfl, rfl, e, q⟩ := q
  obtain rfl := ry.ref_
  obtain ⟨h, e1, _, e2⟩ := hS _ _ e
  have e2' : h = skO a f n := e2
  subst e2'
  exact ⟨c0, a, f, n, ck_of rx, rfl, e1, c _ _ _ _ q Stp.refl .bl hS⟩
theorem opInSk : Op2 X (compareOp .In) (inSk false) := ⟨_, or_inSk, fun x y S k v u H Q q rx ry hS c => inSk_go q rx ry hS c⟩
theorem opNotInSk : Op2 X (compareOp .NotIn) (inSk true) := ⟨_, or_notinSk, fun x y S k v u H Q q rx ry hS c => inSk_go q rx ry hS c⟩
/-- found.add(k) -/
def rSAdd (ro ra : RT) : RT := fun env S k => ro env S fun x S1 => ∃ a f n, x = .ref a ∧ S1 a = some (.ho (skO a f n)) ∧ ra env S1 fun y S2 => ∃ c f n, y = ckD c ∧ S2 a = some (.ho (skO a f n)) ∧ n + 1 < scanBound ∧
  k .non (S2.upd a (.ho (skO a (fun j => f j || decide (j = c)) (if f c = true then n else n + 1))))
theorem re_sadd {o e : Expr} {ro ra : RT} {apos cpos : Pos} (ho : RE X o ro) (ha : RE X e ra)
    (hbase : attributeBase o "add" X.env (eval o X.env) = eval o X.env := by rfl)
    (few : ((backTo cpos (starEach [e] X.env)).all (fun x => !x.1) && (backToKw cpos (keywordEach [] X.env)).all (fun x => x.1.isSome) && decide ([e].length + ([] : List Keyword).length + (if ([] : List Keyword).isEmpty then 0 else 1) < 30)) = true := by rfl)
    (hline : (apos.endLine == cpos.line) = true := by rfl) (hs : starEach [e] X.env = (false, eval e X.env) :: starEach [] X.env := by rfl) (hp : (backTo cpos (starEach [] X.env)).any (·.1) = false := by rfl) :
    RE X (.Call (.Attribute o "add" apos) [e] [] cpos) (rSAdd ro ra) := by
  constructor
  rintro pins s σ H Q I ⟨env, S, k, hE, hS, q, c⟩
  refine wpAny_Call_method_late hbase few hline rfl (thn (PE.run ho pins s σ H (fun v H1 => ∃ x S1, (∃ a f n, x = D.ref a ∧ S1 a = some (.ho (skO a f n)) ∧ ra env S1 fun y S2 => ∃ c f n, y = ckD c ∧ S2 a = some (.ho (skO a f n)) ∧ n + 1 < scanBound ∧
    k .non (S2.upd a (.ho (skO a (fun j => f j || decide (j = c)) (if f c = true then n else n + 1))))) ∧ Stp H S H1 S1 ∧ Rp X.K H1 x v ∧ AbsS X.K S1 H1) I ⟨env, S, _, hE, hS, q, fun d S1 v H1 q1 st r1 hS1 => ⟨d, S1, q1, st, r1, hS1⟩⟩) ?_)
  rintro v s1 ⟨xv, H1, I1, rx, d, S1, ⟨a, f, n, rfl, e1, q1⟩, st, rd, hS1⟩
  obtain rfl := rd.ref_
  obtain rfl : v = Value.ref a := rx
  obtain ⟨h, e2, _, e3⟩ := hS1 _ _ e1
  have e3' : h = skO a f n := e3
  subst e3'
  have so := (I1.hok a _ e2).1 X.prog X.w
  refine ⟨"set", "set.add", F.plainAttrs_set, F.slot_set_add, F.type_set_add, so.typeIs, so.noDict, ?_⟩
  rw [hs]
  refine Calls.callWith_builtin (by show (false || (backTo cpos (starEach [] X.env)).any (·.1)) = false; rw [hp]; rfl) (Calls.evalArgs_plain ?_)
  refine Calls.spliced_cons (thn (PE.run ha pins s1 σ H1 (fun v H2 => ∃ y S2, (∃ c f n, y = ckD c ∧ S2 a = some (.ho (skO a f n)) ∧ n + 1 < scanBound ∧
    k .non (S2.upd a (.ho (skO a (fun j => f j || decide (j = c)) (if f c = true then n else n + 1))))) ∧ Stp H1 S1 H2 S2 ∧ Rp X.K H2 y v ∧ AbsS X.K S2 H2) I1 ⟨env, S1, _, hE.mon (st.mon hS), hS1, q1, fun d S2 v H2 q2 st2 r2 hS2 => ⟨d, S2, q2, st2, r2, hS2⟩⟩) ?_)
  rintro v2 s2 ⟨yv, H2, I2, ry, d2, S2, ⟨c0, f2, n2, rfl, e4, room, q2⟩, st2, rd2, hS2⟩
  refine Calls.spliced_nil ?_
  obtain ⟨h2, e5, _, e6⟩ := hS2 _ _ e4
  have e6' : h2 = skO a f2 n2 := e6
  subst e6'
  obtain rfl := ck_of rd2
  refine call_set_add (ck_is ry) (ck_scan ry) ((I2.hok a _ e5).1 X.prog X.w) room fun h' sb new => ?_
  have he : ∃ u, h'.get? a = some u := by
    obtain ⟨o, _, _, _, z, _⟩ := id new
    exact ⟨o, z⟩
  refine ⟨.non, _, I2.write (e := a) (t' := s2.toks + 1) (by rw [e5]; exact True.intro) (.inl rfl) (fun b u hb hu => (sb.2 b hb).trans hu) he (sk_ok new), rfl, ?_⟩
  exact c _ _ _ _ q2 ((st.trans st2).trans (Stp.write e4)) .non (hS2.write e5 True.intro True.intro rfl)
end
end DL
/-! lanes and days as numbers: what the document says, without any program -/
namespace DL
open PySem PySem.Spec PyProof.Rows L2
def playN (ns cs : List Int) : List Int := cs.foldl stepN ns
/-- an exchange: no car for c, c for no car -/
def exN (x : Ck) (c : Int) : Ck := match x with
  | none => some c
  | some y => if y = c then none else some y
def dayN (cs : List Int) (x : Ck) : Ck := cs.foldl exN x
def fixN (ns cs : List Int) : List Int := ns.takeWhile fun n => !decide (n ∈ cs)
def restN (ns cs : List Int) : List Int := ns.dropWhile fun n => !decide (n ∈ cs)
def caseN (ns cs : List Int) : Ck := (restN ns cs).head?
def endN (cs : List Int) (x : Ck) : List Int := playN x.toList cs
/-- a case of the calls -/
def IsCase (cs : List Int) (x : Ck) : Prop := ∀ c, x = some c → c ∈ cs
theorem fix_rest (ns cs : List Int) : fixN ns cs ++ restN ns cs = ns := List.takeWhile_append_dropWhile
theorem fix_out {ns cs : List Int} {n : Int} (h : n ∈ fixN ns cs) : n ∉ cs := by
  unfold fixN at h
  induction ns with
  | nil => cases h
  | cons m ns ih =>
    rw [List.takeWhile_cons] at h
    by_cases e : m ∈ cs
    · rw [if_neg (by simpa using e)] at h; cases h
    · rw [if_pos (by simpa using e)] at h
      rcases List.mem_cons.mp h with rfl | q
      · exact e
      · exact ih q
theorem case_is {ns cs : List Int} : IsCase cs (caseN ns cs) := by
  intro c e
  unfold caseN restN at e
  induction ns with
  | nil => cases e
  | cons m ns ih =>
    rw [List.dropWhile_cons] at e
    by_cases g : m ∈ cs
    · rw [if_neg (by simpa using g)] at e
      cases e; exact g
    · rw [if_pos (by simpa using g)] at e
      exact ih e
theorem fix_app {f r cs : List Int} (h : ∀ n ∈ f, n ∉ cs) : fixN (f ++ r) cs = f ++ fixN r cs := by
  unfold fixN
  rw [List.takeWhile_append_of_pos]
  intro n hn
  simpa using h n hn
theorem rest_app {f r cs : List Int} (h : ∀ n ∈ f, n ∉ cs) : restN (f ++ r) cs = restN r cs := by
  unfold restN
  rw [List.dropWhile_append_of_pos]
  intro n hn
  simpa using h n hn
theorem fix_none {r cs : List Int} (h : ∀ n ∈ r, n ∈ cs) : fixN r cs = [] ∧ restN r cs = r := by
  cases r with
  | nil => exact ⟨rfl, rfl⟩
  | cons n r =>
    have e := h n (List.mem_cons_self ..)
    unfold fixN restN
    rw [List.takeWhile_cons, List.dropWhile_cons, if_neg (by simpa using e), if_neg (by simpa using e)]
    exact ⟨rfl, rfl⟩
/-- the fixed cars stay, and the rest behaves as a lane of its own -/
theorem step_app {f r : List Int} {c : Int} (h : c ∉ f) : stepN (f ++ r) c = f ++ stepN r c := by
  by_cases m : c ∈ r
  · rw [step_in m, step_in (List.mem_append_right _ m), List.takeWhile_append_of_pos]
    intro n hn
    simp
    intro e; subst e; exact h hn
  · rw [step_out m, step_out (by simp [h, m]), List.append_assoc]
theorem play_app {f : List Int} : ∀ {cs r : List Int}, (∀ n ∈ f, n ∉ cs) → playN (f ++ r) cs = f ++ playN r cs
  | [], r, _ => rfl
  | c :: cs, r, h => by
    show playN (stepN (f ++ r) c) cs = f ++ playN (stepN r c) cs
    rw [step_app fun z => h c z (List.mem_cons_self ..)]
    exact play_app fun n hn z => h n hn (List.mem_cons_of_mem _ z)
theorem step_cons {y c : Int} {r : List Int} (h : c ≠ y) : ∃ r', stepN (y :: r) c = y :: r' := by
  by_cases m : c ∈ r
  · rw [step_in (List.mem_cons_of_mem _ m), List.takeWhile_cons, if_pos (by simpa using Ne.symm h)]
    exact ⟨_, rfl⟩
  · rw [step_out (by simp [h, m])]
    exact ⟨_, rfl⟩
theorem step_self {y : Int} {r : List Int} : stepN (y :: r) y = [] := by
  rw [step_in (List.mem_cons_self ..), List.takeWhile_cons, if_neg (by simp)]
/-- only the innermost car decides -/
theorem play_head {y : Int} : ∀ {cs r r' : List Int}, y ∈ cs → playN (y :: r) cs = playN (y :: r') cs
  | c :: cs, r, r', h => by
    show playN (stepN (y :: r) c) cs = playN (stepN (y :: r') c) cs
    by_cases e : c = y
    · subst e; rw [step_self, step_self]
    · obtain ⟨a, ea⟩ := step_cons (r := r) e
      obtain ⟨b, eb⟩ := step_cons (r := r') e
      rw [ea, eb]
      exact play_head (by rcases List.mem_cons.mp h with q | q; exact absurd q.symm e; exact q)
theorem head_step (r : List Int) (c : Int) : (stepN r c).head? = exN r.head? c := by
  cases r with
  | nil => rfl
  | cons y r =>
    by_cases e : c = y
    · subst e; rw [step_self]; simp [exN]
    · obtain ⟨a, ea⟩ := step_cons (r := r) e
      rw [ea]
      simp [exN, Ne.symm e]
theorem head_play : ∀ (cs r : List Int), (playN r cs).head? = dayN cs r.head?
  | [], _ => rfl
  | c :: cs, r => by
    show (playN (stepN r c) cs).head? = dayN cs (exN r.head? c)
    rw [head_play cs, head_step]
theorem mem_step {r : List Int} {c n : Int} (h : n ∈ stepN r c) : n ∈ r ∨ n = c := by
  by_cases m : c ∈ r
  · rw [step_in m] at h
    exact .inl ((List.takeWhile_prefix _).subset h)
  · rw [step_out m] at h
    rcases List.mem_append.mp h with q | q
    · exact .inl q
    · exact .inr (List.mem_singleton.mp q)
theorem mem_play : ∀ {cs r : List Int} {n : Int}, n ∈ playN r cs → n ∈ r ∨ n ∈ cs
  | [], _, _, h => .inl h
  | c :: cs, r, n, h => by
    rcases mem_play (cs := cs) (r := stepN r c) h with q | q
    · rcases mem_step q with z | z
      · exact .inl z
      · exact .inr (z ▸ List.mem_cons_self ..)
    · exact .inr (List.mem_cons_of_mem _ q)
theorem end_in {cs : List Int} {x : Ck} (h : IsCase cs x) : ∀ n ∈ endN cs x, n ∈ cs := by
  intro n hn
  rcases mem_play hn with q | q
  · cases x with
    | none => simp at q
    | some y =>
      have : n = y := by simpa using q
      rw [this]; exact h y rfl
  · exact q
/-- a day: the fixed part, and the end lane of the case -/
theorem day_end (ns cs : List Int) : playN ns cs = fixN ns cs ++ endN cs (caseN ns cs) := by
  have e := fix_rest ns cs
  have p := play_app (f := fixN ns cs) (cs := cs) (r := restN ns cs) fun n hn => fix_out hn
  rw [e] at p
  rw [p]
  congr 1
  unfold endN caseN
  cases h : restN ns cs with
  | nil => rfl
  | cons y r =>
    have c : IsCase cs (caseN ns cs) := case_is
    have m : y ∈ cs := c y (by unfold caseN; rw [h]; rfl)
    exact play_head m
theorem head_end (cs : List Int) (x : Ck) : (endN cs x).head? = dayN cs x := by
  unfold endN
  rw [head_play]
  cases x <;> rfl
theorem fix_day (ns cs : List Int) : fixN (playN ns cs) cs = fixN ns cs := by
  rw [day_end, fix_app fun n hn => fix_out hn, (fix_none (end_in case_is)).1, List.append_nil]
theorem case_day (ns cs : List Int) : caseN (playN ns cs) cs = dayN cs (caseN ns cs) := by
  rw [day_end]
  show (restN (fixN ns cs ++ endN cs (caseN ns cs)) cs).head? = dayN cs (caseN ns cs)
  rw [rest_app fun n hn => fix_out hn, (fix_none (end_in (x := caseN ns cs) case_is)).2]
  exact head_end cs _
theorem case_fix {f e cs : List Int} (hf : ∀ n ∈ f, n ∉ cs) (he : ∀ n ∈ e, n ∈ cs) : fixN (f ++ e) cs = f ∧ caseN (f ++ e) cs = e.head? := by
  refine ⟨by rw [fix_app hf, (fix_none he).1, List.append_nil], ?_⟩
  unfold caseN
  rw [rest_app hf, (fix_none he).2]
/-! ### days in a row -/
def daysN (cs : List Int) : Nat → List Int → List Int
  | 0, ns => ns
  | n + 1, ns => daysN cs n (playN ns cs)
def iterN (cs : List Int) : Nat → Ck → Ck
  | 0, x => x
  | n + 1, x => iterN cs n (dayN cs x)
theorem iter_succ (cs : List Int) : ∀ (n : Nat) (x : Ck), iterN cs (n + 1) x = dayN cs (iterN cs n x)
  | 0, _ => rfl
  | n + 1, x => by
    show iterN cs (n + 1) (dayN cs x) = _
    rw [iter_succ cs n]; rfl
theorem iter_add (cs : List Int) : ∀ (m n : Nat) (x : Ck), iterN cs (m + n) x = iterN cs m (iterN cs n x)
  | m, 0, x => rfl
  | m, n + 1, x => by
    show iterN cs (m + n) (dayN cs x) = _
    exact iter_add cs m n _
theorem days_add (cs : List Int) : ∀ (m n : Nat) (ns : List Int), daysN cs (m + n) ns = daysN cs m (daysN cs n ns)
  | m, 0, ns => rfl
  | m, n + 1, ns => days_add cs m n _
/-- after n + 1 days -/
theorem days_end (cs : List Int) : ∀ (n : Nat) (ns : List Int), daysN cs (n + 1) ns = fixN ns cs ++ endN cs (iterN cs n (caseN ns cs))
  | 0, ns => day_end ns cs
  | n + 1, ns => by
    show daysN cs (n + 1) (playN ns cs) = _
    rw [days_end cs n, fix_day, case_day]; rfl
/-! ### cases in a row: exchanges are turned about by themselves -/
theorem ex_ex (x : Ck) (c : Int) : exN (exN x c) c = x := by
  cases x with
  | none => simp [exN]
  | some y =>
    by_cases e : y = c
    · subst e; simp [exN]
    · simp [exN, e]
theorem ex_inj {x y : Ck} {c : Int} (h : exN x c = exN y c) : x = y := by rw [← ex_ex x c, h, ex_ex]
theorem day_inj : ∀ {cs : List Int} {x y : Ck}, dayN cs x = dayN cs y → x = y
  | [], _, _, h => h
  | c :: cs, x, y, h => ex_inj (day_inj (cs := cs) h)
theorem iter_inj {cs : List Int} : ∀ {n : Nat} {x y : Ck}, iterN cs n x = iterN cs n y → x = y
  | 0, _, _, h => h
  | n + 1, x, y, h => day_inj (iter_inj (n := n) h)
theorem ex_case {cs : List Int} {x : Ck} {c : Int} (h : IsCase cs x) (hc : c ∈ cs) : IsCase cs (exN x c) := by
  intro y e
  cases x with
  | none => cases e; exact hc
  | some z =>
    unfold exN at e
    dsimp only at e
    split at e
    · cases e
    · cases e; exact h _ rfl
theorem fold_case {cs : List Int} : ∀ {ds : List Int} {x : Ck}, IsCase cs x → (∀ d ∈ ds, d ∈ cs) → IsCase cs (ds.foldl exN x)
  | [], _, h, _ => h
  | d :: ds, x, h, g => by
    show IsCase cs (ds.foldl exN (exN x d))
    exact fold_case (ex_case h (g d (List.mem_cons_self ..))) fun e he => g e (List.mem_cons_of_mem _ he)
theorem day_case {cs : List Int} {x : Ck} (h : IsCase cs x) : IsCase cs (dayN cs x) := fold_case h fun d hd => hd
theorem iter_case {cs : List Int} : ∀ {n : Nat} {x : Ck}, IsCase cs x → IsCase cs (iterN cs n x)
  | 0, _, h => h
  | n + 1, _, h => iter_case (n := n) (day_case h)
theorem end_inj {cs : List Int} {x y : Ck} (h : endN cs x = endN cs y) : x = y := by
  have := congrArg List.head? h
  rw [head_end, head_end] at this
  exact day_inj this
/-! ### round and round -/
theorem nd_leK : ∀ {L M : List Ck}, L.Nodup → (∀ x ∈ L, x ∈ M) → L.length ≤ M.length
  | [], M, _, _ => Nat.zero_le _
  | x :: L, M, h, g => by
    have hx := g x (List.mem_cons_self ..)
    have h' := List.nodup_cons.mp h
    have := nd_leK (L := L) (M := M.erase x) h'.2 fun y hy => (List.mem_erase_of_ne (fun e => by rw [e] at hy; exact h'.1 hy)).mpr (g y (List.mem_cons_of_mem _ hy))
    rw [List.length_erase_of_mem hx] at this
    have := List.length_pos_of_mem hx
    rw [List.length_cons]; omega
def casesN (cs : List Int) : List Ck := none :: cs.map some
theorem mem_cases {cs : List Int} {x : Ck} : x ∈ casesN cs ↔ IsCase cs x := by
  unfold casesN IsCase
  cases x with
  | none => simp
  | some y => simp
theorem some_period {cs : List Int} {x : Ck} (h : IsCase cs x) : ∃ p, 0 < p ∧ p ≤ cs.length + 1 ∧ iterN cs p x = x := by
  by_cases nd : ((List.range (cs.length + 2)).map fun n => iterN cs n x).Nodup
  · have := nd_leK (M := casesN cs) nd fun y hy => by
      obtain ⟨n, _, rfl⟩ := List.mem_map.mp hy
      exact mem_cases.mpr (iter_case h)
    simp [casesN] at this
  · rw [List.nodup_iff_pairwise_ne, List.pairwise_iff_getElem] at nd
    have ⟨i, j, hi, hj, hij, e⟩ : ∃ i j, i < cs.length + 2 ∧ j < cs.length + 2 ∧ i < j ∧ iterN cs i x = iterN cs j x := Classical.byContradiction fun no => nd fun i j hi hj hij e => by
      simp only [List.length_map, List.length_range] at hi hj
      simp only [List.getElem_map, List.getElem_range] at e
      exact no ⟨i, j, hi, hj, hij, e⟩
    refine ⟨j - i, by omega, by omega, ?_⟩
    have : iterN cs i (iterN cs (j - i) x) = iterN cs i x := by
      rw [← iter_add, e]
      congr 1
      omega
    exact iter_inj this
/-- the least period -/
theorem least_period {cs : List Int} {x : Ck} (h : IsCase cs x) : ∃ p, 0 < p ∧ p ≤ cs.length + 1 ∧ iterN cs p x = x ∧ ∀ q, 0 < q → q < p → iterN cs q x ≠ x := by
  have go : ∀ n, ∀ p, p ≤ n → 0 < p → p ≤ cs.length + 1 → iterN cs p x = x → ∃ p, 0 < p ∧ p ≤ cs.length + 1 ∧ iterN cs p x = x ∧ ∀ q, 0 < q → q < p → iterN cs q x ≠ x := by
    intro n
    induction n with
    | zero => intro p hp h0; omega
    | succ n ih =>
      intro p hp h0 hl e
      by_cases g : ∃ q, 0 < q ∧ q < p ∧ iterN cs q x = x
      · obtain ⟨q, q0, ql, qe⟩ := g
        exact ih q (by omega) q0 (by omega) qe
      · exact ⟨p, h0, hl, e, fun q q0 ql qe => g ⟨q, q0, ql, qe⟩⟩
  obtain ⟨p, p0, pl, e⟩ := some_period h
  exact go p p (Nat.le_refl _) p0 pl e
theorem iter_mul {cs : List Int} {x : Ck} {p : Nat} (e : iterN cs p x = x) : ∀ k, iterN cs (p * k) x = x
  | 0 => rfl
  | k + 1 => by rw [Nat.mul_succ, iter_add, e, iter_mul e k]
theorem iter_mod {cs : List Int} {x : Ck} {p : Nat} (e : iterN cs p x = x) (n : Nat) : iterN cs n x = iterN cs (n % p) x := by
  have h : n = n % p + p * (n / p) := (Nat.mod_add_div n p).symm
  conv => lhs; rw [h, iter_add, iter_mul e]
/-- the cycle of a case -/
def cycN (cs : List Int) (p : Nat) (x : Ck) : List Ck := (List.range p).map fun n => iterN cs n x
theorem cyc_nodup {cs : List Int} {x : Ck} {p : Nat} (hp : ∀ q, 0 < q → q < p → iterN cs q x ≠ x) : (cycN cs p x).Nodup := by
  unfold cycN
  rw [List.nodup_iff_pairwise_ne, List.pairwise_iff_getElem]
  intro i j hi hj hij e
  simp only [List.length_map, List.length_range] at hi hj
  simp only [List.getElem_map, List.getElem_range] at e
  refine hp (j - i) (by omega) (by omega) (iter_inj (cs := cs) (n := i) ?_)
  rw [← iter_add, e]
  congr 1
  omega
/-- the lane after one day and so many more comes again exactly when the case does -/
theorem lane_again {cs ns : List Int} {n p : Nat} : daysN cs (n + 1 + p) ns = daysN cs (n + 1) ns ↔ iterN cs p (caseN ns cs) = caseN ns cs := by
  have e : n + 1 + p = (p + n) + 1 := by omega
  rw [e, days_end, days_end]
  constructor
  · intro h
    have := end_inj (List.append_cancel_left h)
    rw [Nat.add_comm, iter_add] at this
    exact iter_inj this
  · intro h
    rw [Nat.add_comm p n, iter_add, h]
end DL
/-! contracts of the functions of days -/
namespace DL
open PySem PySem.Spec PyProof.Rows L2
def perN (cs : List Int) (x : Ck) : Nat := ((List.range (cs.length + 1)).find? fun n => decide (iterN cs (n + 1) x = x)).getD 0 + 1
theorem per_spec {cs : List Int} {x : Ck} (h : IsCase cs x) : 0 < perN cs x ∧ perN cs x ≤ cs.length + 1 ∧ iterN cs (perN cs x) x = x ∧ ∀ q, 0 < q → q < perN cs x → iterN cs q x ≠ x := by
  obtain ⟨p, p0, pl, e, no⟩ := least_period h
  have f : (List.range (cs.length + 1)).find? (fun n => decide (iterN cs (n + 1) x = x)) = some (p - 1) := by
    rw [List.find?_range_eq_some]
    refine ⟨by simpa [show p - 1 + 1 = p by omega] using e, by simp; omega, fun j hj => ?_⟩
    simpa using no (j + 1) (by omega) (by omega)
  have ep : perN cs x = p := by
    unfold perN
    rw [f]
    simp; omega
  rw [ep]
  exact ⟨p0, pl, e, no⟩
theorem per_is {cs : List Int} {x : Ck} {p : Nat} (h : IsCase cs x) (p0 : 0 < p) (e : iterN cs p x = x) (no : ∀ q, 0 < q → q < p → iterN cs q x ≠ x) : perN cs x = p := by
  obtain ⟨a, _, b, c⟩ := per_spec h
  rcases Nat.lt_trichotomy (perN cs x) p with l | l | l
  · exact absurd b (no _ a l)
  · exact l
  · exact absurd e (c _ p0 l)
/-- the cases of calls, by the cars in ascending order -/
structure Cars (cs L : List Int) : Prop where
  asc : L.Pairwise (· < ·)
  mem : ∀ i, i ∈ L ↔ i ∈ cs
def keysN (L : List Int) : List Ck := none :: L.map some
abbrev dayD (cs L : List Int) : D := .dic (keysN L) ((keysN L).map fun x => ckD (dayN cs x))
theorem mem_keys {cs L : List Int} (h : Cars cs L) {x : Ck} : x ∈ keysN L ↔ IsCase cs x := by
  unfold keysN IsCase
  cases x with
  | none => simp
  | some y => simp [h.mem]
theorem keys_nodup {cs L : List Int} (h : Cars cs L) : (keysN L).Nodup := by
  unfold keysN
  refine List.nodup_cons.mpr ⟨by simp, ?_⟩
  rw [List.nodup_iff_pairwise_ne, List.pairwise_map]
  exact h.asc.imp fun {a b} l e => by cases e; omega
theorem dic_map {ks : List Ck} {f : Ck → D} {x : Ck} (h : x ∈ ks) : dicAt ks (ks.map f) x = some (f x) := by
  induction ks with
  | nil => cases h
  | cons k ks ih =>
    rw [List.map_cons]
    unfold dicAt
    by_cases e : k = x
    · subst e; rw [if_pos rfl]
    · rw [if_neg e]
      exact ih (by rcases List.mem_cons.mp h with q | q; exact absurd q.symm e; exact q)
theorem cars_few {cs L : List Int} (h : CallsN cs) (g : ∀ i ∈ L, i ∈ cs) (nd : L.Nodup) : L.length ≤ 60 := cars60 ⟨fun n hn => h.cars n (g n hn), nd⟩
def c_play : Cn := fun ds S k _ => ∃ ns cs, ds = [tupI ns, tupI cs] ∧ LaneN ns ∧ CallsN cs ∧ k (tupI (playN ns cs)) S
def c_fixed_size : Cn := fun ds S k _ => ∃ ns cs, ds = [tupI ns, tupI cs] ∧ LaneN ns ∧ CallsN cs ∧ k (.int ((fixN ns cs).length : Nat)) S
def c_fixed_part : Cn := fun ds S k _ => ∃ ns cs, ds = [tupI ns, tupI cs] ∧ LaneN ns ∧ CallsN cs ∧ k (tupI (fixN ns cs)) S
def c_case_of : Cn := fun ds S k _ => ∃ ns cs, ds = [tupI ns, tupI cs] ∧ LaneN ns ∧ CallsN cs ∧ k (ckD (caseN ns cs)) S
def c_after_calls : Cn := c_play
def c_cases_of : Cn := fun ds S k _ => ∃ cs, ds = [tupI cs] ∧ CallsN cs ∧ ∀ L p, Cars cs L → S p = none → k (.ref p) (S.upd p (.lst ((keysN L).map ckD)))
def c_case_after : Cn := fun ds S k _ => ∃ x cs, ds = [ckD x, tupI cs] ∧ CallsN cs ∧ k (ckD (dayN cs x)) S
def c_check_case : Cn := fun ds S k _ => ∃ x cs, ds = [ckD x, tupI cs] ∧ CallsN cs ∧ IsCase cs x ∧ k .non S
def c_end_lane : Cn := fun ds S k _ => ∃ cs x, ds = [tupI cs, ckD x] ∧ CallsN cs ∧ IsCase cs x ∧ k (tupI (endN cs x)) S
def c_day_map : Cn := fun ds S k _ => ∃ cs, ds = [tupI cs] ∧ CallsN cs ∧ ∀ L, Cars cs L → k (dayD cs L) S
def c_cycle_from : Cn := fun ds S k _ => ∃ cs L x, ds = [dayD cs L, ckD x] ∧ CallsN cs ∧ Cars cs L ∧ IsCase cs x ∧ ∀ p, S p = none → k (.ref p) (S.upd p (.lst ((cycN cs (perN cs x) x).map ckD)))
def c_period : Cn := fun ds S k _ => ∃ ns cs, ds = [tupI ns, tupI cs] ∧ LaneN ns ∧ CallsN cs ∧ k (.int (perN cs (caseN ns cs) : Nat)) S
theorem play_lane {ns : List Int} (h : LaneN ns) : ∀ {cs : List Int}, (∀ c ∈ cs, Car c) → LaneN (playN ns cs) := by
  intro cs
  induction cs generalizing ns with
  | nil => intro _; exact h
  | cons c cs ih => intro g; exact ih (lane_step h (g c (List.mem_cons_self ..))) fun d hd => g d (List.mem_cons_of_mem _ hd)
theorem play_take {ns cs : List Int} {i : Nat} (hi : i < cs.length) : stepN (playN ns (cs.take i)) cs[i] = playN ns (cs.take (i + 1)) := by
  unfold playN
  rw [List.take_add_one, List.getElem?_eq_getElem hi, List.foldl_append]; rfl
theorem case_take {x : Ck} {cs : List Int} {i : Nat} (hi : i < cs.length) : exN (dayN (cs.take i) x) cs[i] = dayN (cs.take (i + 1)) x := by
  unfold dayN
  rw [List.take_add_one, List.getElem?_eq_getElem hi, List.foldl_append]; rfl
end DL
namespace DL
open PySem PySem.Spec PyProof.Rows L2
theorem isN_ck {neg : Bool} {x : Ck} {S : Sto} {k : RK} (q : k (.bl (neg ^^ x.isNone)) S) : isN neg (ckD x) .non S k := by
  cases x <;> exact q
theorem eq_ck {neg : Bool} {x y : Ck} {S : Sto} {k : RK} (q : k (.bl (neg ^^ decide (x = y))) S) : eqD neg (ckD x) (ckD y) S k := by
  cases x with
  | none =>
    cases y with
    | none => rw [decide_eq_true rfl] at q; exact q
    | some j => rw [decide_eq_false (by simp)] at q; exact q
  | some i =>
    cases y with
    | none => rw [decide_eq_false (by simp)] at q; exact q
    | some j =>
      have e : decide ((some i : Ck) = some j) = decide (i = j) := by rw [decide_eq_decide]; simp
      rw [e] at q
      exact q
theorem eq_cki {neg : Bool} {x : Ck} {j : Int} {S : Sto} {k : RK} (q : k (.bl (neg ^^ decide (x = some j))) S) : eqD neg (ckD x) (.int j) S k := eq_ck (y := some j) q
theorem kind_ck {S : Sto} {x : Ck} : (kindD S (ckD x)).isSome = true := by cases x <;> rfl
theorem ints_ck (L : List Int) : L.map D.int = (L.map some).map ckD := by rw [List.map_map]; rfl
theorem keys_ck (L : List Int) : D.non :: L.map D.int = (keysN L).map ckD := by
  unfold keysN; rw [List.map_cons, ← ints_ck]; rfl
theorem asc_nodup {L : List Int} (h : L.Pairwise (· < ·)) : L.Nodup := by
  rw [List.nodup_iff_pairwise_ne]
  exact h.imp fun {a b} l e => by omega
theorem fix_take {ns cs : List Int} {i : Nat} (hi : i < ns.length) (fx : fixN (ns.take i) cs = ns.take i) (h : ns[i] ∉ cs) : fixN (ns.take (i + 1)) cs = ns.take (i + 1) := by
  have e : ns.take (i + 1) = ns.take i ++ [ns[i]] := by rw [List.take_add_one, List.getElem?_eq_getElem hi]; rfl
  have out : ∀ n ∈ ns.take i, n ∉ cs := fun n hn => fix_out (ns := ns.take i) (by rw [fx]; exact hn)
  rw [e, fix_app out]
  congr 1
  unfold fixN
  rw [List.takeWhile_cons, if_pos (by simpa using h)]; rfl
theorem fix_here {ns cs : List Int} {i : Nat} (hi : i < ns.length) (fx : fixN (ns.take i) cs = ns.take i) (h : ns[i] ∈ cs) : (fixN ns cs).length = i := by
  have out : ∀ n ∈ ns.take i, n ∉ cs := fun n hn => fix_out (ns := ns.take i) (by rw [fx]; exact hn)
  have e : ns = ns.take i ++ ns.drop i := (List.take_append_drop i ns).symm
  have d : ns.drop i = ns[i] :: ns.drop (i + 1) := List.drop_eq_getElem_cons hi
  have f : fixN ns cs = ns.take i := by
    conv => lhs; rw [e]
    rw [fix_app out, d]
    unfold fixN
    rw [List.takeWhile_cons, if_neg (by simpa using h), List.append_nil]
  rw [f, List.length_take]; omega
end DL
namespace DL
open PySem PySem.Spec PyProof.Rows L2
theorem cyc_succ (cs : List Int) (n : Nat) (x : Ck) : cycN cs (n + 1) x = cycN cs n x ++ [iterN cs n x] := by
  unfold cycN
  rw [List.range_succ, List.map_append]; rfl
theorem ixDk_day {cs L : List Int} {x : Ck} {S : Sto} {k : RK} (hL : Cars cs L) (hx : IsCase cs x) (q : k (ckD (dayN cs x)) S) : ixDk (dayD cs L) (ckD x) S k := ⟨_, _, x, _, rfl, rfl, dic_map (f := fun x => ckD (dayN cs x)) ((mem_keys hL).mpr hx), q⟩
theorem app_ref {l : Addr} {xs : List D} {d : D} {S : Sto} {k : RK} (h : S l = some (.lst xs)) (hl : xs.length < sizeLine) (q : k .non (S.upd l (.lst (xs ++ [d])))) : appendD (.ref l) [d] S k := by
  unfold appendD
  simp only [h]
  exact ⟨hl, q⟩
theorem Cars.ex (cs : List Int) : ∃ L, Cars cs L := by
  have ins : ∀ (L : List Int) (c : Int), L.Pairwise (· < ·) → ∃ M : List Int, M.Pairwise (· < ·) ∧ ∀ i, i ∈ M ↔ i = c ∨ i ∈ L := by
    intro L c
    induction L with
    | nil => intro _; exact ⟨[c], List.pairwise_singleton .., fun i => by simp⟩
    | cons y L ih =>
      intro h
      have ⟨h1, h2⟩ := List.pairwise_cons.mp h
      rcases Int.lt_trichotomy c y with l | l | l
      · exact ⟨c :: y :: L, List.pairwise_cons.mpr ⟨fun z hz => by
          rcases List.mem_cons.mp hz with rfl | q
          · exact l
          · exact Int.lt_trans l (h1 z q), h⟩, fun i => by simp⟩
      · exact ⟨y :: L, h, fun i => by simp [l]⟩
      · obtain ⟨M, m1, m2⟩ := ih h2
        exact ⟨y :: M, List.pairwise_cons.mpr ⟨fun z hz => by
          rcases (m2 z).mp hz with rfl | q
          · exact l
          · exact h1 z q, m1⟩, fun i => by simp [m2]; constructor <;> (rintro (a | a | a) <;> simp [a])⟩
  induction cs with
  | nil => exact ⟨[], .nil, fun i => Iff.rfl⟩
  | cons c cs ih =>
    obtain ⟨L, hL⟩ := ih
    obtain ⟨M, m1, m2⟩ := ins L c hL.asc
    exact ⟨M, m1, fun i => by rw [m2, hL.mem]; simp⟩
theorem Cars.one {cs L M : List Int} (a : Cars cs L) (b : Cars cs M) : L = M := by
  have go : ∀ {L M : List Int}, L.Pairwise (· < ·) → M.Pairwise (· < ·) → (∀ i, i ∈ L ↔ i ∈ M) → L = M := by
    intro L
    induction L with
    | nil =>
      intro M _ _ h
      cases M with
      | nil => rfl
      | cons m M => exact absurd ((h m).mpr (List.mem_cons_self ..)) List.not_mem_nil
    | cons x L ih =>
      intro M hl hm h
      cases M with
      | nil => exact absurd ((h x).mp (List.mem_cons_self ..)) List.not_mem_nil
      | cons y M =>
        obtain ⟨l1, l2⟩ := List.pairwise_cons.mp hl
        obtain ⟨m1, m2⟩ := List.pairwise_cons.mp hm
        have e : x = y := by
          rcases List.mem_cons.mp ((h x).mp (List.mem_cons_self ..)) with q | q
          · exact q
          · rcases List.mem_cons.mp ((h y).mpr (List.mem_cons_self ..)) with r | r
            · exact r.symm
            · have := m1 x q
              have := l1 y r
              omega
        subst e
        congr 1
        refine ih l2 m2 fun i => ?_
        have hi := h i
        simp only [List.mem_cons] at hi
        constructor
        · intro z
          rcases hi.mp (.inr z) with q | q
          · have := l1 i z; omega
          · exact q
        · intro z
          rcases hi.mpr (.inr z) with q | q
          · have := m1 i z; omega
          · exact q
  exact go a.asc b.asc fun i => (a.mem i).trans (b.mem i).symm
end DL
namespace DL
open PySem PySem.Spec PyProof.Rows L2
def c_check_days : Cn := fun ds S k _ => ∃ n : Int, ds = [.int n] ∧ 0 ≤ n ∧ n ≤ 10 ^ 30 ∧ k .non S
def c_after_days : Cn := fun ds S k _ => ∃ ns cs n, ds = [tupI ns, tupI cs, .int n] ∧ LaneN ns ∧ CallsN cs ∧ 0 ≤ n ∧ n ≤ 10 ^ 30 ∧ k (tupI (daysN cs n.toNat ns)) S
theorem cyc_get {cs : List Int} {x : Ck} {p n : Nat} (h : n < p) : (cycN cs p x)[n]? = some (iterN cs n x) := by
  unfold cycN
  rw [List.getElem?_map, List.getElem?_range h]; rfl
theorem end_len {cs : List Int} {x : Ck} (h : CallsN cs) (hx : IsCase cs x) : LaneN (endN cs x) := by
  unfold endN
  refine play_lane ?_ h.cars
  cases x with
  | none => exact ⟨fun _ z => (nomatch z), List.nodup_nil⟩
  | some c => exact ⟨fun n z => by rw [List.mem_singleton.mp z]; exact h.cars c (hx c rfl), List.nodup_cons.mpr ⟨List.not_mem_nil, List.nodup_nil⟩⟩
end DL
namespace DL
open PySem PySem.Spec PyProof.Rows L2
/-! ### rows of cases, compared and shown -/
theorem eqv_ck (a b : Ck) : PyData.eqv (ckP a) (ckP b) = decide (a = b) := by
  cases a with
  | none =>
    cases b with
    | none => simp [ckP, PyData.eqv]
    | some j => simp [ckP, PyData.eqv]
  | some i =>
    cases b with
    | none => simp [ckP, PyData.eqv]
    | some j =>
      simp only [ckP, PyData.eqv]
      by_cases h : i = j
      · subst h; simp
      · simp [h]
theorem eqv_rows : ∀ a b : List Ck, PyData.eqvAll (a.map ckP) (b.map ckP) = decide (a = b)
  | [], [] => by simp [PyData.eqvAll]
  | [], _ :: _ => by simp [PyData.eqvAll]
  | _ :: _, [] => by simp [PyData.eqvAll]
  | x :: a, y :: b => by
    rw [List.map_cons, List.map_cons, PyData.eqvAll, eqv_ck, eqv_rows a b]
    by_cases h : x = y
    · subst h; simp
    · simp [h]
theorem py_ck {S : Sto} (x : Ck) : Py S (ckD x) (ckP x) := by
  cases x with
  | none => exact .non
  | some i => exact .int i
theorem pyl_ck {S : Sto} : ∀ a : List Ck, PyL S (a.map ckD) (a.map ckP)
  | [] => .nil
  | x :: a => .cons (py_ck x) (pyl_ck a)
theorem lay_ck : ∀ a : List Ck, PyData.canLayAll0 (a.map ckP) = true
  | [] => by simp [PyData.canLayAll0]
  | x :: a => by
    rw [List.map_cons, PyData.canLayAll0, lay_ck a]
    cases x <;> simp [ckP, PyData.canLay0]
theorem dep_ck : ∀ a : List Ck, PyData.depthAll (a.map ckP) = 0
  | [] => by simp [PyData.depthAll]
  | x :: a => by
    rw [List.map_cons, PyData.depthAll, dep_ck a]
    cases x <;> simp [ckP, PyData.depth]
theorem shaped_tup (a : List Ck) : SeqAt.shaped (.tuple (a.map ckP)) = true := by
  unfold SeqAt.shaped
  rw [Bool.and_eq_true, decide_eq_true_eq]
  exact ⟨by simpa only [PyData.canLay0] using lay_ck a, by simp [PyData.depth, dep_ck]⟩
theorem shaped_lst (a : List Ck) : SeqAt.shaped (.list (a.map ckP)) = true := by
  unfold SeqAt.shaped
  rw [Bool.and_eq_true, decide_eq_true_eq]
  exact ⟨by simpa only [PyData.canLay0] using lay_ck a, by simp [PyData.depth, dep_ck]⟩
theorem shaped_ck (x : Ck) : SeqAt.shaped (ckP x) = true := by
  unfold SeqAt.shaped
  cases x <;> simp [ckP, PyData.canLay0, PyData.depth]
theorem some_inj {a b : List Int} : decide (a.map some = b.map some) = decide (a = b) := by
  rw [decide_eq_decide]
  constructor
  · intro h
    have := congrArg (List.map (Option.getD · 0)) h
    simpa [List.map_map, Function.comp_def] using this
  · intro h; rw [h]
/-- tuples of ints -/
theorem eq_tup {neg : Bool} {a b : List Int} {S : Sto} {k : RK} (q : k (.bl (neg ^^ decide (a = b))) S) : eqD neg (tupI a) (tupI b) S k := by
  have ea : a.map D.int = (a.map some).map ckD := ints_ck a
  have eb : b.map D.int = (b.map some).map ckD := ints_ck b
  show eqG neg (.tup (a.map D.int)) (.tup (b.map D.int)) S k
  rw [ea, eb]
  refine ⟨_, _, .tup (pyl_ck _), .tup (pyl_ck _), shaped_tup _, shaped_tup _, ?_⟩
  rw [PyData.eqv, eqv_rows, some_inj]
  exact q
/-- a case among a list of cases -/
theorem in_row {neg : Bool} {x : Ck} {a : List Ck} {y : D} {S : Sto} {k : RK} (hy : Py S y (.list (a.map ckP))) (q : k (.bl (neg ^^ decide (x ∈ a))) S) : inD neg (ckD x) y S k := by
  refine .inr ⟨ckP x, a.map ckP, py_ck x, hy, shaped_ck x, shaped_lst a, ?_⟩
  have e : ((a.map ckP).any fun z => PyData.eqv z (ckP x)) = decide (x ∈ a) := by
    rw [List.any_map, Bool.eq_iff_iff, List.any_eq_true, decide_eq_true_iff]
    constructor
    · rintro ⟨z, hz, e⟩
      have : PyData.eqv (ckP z) (ckP x) = true := e
      rw [eqv_ck, decide_eq_true_iff] at this
      rw [← this]; exact hz
    · intro h
      exact ⟨x, h, by show PyData.eqv (ckP x) (ckP x) = true; rw [eqv_ck]; simp⟩
  rw [e]; exact q
end DL
namespace DL
open PySem PySem.Spec PyProof.Rows L2
/-! ### the cycles of the day map, in the order of their first cases -/
def cycsN (cs : List Int) : List Ck → List (List Ck) → List (List Ck)
  | [], acc => acc
  | x :: xs, acc => if x ∈ acc.flatten then cycsN cs xs acc else cycsN cs xs (acc ++ [cycN cs (perN cs x) x])
theorem cycs_snoc {cs : List Int} : ∀ {xs : List Ck} {x : Ck} {acc : List (List Ck)}, cycsN cs (xs ++ [x]) acc = if x ∈ (cycsN cs xs acc).flatten then cycsN cs xs acc else cycsN cs xs acc ++ [cycN cs (perN cs x) x]
  | [], x, acc => by
    rfl
  | y :: xs, x, acc => by
    rw [List.cons_append]
    unfold cycsN
    by_cases h : y ∈ acc.flatten
    · rw [if_pos h, if_pos h]; exact cycs_snoc
    · rw [if_neg h, if_neg h]; exact cycs_snoc
/-- the store holds the rows at the places qs -/
def Rows (S : Sto) (qs : List Addr) (rows : List (List Ck)) : Prop := qs.length = rows.length ∧ ∀ (i : Nat) (q : Addr) (r : List Ck), qs[i]? = some q → rows[i]? = some r → S q = some (.lst (r.map ckD))
theorem Rows.nil {S : Sto} : Rows S [] [] := ⟨rfl, fun i q r h => by simp at h⟩
theorem Rows.snoc {S S' : Sto} {qs : List Addr} {rows : List (List Ck)} {q : Addr} {r : List Ck} (h : Rows S qs rows) (k : ∀ p ∈ qs, ∀ o, S p = some o → S' p = some o) (e : S' q = some (.lst (r.map ckD))) : Rows S' (qs ++ [q]) (rows ++ [r]) := by
  obtain ⟨l, g⟩ := h
  refine ⟨by simp [l], fun i p t hp ht => ?_⟩
  by_cases hi : i < qs.length
  · rw [List.getElem?_append_left hi] at hp
    rw [List.getElem?_append_left (by omega)] at ht
    exact k p (List.mem_of_getElem? hp) _ (g i p t hp ht)
  · rw [List.getElem?_append_right (by omega)] at hp
    rw [List.getElem?_append_right (by omega)] at ht
    have i0 : i - qs.length = 0 := by
      have := (List.getElem?_eq_some_iff.mp hp).1
      simp at this; omega
    rw [i0] at hp
    rw [← l, i0] at ht
    simp at hp ht
    subst hp ht
    exact e
theorem Rows.keep {S S' : Sto} {qs : List Addr} {rows : List (List Ck)} (h : Rows S qs rows) (k : ∀ p ∈ qs, ∀ o, S p = some o → S' p = some o) : Rows S' qs rows := ⟨h.1, fun i q r hq hr => k q (List.mem_of_getElem? hq) _ (h.2 i q r hq hr)⟩
def c_cycles_of : Cn := fun ds S k _ => ∃ cs, ds = [tupI cs] ∧ CallsN cs ∧ ∀ L p qs S', Cars cs L → Sub S S' → S p = none → S' p = some (.lst (qs.map D.ref)) → (∀ q ∈ qs, S q = none ∧ q ≠ p) → Rows S' qs (cycsN cs (keysN L) []) → k (.ref p) S'
end DL
namespace DL
open PySem PySem.Spec PyProof.Rows L2
theorem cyc_mem {cs : List Int} {y z : Ck} (h : IsCase cs y) : z ∈ cycN cs (perN cs y) y ↔ ∃ n, z = iterN cs n y := by
  obtain ⟨p0, _, pe, _⟩ := per_spec h
  unfold cycN
  constructor
  · intro m
    obtain ⟨n, _, rfl⟩ := List.mem_map.mp m
    exact ⟨n, rfl⟩
  · rintro ⟨n, rfl⟩
    rw [iter_mod pe]
    exact List.mem_map.mpr ⟨n % perN cs y, List.mem_range.mpr (Nat.mod_lt _ p0), rfl⟩
/-- back again -/
theorem iter_back {cs : List Int} {x : Ck} (h : IsCase cs x) (k : Nat) : ∃ m, iterN cs m (iterN cs k x) = x := by
  obtain ⟨p0, _, pe, _⟩ := per_spec h
  refine ⟨perN cs x * k - k, ?_⟩
  rw [← iter_add]
  have e : perN cs x * k - k + k = perN cs x * k := by
    have : k ≤ perN cs x * k := Nat.le_mul_of_pos_left k p0
    omega
  rw [e, iter_mul pe]
structure Closed (cs : List Int) (acc : List (List Ck)) : Prop where
  nd : acc.flatten.Nodup
  cl : ∀ z ∈ acc.flatten, ∀ n, iterN cs n z ∈ acc.flatten
  ca : ∀ z ∈ acc.flatten, IsCase cs z
theorem Closed.nil (cs : List Int) : Closed cs [] := ⟨List.nodup_nil, fun _ z => (nomatch z), fun _ z => (nomatch z)⟩
theorem Closed.snoc {cs : List Int} {acc : List (List Ck)} {x : Ck} (h : Closed cs acc) (hx : IsCase cs x) (n : x ∉ acc.flatten) : Closed cs (acc ++ [cycN cs (perN cs x) x]) := by
  have fl : (acc ++ [cycN cs (perN cs x) x]).flatten = acc.flatten ++ cycN cs (perN cs x) x := by simp
  have apart : ∀ z ∈ cycN cs (perN cs x) x, z ∉ acc.flatten := fun z hz m => by
    obtain ⟨k, rfl⟩ := (cyc_mem hx).mp hz
    obtain ⟨j, e⟩ := iter_back hx k
    have := h.cl _ m j
    rw [e] at this
    exact n this
  refine ⟨?_, ?_, ?_⟩
  · rw [fl, List.nodup_append]
    exact ⟨h.nd, cyc_nodup (per_spec hx).2.2.2, fun a ha b hb e => apart b hb (e ▸ ha)⟩
  · intro z hz k
    rw [fl] at hz ⊢
    rcases List.mem_append.mp hz with m | m
    · exact List.mem_append_left _ (h.cl z m k)
    · refine List.mem_append_right _ ?_
      obtain ⟨j, rfl⟩ := (cyc_mem hx).mp m
      exact (cyc_mem hx).mpr ⟨k + j, (iter_add cs k j x).symm⟩
  · intro z hz
    rw [fl] at hz
    rcases List.mem_append.mp hz with m | m
    · exact h.ca z m
    · obtain ⟨j, rfl⟩ := (cyc_mem hx).mp m
      exact iter_case hx
theorem cycs_closed {cs L : List Int} (hL : Cars cs L) : ∀ i, Closed cs (cycsN cs ((keysN L).take i) [])
  | 0 => by rw [List.take_zero]; exact Closed.nil cs
  | i + 1 => by
    by_cases hi : i < (keysN L).length
    · rw [List.take_add_one, List.getElem?_eq_getElem hi]
      show Closed cs (cycsN cs ((keysN L).take i ++ [(keysN L)[i]]) [])
      rw [cycs_snoc]
      by_cases m : (keysN L)[i] ∈ (cycsN cs ((keysN L).take i) []).flatten
      · rw [if_pos m]; exact cycs_closed hL i
      · rw [if_neg m]
        exact (cycs_closed hL i).snoc ((mem_keys hL).mp (List.getElem_mem hi)) m
    · rw [List.take_of_length_le (by omega), ← List.take_of_length_le (show (keysN L).length ≤ i by omega)]
      exact cycs_closed hL i
theorem closed_few {cs L : List Int} {acc : List (List Ck)} (hL : Cars cs L) (h : CallsN cs) (c : Closed cs acc) : acc.flatten.length ≤ 61 := by
  have := nd_leK (M := keysN L) c.nd fun z hz => (mem_keys hL).mpr (c.ca z hz)
  have few := cars_few h (fun i hi => (hL.mem i).mp hi) (asc_nodup hL.asc)
  have e : (keysN L).length = L.length + 1 := by simp [keysN]
  omega
end DL
namespace DL
open PySem PySem.Spec PyProof.Rows L2
theorem cycs_len {cs : List Int} : ∀ {xs : List Ck} {acc : List (List Ck)}, (cycsN cs xs acc).length ≤ acc.length + xs.length
  | [], acc => Nat.le_refl _
  | x :: xs, acc => by
    unfold cycsN
    by_cases h : x ∈ acc.flatten
    · rw [if_pos h]
      have := cycs_len (cs := cs) (xs := xs) (acc := acc)
      rw [List.length_cons]; omega
    · rw [if_neg h]
      have := cycs_len (cs := cs) (xs := xs) (acc := acc ++ [cycN cs (perN cs x) x])
      rw [List.length_append] at this
      simp at this
      rw [List.length_cons]; omega
end DL
namespace DL
open PySem PySem.Spec PyProof.Rows L2
def c_case_ending_in : Cn := fun ds S k _ => ∃ cs x, ds = [tupI (endN cs x), tupI cs] ∧ CallsN cs ∧ IsCase cs x ∧ k (ckD x) S
def c_day_before : Cn := fun ds S k _ => ∃ cs x, ds = [tupI (endN cs x), tupI cs] ∧ CallsN cs ∧ IsCase cs x ∧ k (tupI (endN cs (iterN cs (perN cs x - 1) x))) S
end DL
/-! own defs called with keywords -/
namespace DL
open PySem PySem.Spec PyProof.Rows L2
section
variable {X : Cx} {e : Expr} {re : RT} {rl rk : RTa} {kws : List Keyword} {es : List Expr} {p pos kpos : Pos}
def RK1 (X : Cx) (kws : List Keyword) (r : RTa) : Prop := PK X kws (tA X.K r)
theorem PK.imp {t t' : TA} (h : PK X kws t) (i : ∀ σ H Q, t' σ H Q → t σ H Q) : PK X kws t' := ⟨fun pos pins s σ H Q I q => h.run pos pins s σ H Q I (i σ H Q q)⟩
theorem rk_nil : RK1 X [] rNil := PK.imp pk_nil fun σ H Q ⟨env, S, k, hE, hS, q, c⟩ => c _ _ _ _ q Stp.refl .nil hS
theorem rk_cons {nm : Option Str} (ha : RE X e re) (hr : RK1 X kws rl) : RK1 X (⟨nm, e, kpos⟩ :: kws) (rCons re rl) := by
  refine PK.imp (pk_cons ha hr) fun σ H Q ⟨env, S, k, hE, hS, q, c⟩ => ?_
  refine ⟨env, S, _, hE, hS, q, fun d S1 v H1 q1 st r hS1 => ?_⟩
  refine ⟨env, S1, _, hE.mon (st.mon hS), hS1, q1, fun ds S2 vs H2 q2 st2 r2 hS2 => ?_⟩
  exact c _ _ _ _ q2 (st.trans st2) (.cons (r.mon (st2.mon hS1)) r2) hS2
/-- the def x, called with n values and the keywords ks, keeps C -/
def CalleeK (P : Program) (w : World) (K : PySem.W.Frag) (mg : Str → Option Value) (base : Heap) (CX : CXT) (k : Nat) (x : Str) (n : Nat) (ks : List Str) (C : Cn) : Prop :=
  ∃ f fd ps, FnG P w K mg base CX k f fd ps (spD K (n + ks.length) C) ∧ mg x = some (.ref f) ∧ PySem.W.keepIn K (.ref f) = true ∧ KBn K fd ps n ks (fun us ws => us ++ ws) (fun vs zs => vs ++ zs)
theorem runGK {CX : CXT} {k n : Nat} {f : Addr} {fd : FuncData} {ps ks : List Str} {sp : Sp} {g : List Value → List Value → List Value} {gV : List V → List V → List V} {E : XK} {Q : VK} {pins : List (Addr × Obj)} {s : Shared} {σ : L2.St} {H : Hp} {us ws : List Value} {vs zs : List V}
    (F : FnG X.prog X.w X.K X.mg X.base CX k f fd ps sp) (hr : RoomG k X.A) (hb : KBn X.K fd ps n ks g gV) (hx : Passes CX X E) (I : Inv X pins σ H s) (r : Vals vs us) (rz : Vals zs ws) (l1 : vs.length = n) (l2 : zs.length = ks.length) (h : sp (gV vs zs) H Q E) :
    wpAny (model X.prog X.w) X.A (call (.ref f) us (ks.zip ws)) (EP X pins σ Q) X.xe s := by
  have both := hb.rel r rz
  refine wpAny_call (codeAny_mono (F.go X.A X.stack s H ⟨us, ks.zip ws⟩ (g us ws) (gV vs zs) Q E hr.r hr.g I.env0 (hb.to s us ws I.kIn (r.length.symm.trans l1) (rz.length.symm.trans l2)) both h) fun res s2 z => ?_)
  match res, z with
  | .error ev, z => exact hx pins σ H s ev s2 I z
  | .ok (.ret _), z => exact I.after z
  | .ok .next, z => exact z.elim
  | .ok .brk, z => exact z.elim
  | .ok .cont, z => exact z.elim
def rCallK (n m : Nat) (C : Cn) (rl rk : RTa) : RT := fun env S k => rl env S fun ds S1 => rk env S1 fun zs S2 => ds.length = n ∧ zs.length = m ∧ C (ds ++ zs) S2 k noX
theorem re_callK {k n : Nat} {x : Str} {ks : List Str} {C : Cn} (F : CalleeK X.prog X.w X.K X.mg X.base CX0 k x n ks C) (hr : RoomG k X.A) (hg : Gl X x) (ha : RA X (e :: es) rl) (hkw : RK1 X kws rk)
    (hall : (backToKw pos (keywordEach kws X.env)).all (·.1.isSome) = true := by rfl) (hks : (backToKw pos (keywordEach kws X.env)).filterMap (·.1) = ks := by rfl)
    (hdb : (x == ("__debug__" : Str)) = false := by decide) (he : starEach (e :: es) X.env = (false, eval e X.env) :: starEach es X.env := by rfl)
    (hpl : ((backTo pos (starEach (e :: es) X.env)).any (·.1) || (backToKw pos (keywordEach kws X.env)).any (·.1.isNone)) = false := by rfl) : RE X (.Call (.Name x p) (e :: es) kws pos) (rCallK n ks.length C rl rk) := by
  obtain ⟨f, fd, ps, G, hm, hk, hb⟩ := F
  constructor
  rintro pins s σ H Q I ⟨env, S, kk, hE, hS, q, cl⟩
  refine wpAny_Call_Name_kw (ld_glob I hg hm ?_ hdb)
  refine PySem.W.callWith_KW (h₀ := X.base) I.ok.mod.kin hk hall (thn (PA.run ha pos pins s σ H (fun vs H1 => ∃ ds S1, (rk env S1 fun zs S2 => ds.length = n ∧ zs.length = ks.length ∧ C (ds ++ zs) S2 kk noX) ∧ Stp H S H1 S1 ∧ RpL X.K H1 ds vs ∧ AbsS X.K S1 H1) I
    ⟨env, S, _, hE, hS, q, fun ds S1 vs H1 q1 st r1 hS1 => ⟨ds, S1, q1, st, r1, hS1⟩⟩) fun us s1 ⟨vs, H1, I1, r, ds, S1, q1, st, rd, hS1⟩ => ?_) hpl he
  refine thn (hkw.run pos pins s1 σ H1 (fun zs H2 => ∃ es S2, (ds.length = n ∧ es.length = ks.length ∧ C (ds ++ es) S2 kk noX) ∧ Stp H1 S1 H2 S2 ∧ RpL X.K H2 es zs ∧ AbsS X.K S2 H2) I1
    ⟨env, S1, _, hE.mon (st.mon hS), hS1, q1, fun es S2 zs H2 q2 st2 r2 hS2 => ⟨es, S2, q2, st2, r2, hS2⟩⟩) fun ws s2 ⟨zs, H2, I2, rz, es', S2, ⟨l1, l2, q2⟩, st2, rz2, hS2⟩ => ⟨I2.kIn, ?_⟩
  rw [hks]
  refine runGK G hr hb (pass0 (X := X)) I2 r rz (by rw [← rd.length, l1]) (by rw [← rz2.length, l2]) ?_
  exact ⟨ds ++ es', S2, kk, noX, by rw [List.length_append, l1, l2], (rd.mon (st2.mon hS1)).append rz2, hS2, q2, (cl.after st).after st2, fun _ _ _ z => z.elim⟩
/-- a def of the text that is called with keywords -/
structure DefAtK (K : PySem.W.Frag) (mg : Str → Option Value) (x : Str) (st : Stmt) (ps : List Str) (n : Nat) (ks : List Str) : Prop where
  ex : ∃ f fd, Fun K x x st f fd ∧ mg x = some (.ref f) ∧ KBn K fd ps n ks (fun us ws => us ++ ws) (fun vs zs => vs ++ zs)
theorem mkCalleeK {P : Program} {w : World} {K : PySem.W.Frag} {mg : Str → Option Value} {base : Heap} {k : Nat} {x : Str} {st : Stmt} {N ps ks : List Str} {n : Nat} {C : Cn} (F : DefAtK K mg x st ps n ks) (Sc : FnScope N ps (defScope st)) (hn : ps.length = n + ks.length)
    (r : RTs) (hd : ∀ (cdv : Value) (A : Around) (outer : List Env) (s : Shared) (H : Hp) (E : XK) (f : Addr), RoomG k (A.deeper (envOfC x (defScope st) s.heap.objs.size f cdv)) → RSs (cxOf CX0 P w K mg base N x (defScope st) f cdv A outer s H E).nox (defBody st) r)
    (hs : ∀ ds S kk, ds.length = n + ks.length → C ds S kk noX → r (endOf kk) (DL.envOf N ds) S) (hx : ∀ ds S kk ek, C ds S kk ek → C ds S kk noX) : CalleeK P w K mg base CX0 (k + 1) x n ks C := by
  obtain ⟨f, fd, F, hm, hb⟩ := F.ex
  exact ⟨f, fd, ps, mkFnG F Sc (n + ks.length) hn r hd hs hx, hm, F.kp, hb⟩
theorem def_atK {K : PySem.W.Frag} {h : Heap} {mg : Str → Option Value} {x : Str} {st : Stmt} {ps ks : List Str} {n : Nat} {f : Addr} {oc : Value} {od an : Option Addr} {osl : Array (Option Value)} {kV doc pm cdv ct : Value} (X : K.In h) (G : h.Ns mainGlobals mg)
    (a : PySem.W.nsIn K mainGlobals x = some (some (.ref f))) (l : K.lookup f = some ⟨oc, od, .func (PySem.W.fnOf x x (defArgs st) (defBody st) (defScope st) .none kV doc pm an cdv ct), osl⟩) (c : PySem.W.codeIn K cdv x = true) (k : PySem.W.keepIn K (.ref f) = true)
    (hb : ∀ (us ws : List Value), us.length = n → ws.length = ks.length → bindArgs (PySem.W.fnOf x x (defArgs st) (defBody st) (defScope st) .none kV doc pm an cdv ct) ⟨us, ks.zip ws⟩ = pure (ps.zip (us ++ ws))) : DefAtK K mg x st ps n ks :=
  ⟨f, _, fun_mk l c k, PySem.W.mg_of X G a, ⟨fun s us ws _ l1 l2 => .of_eq (hb us ws l1 l2), fun r1 r2 => r1.append r2⟩⟩
end
end DL
/-! dicts of cases that hold the same -/
namespace DL
open PySem PySem.Spec PyProof.Rows L2
section
variable {X : Cx} {K : PySem.W.Frag} {H : Hp}
theorem RpL.cks : ∀ {vs : List Ck} {us : List V}, RpL K H (vs.map ckD) us → us = vs.map ckV
  | [], us, h => h.nil_of
  | v :: vs, us, h => by
    obtain ⟨u, r, e, p, t⟩ := RpL.cons_of (d := ckD v) (ds := vs.map ckD) h
    subst e
    rw [ck_of p, t.cks]; rfl
/-- the value of a key -/
def ckAt : List Ck → List Ck → Ck → Option Ck
  | k :: ks, v :: vs, c => if k = c then some v else ckAt ks vs c
  | _, _, _ => none
theorem ckAt_val : ∀ {ks vs : List Ck} {c v : Ck}, ckAt ks vs c = some v → valV (ks.zip (vs.map ckV)) c = some (ckV v)
  | [], _, _, _, e => by simp [ckAt] at e
  | k :: ks, [], _, _, e => by simp [ckAt] at e
  | k :: ks, x :: vs, c, v, e => by
    unfold ckAt at e
    rw [List.map_cons, List.zip_cons_cons]
    by_cases h : k = c
    · rw [if_pos h] at e; cases e
      exact valV_pos h
    · rw [if_neg h] at e
      rw [valV_neg h]
      exact ckAt_val e
/-- two dicts of the same pairs -/
structure Same2 (ks vs ls ts : List Ck) : Prop where
  l1 : ks.length = vs.length
  l2 : ls.length = ts.length
  len : ks.length = ls.length
  same : ∀ p ∈ ks.zip vs, ckAt ls ts p.1 = some p.2
def rSame (neg : Bool) : R2 := fun x y H Q => ∃ a b o u ks vs ls ts, x = .ref a ∧ y = .ref b ∧ H a = some (.frz o (dkO a (ks.zip (vs.map ckV)))) ∧ H b = some (.frz u (dkO b (ls.zip (ts.map ckV)))) ∧ Same2 ks vs ls ts ∧ Q (.bl (!neg)) H
theorem same_hits {ks vs ls ts : List Ck} (h : Same2 ks vs ls ts) : ∀ p ∈ ks.zip (vs.map ckV), valV (ls.zip (ts.map ckV)) p.1 = some p.2 ∧ flatB p.2 = true := by
  intro p hp
  rw [List.zip_map_right] at hp
  obtain ⟨q, hq, rfl⟩ := List.mem_map.mp hp
  refine ⟨ckAt_val (h.same q hq), ?_⟩
  show flatB (ckV q.2) = true
  cases q.2 <;> rfl
theorem op_neSame (hu : X.A.units < cLine) : OpR X (compareOp .NotEq) (rSame true) := by
  rintro pins s σ H x y v u Q I rx ry ⟨a, b, oa, ob, ks, vs, ls, ts, rfl, rfl, ea, eb, h, q⟩
  cases rx
  cases ry
  obtain ⟨_, _, na, va, ra, da⟩ := lk_at I ea
  obtain ⟨_, _, nb, vb, rb, db⟩ := lk_at I eb
  have z1 : (ks.zip (vs.map ckV)).length = ks.length := by rw [List.length_zip, List.length_map]; have := h.l1; omega
  have z2 : (ls.zip (ts.map ckV)).length = ls.length := by rw [List.length_zip, List.length_map]; have := h.l2; omega
  have hl : va.length = vb.length := by rw [← ra.length, ← rb.length, z1, z2]; exact h.len
  exact PySem.W.keq_ne (knd := caseK X.prog X.w) (r := true) na nb da db hu (fun _ => hits_all rb ra (same_hits h)) (fin_bl I q (by simp [hl]))
theorem op_eqSame (hu : X.A.units < cLine) : OpR X (compareOp .Eq) (rSame false) := by
  rintro pins s σ H x y v u Q I rx ry ⟨a, b, oa, ob, ks, vs, ls, ts, rfl, rfl, ea, eb, h, q⟩
  cases rx
  cases ry
  obtain ⟨_, _, na, va, ra, da⟩ := lk_at I ea
  obtain ⟨_, _, nb, vb, rb, db⟩ := lk_at I eb
  have z1 : (ks.zip (vs.map ckV)).length = ks.length := by rw [List.length_zip, List.length_map]; have := h.l1; omega
  have z2 : (ls.zip (ts.map ckV)).length = ls.length := by rw [List.length_zip, List.length_map]; have := h.l2; omega
  have hl : va.length = vb.length := by rw [← ra.length, ← rb.length, z1, z2]; exact h.len
  exact PySem.W.keq_eq (knd := caseK X.prog X.w) (r := true) na nb da db hu (fun _ => hits_all rb ra (same_hits h)) (fin_bl I q (by simp [hl]))
def sameD (neg : Bool) : F2 := fun x y S k => ∃ ks vs ls ts, x = .dic ks (vs.map ckD) ∧ y = .dic ls (ts.map ckD) ∧ Same2 ks vs ls ts ∧ k (.bl (!neg)) S
theorem same_go {neg : Bool} {x y : D} {S : Sto} {k : RK} {v u : V} {Q : VK} (q : sameD neg x y S k) (rx : Rp X.K H x v) (ry : Rp X.K H y u) (hS : AbsS X.K S H) (c : Cl X.K H S k Q) : rSame neg v u H Q := by
  obtain ⟨ks, vs, ls, ts, rfl, rfl, h, q⟩ := q
  obtain ⟨a, o, us, rfl, e1, l1, r1⟩ := rx.dic_
  obtain ⟨b, o2, ws, rfl, e2, l2, r2⟩ := ry.dic_
  have := r1.cks; subst this
  have := r2.cks; subst this
  exact ⟨a, b, o, o2, ks, vs, ls, ts, rfl, rfl, e1, e2, h, c _ _ _ _ q Stp.refl .bl hS⟩
theorem opNeDic (hu : X.A.units < cLine) : Op2 X (compareOp .NotEq) (sameD true) := ⟨_, op_neSame hu, fun x y S k v u H Q q rx ry hS c => same_go q rx ry hS c⟩
theorem opEqDic (hu : X.A.units < cLine) : Op2 X (compareOp .Eq) (sameD false) := ⟨_, op_eqSame hu, fun x y S k v u H Q q rx ry hS c => same_go q rx ry hS c⟩
end
end DL
/-! dict(list of pairs), the keys None or ints -/
namespace DL
open PySem PySem.Spec PyProof.Rows L2
section
variable {prog : Program} {w : World} {A : Around} {E : Value → Shared → Prop}
/-- the walk over the pairs: T the dict, J the iterator, src the list -/
theorem fill_pairs {R : Result → Shared → Prop} {T J src : Addr} {cells : Array Value} {out : Value} (calm : A.handled = none) (d1 : src ≠ J) (d2 : T ≠ J) (d3 : T ≠ src) :
    ∀ (todo : List (Ck × Value)) (at_ : Nat) (done : List (Ck × Value)) (ix : Int) (tk0 : Tok) (s : Shared), cells.size = at_ + todo.length → done.length + todo.length ≤ sizeLine →
      (∀ (j : Nat) (p : Ck × Value), todo[j]? = some p → ∃ (b : Addr) (u : Value), cells[at_ + j]? = some (.ref b) ∧ b ≠ T ∧ b ≠ J ∧ IsTup s.heap b #[u, p.2] ∧ (caseK prog w).is p.1 u = true) →
      s.heap.IsListIter J src at_ → s.heap.IsList src cells → s.heap.DictOf (caseK prog w) T done →
      (∀ h' tk, h'.DictOf (caseK prog w) T (merged done todo) → (∀ b o, b ≠ T → b ≠ J → s.heap.get? b = some o → h'.get? b = some o) → R (.ok (.ret out)) { s with heap := h', toks := tk }) →
      codeAny (model prog w) A (.builtin "dict.update.loop" ⟨[.ref T, .ref J, .int ix tk0, out], []⟩) R s := by
  intro todo
  induction todo with
  | nil =>
    intro at_ done ix tk0 s size room rows iter lst dic fin
    refine codeAny_builtin ud_entry ?_
    rw [Around.under_plainId ud_plain _]
    refine wpAny_bind (m := pyNext (.ref J)) (wpAny_pyNext_list_end (A := A.in1) calm iter lst (Array.getElem?_eq_none (by simp at size; omega)) fun h' ext => ?_)
    refine wpAny_bind (m := Builtin.Dict.addKeywords T []) (wpAny_pure (wpAny_pure ?_))
    exact fin h' s.toks (dic.extBut ext d2) fun b o _ nb e => ext b o nb e
  | cons p todo ih =>
    intro at_ done ix tk0 s size room rows iter lst dic fin
    obtain ⟨b, u, cb, bT, bJ, tup, isk⟩ := rows 0 p rfl
    rw [List.length_cons] at size room
    refine codeAny_builtin ud_entry ?_
    rw [Around.under_plainId ud_plain _]
    refine wpAny_bind (m := pyNext (.ref J)) (wpAny_pyNext_list_item (x := .ref b) iter lst (by simpa using cb) fun h1 iter1 same1 => ?_)
    have tup1 : IsTup h1 b #[u, p.2] := tup.extBut same1.extBut bJ
    have lst1 : h1.IsList src cells := lst.extBut same1.extBut d1
    have dic1 : h1.DictOf (caseK prog w) T done := dic.extBut same1.extBut d2
    obtain ⟨ob, at1, cls1, n1, dat1⟩ := id tup1
    refine wpAny_bind (m := holding [Value.ref b] _) (wpAny_holding (wpAny_bind (wpAny_tryCatch ?_)))
    unfold Builtin.Dict.pairItems
    refine wpAny_bind (wpAny_typeOf (T := "tuple") ⟨ob, at1, cls1⟩ ?_)
    rw [if_pos (by first | decide | rfl | simp)]
    refine wpAny_bind (wpAny_seqItems at1 dat1 (wpAny_pure ?_))
    refine wpAny_holding (vs := [u, p.2]) (m := dictSet T u p.2) (wpAny_dictSet_pairs (knd := caseK prog w) (k := p.1) isk dic1 (fun h2 dic2 same2 => ?_) (by omega))
    refine wpAny_pure ⟨plainId_quiet ud_plain _, ih (at_ + 1) (stored done p.1 p.2) (ix + 1) 0 _ (by omega) ?_ (fun j p' e => ?_) ?_ ?_ dic2 fun h' tk dd k => ?_⟩
    · have := stored_length_le done p.1 p.2
      omega
    · obtain ⟨b', u', e1, e2, e3, e4, e5⟩ := rows (j + 1) p' (by simpa using e)
      exact ⟨b', u', by rw [show at_ + 1 + j = at_ + (j + 1) by omega]; exact e1, e2, e3, (e4.extBut same1.extBut e3).extBut same2.extBut e2, e5⟩
    · exact iter1.at fun o' e => same2.extBut J o' (Ne.symm d2) e
    · exact lst1.extBut same2.extBut (Ne.symm d3)
    · exact fin h' tk dd fun c oc z1 z2 e => k c oc z1 z2 (same2.extBut c oc z1 (same1.extBut c oc z2 e))
end
end DL
namespace DL
open PySem PySem.Spec PyProof.Rows L2
section
variable {prog : Program} {w : World} {A : Around} {E : Value → Shared → Prop}
theorem new_pairs {s : Shared} {src : Addr} {ol : Obj} {cells : Array Value} {n : Nat} {todo : List (Ck × Value)} {Q : Value → Shared → Prop} (calm : A.handled = none) (at_ : s.heap.get? src = some ol) (cls : ol.cls = .type "list") (own : ol.dict = none) (dat : ol.data = .seq cells n)
    (size : cells.size = todo.length) (room : todo.length ≤ sizeLine)
    (rows : ∀ (j : Nat) (p : Ck × Value), todo[j]? = some p → ∃ (b : Addr) (u : Value), cells[j]? = some (.ref b) ∧ IsTup s.heap b #[u, p.2] ∧ (caseK prog w).is p.1 u = true)
    (fin : ∀ h' tk, h'.DictOf (caseK prog w) s.heap.objs.size (merged [] todo) → (∀ b o, s.heap.get? b = some o → h'.get? b = some o) → Q (.ref s.heap.objs.size) { s with heap := h', toks := tk }) :
    wpAny (model prog w) A (call (.type "dict") [.ref src]) Q E s := by
  refine callType_codes (Q₁ := fun obj s₁ => obj = .ref s.heap.objs.size ∧ s₁ = { s with heap := s.heap.push { cls := .type "dict", data := .dict #[] } }) PySem.F.kt_called_dict (PySem.F.kt_typeCall_dict_1 _) PySem.F.entry_dict_init (kt_code_dict_new _ ⟨rfl, rfl⟩) ?_
  rintro _ _ ⟨rfl, rfl⟩
  have fresh : (s.heap.push { cls := .type "dict", data := .dict #[] }).DictOf (caseK prog w) s.heap.objs.size [] := Heap.DictOf.new s.heap
  have old : ∀ b o, s.heap.get? b = some o → (s.heap.push { cls := .type "dict", data := .dict #[] }).get? b = some o := fun b o e => Heap.get?_push_of_some _ e
  refine ⟨fresh.typeIs, PySem.F.args_dict_init_2 _ _, ?_⟩
  unfold Builtin.«dict.__init__» Builtin.Dict.selfAndRest
  refine wpAny_bind (wpAny_bind (wpAny_notOrdered_dict fresh.typeIs (wpAny_pure ?_)))
  show wpAny _ _ (Builtin.Dict.updateFrom "dict.__init__" s.heap.objs.size (.ref src) [] .none) _ _ _
  unfold Builtin.Dict.updateFrom
  refine wpAny_bind (wpAny_typeOf (T := "list") ⟨ol, old _ _ at_, cls⟩ ?_)
  rw [if_pos (by first | decide | rfl | simp)]
  refine wpAny_bind (miss_list (old _ _ at_) cls dat own calm fun h1 tk1 kept1 => ?_)
  rw [if_pos (show (none : Option Value).isNone = true from rfl)]
  refine wpAny_bind (wpAny_rule ?_)
  have lst1 : h1.IsList src cells := ⟨ol, kept1 _ _ (old _ _ at_), cls, n, dat⟩
  have lt1 : s.heap.objs.size < h1.objs.size := Heap.lt_size (kept1 s.heap.objs.size { cls := .type "dict", data := .dict #[] } (Heap.get?_push_size _ rfl))
  refine wpAny_bind (wpAny_pyIter_list lst1 ?_)
  have kept2 : ∀ b o, h1.get? b = some o → (h1.push { cls := .type "list_iterator", data := .fields #[.ref src, .int 0 0] }).get? b = some o := fun b o e => Heap.get?_push_of_some _ e
  have lt0 : src < s.heap.objs.size := Heap.lt_size at_
  have walk := fill_pairs (prog := prog) (w := w) (A := A.in1) (R := wants (fun r s₂ => r = .none ∧ Q (.ref s.heap.objs.size) s₂) E) (T := s.heap.objs.size) (J := h1.objs.size) (src := src) (cells := cells) (out := Value.none) calm
    (Nat.ne_of_lt (Nat.lt_trans lt0 lt1)) (Nat.ne_of_lt lt1) (Nat.ne_of_gt lt0) todo 0 [] 0 0 { s with heap := h1.push { cls := .type "list_iterator", data := .fields #[.ref src, .int 0 0] }, toks := tk1 } (by omega) (by simpa using room)
    (fun j p e => by
      obtain ⟨b, u, e1, e2, e3⟩ := rows j p e
      have below : b < s.heap.objs.size := e2.lt
      exact ⟨b, u, by rw [Nat.zero_add]; exact e1, Nat.ne_of_lt below, Nat.ne_of_lt (Nat.lt_trans below lt1), e2.keeps fun c o z => kept2 _ _ (kept1 _ _ (old _ _ z)), e3⟩)
    ⟨_, Heap.get?_push_size _ rfl, rfl, rfl⟩ (lst1.at fun o e => kept2 _ _ e) ((fresh.at fun o e => kept1 _ _ e).at fun o e => kept2 _ _ e)
    fun h' tk dd k => ⟨rfl, fin h' tk dd fun b o e => by
      have := Heap.lt_size e
      exact k b o (Nat.ne_of_lt this) (Nat.ne_of_lt (Nat.lt_trans this lt1)) (kept2 _ _ (kept1 _ _ (old _ _ e)))⟩
  first
    | exact wpAny_pure ⟨plainId_quiet ud_plain _, walk⟩
    | exact wpAny_bind (wpAny_pure (wpAny_pure ⟨plainId_quiet ud_plain _, walk⟩))
end
end DL
namespace DL
open PySem PySem.Spec PyProof.Rows L2
section
variable {X : Cx} {K : PySem.W.Frag} {H : Hp}
theorem stored_new {l : List (Ck × Value)} {c : Ck} {u : Value} (h : c ∉ l.map (·.1)) : stored l c u = l ++ [(c, u)] := by
  unfold stored
  rw [if_neg]
  intro z
  rw [List.any_eq_true] at z
  obtain ⟨p, hp, e⟩ := z
  exact h (List.mem_map.mpr ⟨p, hp, of_decide_eq_true e⟩)
theorem merged_new : ∀ {m l : List (Ck × Value)}, ((l ++ m).map (·.1)).Nodup → merged l m = l ++ m
  | [], l, _ => by rw [List.append_nil]; rfl
  | p :: m, l, h => by
    show merged (stored l p.1 p.2) m = _
    have nl : p.1 ∉ l.map (·.1) := by
      rw [List.map_append, List.nodup_append] at h
      exact fun z => h.2.2 p.1 z p.1 (List.mem_cons_self ..) rfl
    rw [stored_new nl, merged_new (by rw [List.append_assoc]; exact h), List.append_assoc]; rfl
/-- the pairs behind a list of tuples -/
theorem pair_rows {pins : List (Addr × Obj)} {σ : L2.St} {s : Shared} (I : Inv X pins σ H s) : ∀ {ks : List Ck} {ds : List D} {vs : List V} {its : List Value}, ks.length = ds.length → RpL X.K H ((ks.zip ds).map fun p => .tup [ckD p.1, p.2]) vs → Vals vs its →
    ∃ (us : List V) (prs : List (Ck × Value)), ks.length = us.length ∧ RpL X.K H ds us ∧ KV (ks.zip us) prs ∧ prs.map (·.1) = ks ∧ prs.length = its.length ∧
      ∀ (j : Nat) (p : Ck × Value), prs[j]? = some p → ∃ (b : Addr) (u : Value), its[j]? = some (.ref b) ∧ IsTup s.heap b #[u, p.2] ∧ (caseK X.prog X.w).is p.1 u = true
  | [], [], vs, its, _, r, rv => by
    have := r.nil_of; subst this
    cases rv
    exact ⟨[], [], rfl, .nil, .nil, rfl, rfl, fun j p e => by simp at e⟩
  | c :: ks, d :: ds, vs, its, l, r, rv => by
    obtain ⟨v, vs', rfl, p1, t⟩ := RpL.cons_of (d := D.tup [ckD c, d]) (ds := (ks.zip ds).map fun p => D.tup [ckD p.1, p.2]) r
    obtain ⟨b, ws, rfl, q1, q2⟩ := p1.tup_
    obtain ⟨w1, w2, rfl, r1, r2⟩ := q2.two
    cases rv with
    | cons rb rest =>
      obtain ⟨us, prs, h1, h2, h3, h4, h5, h6⟩ := pair_rows I (by simpa using l) t rest
      cases rb
      obtain ⟨its2, rv2, tp, _⟩ := I.tuple q1.sq
      obtain ⟨u1, u2, rfl, ru1, ru2⟩ := vals2 rv2
      obtain rfl := ck_of r1
      refine ⟨w2 :: us, (c, u2) :: prs, by simp [h1], .cons r2 h2, .cons ⟨rfl, ru2⟩ h3, by simp [h4], by simp [h5], fun j p e => ?_⟩
      cases j with
      | zero =>
        simp at e; subst e
        exact ⟨b, u1, rfl, tp, ck_is ru1⟩
      | succ j =>
        obtain ⟨b', u', e1, e2, e3⟩ := h6 j p (by simpa using e)
        exact ⟨b', u', by simpa using e1, e2, e3⟩
def rDictF (K : PySem.W.Frag) : List V → Hp → VK → Prop := fun xs H Q => ∃ (a : Addr) (ks : List Ck) (ds : List D) (vs : List V), xs = [.ref a] ∧ SqL K H a vs ∧ ks.length = ds.length ∧ ks.Nodup ∧ RpL K H ((ks.zip ds).map fun p => .tup [ckD p.1, p.2]) vs ∧
  ∀ (us : List V) (p : Addr), ks.length = us.length → RpL K H ds us → H p = none → Q (.ref p) (L2.upd H p (dkO p (ks.zip us)))
theorem cr_dictF (hc : X.calm = true) : CallR X (.type "dict") (rDictF X.K) := by
  rintro pins s σ H xs us Q I r ⟨a, ks, ds, vs, rfl, hq, l, nd, rl, q⟩
  obtain ⟨u, rfl, ru⟩ := vals1 r
  cases ru
  obtain ⟨its, rv, pl, hz⟩ := I.list hq
  obtain ⟨ws, prs, h1, h2, h3, h4, h5, h6⟩ := pair_rows I l rl rv
  obtain ⟨o, n, ho, hcl, hd, hdat⟩ := pl
  refine new_pairs (todo := prs) (I.ok.hd hc) ho hcl hd hdat (by simp [h5]) (by rw [h5, ← rv.length]; exact hz) (fun j p e => ?_) fun h' tk dd k => ?_
  · obtain ⟨b, u, e1, e2, e3⟩ := h6 j p e
    exact ⟨b, u, by simpa using e1, e2, e3⟩
  · have nm : (s.heap.objs.size == sysModules) = false := beq_eq_false_iff_ne.mpr (Nat.ne_of_gt I.big)
    rw [merged_new (by rw [List.nil_append, h4]; exact nd), List.nil_append] at dd
    have z : (ks.zip ws).length ≤ sizeLine := by
      have a1 : (ks.zip ws).length = prs.length := Paired.length h3
      rw [a1, h5, ← rv.length]; exact hz
    exact ⟨.ref s.heap.objs.size, _, I.laid (t' := tk) k (Nat.le_refl _) (dk_ok z nm h3 dd), rfl, q ws _ h1 h2 (I.hok.fresh (Nat.le_refl _))⟩
/-- dict(xs) of a list of pairs, the keys different: it never changes afterwards -/
def rDictL (re : RT) : RT := fun env S k => re env S fun d S1 => ∃ (ks : List Ck) (ds : List D), seqOf S1 d = some ((ks.zip ds).map fun p => .tup [ckD p.1, p.2]) ∧ isTup d = false ∧ ks.length = ds.length ∧ ks.Nodup ∧ k (.dic ks ds) S1
theorem re_dictL {e : Expr} {re : RT} {p pos : Pos} (hc : X.calm = true) (hg : Gl X "dict") (hm : X.mg "dict" = none) (he : RE X e re) (ha : starEach [e] X.env = (false, eval e X.env) :: starEach [] X.env := by rfl) : RE X (.Call (.Name "dict" p) [e] [] pos) (rDictL re) := by
  refine PE.imp (pe_lk (pe_callTy (cr_dictF hc) hg hm (by decide +kernel) (ra_cons he ra_nil ha) (he := ha) (hpl := by rfl))) fun σ H Q ⟨env, S, k, hE, hS, q, c⟩ => ?_
  refine ⟨env, S, fun ds S1 => match ds with
    | [d] => ∃ (ks : List Ck) (es : List D), seqOf S1 d = some ((ks.zip es).map fun p => .tup [ckD p.1, p.2]) ∧ isTup d = false ∧ ks.length = es.length ∧ ks.Nodup ∧ k (.dic ks es) S1
    | _ => False, hE, hS, q, ?_⟩
  rintro ds S1 vs H1 q1 st r1 hS1
  split at q1
  · obtain ⟨ks, es, ex, nt, l, nd, q1⟩ := q1
    obtain ⟨v, rfl, rd⟩ := r1.one
    obtain ⟨a, us, rfl, _, _⟩ := seq_of ex rd hS1
    obtain ⟨ws, hl, rl⟩ := sq_lst ex nt rd hS1
    refine ⟨a, ks, es, ws, rfl, hl, l, nd, rl, fun us p h1 h2 hp => ⟨p, _, rfl, L2.upd_same, True.intro, fun od => ?_⟩⟩
    have e2 : L2.upd (L2.upd H1 p (dkO p (ks.zip us))) p (.frz od (dkO p (ks.zip us))) = L2.upd H1 p (.frz od (dkO p (ks.zip us))) := by
      funext b; unfold L2.upd; split <;> rfl
    rw [e2]
    exact c _ _ _ _ q1 (st.trans (Stp.laid0 hp)) (.dic L2.upd_same h1 (h2.mon (Mon.laid hp))) (hS1.laid0 hp)
  · exact q1.elim
end
end DL
namespace DL
open PySem PySem.Spec PyProof.Rows L2
section
variable {X : Cx} {K : PySem.W.Frag} {H : Hp}
/-- d.get(k, y) -/
def get2D : D → FL := fun x ds S k => ∃ ks es c y, x = .dic ks es ∧ ks.length = es.length ∧ ds = [ckD c, y] ∧ k ((dicAt ks es c).getD y) S
theorem dicAt_none : ∀ {ks : List Ck} {ds : List D} {us : List V} {c : Ck}, ks.length = ds.length → dicAt ks ds c = none → RpL K H ds us → valV (ks.zip us) c = none
  | [], _, _, _, _, _, _ => rfl
  | k :: ks, [], _, _, l, _, _ => by simp at l
  | k :: ks, x :: ds, us, c, l, e, r => by
    obtain ⟨v, r', eu, p, t⟩ := r.cons_of
    subst eu
    unfold dicAt at e
    by_cases h : k = c
    · rw [if_pos h] at e; cases e
    · rw [if_neg h] at e
      rw [List.zip_cons_cons, valV_neg h]
      exact dicAt_none (by simpa using l) e t
theorem mt_get2 : MtR X "dict.get" (fun x xs H Q => ∃ a o kvs c y, x = .ref a ∧ xs = [ckV c, y] ∧ H a = some (.frz o (dkO a kvs)) ∧ Q ((valV kvs c).getD y) H) := by
  rintro pins s σ H x xs v us Q I rx rs ⟨a, o, kvs, c, y, rfl, rfl, e, q⟩
  cases rx
  obtain ⟨u1, u2, rfl, r1, r2⟩ := vals2 rs
  obtain ⟨_, _, n, vs, rel, d⟩ := lk_at I e
  refine call_meetsIn PySem.F.slot_dict_get d.typeIs PySem.F.entry_dict_get (PySem.F.args_dict_get_3 _ _ _) (meets_dict_get_default (caseK X.prog X.w) a (ck_is r1) n u2) ⟨_, d.mapOf, ?_⟩
  exact ⟨_, H, I.tok _, (rel.val c).getD r2, q⟩
theorem mGet2 : MtD X "dict.get" get2D := by
  refine ⟨_, mt_get2, fun x ds S k v vs H Q ⟨ks, es, c, y, ex, l, ed, q⟩ rx rl hS cl => ?_⟩
  subst ex ed
  obtain ⟨a, o, us, rfl, e, ll, r⟩ := rx.dic_
  obtain ⟨v1, v2, rfl, p1, p2⟩ := rl.two
  obtain rfl := ck_of p1
  refine ⟨a, o, _, c, v2, rfl, rfl, e, ?_⟩
  cases h : dicAt ks es c with
  | some d =>
    rw [h] at q
    obtain ⟨v', h1, h2⟩ := dicAt_val h r
    rw [h1]
    exact cl _ _ _ _ q Stp.refl h2 hS
  | none =>
    rw [h] at q
    rw [dicAt_none l h r]
    exact cl _ _ _ _ q Stp.refl p2 hS
end
end DL
namespace DL
open PySem PySem.Spec PyProof.Rows L2
section
variable {X : Cx} {K : PySem.W.Frag} {H : Hp} {S : Sto}
/-! ### type(x) -/
def typD : FL := fun ds S k => match ds with
  | [x] => ∃ t, kindD S x = some t ∧ k (.ty t) S
  | _ => False
theorem kind_tb {x : D} {v : V} {t : String} (e : kindD S x = some t) (r : Rp K H x v) (hS : AbsS K S H) : TyB K H v t := by
  cases x with
  | non => cases e; rw [r.non_]; exact .non
  | bl b => cases e; rw [r.bl_]; exact .bl b
  | int b => cases e; rw [r.int_]; exact .int b
  | str b => cases e; rw [r.str_]; exact .str b
  | ty n => cases e
  | par n => cases e
  | dic _ _ => cases e
  | tup xs =>
    cases e
    obtain ⟨a, vs, rfl, h, _⟩ := r.tup_
    exact .tup h.sq
  | lis xs =>
    cases e
    obtain ⟨a, vs, rfl, h, _⟩ := r.lis_
    exact .lst h.sq
  | ref a =>
    rw [r.ref_]
    unfold kindD at e
    dsimp only at e
    split at e
    · rename_i xs q
      cases e
      obtain ⟨vs, h1, _⟩ := hS.lst q
      exact .lst (.of h1)
    · rename_i kvs q
      cases e
      obtain ⟨h, e1, _, e2⟩ := hS _ _ q
      have e2' : h = .dK kvs := e2
      subst e2'
      exact .dK e1
    · cases e
theorem cType : CallD X (.type "type") typD := by
  refine ⟨_, call_type1, fun ds S k vs H Q q r hS c => ?_⟩
  unfold typD at q
  split at q
  · obtain ⟨v, rfl, r1⟩ := r.one
    obtain ⟨t, e1, q⟩ := q
    exact ⟨v, t, rfl, kind_tb e1 r1 hS, c _ _ _ _ q Stp.refl .ty hS⟩
  · exact q.elim
def isTD (neg : Bool) : F2 := fun x y S k => match x, y with
  | .ty a, .ty b => k (.bl (neg ^^ decide (a = b))) S
  | _, _ => False
theorem opIsTy : Op2 X (compareOp .Is) (isTD false) := by
  refine ⟨_, op_isTy, fun x y S k v u H Q q rx ry hS c => ?_⟩
  unfold isTD at q
  split at q
  · exact ⟨_, _, rx.ty_, ry.ty_, c _ _ _ _ (by simpa using q) Stp.refl .bl hS⟩
  · exact q.elim
theorem opNotTy : Op2 X (compareOp .IsNot) (isTD true) := by
  refine ⟨_, op_isNotTy, fun x y S k v u H Q q rx ry hS c => ?_⟩
  unfold isTD at q
  split at q
  · exact ⟨_, _, rx.ty_, ry.ty_, c _ _ _ _ (by simpa using q) Stp.refl .bl hS⟩
  · exact q.elim
/-! ### t.index(z, start) -/
theorem mt_tup_index3 : MtR X "tuple.index" (fun x xs H Q => ∃ p, ∃ ys : List Int, ∃ (z : Int) (a : Int) (j : Nat), x = .ref p ∧ xs = [.int z, .int a] ∧ SqT X.K H p (ys.map V.int) ∧ 0 ≤ a ∧ a.toNat ≤ j ∧ ys[j]? = some z ∧ (∀ m, a.toNat ≤ m → m < j → ys[m]? ≠ some z) ∧ Q (.int (j : Nat)) H) := by
  rintro pins s σ H x xs v us Q I rx rs ⟨p, ys, z, a, j, rfl, rfl, hq, ha, hlo, hy, hno, q⟩
  cases rx
  obtain ⟨u, u2, rfl, ⟨t, rfl⟩, ⟨t2, rfl⟩⟩ := vals2 rs
  obtain ⟨its, r, pl, hz⟩ := I.tuple hq
  obtain ⟨⟨cls, dd, dt, sl⟩, ho, hc, n, hd⟩ := pl
  simp only at hc hd
  subst hc hd
  have hl : its.toArray.size = ys.length := by rw [List.size_toArray, ← r.length, List.length_map]
  have hj : j < its.toArray.size := hl ▸ (List.getElem?_eq_some_iff.mp hy).1
  have item : ∀ (m : Nat) (hm : m < its.toArray.size), ∃ y t', ys[m]? = some y ∧ its.toArray[m] = Value.int y t' := by
    intro m hm
    have hm' : m < ys.length := hl ▸ hm
    obtain ⟨w, hw, t', hw'⟩ := r.get (i := m) (x := .int ys[m]) (by simp [hm'])
    refine ⟨ys[m], t', List.getElem?_eq_getElem hm', ?_⟩
    rw [← hw', ← (List.getElem?_eq_some_iff.mp hw).2]
    simp
  have sf : PySem.SeqAt.searchFrom a its.toArray.size = a.toNat := PySem.SeqAt.searchFrom_nonneg ha _
  refine call_meets PySem.F.slot_tuple_index ⟨_, ho, rfl⟩ PySem.F.entry_tuple_index (PySem.F.args_tuple_index_3 _ _ _) (PySem.SeqAt.tuple_index3_found p its.toArray n dd sl (.int z t) (fun m => if h : m < its.toArray.size then eqU (.int z) its.toArray[m] else false) a t2 j hj (by rw [sf]; exact hlo) hj ?_ ?_) ⟨ho, ?_, ⟨.int (j : Nat), H, I.tok _, ⟨_, rfl⟩, q⟩⟩
  · obtain ⟨y, t', h1, h2⟩ := item j hj
    rw [hy] at h1
    cases h1
    simp only [dif_pos hj]
    rw [h2]
    exact beq_self_eq_true z
  · intro m hm hlo' hmj
    rw [sf] at hlo'
    obtain ⟨y, t', h1, h2⟩ := item m hm
    simp only [dif_pos hm]
    rw [h2]
    exact beq_eq_false_iff_ne.mpr fun e => hno m hlo' hmj (e ▸ h1)
  · intro m hm
    simp only [dif_pos hm]
    exact mem_eqAt (x := .int z) ⟨t, rfl⟩ rfl r (flat_ints ys) _ (by simp)
def index3D : D → FL := fun x ds S k => ∃ (ys : List Int) (z a : Int) (j : Nat), x = .tup (ys.map D.int) ∧ ds = [.int z, .int a] ∧ 0 ≤ a ∧ a.toNat ≤ j ∧ ys[j]? = some z ∧ (∀ m, a.toNat ≤ m → m < j → ys[m]? ≠ some z) ∧ k (.int (j : Nat)) S
theorem mIndex3 : MtD X "tuple.index" index3D := by
  refine ⟨_, mt_tup_index3, fun x ds S k v vs H Q q rx rl hS c => ?_⟩
  obtain ⟨ys, z, a, j, rfl, rfl, h0, h1, h2, h3, q⟩ := q
  obtain ⟨u, u2, rfl, ru, ru2⟩ := rl.two
  have := ru.int_; subst this
  have := ru2.int_; subst this
  obtain ⟨b, ws, rfl, h4, h5⟩ := rx.tup_
  have := h5.ints; subst this
  exact ⟨b, ys, z, a, j, rfl, rfl, h4.sq, h0, h1, h2, h3, c _ _ _ _ q Stp.refl .int hS⟩
end
end DL
namespace DL
open PySem PySem.Spec PyProof.Rows L2
/-! ### the first place of a car -/
theorem find_end (ns : List Int) (c : Int) : ∃ j, j ≤ ns.length ∧ (ns ++ [c])[j]? = some c ∧ (∀ m, m < j → (ns ++ [c])[m]? ≠ some c) ∧ stepN ns c = (if j < ns.length then ns.take j else ns ++ [c]) ∧ leftN ns c = ns.drop j := by
  by_cases h : c ∈ ns
  · obtain ⟨j, h1, h2, h3, h4⟩ := find_first h
    have hj := (List.getElem?_eq_some_iff.mp h1).1
    refine ⟨j, Nat.le_of_lt hj, by rw [List.getElem?_append_left hj]; exact h1, fun m hm => ?_, ?_, h4⟩
    · rw [List.getElem?_append_left (Nat.lt_trans hm hj)]; exact h2 m hm
    · rw [step_in h, if_pos hj, h3]
  · refine ⟨ns.length, Nat.le_refl _, by simp, fun m hm => ?_, ?_, ?_⟩
    · rw [List.getElem?_append_left hm]
      exact fun e => h (List.mem_of_getElem? e)
    · rw [step_out h, if_neg (Nat.lt_irrefl _)]
    · rw [left_out h, List.drop_length]
theorem step_front {xs ys : List Int} {d : Int} (h : d ∉ xs) : stepN (xs ++ ys) d = xs ++ stepN ys d := by
  by_cases m : d ∈ ys
  · rw [step_in (List.mem_append_right _ m), step_in m]
    induction xs with
    | nil => rfl
    | cons x xs ih =>
      rw [List.cons_append, List.takeWhile_cons, if_pos (by simp; intro e; exact h (e ▸ List.mem_cons_self ..)), List.cons_append, ih fun q => h (List.mem_cons_of_mem _ q)]
  · rw [step_out m, step_out (fun z => (List.mem_append.mp z).elim h m), List.append_assoc]
theorem step_head {c : Int} {ys : List Int} : stepN (c :: ys) c = [] := by
  rw [step_in (List.mem_cons_self ..), List.takeWhile_cons, if_neg (by simp)]
theorem step_tail {c d : Int} {ys : List Int} (h : d ≠ c) : stepN (c :: ys) d = c :: stepN ys d := step_front (xs := [c]) (by simpa using h)
theorem step_mem {ns : List Int} {d x : Int} (h : x ∈ stepN ns d) : x ∈ ns ∨ x = d := by
  by_cases m : d ∈ ns
  · rw [step_in m] at h; exact .inl ((List.takeWhile_sublist _).subset h)
  · rw [step_out m] at h
    rcases List.mem_append.mp h with z | z
    · exact .inl z
    · exact .inr (List.mem_singleton.mp z)
theorem kind_int {S : Sto} {y : D} (h : kindD S y = some "int") : ∃ z, y = .int z := by
  cases y with
  | int z => exact ⟨z, rfl⟩
  | ref a =>
    unfold kindD at h
    dsimp only at h
    split at h
    · exact absurd (Option.some.inj h) (by decide)
    · exact absurd (Option.some.inj h) (by decide)
    · cases h
  | non => exact absurd (Option.some.inj h) (by decide)
  | bl b => exact absurd (Option.some.inj h) (by decide)
  | str b => exact absurd (Option.some.inj h) (by decide)
  | tup b => exact absurd (Option.some.inj h) (by decide)
  | lis b => exact absurd (Option.some.inj h) (by decide)
  | _ => cases h
/-! ### the next call of a car -/
structure NextN (cs : List Int) (t j : Nat) : Prop where
  lt : t < j
  hit : cs[j % cs.length]? = cs[t % cs.length]?
  no : ∀ i, t < i → i < j → cs[i % cs.length]? ≠ cs[t % cs.length]?
theorem NextN.uniq {cs : List Int} {t j k : Nat} (a : NextN cs t j) (b : NextN cs t k) : j = k := by
  rcases Nat.lt_trichotomy j k with h | h | h
  · exact absurd a.hit (b.no j a.lt h)
  · exact h
  · exact absurd b.hit (a.no k b.lt h)
theorem NextN.shift {cs : List Int} {r j : Nat} (q : Nat) (a : NextN cs r j) : NextN cs (r + q * cs.length) (j + q * cs.length) := by
  refine ⟨by have := a.lt; omega, ?_, fun i h1 h2 => ?_⟩
  · rw [Nat.add_mul_mod_self_right, Nat.add_mul_mod_self_right]; exact a.hit
  · obtain ⟨i', rfl⟩ : ∃ i', i = i' + q * cs.length := ⟨i - q * cs.length, by omega⟩
    rw [Nat.add_mul_mod_self_right, Nat.add_mul_mod_self_right]
    exact a.no i' (by omega) (by omega)
theorem NextN.le {cs : List Int} {t j : Nat} (a : NextN cs t j) (h : 1 ≤ cs.length) : j ≤ t + cs.length := by
  rcases Nat.lt_or_ge (t + cs.length) j with g | g
  · exact absurd (by rw [Nat.add_mod_right]) (a.no (t + cs.length) (by omega) g)
  · exact g
theorem least_of {P : Nat → Prop} : ∀ k, P k → ∃ j, j ≤ k ∧ P j ∧ ∀ i, i < j → ¬ P i := by
  intro k
  induction k using Nat.strongRecOn with
  | _ k ih =>
    intro h
    by_cases e : ∃ i, i < k ∧ P i
    · obtain ⟨i, hi, pi⟩ := e
      obtain ⟨j, h1, h2, h3⟩ := ih i hi pi
      exact ⟨j, by omega, h2, h3⟩
    · exact ⟨k, Nat.le_refl _, h, fun i hi pi => e ⟨i, hi, pi⟩⟩
theorem next_ex {cs : List Int} (t : Nat) (h : 1 ≤ cs.length) : ∃ j, NextN cs t j := by
  obtain ⟨j, _, ⟨h1, h2⟩, h3⟩ := least_of (P := fun j => t < j ∧ cs[j % cs.length]? = cs[t % cs.length]?) (t + cs.length) ⟨by omega, by rw [Nat.add_mod_right]⟩
  exact ⟨j, h1, h2, fun i g1 g2 e => h3 i g2 ⟨g1, e⟩⟩
/-! ### drawing of the second kind -/
def ShedV (N : Nat) (b : List D) : Prop := ∃ u c t : Int, 0 ≤ u ∧ 0 ≤ c ∧ c ≤ 10 ^ 43 ∧ 0 ≤ t ∧ t ≤ N ∧ b = [.int u, .int c, .int t]
theorem ShedV.mono {N M : Nat} {b : List D} (h : ShedV N b) (l : N ≤ M) : ShedV M b := by
  obtain ⟨u, c, t, h1, h2, h3, h4, h5, h6⟩ := h
  exact ⟨u, c, t, h1, h2, h3, h4, by omega, h6⟩
def c_law_shed : Cn := fun ds S k _ => ∃ (ns : List Int) (i : Int), ds = [.lis (ns.map D.int), .int i] ∧ 0 ≤ i ∧ i ≤ 100 ∧ ns.length ≤ 63 ∧ ∀ b p, ShedV 0 b → S p = none → k (.ref p) (S.upd p (.lst b))
def c_law_take : Cn := fun ds S k _ => ∃ a m b N, ds = [.ref a, .int m] ∧ 0 < m ∧ m ≤ 10 ^ 37 ∧ S a = some (.lst b) ∧ ShedV N b ∧ N ≤ 10 ^ 30 ∧ ∀ told b', 0 ≤ told → told < m → ShedV (N + 1) b' → k (.int told) (S.upd a (.lst b'))
def c_law_mixed : Cn := fun ds S k _ => ∃ (a c : Addr) (b : List D) (N : Nat) (ns : List Int), ds = [.ref a, .ref c] ∧ a ≠ c ∧ S a = some (.lst b) ∧ ShedV N b ∧ N ≤ 10 ^ 20 ∧ S c = some (.lst (ns.map D.int)) ∧ ns.length ≤ 1000 ∧
  ∀ b' (ms : List Int) p, ShedV (N + ns.length) b' → ns.Perm ms → S p = none → k (.ref p) ((S.upd a (.lst b')).upd p (.lst (ms.map D.int)))
def c_law_day : Cn := fun ds S k _ => ∃ a m b N, ds = [.ref a, .int m] ∧ 0 < m ∧ m ≤ 200 ∧ S a = some (.lst b) ∧ ShedV N b ∧ N ≤ 10 ^ 10 ∧
  ∀ b' cs, ShedV (N + 2000) b' → CallsN cs → k (tupI cs) (S.upd a (.lst b'))
def c_law_moved : Cn := c_step
def c_law_due16 : Cn := fun ds S k _ => ∃ (cs : List Int) (m : Nat) (fr : List Int), ds = [tupI cs, .int (m : Nat), tupI fr] ∧ CallsN cs ∧ LaneN fr ∧ (∀ x ∈ cs, x ∉ fr) ∧ ∀ j, NextN cs m j → k (.int ((j + 1 : Nat) : Int)) S
def c_next_clear : Cn := fun ds S k _ => ∃ (cs : List Int) (m : Nat), ds = [tupI cs, .int (m : Nat)] ∧ CallsN cs ∧ m ≤ 10 ^ 36 ∧ ∀ j, NextN cs m j → k (.int ((j + 1 : Nat) : Int)) S
def c_check_moment : Cn := fun ds S k _ => ∃ m : Int, ds = [.int m] ∧ 0 ≤ m ∧ m ≤ 10 ^ 36 ∧ k .non S
def c_law_right16 : Cn := fun ds S k _ => ∃ a b N cs, ds = [.ref a, tupI cs] ∧ S a = some (.lst b) ∧ ShedV N b ∧ N ≤ 10 ^ 9 ∧ CallsN cs ∧ ∀ b' S', ShedV (N + 100) b' → Ex a S b' S' → k (.bl true) S'
end DL
namespace DL
open PySem PySem.Spec PyProof.Rows L2
theorem take_at {a : Addr} {m : Int} {N : Nat} {S : Sto} {k : RK} {ek : XKd} {S0 : Sto} {b : List D} (hx : Ex a S0 b S) (hb : ShedV N b) (hN : N ≤ 10 ^ 30) (h0 : 0 < m) (h1 : m ≤ 10 ^ 37) (q : ∀ told b' S', 0 ≤ told → told < m → ShedV (N + 1) b' → Ex a S0 b' S' → (∀ c, c ≠ a → S' c = S c) → k (.int told) S') : c_law_take [.ref a, .int m] S k ek :=
  ⟨a, m, b, N, rfl, h0, h1, hx.bag, hb, hN, fun told b' t0 t1 hb' => q told b' _ t0 t1 hb' hx.upd fun c hc => Sto.upd_ne hc⟩
theorem comp_mix {a p : Addr} {S : Sto} {b : List D} {N vi : Nat} {m : Nat} {left : List Int} {env : DEnv} {S0 : Sto} {k : RK} {vb vl : Nat} {ri : RTi}
    (hri : ∀ K : List D → (Sto → Prop) → Sto → Prop, K (rngD 0 m) (fun _ => True) S0 → ri env S0 K)
    (e0 : ∀ d, ((wipeE env [vi]).set vi (some d))[vb]? = some (some (.ref a))) (e1 : ∀ d, ((wipeE env [vi]).set vi (some d))[vl]? = some (some (.ref p)))
    (hx : Ex a S b S0) (hb : ShedV N b) (hN : N ≤ 10 ^ 20) (hp : S p = none) (hpa : p ≠ a) (hl : S0 p = some (.lst (left.map D.int))) (hL : left.length ≤ 1000) (hm : m ≤ left.length)
    (q : ∀ b' cs rest S', ShedV (N + m) b' → Ex a S b' S' → left.Perm (cs ++ rest) → cs.length = m → ∀ p, S' p = none → k (.ref p) (S'.upd p (.lst (cs.map D.int)))) :
    rComp ri (gN vi) rYes (rBm "list" popAtD (rVar vl) (rCons (rCall 2 c_law_take (rCons (rVar vb) (rCons (rCallB lenD (rCons (rVar vl) rNil)) rNil))) rNil)) [vi] env S0 k := by
  refine hri _ ⟨fun i acc S' => ∃ b' cs rest, ShedV (N + i) b' ∧ Ex a S b' S' ∧ S' p = some (.lst (rest.map D.int)) ∧ acc = cs.map D.int ∧ cs.length = i ∧ left.Perm (cs ++ rest), ⟨b, [], left, hb, hx, hl, rfl, rfl, List.Perm.refl _⟩, fun _ _ _ _ _ => trivial, ?_, ?_⟩
  · rintro i x acc S' hi ⟨b', cs, rest, hb', hx', hp', rfl, rfl, pm⟩
    obtain ⟨hi', rfl⟩ := rngD_it hi
    have ln := pm.length_eq
    rw [List.length_append] at ln
    simp only [gN, rYes, if_true, rBm, rVar, e0, e1, rCons, rNil, rCall, rCallB]
    refine ⟨tyD_lst hp', len_at (seq_ref hp') ⟨rfl, a, _, b', _, rfl, ?_, ?_, hx'.bag, hb', ?_, fun told b'' t0 t1 hb'' => ?_⟩⟩
    · rw [List.length_map]; omega
    · rw [List.length_map]; omega
    · omega
    · rw [List.length_map] at t1
      have hj : told.toNat < rest.length := by omega
      have ej : rest[told.toNat]? = some rest[told.toNat] := List.getElem?_eq_getElem hj
      refine popAt_at (xs := rest.map D.int) (d := .int rest[told.toNat]) (by rw [Sto.upd_ne hpa]; exact hp') t0 (by omega) (by rw [List.getElem?_map, ej]; rfl) ⟨?_, _, Sub.refl _, b'', cs ++ [rest[told.toNat]], rest.eraseIdx told.toNat, hb'', ?_, ?_, ?_, ?_, ?_⟩
      · rw [List.length_map]; exact Nat.lt_of_le_of_lt (show cs.length ≤ 1000 by omega) (by decide)
      · exact (hx'.upd).mod hp hpa
      · rw [Sto.upd_same, eraseIdx_ints]
      · simp
      · simp
      · rw [List.append_assoc, List.singleton_append]
        exact pm.trans (List.Perm.append_left cs (erase_perm ej))
  · rintro acc S' ⟨b', cs, rest, hb', hx', hp', rfl, hcs, pm⟩
    rw [rngD_len] at hcs
    subst hcs
    rw [rngD_len] at hb'
    exact q b' cs rest S' hb' hx' pm rfl
theorem dbl_get {cs : List Int} {i : Nat} (h : i < cs.length + cs.length) : (cs ++ cs)[i]? = cs[i % cs.length]? := by
  rcases Nat.lt_or_ge i cs.length with g | g
  · rw [List.getElem?_append_left g, Nat.mod_eq_of_lt g]
  · rw [List.getElem?_append_right g, Nat.mod_eq_sub_mod g, Nat.mod_eq_of_lt (by omega)]
end DL
namespace DL
open PySem PySem.Spec PyProof.Rows L2
theorem sh_int {S : Sto} {i : Int} : ShP S (.int i) (.int i) := .inr (.int i)
theorem fit_int {i : Int} (h : i.natAbs < 10 ^ 60) : (PyData.int i).showable = true ∧ (PyData.int i).depth ≤ 30 ∧ (PyData.int i).shown.length ≤ sizeLine := by
  have lg : i.natAbs.log2 < 200 := by
    by_cases z : i.natAbs = 0
    · rw [z]; decide
    · exact (Nat.log2_lt z).mpr (Nat.lt_trans h (by decide))
  refine ⟨by simp only [PyData.showable, decide_eq_true_eq]; omega, Nat.zero_le _, ?_⟩
  have lv : (PyData.int i).leavesShort 61 = true := by
    simp only [PyData.leavesShort, decide_eq_true_eq]
    have e := int_text_length_le10 (k := 60) (by decide) h
    show (Str.ofString (toString i)).length ≤ 61
    rw [PySem.ofString_length]; exact e
  have a := PyData.shown_le 61 (by decide) _ lv
  have w : (PyData.int i).weight ≤ 200 := by
    unfold PyData.weight
    split
    · omega
    · omega
  have b : (61 + 2) * (PyData.int i).weight ≤ 63 * 200 := Nat.mul_le_mul (by decide) w
  rw [sizeLine_eq]
  omega
theorem lg_lt {n k : Nat} (h : n < 2 ^ k) (hk : 0 < k) : n.log2 < k := by
  by_cases z : n = 0
  · rw [z]; exact hk
  · exact (Nat.log2_lt z).mpr h
theorem powB_3 {i : Int} (h0 : 0 ≤ i) (h1 : i < 2 ^ 200) : CPowB i 3 := by
  refine ⟨by decide, by decide, ?_⟩
  have : i.natAbs < 2 ^ 200 := by omega
  have := lg_lt this (by decide)
  omega
theorem powB_10 {j : Int} (h0 : 0 ≤ j) (h1 : j ≤ 100) : CPowB 10 j := ⟨h0, by omega, by decide⟩
theorem mul_intC {i j : Int} {S : Sto} {k : RK} (h : CMul i j) (q : k (.int (i * j)) S) : mulD (.int i) (.int j) S k := ⟨h, q⟩
theorem min_int {i j : Int} {S : Sto} {k : RK} (q : k (.int (if j < i then j else i)) S) : minD [.int i, .int j] S k := q
theorem nil_at {neg : Bool} {a b : Addr} {S : Sto} {k : RK} {xs : List D} (h : S a = some (.lst xs)) (g : S b = some (.lst [])) (q : k (.bl (neg ^^ xs.isEmpty)) S) : eqNilD neg (.ref a) (.ref b) S k := by
  unfold eqNilD
  simp only [h, g]
  exact q
theorem atI_last {xs : List D} {d : D} : atI (xs ++ [d]) (-1) = some d := by
  unfold atI ixN
  rw [if_neg (by decide), List.length_append, List.length_singleton]
  rw [if_pos (by omega)]
  have : ((-1 : Int) + ((xs.length + 1 : Nat) : Int)).toNat = xs.length := by omega
  show (xs ++ [d])[((-1 : Int) + ((xs.length + 1 : Nat) : Int)).toNat]? = some d
  rw [this]
  simp
theorem atI_head {d : D} {xs : List D} : atI (d :: xs) 0 = some d := atI_nat (j := 0) (v := d) rfl
theorem last_ex : ∀ fs : List Int, fs = [] ∨ ∃ gs g, fs = gs ++ [g] := fun fs => by
  rcases List.eq_nil_or_concat fs with h | ⟨gs, g, h⟩
  · exact .inl h
  · exact .inr ⟨gs, g, by rw [h, List.concat_eq_append]⟩
theorem due_step {cs fr row : List Int} {c d : Int} {m j here : Nat} (hj : NextN cs m j) (hc : cs[m % cs.length]? = some c) (hdis : ∀ x ∈ cs, x ∉ fr) (h2 : here ≤ j)
    (cas : here = m ∧ row = fr ∨ m < here ∧ ∃ r, row = fr ++ c :: r) (hd : cs[here % cs.length]? = some d) :
    here + 1 ≤ j ∧ (∃ r, stepN row d = fr ++ c :: r) ∨ here = j ∧ stepN row d = fr := by
  have cf : c ∉ fr := hdis c (List.mem_of_getElem? hc)
  have df : d ∉ fr := hdis d (List.mem_of_getElem? hd)
  have jl := hj.lt
  rcases cas with ⟨rfl, rfl⟩ | ⟨h1, r, rfl⟩
  · rw [hc] at hd
    cases hd
    exact .inl ⟨by omega, [], step_out cf⟩
  · rcases Nat.lt_or_ge here j with g | g
    · have ne : d ≠ c := fun e => hj.no here h1 g (by rw [hd, hc, e])
      exact .inl ⟨g, stepN r d, by rw [step_front df, step_tail ne]⟩
    · have e : here = j := by omega
      subst e
      have := hj.hit
      rw [hd, hc] at this
      cases this
      exact .inr ⟨rfl, by rw [step_front cf, step_head, List.append_nil]⟩
end DL
namespace DL
open PySem PySem.Spec PyProof.Rows L2
theorem eq_lints {neg : Bool} {p q : Addr} {a b : List Int} {S : Sto} {k : RK} (h : S p = some (.lst (a.map D.int))) (g : S q = some (.lst (b.map D.int))) (z : k (.bl (neg ^^ decide (a = b))) S) : eqD neg (.ref p) (.ref q) S k := by
  rw [ints_ck a] at h
  rw [ints_ck b] at g
  show eqG neg (.ref p) (.ref q) S k
  refine ⟨_, _, .lst h (pyl_ck _), .lst g (pyl_ck _), shaped_lst _, shaped_lst _, ?_⟩
  rw [PyData.eqv, eqv_rows, some_inj]
  exact z
theorem next_small {cs : List Int} {t j : Nat} (h : t < j ∧ cs[j % cs.length]? = cs[t % cs.length]? ∧ ∀ i, i < j → t < i → cs[i % cs.length]? ≠ cs[t % cs.length]?) : NextN cs t j := ⟨h.1, h.2.1, fun i a b => h.2.2 i b a⟩
end DL
/-! dicts that may change: keys and values None or ints -/
namespace DL
open PySem PySem.Spec PyProof.Rows L2
abbrev Cm := List (Ck × Ck)
def vmap (m : Cm) : List (Ck × V) := m.map fun p => (p.1, ckV p.2)
def valC (m : Cm) (c : Ck) : Option Ck := (m.find? fun p => decide (p.1 = c)).map (·.2)
def putC (m : Cm) (c e : Ck) : Cm := if (m.any fun p => decide (p.1 = c)) = true then m.map (fun p => if p.1 = c then (p.1, e) else p) else m ++ [(c, e)]
abbrev dcO (a : Addr) (m : Cm) : O := .ho (dkO a (vmap m))
theorem vmap_val (m : Cm) (c : Ck) : valV (vmap m) c = (valC m c).map ckV := by
  unfold valV valC vmap
  rw [List.find?_map]
  show Option.map _ (Option.map _ (m.find? fun p => decide (p.1 = c))) = _
  cases m.find? fun p => decide (p.1 = c) <;> rfl
theorem vmap_put (m : Cm) (c e : Ck) : putK (vmap m) c (ckV e) = vmap (putC m c e) := by
  unfold putK putC vmap
  rw [List.any_map]
  show (if (m.any fun p => decide (p.1 = c)) = true then _ else _) = _
  split
  · rw [List.map_map, List.map_map]
    refine List.map_congr_left fun p _ => ?_
    show (if p.1 = c then (p.1, ckV e) else (p.1, ckV p.2)) = _
    show _ = ((if p.1 = c then (p.1, e) else p).1, ckV (if p.1 = c then (p.1, e) else p).2)
    split <;> rfl
  · rw [List.map_append]; rfl
theorem vmap_len (m : Cm) : (vmap m).length = m.length := List.length_map ..
section
variable {X : Cx} {K : PySem.W.Frag} {H : Hp} {S : Sto}
theorem dc_at {a : Addr} {m : Cm} (e : S a = some (dcO a m)) (hS : AbsS K S H) : H a = some (dkO a (vmap m)) ∧ Mut (some (dkO a (vmap m))) := by
  obtain ⟨h, e1, mu, e2⟩ := hS _ _ e
  have e2' : h = dkO a (vmap m) := e2
  subst e2'
  exact ⟨e1, mu⟩
/-! ### d[k] -/
def ixDc : F2 := fun x y S k => ∃ a m c e, x = .ref a ∧ y = ckD c ∧ S a = some (dcO a m) ∧ valC m c = some e ∧ k (ckD e) S
def rIxDc (K : PySem.W.Frag) : R2 := fun x y H Q => ∃ a kvs c v, x = .ref a ∧ y = ckV c ∧ H a = some (dkO a kvs) ∧ valV kvs c = some v ∧ Q v H
theorem ix_dc0 : IxR X (rIxDc X.K) := by
  intro value slice pins s σ H x y v u Q I rx ry h hs
  obtain ⟨a, kvs, c, z, rfl, rfl, e, l, q⟩ := h
  obtain rfl : v = Value.ref a := rx
  obtain ⟨_, _, vs, rel, d⟩ := dk_at (I.hok a _ e)
  obtain ⟨w', hw, rw'⟩ := RelO.some_of (v := z) (o := valueAt vs c) (by rw [← l]; exact rel.val c)
  exact tail_any d.typeIs slot_dict_getitem.lookup (wpAny_getItem_of (ck_is ry) d.mapOf hw ⟨z, H, I.tok _, rw', q⟩) hs
theorem ixDcm : IxD X ixDc := by
  refine ⟨_, ix_dc0, fun x y S k v u H Q ⟨a, m, c, e, ex, ey, ea, l, q⟩ rx ry hS cl => ?_⟩
  subst ex ey
  obtain rfl := rx.ref_
  exact ⟨a, _, c, ckV e, rfl, ck_of ry, (dc_at ea hS).1, by rw [vmap_val, l]; rfl, cl _ _ _ _ q Stp.refl (ck_rp e) hS⟩
/-! ### d[k] = v -/
def setDc : SetF := fun o i d S k => ∃ a m c e, o = .ref a ∧ i = ckD c ∧ d = ckD e ∧ S a = some (dcO a m) ∧ m.length < sizeLine ∧ k (S.upd a (dcO a (putC m c e)))
theorem set_dc0 : PSet X (fun o i v H Q => ∃ a kvs c, o = .ref a ∧ i = ckV c ∧ H a = some (dkO a kvs) ∧ kvs.length < sizeLine ∧ Q (L2.upd H a (dkO a (putK kvs c v)))) := by
  rintro pins s σ H o i v ov iv u Q I ro ri ru ⟨a, kvs, c, rfl, rfl, e, hz, q⟩
  obtain rfl : ov = Value.ref a := ro
  exact dk_set I e hz ri ru fun s' I' => ⟨_, I', q⟩
theorem setDcm : SetD X setDc := by
  refine ⟨_, set_dc0, fun o i d S k ov iv v H Q ⟨a, m, c, e, eo, ei, ed, ea, hl, q⟩ ro ri rd hS cl => ?_⟩
  subst eo ei ed
  obtain rfl := ro.ref_
  obtain ⟨h1, h2⟩ := dc_at ea hS
  obtain rfl := ck_of rd
  refine ⟨a, _, c, rfl, ck_of ri, h1, by rw [vmap_len]; exact hl, ?_⟩
  rw [vmap_put]
  exact cl _ _ q (Stp.write ea) (hS.write h1 h2 True.intro rfl)
/-! ### locked: it changes no more -/
def Sto.del (S : Sto) (a : Addr) : Sto := fun b => if b = a then none else S b
theorem Sto.del_ne {S : Sto} {a b : Addr} (h : b ≠ a) : S.del a b = S b := if_neg h
theorem del_sub {S : Sto} {a : Addr} : Sub (S.del a) S := fun b o e => by
  unfold Sto.del at e
  split at e
  · cases e
  · exact e
def rLk (r : RT) : RT := fun env S k => r env S fun d S1 => ∃ a m, d = .ref a ∧ S1 a = some (dcO a m) ∧ k (.dic (m.map (·.1)) (m.map fun p => ckD p.2)) (S1.del a)
theorem rpl_vals {H : Hp} : ∀ m : Cm, RpL K H (m.map fun p => ckD p.2) (m.map fun p => ckV p.2)
  | [] => .nil
  | p :: m => .cons (ck_rp p.2) (rpl_vals m)
theorem zip_vals : ∀ m : Cm, (m.map (·.1)).zip (m.map fun p => ckV p.2) = vmap m
  | [] => rfl
  | p :: m => by
    show (p.1, ckV p.2) :: ((m.map (·.1)).zip (m.map fun p => ckV p.2)) = _
    rw [zip_vals m]; rfl
theorem re_lk {e : Expr} {r : RT} (h : RE X e r) : RE X e (rLk r) := by
  constructor
  rintro pins s σ H Q I ⟨env, S, k, hE, hS, q, cl⟩
  refine thn (PE.run h pins s σ H (fun v H1 => ∃ a m S1, v = .ref a ∧ S1 a = some (dcO a m) ∧ k (.dic (m.map (·.1)) (m.map fun p => ckD p.2)) (S1.del a) ∧ Stp H S H1 S1 ∧ AbsS X.K S1 H1) I ⟨env, S, _, hE, hS, q, fun d S1 v H1 ⟨a, m, ed, ea, q1⟩ st r1 hS1 => by
    subst ed
    exact ⟨a, m, S1, r1.ref_, ea, q1, st, hS1⟩⟩) ?_
  rintro v s1 ⟨x, H1, I1, r1, a, m, S1, rfl, ea, q1, st, hS1⟩
  obtain ⟨h1, h2⟩ := dc_at ea hS1
  obtain ⟨od, I2⟩ := I1.lock h1 h2
  have mo : Mon H1 (L2.upd H1 a (.frz od (dkO a (vmap m)))) := Mon.write h1 h2
  refine ⟨.ref a, _, I2, r1, cl _ _ _ _ q1 ?_ (.dic (us := m.map fun p => ckV p.2) (by rw [zip_vals]; exact L2.upd_same) (by simp) (rpl_vals m)) ?_⟩
  · exact fun b o eb en => by
      obtain ⟨z1, z2⟩ := st b o eb en
      have ne : b ≠ a := by intro z; rw [z, ea] at z2; cases z2
      exact ⟨by rw [L2.upd_ne ne]; exact z1, by rw [Sto.del_ne ne]; exact z2⟩
  · exact fun b o eb => by
      have ne : b ≠ a := by intro z; rw [z] at eb; unfold Sto.del at eb; rw [if_pos rfl] at eb; cases eb
      rw [Sto.del_ne ne] at eb
      obtain ⟨u, e1, m1, r2⟩ := hS1 _ _ eb
      exact ⟨u, by rw [L2.upd_ne ne]; exact e1, m1, r2.mon mo⟩
/-! ### {k: v for .. in ..}, which may change -/
def rDm (ri : RTi) (g : RTg) (tt : RTt) (rk rv : RT) (vs : List Nat) : RT := fun env S k => ri env S fun items G S1 => ∃ I : Nat → Cm → Sto → Prop, I 0 [] S1 ∧ (∀ i m S, i ≤ items.length → I i m S → G S) ∧
  (∀ i x m S, items[i]? = some x → I i m S → g x (wipeE env vs) S fun env2 S2 => tt env2 S2 fun b S3 => if b = true then rk env2 S3 fun y S4 => rv env2 S4 fun d S5 => ∃ c e, y = ckD c ∧ d = ckD e ∧ m.length < sizeLine ∧ ∃ S6, Sub S6 S5 ∧ I (i + 1) (putC m c e) S6 else ∃ S6, Sub S6 S3 ∧ I (i + 1) m S6) ∧
  ∀ m S, I items.length m S → ∀ p, S p = none → k (.ref p) (S.upd p (dcO p m))
theorem dm_go {σ : L2.St} {Q : VK} {is : List Nat} {ri : RTi} {g : RTg} {tt : RTt} {rk rv : RT} (h : tR X.K (rDm ri g tt rk rv is) σ H Q) : tDk (tI X.K ri) (tG X.K is g) (tT X.K tt) (tR X.K rk) (tR X.K rv) is σ H Q := by
  obtain ⟨env, S, k, hE, hS, q, cl⟩ := h
  refine ⟨env, S, _, hE, hS, q, fun items G S1 J H1 ⟨I, i0, iG, go, fin⟩ st1 hS1 w D hD => ?_⟩
  obtain ⟨Gh, Y, wk, hG, hY⟩ := w
  refine dk_it wk (fun i H' => ∃ m S', H' D = some (dkO D (vmap m)) ∧ S' D = none ∧ AbsS X.K S' H' ∧ Stp H1 S1 H' S' ∧ I i m S')
    ⟨[], S1, L2.upd_same, hS1.free hD, hS1.laid0 hD, Stp.laid0 hD, i0⟩ ?_ ?_ ?_
  · rintro i H' hi' ⟨m, S', hd, fr, hS', st', q'⟩
    exact hG S' H' (st'.mon hS1) hS' (iG i m S' hi' q')
  · rintro i x H' H2 hi' ⟨m, S', hd, fr, hS', st', q'⟩ y
    obtain ⟨d, e, hd'⟩ := hY i H' x H2 hi' (hG S' H' (st'.mon hS1) hS' (iG i m S' (Nat.le_of_lt hi') q')) y
    obtain ⟨rd, st2, hS2⟩ := hd' S' (st'.mon hS1) hS'
    have hE2 : AbsE X.K H2 env σ := ((hE.mon (st1.mon hS)).mon (st'.mon hS1)).mon (st2.mon hS')
    refine ⟨d, wipeE env is, S', _, rd, hE2.wipe is, hS2, go i d m S' e q', fun env3 S3 σ3 H3 q3 st3 hE3 hS3 o3 => ?_⟩
    refine ⟨?_, ?_⟩
    · have z := wipe_eq_of is (L2.wipe σ is) σ3 o3.1 o3.2
      rw [z]
      exact wipe_eq_of is σ (L2.wipe σ is) (L2.wipe_length _ _) fun j hj => L2.wipe_out hj
    · refine ⟨env3, S3, _, hE3, hS3, q3, fun b S4 H4 q4 st4 hS4 => ?_⟩
      have sA : Stp H' S' H4 S4 := (st2.trans st3).trans st4
      dsimp only
      by_cases h : b = true
      · rw [if_pos h] at q4 ⊢
        refine ⟨env3, S4, _, hE3.mon (st4.mon hS3), hS4, q4, fun yk S5 v H5 q5 st5 r5 hS5 => ?_⟩
        refine ⟨env3, S5, _, (hE3.mon (st4.mon hS3)).mon (st5.mon hS4), hS5, q5, fun yd S6 v6 H6 q6 st6 r6 hS6 => ?_⟩
        obtain ⟨c, e2, rfl, rfl, hl, S7, sb, i7⟩ := q6
        have sB : Stp H' S' H6 S6 := (sA.trans st5).trans st6
        have at6 : H6 D = some (dkO D (vmap m)) := (sB _ _ hd fr).1
        refine ⟨vmap m, c, ck_of (r5.mon (st6.mon hS5)), at6, by rw [vmap_len]; exact hl, ?_⟩
        obtain rfl := ck_of r6
        rw [vmap_put]
        refine ⟨_, S7, L2.upd_same, ?_, ?_, ?_, i7⟩
        · exact sb.free (sB _ _ hd fr).2
        · exact fun a o ea => by
            have ha := sb a o ea
            obtain ⟨u, e1, m1, r1⟩ := hS6 a o ha
            have ne : a ≠ D := by intro z; rw [z, (sB _ _ hd fr).2] at ha; cases ha
            exact ⟨u, by rw [L2.upd_ne ne]; exact e1, m1, r1.mon (Mon.write at6 True.intro)⟩
        · exact fun a o ea en => by
            have ne : a ≠ D := by intro z; rw [z, hD] at ea; cases ea
            obtain ⟨z1, z2⟩ := (st'.trans sB) a o ea en
            exact ⟨by rw [L2.upd_ne ne]; exact z1, sb.free z2⟩
      · rw [if_neg h] at q4 ⊢
        obtain ⟨S6, sb, i6⟩ := q4
        exact ⟨m, S6, (sA _ _ hd fr).1, sb.free (sA _ _ hd fr).2, hS4.sub sb, (st'.trans sA).sub sb, i6⟩
  · rintro H' ⟨m, S', hd, fr, hS', st', q'⟩
    refine cl _ _ _ _ (fin m S' q' D fr) ?_ .ref ?_
    · exact fun a o ea en => by
        obtain ⟨z1, z2⟩ := st1 a o ea en
        have ne : a ≠ D := by intro z; rw [z, hD] at z1; cases z1
        obtain ⟨y1, y2⟩ := st' a o z1 z2
        exact ⟨y1, by rw [Sto.upd_ne ne]; exact y2⟩
    · exact fun a o ea => by
        by_cases ne : a = D
        · subst ne
          rw [Sto.upd_same] at ea
          cases ea
          exact ⟨_, hd, True.intro, rfl⟩
        · rw [Sto.upd_ne ne] at ea
          exact hS' a o ea
theorem re_dm {kx vx tg iter : Expr} {ifs : List Expr} {scope : Scope} {pos : Pos} (own : List (Str × Nat)) {ri : RTi} {g : RTg} {tt : RTt} {rk rv : RT} (hc : X.calm = true) (hN : X.N.Nodup) (hi : RI X tg iter ri) (ok : BlkOk X.N X.env.scope scope own)
    (hg : ∀ (s : Shared) (H : Hp) (C : Addr) (cl : List (Str × Addr)) (fp : List Addr), RG (X.blk s H scope (compEnvC scope cl C X.env) fp) (own.map (·.2)) tg g) (ht : ∀ (s : Shared) (H : Hp) (C : Addr) (cl : List (Str × Addr)) (fp : List Addr), RTs1 (X.blk s H scope (compEnvC scope cl C X.env) fp) ifs tt)
    (hk : ∀ (s : Shared) (H : Hp) (C : Addr) (cl : List (Str × Addr)) (fp : List Addr), RE (X.blk s H scope (compEnvC scope cl C X.env) fp) kx rk)
    (he : ∀ (s : Shared) (H : Hp) (C : Addr) (cl : List (Str × Addr)) (fp : List Addr), RE (X.blk s H scope (compEnvC scope cl C X.env) fp) vx rv) (hs : ∀ x, foldedSetIterable iter X.env x = pure x := by intro _; rfl) :
    RE X (.DictComp kx vx [⟨tg, iter, ifs, 0⟩] scope pos) (rDm ri g tt rk rv (own.map (·.2))) :=
  PE.imp (pe_dk (own := own) (g := tG X.K (own.map fun (x : Str × Nat) => x.2) g) (tt := tT X.K tt) (tk := tR X.K rk) (tv := tR X.K rv) hc hN hi ok hg ht hk he hs) fun σ H Q h => dm_go h
end
end DL
/-! for k, v in d.items(); set(t) that is kept -/
namespace DL
open PySem PySem.Spec PyProof.Rows L2
def JtK (d : Addr) (o : Obj) (kvs : List (Ck × V)) : It :=
  ⟨fun i H => H d = some (.frz o (dkO d kvs)) ∧ i < kvs.length, fun i H x H' => ∃ T k v, kvs[i]? = some (k, v) ∧ x = .ref T ∧ H T = none ∧ H' = L2.upd H T (.tup [ckV k, v]), fun i H => H d = some (.frz o (dkO d kvs)) ∧ kvs.length ≤ i⟩
section
variable {P : Program} {w : World} {K : PySem.W.Frag} {d : Addr} {o : Obj} {es : Array DictEntry} {ep : Nat}
theorem turn_itemsK {kvs : List (Ck × V)} {elts : List Expr} {kk : Nat} {tpos : Pos} (it : Addr) (hod : o.data = .dict es ep) :
    Turn P w K (.Tuple elts kk tpos) (JtK d o kvs) [it] it (fun i h => ∃ ok ov, IsItemIter h it d i kvs.length ep ok ov) where
  mem := by simp
  obj := fun i h st b hb => by
    have e : b = it := by simpa using hb
    subst e
    obtain ⟨ok, ov, e⟩ := st
    exact ⟨_, e, fun v z => nomatch z⟩
  keep := fun i h h' st k => let ⟨ok, ov, e⟩ := st; ⟨ok, ov, k it (by simp) _ e⟩
  item := by
    intro X hP hw hK hc i pins s σ H E I hf st hg
    subst hP hw hK
    obtain ⟨hd, hi⟩ := hg
    obtain ⟨hs, hgd, hx, es', ep', vs, hdt, hsz, kv, hm⟩ := lk_raw I hd
    obtain ⟨rfl, rfl⟩ := dict_ep hod hdt
    obtain ⟨⟨k, v⟩, hkv⟩ : ∃ p, kvs[i]? = some p := ⟨kvs[i], List.getElem?_eq_getElem hi⟩
    obtain ⟨u, hu, ru⟩ := kv_get kv hkv
    have hl : kvs.length = vs.length := Paired.length kv
    obtain ⟨ok, ov, he⟩ := st
    rw [hl] at he
    have hlt : it < s.heap.objs.size := Heap.lt_size he
    refine wpAny_pyNext_items_item he hm hu fun key h' hkey ho hT hz hk => ?_
    refine ⟨_, rfl, wpAny_letOwnedTupleGo_items (s := { s with heap := h' }) ho fun h'' he' sb => ?_⟩
    have hT2 : h''.get? s.heap.objs.size = some { cls := .type "tuple", data := .seq #[key, u] } := (sb.2 _ (Nat.ne_of_gt hlt)).trans hT
    have new : ObjOk X.prog X.w (L2.upd H s.heap.objs.size (.tup [ckV k, v])) h'' s.heap.objs.size (.tup [ckV k, v]) :=
      ⟨by show 2 ≤ sizeLine; decide, [key, u], .cons (ck_rel hkey) (.cons ru .nil), ⟨_, hT2, rfl, _, rfl⟩⟩
    have I1 : Inv X pins σ (L2.upd H s.heap.objs.size (.tup [ckV k, v])) { s with heap := h'' } :=
      I.turnedNew (t' := s.toks) (ch := [it]) (fun b ob hb e => (sb.2 b (by simpa using hb)).trans (hk b ob (by simpa using hb) e)) hf (Nat.le_refl _) new
    refine ⟨.ref s.heap.objs.size, _, I1, rfl, ⟨_, k, v, hkv, rfl, I.hok.fresh (Nat.le_refl _), rfl⟩, ⟨key, u, ?_⟩, fun b hb => ?_⟩
    · rw [hl]; exact he'
    · have e : b = it := by simpa using hb
      rw [e, L2.upd_ne (Nat.ne_of_lt hlt)]
      exact (hf it (by simp)).1
  done := by
    intro X hP hw hK hc i pins s σ H E I hf st hg
    subst hP hw hK
    obtain ⟨hd, hi⟩ := hg
    obtain ⟨f0, f1, f2, f3, f4, f5⟩ := hf it (by simp)
    obtain ⟨hs, hgd, hx, es', ep', vs, hdt, hsz, kv, hm⟩ := lk_raw I hd
    obtain ⟨rfl, rfl⟩ := dict_ep hod hdt
    have hl : kvs.length = vs.length := Paired.length kv
    obtain ⟨ok, ov, he⟩ := st
    rw [hl] at he
    exact wpAny_pyNext_items_end (I.ok.hd hc) he hm (List.getElem?_eq_none (by omega)) fun h' eb => ⟨rfl, I.turned (t' := s.toks) (fun b ob hb e => eb b ob hb e) f0 f1 f3 f4 f5⟩
  self := fun A i s Q E st h => let ⟨_, _, e⟩ := st; PySem.W.kcp_self e h
theorem walk_itemsK {kvs : List (Ck × V)} : Walk (JtK d o kvs) kvs.length (fun H => H d = some (.frz o (dkO d kvs))) (YPair (fun i => kvs[i]?.map fun kv => ckV kv.1) (fun i => kvs[i]?.map Prod.snd)) := by
  refine ⟨fun _ _ hi q => ⟨q, hi⟩, fun _ q => ⟨q, Nat.le_refl _⟩, fun i H x H' _ _ y => ?_⟩
  obtain ⟨T, k, v, h1, h2, h3, h4⟩ := y
  exact ⟨T, ckV k, v, h2, h3, h4, by simp [h1], by simp [h1]⟩
end
section
variable {X : Cx} {e : Expr} {re : RT} {apos cpos : Pos}
def itemsD (ks : List Ck) (ds : List D) : List D := (ks.zip ds).map fun p => .par [ckD p.1, p.2]
def iItemsK (re : RT) : RTi := fun env S k => re env S fun d S1 => match d with
  | .dic ks ds => k (itemsD ks ds) (fun _ => True) S1
  | _ => False
theorem ri_items {elts : List Expr} {kk : Nat} {tpos : Pos} (h : RE X e re) (hbase : attributeBase e "items" X.env (eval e X.env) = eval e X.env := by rfl) (hline : (apos.endLine == cpos.line) = true := by rfl) :
    RI X (.Tuple elts kk tpos) (.Call (.Attribute e "items" apos) [] [] cpos) (iItemsK re) := by
  constructor
  rintro pins s σ H0 R I ⟨env, S, k, hE, hS, q, cl⟩
  refine wpAny_Call_method (T := "dict") (id := "dict.items") hbase rfl hline F.plainAttrs_dict F.slot_dict_items F.type_dict_items (thn (PE.run h pins s σ H0 (fun v H1 => ∃ ks ds S1, k (itemsD ks ds) (fun _ => True) S1 ∧ Stp H0 S H1 S1 ∧ AbsS X.K S1 H1 ∧ ∃ a o us, v = .ref a ∧ H1 a = some (.frz o (dkO a (ks.zip us))) ∧ ks.length = us.length ∧ RpL X.K H1 ds us) I ⟨env, S, _, hE, hS, q, fun d S1 v H1 q1 st1 r1 hS1 => ?_⟩) ?_)
  · split at q1
    · rename_i ks ds
      obtain ⟨a, o, us, rfl, at_, ll, r⟩ := r1.dic_
      exact ⟨ks, ds, S1, q1, st1, hS1, a, o, us, rfl, at_, ll, r⟩
    · exact q1.elim
  rintro u s1 ⟨v, H1, I1, ru, ks, ds, S1, q1, st, hS1, a, o, us, rfl, hd, ll, r⟩
  obtain rfl : u = Value.ref a := ru
  obtain ⟨hs, hgd, hx, es, ep, vs, hdt, hsz, kv, hm⟩ := lk_raw I1 hd
  have hl : (ks.zip us).length = vs.length := Paired.length kv
  have kz : (ks.zip us).length = ks.length := by rw [List.length_zip]; omega
  refine ⟨hm.dictOf.typeIs, hm.dictOf.mapOf.noDict, ?_⟩
  have I2 : Inv X pins σ H1 { s1 with heap := s1.heap.push { cls := .type "dict_items", data := .fields #[.ref a] } } := I1.kept (t' := s1.toks) fun b ob q => Heap.get?_push_of_some _ q
  have fin : wpAny (model X.prog X.w) X.A (pyIter (.ref s1.heap.objs.size)) (PIE X pins σ (.Tuple elts kk tpos) R) X.xe { s1 with heap := s1.heap.push { cls := .type "dict_items", data := .fields #[.ref a] } } := by
    refine wpAny_pyIter_items (d := a) (knd := caseK X.prog X.w) ⟨_, Heap.get?_push_size _ rfl, rfl, rfl⟩ (hm.push _) (pi_one (tk := s1.toks) I2 _ (turn_itemsK (d := a) (o := o) (kvs := ks.zip us) _ hdt) ⟨.none, .none, ?_⟩ ?_)
    · rw [hl]
      exact Heap.get?_push_size _ rfl
    · refine cl _ _ _ _ _ q1 st hS1 ?_
      have w := walk_itemsK (d := a) (o := o) (kvs := ks.zip us)
      have el : (ks.zip us).length = (itemsD ks ds).length := by
        unfold itemsD
        rw [List.length_map, List.length_zip, List.length_zip, r.length]
      rw [el] at w
      refine walkD_pair w (fun S' H' m _ _ => m _ _ hd fun z => z) fun i x y hi e1 e2 => ?_
      cases ez : (ks.zip us)[i]? with
      | none => rw [ez] at e1; cases e1
      | some p =>
        rw [ez] at e1 e2
        cases e1
        cases e2
        obtain ⟨k1, u1⟩ := p
        obtain ⟨hk, hu⟩ : ks[i]? = some k1 ∧ us[i]? = some u1 := by
          rw [List.getElem?_zip_eq_some] at ez; exact ez
        obtain ⟨d1, e3, r3⟩ := r.getV hu
        refine ⟨ckD k1, d1, ?_, fun H' m => ⟨ck_rp k1, ?_⟩⟩
        · unfold itemsD
          rw [List.getElem?_map]
          have : (ks.zip ds)[i]? = some (k1, d1) := by rw [List.getElem?_zip_eq_some]; exact ⟨hk, e3⟩
          rw [this]; rfl
        · exact r3.mon m
  show wpAny _ _ (callWith cpos (.builtin "dict.items") [.ref a] [] []) _ X.xe s1
  exact method_meetsIn F.slot_dict_items F.entry_dict_items rfl (PySem.evalArgs_none ⟨rfl, hm.dictOf.typeIs, F.args_dict_items_1 _, _, meets_dict_items (caseK X.prog X.w) a hs, ⟨vs, hm.dictOf⟩, fin⟩)
end
/-! ### set(t), kept; x in it -/
def IsAt (a : Addr) (f : Int → Bool) (n : Nat) : Heap → Prop := fun h => ∀ (P : Program) (w : World), h.SetOf (intKind P w) a f n
abbrev isO (a : Addr) (f : Int → Bool) (n : Nat) : HO := .ext (IsAt a f n)
section
variable {X : Cx} {a : Expr} {re : RT}
theorem is_ok {P : Program} {w : World} {H : Hp} {h : Heap} {a : Addr} {f : Int → Bool} {n : Nat} (d : h.SetOf (intKind P w) a f n) : ObjOk P w H h a (isO a f n) := by
  refine ⟨fun P' w' => d, ?_, ?_⟩
  · obtain ⟨o, _, _, _, e, _⟩ := d
    exact ⟨o, e⟩
  · intro h1 h2 p k P' w'
    obtain ⟨o, es, ep, t, e, rest⟩ := p P' w'
    exact ⟨o, es, ep, t, k o e, rest⟩
def rSetT (re : RT) : RT := fun env S k => re env S fun d S1 => ∃ ns : List Int, d = .tup (ns.map D.int) ∧ ns.length ≤ 4000 ∧ ∀ p n, S1 p = none → k (.ref p) (S1.upd p (.ho (isO p (fun i => decide (i ∈ ns)) n)))
theorem re_setT {p pos : Pos} (hg2 : Gl X "set") (hm2 : X.mg "set" = none) (ha : RE X a re) (hc : X.calm = true := by rfl)
    (na : starEach [a] X.env = (false, eval a X.env) :: starEach [] X.env := by rfl) : RE X (.Call (.Name "set" p) [a] [] pos) (rSetT re) := by
  constructor
  rintro pins s σ H Q I ⟨env, S, k, hE, hS, hq, c⟩
  refine Call_ (ld_blt I hg2 hm2 boot_set ?_)
  refine PyProof.Rows.callWith_type1 (PyProof.Rows.args_cons (thn (PE.run ha pins s σ H (fun v H1 => ∃ d S1, (∃ ns : List Int, d = .tup (ns.map D.int) ∧ ns.length ≤ 4000 ∧ ∀ p n, S1 p = none → k (.ref p) (S1.upd p (.ho (isO p (fun i => decide (i ∈ ns)) n)))) ∧ Stp H S H1 S1 ∧ Rp X.K H1 d v ∧ AbsS X.K S1 H1) I ⟨env, S, _, hE, hS, hq, fun d S1 v H1 q1 st r1 hS1 => ⟨d, S1, q1, st, r1, hS1⟩⟩) ?_) na) na rfl
  rintro v s1 ⟨x, H1, I1, r1, d, S1, ⟨ns, rfl, hl, q1⟩, st, rd, hS1⟩
  refine PyProof.Rows.args_nil ?_
  obtain ⟨l, vs, rfl, h1, h2⟩ := rd.tup_
  have := h2.ints; subst this
  cases r1
  obtain ⟨its, r, pl, hz⟩ := I1.tuple h1.sq
  have hdn := I1.ok.hd hc
  refine call_set_tupI ns hdn (show s1.heap.IsTuple l its.toArray from pl) (by simpa using r.ints) (by unfold scanBound; omega) fun h' tk cc R1 hcn kp => ?_
  have fresh : H1 s1.heap.objs.size = none := I1.hok.fresh (Nat.le_refl _)
  exact ⟨.ref _, _, I1.laid (t' := tk) kp (Nat.le_refl _) (is_ok R1.setOf), rfl, c _ _ _ _ (q1 _ _ (hS1.free fresh)) (st.trans (Stp.laid fresh)) .ref (hS1.laid fresh True.intro rfl)⟩
def inIs (neg : Bool) : F2 := fun x y S k => ∃ i a f n, x = .int i ∧ y = .ref a ∧ S a = some (.ho (isO a f n)) ∧ k (.bl (neg ^^ f i)) S
def rInIs (neg : Bool) : R2 := fun x y H Q => ∃ i a f n, x = .int i ∧ y = .ref a ∧ H a = some (isO a f n) ∧ Q (.bl (neg ^^ f i)) H
theorem or_inIs : OpR X (compareOp .In) (rInIs false) := by
  rintro pins s σ H x y v u Q I rx ry ⟨c, a, f, n, rfl, rfl, e, q⟩
  cases ry
  obtain ⟨tk, rfl⟩ := rx
  refine wpAny_inSet_of (intKind_is _ _ _ _) rfl ((I.hok a _ e).1 X.prog X.w) ⟨.bl (f c), H, I.tok _, rfl, ?_⟩
  rw [Bool.false_xor] at q; exact q
theorem inIs_go {neg : Bool} {x y : D} {S : Sto} {k : RK} {v u : V} {H : Hp} {Q : VK} (q : inIs neg x y S k) (rx : Rp X.K H x v) (ry : Rp X.K H y u) (hS : AbsS X.K S H) (c : Cl X.K H S k Q) : rInIs neg v u H Q := by
  obtain ⟨c0, a, f, n, rfl, rfl, e, q⟩ := q
  obtain rfl := ry.ref_
  obtain ⟨h, e1, _, e2⟩ := hS _ _ e
  have e2' : h = isO a f n := e2
  subst e2'
  exact ⟨c0, a, f, n, rx.int_, rfl, e1, c _ _ _ _ q Stp.refl .bl hS⟩
theorem opInIs : Op2 X (compareOp .In) (inIs false) := ⟨_, or_inIs, fun x y S k v u H Q q rx ry hS c => inIs_go q rx ry hS c⟩
end
end DL
/-! name = {k: v for .. in ..}, the name a local -/
namespace DL
open PySem PySem.Spec PyProof.Rows L2
section
variable {X : Cx}
theorem dk_core {pins : List (Addr × Obj)} {s : Shared} {σ : L2.St} {H : Hp} {Q : VK} {kx vx tg iter : Expr} {ifs : List Expr} {scope : Scope} {own : List (Str × Nat)} {pos pos' : Pos} {wi : TI} {g : TG} {tt : TT} {tk tv : TE} {use : Option (Value → Sem Unit)} {Qf : Value → Shared → Prop}
    (calm : X.calm = true) (nd : X.N.Nodup) (inv0 : Inv X pins σ H s) (wk : PI X tg iter wi) (blk : BlkOk X.N X.env.scope scope own)
    (ptg : ∀ (s : Shared) (H : Hp) (C : Addr) (cl : List (Str × Addr)) (fp : List Addr), PG (X.blk s H scope (compEnvC scope cl C X.env) fp) tg g)
    (pif : ∀ (s : Shared) (H : Hp) (C : Addr) (cl : List (Str × Addr)) (fp : List Addr), PTs (X.blk s H scope (compEnvC scope cl C X.env) fp) ifs tt)
    (pke : ∀ (s : Shared) (H : Hp) (C : Addr) (cl : List (Str × Addr)) (fp : List Addr), PE (X.blk s H scope (compEnvC scope cl C X.env) fp) kx tk)
    (pva : ∀ (s : Shared) (H : Hp) (C : Addr) (cl : List (Str × Addr)) (fp : List Addr), PE (X.blk s H scope (compEnvC scope cl C X.env) fp) vx tv) (fold : ∀ x, foldedSetIterable iter X.env x = pure x)
    (want : tDk wi g tt tk tv (own.map (·.2)) σ H Q)
    (hRR : ∀ D C s' m H', Inv X pins σ H' s' → Q (.ref D) H' → s'.heap.Ns C m → FpOk X pins H' C → compPost (model X.prog X.w) X.A X.xe use Qf (.ref D) C (.ok .next) s') :
    wpAny (model X.prog X.w) X.A (comprehension (.DictComp kx vx [⟨tg, iter, ifs, 0⟩] scope pos) scope X.env pos' newDict false (eval iter X.env) use) Qf X.xe s := by
  have clo : ∀ y ∈ scope.names, y.2 = .free → ∃ c, X.env.cells.lookup y.1 = some c := fun y hy e => by
    rcases blk.free y hy e with z | z
    · exact inv0.ok.has _ (.inl z)
    · exact inv0.ok.has _ (.inr z)
  refine wpAny_comprehension_free (use := use) rfl fold (closure_ok clo) blk.kind (fun y hy e => by rw [blk.uniq y hy, e]) (thn (wk.run pins s σ H _ inv0 want) fun xv sA hx => thn hx fun itv sB hB => ?_)
  obtain ⟨it, fp, tn, J, HB, rfl, invB, T, stB, okB, reach⟩ := hB
  refine wpAny_newObj_type (newEnv_comp ?_)
  -- the dict is laid
  obtain ⟨D, eD⟩ : ∃ D, D = sB.heap.objs.size := ⟨_, rfl⟩
  have freeD : HB D = none := by rw [eD]; exact invB.hok.fresh (Nat.le_refl _)
  obtain ⟨W, ⟨mStart, wStart⟩, turns⟩ := reach D freeD
  obtain ⟨sC, eC⟩ : ∃ sC : Shared, sC = { sB with heap := sB.heap.push { cls := .type "dict", data := .dict #[] } } := ⟨_, rfl⟩
  have invC : Inv X pins σ (L2.upd HB D (dkO D [])) sC := by
    rw [eC, eD]
    exact invB.laid (t' := sB.toks) (fun b o e => Heap.get?_push_of_some _ e) (Nat.le_refl _) (dk_nil invB.big)
  have heapC : sC.heap = sB.heap.push { cls := .type "dict", data := .dict #[] } := by rw [eC]
  have below : ∀ b ∈ fp, b < sB.heap.objs.size := fun b hb => by
    obtain ⟨o, e, _⟩ := T.obj _ _ stB b hb
    exact Heap.lt_size e
  have fpC : ∀ b ∈ fp, FpOk X pins (L2.upd HB D (dkO D [])) b ∧ b < sC.heap.objs.size := fun b hb => by
    have lt := below b hb
    refine ⟨⟨?_, (okB b hb).2⟩, by rw [heapC, Heap.size_push]; exact Nat.lt_succ_of_lt lt⟩
    rw [L2.upd_ne (by rw [eD]; exact Nat.ne_of_lt lt)]
    exact (okB b hb).1
  have stC : tn 0 sC.heap := T.keep _ _ _ stB fun b _ o e => by rw [heapC]; exact Heap.get?_push_of_some _ e
  obtain ⟨HC, eHC⟩ : ∃ HC, HC = L2.upd HB D (dkO D []) := ⟨_, rfl⟩
  rw [← eHC] at invC fpC wStart
  have invE := block_start invC blk nd fpC
  obtain ⟨cs, eCs⟩ : ∃ cs, cs = cellsFrom (sC.heap.objs.size + 1) scope.names (cloFrom X.env.cells scope.names []) := ⟨_, rfl⟩
  obtain ⟨ce, eCe⟩ : ∃ ce, ce = compEnvC scope cs sC.heap.objs.size X.env := ⟨_, rfl⟩
  have rTg := ptg sC HC sC.heap.objs.size cs fp
  have rIf := pif sC HC sC.heap.objs.size cs fp
  have rKe := pke sC HC sC.heap.objs.size cs fp
  have rVa := pva sC HC sC.heap.objs.size cs fp
  rw [← eCe] at rTg rIf rKe rVa
  rw [← eCs, ← eCe] at invE
  have loc : ce.locals = sC.heap.objs.size := by rw [eCe]; rfl
  obtain ⟨sE, eE⟩ : ∃ sE : Shared, sE = { sC with heap := pushCells (sC.heap.push { cls := .type "dict", data := .dict #[] }) scope.names } := ⟨_, rfl⟩
  rw [← eE] at invE
  have stE : tn 0 sE.heap := T.keep _ _ _ stC fun b _ o e => by rw [eE]; exact pushCells_keeps _ _ _ _ (Heap.get?_push_of_some _ e)
  have good : ∀ {σ' : L2.St} {H' : Hp} {s' : Shared}, Inv (X.blk sC HC scope ce fp) [] σ' H' s' → (∀ b ∈ fp, H' b = none) → ∀ b ∈ fp, FpOk (X.blk sC HC scope ce fp) [] H' b := fun {σ' H' s'} J' free b hb =>
    ⟨free b hb, (J'.ok.exf b hb).1, J'.ok.exfs b hb, .inl hb, fun x c e => (J'.ok.exf b hb).2 x c e, fun p hp => absurd (show p ∈ ([] : List (Addr × Obj)) ++ [] from hp) (by simp)⟩
  have whole : codeAny (model X.prog X.w) X.A (.compLoop (.DictComp kx vx [⟨tg, iter, ifs, 0⟩] scope pos) 0 (.ref it) (.ref D) ce) (compPost (model X.prog X.w) X.A X.xe use Qf (.ref D) sC.heap.objs.size) sE := by
    refine compLoop_anyD (fun n s' => ∃ i H', Inv (X.blk sC HC scope ce fp) [] (L2.wipe σ (own.map (·.2))) H' s' ∧ tn i s'.heap ∧ (∀ b ∈ fp, H' b = none) ∧ W i n H') ?_ mStart ⟨0, HC, invE, stE, fun b hb => (fpC b hb).1.1, wStart⟩
    rintro n s5 ⟨i, H5, inv5, st5, free5, w5⟩
    rcases turns i n H5 w5 with ⟨stop, fin⟩ | ⟨go, Nx, down, step⟩
    · refine thnF (T.done (X.blk sC HC scope ce fp) rfl rfl rfl calm i [] s5 _ H5 (fun _ _ => False) inv5 (good inv5 free5) st5 stop) fun r s6 ⟨er, inv6⟩ => ?_
      subst er
      have back : Inv X pins σ H5 s6 := invC.call' (ch := fp) inv6.os inv6.base inv6.hok inv6.bare fun b hb => ⟨(fpC b hb).1.2.2.2.1, (fpC b hb).1.2.1, (fpC b hb).1.2.2.2.2.1, (fpC b hb).1.2.2.2.2.2⟩
      have nC : H5 sC.heap.objs.size = none := by
        have z : H5 ce.locals = none := inv6.free
        rw [loc] at z
        exact z
      obtain ⟨m, hn, _⟩ := inv6.loc
      have hn : s6.heap.Ns ce.locals m := hn
      rw [loc] at hn
      exact hRR D sC.heap.objs.size s6 m H5 back fin hn (invC.fpOk (Nat.le_refl _) nC)
    · refine thnF (T.item (X.blk sC HC scope ce fp) rfl rfl rfl calm i [] s5 _ H5 (fun _ _ => False) inv5 (good inv5 free5) st5 go) fun r s6 ⟨u, er, h6⟩ => ?_
      subst er
      refine thnF h6 fun _ s7 ⟨x, H7, inv7, r7, y7, st7, free7⟩ => ?_
      have inv7' := inv7.pinned (good inv7 free7) (T.obj _ _ st7)
      refine thnF (rTg.run _ s7 _ H7 x u _ inv7' r7 (step x H7 y7)) fun _ s8 ⟨σ8, H8, inv8, wiped, q8⟩ => thnF (rIf.run _ s8 σ8 H8 _ inv8 q8) fun b s9 ⟨H9, inv9, q9⟩ => ?_
      have next : ∀ {s' : Shared} {H' : Hp}, Inv (X.blk sC HC scope ce fp) ([] ++ pinsAt fp s7.heap) σ8 H' s' → Nx H' → ∃ m, m < n ∧ ∃ i H', Inv (X.blk sC HC scope ce fp) [] (L2.wipe σ (own.map (·.2))) H' s' ∧ tn i s'.heap ∧ (∀ b ∈ fp, H' b = none) ∧ W i m H' := fun {s' H'} inv' nx => by
        obtain ⟨m', lt, w'⟩ := down H' nx
        have held : ∀ b ∈ fp, ∀ o, s7.heap.get? b = some o → s'.heap.get? b = some o ∧ H' b = none := fun b hb o e =>
          let z := inv'.pin (b, o) (List.mem_append_right _ (List.mem_append_right _ (mem_pinsAt hb e)))
          ⟨z.1, z.2.1⟩
        refine ⟨m', lt, i + 1, H', (inv'.unpinned (pins := [])).weak (by rw [← wiped, L2.wipe_length]) (fun j v e => ?_), T.keep _ _ _ st7 fun b hb o e => (held b hb o e).1, fun b hb => ?_, w'⟩
        · rw [← wiped] at e
          exact (L2.wipe_some e).1
        · obtain ⟨o, e, _⟩ := T.obj _ _ st7 b hb
          exact (held b hb o e).2
      cases b with
      | true =>
        simp only [if_true] at q9 ⊢
        refine thnF (rKe.run _ s9 σ8 H9 _ inv9 q9) fun z s10 ⟨yk, H10, inv10, r10, q10⟩ => thnF (rVa.run _ s10 σ8 H10 _ inv10 q10) fun z2 s11 ⟨yv, H11, inv11, r11, kvs, k, ek, hD, hz, nx⟩ => ?_
        subst ek
        exact dk_put (X := X.blk sC HC scope ce fp) inv11 hD hz r10 r11 fun s12 inv12 => next inv12 nx
      | false =>
        simp only [Bool.false_eq_true, if_false] at q9 ⊢
        exact next inv9 q9
  show codeAny _ _ (.compStart (.DictComp kx vx [⟨tg, iter, ifs, 0⟩] scope pos) 0 (.ref it) (.ref sB.heap.objs.size) (compEnvC scope (cellsFrom ((sB.heap.push { cls := .type "dict", data := .dict #[] }).objs.size + 1) scope.names (cloFrom X.env.cells scope.names [])) (sB.heap.push { cls := .type "dict", data := .dict #[] }).objs.size X.env)) _ _
  subst eD eC eHC eCs eCe eE
  exact codeAny_compStart_dict whole (T.self X.A 0 _ _ _ stE whole)
theorem ps_setDk {i : Nat} {y : Str} {py : Pos} {kx vx tg iter : Expr} {ifs : List Expr} {scope : Scope} {own : List (Str × Nat)} {pos spos : Pos} {wi : TI} {g : TG} {tt : TT} {tk tv : TE} (hc : X.calm = true) (hN : X.N.Nodup) (hy : X.N[i]? = some y) (hyl : X.env.scope.names.lookup y = some .local)
    (hsw : swapsWith (.DictComp kx vx [⟨tg, iter, ifs, 0⟩] scope pos) (some (.Name y py)) spos.line X.env = pure true) (hi : PI X tg iter wi) (ok : BlkOk X.N X.env.scope scope own)
    (hg : ∀ (s : Shared) (H : Hp) (C : Addr) (cl : List (Str × Addr)) (fp : List Addr), PG (X.blk s H scope (compEnvC scope cl C X.env) fp) tg g) (ht : ∀ (s : Shared) (H : Hp) (C : Addr) (cl : List (Str × Addr)) (fp : List Addr), PTs (X.blk s H scope (compEnvC scope cl C X.env) fp) ifs tt)
    (hk : ∀ (s : Shared) (H : Hp) (C : Addr) (cl : List (Str × Addr)) (fp : List Addr), PE (X.blk s H scope (compEnvC scope cl C X.env) fp) kx tk)
    (hv : ∀ (s : Shared) (H : Hp) (C : Addr) (cl : List (Str × Addr)) (fp : List Addr), PE (X.blk s H scope (compEnvC scope cl C X.env) fp) vx tv) (hs : ∀ x, foldedSetIterable iter X.env x = pure x := by intro _; rfl) :
    PS X (.Assign [.Name y py] (.DictComp kx vx [⟨tg, iter, ifs, 0⟩] scope pos) spos) (tAsg (tDk wi g tt tk tv (own.map (·.2))) (gName i)) := by
  refine ⟨fun pins s σ H D I h => ?_⟩
  rw [exec_Assign_Name_used _ _ _ _ hsw]
  refine wpAny_bind (wpAny_standAt (wpAny_bind ?_))
  show wpAny _ X.A (do let _ ← comprehension (.DictComp kx vx [⟨tg, iter, ifs, 0⟩] scope pos) scope X.env (firstIterPos [⟨tg, iter, ifs, 0⟩] pos) newDict false (eval iter X.env) (some (assign (.Name y py) X.env))) _ _ s
  have h : tDk wi g tt tk tv (own.map (·.2)) σ H (fun x H1 => gName i x σ H1 D.nx) := h
  refine wpAny_bind (thn (dk_core (Qf := fun _ s' => SP X pins D .next s') hc hN I hi ok hg ht hk hv hs h fun L C s' m H' I' q hn f => ?_) fun _ s' hq => wpAny_pure (wpAny_pure hq))
  show wpAny _ _ (assign (.Name y py) X.env (.ref L)) _ _ _
  refine wpAny_assign_Name (store_ok2 (v := V.ref L) I' hN hy (.inl hyl) rfl (fun s2 I2 ⟨a, sb, ha⟩ => ?_) (.inr hyl))
  obtain ⟨f0, f1, f2, f3, f4, f5⟩ := f
  have haC : C ≠ a := by
    rcases ha with z | z
    · rw [z]; exact f1
    · exact fun e => f4 y a z e.symm
  refine ⟨m, hn.sameBut sb haC, fun h3 sb3 => ?_⟩
  exact ⟨_, H', I2.turned (t' := s2.toks) (fun b o hb e => (sb3.2 b hb).trans e) f0 f1 f3 f4 f5, q⟩
theorem sw_trueD {kx vx : Expr} {gs : List Comprehension} {scope : Scope} {pos py : Pos} {y : Str} {l : Nat} {env : Env} (hk : env.scope.kind = .function) (hy : env.scope.names.lookup y = some .local) (hl : (py.line == pos.line) = true)
    (ha : (scope.names.any fun (n, k) => n == y && (k == .local || k == .cell)) = false) : swapsWith (.DictComp kx vx gs scope pos) (some (.Name y py)) l env = pure true := by
  have ky : env.kindOf y = some .local := hy
  have hb : env.blockKind = .function := by unfold Env.blockKind; rw [hk]; rfl
  unfold swapsWith
  simp only [hb, ky, ha, Expr.pos, hl]
  rfl
theorem rs_setDm (i : Nat) {y : Str} {py : Pos} {kx vx tg iter : Expr} {ifs : List Expr} {scope : Scope} (own : List (Str × Nat)) {pos spos : Pos} {ri : RTi} {g : RTg} {tt : RTt} {rk rv : RT} (hc : X.calm = true) (hN : X.N.Nodup)
    (hsw : swapsWith (.DictComp kx vx [⟨tg, iter, ifs, 0⟩] scope pos) (some (.Name y py)) spos.line X.env = pure true) (hi : RI X tg iter ri) (ok : BlkOk X.N X.env.scope scope own)
    (hg : ∀ (s : Shared) (H : Hp) (C : Addr) (cl : List (Str × Addr)) (fp : List Addr), RG (X.blk s H scope (compEnvC scope cl C X.env) fp) (own.map (·.2)) tg g) (ht : ∀ (s : Shared) (H : Hp) (C : Addr) (cl : List (Str × Addr)) (fp : List Addr), RTs1 (X.blk s H scope (compEnvC scope cl C X.env) fp) ifs tt)
    (hk : ∀ (s : Shared) (H : Hp) (C : Addr) (cl : List (Str × Addr)) (fp : List Addr), RE (X.blk s H scope (compEnvC scope cl C X.env) fp) kx rk)
    (he : ∀ (s : Shared) (H : Hp) (C : Addr) (cl : List (Str × Addr)) (fp : List Addr), RE (X.blk s H scope (compEnvC scope cl C X.env) fp) vx rv) (hy : X.N[i]? = some y := by rfl) (hyl : X.env.scope.names.lookup y = some .local := by rfl) (hs : ∀ x, foldedSetIterable iter X.env x = pure x := by intro _; rfl) :
    RS X (.Assign [.Name y py] (.DictComp kx vx [⟨tg, iter, ifs, 0⟩] scope pos) spos) (rAsg (rDm ri g tt rk rv (own.map (·.2))) (gN i)) := by
  refine PS.imp (ps_setDk (own := own) (g := tG X.K (own.map fun (x : Str × Nat) => x.2) g) (tt := tT X.K tt) (tk := tR X.K rk) (tv := tR X.K rv) hc hN hy hyl hsw hi ok hg ht hk he hs) fun D σ H ⟨env, S, ed, hE, hS, q, cl⟩ => ?_
  refine dm_go ⟨env, S, _, hE, hS, q, fun d S1 v H1 q1 st1 r1 hS1 => ?_⟩
  exact cl.nx _ _ _ _ q1 st1 ((hE.mon (st1.mon hS)).set i r1) hS1
theorem ipAdd : IpD X .Add (fun x y S k => match x, y with
    | .int i, .int j => k (.int (i + j)) S
    | _, _ => False) := by
  refine ⟨_, ip_add, fun x y S k v u H Q q rx ry hS c => ?_⟩
  dsimp only at q
  split at q
  · have := rx.int_; have := ry.int_; subst v u
    exact ⟨_, _, rfl, rfl, c _ _ _ _ q Stp.refl .int hS⟩
  · exact q.elim
end
end DL
namespace DL
open PySem PySem.Spec PyProof.Rows L2
/-! ### dicts that change -/
theorem valC_nil (c : Ck) : valC [] c = none := rfl
theorem valC_cons (p : Ck × Ck) (m : Cm) (c : Ck) : valC (p :: m) c = if p.1 = c then some p.2 else valC m c := by
  unfold valC
  rw [List.find?_cons]
  by_cases h : p.1 = c
  · rw [if_pos h, decide_eq_true h]; rfl
  · rw [if_neg h, decide_eq_false h]
theorem valC_app (m n : Cm) (c : Ck) : valC (m ++ n) c = (valC m c).or (valC n c) := by
  induction m with
  | nil => rfl
  | cons p m ih =>
    rw [List.cons_append, valC_cons, valC_cons, ih]
    split <;> rfl
theorem valC_upd (m : Cm) (c e d : Ck) : valC (m.map fun p => if p.1 = c then (p.1, e) else p) d = if d = c then (valC m d).map fun _ => e else valC m d := by
  induction m with
  | nil => rw [List.map_nil, valC_nil]; split <;> rfl
  | cons p m ih =>
    rw [List.map_cons, valC_cons, valC_cons, ih]
    by_cases h : p.1 = c
    · rw [if_pos h]
      by_cases g : d = c
      · rw [if_pos g, if_pos g, h, g, if_pos rfl, if_pos rfl]; rfl
      · rw [if_neg g, if_neg g]
        have : ¬ p.1 = d := fun z => g (by rw [← z, h])
        rw [if_neg this, if_neg this]
    · rw [if_neg h]
      by_cases g : d = c
      · rw [if_pos g, if_pos g]
        have : ¬ p.1 = d := fun z => h (by rw [z, g])
        rw [if_neg this, if_neg this]
      · rw [if_neg g, if_neg g]
theorem valC_key {m : Cm} {c : Ck} : (m.any fun p => decide (p.1 = c)) = (valC m c).isSome := by
  induction m with
  | nil => rfl
  | cons p m ih =>
    rw [List.any_cons, valC_cons, ih]
    by_cases h : p.1 = c
    · rw [if_pos h, decide_eq_true h]; rfl
    · rw [if_neg h, decide_eq_false h, Bool.false_or]
theorem valC_put (m : Cm) (c e d : Ck) : valC (putC m c e) d = if d = c then some e else valC m d := by
  unfold putC
  rw [valC_key]
  cases h : valC m c with
  | some x =>
    rw [if_pos (show (some x).isSome = true from rfl), valC_upd]
    by_cases g : d = c
    · rw [if_pos g, if_pos g, g, h]; rfl
    · rw [if_neg g, if_neg g]
  | none =>
    rw [if_neg (by decide), valC_app, valC_cons, valC_nil]
    by_cases g : d = c
    · rw [if_pos g, g, h, if_pos rfl]; rfl
    · rw [if_neg g, if_neg fun z => g z.symm]
      cases valC m d <;> rfl
theorem len_put (m : Cm) (c e : Ck) : (putC m c e).length ≤ m.length + 1 := by
  unfold putC
  split
  · rw [List.length_map]; omega
  · rw [List.length_append, List.length_singleton]; omega
theorem keys_put {m : Cm} {c e : Ck} (h : c ∈ m.map (·.1)) : (putC m c e).map (·.1) = m.map (·.1) := by
  have a : (m.any fun p => decide (p.1 = c)) = true := by
    rw [List.any_eq_true]
    obtain ⟨p, hp, e⟩ := List.mem_map.mp h
    exact ⟨p, hp, decide_eq_true e⟩
  unfold putC
  rw [if_pos a, List.map_map]
  refine List.map_congr_left fun p _ => ?_
  show (if p.1 = c then (p.1, e) else p).1 = p.1
  split <;> rfl
theorem put_new {m : Cm} {c e : Ck} (h : c ∉ m.map (·.1)) : putC m c e = m ++ [(c, e)] := by
  have a : ¬ (m.any fun p => decide (p.1 = c)) = true := by
    rw [List.any_eq_true]
    rintro ⟨p, hp, e⟩
    exact h (List.mem_map.mpr ⟨p, hp, of_decide_eq_true e⟩)
  unfold putC
  rw [if_neg a]
theorem valC_map {f : Ck → Ck} {ks : List Ck} {x : Ck} (h : x ∈ ks) : valC (ks.map fun x => (x, f x)) x = some (f x) := by
  induction ks with
  | nil => cases h
  | cons k ks ih =>
    rw [List.map_cons, valC_cons]
    by_cases e : k = x
    · rw [if_pos e, e]
    · rw [if_neg e]
      rcases List.mem_cons.mp h with z | z
      · exact absurd z.symm e
      · exact ih z
theorem cm_is {f : Ck → Ck} : ∀ {m : Cm} {ks : List Ck}, m.map (·.1) = ks → ks.Nodup → (∀ x ∈ ks, valC m x = some (f x)) → m = ks.map fun x => (x, f x)
  | [], ks, hk, _, _ => by rw [← hk]; rfl
  | p :: m, ks, hk, nd, hv => by
    subst hk
    rw [List.map_cons] at nd hv ⊢
    obtain ⟨n1, n2⟩ := List.nodup_cons.mp nd
    have h0 := hv p.1 (List.mem_cons_self ..)
    rw [valC_cons, if_pos rfl] at h0
    rw [List.map_cons, ← cm_is (m := m) (f := f) rfl n2 fun x hx => ?_]
    · rw [← Option.some.inj h0]
    · have := hv x (List.mem_cons_of_mem _ hx)
      rw [valC_cons, if_neg (fun e => n1 (by rw [e]; exact hx))] at this
      exact this
/-! ### what stays behind when each car's calls are leapt over -/
theorem play_gone {c : Int} {cs r : List Int} (h : c ∉ cs) : ∀ {ds : List Int}, playN (c :: r) (cs ++ c :: ds) = playN [] ds := by
  induction cs generalizing r with
  | nil =>
    intro ds
    show playN (stepN (c :: r) c) ds = _
    rw [step_self]
  | cons d cs ih =>
    intro ds
    have ne : d ≠ c := fun e => h (by rw [e]; exact List.mem_cons_self ..)
    obtain ⟨r', e⟩ := step_cons (y := c) (c := d) (r := r) ne
    show playN (stepN (c :: r) d) (cs ++ c :: ds) = _
    rw [e]
    exact ih (fun z => h (List.mem_cons_of_mem _ z))
theorem play_leap {cs : List Int} {i j : Nat} {c : Int} (hi : cs[i]? = some c) (hij : i < j) (hj : cs[j]? = some c) (no : ∀ t, i < t → t < j → cs[t]? ≠ some c) : playN [] (cs.drop i) = playN [] (cs.drop (j + 1)) := by
  obtain ⟨li, ei⟩ := List.getElem?_eq_some_iff.mp hi
  obtain ⟨lj, ej⟩ := List.getElem?_eq_some_iff.mp hj
  have d1 : cs.drop i = c :: cs.drop (i + 1) := by rw [List.drop_eq_getElem_cons li, ei]
  have d2 : cs.drop (i + 1) = (cs.drop (i + 1)).take (j - (i + 1)) ++ c :: cs.drop (j + 1) := by
    have := (List.take_append_drop (j - (i + 1)) (cs.drop (i + 1))).symm
    rw [List.drop_drop, show i + 1 + (j - (i + 1)) = j by omega, List.drop_eq_getElem_cons lj, ej] at this
    exact this
  have nin : c ∉ (cs.drop (i + 1)).take (j - (i + 1)) := fun m => by
    obtain ⟨t, ht⟩ := List.getElem?_of_mem m
    have lt : t < j - (i + 1) := by
      have := (List.getElem?_eq_some_iff.mp ht).1
      rw [List.length_take] at this; omega
    rw [List.getElem?_take_of_lt lt, List.getElem?_drop] at ht
    exact no (i + 1 + t) (by omega) (by omega) ht
  rw [d1]
  show playN (stepN [] c) (cs.drop (i + 1)) = _
  rw [step_out (List.not_mem_nil), d2, List.nil_append]
  exact play_gone nin
theorem play_last {cs : List Int} {i : Nat} {c : Int} (hi : cs[i]? = some c) (no : ∀ t, i < t → cs[t]? ≠ some c) : playN [] (cs.drop i) = c :: playN [] (cs.drop (i + 1)) := by
  obtain ⟨li, ei⟩ := List.getElem?_eq_some_iff.mp hi
  rw [List.drop_eq_getElem_cons li, ei]
  show playN (stepN [] c) (cs.drop (i + 1)) = _
  rw [step_out (List.not_mem_nil), List.nil_append]
  refine play_app (f := [c]) (r := []) fun n hn => ?_
  rw [List.mem_singleton.mp hn]
  intro m
  obtain ⟨t, ht⟩ := List.getElem?_of_mem m
  rw [List.getElem?_drop] at ht
  exact no (i + 1 + t) (by omega) ht
/-! ### the way back -/
theorem day_rev (cs : List Int) : ∀ x : Ck, dayN cs (dayN cs.reverse x) = x := by
  induction cs with
  | nil => intro x; rfl
  | cons c cs ih =>
    intro x
    have e : dayN (c :: cs).reverse x = exN (dayN cs.reverse x) c := by
      unfold dayN
      rw [List.reverse_cons, List.foldl_append]; rfl
    rw [e]
    show dayN cs (exN (exN (dayN cs.reverse x) c) c) = x
    rw [ex_ex, ih]
theorem rev_day (cs : List Int) (x : Ck) : dayN cs.reverse (dayN cs x) = x := by
  have := day_rev cs.reverse x
  rw [List.reverse_reverse] at this
  exact this
theorem day_eq_iff {cs : List Int} {x y : Ck} : dayN cs x = y ↔ dayN cs.reverse y = x := ⟨fun e => by rw [← e, rev_day], fun e => by rw [← e, day_rev]⟩
theorem rev_take {cs : List Int} {i : Nat} (hi : i < cs.length) (y : Ck) : dayN (cs.take (i + 1)).reverse y = dayN (cs.take i).reverse (exN y cs[i]) := by
  rw [List.take_add_one, List.getElem?_eq_getElem hi]
  show dayN (cs.take i ++ [cs[i]]).reverse y = _
  rw [List.reverse_append]
  rfl
def c_parts_of : Cn := fun ds S k _ => ∃ ns cs, ds = [tupI ns, tupI cs] ∧ LaneN ns ∧ CallsN cs ∧ k (.tup [tupI (fixN ns cs), ckD (caseN ns cs)]) S
def c_cars_left : Cn := fun ds S k _ => ∃ (cs : List Int) (a : Nat), ds = [tupI cs, .int (a : Nat)] ∧ CallsN cs ∧ a ≤ cs.length ∧ k (tupI (playN [] (cs.drop a))) S
def c_end_of : Cn := fun ds S k _ => ∃ x cs, ds = [ckD x, tupI cs] ∧ CallsN cs ∧ IsCase cs x ∧ k (tupI (endN cs x)) S
def c_leads_of : Cn := c_day_map
def c_case_before : Cn := fun ds S k _ => ∃ x cs, ds = [ckD x, tupI cs] ∧ CallsN cs ∧ k (ckD (dayN cs.reverse x)) S
def c_cycles_in : Cn := fun ds S k _ => ∃ cs L, ds = [dayD cs L] ∧ CallsN cs ∧ Cars cs L ∧ ∀ p qs S', Sub S S' → S p = none → S' p = some (.lst (qs.map D.ref)) → (∀ q ∈ qs, S q = none ∧ q ≠ p) → Rows S' qs (cycsN cs (keysN L) []) → k (.ref p) S'
def c_lane_after : Cn := fun ds S k _ => ∃ ns cs n, ds = [tupI ns, tupI cs, .int n] ∧ LaneN ns ∧ CallsN cs ∧ 0 ≤ n ∧ n ≤ 10 ^ 30 ∧ k (tupI (daysN cs n.toNat ns)) S
theorem set_dc {a : Addr} {m : Cm} {c e : Ck} {S : Sto} {k : Sto → Prop} (h : S a = some (dcO a m)) (hl : m.length < sizeLine) (q : k (S.upd a (dcO a (putC m c e)))) : setDc (.ref a) (ckD c) (ckD e) S k := ⟨a, m, c, e, rfl, rfl, rfl, h, hl, q⟩
theorem ix_dc {a : Addr} {m : Cm} {c e : Ck} {S : Sto} {k : RK} (h : S a = some (dcO a m)) (l : valC m c = some e) (q : k (ckD e) S) : ixDc (.ref a) (ckD c) S k := ⟨a, m, c, e, rfl, rfl, h, l, q⟩
end DL
namespace DL
open PySem PySem.Spec PyProof.Rows L2
theorem fix_split {ns cs : List Int} {i : Nat} (hi : i < ns.length) (fx : fixN (ns.take i) cs = ns.take i) (h : ns[i] ∈ cs) : fixN ns cs = ns.take i ∧ caseN ns cs = some ns[i] := by
  have l := fix_here hi fx h
  have e := fix_rest ns cs
  have a : fixN ns cs = ns.take i := by
    have := List.take_left' (l₁ := fixN ns cs) (l₂ := restN ns cs) l
    rw [e] at this; exact this.symm
  have b : restN ns cs = ns.drop i := by
    have := List.drop_left' (l₁ := fixN ns cs) (l₂ := restN ns cs) l
    rw [e] at this; exact this.symm
  refine ⟨a, ?_⟩
  unfold caseN
  rw [b, List.drop_eq_getElem_cons hi]; rfl
theorem fix_whole {ns cs : List Int} (fx : fixN ns cs = ns) : caseN ns cs = none := by
  have e := fix_rest ns cs
  rw [fx] at e
  have : restN ns cs = [] := by
    have := congrArg List.length e
    rw [List.length_append] at this
    exact List.length_eq_zero_iff.mp (by omega)
  unfold caseN
  rw [this]; rfl
theorem end_some {cs : List Int} {c : Int} {j : Nat} (h1 : cs[j]? = some c) (h2 : ∀ m, m < j → cs[m]? ≠ some c) : endN cs (some c) = playN [] (cs.drop (j + 1)) := by
  obtain ⟨lj, ej⟩ := List.getElem?_eq_some_iff.mp h1
  have e : cs = cs.take j ++ c :: cs.drop (j + 1) := by
    have := (List.take_append_drop j cs).symm
    rw [List.drop_eq_getElem_cons lj, ej] at this; exact this
  have nin : c ∉ cs.take j := fun m => by
    obtain ⟨t, ht⟩ := List.getElem?_of_mem m
    have lt : t < j := by
      have := (List.getElem?_eq_some_iff.mp ht).1
      rw [List.length_take] at this; omega
    rw [List.getElem?_take_of_lt lt] at ht
    exact h2 t lt ht
  show playN [c] cs = _
  conv => lhs; rw [e]
  exact play_gone nin
end DL
namespace DL
open PySem PySem.Spec PyProof.Rows L2
theorem day_nil (x : Ck) : dayN [] x = x := rfl
theorem exN_self (c : Int) : exN (some c) c = none := by simp [exN]
theorem exN_none (c : Int) : exN none c = some c := rfl
theorem exN_other {c d : Int} (h : d ≠ c) : exN (some d) c = some d := by simp [exN, h]
/-- what leads, when the first i of L have been told -/
def ledN (cs L : List Int) (i : Nat) (x : Ck) : Ck := if dayN cs x ∈ (L.take i).map some then dayN cs x else none
theorem led_zero (cs L : List Int) (x : Ck) : ledN cs L 0 x = none := by
  unfold ledN
  rw [List.take_zero, List.map_nil, if_neg (List.not_mem_nil)]
theorem led_all {cs L : List Int} (hL : Cars cs L) {x : Ck} (hx : IsCase cs x) : ledN cs L L.length x = dayN cs x := by
  unfold ledN
  rw [List.take_length]
  split
  · rfl
  · rename_i h
    cases e : dayN cs x with
    | none => rfl
    | some c => exact absurd (List.mem_map.mpr ⟨c, (hL.mem c).mpr (day_case hx c e), e.symm⟩) h
theorem led_succ {cs L : List Int} {i : Nat} {c : Int} (hc : L[i]? = some c) (x : Ck) : ledN cs L (i + 1) x = if x = dayN cs.reverse (some c) then some c else ledN cs L i x := by
  have t : L.take (i + 1) = L.take i ++ [c] := by rw [List.take_add_one, hc]; rfl
  unfold ledN
  rw [t, List.map_append]
  by_cases e : x = dayN cs.reverse (some c)
  · have : dayN cs x = some c := by rw [e, day_rev]
    rw [if_pos e, this, if_pos (by simp)]
  · have : dayN cs x ≠ some c := fun z => e (by rw [← z, rev_day])
    rw [if_neg e]
    by_cases m : dayN cs x ∈ (L.take i).map some
    · rw [if_pos m, if_pos (List.mem_append_left _ m)]
    · rw [if_neg m, if_neg]
      intro z
      rcases List.mem_append.mp z with z | z
      · exact m z
      · exact this (List.mem_singleton.mp z)
end DL
namespace DL
open PySem PySem.Spec PyProof.Rows L2
theorem items_of (f : Ck → Ck) : ∀ L : List Int, itemsD ((((L.map some).map fun x => (x, f x)) : Cm).map (·.1)) ((((L.map some).map fun x => (x, f x)) : Cm).map fun p => ckD p.2) = L.map fun c => D.par [.int c, ckD (f (some c))]
  | [] => rfl
  | c :: L => by
    show D.par [ckD (some c), ckD (f (some c))] :: itemsD ((((L.map some).map fun x => (x, f x)) : Cm).map (·.1)) ((((L.map some).map fun x => (x, f x)) : Cm).map fun p => ckD p.2) = _
    rw [items_of f L]; rfl
end DL
namespace DL
open PySem PySem.Spec PyProof.Rows L2
/-! ### the fixed part, days in parts, days turned about -/
theorem days_app {cs f : List Int} (h : ∀ n ∈ f, n ∉ cs) : ∀ (n : Nat) (r : List Int), daysN cs n (f ++ r) = f ++ daysN cs n r
  | 0, _ => rfl
  | n + 1, r => by
    show daysN cs n (playN (f ++ r) cs) = f ++ daysN cs n (playN r cs)
    rw [play_app h, days_app h n]
theorem days_fix (cs ns : List Int) (n : Nat) : daysN cs n ns = fixN ns cs ++ daysN cs n (restN ns cs) := by
  conv => lhs; rw [← fix_rest ns cs]
  exact days_app (fun m hm => fix_out hm) n _
theorem rest_drop (ns cs : List Int) : ns.drop (fixN ns cs).length = restN ns cs := by
  have := List.drop_left' (l₁ := fixN ns cs) (l₂ := restN ns cs) rfl
  rw [fix_rest] at this; exact this
theorem rest_rest (ns cs : List Int) : restN (restN ns cs) cs = restN ns cs ∧ fixN (restN ns cs) cs = [] := by
  have e : fixN (restN ns cs) cs ++ restN (restN ns cs) cs = restN ns cs := fix_rest _ _
  have f : fixN (restN ns cs) cs = [] := by
    unfold fixN restN
    cases q : ns.dropWhile fun n => !decide (n ∈ cs) with
    | nil => rfl
    | cons a l =>
      have : a ∈ cs := by
        have := List.head?_dropWhile_not (fun n => !decide (n ∈ cs)) ns
        rw [q] at this
        simpa using this
      rw [List.takeWhile_cons, if_neg (by simpa using this)]
  rw [f, List.nil_append] at e
  exact ⟨e, f⟩
theorem case_rest (ns cs : List Int) : caseN (restN ns cs) cs = caseN ns cs := by
  unfold caseN
  rw [(rest_rest ns cs).1]
theorem play_cat (ns a b : List Int) : playN ns (a ++ b) = playN (playN ns a) b := List.foldl_append ..
theorem days_turn (a b : List Int) : ∀ (n : Nat) (ns : List Int), daysN (b ++ a) n (playN ns a) = playN (daysN (a ++ b) n ns) a
  | 0, _ => rfl
  | n + 1, ns => by
    show daysN (b ++ a) n (playN (playN ns a) (b ++ a)) = playN (daysN (a ++ b) n (playN ns (a ++ b))) a
    rw [play_cat, ← play_cat ns a b, days_turn a b n]
/-! ### other names -/
structure Rn (f : Int → Int) : Prop where
  car : ∀ a, Car a → Car (f a)
  inj : ∀ a b, Car a → Car b → f a = f b → a = b
abbrev CarK (x : Ck) : Prop := ∀ c, x = some c → Car c
section
variable {f : Int → Int} (R : Rn f)
include R
theorem Rn.mem {ns : List Int} {c : Int} (h : ∀ n ∈ ns, Car n) (hc : Car c) : f c ∈ ns.map f ↔ c ∈ ns := by
  constructor
  · intro m
    obtain ⟨d, hd, e⟩ := List.mem_map.mp m
    rw [← R.inj d c (h d hd) hc e]; exact hd
  · intro m; exact List.mem_map.mpr ⟨c, m, rfl⟩
theorem Rn.tw {c : Int} (hc : Car c) : ∀ {ns : List Int}, (∀ n ∈ ns, Car n) → (ns.map f).takeWhile (fun n => !decide (n = f c)) = (ns.takeWhile fun n => !decide (n = c)).map f
  | [], _ => rfl
  | n :: ns, h => by
    rw [List.map_cons, List.takeWhile_cons, List.takeWhile_cons]
    by_cases e : n = c
    · rw [if_neg (by simp [e]), if_neg (by simp [e])]; rfl
    · have ne : f n ≠ f c := fun z => e (R.inj n c (h n (List.mem_cons_self ..)) hc z)
      rw [if_pos (by simpa using ne), if_pos (by simpa using e), Rn.tw hc fun m hm => h m (List.mem_cons_of_mem _ hm)]; rfl
theorem Rn.step {ns : List Int} {c : Int} (h : ∀ n ∈ ns, Car n) (hc : Car c) : stepN (ns.map f) (f c) = (stepN ns c).map f := by
  by_cases m : c ∈ ns
  · rw [step_in m, step_in ((R.mem h hc).mpr m), R.tw hc h]
  · rw [step_out m, step_out fun z => m ((R.mem h hc).mp z), List.map_append]; rfl
theorem Rn.play : ∀ {cs ns : List Int}, (∀ n ∈ ns, Car n) → (∀ n ∈ cs, Car n) → playN (ns.map f) (cs.map f) = (playN ns cs).map f
  | [], _, _, _ => rfl
  | c :: cs, ns, h, g => by
    show playN (stepN (ns.map f) (f c)) (cs.map f) = (playN (stepN ns c) cs).map f
    rw [R.step h (g c (List.mem_cons_self ..))]
    refine Rn.play (fun n hn => ?_) fun n hn => g n (List.mem_cons_of_mem _ hn)
    rcases mem_step hn with z | z
    · exact h n z
    · rw [z]; exact g c (List.mem_cons_self ..)
theorem Rn.days {cs : List Int} (g : ∀ n ∈ cs, Car n) : ∀ (k : Nat) {ns : List Int}, (∀ n ∈ ns, Car n) → daysN (cs.map f) k (ns.map f) = (daysN cs k ns).map f
  | 0, _, _ => rfl
  | k + 1, ns, h => by
    show daysN (cs.map f) k (playN (ns.map f) (cs.map f)) = (daysN cs k (playN ns cs)).map f
    rw [R.play h g]
    exact Rn.days g k fun n hn => (mem_play hn).elim (h n) (g n)
theorem Rn.ck {x y : Ck} (hx : CarK x) (hy : CarK y) (e : x.map f = y.map f) : x = y := by
  cases x with
  | none => cases y with
    | none => rfl
    | some d => cases e
  | some c => cases y with
    | none => cases e
    | some d => rw [R.inj c d (hx c rfl) (hy d rfl) (Option.some.inj e)]
theorem Rn.ex {x : Ck} {c : Int} (hx : CarK x) (hc : Car c) : exN (x.map f) (f c) = (exN x c).map f := by
  cases x with
  | none => rfl
  | some d =>
    by_cases e : d = c
    · subst e
      show exN (some (f d)) (f d) = _
      rw [exN_self, exN_self]; rfl
    · show exN (some (f d)) (f c) = _
      rw [exN_other e, exN_other fun z => e (R.inj d c (hx d rfl) hc z)]; rfl
theorem ex_car {x : Ck} {c : Int} (hx : CarK x) (hc : Car c) : CarK (exN x c) := by
  intro d e
  cases x with
  | none => cases e; exact hc
  | some y =>
    by_cases z : y = c
    · rw [z, exN_self] at e; cases e
    · rw [exN_other z] at e; exact hx d e
theorem Rn.day : ∀ {cs : List Int} {x : Ck}, CarK x → (∀ n ∈ cs, Car n) → dayN (cs.map f) (x.map f) = (dayN cs x).map f ∧ CarK (dayN cs x)
  | [], x, hx, _ => ⟨rfl, hx⟩
  | c :: cs, x, hx, g => by
    have hc := g c (List.mem_cons_self ..)
    show dayN (cs.map f) (exN (x.map f) (f c)) = (dayN cs (exN x c)).map f ∧ CarK (dayN cs (exN x c))
    rw [R.ex hx hc]
    exact Rn.day (ex_car R hx hc) fun n hn => g n (List.mem_cons_of_mem _ hn)
theorem Rn.iter {cs : List Int} (g : ∀ n ∈ cs, Car n) : ∀ (k : Nat) {x : Ck}, CarK x → iterN (cs.map f) k (x.map f) = (iterN cs k x).map f ∧ CarK (iterN cs k x)
  | 0, x, hx => ⟨rfl, hx⟩
  | k + 1, x, hx => by
    obtain ⟨a, b⟩ := R.day hx g
    show iterN (cs.map f) k (dayN (cs.map f) (x.map f)) = (iterN cs k (dayN cs x)).map f ∧ CarK (iterN cs k (dayN cs x))
    rw [a]
    exact Rn.iter g k b
theorem Rn.case {cs : List Int} {x : Ck} (h : IsCase cs x) : IsCase (cs.map f) (x.map f) := by
  intro c e
  cases x with
  | none => cases e
  | some d => cases e; exact List.mem_map.mpr ⟨d, h d rfl, rfl⟩
theorem Rn.per {cs : List Int} {x : Ck} (g : ∀ n ∈ cs, Car n) (hx : IsCase cs x) : perN (cs.map f) (x.map f) = perN cs x := by
  have hk : CarK x := fun c e => g c (hx c e)
  obtain ⟨p0, pl, pe, pm⟩ := per_spec hx
  refine per_is (R.case hx) p0 ?_ fun q q0 ql e => pm q q0 ql ?_
  · rw [(R.iter g _ hk).1, pe]
  · rw [(R.iter g _ hk).1] at e
    exact R.ck (R.iter g _ hk).2 hk e
theorem Rn.dw {cs : List Int} (g : ∀ n ∈ cs, Car n) : ∀ {ns : List Int}, (∀ n ∈ ns, Car n) → restN (ns.map f) (cs.map f) = (restN ns cs).map f
  | [], _ => rfl
  | n :: ns, h => by
    have hn := h n (List.mem_cons_self ..)
    show List.dropWhile _ (f n :: ns.map f) = (List.dropWhile _ (n :: ns)).map f
    rw [List.dropWhile_cons, List.dropWhile_cons]
    by_cases e : n ∈ cs
    · rw [if_neg (by simpa using ⟨n, e, rfl⟩), if_neg (by simpa using e)]; rfl
    · have : f n ∉ cs.map f := fun z => e ((R.mem g hn).mp z)
      rw [if_pos (by simpa using this), if_pos (by simpa using e)]
      exact Rn.dw g fun m hm => h m (List.mem_cons_of_mem _ hm)
theorem Rn.caseN {cs ns : List Int} (g : ∀ n ∈ cs, Car n) (h : ∀ n ∈ ns, Car n) : caseN (ns.map f) (cs.map f) = (caseN ns cs).map f := by
  unfold DL.caseN
  rw [R.dw g h, List.head?_map]
theorem Rn.lane {ns : List Int} (h : LaneN ns) : LaneN (ns.map f) := by
  refine ⟨fun n hn => ?_, ?_⟩
  · obtain ⟨m, hm, rfl⟩ := List.mem_map.mp hn
    exact R.car m (h.cars m hm)
  · have := h.nodup
    have hc := h.cars
    clear h
    induction ns with
    | nil => exact List.nodup_nil
    | cons n ns ih =>
      obtain ⟨a, b⟩ := List.nodup_cons.mp this
      rw [List.map_cons]
      refine List.nodup_cons.mpr ⟨fun m => a ?_, ih b fun m hm => hc m (List.mem_cons_of_mem _ hm)⟩
      exact (R.mem (fun m hm => hc m (List.mem_cons_of_mem _ hm)) (hc n (List.mem_cons_self ..))).mp m
theorem Rn.calls {cs : List Int} (h : CallsN cs) : CallsN (cs.map f) := by
  refine ⟨fun n hn => ?_, by rw [List.length_map]; exact h.pos, by rw [List.length_map]; exact h.most⟩
  obtain ⟨m, hm, rfl⟩ := List.mem_map.mp hn
  exact R.car m (h.cars m hm)
end
end DL
namespace DL
open PySem PySem.Spec PyProof.Rows L2
theorem days_lane {cs : List Int} (h : CallsN cs) : ∀ (k : Nat) {ns : List Int}, LaneN ns → LaneN (daysN cs k ns)
  | 0, _, hn => hn
  | k + 1, _, hn => days_lane h k (play_lane hn h.cars)
theorem calls_take {cs : List Int} {k : Nat} (h : CallsN cs) (k0 : 1 ≤ k) : CallsN (cs.take k) := by
  refine ⟨fun n hn => h.cars n (List.mem_of_mem_take hn), ?_, ?_⟩
  · have := h.pos
    rw [List.length_take]; omega
  · have := h.most
    rw [List.length_take]; omega
theorem calls_drop {cs : List Int} {k : Nat} (h : CallsN cs) (k0 : k < cs.length) : CallsN (cs.drop k) := by
  refine ⟨fun n hn => h.cars n (List.mem_of_mem_drop hn), ?_, ?_⟩
  · rw [List.length_drop]; omega
  · have := h.most
    rw [List.length_drop]; omega
theorem calls_turn {cs : List Int} {k : Nat} (h : CallsN cs) : CallsN (cs.drop k ++ cs.take k) := by
  have e : (cs.drop k ++ cs.take k).length = cs.length := by rw [List.length_append, List.length_drop, List.length_take]; omega
  refine ⟨fun n hn => ?_, by rw [e]; exact h.pos, by rw [e]; exact h.most⟩
  rcases List.mem_append.mp hn with z | z
  · exact h.cars n (List.mem_of_mem_drop z)
  · exact h.cars n (List.mem_of_mem_take z)
/-- sixty different cars rename -/
theorem rn_of {vs : List Int} (h : LaneN vs) (l : vs.length = 60) : ∃ f : Int → Int, Rn f ∧ ∀ c, Car c → vs[c.toNat]? = some (f c) := by
  refine ⟨fun c => vs.getD c.toNat 0, ⟨fun a ha => ?_, fun a b ha hb e => ?_⟩, fun c hc => ?_⟩
  · have la : a.toNat < vs.length := by unfold Car at ha; omega
    have : vs.getD a.toNat 0 = vs[a.toNat] := by rw [List.getD, List.getElem?_eq_getElem la]; rfl
    rw [this]; exact h.cars _ (List.getElem_mem la)
  · have la : a.toNat < vs.length := by unfold Car at ha; omega
    have lb : b.toNat < vs.length := by unfold Car at hb; omega
    have ea : vs.getD a.toNat 0 = vs[a.toNat] := by rw [List.getD, List.getElem?_eq_getElem la]; rfl
    have eb : vs.getD b.toNat 0 = vs[b.toNat] := by rw [List.getD, List.getElem?_eq_getElem lb]; rfl
    have e' : vs.getD a.toNat 0 = vs.getD b.toNat 0 := e
    rw [ea, eb] at e'
    have := (List.getElem_inj (h₀ := la) (h₁ := lb) h.nodup).mp e'
    unfold Car at ha hb; omega
  · have lc : c.toNat < vs.length := by unfold Car at hc; omega
    rw [List.getElem?_eq_getElem lc]
    show _ = some (vs.getD c.toNat 0)
    rw [List.getD, List.getElem?_eq_getElem lc]; rfl
end DL
namespace DL
open PySem PySem.Spec PyProof.Rows L2
/-! ### how long the cycles are -/
theorem per_iter {cs : List Int} {x : Ck} (hx : IsCase cs x) (k : Nat) : perN cs (iterN cs k x) = perN cs x := by
  obtain ⟨p0, pl, pe, pm⟩ := per_spec hx
  have sw : ∀ q, iterN cs q (iterN cs k x) = iterN cs k (iterN cs q x) := fun q => by rw [← iter_add, ← iter_add, Nat.add_comm]
  refine per_is (iter_case hx) p0 (by rw [sw, pe]) fun q q0 ql e => pm q q0 ql ?_
  rw [sw] at e
  exact iter_inj e
structure RowsOk (cs : List Int) (rows : List (List Ck)) : Prop where
  row : ∀ r ∈ rows, ∃ x, IsCase cs x ∧ r = cycN cs (perN cs x) x
theorem cycs_rows {cs L : List Int} (hL : Cars cs L) : ∀ i, RowsOk cs (cycsN cs ((keysN L).take i) [])
  | 0 => by rw [List.take_zero]; exact ⟨fun r hr => by cases hr⟩
  | i + 1 => by
    by_cases hi : i < (keysN L).length
    · rw [List.take_add_one, List.getElem?_eq_getElem hi]
      show RowsOk cs (cycsN cs ((keysN L).take i ++ [(keysN L)[i]]) [])
      rw [cycs_snoc]
      have ih := cycs_rows hL i
      split
      · exact ih
      · refine ⟨fun r hr => ?_⟩
        rcases List.mem_append.mp hr with z | z
        · exact ih.row r z
        · exact ⟨_, (mem_keys hL).mp (List.getElem_mem hi), List.mem_singleton.mp z⟩
    · rw [List.take_of_length_le (by omega), ← List.take_of_length_le (show (keysN L).length ≤ i by omega)]
      exact cycs_rows hL i
theorem cyc_self {cs : List Int} {x : Ck} (hx : IsCase cs x) : x ∈ cycN cs (perN cs x) x := (cyc_mem hx).mpr ⟨0, rfl⟩
theorem cycs_has {cs : List Int} : ∀ {xs : List Ck} {acc : List (List Ck)}, (∀ x ∈ xs, IsCase cs x) → (∀ z ∈ acc.flatten, z ∈ (cycsN cs xs acc).flatten) ∧ ∀ x ∈ xs, x ∈ (cycsN cs xs acc).flatten
  | [], acc, _ => ⟨fun _ h => h, fun _ h => by cases h⟩
  | x :: xs, acc, hc => by
    unfold cycsN
    by_cases h : x ∈ acc.flatten
    · rw [if_pos h]
      obtain ⟨a, b⟩ := cycs_has (cs := cs) (xs := xs) (acc := acc) fun y hy => hc y (List.mem_cons_of_mem _ hy)
      refine ⟨a, fun y hy => ?_⟩
      rcases List.mem_cons.mp hy with rfl | z
      · exact a _ h
      · exact b y z
    · rw [if_neg h]
      obtain ⟨a, b⟩ := cycs_has (cs := cs) (xs := xs) (acc := acc ++ [cycN cs (perN cs x) x]) fun y hy => hc y (List.mem_cons_of_mem _ hy)
      have fl : (acc ++ [cycN cs (perN cs x) x]).flatten = acc.flatten ++ cycN cs (perN cs x) x := by simp
      rw [fl] at a
      refine ⟨fun z hz => a z (List.mem_append_left _ hz), fun y hy => ?_⟩
      rcases List.mem_cons.mp hy with rfl | z
      · exact a _ (List.mem_append_right _ (cyc_self (hc _ (List.mem_cons_self ..))))
      · exact b y z
/-- the rows hold each case once -/
theorem cycs_perm {cs L : List Int} (hL : Cars cs L) : (cycsN cs (keysN L) []).flatten.Perm (keysN L) := by
  have c := cycs_closed hL (keysN L).length
  rw [List.take_length] at c
  refine (List.perm_ext_iff_of_nodup c.nd (keys_nodup hL)).mpr fun z => ⟨fun m => (mem_keys hL).mpr (c.ca z m), fun m => ?_⟩
  exact (cycs_has fun x hx => (mem_keys hL).mp hx).2 z m
theorem row_lens {cs : List Int} : ∀ {rows : List (List Ck)}, RowsOk cs rows → ∀ l, (rows.flatten.map (perN cs)).count l = l * (rows.map List.length).count l
  | [], _, l => by simp
  | r :: rows, h, l => by
    obtain ⟨x, hx, e⟩ := h.row r (List.mem_cons_self ..)
    have ih := row_lens (cs := cs) (rows := rows) ⟨fun q hq => h.row q (List.mem_cons_of_mem _ hq)⟩ l
    have lr : r.length = perN cs x := by rw [e]; simp [cycN]
    have mr : r.map (perN cs) = List.replicate (perN cs x) (perN cs x) := by
      rw [List.eq_replicate_iff]
      refine ⟨by rw [List.length_map, lr], fun b hb => ?_⟩
      obtain ⟨z, hz, rfl⟩ := List.mem_map.mp hb
      rw [e] at hz
      obtain ⟨n, rfl⟩ := (cyc_mem hx).mp hz
      exact per_iter hx n
    rw [List.flatten_cons, List.map_append, List.count_append, ih, mr, List.count_replicate, List.map_cons, List.count_cons, lr]
    by_cases q : perN cs x = l
    · simp only [q, beq_self_eq_true, if_true]
      rw [Nat.mul_add, Nat.mul_one, Nat.add_comm]
    · have : (perN cs x == l) = false := by simpa using q
      rw [this]
      simp
theorem lens_pos {cs : List Int} {rows : List (List Ck)} (h : RowsOk cs rows) : (rows.map List.length).count 0 = 0 := by
  refine List.count_eq_zero.mpr fun m => ?_
  obtain ⟨r, hr, e⟩ := List.mem_map.mp m
  obtain ⟨x, hx, e2⟩ := h.row r hr
  have := (per_spec hx).1
  rw [e2] at e
  simp [cycN] at e
  omega
theorem keys_names {cs L L' : List Int} {f : Int → Int} (R : Rn f) (h : CallsN cs) (hL : Cars cs L) (hL' : Cars (cs.map f) L') : (keysN L').Perm ((keysN L).map (Option.map f)) := by
  refine (List.perm_ext_iff_of_nodup (keys_nodup hL') ?_).mpr fun z => ?_
  · have nd := keys_nodup hL
    have hk : ∀ x ∈ keysN L, CarK x := fun x hx c e => h.cars c ((mem_keys hL).mp hx c e)
    revert nd hk
    generalize keysN L = ks
    intro nd hk
    induction ks with
    | nil => exact List.nodup_nil
    | cons x xs ih =>
      obtain ⟨a, b⟩ := List.nodup_cons.mp nd
      rw [List.map_cons]
      refine List.nodup_cons.mpr ⟨fun m => a ?_, ih b fun y hy => hk y (List.mem_cons_of_mem _ hy)⟩
      obtain ⟨y, hy, e⟩ := List.mem_map.mp m
      rw [← R.ck (hk y (List.mem_cons_of_mem _ hy)) (hk x (List.mem_cons_self ..)) e]; exact hy
  · rw [mem_keys hL', List.mem_map]
    constructor
    · intro hz
      cases z with
      | none => exact ⟨none, (mem_keys hL).mpr fun c e => (by cases e), rfl⟩
      | some c =>
        obtain ⟨d, hd, e⟩ := List.mem_map.mp (hz c rfl)
        exact ⟨some d, (mem_keys hL).mpr fun c e => by cases e; exact hd, by rw [← e]; rfl⟩
    · rintro ⟨y, hy, rfl⟩
      exact R.case ((mem_keys hL).mp hy)
/-- renamed cars: as many cycles of each length -/
theorem lens_names {cs L L' : List Int} {f : Int → Int} (R : Rn f) (h : CallsN cs) (hL : Cars cs L) (hL' : Cars (cs.map f) L') :
    ((cycsN (cs.map f) (keysN L') []).map List.length).Perm ((cycsN cs (keysN L) []).map List.length) := by
  have ra := cycs_rows hL (keysN L).length
  have rb := cycs_rows hL' (keysN L').length
  rw [List.take_length] at ra rb
  have kp := keys_names R h hL hL'
  have pa := (cycs_perm hL).map (perN cs)
  have pb := (cycs_perm hL').map (perN (cs.map f))
  have pc : ((keysN L').map (perN (cs.map f))).Perm ((keysN L).map (perN cs)) := by
    refine (kp.map _).trans ?_
    rw [List.map_map]
    have : (keysN L).map (perN (cs.map f) ∘ Option.map f) = (keysN L).map (perN cs) := List.map_congr_left fun x hx => R.per h.cars ((mem_keys hL).mp hx)
    rw [this]
  refine List.perm_iff_count.mpr fun l => ?_
  by_cases z : l = 0
  · rw [z, lens_pos ra, lens_pos rb]
  · have e1 := row_lens ra l
    have e2 := row_lens rb l
    rw [pa.count_eq] at e1
    rw [pb.count_eq, pc.count_eq, e1] at e2
    exact (Nat.eq_of_mul_eq_mul_left (by omega) e2).symm
theorem sorted_one : ∀ {a b : List Int}, a.Pairwise (· ≤ ·) → b.Pairwise (· ≤ ·) → a.Perm b → a = b
  | [], b, _, _, p => by rw [List.nil_perm.mp p]
  | x :: a, [], _, _, p => by cases List.perm_nil.mp p
  | x :: a, y :: b, ha, hb, p => by
    obtain ⟨a1, a2⟩ := List.pairwise_cons.mp ha
    obtain ⟨b1, b2⟩ := List.pairwise_cons.mp hb
    have e : x = y := by
      have hx : x ∈ y :: b := p.mem_iff.mp (List.mem_cons_self ..)
      have hy : y ∈ x :: a := p.mem_iff.mpr (List.mem_cons_self ..)
      have l1 : y ≤ x := by
        rcases List.mem_cons.mp hx with z | z
        · omega
        · exact b1 x z
      have l2 : x ≤ y := by
        rcases List.mem_cons.mp hy with z | z
        · omega
        · exact a1 y z
      omega
    subst e
    rw [sorted_one a2 b2 ((List.perm_cons x).mp p)]
end DL
namespace DL
open PySem PySem.Spec PyProof.Rows L2
section
variable {X : Cx}
/-- sorted of a list of ints -/
def sortID : FL := fun ds S k => match ds with
  | [d] => ∃ ns : List Int, seqOf S d = some (ns.map D.int) ∧ isTup d = false ∧ ∀ (ms : List Int) p, ms.Perm ns → ms.Pairwise (· ≤ ·) → S p = none → k (.ref p) (S.upd p (.lst (ms.map D.int)))
  | _ => False
theorem cSortI : CallD X (.builtin "sorted") sortID := by
  refine ⟨_, cr_sortedI, fun ds S k vs H Q q r hS c => ?_⟩
  unfold sortID at q
  split at q
  · obtain ⟨v, rfl, rv⟩ := r.one
    obtain ⟨ns, ex, nt, q⟩ := q
    obtain ⟨a, us, rfl, _, _⟩ := seq_of ex rv hS
    obtain ⟨ws, hl, rw_⟩ := sq_lst ex nt rv hS
    have := rw_.ints; subst this
    refine ⟨a, ns, rfl, hl, fun ms p pm ps hp => ?_⟩
    exact c _ _ _ _ (q ms p pm ps (hS.free hp)) (Stp.laid hp) .ref (hS.laid hp True.intro ⟨_, rfl, RpL.of_ints.mon (Mon.laid hp)⟩)
  · exact q.elim
end
end DL
namespace DL
open PySem PySem.Spec PyProof.Rows L2
theorem pick_big {a : Addr} {m : Int} {S : Sto} {k : RK} {ek : XKd} {S0 : Sto} {b : List D} (hx : Ex a S0 b S) (hb : BagV b) (h0 : 0 < m) (h1 : m ≤ 10 ^ 36) (q : ∀ told b' S', 0 ≤ told → told < m → BagV b' → Ex a S0 b' S' → (∀ c, c ≠ a → S' c = S c) → k (.int told) S') : c_law_pick [.ref a, .int m] S k ek := by
  refine ⟨a, m, b, rfl, h0, ?_, hx.bag, hb, fun told b' t0 t1 hb' => q told b' _ t0 t1 hb' hx.upd fun c hc => Sto.upd_ne hc⟩
  have e : (10 : Int) ^ 36 < 2 ^ 120 := by decide
  have := lg_lt (n := m.natAbs) (k := 120) (by omega) (by decide)
  omega
end DL
namespace DL
open PySem PySem.Spec PyProof.Rows L2
theorem Ex.grow {a : Addr} {S S' S2 : Sto} {b : List D} (h : Ex a S b S') (s : Sub S' S2) : Ex a S b S2 := ⟨s _ _ h.bag, fun c o n e => s _ _ (h.rest c o n e)⟩
theorem pairs_ofI (f : Int → Int) : ∀ R : List Int, ((R.map some).zip (R.map fun c => D.int (f c))).map (fun p : Ck × D => D.tup [ckD p.1, p.2]) = R.map fun c => D.tup [.int c, .int (f c)]
  | [] => rfl
  | c :: R => by
    rw [List.map_cons, List.map_cons, List.zip_cons_cons, List.map_cons, pairs_ofI f R]; rfl
theorem pairs_ck (g h : Ck → Ck) : ∀ ks : List Ck, ((ks.map g).zip (ks.map fun x => ckD (h x))).map (fun p : Ck × D => D.tup [ckD p.1, p.2]) = ks.map fun x => D.tup [ckD (g x), ckD (h x)]
  | [] => rfl
  | x :: ks => by
    rw [List.map_cons, List.map_cons, List.zip_cons_cons, List.map_cons, pairs_ck g h ks]; rfl
theorem items_ck (h : Ck → Ck) : ∀ ks : List Ck, itemsD ks (ks.map fun x => ckD (h x)) = ks.map fun x => D.par [ckD x, ckD (h x)]
  | [] => rfl
  | x :: ks => by
    show D.par [ckD x, ckD (h x)] :: itemsD ks (ks.map fun x => ckD (h x)) = _
    rw [items_ck h ks]; rfl
theorem dic_some {f : Int → Int} : ∀ {R : List Int} {c : Int}, c ∈ R → dicAt (R.map some) (R.map fun c => D.int (f c)) (some c) = some (.int (f c))
  | [], _, h => by cases h
  | r :: R, c, h => by
    rw [List.map_cons, List.map_cons]
    unfold dicAt
    by_cases e : r = c
    · rw [if_pos (by rw [e]), e]
    · rw [if_neg fun z => e (Option.some.inj z)]
      rcases List.mem_cons.mp h with z | z
      · exact absurd z.symm e
      · exact dic_some z
theorem dic_names {f : Int → Int} {R : List Int} {x : Ck} (h : ∀ c, x = some c → c ∈ R) : dicAt (none :: R.map some) (.non :: R.map fun c => D.int (f c)) x = some (ckD (x.map f)) := by
  unfold dicAt
  cases x with
  | none => rw [if_pos rfl]; rfl
  | some c =>
    rw [if_neg (fun z => nomatch z)]
    exact dic_some (h c rfl)
theorem ckAt_map {g h : Ck → Ck} : ∀ {ks : List Ck} {x : Ck}, x ∈ ks → (∀ y ∈ ks, g y = g x → y = x) → ckAt (ks.map g) (ks.map h) (g x) = some (h x)
  | [], _, m, _ => by cases m
  | k :: ks, x, m, inj => by
    rw [List.map_cons, List.map_cons]
    unfold ckAt
    by_cases e : g k = g x
    · rw [if_pos e, inj k (List.mem_cons_self ..) e]
    · rw [if_neg e]
      rcases List.mem_cons.mp m with z | z
      · exact absurd (by rw [z]) e
      · exact ckAt_map z fun y hy => inj y (List.mem_cons_of_mem _ hy)
def lenAt (S : Sto) (d : D) : D := match d with
  | .ref q => match S q with
    | some (.lst xs) => .int (xs.length : Nat)
    | _ => .non
  | _ => .non
theorem rows_lens {S : Sto} {qs : List Addr} {rows : List (List Ck)} (h : Rows S qs rows) : (qs.map D.ref).map (lenAt S) = (rows.map fun r => ((r.length : Nat) : Int)).map D.int := by
  obtain ⟨l, g⟩ := h
  refine List.ext_getElem? fun i => ?_
  rw [List.getElem?_map, List.getElem?_map, List.getElem?_map, List.getElem?_map]
  by_cases hi : i < qs.length
  · have e1 : qs[i]? = some qs[i] := List.getElem?_eq_getElem hi
    have e2 : rows[i]? = some (rows[i]'(by omega)) := List.getElem?_eq_getElem _
    have := g i _ _ e1 e2
    rw [e1, e2]
    show some (lenAt S (.ref qs[i])) = some (.int _)
    unfold lenAt
    simp only [this, List.length_map]
  · rw [List.getElem?_eq_none (by omega), List.getElem?_eq_none (by omega)]; rfl
end DL
namespace DL
open PySem PySem.Spec PyProof.Rows L2
theorem comp_lens {p : Addr} {qs : List Addr} {rows : List (List Ck)} {S S' : Sto} {env : DEnv} {k : RK} {vi : Nat} {ri : RTi}
    (hri : ∀ K : List D → (Sto → Prop) → Sto → Prop, K (qs.map D.ref) (fun S => S p = some (.lst (qs.map D.ref))) S' → ri env S K) (e1 : ∀ d, ((wipeE env [vi]).set vi (some d))[vi]? = some (some d))
    (hp : S' p = some (.lst (qs.map D.ref))) (rw_ : Rows S' qs rows) (hl : qs.length ≤ 1000)
    (q : ∀ p', S' p' = none → k (.ref p') (S'.upd p' (.lst ((rows.map fun r => ((r.length : Nat) : Int)).map D.int)))) :
    rComp ri (gN vi) rYes (rCallB lenD (rCons (rVar vi) rNil)) [vi] env S k := by
  refine hri _ ⟨fun i acc S2 => S2 = S' ∧ acc = (rows.map fun r => D.int ((r.length : Nat) : Int)).take i, ⟨rfl, by simp⟩, ?_, ?_, ?_⟩
  · rintro i acc S2 _ ⟨rfl, _⟩; exact hp
  · rintro i x acc S2 hx ⟨rfl, rfl⟩
    rw [List.getElem?_map, Option.map_eq_some_iff] at hx
    obtain ⟨a, ha, rfl⟩ := hx
    have hi := (List.getElem?_eq_some_iff.mp ha).1
    have hr : i < rows.length := by rw [← rw_.1]; exact hi
    have er : rows[i]? = some rows[i] := List.getElem?_eq_getElem hr
    have at_ := rw_.2 i a _ ha er
    simp only [gN, rYes, if_true, rVar, e1, rCons, rNil, rCallB]
    refine len_at (seq_ref at_) ⟨?_, S2, Sub.refl _, rfl, ?_⟩
    · rw [List.length_take, List.length_map]
      exact Nat.lt_of_le_of_lt (show _ ≤ 1000 by have := rw_.1; omega) (by decide)
    · rw [List.take_add_one, List.getElem?_map, er, List.length_map]; rfl
  · rintro acc S2 ⟨rfl, rfl⟩
    have e : (rows.map fun r => D.int ((r.length : Nat) : Int)).take (qs.map D.ref).length = (rows.map fun r => ((r.length : Nat) : Int)).map D.int := by
      rw [List.length_map, rw_.1, List.map_map]
      refine (List.take_of_length_le (by rw [List.length_map]; exact Nat.le_refl _)).trans rfl
    rw [e]
    exact q
theorem comp_cyc {cs : List Int} {S : Sto} {env : DEnv} {k : RK} {vi vr : Nat} (hv : env[vr]? = some (some (tupI cs))) (h : CallsN cs) (e1 : ∀ d, ((wipeE env [vi]).set vi (some d))[vi]? = some (some d))
    (q : ∀ L S', Cars cs L → Sub S S' → ∀ p', S' p' = none → k (.ref p') (S'.upd p' (.lst (((cycsN cs (keysN L) []).map fun r => ((r.length : Nat) : Int)).map D.int)))) :
    rComp (iSeq (rCall 1 c_cycles_of (rCons (rVar vr) rNil))) (gN vi) rYes (rCallB lenD (rCons (rVar vi) rNil)) [vi] env S k := by
  unfold rComp iSeq
  simp only [rCall, rCons, rNil, rVar, hv]
  refine ⟨rfl, cs, rfl, h, fun L p qs S' hL sb hp0 hp hq rows => ?_⟩
  simp only [hp]
  have ql : qs.length ≤ 1000 := by
    have a1 := rows.1
    have a2 := cycs_len (cs := cs) (xs := keysN L) (acc := [])
    have a3 := cars_few h (fun i hi => (hL.mem i).mp hi) (asc_nodup hL.asc)
    have a4 : (keysN L).length = L.length + 1 := by simp [keysN]
    rw [List.length_nil] at a2
    omega
  exact comp_lens (ri := fun _ _ K => K (qs.map D.ref) (fun S => S p = some (.lst (qs.map D.ref))) S') (S := S) (fun K hK => hK) e1 hp rows ql (q L S' hL sb)
theorem sort_at {p : Addr} {ns : List Int} {S : Sto} {k : RK} (h : S p = some (.lst (ns.map D.int))) (q : ∀ (ms : List Int) p', ms.Perm ns → ms.Pairwise (· ≤ ·) → S p' = none → k (.ref p') (S.upd p' (.lst (ms.map D.int)))) : sortID [.ref p] S k := ⟨ns, seq_ref h, rfl, q⟩
end DL
/-! len(set(xs)), xs a list of tuples of ints -/
namespace DL
open PySem PySem.Spec PyProof.Rows L2
section
variable {X : Cx} {a : Expr} {re : RT} {p : Pos}
theorem tups_of {K : PySem.W.Frag} {H : Hp} : ∀ {kss : List (List Int)} {vs : List V}, RpL K H (kss.map tupI) vs → ∃ ks : List (Addr × List Int), vs = ks.map (fun p => V.ref p.1) ∧ ks.map (·.2) = kss ∧ ∀ p ∈ ks, SqT K H p.1 (p.2.map V.int)
  | [], vs, h => ⟨[], by rw [h.nil_of]; rfl, rfl, fun p hp => by cases hp⟩
  | k :: kss, vs, h => by
    obtain ⟨v, r, rfl, p, t⟩ := h.cons_of
    obtain ⟨b, us, rfl, h1, h2⟩ := p.tup_
    have := h2.ints; subst this
    obtain ⟨ks, rfl, e2, h3⟩ := tups_of t
    refine ⟨(b, k) :: ks, rfl, by rw [List.map_cons, e2], fun q hq => ?_⟩
    rcases List.mem_cons.mp hq with rfl | z
    · exact h1.sq
    · exact h3 q z
def rLenSetT (re : RT) : RT := fun env S k => re env S fun d S1 => ∃ (l : Addr) (kss : List (List Int)), d = .ref l ∧ S1 l = some (.lst (kss.map tupI)) ∧ kss.length < 64 ∧ ∀ L : List (List Int), L.Nodup → (∀ x, x ∈ L ↔ x ∈ kss) → k (.int (L.length : Nat)) S1
theorem re_lenSetT {p2 q pos : Pos} (hu : X.A.units + 64 < cLine) (hg : Gl X "len") (hm : X.mg "len" = none) (hg2 : Gl X "set") (hm2 : X.mg "set" = none) (ha : RE X a re) (hc : X.calm = true := by rfl)
    (na : starEach [a] X.env = (false, eval a X.env) :: starEach [] X.env := by rfl) : RE X (.Call (.Name "len" p) [.Call (.Name "set" p2) [a] [] q] [] pos) (rLenSetT re) := by
  constructor
  rintro pins s σ H Q I ⟨env, S, k, hE, hS, hq, c⟩
  refine Call_ (ld_blt I hg hm boot_len (PyProof.Rows.callWith_builtin1 (PyProof.Rows.args_cons (Call_ (ld_blt I hg2 hm2 boot_set ?_)) rfl) rfl rfl))
  refine PyProof.Rows.callWith_type1 (PyProof.Rows.args_cons (thn (PE.run ha pins s σ H (fun v H1 => ∃ d S1, (∃ (l : Addr) (kss : List (List Int)), d = .ref l ∧ S1 l = some (.lst (kss.map tupI)) ∧ kss.length < 64 ∧ ∀ L : List (List Int), L.Nodup → (∀ x, x ∈ L ↔ x ∈ kss) → k (.int (L.length : Nat)) S1) ∧ Stp H S H1 S1 ∧ Rp X.K H1 d v ∧ AbsS X.K S1 H1) I ⟨env, S, _, hE, hS, hq, fun d S1 v H1 q1 st r1 hS1 => ⟨d, S1, q1, st, r1, hS1⟩⟩) ?_) na) na rfl
  rintro v s1 ⟨x, H1, I1, r1, d, S1, ⟨l, kss, rfl, hl, few, q1⟩, st, rd, hS1⟩
  refine PyProof.Rows.args_nil ?_
  obtain rfl := rd.ref_
  obtain ⟨vs, h1, h2⟩ := hS1.lst hl
  obtain ⟨ks, rfl, rfl, h3⟩ := tups_of h2
  cases r1
  obtain ⟨its, rv, pl, hz⟩ := I1.list (SqL.of h1)
  have hdn := I1.ok.hd hc
  rw [List.length_map] at few
  refine call_set_tups (P := X.prog) (w := X.w) ks hdn pl.isList (by simpa using refs_of_vals rv) (fun p hp => I1.isT (h3 p hp)) few (by omega) fun h' tk L es ep t R g kp => PyProof.Rows.args_nil ?_
  have I2 : Inv X pins σ H1 { s1 with heap := h', toks := tk } := I1.kept kp
  obtain ⟨o, ho, hex, hd⟩ := R.ob
  have fin := q1 (L.map (·.2)) R.nd fun y => by
    constructor
    · intro m
      obtain ⟨p, hp, rfl⟩ := List.mem_map.mp m
      exact List.mem_map.mpr ⟨p, List.mem_of_mem_take (g.sub p hp), rfl⟩
    · intro m
      obtain ⟨p, hp, rfl⟩ := List.mem_map.mp m
      exact g.all p (by rw [List.take_length]; exact hp)
  have sz := R.size (s := { s1 with heap := h', toks := tk })
  rw [List.length_map] at fin
  refine call_len_set ho hex hd (R.fits (s := { s1 with heap := h', toks := tk })) (by rw [sz]; have := R.few; omega) ⟨.int (L.length : Nat), H1, I2.tok _, ⟨_, by rw [sz]⟩, ?_⟩
  exact c _ _ _ _ fin st .int hS1
end
end DL
namespace DL
open PySem PySem.Spec PyProof.Rows L2
section
variable {X : Cx}
/-- a tuple as a test -/
def rTr (r : RT) : RTt := fun env S k => r env S fun d S' => match d with
  | .tup xs => k (!xs.isEmpty) S'
  | _ => False
theorem tr_tup {e : Expr} {r : RT} (h : RE X e r) (he : ∀ whole, isTrue e X.env whole = (do let v ← whole; standAt e.pos; holding [v] (truthy v)) := by intro _; rfl) : TR X e (rTr r) := by
  refine PT.imp (pt_truth h he) fun σ H Q ⟨env, S, k, hE, hS, q, c⟩ => ⟨env, S, _, hE, hS, q, fun d S' v H' q st r a => ?_⟩
  split at q
  · rename_i xs
    obtain ⟨p, vs, rfl, h1, h2⟩ := r.tup_
    have e : xs.isEmpty = vs.isEmpty := by
      have := h2.length
      cases xs with
      | nil => cases vs with
        | nil => rfl
        | cons _ _ => simp at this
      | cons _ _ => cases vs with
        | nil => simp at this
        | cons _ _ => rfl
    refine ⟨!vs.isEmpty, .inr (.inl ⟨vs, h1.sq, rfl⟩), ?_⟩
    rw [← e]
    exact c _ _ _ q st a
  · exact q.elim
end
def c_day_before2 : Cn := fun ds S k _ => ∃ cs x y, ds = [tupI (endN cs x), tupI cs] ∧ CallsN cs ∧ IsCase cs x ∧ IsCase cs y ∧ dayN cs y = x ∧ k (tupI (endN cs y)) S
end DL
namespace DL
open PySem PySem.Spec PyProof.Rows L2
theorem pairs_ck1 (g h : Ck → Ck) (ks : List Ck) : ((ks.map g).zip (ks.map fun x => ckD (h x))).map (fun p : Ck × D => D.tup [ckD p.1, p.2]) = ks.map fun x => D.tup [ckD (g x), ckD (h x)] := pairs_ck g h ks
theorem pairs_ck2 (h : Ck → Ck) (ks : List Ck) : (ks.zip (ks.map fun x => ckD (h x))).map (fun p : Ck × D => D.tup [ckD p.1, p.2]) = ks.map fun x => D.tup [ckD x, ckD (h x)] := by
  have := pairs_ck (fun x => x) h ks
  rw [List.map_id'] at this; exact this
theorem turned_get (c : Int) (y : Ck) : (dicAt [none, some c] [D.int c, D.non] y).getD (ckD y) = ckD (exN y c) := by
  unfold dicAt
  cases y with
  | none => rw [if_pos rfl]; rfl
  | some d =>
    rw [if_neg (fun z => nomatch z)]
    unfold dicAt
    by_cases e : c = d
    · subst e
      rw [if_pos rfl, exN_self]; rfl
    · rw [if_neg (fun z => e (Option.some.inj z)), exN_other (fun z => e z.symm)]
      unfold dicAt
      rfl
end DL
namespace DL
open PySem PySem.Spec PyProof.Rows L2
theorem comp_drawP {a p : Addr} {S : Sto} {b : List D} {vi : Nat} {m : Nat} {left : List Int} {env : DEnv} {S0 : Sto} {k : RK} {vb vl : Nat} {ri : RTi}
    (hri : ∀ K : List D → (Sto → Prop) → Sto → Prop, K (rngD 0 m) (fun _ => True) S0 → ri env S0 K)
    (e0 : ∀ d, ((wipeE env [vi]).set vi (some d))[vb]? = some (some (.ref a))) (e1 : ∀ d, ((wipeE env [vi]).set vi (some d))[vl]? = some (some (.ref p)))
    (hx : Ex a S b S0) (hb : BagV b) (hp : S p = none) (hpa : p ≠ a) (hl : S0 p = some (.lst (left.map D.int))) (hL : left.length ≤ 1000) (hm : m ≤ left.length)
    (q : ∀ b' cs rest S', BagV b' → Ex a S b' S' → left.Perm (cs ++ rest) → cs.length = m → ∀ p, S' p = none → k (.ref p) (S'.upd p (.lst (cs.map D.int)))) :
    rComp ri (gN vi) rYes (rBm "list" popAtD (rVar vl) (rCons (rCall 2 c_law_pick (rCons (rVar vb) (rCons (rCallB lenD (rCons (rVar vl) rNil)) rNil))) rNil)) [vi] env S0 k := by
  refine hri _ ⟨fun i acc S' => ∃ b' cs rest, BagV b' ∧ Ex a S b' S' ∧ S' p = some (.lst (rest.map D.int)) ∧ acc = cs.map D.int ∧ cs.length = i ∧ left.Perm (cs ++ rest), ⟨b, [], left, hb, hx, hl, rfl, rfl, List.Perm.refl _⟩, fun _ _ _ _ _ => trivial, ?_, ?_⟩
  · rintro i x acc S' hi ⟨b', cs, rest, hb', hx', hp', rfl, rfl, pm⟩
    obtain ⟨hi', rfl⟩ := rngD_it hi
    have ln := pm.length_eq
    rw [List.length_append] at ln
    simp only [gN, rYes, if_true, rBm, rVar, e0, e1, rCons, rNil, rCall, rCallB]
    refine ⟨tyD_lst hp', len_at (seq_ref hp') ⟨rfl, a, _, b', rfl, ?_, ?_, hx'.bag, hb', fun told b'' t0 t1 hb'' => ?_⟩⟩
    · rw [List.length_map]; omega
    · rw [List.length_map]
      have : ((rest.length : Nat) : Int).natAbs = rest.length := Int.natAbs_natCast _
      rw [this]
      have := lg_lt (n := rest.length) (k := 64) (by omega) (by decide)
      omega
    · rw [List.length_map] at t1
      have hj : told.toNat < rest.length := by omega
      have ej : rest[told.toNat]? = some rest[told.toNat] := List.getElem?_eq_getElem hj
      refine popAt_at (xs := rest.map D.int) (d := .int rest[told.toNat]) (by rw [Sto.upd_ne hpa]; exact hp') t0 (by omega) (by rw [List.getElem?_map, ej]; rfl) ⟨?_, _, Sub.refl _, b'', cs ++ [rest[told.toNat]], rest.eraseIdx told.toNat, hb'', ?_, ?_, ?_, ?_, ?_⟩
      · rw [List.length_map]; exact Nat.lt_of_le_of_lt (show cs.length ≤ 1000 by omega) (by decide)
      · exact (hx'.upd).mod hp hpa
      · rw [Sto.upd_same, eraseIdx_ints]
      · simp
      · simp
      · rw [List.append_assoc, List.singleton_append]
        exact pm.trans (List.Perm.append_left cs (erase_perm ej))
  · rintro acc S' ⟨b', cs, rest, hb', hx', hp', rfl, hcs, pm⟩
    rw [rngD_len] at hcs
    exact q b' cs rest S' hb' hx' pm hcs
/-! ### a lane of called cars; its end -/
theorem end_of_lane {ns cs : List Int} (h : ∀ n ∈ ns, n ∈ cs) : caseN ns cs = ns.head? ∧ playN ns cs = endN cs ns.head? := by
  obtain ⟨a, b⟩ := fix_none h
  have c : caseN ns cs = ns.head? := by unfold caseN; rw [b]
  exact ⟨c, by rw [day_end, a, c]; rfl⟩
theorem case_end {cs : List Int} {x : Ck} (hx : IsCase cs x) : caseN (endN cs x) cs = dayN cs x := by
  rw [(end_of_lane (end_in hx)).1, head_end]
theorem play_end {cs : List Int} {x : Ck} (hx : IsCase cs x) : playN (endN cs x) cs = endN cs (dayN cs x) := by
  rw [(end_of_lane (end_in hx)).2, head_end]
theorem per_end {cs : List Int} {x : Ck} (hx : IsCase cs x) : perN cs (caseN (endN cs x) cs) = perN cs x := by
  rw [case_end hx]
  exact per_iter hx 1
theorem days_again {cs : List Int} {x : Ck} (hx : IsCase cs x) : daysN cs (perN cs x) (endN cs x) = endN cs x := by
  obtain ⟨p0, _, pe, _⟩ := per_spec hx
  obtain ⟨n, en⟩ : ∃ n, perN cs x = n + 1 := ⟨perN cs x - 1, by omega⟩
  have fx : fixN (endN cs x) cs = [] := (fix_none (end_in hx)).1
  rw [en, days_end, fx, case_end hx]
  have : iterN cs n (dayN cs x) = x := by
    have e : iterN cs (n + 1) x = x := by rw [← en]; exact pe
    exact e
  rw [this]; rfl
theorem rev_case {cs : List Int} {x : Ck} (hx : IsCase cs x) : IsCase cs (dayN cs.reverse x) := fold_case hx fun d hd => List.mem_reverse.mp hd
theorem filter_one : ∀ {rows : List (List Ck)} {y : Ck}, rows.flatten.Nodup → y ∈ rows.flatten → ∃ r ∈ rows, y ∈ r ∧ rows.filter (fun r => decide (y ∈ r)) = [r]
  | [], y, _, h => by cases h
  | r :: rows, y, nd, h => by
    rw [List.flatten_cons] at nd h
    obtain ⟨n1, n2, n3⟩ := List.nodup_append.mp nd
    by_cases m : y ∈ r
    · refine ⟨r, List.mem_cons_self .., m, ?_⟩
      rw [List.filter_cons, if_pos (by simpa using m)]
      have : rows.filter (fun r => decide (y ∈ r)) = [] := by
        rw [List.filter_eq_nil_iff]
        intro q hq z
        exact n3 y m y (List.mem_flatten.mpr ⟨q, hq, by simpa using z⟩) rfl
      rw [this]
    · obtain ⟨q, hq, hy, e⟩ := filter_one n2 ((List.mem_append.mp h).resolve_left m)
      exact ⟨q, List.mem_cons_of_mem _ hq, hy, by rw [List.filter_cons, if_neg (by simpa using m)]; exact e⟩
theorem row_len {cs : List Int} {rows : List (List Ck)} (h : RowsOk cs rows) {r : List Ck} {y : Ck} (hr : r ∈ rows) (hy : y ∈ r) : r.length = perN cs y := by
  obtain ⟨x, hx, rfl⟩ := h.row r hr
  obtain ⟨n, rfl⟩ := (cyc_mem hx).mp hy
  rw [per_iter hx]
  simp [cycN]
theorem cycs_all {cs L : List Int} (hL : Cars cs L) : RowsOk cs (cycsN cs (keysN L) []) ∧ (cycsN cs (keysN L) []).flatten.Nodup ∧ ∀ y, IsCase cs y → y ∈ (cycsN cs (keysN L) []).flatten := by
  have ra := cycs_rows hL (keysN L).length
  have cl := cycs_closed hL (keysN L).length
  rw [List.take_length] at ra cl
  exact ⟨ra, cl.nd, fun y hy => (cycs_perm hL).mem_iff.mpr ((mem_keys hL).mpr hy)⟩
theorem sum_lens : ∀ rows : List (List Ck), (rows.map fun r => ((r.length : Nat) : Int)).sum = ((rows.flatten.length : Nat) : Int)
  | [] => rfl
  | r :: rows => by
    rw [List.map_cons, List.sum_cons, sum_lens rows, List.flatten_cons, List.length_append]; omega
theorem same_self {ks vs : List Ck} (l : ks.length = vs.length) (nd : ks.Nodup) : Same2 ks vs ks vs := by
  refine ⟨l, l, rfl, ?_⟩
  induction ks generalizing vs with
  | nil => intro p hp; cases hp
  | cons k ks ih =>
    cases vs with
    | nil => intro p hp; cases hp
    | cons v vs =>
      intro p hp
      obtain ⟨n1, n2⟩ := List.nodup_cons.mp nd
      rw [List.zip_cons_cons] at hp
      rcases List.mem_cons.mp hp with rfl | z
      · unfold ckAt; rw [if_pos rfl]
      · have : k ≠ p.1 := fun e => n1 (by rw [e]; exact (List.of_mem_zip z).1)
        unfold ckAt
        rw [if_neg this]
        exact ih (by simpa using l) n2 p z
end DL
namespace DL
open PySem PySem.Spec PyProof.Rows L2
/-- the store as it was at T, but for the bag and the list of ends -/
structure Fr (pb pe : Addr) (T : Sto) (b : List D) (es : List (List Int)) (S' : Sto) : Prop where
  bag : S' pb = some (.lst b)
  ends : S' pe = some (.lst (es.map tupI))
  rest : ∀ c o, c ≠ pb → c ≠ pe → T c = some o → S' c = some o
section
variable {pb pe : Addr} {T S' S2 : Sto} {b b' : List D} {es : List (List Int)}
theorem Fr.ex (F : Fr pb pe T b es S') (ne : pe ≠ pb) (x : Ex pb S' b' S2) : Fr pb pe T b' es S2 := ⟨x.bag, x.rest _ _ ne F.ends, fun c o n1 n2 e => x.rest _ _ n1 (F.rest c o n1 n2 e)⟩
theorem Fr.new (F : Fr pb pe T b es S') {p : Addr} {o : O} (hp : S' p = none) : Fr pb pe T b es (S'.upd p o) := ⟨old_new hp F.bag, old_new hp F.ends, fun c u n1 n2 e => old_new hp (F.rest c u n1 n2 e)⟩
theorem Fr.push (F : Fr pb pe T b es S') (ne : pe ≠ pb) (e : List Int) : Fr pb pe T b (es ++ [e]) (S'.upd pe (.lst (es.map tupI ++ [tupI e]))) := by
  refine ⟨by rw [Sto.upd_ne ne.symm]; exact F.bag, by rw [Sto.upd_same, List.map_append]; rfl, fun c o n1 n2 q => by rw [Sto.upd_ne n2]; exact F.rest c o n1 n2 q⟩
theorem Fr.grow (F : Fr pb pe T b es S') (s : Sub S' S2) : Fr pb pe T b es S2 := ⟨s _ _ F.bag, s _ _ F.ends, fun c o n1 n2 e => s _ _ (F.rest c o n1 n2 e)⟩
end
end DL
namespace DL
open PySem PySem.Spec PyProof.Rows L2
theorem comp_some {a p : Addr} {S : Sto} {b : List D} {vi : Nat} {left : List Int} {env : DEnv} {k : RK} {vb vl : Nat}
    (v0 : env[vb]? = some (some (.ref a))) (v1 : env[vl]? = some (some (.ref p)))
    (e0 : ∀ d, ((wipeE env [vi]).set vi (some d))[vb]? = some (some (.ref a))) (e1 : ∀ d, ((wipeE env [vi]).set vi (some d))[vl]? = some (some (.ref p)))
    (ha : S a = some (.lst b)) (hb : BagV b) (hpa : p ≠ a) (hl : S p = some (.lst (left.map D.int))) (hL : left.length ≤ 1000)
    (q : ∀ (b' : List D) (cs rest : List Int) (S' : Sto), BagV b' → S' a = some (.lst b') → (∀ c o, c ≠ a → c ≠ p → S c = some o → S' c = some o) → left.Perm (cs ++ rest) → ∀ p', S' p' = none → k (.ref p') (S'.upd p' (.lst (cs.map D.int)))) :
    rComp (iRng (rCons (rCall 2 c_law_pick (rCons (rVar vb) (rCons (rBin addD (rCallB lenD (rCons (rVar vl) rNil)) (rC (.int 1))) rNil))) rNil)) (gN vi) rYes (rBm "list" popAtD (rVar vl) (rCons (rCall 2 c_law_pick (rCons (rVar vb) (rCons (rCallB lenD (rCons (rVar vl) rNil)) rNil))) rNil)) [vi] env S k := by
  unfold rComp iRng
  simp only [rCons, rNil, rCall, rBin, rCallB, rC, rVar, v0, v1]
  refine len_at (seq_ref hl) (add_int ⟨rfl, pick_at (Ex.refl ha) hb ?_ ?_ fun told b' S' t0 t1 hb' x' k' => ?_⟩)
  · rw [List.length_map]; omega
  · rw [List.length_map]; omega
  rw [List.length_map] at t1
  refine ⟨by omega, by omega, ?_⟩
  have hpS : S' p = some (.lst (left.map D.int)) := (k' p hpa).trans hl
  -- the others' list may change: S without it is the frame
  obtain ⟨S0, hS0⟩ : ∃ S0 : Sto, S0 = fun c => if c = p then none else S' c := ⟨_, rfl⟩
  have h0p : S0 p = none := by rw [hS0]; exact if_pos rfl
  have h0 : ∀ c, c ≠ p → S0 c = S' c := fun c n => by rw [hS0]; exact if_neg n
  have ex0 : Ex a S0 b' S' := ⟨x'.bag, fun c o n e => by
    have : c ≠ p := fun z => by rw [z, h0p] at e; cases e
    rw [h0 c this] at e; exact e⟩
  refine comp_drawP (p := p) (left := left) (ri := fun _ _ K => K (rngD 0 told.toNat) (fun _ => True) S') (fun K hK => hK) e0 e1 ex0 hb' h0p hpa hpS hL (by omega) fun b2 cs rest S2 hb2 x2 pm lc p' hp' => ?_
  exact q b2 cs rest S2 hb2 x2.bag (fun c o n1 n2 e => x2.rest c o n1 (by rw [h0 c n2, k' c n1]; exact e)) pm p' hp'
end DL
namespace DL
open PySem PySem.Spec PyProof.Rows L2
theorem comp_ends {pb pe : Addr} {T S : Sto} {b : List D} {es : List (List Int)} {env : DEnv} {k : RK} {vi vb vl : Nat} (F : Fr pb pe T b es S) (ne : pe ≠ pb) (hb : BagV b) (e0 : es ≠ []) (e1 : es.length ≤ 1000)
    (v0 : ∀ d, ((wipeE env [vi]).set vi (some d))[vb]? = some (some (.ref pb))) (v1 : ∀ d, ((wipeE env [vi]).set vi (some d))[vl]? = some (some (.ref pe)))
    (q : ∀ (b' : List D) (cs : List (List Int)) (S' : Sto), BagV b' → Fr pb pe T b' es S' → (∀ e ∈ cs, e ∈ es) → cs.length ≤ 4 → ∀ p, S' p = none → k (.ref p) (S'.upd p (.lst (cs.map tupI)))) :
    rComp (iRng (rCons (rC (.int 4)) rNil)) (gN vi) rYes (rBin ixD (rVar vl) (rCall 2 c_law_pick (rCons (rVar vb) (rCons (rCallB lenD (rCons (rVar vl) rNil)) rNil)))) [vi] env S k := by
  have lp : 0 < es.length := List.length_pos_iff.mpr e0
  unfold rComp iRng
  simp only [rCons, rNil, rC]
  refine ⟨by decide, by decide, fun i acc S' => ∃ b' cs, BagV b' ∧ Fr pb pe T b' es S' ∧ acc = cs.map tupI ∧ cs.length = i ∧ ∀ e ∈ cs, e ∈ es, ⟨b, [], hb, F, rfl, rfl, fun e he => by cases he⟩, fun _ _ _ _ _ => trivial, ?_, ?_⟩
  · rintro i x acc S' hi ⟨b', cs, hb', F', rfl, rfl, hcs⟩
    obtain ⟨hi', rfl⟩ := rngD_it hi
    have hi4 : cs.length < 4 := hi'
    simp only [gN, rYes, if_true, rBin, rVar, v0, v1, rCall, rCallB]
    simp only [rCons, rNil, rVar, v0, v1, rCallB]
    refine len_at (seq_ref F'.ends) ?_
    refine ⟨rfl, pick_at (Ex.refl F'.bag) hb' ?_ ?_ fun told b2 S2 t0 t1 hb2 x2 k2 => ?_⟩
    · rw [List.length_map]; omega
    · rw [List.length_map]; omega
    rw [List.length_map] at t1
    have F2 := F'.ex ne x2
    have hj : told.toNat < es.length := by omega
    have ej : es[told.toNat]? = some es[told.toNat] := List.getElem?_eq_getElem hj
    have et : told = (told.toNat : Int) := by omega
    rw [et]
    refine ixD_at (seq_ref F2.ends) (atI_nat (v := tupI es[told.toNat]) (by rw [List.getElem?_map, ej]; rfl)) ?_
    refine ⟨?_, S2, Sub.refl _, b2, cs ++ [es[told.toNat]], hb2, F2, ?_, ?_, fun e he => ?_⟩
    · rw [List.length_map]; exact Nat.lt_of_le_of_lt (show cs.length ≤ 4 by omega) (by decide)
    · rw [List.map_append]; rfl
    · simp
    · rcases List.mem_append.mp he with z | z
      · exact hcs e z
      · rw [List.mem_singleton.mp z]; exact List.getElem_mem hj
  · rintro acc S' ⟨b', cs, hb', F', rfl, hl, hcs⟩
    rw [rngD_len] at hl
    have : cs.length = 4 := hl
    exact q b' cs S' hb' F' hcs (by omega)
def unck : D → Ck
  | .int i => some i
  | _ => none
theorem unck_ck (c : Ck) : unck (ckD c) = c := by cases c <;> rfl
def rowOf (S : Sto) (d : D) : List Ck := match d with
  | .ref q => match S q with
    | some (.lst xs) => xs.map unck
    | _ => []
  | _ => []
theorem rows_of {S : Sto} {qs : List Addr} {rows : List (List Ck)} (h : Rows S qs rows) : (qs.map D.ref).map (rowOf S) = rows := by
  obtain ⟨l, g⟩ := h
  refine List.ext_getElem? fun i => ?_
  rw [List.getElem?_map, List.getElem?_map]
  by_cases hi : i < qs.length
  · have e1 : qs[i]? = some qs[i] := List.getElem?_eq_getElem hi
    have e2 : rows[i]? = some (rows[i]'(by omega)) := List.getElem?_eq_getElem _
    have := g i _ _ e1 e2
    rw [e1, e2]
    show some (rowOf S (.ref qs[i])) = some _
    unfold rowOf
    simp only [this, List.map_map]
    have : (unck ∘ ckD) = id := by funext c; exact unck_ck c
    rw [this, List.map_id]
  · rw [List.getElem?_eq_none (by omega), List.getElem?_eq_none (by omega)]; rfl
theorem rows_has {S : Sto} {qs : List Addr} {rows : List (List Ck)} (h : Rows S qs rows) {y : Ck} {r : List Ck} (e : rows.filter (fun r => decide (y ∈ r)) = [r]) :
    ((qs.map D.ref).filter fun d => decide (y ∈ rowOf S d)).map (fun d => D.int ((rowOf S d).length : Nat)) = [D.int (r.length : Nat)] := by
  have a := rows_of h
  have : ((qs.map D.ref).filter fun d => decide (y ∈ rowOf S d)).map (fun d => D.int ((rowOf S d).length : Nat)) = ((((qs.map D.ref).map (rowOf S)).filter fun r => decide (y ∈ r)).map fun r => D.int (r.length : Nat)) := by
    generalize qs.map D.ref = xs
    rw [List.filter_map, List.map_map]; rfl
  rw [this, a, e]; rfl
theorem row_at {S : Sto} {qs : List Addr} {rows : List (List Ck)} (h : Rows S qs rows) {q : Addr} (hq : q ∈ qs) : S q = some (.lst ((rowOf S (.ref q)).map ckD)) := by
  obtain ⟨l, g⟩ := h
  obtain ⟨i, hi⟩ := List.getElem?_of_mem hq
  have lt := (List.getElem?_eq_some_iff.mp hi).1
  have e2 : rows[i]? = some (rows[i]'(by omega)) := List.getElem?_eq_getElem _
  have a := g i _ _ hi e2
  have b : rowOf S (.ref q) = rows[i]'(by omega) := by
    unfold rowOf
    simp only [a, List.map_map]
    have : (unck ∘ ckD) = id := by funext c; exact unck_ck c
    rw [this, List.map_id]
  rw [b]; exact a
end DL
/-! lists of tuples of ints: in, index, count; a def called without its keyword -/
namespace DL
open PySem PySem.Spec PyProof.Rows L2
section
variable {X : Cx} {S : Sto}
abbrev tupP (ks : List Int) : PyData := .tuple (ks.map PyData.int)
theorem toD_tup (ks : List Int) : PySem.W.Datum.toD (PySem.W.Tup.mk ks) = tupP ks := rfl
theorem toD_tups (kss : List (List Int)) : (kss.map PySem.W.Tup.mk).map PySem.W.Datum.toD = kss.map tupP := by
  rw [List.map_map]; rfl
theorem tup_mk_inj {a b : List Int} : PySem.W.Tup.mk a = PySem.W.Tup.mk b ↔ a = b := ⟨fun e => by cases e; rfl, fun e => by rw [e]⟩
theorem pyl_tups : ∀ kss : List (List Int), PyL S (kss.map tupI) (kss.map tupP)
  | [] => .nil
  | k :: kss => .cons (.tup (pyl_ints k)) (pyl_tups kss)
def rIdxT (K : PySem.W.Frag) : V → List V → Hp → VK → Prop := fun x xs H Q => ∃ (p : Addr) (vs : List V) (y : V) (kss : List (List Int)) (ks : List Int), x = .ref p ∧ xs = [y] ∧ SqL K H p vs ∧ DpAll K H vs (kss.map tupP) ∧ Dp K H y (tupP ks) ∧ kss.length ≤ sizeLine ∧ ks ∈ kss ∧ Q (.int (kss.idxOf ks : Nat)) H
theorem idx_mk (ks : List Int) : ∀ kss : List (List Int), (kss.map PySem.W.Tup.mk).idxOf (PySem.W.Tup.mk ks) = kss.idxOf ks
  | [] => rfl
  | k :: kss => by
    rw [List.map_cons, List.idxOf_cons, List.idxOf_cons, idx_mk ks kss]
    by_cases e : k = ks
    · subst e; simp
    · have e1 : (k == ks) = false := beq_eq_false_iff_ne.mpr e
      have e2 : (PySem.W.Tup.mk k == PySem.W.Tup.mk ks) = false := beq_eq_false_iff_ne.mpr fun z => e (tup_mk_inj.mp z)
      rw [e1, e2]
theorem cnt_mk (ks : List Int) : ∀ kss : List (List Int), ((kss.map PySem.W.Tup.mk).countP fun y => decide (y = PySem.W.Tup.mk ks)) = kss.count ks
  | [] => rfl
  | k :: kss => by
    rw [List.map_cons, List.countP_cons, cnt_mk ks kss, List.count_cons]
    by_cases e : k = ks
    · subst e; simp
    · have e1 : (k == ks) = false := beq_eq_false_iff_ne.mpr e
      have e2 : decide (PySem.W.Tup.mk k = PySem.W.Tup.mk ks) = false := decide_eq_false fun z => e (tup_mk_inj.mp z)
      rw [e1, e2]
theorem mt_indexT (hu : X.A.units + 64 < cLine) : MtR X "list.index" (rIdxT X.K) := by
  intro pins s σ H x xs v us Q I rx rxs h
  obtain ⟨p, vs, y, kss, ks, rfl, rfl, hs, ha, hy, hz, hm, q⟩ := h
  cases rx
  obtain ⟨u, rfl, ru⟩ := rxs.one
  obtain ⟨its, rv, pl, hlen⟩ := I.list hs
  obtain ⟨as, h1⟩ := Dp.readsAll I _ _ _ ha rv
  obtain ⟨bs, h2⟩ := Dp.reads I _ _ _ hy ru
  refine PySem.W.index_list_datum (α := PySem.W.Tup Int) (xs := kss.map PySem.W.Tup.mk) (x := PySem.W.Tup.mk ks) pl.isList ⟨as, by rw [toD_tups]; exact h1⟩ ⟨bs, h2⟩ ?_ (by rw [List.length_map]; exact hz) (List.mem_map_of_mem hm) ?_
  · have : PySem.W.Datum.depth (PySem.W.Tup Int) ≤ 60 := by decide
    omega
  · rw [idx_mk]
    exact ⟨.int _, H, I.tok _, ⟨_, rfl⟩, q⟩
def rCntT (K : PySem.W.Frag) : V → List V → Hp → VK → Prop := fun x xs H Q => ∃ (p : Addr) (vs : List V) (y : V) (kss : List (List Int)) (ks : List Int), x = .ref p ∧ xs = [y] ∧ SqL K H p vs ∧ DpAll K H vs (kss.map tupP) ∧ Dp K H y (tupP ks) ∧ Q (.int (kss.count ks : Nat)) H
theorem mt_countT (hu : X.A.units + 64 < cLine) : MtR X "list.count" (rCntT X.K) := by
  intro pins s σ H x xs v us Q I rx rxs h
  obtain ⟨p, vs, y, kss, ks, rfl, rfl, hs, ha, hy, q⟩ := h
  cases rx
  obtain ⟨u, rfl, ru⟩ := rxs.one
  obtain ⟨its, rv, pl, hlen⟩ := I.list hs
  obtain ⟨as, h1⟩ := Dp.readsAll I _ _ _ ha rv
  obtain ⟨bs, h2⟩ := Dp.reads I _ _ _ hy ru
  refine PySem.W.count_list_datum (α := PySem.W.Tup Int) (xs := kss.map PySem.W.Tup.mk) (x := PySem.W.Tup.mk ks) pl.isList ⟨as, by rw [toD_tups]; exact h1⟩ ⟨bs, h2⟩ ?_ ?_
  · have : PySem.W.Datum.depth (PySem.W.Tup Int) ≤ 60 := by decide
    omega
  · rw [cnt_mk]
    exact ⟨.int _, H, I.tok _, ⟨_, rfl⟩, q⟩
def indexT : D → FL := fun x ds S k => ∃ (kss : List (List Int)) (ks : List Int), seqOf S x = some (kss.map tupI) ∧ isTup x = false ∧ ds = [tupI ks] ∧ kss.length ≤ sizeLine ∧ ks ∈ kss ∧ k (.int (kss.idxOf ks : Nat)) S
theorem mIndexT (hu : X.A.units + 64 < cLine) : MtD X "list.index" indexT := by
  refine ⟨_, mt_indexT hu, fun x ds S k v vs H Q q rx rl hS c => ?_⟩
  obtain ⟨kss, ks, ex, nt, rfl, hz, hm, q⟩ := q
  obtain ⟨u, rfl, ru⟩ := rl.one
  obtain ⟨a, us, rfl, _, _⟩ := seq_of ex rx hS
  obtain ⟨ws, hl, rw_⟩ := sq_lst ex nt rx hS
  exact ⟨a, ws, u, kss, ks, rfl, rfl, hl, PyL.dp hS _ _ _ (pyl_tups kss) rw_, Py.dp hS _ _ _ (.tup (pyl_ints ks)) ru, hz, hm, c _ _ _ _ q Stp.refl .int hS⟩
def countT : D → FL := fun x ds S k => ∃ (kss : List (List Int)) (ks : List Int), seqOf S x = some (kss.map tupI) ∧ isTup x = false ∧ ds = [tupI ks] ∧ k (.int (kss.count ks : Nat)) S
theorem mCountT (hu : X.A.units + 64 < cLine) : MtD X "list.count" countT := by
  refine ⟨_, mt_countT hu, fun x ds S k v vs H Q q rx rl hS c => ?_⟩
  obtain ⟨kss, ks, ex, nt, rfl, q⟩ := q
  obtain ⟨u, rfl, ru⟩ := rl.one
  obtain ⟨a, us, rfl, _, _⟩ := seq_of ex rx hS
  obtain ⟨ws, hl, rw_⟩ := sq_lst ex nt rx hS
  exact ⟨a, ws, u, kss, ks, rfl, rfl, hl, PyL.dp hS _ _ _ (pyl_tups kss) rw_, Py.dp hS _ _ _ (.tup (pyl_ints ks)) ru, c _ _ _ _ q Stp.refl .int hS⟩
theorem eqv_tups (a b : List Int) : PyData.eqv (tupP a) (tupP b) = decide (a = b) := by
  rw [← toD_tup, ← toD_tup, PySem.W.Datum.eqv]
  exact decide_eq_decide.mpr tup_mk_inj
theorem lay_ints : ∀ a : List Int, PyData.canLayAll0 (a.map PyData.int) = true
  | [] => by simp [PyData.canLayAll0]
  | x :: a => by
    rw [List.map_cons, PyData.canLayAll0, lay_ints a]
    simp [PyData.canLay0]
theorem lay_tups : ∀ a : List (List Int), PyData.canLayAll0 (a.map tupP) = true
  | [] => by simp [PyData.canLayAll0]
  | x :: a => by
    rw [List.map_cons, PyData.canLayAll0, lay_tups a]
    simp [PyData.canLay0, lay_ints]
theorem dep_ints : ∀ a : List Int, PyData.depthAll (a.map PyData.int) ≤ 1
  | [] => by simp [PyData.depthAll]
  | x :: a => by
    have := dep_ints a
    rw [List.map_cons, PyData.depthAll]
    simp only [PyData.depth]
    omega
theorem dep_tups : ∀ a : List (List Int), PyData.depthAll (a.map tupP) ≤ 3
  | [] => by simp [PyData.depthAll]
  | x :: a => by
    have := dep_tups a
    have := dep_ints x
    rw [List.map_cons, PyData.depthAll]
    simp only [PyData.depth]
    omega
theorem shaped_t (a : List Int) : SeqAt.shaped (tupP a) = true := by
  unfold SeqAt.shaped
  rw [Bool.and_eq_true, decide_eq_true_eq]
  refine ⟨by simpa only [PyData.canLay0] using lay_ints a, ?_⟩
  have := dep_ints a
  simp only [PyData.depth]
  omega
theorem shaped_ts (a : List (List Int)) : SeqAt.shaped (.list (a.map tupP)) = true := by
  unfold SeqAt.shaped
  rw [Bool.and_eq_true, decide_eq_true_eq]
  refine ⟨by simpa only [PyData.canLay0] using lay_tups a, ?_⟩
  have := dep_tups a
  simp only [PyData.depth]
  omega
theorem in_tups {neg : Bool} {k : List Int} {kss : List (List Int)} {y : D} {K : RK} (hy : Py S y (.list (kss.map tupP))) (q : K (.bl (neg ^^ decide (k ∈ kss))) S) : inD neg (tupI k) y S K := by
  refine .inr ⟨tupP k, kss.map tupP, .tup (pyl_ints k), hy, shaped_t k, shaped_ts kss, ?_⟩
  have e : ((kss.map tupP).any fun z => PyData.eqv z (tupP k)) = decide (k ∈ kss) := by
    rw [List.any_map, Bool.eq_iff_iff, List.any_eq_true, decide_eq_true_iff]
    constructor
    · rintro ⟨z, hz, e⟩
      have : PyData.eqv (tupP z) (tupP k) = true := e
      rw [eqv_tups, decide_eq_true_iff] at this
      rw [← this]; exact hz
    · intro hk
      exact ⟨k, hk, by show PyData.eqv (tupP k) (tupP k) = true; rw [eqv_tups]; simp⟩
  rw [e]; exact q
/-! ### a def called without its keyword -/
def CalleeD (P : Program) (w : World) (K : PySem.W.Frag) (mg : Str → Option Value) (base : Heap) (CX : CXT) (k : Nat) (x : Str) (n : Nat) (i : Int) (C : Cn) : Prop :=
  ∃ f fd ps, FnG P w K mg base CX k f fd ps (spD K (n + 1) C) ∧ mg x = some (.ref f) ∧ PySem.W.keepIn K (.ref f) = true ∧ ∃ ds, Vals [V.int i] ds ∧ Binds K fd ps ds
def rCallDf (n : Nat) (i : Int) (C : Cn) (rl : RTa) : RT := fun env S k => rl env S fun ds S1 => ds.length = n ∧ C (ds ++ [.int i]) S1 k noX
theorem re_callD {k n : Nat} {x : Str} {i : Int} {p pos : Pos} {e : Expr} {C : Cn} {es : List Expr} {rl : RTa} (F : CalleeD X.prog X.w X.K X.mg X.base CX0 k x n i C) (hr : RoomG k X.A) (hg : Gl X x) (ha : RA X (e :: es) rl) (hdb : (x == ("__debug__" : Str)) = false := by decide)
    (he : starEach (e :: es) X.env = (false, eval e X.env) :: starEach es X.env := by rfl) (hpl : (backTo pos (starEach es X.env)).any (·.1) = false := by rfl) : RE X (.Call (.Name x p) (e :: es) [] pos) (rCallDf n i C rl) := by
  obtain ⟨f, fd, ps, G, hm, hk, dv, hv, hb⟩ := F
  have base : PE X (.Call (.Name x p) (e :: es) [] pos) (tCall (spD X.K (n + 1) C) [V.int i] E0 (tA X.K rl)) := by
    constructor
    intro pins s σ H Q I h
    refine wpAny_Call_Name_kw (ld_glob I hg hm (PySem.W.callWith_K (h₀ := X.base) I.ok.mod.kin hk (thn (PA.run ha pos pins s σ H _ I h) ?_) he hpl) hdb)
    rintro us s1 ⟨vs, H1, I1, rv, q⟩
    exact ⟨I1.kIn, runG G hr hb hv (pass0 (X := X)) I1 rv q⟩
  refine PE.imp base fun σ H Q ⟨env, S, kk, hE, hS, q, cl⟩ => ?_
  refine ⟨env, S, _, hE, hS, q, fun ds S1 vs H1 ⟨hl, q1⟩ st1 r1 hS1 => ?_⟩
  show spD X.K (n + 1) C (vs ++ [V.int i]) H1 Q E0
  exact ⟨ds ++ [.int i], S1, kk, noX, by rw [List.length_append, hl]; rfl, r1.append (.cons .int .nil), hS1, q1, cl.after st1, fun _ _ _ z => z.elim⟩
structure DefAtD (K : PySem.W.Frag) (mg : Str → Option Value) (x : Str) (st : Stmt) (ps : List Str) (i : Int) : Prop where
  ex : ∃ f fd, Fun K x x st f fd ∧ mg x = some (.ref f) ∧ ∃ ds, Vals [V.int i] ds ∧ Binds K fd ps ds
theorem mkCalleeD {P : Program} {w : World} {K : PySem.W.Frag} {mg : Str → Option Value} {base : Heap} {k : Nat} {x : Str} {st : Stmt} {N ps : List Str} {n : Nat} {i : Int} {C : Cn} (F : DefAtD K mg x st ps i) (Sc : FnScope N ps (defScope st)) (hn : ps.length = n + 1)
    (r : RTs) (hd : ∀ (cdv : Value) (A : Around) (outer : List Env) (s : Shared) (H : Hp) (E : XK) (f : Addr), RoomG k (A.deeper (envOfC x (defScope st) s.heap.objs.size f cdv)) → RSs (cxOf CX0 P w K mg base N x (defScope st) f cdv A outer s H E).nox (defBody st) r)
    (hs : ∀ ds S kk, ds.length = n + 1 → C ds S kk noX → r (endOf kk) (DL.envOf N ds) S) (hx : ∀ ds S kk ek, C ds S kk ek → C ds S kk noX) : CalleeD P w K mg base CX0 (k + 1) x n i C := by
  obtain ⟨f, fd, F, hm, hb⟩ := F.ex
  exact ⟨f, fd, ps, mkFnG F Sc (n + 1) hn r hd hs hx, hm, F.kp, hb⟩
theorem def_atD {K : PySem.W.Frag} {h : Heap} {mg : Str → Option Value} {x : Str} {st : Stmt} {ps : List Str} {n : Nat} {f D : Addr} {y : Str} {i : Int} {t : Tok} {oc : Value} {od an : Option Addr} {osl : Array (Option Value)} {doc pm cdv ct : Value} (X : K.In h) (G : h.Ns mainGlobals mg)
    (a : PySem.W.nsIn K mainGlobals x = some (some (.ref f))) (l : K.lookup f = some ⟨oc, od, .func (PySem.W.fnOf x x (defArgs st) (defBody st) (defScope st) .none (.ref D) doc pm an cdv ct), osl⟩) (c : PySem.W.codeIn K cdv x = true) (k : PySem.W.keepIn K (.ref f) = true)
    (d : PySem.W.nsIn K D y = some (some (.int i t))) (hn : n + 1 = ps.length)
    (h : ∀ (D : Addr) (doc pm : Value) (an : Option Addr) (cdv ct : Value) (us ks : List Value), us.length = n → ks.length = 1 →
      KwChain D ([y].zip ks) (bindArgs (PySem.W.fnOf x x (defArgs st) (defBody st) (defScope st) .none (.ref D) doc pm an cdv ct) ⟨us, []⟩) (ps.zip (us ++ ks))) : DefAtD K mg x st ps i := by
  have FD : FunD K x x (defArgs st) (defBody st) (defScope st) [] [(y, V.int i)] f (PySem.W.fnOf x x (defArgs st) (defBody st) (defScope st) .none (.ref D) doc pm an cdv ct) :=
    ⟨⟨oc, od, .none, .ref D, doc, pm, an, cdv, ct, osl, rfl, l, c, .inl ⟨rfl, rfl⟩, .inr ⟨D, rfl, fun q hq => by
      rw [List.mem_singleton.mp hq]
      exact ⟨_, d, ⟨_, rfl⟩⟩⟩⟩, k⟩
  obtain ⟨ds, hv, hb⟩ := FD.binds0 n (by simp) hn h
  exact ⟨f, _, fun_mk l c k, PySem.W.mg_of X G a, ds, hv, hb⟩
end
end DL
set_option exponentiation.threshold 1000
/-! far days; how many lanes end so -/
namespace DL
open PySem PySem.Spec PyProof.Rows L2
/-! ### numbers of arrangements -/
def arrN : Nat → Nat
  | 0 => 1
  | m + 1 => 1 + (m + 1) * arrN m
theorem arr_pos : ∀ m, 1 ≤ arrN m
  | 0 => Nat.le_refl _
  | m + 1 => Nat.le_add_right _ _
theorem arr_le : ∀ m, m ≤ 60 → arrN m ≤ 61 ^ m
  | 0, _ => Nat.le_refl _
  | m + 1, h => by
    have a := arr_le m (by omega)
    have b := arr_pos m
    have c : (m + 1) * arrN m ≤ 60 * arrN m := Nat.mul_le_mul_right _ h
    show 1 + (m + 1) * arrN m ≤ 61 ^ m * 61
    omega
theorem arr_lt {m : Nat} (h : m ≤ 60) : arrN m < 10 ^ 120 :=
  Nat.lt_of_le_of_lt (arr_le m h) (Nat.lt_of_le_of_lt (Nat.pow_le_pow_right (by decide) h) (by decide))
theorem fit_big {i : Int} (h : i.natAbs < 10 ^ 120) : (PyData.int i).showable = true ∧ (PyData.int i).depth ≤ 30 ∧ (PyData.int i).shown.length ≤ sizeLine := by
  have lg : i.natAbs.log2 < 400 := by
    by_cases z : i.natAbs = 0
    · rw [z]; decide
    · exact (Nat.log2_lt z).mpr (Nat.lt_trans h (by decide))
  refine ⟨by simp only [PyData.showable, decide_eq_true_eq]; omega, Nat.zero_le _, ?_⟩
  have lv : (PyData.int i).leavesShort 121 = true := by
    simp only [PyData.leavesShort, decide_eq_true_eq]
    have e := int_text_length_le10 (k := 120) (by decide) h
    show (Str.ofString (toString i)).length ≤ 121
    rw [PySem.ofString_length]; exact e
  have a := PyData.shown_le 121 (by decide) _ lv
  have w : (PyData.int i).weight ≤ 400 := by
    unfold PyData.weight
    split
    · omega
    · omega
  have b : (121 + 2) * (PyData.int i).weight ≤ 123 * 400 := Nat.mul_le_mul (by decide) w
  rw [sizeLine_eq]
  omega
/-! ### slices -/
theorem sIx_m1 (n d : Nat) : HT.sIx n d (some (-1)) = n - 1 := by
  show (if (-1 : Int) < 0 then ((-1 : Int) + (n : Int)).toNat else min (-1 : Int).toNat n) = n - 1
  rw [if_pos (by decide)]; omega
theorem cut_m1 {xs : List D} : cutD xs none (some (-1)) = xs.take (xs.length - 1) := by
  unfold cutD
  rw [sIx_m1, HT.sIx_none, Nat.sub_zero, List.drop_zero]
theorem cut_1m {xs : List D} : cutD xs (some 1) (some (-1)) = (xs.drop 1).take (xs.length - 2) := by
  unfold cutD
  have e : HT.sIx xs.length 0 (some 1) = min 1 xs.length := HT.sIx_nat xs.length 0 1
  rw [sIx_m1, e]
  by_cases h : 1 ≤ xs.length
  · rw [Nat.min_eq_left h]
    have e2 : xs.length - 1 - 1 = xs.length - 2 := by omega
    rw [e2]
  · have e : xs = [] := List.eq_nil_of_length_eq_zero (by omega)
    subst e; rfl
/-! ### the days one by one -/
def dlN (cs ls : List Int) (n : Nat) : List (List Int) := (List.range n).map fun i => daysN cs i ls
theorem dl_len {cs ls : List Int} {n : Nat} : (dlN cs ls n).length = n := by simp [dlN]
theorem dl_succ {cs ls : List Int} {n : Nat} : dlN cs ls (n + 1) = dlN cs ls n ++ [daysN cs n ls] := by
  unfold dlN; rw [List.range_succ, List.map_append]; rfl
theorem dl_get {cs ls : List Int} {n i : Nat} (h : i < n) : (dlN cs ls n)[i]? = some (daysN cs i ls) := by
  unfold dlN; rw [List.getElem?_map, List.getElem?_range h]; rfl
theorem days_succ {cs ls : List Int} {n : Nat} : daysN cs (n + 1) ls = playN (daysN cs n ls) cs := by
  rw [Nat.add_comm, days_add]; rfl
theorem days_eq {cs ls : List Int} {i j : Nat} : daysN cs (i + 1) ls = daysN cs (j + 1) ls ↔ iterN cs i (caseN ls cs) = iterN cs j (caseN ls cs) := by
  rw [days_end, days_end]
  exact ⟨fun h => end_inj (List.append_cancel_left h), fun h => by rw [h]⟩
/-- the period of a lane's case -/
abbrev plN (cs ls : List Int) : Nat := perN cs (caseN ls cs)
theorem iter_ne {cs : List Int} {x : Ck} (hx : IsCase cs x) {i j : Nat} (hij : i < j) (hj : j < perN cs x + i) : iterN cs j x ≠ iterN cs i x := by
  obtain ⟨p0, _, _, pm⟩ := per_spec hx
  intro e
  have : j = i + (j - i) := by omega
  rw [this, iter_add] at e
  exact pm (j - i) (by omega) (by omega) (iter_inj e)
theorem mid_has {cs ls : List Int} {n : Nat} : ∀ d, d ∈ ((dlN cs ls (n + 1)).drop 1).take (n + 1 - 2) ↔ ∃ i, i + 1 < n ∧ d = daysN cs (i + 1) ls := by
  intro d
  rw [List.mem_iff_getElem?]
  constructor
  · rintro ⟨i, e⟩
    rw [List.getElem?_take] at e
    by_cases hi : i < n + 1 - 2
    · rw [if_pos hi, List.getElem?_drop, dl_get (by omega)] at e
      refine ⟨i, by omega, ?_⟩
      rw [Nat.add_comm]
      exact (Option.some.inj e).symm
    · rw [if_neg hi] at e; cases e
  · rintro ⟨i, hi, rfl⟩
    refine ⟨i, ?_⟩
    rw [List.getElem?_take, if_pos (by omega), List.getElem?_drop, dl_get (by omega), Nat.add_comm]
theorem last_in {cs ls : List Int} {n : Nat} (hn : n ≤ plN cs ls + 1) : decide (daysN cs n ls ∈ ((dlN cs ls (n + 1)).drop 1).take (n + 1 - 2)) = decide (n = plN cs ls + 1) := by
  have hx : IsCase cs (caseN ls cs) := case_is
  obtain ⟨p0, _, pe, _⟩ := per_spec hx
  refine decide_eq_decide.mpr ⟨fun h => ?_, fun e => ?_⟩
  · obtain ⟨i, hi, e⟩ := (mid_has _).mp h
    obtain ⟨m, rfl⟩ : ∃ m, n = m + 1 := ⟨n - 1, by omega⟩
    rw [days_eq] at e
    by_cases c : m < plN cs ls + i
    · exact absurd e (iter_ne hx (by omega) c)
    · have : i = 0 := by omega
      omega
  · subst e
    have p1 : 0 < plN cs ls := p0
    refine (mid_has _).mpr ⟨0, by omega, ?_⟩
    rw [days_eq]
    exact pe
theorem last_idx {cs ls : List Int} : (((dlN cs ls (plN cs ls + 2)).drop 1).take (plN cs ls + 2 - 2)).idxOf (daysN cs (plN cs ls + 1) ls) = 0 := by
  have hx : IsCase cs (caseN ls cs) := case_is
  obtain ⟨p0, _, pe, _⟩ := per_spec hx
  have p1 : 0 < plN cs ls := p0
  have e0 : (((dlN cs ls (plN cs ls + 2)).drop 1).take (plN cs ls + 2 - 2))[0]? = some (daysN cs 1 ls) := by
    rw [List.getElem?_take, if_pos (by omega), List.getElem?_drop, dl_get (by omega)]
  have e1 : daysN cs (plN cs ls + 1) ls = daysN cs 1 ls := days_eq.mpr pe
  rw [e1]
  cases h : (((dlN cs ls (plN cs ls + 2)).drop 1).take (plN cs ls + 2 - 2)) with
  | nil => rw [h] at e0; cases e0
  | cons a r =>
    rw [h] at e0
    cases e0
    exact List.idxOf_cons_self
theorem days_far {cs ls : List Int} {n : Nat} (hn : 1 ≤ n) : daysN cs n ls = daysN cs (1 + (n - 1) % plN cs ls) ls := by
  have hx : IsCase cs (caseN ls cs) := case_is
  obtain ⟨p0, _, pe, _⟩ := per_spec hx
  obtain ⟨m, rfl⟩ : ∃ m, n = m + 1 := ⟨n - 1, by omega⟩
  rw [Nat.add_comm 1, days_eq, Nat.add_sub_cancel]
  exact iter_mod pe m
/-! ### all lanes of some cars -/
def stepL (L l : List Int) : List (List Int) := (L.filter fun c => !decide (c ∈ l)).map fun c => l ++ [c]
def layN (L : List Int) : Nat → List (List Int)
  | 0 => [[]]
  | k + 1 => (layN L k).flatMap (stepL L)
def upN (L : List Int) : Nat → List (List Int)
  | 0 => layN L 0
  | k + 1 => upN L k ++ layN L (k + 1)
structure LOk (L : List Int) (k : Nat) (l : List Int) : Prop where
  len : l.length = k
  nd : l.Nodup
  sub : ∀ c ∈ l, c ∈ L
theorem lay_ok (L : List Int) : ∀ k, ∀ l ∈ layN L k, LOk L k l
  | 0, l, h => by
    rw [List.mem_singleton.mp h]
    exact ⟨rfl, List.nodup_nil, fun c hc => by cases hc⟩
  | k + 1, l, h => by
    obtain ⟨m, hm, hl⟩ := List.mem_flatMap.mp h
    obtain ⟨c, hc, rfl⟩ := List.mem_map.mp hl
    obtain ⟨h1, h2, h3⟩ := lay_ok L k m hm
    have ⟨c1, c2⟩ := List.mem_filter.mp hc
    have c3 : c ∉ m := by simpa using c2
    refine ⟨by simp [h1], ?_, fun d hd => ?_⟩
    · rw [List.nodup_append]
      exact ⟨h2, by simp, fun a ha b hb e => by rw [List.mem_singleton.mp hb] at e; exact c3 (e ▸ ha)⟩
    · rcases List.mem_append.mp hd with z | z
      · exact h3 d z
      · rw [List.mem_singleton.mp z]; exact c1
theorem step_len {L l : List Int} {k : Nat} (nd : L.Nodup) (h : LOk L k l) : (stepL L l).length = L.length - k := by
  unfold stepL
  rw [List.length_map]
  have a : (L.filter fun c => decide (c ∈ l)).length = k := by
    rw [← h.len]
    refine List.Perm.length_eq ((List.perm_ext_iff_of_nodup (nd.sublist (List.filter_sublist ..)) h.nd).mpr fun c => ?_)
    rw [List.mem_filter]
    exact ⟨fun z => by simpa using z.2, fun z => ⟨h.sub c z, by simpa using z⟩⟩
  have b : ∀ M : List Int, (M.filter fun c => decide (c ∈ l)).length + (M.filter fun c => !decide (c ∈ l)).length = M.length := fun M => by
    induction M with
    | nil => rfl
    | cons x M ih =>
      rw [List.filter_cons, List.filter_cons, List.length_cons]
      by_cases e : x ∈ l
      · simp only [e, decide_true, Bool.not_true, if_true, Bool.false_eq_true, if_false, List.length_cons]; omega
      · simp only [e, decide_false, Bool.not_false, if_true, Bool.false_eq_true, if_false, List.length_cons]; omega
  have := b L
  omega
theorem flat_len {A : List (List Int)} {f : List Int → List (List Int)} {m : Nat} (h : ∀ l ∈ A, (f l).length ≤ m) : (A.flatMap f).length ≤ A.length * m := by
  induction A with
  | nil => simp
  | cons a A ih =>
    rw [List.flatMap_cons, List.length_append, List.length_cons, Nat.add_mul, Nat.one_mul]
    have := h a (List.mem_cons_self ..)
    have := ih fun l hl => h l (List.mem_cons_of_mem _ hl)
    omega
theorem lay_len {L : List Int} (h : L.length ≤ 4) : ∀ k, (layN L k).length ≤ 4 ^ k
  | 0 => Nat.le_refl _
  | k + 1 => by
    refine Nat.le_trans (flat_len (m := 4) fun l hl => ?_) ?_
    · unfold stepL
      rw [List.length_map]
      exact Nat.le_trans (List.length_filter_le ..) h
    · rw [Nat.pow_succ]
      exact Nat.mul_le_mul_right _ (lay_len h k)
/-- how many lanes begin so -/
def hdC (x : Ck) (A : List (List Int)) : Nat := A.countP fun l => decide (l.head? = x)
theorem hd_app {x : Ck} {A B : List (List Int)} : hdC x (A ++ B) = hdC x A + hdC x B := List.countP_append
theorem hd_step {L l : List Int} {x : Ck} {k : Nat} (nd : L.Nodup) (h : LOk L (k + 1) l) : hdC x (stepL L l) = if l.head? = x then L.length - (k + 1) else 0 := by
  have e := step_len nd h
  unfold hdC
  cases l with
  | nil => have := h.len; simp at this
  | cons a r =>
    have all : ∀ m ∈ stepL L (a :: r), m.head? = some a := fun m hm => by
      obtain ⟨c, _, rfl⟩ := List.mem_map.mp hm; rfl
    by_cases z : (a :: r).head? = x
    · rw [if_pos z, ← e]
      refine List.countP_eq_length.mpr fun m hm => ?_
      rw [all m hm, decide_eq_true_eq]; exact z
    · rw [if_neg z]
      refine List.countP_eq_zero.mpr fun m hm => ?_
      rw [all m hm, decide_eq_true_eq]; exact z
theorem hd_flat {L : List Int} {x : Ck} {k : Nat} (nd : L.Nodup) : ∀ {A : List (List Int)}, (∀ l ∈ A, LOk L (k + 1) l) → hdC x (A.flatMap (stepL L)) = hdC x A * (L.length - (k + 1))
  | [], _ => by simp [hdC]
  | a :: A, h => by
    rw [List.flatMap_cons, hd_app, hd_step nd (h a (List.mem_cons_self ..)), hd_flat nd fun l hl => h l (List.mem_cons_of_mem _ hl)]
    unfold hdC
    rw [List.countP_cons, Nat.add_mul]
    by_cases z : a.head? = x
    · simp [z]; omega
    · simp [z]
theorem hd_one {L : List Int} {c : Int} (nd : L.Nodup) (hc : c ∈ L) : hdC (some c) (layN L 1) = 1 := by
  have e : layN L 1 = L.map fun c => [c] := by
    show (layN L 0).flatMap (stepL L) = _
    show [[]].flatMap (stepL L) = _
    rw [List.flatMap_cons, List.flatMap_nil, List.append_nil]
    unfold stepL
    have : L.filter (fun c => !decide (c ∈ ([] : List Int))) = L := List.filter_eq_self.mpr fun a _ => by simp
    rw [this]; rfl
  rw [e]
  unfold hdC
  rw [List.countP_map]
  have : L.countP ((fun l => decide (l.head? = some c)) ∘ fun c => [c]) = L.count c := by
    unfold List.count
    refine List.countP_congr fun a _ => ?_
    simp
  rw [this]
  have a := List.nodup_iff_count.mp nd c
  have b := List.count_pos_iff.mpr hc
  omega
theorem hd_zero {L : List Int} {c : Int} : hdC (some c) (upN L 0) = 0 := rfl
theorem hd_sum {L : List Int} {c : Int} (nd : L.Nodup) (hc : c ∈ L) : ∀ k, k + 1 ≤ L.length → hdC (some c) (upN L k) + hdC (some c) (layN L (k + 1)) * arrN (L.length - 1 - k) = arrN (L.length - 1)
  | 0, h => by
    rw [hd_zero, hd_one nd hc]; simp
  | k + 1, h => by
    have ih := hd_sum nd hc k (by omega)
    have e : hdC (some c) (layN L (k + 1 + 1)) = hdC (some c) (layN L (k + 1)) * (L.length - (k + 1)) := hd_flat nd (lay_ok L (k + 1))
    rw [e]
    show hdC (some c) (upN L k ++ layN L (k + 1)) + _ = _
    rw [hd_app]
    have a : L.length - 1 - k = (L.length - 1 - (k + 1)) + 1 := by omega
    have b : L.length - (k + 1) = (L.length - 1 - (k + 1)) + 1 := by omega
    rw [a] at ih
    rw [b]
    have c' : arrN ((L.length - 1 - (k + 1)) + 1) = 1 + ((L.length - 1 - (k + 1)) + 1) * arrN (L.length - 1 - (k + 1)) := rfl
    rw [c', Nat.mul_add, Nat.mul_one] at ih
    rw [Nat.mul_assoc]
    omega
theorem hd_none {L : List Int} : ∀ k, hdC none (upN L k) = 1
  | 0 => rfl
  | k + 1 => by
    show hdC none (upN L k ++ layN L (k + 1)) = 1
    rw [hd_app, hd_none k]
    have : hdC none (layN L (k + 1)) = 0 := by
      refine List.countP_eq_zero.mpr fun l hl => ?_
      have := (lay_ok L (k + 1) l hl).len
      cases l with
      | nil => simp at this
      | cons a r => simp
    omega
/-- how many lanes end as the case does -/
def endC (L : List Int) (x : Ck) : Nat := if x = none then 1 else arrN (L.length - 1)
theorem hd_all {L : List Int} {x : Ck} (nd : L.Nodup) (hx : ∀ c, x = some c → c ∈ L) : hdC x (upN L L.length) = endC L x := by
  cases x with
  | none => rw [hd_none]; rfl
  | some c =>
    have hc := hx c rfl
    have l0 : 0 < L.length := List.length_pos_of_mem hc
    obtain ⟨m, hm⟩ : ∃ m, L.length = m + 1 := ⟨L.length - 1, by omega⟩
    have := hd_sum nd hc m (by omega)
    have z : L.length - 1 - m = 0 := by omega
    rw [z] at this
    show hdC (some c) (upN L L.length) = arrN (L.length - 1)
    rw [← this, hm]
    show hdC (some c) (upN L m ++ layN L (m + 1)) = _
    rw [hd_app]; simp [arrN]
theorem up_ok (L : List Int) : ∀ k, ∀ l ∈ upN L k, l.Nodup ∧ ∀ c ∈ l, c ∈ L
  | 0, l, h => ⟨(lay_ok L 0 l h).nd, (lay_ok L 0 l h).sub⟩
  | k + 1, l, h => by
    rcases List.mem_append.mp h with z | z
    · exact up_ok L k l z
    · exact ⟨(lay_ok L (k + 1) l z).nd, (lay_ok L (k + 1) l z).sub⟩
theorem up_len {L : List Int} (h : L.length ≤ 4) : ∀ k, k ≤ 4 → (upN L k).length ≤ 341
  | 0, _ => by show 1 ≤ 341; omega
  | 1, _ => by
    have a := lay_len h 1
    show (layN L 0 ++ layN L 1).length ≤ 341
    rw [List.length_append]
    have : (layN L 0).length = 1 := rfl
    omega
  | 2, _ => by
    have a := lay_len h 1
    have b := lay_len h 2
    show ((layN L 0 ++ layN L 1) ++ layN L 2).length ≤ 341
    rw [List.length_append, List.length_append]
    have : (layN L 0).length = 1 := rfl
    omega
  | 3, _ => by
    have a := lay_len h 1
    have b := lay_len h 2
    have c := lay_len h 3
    show (((layN L 0 ++ layN L 1) ++ layN L 2) ++ layN L 3).length ≤ 341
    rw [List.length_append, List.length_append, List.length_append]
    have : (layN L 0).length = 1 := rfl
    omega
  | 4, _ => by
    have a := lay_len h 1
    have b := lay_len h 2
    have c := lay_len h 3
    have d := lay_len h 4
    show ((((layN L 0 ++ layN L 1) ++ layN L 2) ++ layN L 3) ++ layN L 4).length ≤ 341
    rw [List.length_append, List.length_append, List.length_append, List.length_append]
    have : (layN L 0).length = 1 := rfl
    omega
theorem up_short (L : List Int) : ∀ k, ∀ l ∈ upN L k, l.length ≤ k
  | 0, l, h => by rw [(lay_ok L 0 l h).len]; exact Nat.le_refl _
  | k + 1, l, h => by
    rcases List.mem_append.mp h with z | z
    · exact Nat.le_succ_of_le (up_short L k l z)
    · rw [(lay_ok L (k + 1) l z).len]; exact Nat.le_refl _
theorem up_filter (L : List Int) : ∀ k, (upN L k).filter (fun l => decide (l.length = k)) = layN L k
  | 0 => rfl
  | k + 1 => by
    show (upN L k ++ layN L (k + 1)).filter _ = _
    rw [List.filter_append]
    have a : (upN L k).filter (fun l => decide (l.length = k + 1)) = [] := List.filter_eq_nil_iff.mpr fun l hl => by
      have := up_short L k l hl
      simp; omega
    have b : (layN L (k + 1)).filter (fun l => decide (l.length = k + 1)) = layN L (k + 1) := List.filter_eq_self.mpr fun l hl => by
      have := (lay_ok L (k + 1) l hl).len
      simp [this]
    rw [a, b, List.nil_append]
theorem part_len {L : List Int} (h : L.length ≤ 4) {k j : Nat} (hk : k + 1 ≤ 4) : (upN L k ++ ((layN L k).take j).flatMap (stepL L)).length ≤ 341 := by
  have a := up_len h (k + 1) hk
  have b : ((layN L k).take j).flatMap (stepL L) ++ ((layN L k).drop j).flatMap (stepL L) = layN L (k + 1) := by
    rw [← List.flatMap_append, List.take_append_drop]; rfl
  have c : (upN L (k + 1)).length = (upN L k).length + (layN L (k + 1)).length := List.length_append
  rw [← b, List.length_append] at c
  rw [List.length_append]
  omega
theorem ends_count {cs L : List Int} (hL : ∀ c ∈ L, c ∈ cs) {x : Ck} (A : List (List Int)) (hA : ∀ l ∈ A, ∀ c ∈ l, c ∈ L) : (A.map fun l => playN l cs).count (endN cs x) = hdC x A := by
  unfold List.count hdC
  rw [List.countP_map]
  refine List.countP_congr fun l hl => ?_
  have := (end_of_lane fun c hc => hL c (hA l hl c hc)).2
  show (playN l cs == endN cs x) = true ↔ _
  rw [this, beq_iff_eq, decide_eq_true_eq]
  exact ⟨end_inj, fun e => by rw [e]⟩
end DL
namespace DL
open PySem PySem.Spec PyProof.Rows L2
theorem Sto.upd_swap {T : Sto} {p q : Addr} {o u : O} (h : p ≠ q) : (T.upd q o).upd p u = (T.upd p u).upd q o := by
  funext c
  show (if c = p then some u else if c = q then some o else T c) = if c = q then some o else if c = p then some u else T c
  by_cases e : c = p
  · subst e; rw [if_pos rfl, if_neg h, if_pos rfl]
  · rw [if_neg e]
    by_cases f : c = q
    · rw [if_pos f, if_pos f]
    · rw [if_neg f, if_neg f, if_neg e]
theorem none_of {S S' : Sto} {p : Addr} (s : Sub S S') (h : S' p = none) : S p = none := by
  cases e : S p with
  | none => rfl
  | some o => rw [s _ _ e] at h; cases h
theorem dl_take {cs ls : List Int} {n : Nat} : (dlN cs ls (n + 1)).take n = dlN cs ls n := by
  rw [dl_succ]
  exact List.take_left' dl_len
def unI : D → Int
  | .int i => i
  | _ => 0
def unT : D → List Int
  | .tup xs => xs.map unI
  | _ => []
theorem unT_tup (l : List Int) : unT (tupI l) = l := by
  show (l.map D.int).map unI = l
  rw [List.map_map]
  exact List.map_id' (l := l) |> fun e => by simpa [Function.comp_def, unI] using e
theorem lane_of {L l cs : List Int} (h : CallsN cs) (hin : ∀ c ∈ L, c ∈ cs) (nd : l.Nodup) (s : ∀ c ∈ l, c ∈ L) : LaneN l := ⟨fun n hn => h.cars n (hin n (s n hn)), nd⟩
theorem fit_lane {l : List Int} (h : LaneN l) : (PyData.tuple (l.map PyData.int)).showable = true ∧ (PyData.tuple (l.map PyData.int)).depth ≤ 30 ∧ (PyData.tuple (l.map PyData.int)).shown.length ≤ sizeLine :=
  fit_tupI (fun i hi => (h.cars i hi).sm) (Nat.le_trans (cars60 h) (by decide))
/-! ### contracts -/
def c_law_day1 : Cn := fun ds S k _ => ∃ ns cs, ds = [tupI ns, tupI cs] ∧ LaneN ns ∧ CallsN cs ∧ k (tupI (playN ns cs)) S
def c_count_before : Cn := fun ds S k _ => ∃ cs x, ds = [tupI (endN cs x), tupI cs] ∧ CallsN cs ∧ IsCase cs x ∧ ∃ L : List Int, L.Nodup ∧ (∀ i, i ∈ L ↔ i ∈ cs) ∧ k (.int (endC L x : Nat)) S
def c_law_arranged : Cn := fun ds S k _ => ∃ m : Nat, ds = [.int m] ∧ m ≤ 60 ∧ k (.int (arrN m : Nat)) S
def c_law_played : Cn := fun ds S k _ => ∃ ls cs, ds = [tupI ls, tupI cs] ∧ LaneN ls ∧ CallsN cs ∧ ∀ p S', Sub S S' → S p = none → S' p = some (.lst ((dlN cs ls (plN cs ls + 1)).map tupI)) → k (.tup [.ref p, .int 1]) S'
def c_law_far_right : Cn := fun ds S k _ => ∃ a b ls cs, ds = [.ref a, tupI ls, tupI cs] ∧ S a = some (.lst b) ∧ BagV b ∧ LaneN ls ∧ CallsN cs ∧ ∀ b' S', BagV b' → Ex a S b' S' → k (.bl true) S'
def c_law_all_lanes : Cn := fun ds S k _ => ∃ c L, ds = [.ref c] ∧ S c = some (.lst (L.map D.int)) ∧ L.length ≤ 4 ∧ ∀ p S', Sub S S' → S' p = some (.lst ((upN L L.length).map tupI)) → k (.ref p) S'
def c_law_before_right : Cn := fun ds S k _ => ∃ a b cs, ds = [.ref a, tupI cs] ∧ S a = some (.lst b) ∧ BagV b ∧ CallsN cs ∧ ∀ b' S', BagV b' → Ex a S b' S' → k (.bl true) S'
def c_law_few_right : Cn := fun ds S k _ => ∃ cs, ds = [tupI cs] ∧ CallsN cs ∧ (∀ L, Cars cs L → L.length ≤ 4) ∧ ∀ S', Sub S S' → k (.bl true) S'
end DL
/-! dicts that change, their values of any kind; divmod; locks as statements -/
namespace DL
open PySem PySem.Spec PyProof.Rows L2
abbrev Dm := List (Ck × D)
def valD (m : Dm) (c : Ck) : Option D := (m.find? fun p => decide (p.1 = c)).map (·.2)
def putD (m : Dm) (c : Ck) (d : D) : Dm := if (m.any fun p => decide (p.1 = c)) = true then m.map (fun p => if p.1 = c then (p.1, d) else p) else m ++ [(c, d)]
section
variable {X : Cx} {K : PySem.W.Frag} {H H' : Hp} {S : Sto}
theorem RpM.len : ∀ {m : Dm} {kvs : List (Ck × V)}, RpM K H m kvs → m.length = kvs.length
  | [], kvs, h => by rw [show kvs = [] from h]; rfl
  | p :: m, kvs, ⟨v, r, e, q, t⟩ => by subst e; rw [List.length_cons, List.length_cons, t.len]
theorem RpM.val : ∀ {m : Dm} {kvs : List (Ck × V)} (c : Ck), RpM K H m kvs → (∀ d, valD m c = some d → ∃ v, valV kvs c = some v ∧ Rp K H d v) ∧ (valD m c = none → valV kvs c = none)
  | [], kvs, c, h => by
    rw [show kvs = [] from h]
    refine And.intro (fun d e => ?_) (fun _ => rfl)
    have e' : (none : Option D) = some d := e
    simp at e'
  | p :: m, kvs, c, ⟨v, r, e, q, t⟩ => by
    subst e
    obtain ⟨a, b⟩ := t.val c
    by_cases h : p.1 = c
    · have e1 : valD (p :: m) c = some p.2 := by simp [valD, List.find?_cons, h]
      rw [e1]
      exact ⟨fun d e => by cases e; exact ⟨v, valV_pos h, q⟩, fun e => nomatch e⟩
    · have e1 : valD (p :: m) c = valD m c := by simp [valD, List.find?_cons, h]
      rw [e1]
      have e2 : valV ((p.1, v) :: r) c = valV r c := valV_neg h
      rw [e2]
      exact ⟨a, b⟩
theorem RpM.snoc : ∀ {m : Dm} {kvs : List (Ck × V)} {c : Ck} {d : D} {v : V}, RpM K H m kvs → Rp K H d v → RpM K H (m ++ [(c, d)]) (kvs ++ [(c, v)])
  | [], kvs, c, d, v, h, r => by rw [show kvs = [] from h]; exact ⟨v, [], rfl, r, rfl⟩
  | p :: m, kvs, c, d, v, ⟨u, s, e, q, t⟩, r => by subst e; exact ⟨u, _, rfl, q, t.snoc r⟩
theorem RpM.over : ∀ {m : Dm} {kvs : List (Ck × V)} {c : Ck} {d : D} {v : V}, RpM K H m kvs → Rp K H d v → RpM K H (m.map fun p => if p.1 = c then (p.1, d) else p) (kvs.map fun p => if p.1 = c then (p.1, v) else p)
  | [], kvs, c, d, v, h, r => by rw [show kvs = [] from h]; rfl
  | p :: m, kvs, c, d, v, ⟨u, s, e, q, t⟩, r => by
    subst e
    by_cases h : p.1 = c
    · refine ⟨v, s.map fun p => if p.1 = c then (p.1, v) else p, ?_, ?_, t.over r⟩
      · simp only [List.map_cons, h, if_true]
      · simp only [h, if_true]; exact r
    · refine ⟨u, s.map fun p => if p.1 = c then (p.1, v) else p, ?_, ?_, t.over r⟩
      · simp only [List.map_cons, h, if_false]
      · simp only [h, if_false]; exact q
theorem RpM.any : ∀ {m : Dm} {kvs : List (Ck × V)} (c : Ck), RpM K H m kvs → (m.any fun p => decide (p.1 = c)) = (kvs.any fun p => decide (p.1 = c))
  | [], kvs, c, h => by rw [show kvs = [] from h]; rfl
  | p :: m, kvs, c, ⟨u, s, e, q, t⟩ => by subst e; rw [List.any_cons, List.any_cons, t.any c]
theorem RpM.put {m : Dm} {kvs : List (Ck × V)} {c : Ck} {d : D} {v : V} (h : RpM K H m kvs) (r : Rp K H d v) : RpM K H (putD m c d) (putK kvs c v) := by
  unfold putD putK
  rw [h.any c]
  split
  · exact h.over r
  · exact h.snoc r
theorem dct_at {a b : Addr} {m : Dm} (e : S a = some (.dct b m)) (hS : AbsS K S H) : ∃ kvs, H a = some (dkO b kvs) ∧ Mut (some (dkO b kvs)) ∧ RpM K H m kvs := by
  obtain ⟨h, e1, mu, kvs, e2, r⟩ := hS _ _ e
  subst e2
  exact ⟨kvs, e1, mu, r⟩
theorem put_newD {m : Dm} {c : Ck} {d : D} (h : c ∉ m.map (·.1)) : putD m c d = m ++ [(c, d)] := by
  unfold putD
  rw [if_neg]
  intro e
  obtain ⟨p, hp, e⟩ := List.any_eq_true.mp e
  exact h (List.mem_map.mpr ⟨p, hp, by simpa using e⟩)
theorem valD_none {m : Dm} {c : Ck} (h : c ∉ m.map (·.1)) : valD m c = none := by
  unfold valD
  rw [List.find?_eq_none.mpr fun p hp e => h (List.mem_map.mpr ⟨p, hp, by simpa using e⟩)]
  rfl
theorem valD_map {f : Ck → D} {c : Ck} : ∀ {ks : List Ck}, c ∈ ks → valD (ks.map fun x => (x, f x)) c = some (f c)
  | k :: ks, h => by
    unfold valD
    rw [List.map_cons, List.find?_cons]
    by_cases e : k = c
    · subst e; simp
    · rw [decide_eq_false (show ¬ (k, f k).1 = c from e)]
      rcases List.mem_cons.mp h with z | z
      · exact absurd z.symm e
      · exact valD_map (f := f) z
/-! ### {} -/
def rD0 : RT := fun _ S k => ∀ p, S p = none → k (.ref p) (S.upd p (.dct p []))
theorem re_d0 {pos : Pos} : RE X (.Dict [] [] pos) rD0 := by
  constructor
  rintro pins s σ H Q I ⟨env, S, k, hE, hS, q, cl⟩
  have hp : H s.heap.objs.size = none := I.hok.fresh (Nat.le_refl _)
  exact wpAny_Dict_empty ⟨.ref s.heap.objs.size, _, I.laid (a := s.heap.objs.size) (o := dkO s.heap.objs.size []) (t' := s.toks) (fun _ _ q => Heap.get?_push_of_some _ q) (Nat.le_refl _) (dk_nil I.big), rfl,
    cl _ _ _ _ (q _ (hS.free hp)) (Stp.laid hp) .ref (hS.laid hp True.intro ⟨[], rfl, rfl⟩)⟩
/-! ### d[k], d[k] = v, k in d -/
def ixDct : F2 := fun x y S k => ∃ a m c d, x = .ref a ∧ y = ckD c ∧ S a = some (.dct a m) ∧ valD m c = some d ∧ k d S
theorem ixDctD : IxD X ixDct := by
  refine ⟨_, ix_dc0, fun x y S k v u H Q ⟨a, m, c, d, ex, ey, ea, l, q⟩ rx ry hS cl => ?_⟩
  subst ex ey
  obtain rfl := rx.ref_
  obtain ⟨kvs, h1, _, r⟩ := dct_at ea hS
  obtain ⟨v', h2, r2⟩ := (r.val c).1 d l
  exact ⟨a, kvs, c, v', rfl, ck_of ry, h1, h2, cl _ _ _ _ q Stp.refl r2 hS⟩
def setDt : SetF := fun o i d S k => ∃ a m c, o = .ref a ∧ i = ckD c ∧ S a = some (.dct a m) ∧ m.length < sizeLine ∧ k (S.upd a (.dct a (putD m c d)))
theorem setDct : SetD X setDt := by
  refine ⟨_, set_dc0, fun o i d S k ov iv v H Q ⟨a, m, c, eo, ei, ea, hl, q⟩ ro ri rd hS cl => ?_⟩
  subst eo ei
  obtain rfl := ro.ref_
  obtain ⟨kvs, h1, h2, r⟩ := dct_at ea hS
  exact ⟨a, kvs, c, rfl, ck_of ri, h1, by rw [← r.len]; exact hl, cl _ _ q (Stp.write ea) (hS.write h1 h2 True.intro ⟨_, rfl, (r.put rd).mon (Mon.write h1 h2)⟩)⟩
def rInDk (neg : Bool) : R2 := fun x y H Q => ∃ a kvs c, x = ckV c ∧ y = .ref a ∧ (H a = some (dkO a kvs) ∨ ∃ o, H a = some (.frz o (dkO a kvs))) ∧ Q (.bl (neg ^^ (valV kvs c).isSome)) H
theorem dk_any {pins : List (Addr × Obj)} {σ : L2.St} {s : Shared} {a : Addr} {kvs : List (Ck × V)} (I : Inv X pins σ H s) (e : H a = some (dkO a kvs) ∨ ∃ o, H a = some (.frz o (dkO a kvs))) :
    (a == sysModules) = false ∧ ∃ vs, KV kvs vs ∧ s.heap.DictOf (caseK X.prog X.w) a vs := by
  rcases e with e | ⟨o, e⟩
  · obtain ⟨_, n, vs, rel, d⟩ := dk_at (I.hok a _ e)
    exact ⟨n, vs, rel, d⟩
  · obtain ⟨_, _, n, vs, rel, d⟩ := lk_at I e
    exact ⟨n, vs, rel, d⟩
theorem or_inDk : OpR X (compareOp .In) (rInDk false) := by
  rintro pins s σ H x y v u Q I rx ry ⟨a, kvs, c, rfl, rfl, e, q⟩
  cases ry
  obtain ⟨n, vs, rel, d⟩ := dk_any I e
  refine wpAny_in_of (ck_is rx) n d.mapOf ?_
  rw [← (rel.val c).isSome_eq]
  exact ⟨.bl _, H, I.tok _, rfl, by rw [Bool.false_xor] at q; exact q⟩
theorem or_notInDk : OpR X (compareOp .NotIn) (rInDk true) := by
  rintro pins s σ H x y v u Q I rx ry ⟨a, kvs, c, rfl, rfl, e, q⟩
  cases ry
  obtain ⟨n, vs, rel, d⟩ := dk_any I e
  refine wpAny_notIn_of (ck_is rx) n d.mapOf ?_
  rw [← (rel.val c).isSome_eq]
  exact ⟨.bl _, H, I.tok _, rfl, by rw [Bool.true_xor] at q; exact q⟩
def inDk (neg : Bool) : F2 := fun x y S k => ∃ c, x = ckD c ∧ ((∃ a m, y = .ref a ∧ S a = some (.dct a m) ∧ k (.bl (neg ^^ (valD m c).isSome)) S) ∨ ∃ ks ds, y = .dic ks ds ∧ ks.length = ds.length ∧ k (.bl (neg ^^ decide (c ∈ ks))) S)
theorem valV_mem {kvs : List (Ck × V)} {c : Ck} : (valV kvs c).isSome = decide (c ∈ kvs.map (·.1)) := by
  rw [← valV_any]
  rw [Bool.eq_iff_iff, List.any_eq_true, decide_eq_true_iff, List.mem_map]
  exact ⟨fun ⟨p, h, e⟩ => ⟨p, h, by simpa using e⟩, fun ⟨p, h, e⟩ => ⟨p, h, by simpa using e⟩⟩
theorem inDk_go {neg : Bool} {x y : D} {S : Sto} {k : RK} {v u : V} {Q : VK} (q : inDk neg x y S k) (rx : Rp X.K H x v) (ry : Rp X.K H y u) (hS : AbsS X.K S H) (c : Cl X.K H S k Q) : rInDk neg v u H Q := by
  obtain ⟨c0, rfl, q⟩ := q
  obtain rfl := ck_of rx
  rcases q with ⟨a, m, rfl, e, q⟩ | ⟨ks, ds, rfl, ll, q⟩
  · obtain rfl := ry.ref_
    obtain ⟨kvs, h1, _, r⟩ := dct_at e hS
    refine ⟨a, kvs, c0, rfl, rfl, .inl h1, ?_⟩
    have ev : (valV kvs c0).isSome = (valD m c0).isSome := by
      cases z : valD m c0 with
      | none => rw [(r.val c0).2 z]; rfl
      | some d =>
        obtain ⟨w, h, _⟩ := (r.val c0).1 d z
        rw [h]; rfl
    rw [ev]
    exact c _ _ _ _ q Stp.refl .bl hS
  · obtain ⟨a, o, us, rfl, h, lu, r⟩ := ry.dic_
    refine ⟨a, _, c0, rfl, rfl, .inr ⟨o, h⟩, ?_⟩
    rw [valV_mem, List.map_fst_zip (by omega)]
    exact c _ _ _ _ q Stp.refl .bl hS
theorem opInDk : Op2 X (compareOp .In) (inDk false) := ⟨_, or_inDk, fun x y S k v u H Q q rx ry hS c => inDk_go q rx ry hS c⟩
theorem opNotInDk : Op2 X (compareOp .NotIn) (inDk true) := ⟨_, or_notInDk, fun x y S k v u H Q q rx ry hS c => inDk_go q rx ry hS c⟩
/-! ### d.clear() -/
def clearDt : D → FL := fun x ds S k => ∃ a m, x = .ref a ∧ ds = [] ∧ S a = some (.dct a m) ∧ k .non (S.upd a (.dct a []))
theorem mClearDt : MtD X "dict.clear" clearDt := by
  refine ⟨fun x xs H Q => ∃ a kvs, x = .ref a ∧ xs = [] ∧ H a = some (dkO a kvs) ∧ Q .non (L2.upd H a (dkO a [])), ?_, fun x ds S k v vs H Q ⟨a, m, ex, ed, ea, q⟩ rx rl hS cl => ?_⟩
  · rintro pins s σ H x xs v us Q I rx rs ⟨a, kvs, rfl, rfl, e, q⟩
    cases rx
    cases rs
    obtain ⟨z, n, vs, rel, d⟩ := dk_at (I.hok a _ e)
    refine call_meetsIn PySem.F.slot_dict_clear d.typeIs PySem.F.entry_dict_clear (PySem.F.args_dict_clear_1 _) (meets_dict_clear (caseK X.prog X.w) a) ⟨vs, d, by rw [← rel.length]; exact z, fun h' d' sb => ⟨.non, _, ?_, rfl, q⟩⟩
    obtain ⟨o, es, ep, g, rest⟩ := id d'
    exact d_write (t' := s.toks) I (by rw [e]; exact True.intro) sb ⟨o, g⟩ (dk_ok (Nat.zero_le _) n .nil d')
  · subst ex ed
    obtain rfl := rx.ref_
    obtain rfl := rl.nil_of
    obtain ⟨kvs, h1, h2, r⟩ := dct_at ea hS
    exact ⟨a, kvs, rfl, rfl, h1, cl _ _ _ _ q (Stp.write ea) .non (hS.write h1 h2 True.intro ⟨[], rfl, rfl⟩)⟩
/-! ### d.get(k, y) -/
def getDt : D → FL := fun x ds S k => ∃ c y, ds = [ckD c, y] ∧ ((∃ a m, x = .ref a ∧ S a = some (.dct a m) ∧ k ((valD m c).getD y) S))
/-! ### locks -/
/-- before a statement a dict's changes are over -/
def rLkS (i : Nat) (r : RTs) : RTs := fun ed env S => ∃ a m, env[i]? = some (some (.ref a)) ∧ S a = some (.dct a m) ∧ r ed (env.set i (some (.dic (m.map (·.1)) (m.map (·.2))))) (S.del a)
theorem RpM.zip {m : Dm} {kvs : List (Ck × V)} (h : RpM K H m kvs) : (m.map (·.1)).zip (kvs.map (·.2)) = kvs := by
  rw [← h.vals.2]
  clear h
  induction kvs with
  | nil => rfl
  | cons p r ih => rw [List.map_cons, List.map_cons, List.zip_cons_cons, ih]
theorem lock_go {H1 : Hp} {S1 : Sto} {a : Addr} {m : Dm} {kvs : List (Ck × V)} {od : Obj} (h1 : H1 a = some (dkO a kvs)) (h2 : Mut (some (dkO a kvs))) (ea : S1 a = some (.dct a m)) (r : RpM K H1 m kvs) (hS1 : AbsS K S1 H1) :
    Stp H1 S1 (L2.upd H1 a (.frz od (dkO a kvs))) (S1.del a) ∧ Rp K (L2.upd H1 a (.frz od (dkO a kvs))) (.dic (m.map (·.1)) (m.map (·.2))) (.ref a) ∧ AbsS K (S1.del a) (L2.upd H1 a (.frz od (dkO a kvs))) := by
  have mo : Mon H1 (L2.upd H1 a (.frz od (dkO a kvs))) := Mon.write h1 h2
  refine ⟨fun b o eb en => ?_, .dic (us := kvs.map (·.2)) (by rw [r.zip]; exact L2.upd_same) (by rw [List.length_map, List.length_map, r.len]) (r.vals.1.mon mo), fun b o eb => ?_⟩
  · have ne : b ≠ a := by intro z; rw [z, ea] at en; cases en
    exact ⟨by rw [L2.upd_ne ne]; exact eb, by rw [Sto.del_ne ne]; exact en⟩
  · have ne : b ≠ a := by intro z; rw [z] at eb; unfold Sto.del at eb; rw [if_pos rfl] at eb; cases eb
    rw [Sto.del_ne ne] at eb
    obtain ⟨u, e1, m1, r2⟩ := hS1 _ _ eb
    exact ⟨u, by rw [L2.upd_ne ne]; exact e1, m1, r2.mon mo⟩
theorem rs_lkS (i : Nat) {st : Stmt} {r : RTs} (h : RS X st r) : RS X st (rLkS i r) := by
  constructor
  rintro pins s σ H D I ⟨env, S, ed, hE, hS, ⟨a, m, ei, ea, q⟩, cl⟩
  obtain ⟨kvs, h1, h2, rm⟩ := dct_at ea hS
  obtain ⟨od, I2⟩ := I.lock h1 h2
  obtain ⟨st, rp, hS2⟩ := lock_go (od := od) h1 h2 ea rm hS
  obtain ⟨v, ev, rv⟩ := hE.get ei
  obtain rfl := rv.ref_
  have hE2 := (hE.mon (st.mon hS)).set i rp
  have es : σ.set i (some (V.ref a)) = σ := List.ext_getElem? fun j => by
    by_cases z : i = j
    · subst z
      rw [List.getElem?_set_self (List.getElem?_eq_some_iff.mp ev).1, ev]
    · rw [List.getElem?_set_ne z]
  rw [es] at hE2
  exact PS.run h pins s σ _ D I2 ⟨_, _, ed, hE2, hS2, q, cl.after st⟩
def rLkD (r : RT) : RT := fun env S k => r env S fun d S1 => ∃ a m, d = .ref a ∧ S1 a = some (.dct a m) ∧ k (.dic (m.map (·.1)) (m.map (·.2))) (S1.del a)
theorem re_lkD {e : Expr} {r : RT} (h : RE X e r) : RE X e (rLkD r) := by
  constructor
  rintro pins s σ H Q I ⟨env, S, k, hE, hS, q, cl⟩
  refine thn (PE.run h pins s σ H (fun v H1 => ∃ a m S1, v = .ref a ∧ S1 a = some (.dct a m) ∧ k (.dic (m.map (·.1)) (m.map (·.2))) (S1.del a) ∧ Stp H S H1 S1 ∧ AbsS X.K S1 H1) I ⟨env, S, _, hE, hS, q, fun d S1 v H1 ⟨a, m, ed, ea, q1⟩ st r1 hS1 => by
    subst ed
    exact ⟨a, m, S1, r1.ref_, ea, q1, st, hS1⟩⟩) ?_
  rintro v s1 ⟨x, H1, I1, r1, a, m, S1, rfl, ea, q1, st, hS1⟩
  obtain ⟨kvs, h1, h2, rm⟩ := dct_at ea hS1
  obtain ⟨od, I2⟩ := I1.lock h1 h2
  obtain ⟨st2, rp, hS2⟩ := lock_go (od := od) h1 h2 ea rm hS1
  exact ⟨.ref a, _, I2, r1, cl _ _ _ _ q1 (st.trans st2) rp hS2⟩
/-- a dict of None and ints is one whose values are of any kind -/
def rCv (r : RT) : RT := fun env S k => r env S fun d S1 => ∃ a m, d = .ref a ∧ S1 a = some (dcO a m) ∧ k (.ref a) (S1.upd a (.dct a (m.map fun p => (p.1, ckD p.2))))
theorem rpm_ck : ∀ m : Cm, RpM K H (m.map fun p => (p.1, ckD p.2)) (vmap m)
  | [] => rfl
  | p :: m => ⟨ckV p.2, _, rfl, ck_rp p.2, rpm_ck m⟩
theorem re_cv {e : Expr} {r : RT} (h : RE X e r) : RE X e (rCv r) := by
  refine PE.imp h fun σ H Q ⟨env, S, k, hE, hS, q, cl⟩ => ⟨env, S, _, hE, hS, q, fun d S1 v H1 ⟨a, m, ed, ea, q1⟩ st r1 hS1 => ?_⟩
  subst ed
  obtain ⟨h1, h2⟩ := dc_at ea hS1
  refine cl _ _ _ _ q1 (fun b o eb en => ?_) r1 fun b o eb => ?_
  · obtain ⟨z1, z2⟩ := st b o eb en
    have ne : b ≠ a := by intro z; rw [z, ea] at z2; cases z2
    exact ⟨z1, by rw [Sto.upd_ne ne]; exact z2⟩
  · by_cases ne : b = a
    · subst ne
      rw [Sto.upd_same] at eb
      cases eb
      exact ⟨_, h1, h2, _, rfl, rpm_ck m⟩
    · rw [Sto.upd_ne ne] at eb
      exact hS1 _ _ eb
/-! ### divmod -/
def divD : FL := fun ds S k => match ds with
  | [.int i, .int j] => 0 < j ∧ j.natAbs.log2 < 9000 ∧ k (.tup [.int (i / j), .int (i % j)]) S
  | _ => False
theorem call_divmod : CallR X (.builtin "divmod") (fun xs H Q => ∃ i j, xs = [.int i, .int j] ∧ 0 < j ∧ j.natAbs.log2 < 9000 ∧ NewT H Q [.int (i / j), .int (i % j)]) := by
  rintro pins s σ H xs us Q I r ⟨i, j, rfl, h0, h1, q⟩
  obtain ⟨u, w', rfl, ⟨t, rfl⟩, ⟨t', rfl⟩⟩ := vals2 r
  have e1 : i.fdiv j = i / j := Int.fdiv_eq_ediv_of_nonneg i (Int.le_of_lt h0)
  have e2 : i.fmod j = i % j := Int.fmod_eq_emod_of_nonneg i (Int.le_of_lt h0)
  refine divmod_int (by omega) ?_ (.inl (PyProof.noPylong_of_log2 h1))
  rw [e1, e2]
  exact laidT (tk := s.toks + 1 + 1) (xs := [.int (i / j), .int (i % j)]) I (fun _ _ z => z) (by show 2 ≤ sizeLine; decide) (.cons ⟨_, rfl⟩ (.cons ⟨_, rfl⟩ .nil)) q
theorem cDivmod : CallD X (.builtin "divmod") divD := by
  refine ⟨_, call_divmod, fun ds S k vs H Q q r hS c => ?_⟩
  unfold divD at q
  split at q
  · obtain ⟨v, v', rfl, r1, r2⟩ := r.two
    obtain rfl := r1.int_
    obtain rfl := r2.int_
    exact ⟨_, _, rfl, q.1, q.2.1, cl_newT c hS (.cons .int (.cons .int .nil)) q.2.2⟩
  · exact q.elim
/-! ### a, b, c = x, y, z with three local names -/
def rPar3 (i j l : Nat) (rl : RTa) : RTs := fun ed env S => rl env S fun ds S1 => match ds with
  | [d, e, f] => ed.nx (((env.set i (some d)).set j (some e)).set l (some f)) S1
  | _ => False
theorem rs_par3 (i j l : Nat) {x y z : Str} {a b c : Expr} {rl : RTa} {px py pz pt pos : Pos} {kt k2 pt2} (hc : X.calm = true) (hN : X.N.Nodup) (ha : RA X [a, b, c] rl) (hi : X.N[i]? = some x := by rfl) (hj : X.N[j]? = some y := by rfl) (hl : X.N[l]? = some z := by rfl)
    (hij : i ≠ j := by decide) (hil : i ≠ l := by decide) (hjl : j ≠ l := by decide)
    (hx : X.env.scope.names.lookup x = some .local := by rfl) (hy : X.env.scope.names.lookup y = some .local := by rfl) (hz : X.env.scope.names.lookup z = some .local := by rfl)
    (hw : swappedStores [.Tuple [.Name x px, .Name y py, .Name z pz] kt pt] (.Tuple [a, b, c] k2 pt2) X.env = pure (some [x, y, z]) := by rfl)
    (hs : swapsWithSole [.Tuple [.Name x px, .Name y py, .Name z pz] kt pt] (.Tuple [a, b, c] k2 pt2) pos.line X.env = pure false := by rfl) : RS X (.Assign [.Tuple [.Name x px, .Name y py, .Name z pz] kt pt] (.Tuple [a, b, c] k2 pt2) pos) (rPar3 i j l rl) := by
  refine PS.imp (ps_par3 hc hN hi hj hl hij hil hjl hx hy hz ha hw hs) fun D σ H ⟨env, S, ed, hE, hS, q, cl⟩ => ?_
  refine ⟨env, S, _, hE, hS, q, fun ds S1 vs H1 q1 st1 r1 hS1 => ?_⟩
  dsimp only at q1 ⊢
  split at q1
  · obtain ⟨v, r', e1, p1, t1⟩ := r1.cons_of
    obtain ⟨w, r'', e2, p2, t2⟩ := t1.cons_of
    obtain ⟨u, r3, e3, p3, t3⟩ := t2.cons_of
    have e4 := t3.nil_of
    subst e4 e3 e2 e1
    exact ⟨v, w, u, rfl, cl.nx _ _ _ _ q1 st1 ((((hE.mon (st1.mon hS)).set i p1).set j p2).set l p3) hS1⟩
  · exact q1.elim
end
end DL
namespace DL
open PySem PySem.Spec PyProof.Rows L2
/-! the day map as a dict that changes; rows of cases that are shown -/
abbrev dayM (cs L : List Int) : Dm := (keysN L).map fun x => (x, ckD (dayN cs x))
def c_day_mapM : Cn := fun ds S k _ => ∃ cs, ds = [tupI cs] ∧ CallsN cs ∧ ∀ L p S', Cars cs L → Sub S S' → S p = none → S' p = some (.dct p (dayM cs L)) → k (.ref p) S'
theorem dm_dic (ks : List Ck) (f : Ck → D) : D.dic ((ks.map fun x => (x, f x)).map (·.1)) ((ks.map fun x => (x, f x)).map (·.2)) = .dic ks (ks.map f) := by
  rw [List.map_map, List.map_map]
  show D.dic (ks.map id) _ = _
  rw [List.map_id]; rfl
theorem sub_del {S S1 : Sto} {p : Addr} (s : Sub S S1) (h : S p = none) : Sub S (S1.del p) := fun c o e => by
  rw [Sto.del_ne]
  · exact s c o e
  · intro z; rw [z, h] at e; cases e
theorem free_del {S S1 : Sto} {p c : Addr} (s : Sub S S1) (h : S p = none) (e : (S1.del p) c = none) : S c = none := by
  by_cases z : c = p
  · rw [z]; exact h
  · rw [Sto.del_ne z] at e; exact s.free e
/-! what repr shows of rows and of dicts -/
theorem rep_ck {x : Ck} (h : ∀ i, x = some i → Car i) : RepOk 0 70 (ckP x) := by
  cases x with
  | none => exact rep_non.mono (by omega) (by omega)
  | some i => exact rep_int (h i rfl).sm
theorem pydl_ck {S : Sto} : ∀ xs : List Ck, PyDL S (xs.map ckD) (xs.map ckP)
  | [] => .nil
  | none :: xs => .cons .non (pydl_ck xs)
  | some i :: xs => .cons (.int i) (pydl_ck xs)
theorem rows_pyl {S : Sto} {qs : List Addr} : ∀ {rows : List (List Ck)}, Rows S qs rows → PyL S (qs.map D.ref) (rows.map fun r => .list (r.map ckP)) := by
  induction qs with
  | nil =>
    intro rows h
    have : rows = [] := List.eq_nil_of_length_eq_zero h.1.symm
    subst this
    exact .nil
  | cons q qs ih =>
    intro rows h
    cases rows with
    | nil => have := h.1; simp at this
    | cons r rows =>
      refine .cons (.lst (h.2 0 q r rfl rfl) (pyl_ck r)) (ih ⟨by have := h.1; simpa using this, fun i q' r' e1 e2 => h.2 (i + 1) q' r' (by simpa using e1) (by simpa using e2)⟩)
theorem noDict_ck : ∀ xs : List Ck, PyData.hasDictAll (xs.map ckP) = false
  | [] => rfl
  | none :: xs => by simp only [List.map_cons, PyData.hasDictAll, ckP, PyData.hasDict, noDict_ck xs, Bool.or_self]
  | some i :: xs => by simp only [List.map_cons, PyData.hasDictAll, ckP, PyData.hasDict, noDict_ck xs, Bool.or_self]
theorem noDict_rows : ∀ rows : List (List Ck), PyData.hasDictAll (rows.map fun r => .list (r.map ckP)) = false
  | [] => rfl
  | r :: rows => by
    have e : PyData.hasDict (.list (r.map ckP)) = PyData.hasDictAll (r.map ckP) := rfl
    simp only [List.map_cons, PyData.hasDictAll, e, noDict_ck r, noDict_rows rows, Bool.or_self]
abbrev rowsP (rows : List (List Ck)) : PyData := .list (rows.map fun r => .list (r.map ckP))
theorem sh_rows {S : Sto} {p : Addr} {qs : List Addr} {rows : List (List Ck)} (e : S p = some (.lst (qs.map D.ref))) (h : Rows S qs rows) : ShP S (.ref p) (rowsP rows) :=
  .inl ⟨.lst e (rows_pyl h), noDict_rows rows⟩
theorem fit_rows {rows : List (List Ck)} (h : ∀ r ∈ rows, ∀ x ∈ r, ∀ i, x = some i → Car i) (l : rows.length ≤ 70) (l2 : ∀ r ∈ rows, r.length ≤ 100) : (rowsP rows).showable = true ∧ (rowsP rows).depth ≤ 30 ∧ (rowsP rows).shown.length ≤ sizeLine := by
  have r1 : ∀ p ∈ rows.map (fun r => PyData.list (r.map ckP)), RepOk 1 (100 * 71) p := fun p hp => by
    obtain ⟨r, hr, rfl⟩ := List.mem_map.mp hp
    refine (rep_lst (d := 0) (W := 70) fun q hq => ?_).mono (by omega) (by rw [List.length_map]; have := l2 r hr; omega)
    obtain ⟨x, hx, rfl⟩ := List.mem_map.mp hq
    exact rep_ck (h r hr x hx)
  exact ((rep_lst r1).mono (e := 30) (V := 600000) (by omega) (by rw [List.length_map]; omega)).fits (by omega)
abbrev dicP (ks vs : List Ck) : PyData := .dict ((ks.map ckP).zip (vs.map ckP))
theorem rep_kv {d W : Nat} : ∀ {kvs : List (PyData × PyData)}, (∀ p ∈ kvs, RepOk d W p.1 ∧ RepOk d W p.2) → PyData.showableKv kvs = true ∧ PyData.depthKv kvs ≤ d ∧ PyData.leavesShortKv 22 kvs = true ∧ PyData.weightKv kvs ≤ kvs.length * (2 * W + 2)
  | [], _ => ⟨rfl, Nat.zero_le _, rfl, Nat.zero_le _⟩
  | (a, b) :: ps, h => by
    obtain ⟨x, y, z, e⟩ := rep_kv (kvs := ps) fun q hq => h q (List.mem_cons_of_mem _ hq)
    obtain ⟨g1, g2⟩ := h (a, b) (List.mem_cons_self ..)
    refine ⟨by simp only [PyData.showableKv, g1.sh, g2.sh, x, Bool.and_self], ?_, by simp only [PyData.leavesShortKv, g1.lv, g2.lv, z, Bool.and_self], ?_⟩
    · have h1 : a.depth ≤ d := g1.dp
      have h2 : b.depth ≤ d := g2.dp
      simp only [PyData.depthKv]; omega
    · have h1 : a.weight ≤ W := g1.wt
      have h2 : b.weight ≤ W := g2.wt
      simp only [PyData.weightKv, List.length_cons, Nat.add_mul]; omega
theorem fit_dic {ks vs : List Ck} (h : ∀ x ∈ ks, ∀ i, x = some i → Car i) (g : ∀ x ∈ vs, ∀ i, x = some i → Car i) (l : ks.length ≤ 100) : (dicP ks vs).showable = true ∧ (dicP ks vs).depth ≤ 30 ∧ (dicP ks vs).shown.length ≤ sizeLine := by
  have r : ∀ p ∈ (ks.map ckP).zip (vs.map ckP), RepOk 0 70 p.1 ∧ RepOk 0 70 p.2 := fun p hp => by
    have h1 := List.of_mem_zip (a := p.1) (b := p.2) hp
    obtain ⟨x, hx, e1⟩ := List.mem_map.mp h1.1
    obtain ⟨y, hy, e2⟩ := List.mem_map.mp h1.2
    rw [← e1, ← e2]
    exact ⟨rep_ck (h x hx), rep_ck (g y hy)⟩
  obtain ⟨a, b, c, e⟩ := rep_kv r
  have rl : ((ks.map ckP).zip (vs.map ckP)).length ≤ 100 := by rw [List.length_zip, List.length_map]; omega
  have ok : RepOk 30 600000 (dicP ks vs) := ⟨by simpa only [PyData.showable] using a, by simp only [PyData.depth]; omega, by simpa only [PyData.leavesShort] using c, by simp only [PyData.weight]; omega⟩
  exact ok.fits (by omega)
def c_law_cycles : Cn := fun ds S k _ => ∃ cs L, ds = [dayD cs L] ∧ CallsN cs ∧ Cars cs L ∧ ∀ p qs S', Sub S S' → S p = none → S' p = some (.lst (qs.map D.ref)) → (∀ q ∈ qs, S q = none ∧ q ≠ p) → Rows S' qs (cycsN cs (keysN L) []) → k (.ref p) S'
def c_law_ends_right : Cn := fun ds S k _ => ∃ a b cs, ds = [.ref a, tupI cs] ∧ S a = some (.lst b) ∧ BagV b ∧ CallsN cs ∧ ∀ b' S', BagV b' → Ex a S b' S' → k (.bl true) S'
def c_law_period_right : Cn := fun ds S k _ => ∃ ls cs, ds = [tupI ls, tupI cs] ∧ LaneN ls ∧ CallsN cs ∧ k (.bl true) S
structure Fd (pb pt : Addr) (T : Sto) (b : List D) (m : Dm) (S' : Sto) : Prop where
  bag : S' pb = some (.lst b)
  dic : S' pt = some (.dct pt m)
  rest : ∀ c o, c ≠ pb → c ≠ pt → T c = some o → S' c = some o
section
variable {pb pt : Addr} {T S' S2 : Sto} {b b' : List D} {m m' : Dm}
theorem Fd.new (F : Fd pb pt T b m S') {p : Addr} {o : O} (hp : S' p = none) : Fd pb pt T b m (S'.upd p o) := ⟨old_new hp F.bag, old_new hp F.dic, fun c u n1 n2 e => old_new hp (F.rest c u n1 n2 e)⟩
theorem Fd.put (F : Fd pb pt T b m S') (ne : pt ≠ pb) : Fd pb pt T b m' (S'.upd pt (.dct pt m')) := ⟨by rw [Sto.upd_ne ne.symm]; exact F.bag, Sto.upd_same, fun c o n1 n2 q => by rw [Sto.upd_ne n2]; exact F.rest c o n1 n2 q⟩
end
theorem Ex.del {a p : Addr} {S S' : Sto} {b : List D} (h : Ex a S b S') (hp : S p = none) (n : p ≠ a) : Ex a S b (S'.del p) := ⟨by rw [Sto.del_ne n.symm]; exact h.bag, fun c o hn z => by
  rw [Sto.del_ne]
  · exact h.rest c o hn z
  · intro e; rw [e, hp] at z; cases z⟩
theorem car_case {cs : List Int} {x : Ck} (h : CallsN cs) (hx : IsCase cs x) : ∀ i, x = some i → Car i := fun i e => h.cars i (hx i e)
end DL
namespace DL
open PySem PySem.Spec PyProof.Rows L2
/-! the lane at a moment -/
/-- calls, or none -/
structure CallsZ (ns : List Int) : Prop where
  cars : ∀ n ∈ ns, Car n
  most : ns.length ≤ 200
theorem CallsN.z {cs : List Int} (h : CallsN cs) : CallsZ cs := ⟨h.cars, h.most⟩
theorem CallsN.zt {cs : List Int} (h : CallsN cs) (i : Nat) : CallsZ (cs.take i) := ⟨fun n hn => h.cars n (List.mem_of_mem_take hn), Nat.le_trans (by rw [List.length_take]; omega) h.most⟩
theorem end_lenZ {cs : List Int} {x : Ck} (h : CallsZ cs) (hx : IsCase cs x) : LaneN (endN cs x) := by
  unfold endN
  refine play_lane ?_ h.cars
  cases x with
  | none => exact ⟨fun _ z => (nomatch z), List.nodup_nil⟩
  | some c => exact ⟨fun n z => by rw [List.mem_singleton.mp z]; exact h.cars c (hx c rfl), List.nodup_cons.mpr ⟨List.not_mem_nil, List.nodup_nil⟩⟩
def c_parts_ofZ : Cn := fun ds S k _ => ∃ ns cs, ds = [tupI ns, tupI cs] ∧ LaneN ns ∧ CallsZ cs ∧ k (.tup [tupI (fixN ns cs), ckD (caseN ns cs)]) S
def c_cars_leftZ : Cn := fun ds S k _ => ∃ (cs : List Int) (a : Nat), ds = [tupI cs, .int (a : Nat)] ∧ CallsZ cs ∧ a ≤ cs.length ∧ k (tupI (playN [] (cs.drop a))) S
def c_end_ofZ : Cn := fun ds S k _ => ∃ x cs, ds = [ckD x, tupI cs] ∧ CallsZ cs ∧ IsCase cs x ∧ k (tupI (endN cs x)) S
def c_playZ : Cn := fun ds S k _ => ∃ ns cs, ds = [tupI ns, tupI cs] ∧ LaneN ns ∧ CallsZ cs ∧ k (tupI (playN ns cs)) S
def c_lane_after36 : Cn := fun ds S k _ => ∃ ns cs n, ds = [tupI ns, tupI cs, .int n] ∧ LaneN ns ∧ CallsN cs ∧ 0 ≤ n ∧ n ≤ 10 ^ 36 ∧ k (tupI (daysN cs n.toNat ns)) S
/-- the lane at moment t -/
def momN (cs ns : List Int) (t : Nat) : List Int := playN (daysN cs (t / cs.length) ns) (cs.take (t % cs.length))
/-- call by call -/
def seqN (cs ns : List Int) : Nat → List Int
  | 0 => ns
  | t + 1 => stepN (seqN cs ns t) (cs.getD (t % cs.length) 0)
theorem seq_in {cs ns : List Int} (pos : 1 ≤ cs.length) (q : Nat) (h : seqN cs ns (q * cs.length) = daysN cs q ns) : ∀ r, r ≤ cs.length → seqN cs ns (q * cs.length + r) = playN (daysN cs q ns) (cs.take r)
  | 0, _ => by rw [Nat.add_zero, h, List.take_zero]; rfl
  | r + 1, hr => by
    have ih := seq_in pos q h r (by omega)
    show stepN (seqN cs ns (q * cs.length + r)) (cs.getD ((q * cs.length + r) % cs.length) 0) = _
    have e : (q * cs.length + r) % cs.length = r := by
      rw [Nat.add_comm, Nat.add_mul_mod_self_right]
      exact Nat.mod_eq_of_lt (by omega)
    have hl : r < cs.length := by omega
    rw [ih, e, List.getD, List.getElem?_eq_getElem hl, Option.getD_some, play_take hl]
theorem seq_days {cs ns : List Int} (pos : 1 ≤ cs.length) : ∀ q, seqN cs ns (q * cs.length) = daysN cs q ns
  | 0 => by rw [Nat.zero_mul]; rfl
  | q + 1 => by
    have := seq_in (ns := ns) pos q (seq_days pos q) cs.length (Nat.le_refl _)
    rw [Nat.succ_mul, this, List.take_length, days_succ]
theorem seq_mom {cs ns : List Int} (pos : 1 ≤ cs.length) (t : Nat) : seqN cs ns t = momN cs ns t := by
  have := seq_in (ns := ns) pos (t / cs.length) (seq_days pos _) (t % cs.length) (Nat.le_of_lt (Nat.mod_lt _ pos))
  have e : t / cs.length * cs.length + t % cs.length = t := by
    have := Nat.mod_add_div t cs.length
    rw [Nat.mul_comm] at this; omega
  rw [e] at this
  exact this
theorem seq_lane {cs ns : List Int} (h : CallsN cs) (hn : LaneN ns) (t : Nat) : LaneN (seqN cs ns t) := by
  rw [seq_mom h.pos]
  exact play_lane (days_lane h _ hn) fun c hc => h.cars c (List.mem_of_mem_take hc)
theorem mom_lane {cs ns : List Int} (h : CallsN cs) (hn : LaneN ns) (t : Nat) : LaneN (momN cs ns t) := by
  rw [← seq_mom h.pos]; exact seq_lane h hn t
def c_lane_at : Cn := fun ds S k _ => ∃ ns cs m, ds = [tupI ns, tupI cs, .int m] ∧ LaneN ns ∧ CallsN cs ∧ 0 ≤ m ∧ m ≤ 10 ^ 36 ∧ k (tupI (momN cs ns m.toNat)) S
def c_law_front : Cn := fun ds S k _ => ∃ ns cs, ds = [tupI ns, tupI cs] ∧ LaneN ns ∧ CallsN cs ∧ k (.int ((fixN ns cs).length : Nat)) S
/-- the lanes of the moments before n -/
def seqL (cs ns : List Int) (n : Nat) : List (List Int) := (List.range n).map (seqN cs ns)
theorem seqL_succ (cs ns : List Int) (n : Nat) : seqL cs ns (n + 1) = seqL cs ns n ++ [seqN cs ns n] := by
  unfold seqL
  rw [List.range_succ, List.map_append]; rfl
theorem seqL_len (cs ns : List Int) (n : Nat) : (seqL cs ns n).length = n := by simp [seqL]
theorem seqL_get {cs ns : List Int} {n t : Nat} (h : t < n) : (seqL cs ns n)[t]? = some (seqN cs ns t) := by simp [seqL, h]
/-- the moments at which it is as short as f -/
def clrL (cs ns : List Int) (f n : Nat) : List Int := ((List.range n).filter fun t => decide ((seqN cs ns t).length = f)).map fun t => ((t : Nat) : Int)
def c_law_seen : Cn := fun ds S k _ => ∃ (ns cs : List Int) (n : Nat), ds = [tupI ns, tupI cs, .int (n : Nat)] ∧ LaneN ns ∧ CallsN cs ∧ n ≤ 1000 ∧
  ∀ p1 p2 p3 S', Sub S S' → S p1 = none → S p2 = none → S p3 = none → p3 ≠ p1 → p3 ≠ p2 → S' p3 = some (.lst [.ref p1, .ref p2]) → S' p1 = some (.lst ((seqL cs ns (n + 2)).map tupI)) → S' p2 = some (.lst ((clrL cs ns (fixN ns cs).length (n + 1)).map D.int)) → k (.ref p3) S'
def c_law_ends : Cn := fun ds S k _ => ∃ cs, ds = [tupI cs] ∧ CallsN cs ∧ ∀ L S', Cars cs L → Sub S S' → k (.dic (keysN L) ((keysN L).map fun x => tupI (endN cs x))) S'
def c_law_far : Cn := fun ds S k _ => ∃ ns cs n L, ds = [tupI ns, tupI cs, .int n, .dic (keysN L) ((keysN L).map fun x => tupI (endN cs x))] ∧ LaneN ns ∧ CallsN cs ∧ Cars cs L ∧ 0 ≤ n ∧ n ≤ 10 ^ 36 ∧ ∀ S', Sub S S' → k (tupI (daysN cs n.toNat ns)) S'
def c_law_laneS : Cn := fun ds S k _ => ∃ a b N cs, ds = [.ref a, tupI cs] ∧ S a = some (.lst b) ∧ ShedV N b ∧ N ≤ 10 ^ 9 ∧ CallsN cs ∧ ∀ b' ls S', ShedV (N + 1000) b' → Ex a S b' S' → LaneN ls → k (tupI ls) S'
def c_law_right15 : Cn := fun ds S k _ => ∃ a b N ls cs, ds = [.ref a, tupI ls, tupI cs] ∧ S a = some (.lst b) ∧ ShedV N b ∧ N ≤ 10 ^ 9 ∧ LaneN ls ∧ CallsN cs ∧ ∀ b' S', ShedV (N + 100) b' → Ex a S b' S' → k (.bl true) S'
theorem ixDk_ends {cs L : List Int} {x : Ck} {S : Sto} {k : RK} (hL : Cars cs L) (hx : IsCase cs x) (q : k (tupI (endN cs x)) S) : ixDk (.dic (keysN L) ((keysN L).map fun x => tupI (endN cs x))) (ckD x) S k := ⟨_, _, x, _, rfl, rfl, dic_map (f := fun x => tupI (endN cs x)) ((mem_keys hL).mpr hx), q⟩
theorem eqv_ltups : ∀ a b : List (List Int), PyData.eqvAll (a.map tupP) (b.map tupP) = decide (a = b)
  | [], [] => by simp [PyData.eqvAll]
  | [], y :: b => by simp [PyData.eqvAll]
  | x :: a, [] => by simp [PyData.eqvAll]
  | x :: a, y :: b => by
    rw [List.map_cons, List.map_cons, PyData.eqvAll, eqv_tups, eqv_ltups a b, ← Bool.decide_and]
    exact decide_eq_decide.mpr (by rw [List.cons.injEq])
theorem eq_ltups {neg : Bool} {p q : Addr} {a b : List (List Int)} {S : Sto} {k : RK} (h : S p = some (.lst (a.map tupI))) (g : S q = some (.lst (b.map tupI))) (z : k (.bl (neg ^^ decide (a = b))) S) : eqD neg (.ref p) (.ref q) S k := by
  show eqG neg (.ref p) (.ref q) S k
  refine ⟨_, _, .lst h (pyl_tups _), .lst g (pyl_tups _), shaped_ts _, shaped_ts _, ?_⟩
  rw [PyData.eqv, eqv_ltups]
  exact z
theorem noDict_tups : ∀ a : List (List Int), PyData.hasDictAll (a.map tupP) = false
  | [] => rfl
  | x :: a => by
    have e : PyData.hasDict (tupP x) = PyData.hasDictAll (x.map PyData.int) := rfl
    simp only [List.map_cons, PyData.hasDictAll, e, noDict_ints, noDict_tups a, Bool.or_self]
theorem sh_ltups {S : Sto} {p : Addr} {a : List (List Int)} (h : S p = some (.lst (a.map tupI))) : ShP S (.ref p) (.list (a.map tupP)) := .inl ⟨.lst h (pyl_tups a), noDict_tups a⟩
theorem fit_ltups {a : List (List Int)} (h : ∀ x ∈ a, x.length ≤ 401 ∧ ∀ i ∈ x, Sm i) (l : a.length ≤ 10) : (PyData.list (a.map tupP)).showable = true ∧ (PyData.list (a.map tupP)).depth ≤ 30 ∧ (PyData.list (a.map tupP)).shown.length ≤ sizeLine := by
  have r1 : ∀ p ∈ a.map tupP, RepOk 1 (401 * 71) p := fun p hp => by
    obtain ⟨x, hx, rfl⟩ := List.mem_map.mp hp
    obtain ⟨h1, h2⟩ := h x hx
    exact (rep_tup (rep_ints h2)).mono (by omega) (by rw [List.length_map]; omega)
  exact ((rep_lst r1).mono (e := 30) (V := 600000) (by omega) (by rw [List.length_map]; omega)).fits (by omega)
theorem mixed_at {a c : Addr} {S0 S : Sto} {b : List D} {N : Nat} {ns : List Int} {k : RK} {ek : XKd} (hx : Ex a S0 b S) (hb : ShedV N b) (hN : N ≤ 10 ^ 20) (hc : S c = some (.lst (ns.map D.int))) (hca : c ≠ a) (hl : ns.length ≤ 1000)
    (q : ∀ b' ms p S', ShedV (N + ns.length) b' → ns.Perm ms → Ex a S0 b' S' → (∀ z o, z ≠ a → S z = some o → S' z = some o) → S p = none → p ≠ a → S' p = some (.lst (ms.map D.int)) → k (.ref p) S') : c_law_mixed [.ref a, .ref c] S k ek := by
  refine ⟨a, c, b, N, ns, rfl, hca.symm, hx.bag, hb, hN, hc, hl, fun b' ms p hb' pm hp => ?_⟩
  have hpa := hx.ne hp
  have hp' : (S.upd a (.lst b')) p = none := by rw [Sto.upd_ne hpa]; exact hp
  refine q b' ms p _ hb' pm ((hx.upd).new hp') (fun z o n e => ?_) hp hpa Sto.upd_same
  exact old_new hp' (by rw [Sto.upd_ne n]; exact e)
theorem cut_at {p : Addr} {i : Int} {ns : List Int} {S : Sto} {k : RK} (h : S p = some (.lst (ns.map D.int))) (hi : 0 ≤ i) (q : ∀ p', S p' = none → k (.ref p') (S.upd p' (.lst ((ns.take i.toNat).map D.int)))) : slD (.ref p) none (some i) S k :=
  sl_ref h fun p' hp' => by
    rw [cut_toI hi, ← List.map_take]
    exact q p' hp'
theorem ifE_z {t : RTt} {x y : Int} {env : DEnv} {S : Sto} {k : RK} {c : Bool} (ht : ∀ K : TK, K c S → t env S K) (h : ∀ z, z = x ∨ z = y → k (.int z) S) : rIfE t (rC (.int x)) (rC (.int y)) env S k := by
  unfold rIfE
  refine ht _ ?_
  split
  · exact h x (.inl rfl)
  · exact h y (.inr rfl)
end DL
namespace DL
open PySem PySem.Spec PyProof.Rows L2
section
variable {X : Cx} {K : PySem.W.Frag} {H H' : Hp} {S : Sto}
/-! a list so often -/
def mulLD : F2 := fun x y S k => ∃ l j xs, x = .ref l ∧ y = .int j ∧ S l = some (.lst xs) ∧ -(2 ^ 63) ≤ j ∧ j < 2 ^ 63 ∧ xs.length * j.toNat ≤ sizeLine ∧ ∀ p, S p = none → k (.ref p) (S.upd p (.lst (List.replicate j.toNat xs).flatten))
theorem opMulL : Op2 X (binaryOp .Mult) mulLD := by
  refine ⟨_, op_rep, fun x y S k v u H Q ⟨l, j, xs, ex, ey, e, h1, h2, h3, q⟩ rx ry hS c => ?_⟩
  subst ex ey
  obtain rfl := rx.ref_
  obtain rfl := ry.int_
  obtain ⟨vs, e1, r⟩ := hS.lst e
  exact ⟨l, j, vs, rfl, rfl, e1, h1, h2, by rw [← r.length]; exact h3, cl_new c hS (r.rep _) q⟩
/-! a list as a test -/
def rTrL (r : RT) : RTt := fun env S k => r env S fun d S' => ∃ l xs, d = .ref l ∧ S' l = some (.lst xs) ∧ k (!xs.isEmpty) S'
theorem tr_lst {e : Expr} {r : RT} (h : RE X e r) (he : ∀ whole, isTrue e X.env whole = (do let v ← whole; standAt e.pos; holding [v] (truthy v)) := by intro _; rfl) : TR X e (rTrL r) := by
  refine PT.imp (pt_truth h he) fun σ H Q ⟨env, S, k, hE, hS, q, c⟩ => ⟨env, S, _, hE, hS, q, fun d S' v H' ⟨l, xs, ed, e, q⟩ st r a => ?_⟩
  subst ed
  obtain rfl := r.ref_
  obtain ⟨vs, h1, h2⟩ := a.lst e
  have ee : xs.isEmpty = vs.isEmpty := by
    have := h2.length
    cases xs with
    | nil => cases vs with
      | nil => rfl
      | cons _ _ => simp at this
    | cons _ _ => cases vs with
      | nil => simp at this
      | cons _ _ => rfl
  refine ⟨!vs.isEmpty, .inl ⟨vs, SqL.of h1, rfl⟩, ?_⟩
  rw [← ee]
  exact c _ _ _ q st a
end
end DL
namespace DL
open PySem PySem.Spec PyProof.Rows L2
/-! ### clear moments -/
theorem NextN.prev {cs : List Int} {t u j : Nat} (a : NextN cs t j) (b : NextN cs u j) : t = u := by
  rcases Nat.lt_trichotomy t u with h | h | h
  · exact absurd (b.hit.symm.trans a.hit) (a.no u h b.lt)
  · exact h
  · exact absurd (a.hit.symm.trans b.hit) (b.no t h a.lt)
noncomputable def gapN (cs : List Int) (t : Nat) : Nat := if h : 1 ≤ cs.length then Classical.choose (next_ex (cs := cs) t h) - t else 1
section
variable {cs : List Int}
theorem gap_spec (pos : 1 ≤ cs.length) (t : Nat) : NextN cs t (t + gapN cs t) := by
  have h := Classical.choose_spec (next_ex (cs := cs) t pos)
  unfold gapN
  rw [dif_pos pos]
  have := h.lt
  have e : t + (Classical.choose (next_ex (cs := cs) t pos) - t) = Classical.choose (next_ex (cs := cs) t pos) := by omega
  rw [e]; exact h
theorem gap_is (pos : 1 ≤ cs.length) {t j : Nat} (h : NextN cs t j) : t + gapN cs t = j := (gap_spec pos t).uniq h
theorem gap_pos (pos : 1 ≤ cs.length) (t : Nat) : 1 ≤ gapN cs t := by
  have := (gap_spec pos t).lt
  omega
theorem gap_le (pos : 1 ≤ cs.length) (t : Nat) : gapN cs t ≤ cs.length := by
  have := (gap_spec pos t).le pos
  omega
theorem gap_shift (pos : 1 ≤ cs.length) (t q : Nat) : gapN cs (t + q * cs.length) = gapN cs t := by
  have := gap_is pos ((gap_spec pos t).shift q)
  omega
theorem split_mod (t n : Nat) : t % n + t / n * n = t := by
  have := Nat.mod_add_div t n
  rw [Nat.mul_comm] at this; exact this
theorem gap_mod (pos : 1 ≤ cs.length) (t : Nat) : gapN cs (t % cs.length) = gapN cs t := by
  have := gap_shift pos (t % cs.length) (t / cs.length)
  rw [split_mod] at this
  exact this.symm
/-- the clear moments from the clear moment f on -/
noncomputable def clN (cs : List Int) (f : Nat) : Nat → Nat
  | 0 => f
  | i + 1 => clN cs f i + gapN cs (clN cs f i) + 1
theorem cl_succ {f i : Nat} : clN cs f (i + 1) = clN cs f i + gapN cs (clN cs f i) + 1 := rfl
theorem cl_two (pos : 1 ≤ cs.length) {f i : Nat} : clN cs f i + 2 ≤ clN cs f (i + 1) := by
  have := gap_pos pos (clN cs f i)
  rw [cl_succ]; omega
theorem cl_lt (pos : 1 ≤ cs.length) {f i j : Nat} (h : i < j) : clN cs f i < clN cs f j := by
  induction j with
  | zero => omega
  | succ j ih =>
    have := cl_two pos (f := f) (i := j)
    rcases Nat.lt_or_ge i j with g | g
    · have := ih g; omega
    · have : i = j := by omega
      subst this; omega
theorem cl_mono (pos : 1 ≤ cs.length) {f i j : Nat} (h : i ≤ j) : clN cs f i ≤ clN cs f j := by
  rcases Nat.lt_or_ge i j with g | g
  · exact Nat.le_of_lt (cl_lt pos g)
  · have : i = j := by omega
    subst this; exact Nat.le_refl _
theorem cl_inj (pos : 1 ≤ cs.length) {f i j : Nat} (h : clN cs f i = clN cs f j) : i = j := by
  rcases Nat.lt_trichotomy i j with g | g | g
  · have := cl_lt pos (f := f) g; omega
  · exact g
  · have := cl_lt pos (f := f) g; omega
theorem cl_le (pos : 1 ≤ cs.length) (f : Nat) : ∀ i, clN cs f i ≤ f + i * (cs.length + 1)
  | 0 => by show f ≤ _; omega
  | i + 1 => by
    have := cl_le pos f i
    have := gap_le pos (clN cs f i)
    rw [cl_succ, Nat.succ_mul]; omega
theorem cl_add (f i : Nat) : ∀ j, clN cs f (i + j) = clN cs (clN cs f i) j
  | 0 => rfl
  | j + 1 => by
    show clN cs f (i + j + 1) = _
    rw [cl_succ, cl_succ, cl_add f i j]
theorem cl_shift (pos : 1 ≤ cs.length) (f q : Nat) : ∀ i, clN cs (f + q * cs.length) i = clN cs f i + q * cs.length
  | 0 => rfl
  | i + 1 => by
    rw [cl_succ, cl_succ, cl_shift pos f q i, gap_shift pos]; omega
theorem mod_split {a b n : Nat} (h : a % n = b % n) (l : a ≤ b) : ∃ q, b = a + q * n := by
  refine ⟨b / n - a / n, ?_⟩
  have e1 := split_mod a n
  have e2 := split_mod b n
  have d : a / n ≤ b / n := Nat.div_le_div_right l
  rw [Nat.sub_mul]
  have m : a / n * n ≤ b / n * n := Nat.mul_le_mul_right n d
  omega
theorem split_eq {a n q : Nat} : (a + q * n) % n = a % n := Nat.add_mul_mod_self_right ..
/-- a step back -/
theorem cl_back (pos : 1 ≤ cs.length) {t u : Nat} (h : (t + gapN cs t + 1) % cs.length = (u + gapN cs u + 1) % cs.length) : t % cs.length = u % cs.length := by
  have go : ∀ t u, (t + gapN cs t + 1) % cs.length = (u + gapN cs u + 1) % cs.length → t + gapN cs t ≤ u + gapN cs u → t % cs.length = u % cs.length := fun t u h l => by
    obtain ⟨q, e⟩ := mod_split h (by omega)
    have e' : u + gapN cs u = t + gapN cs t + q * cs.length := by omega
    have a := (gap_spec pos t).shift q
    have b := gap_spec pos u
    rw [e'] at b
    have := a.prev b
    rw [← this, split_eq]
  rcases Nat.le_total (t + gapN cs t) (u + gapN cs u) with l | l
  · exact go t u h l
  · exact (go u t h.symm l).symm
theorem cl_back_n (pos : 1 ≤ cs.length) {f g : Nat} : ∀ {i j : Nat} (k : Nat), clN cs f (i + k) % cs.length = clN cs g (j + k) % cs.length → clN cs f i % cs.length = clN cs g j % cs.length
  | i, j, 0, h => h
  | i, j, k + 1, h => by
    refine cl_back_n pos (i := i) (j := j) k (cl_back pos ?_)
    rw [← cl_succ, ← cl_succ]; exact h
/-- the clear moments of a round -/
structure RoundK (cs : List Int) (f k : Nat) : Prop where
  pos : 1 ≤ k
  le : k ≤ cs.length
  hit : clN cs f k % cs.length = f % cs.length
  no : ∀ i, 0 < i → i < k → clN cs f i % cs.length ≠ f % cs.length
theorem RoundK.uniq {f k l : Nat} (a : RoundK cs f k) (b : RoundK cs f l) : k = l := by
  rcases Nat.lt_trichotomy k l with g | g | g
  · exact absurd a.hit (b.no k (by have := a.pos; omega) g)
  · exact g
  · exact absurd b.hit (a.no l (by have := b.pos; omega) g)
theorem round_ex (pos : 1 ≤ cs.length) (f : Nat) : ∃ k, RoundK cs f k := by
  have some : ∃ k, 0 < k ∧ k ≤ cs.length ∧ clN cs f k % cs.length = f % cs.length := by
    by_cases nd : ((List.range (cs.length + 1)).map fun i => ((clN cs f i % cs.length : Nat) : Int)).Nodup
    · have := nd_le (M := (List.range cs.length).map fun i : Nat => (i : Int)) nd fun y hy => by
        obtain ⟨n, _, rfl⟩ := List.mem_map.mp hy
        exact List.mem_map.mpr ⟨_, List.mem_range.mpr (Nat.mod_lt _ pos), rfl⟩
      simp at this
      omega
    · rw [List.nodup_iff_pairwise_ne, List.pairwise_iff_getElem] at nd
      have ⟨i, j, hi, hj, hij, e⟩ : ∃ i j, i < cs.length + 1 ∧ j < cs.length + 1 ∧ i < j ∧ clN cs f i % cs.length = clN cs f j % cs.length := Classical.byContradiction fun no => nd fun i j hi hj hij e => by
        simp only [List.length_map, List.length_range] at hi hj
        simp only [List.getElem_map, List.getElem_range] at e
        exact no ⟨i, j, hi, hj, hij, by omega⟩
      refine ⟨j - i, by omega, by omega, ?_⟩
      have := cl_back_n pos (f := f) (g := f) (i := 0) (j := j - i) i (by
        rw [Nat.zero_add]
        have : j - i + i = j := by omega
        rw [this]; exact e)
      exact this.symm
  obtain ⟨k, k0, kl, ke⟩ := some
  obtain ⟨j, j1, ⟨j2, j3⟩, j4⟩ := least_of (P := fun j => 0 < j ∧ clN cs f j % cs.length = f % cs.length) k ⟨k0, ke⟩
  exact ⟨j, j2, by omega, j3, fun i h1 h2 e => j4 i h2 ⟨h1, e⟩⟩
/-- the places of a round are different -/
theorem RoundK.diff (pos : 1 ≤ cs.length) {f k : Nat} (h : RoundK cs f k) {i j : Nat} (hij : i < j) (hj : j < k) : clN cs f i % cs.length ≠ clN cs f j % cs.length := fun e => by
  have := cl_back_n pos (f := f) (g := f) (i := 0) (j := j - i) i (by
    rw [Nat.zero_add]
    have : j - i + i = j := by omega
    rw [this]; exact e)
  exact h.no (j - i) (by omega) (by omega) this.symm
/-- round and round -/
theorem RoundK.far (pos : 1 ≤ cs.length) {f k : Nat} (h : RoundK cs f k) (r : Nat) : ∀ q, clN cs f (q * k + r) = clN cs f r + q * (clN cs f k - f)
  | 0 => by simp
  | q + 1 => by
    have hk : f ≤ clN cs f k := cl_mono pos (Nat.zero_le k)
    obtain ⟨m, e⟩ := mod_split h.hit.symm hk
    have e1 : (q + 1) * k + r = k + (q * k + r) := by rw [Nat.succ_mul]; omega
    rw [e1, cl_add, e, cl_shift pos, h.far pos r q, Nat.succ_mul, e]
    omega
/-- so many are below a moment -/
def CntN (cs : List Int) (f m c : Nat) : Prop := (∀ i, i < c → clN cs f i < m) ∧ m ≤ clN cs f c
theorem CntN.uniq (pos : 1 ≤ cs.length) {f m c d : Nat} (a : CntN cs f m c) (b : CntN cs f m d) : c = d := by
  rcases Nat.lt_trichotomy c d with g | g | g
  · have := b.1 c g; have := a.2; omega
  · exact g
  · have := a.1 d g; have := b.2; omega
theorem cnt_at (pos : 1 ≤ cs.length) (f i : Nat) : CntN cs f (clN cs f i) i := ⟨fun j hj => cl_lt pos hj, Nat.le_refl _⟩
theorem cnt_next (pos : 1 ≤ cs.length) (f i : Nat) : CntN cs f (clN cs f i + 1) (i + 1) := ⟨fun j hj => by have := cl_mono pos (f := f) (show j ≤ i by omega); omega, by have := cl_two pos (f := f) (i := i); omega⟩
theorem filter_cut {p : Nat → Bool} {r : Nat} : ∀ m, r ≤ m → (∀ i, i < m → p i = decide (i < r)) → ((List.range m).filter p).length = r
  | 0, h, _ => by simp; omega
  | m + 1, h, g => by
    rw [List.range_succ, List.filter_append, List.length_append]
    have gm := g m (by omega)
    by_cases e : r = m + 1
    · have := filter_cut (p := p) (r := m) m (Nat.le_refl _) fun i hi => by rw [g i (by omega)]; exact decide_eq_decide.mpr (by omega)
      rw [this, List.filter_cons_of_pos (by rw [gm]; simp; omega)]
      simp; omega
    · have := filter_cut (p := p) (r := r) m (by omega) fun i hi => g i (by omega)
      rw [this, List.filter_cons_of_neg (by rw [gm]; simp; omega)]
      simp
/-- how many are below, by the rounds and by the rest -/
theorem RoundK.cnt (pos : 1 ≤ cs.length) {f k m : Nat} (h : RoundK cs f k) (hm : f < m) : ∃ r, r ≤ k ∧ (∀ i, clN cs f i - f < (m - f) % (clN cs f k - f) ↔ i < r) ∧ CntN cs f m ((m - f) / (clN cs f k - f) * k + r) := by
  have hk : f < clN cs f k := cl_lt pos (i := 0) (show 0 < k from h.pos)
  have sm := split_mod (m - f) (clN cs f k - f)
  have ml := Nat.mod_lt (m - f) (show 0 < clN cs f k - f by omega)
  revert sm ml
  generalize (m - f) / (clN cs f k - f) = q
  generalize (m - f) % (clN cs f k - f) = rest
  intro sm ml
  obtain ⟨r, r1, r2, r3⟩ := least_of (P := fun r => rest ≤ clN cs f r - f) k (by omega)
  have mono : ∀ i, f ≤ clN cs f i := fun i => cl_mono pos (Nat.zero_le i)
  have iff : ∀ i, clN cs f i - f < rest ↔ i < r := fun i => by
    constructor
    · intro hi
      rcases Nat.lt_or_ge i r with g | g
      · exact g
      · have := cl_mono pos (f := f) g
        omega
    · intro hi
      have := r3 i hi
      omega
  refine ⟨r, r1, iff, fun i hi => ?_, ?_⟩
  · rcases Nat.eq_zero_or_pos r with e | e
    · subst e
      have z : rest = 0 := by
        have nz : ¬ clN cs f 0 - f < rest := fun z => absurd ((iff 0).mp z) (Nat.lt_irrefl 0)
        have h0 : clN cs f 0 = f := rfl
        omega
      have := cl_lt pos (f := f) hi
      have fr := h.far pos 0 q
      rw [fr] at this
      have h0 : clN cs f 0 = f := rfl
      omega
    · have := cl_mono pos (f := f) (show i ≤ q * k + (r - 1) by omega)
      have fr := h.far pos (r - 1) q
      have := (iff (r - 1)).mpr (by omega)
      have := mono (r - 1)
      omega
  · have fr := h.far pos r q
    have := mono r
    omega
end
/-! ### the lane at clear moments -/
/-- the first clear moment -/
def fcN (cs ns : List Int) : Nat := match caseN ns cs with
  | none => 0
  | some c => cs.idxOf c + 1
theorem seq_next {cs ns : List Int} {t : Nat} {d : Int} (hd : cs[t % cs.length]? = some d) : seqN cs ns (t + 1) = stepN (seqN cs ns t) d := by
  show stepN _ (cs.getD (t % cs.length) 0) = _
  rw [List.getD, hd]; rfl
theorem fc_le {cs ns : List Int} : fcN cs ns ≤ cs.length := by
  unfold fcN
  have h := case_is (ns := ns) (cs := cs)
  cases e : caseN ns cs with
  | none => exact Nat.zero_le _
  | some c =>
    have := List.idxOf_lt_length_of_mem (h c e)
    show cs.idxOf c + 1 ≤ _
    omega
/-- until the first clear moment -/
theorem fc_spec {cs ns : List Int} (pos : 1 ≤ cs.length) : seqN cs ns (fcN cs ns) = fixN ns cs ∧ ∀ t, t < fcN cs ns → (seqN cs ns t).length ≠ (fixN ns cs).length := by
  have fr := fix_rest ns cs
  have fo : ∀ x ∈ cs, x ∉ fixN ns cs := fun x hx hm => fix_out hm hx
  have h := case_is (ns := ns) (cs := cs)
  cases e : caseN ns cs with
  | none =>
    have e1 : fcN cs ns = 0 := by unfold fcN; rw [e]
    have e2 : restN ns cs = [] := by
      unfold caseN at e
      exact List.head?_eq_none_iff.mp e
    rw [e1]
    rw [e2, List.append_nil] at fr
    exact ⟨fr.symm, fun t ht => absurd ht (Nat.not_lt_zero t)⟩
  | some c =>
    have e1 : fcN cs ns = cs.idxOf c + 1 := by unfold fcN; rw [e]
    have hc := h c e
    obtain ⟨r, er⟩ : ∃ r, restN ns cs = c :: r := by
      unfold caseN at e
      cases z : restN ns cs with
      | nil => rw [z] at e; cases e
      | cons y r => rw [z] at e; cases e; exact ⟨r, rfl⟩
    rw [er] at fr
    have il := List.idxOf_lt_length_of_mem hc
    have go : ∀ t, t ≤ cs.idxOf c → ∃ r', seqN cs ns t = fixN ns cs ++ c :: r' := by
      intro t
      induction t with
      | zero => intro _; exact ⟨r, fr.symm⟩
      | succ t ih =>
        intro ht
        obtain ⟨r', e'⟩ := ih (by omega)
        have tl : t < cs.length := by omega
        have hd : cs[t % cs.length]? = some cs[t] := by rw [Nat.mod_eq_of_lt tl]; exact List.getElem?_eq_getElem tl
        have ne : cs[t] ≠ c := fun z => by
          have lt : t < cs.idxOf c := by omega
          have := List.not_of_lt_findIdx (p := (· == c)) (xs := cs) (i := t) lt
          simp [z] at this
        rw [seq_next hd, e', step_front (fo _ (List.getElem_mem tl)), step_tail ne]
        exact ⟨_, rfl⟩
    rw [e1]
    refine ⟨?_, fun t ht => ?_⟩
    · obtain ⟨r', e'⟩ := go _ (Nat.le_refl _)
      have hd : cs[cs.idxOf c % cs.length]? = some c := by
        rw [Nat.mod_eq_of_lt il, List.getElem?_eq_getElem il, List.getElem_idxOf il]
      rw [seq_next hd, e', step_front (fo c hc), step_head, List.append_nil]
    · obtain ⟨r', e'⟩ := go t (by omega)
      rw [e', List.length_append, List.length_cons]
      omega
/-- from a clear moment to the next one -/
theorem next_spec {cs ns : List Int} (pos : 1 ≤ cs.length) {t : Nat} (h : seqN cs ns t = fixN ns cs) : seqN cs ns (t + gapN cs t + 1) = fixN ns cs ∧ ∀ u, t < u → u < t + gapN cs t + 1 → (seqN cs ns u).length ≠ (fixN ns cs).length := by
  have fo : ∀ x ∈ cs, x ∉ fixN ns cs := fun x hx hm => fix_out hm hx
  have hj := gap_spec pos t
  have ml := Nat.mod_lt t pos
  have hc : cs[t % cs.length]? = some cs[t % cs.length] := List.getElem?_eq_getElem ml
  have at_ : ∀ u, cs[u % cs.length]? = some (cs[u % cs.length]'(Nat.mod_lt u pos)) := fun u => List.getElem?_eq_getElem _
  have go : ∀ d, t + 1 + d ≤ t + gapN cs t → ∃ r, seqN cs ns (t + 1 + d) = fixN ns cs ++ cs[t % cs.length] :: r := by
    intro d
    induction d with
    | zero =>
      intro _
      rcases due_step hj hc fo (Nat.le_of_lt hj.lt) (.inl ⟨rfl, h⟩) hc with ⟨_, r, e⟩ | ⟨e, _⟩
      · exact ⟨r, by rw [Nat.add_zero, seq_next hc]; exact e⟩
      · have := hj.lt; omega
    | succ d ih =>
      intro hd
      obtain ⟨r, e⟩ := ih (by omega)
      rcases due_step hj hc fo (show t + 1 + d ≤ t + gapN cs t by omega) (.inr ⟨by omega, r, e⟩) (at_ (t + 1 + d)) with ⟨_, r', e'⟩ | ⟨e', _⟩
      · exact ⟨r', by show seqN cs ns (t + 1 + d + 1) = _; rw [seq_next (at_ _)]; exact e'⟩
      · omega
  refine ⟨?_, fun u h1 h2 => ?_⟩
  · have gp := gap_pos pos t
    obtain ⟨r, e⟩ := go (gapN cs t - 1) (by omega)
    have eu : t + 1 + (gapN cs t - 1) = t + gapN cs t := by omega
    rw [eu] at e
    rcases due_step hj hc fo (Nat.le_refl _) (.inr ⟨by omega, r, e⟩) (at_ (t + gapN cs t)) with ⟨l, _⟩ | ⟨_, e'⟩
    · omega
    · rw [seq_next (at_ _)]; exact e'
  · obtain ⟨r, e⟩ := go (u - t - 1) (by omega)
    have eu : t + 1 + (u - t - 1) = u := by omega
    rw [eu] at e
    rw [e, List.length_append, List.length_cons]
    omega
theorem cl_clear {cs ns : List Int} (pos : 1 ≤ cs.length) : ∀ i, seqN cs ns (clN cs (fcN cs ns) i) = fixN ns cs
  | 0 => (fc_spec pos).1
  | i + 1 => (next_spec pos (cl_clear pos i)).1
/-- not clear before the i-th, and behind those ahead of it -/
theorem cl_between {cs ns : List Int} (pos : 1 ≤ cs.length) {i u : Nat} (h : ∀ j, j < i → clN cs (fcN cs ns) j < u) (hu : u < clN cs (fcN cs ns) i) : (seqN cs ns u).length ≠ (fixN ns cs).length := by
  cases i with
  | zero => exact (fc_spec pos).2 u hu
  | succ i => exact (next_spec pos (cl_clear pos i)).2 u (h i (by omega)) hu
/-! ### contracts -/
noncomputable def gapsN (cs : List Int) : List Int := (List.range cs.length).map fun t => ((gapN cs t : Nat) : Int)
noncomputable def timesN (cs : List Int) (f k : Nat) : List Int := (List.range (k + 1)).map fun i => ((clN cs f i - f : Nat) : Int)
noncomputable def clearsN (cs : List Int) (f k : Nat) : List Int := (List.range (k + 1)).map fun i => ((clN cs f i : Nat) : Int)
def c_gaps_in_order : Cn := fun ds S k _ => ∃ cs, ds = [tupI cs] ∧ CallsN cs ∧ ∀ p S', Sub S S' → S p = none → S' p = some (.lst ((gapsN cs).map D.int)) → k (.ref p) S'
def c_first_clear : Cn := fun ds S k _ => ∃ ns cs, ds = [tupI ns, tupI cs] ∧ LaneN ns ∧ CallsN cs ∧ k (.int (fcN cs ns : Nat)) S
def c_round_from : Cn := fun ds S kk _ => ∃ (cs : List Int) (f : Nat), ds = [tupI cs, .int (f : Nat)] ∧ CallsN cs ∧ f ≤ 10 ^ 36 ∧ ∀ k p S', RoundK cs f k → Sub S S' → S p = none → S' p = some (.lst ((timesN cs f k).map D.int)) → kk (.ref p) S'
def c_check_index : Cn := fun ds S k _ => ∃ m : Int, ds = [.int m] ∧ 0 ≤ m ∧ m ≤ 10 ^ 30 ∧ k .non S
def c_nth_clear : Cn := fun ds S k _ => ∃ (ns cs : List Int) (i : Nat), ds = [tupI ns, tupI cs, .int (i : Nat)] ∧ LaneN ns ∧ CallsN cs ∧ i ≤ 10 ^ 30 ∧ ∀ S', Sub S S' → k (.int (clN cs (fcN cs ns) i : Nat)) S'
def c_count_clear : Cn := fun ds S k _ => ∃ (ns cs : List Int) (m : Nat), ds = [tupI ns, tupI cs, .int (m : Nat)] ∧ LaneN ns ∧ CallsN cs ∧ m ≤ 10 ^ 36 ∧ ∀ c S', CntN cs (fcN cs ns) m c → Sub S S' → k (.int (c : Nat)) S'
def c_law_round : Cn := fun ds S kk _ => ∃ ns cs, ds = [tupI ns, tupI cs] ∧ LaneN ns ∧ CallsN cs ∧ ∀ k p S', RoundK cs (fcN cs ns) k → Sub S S' → S p = none → S' p = some (.lst ((clearsN cs (fcN cs ns) k).map D.int)) → kk (.ref p) S'
def c_law_nth : Cn := fun ds S kk _ => ∃ (cs : List Int) (f k i : Nat) (p : Addr), ds = [.ref p, .int (i : Nat)] ∧ CallsN cs ∧ RoundK cs f k ∧ S p = some (.lst ((clearsN cs f k).map D.int)) ∧ kk (.int (clN cs f i : Nat)) S
def c_law_below : Cn := fun ds S kk _ => ∃ (cs : List Int) (f k m : Nat) (p : Addr), ds = [.ref p, .int (m : Nat)] ∧ CallsN cs ∧ RoundK cs f k ∧ S p = some (.lst ((clearsN cs f k).map D.int)) ∧ ∀ c S', CntN cs f m c → Sub S S' → kk (.int (c : Nat)) S'
def c_law_right18 : Cn := c_law_right15
theorem idx_is {cs : List Int} {c : Int} : ∀ {j : Nat}, cs[j]? = some c → (∀ m, m < j → cs[m]? ≠ some c) → cs.idxOf c = j := by
  induction cs with
  | nil => intro j h; simp at h
  | cons x cs ih =>
    intro j h g
    cases j with
    | zero =>
      simp at h
      subst h
      simp
    | succ j =>
      have ne : x ≠ c := fun e => g 0 (by omega) (by simp [e])
      have := ih (j := j) (by simpa using h) fun m hm => by simpa using g (m + 1) (by omega)
      have nb : (x == c) = false := by simpa using ne
      rw [List.idxOf_cons, nb, this]
      rfl
theorem times_snoc {cs : List Int} {f k : Nat} : timesN cs f k = ((List.range k).map fun i => ((clN cs f i - f : Nat) : Int)) ++ [((clN cs f k - f : Nat) : Int)] := by
  unfold timesN
  rw [List.range_succ, List.map_append]; rfl
theorem clears_snoc {cs : List Int} {f k : Nat} : clearsN cs f k = ((List.range k).map fun i => ((clN cs f i : Nat) : Int)) ++ [((clN cs f k : Nat) : Int)] := by
  unfold clearsN
  rw [List.range_succ, List.map_append]; rfl
theorem sub_mod_zero {a f n : Nat} (l : f ≤ a) : (a - f) % n = 0 ↔ a % n = f % n := by
  constructor
  · intro h
    have e := split_mod (a - f) n
    rw [h] at e
    have : a = f + (a - f) / n * n := by omega
    rw [this, split_eq]
  · intro h
    obtain ⟨q, e⟩ := mod_split h.symm l
    have : a - f = q * n := by omega
    rw [this, Nat.mul_mod_left]
theorem while_gen {rt : RTt} {rb : RTs} {ed : DE} {env : DEnv} {S : Sto} (h : ∀ B : RTs, B = rb → rWhile rt B ed env S) : rWhile rt rb ed env S := h _ rfl
theorem bigs_all : ∀ {a : List Int}, (∀ x ∈ a, x.natAbs < 10 ^ 120) → PyData.showableAll (a.map PyData.int) = true ∧ PyData.depthAll (a.map PyData.int) = 0 ∧ PyData.leavesShortAll 121 (a.map PyData.int) = true ∧ PyData.weightAll (a.map PyData.int) ≤ a.length * 401
  | [], _ => ⟨rfl, rfl, rfl, Nat.le_refl _⟩
  | x :: a, h => by
    obtain ⟨g1, g2, g3, g4⟩ := bigs_all (a := a) fun y hy => h y (List.mem_cons_of_mem _ hy)
    have hx := h x (List.mem_cons_self ..)
    have lg : x.natAbs.log2 < 400 := by
      by_cases z : x.natAbs = 0
      · rw [z]; decide
      · exact (Nat.log2_lt z).mpr (Nat.lt_trans hx (by decide))
    have lv : (PyData.int x).leavesShort 121 = true := by
      simp only [PyData.leavesShort, decide_eq_true_eq]
      have e := int_text_length_le10 (k := 120) (by decide) hx
      show (Str.ofString (toString x)).length ≤ 121
      rw [PySem.ofString_length]; exact e
    have w : (PyData.int x).weight ≤ 400 := by
      unfold PyData.weight
      split <;> omega
    refine ⟨?_, ?_, ?_, ?_⟩
    · simp only [List.map_cons, PyData.showableAll, g1, Bool.and_true]
      exact (fit_big hx).1
    · simp only [List.map_cons, PyData.depthAll, g2]
      rfl
    · simp only [List.map_cons, PyData.leavesShortAll, lv, g3, Bool.and_self]
    · simp only [List.map_cons, PyData.weightAll, List.length_cons, Nat.add_mul]
      omega
theorem fit_bigs {a : List Int} (h : ∀ x ∈ a, x.natAbs < 10 ^ 120) (l : a.length ≤ 10) : (PyData.list (a.map PyData.int)).showable = true ∧ (PyData.list (a.map PyData.int)).depth ≤ 30 ∧ (PyData.list (a.map PyData.int)).shown.length ≤ sizeLine := by
  obtain ⟨g1, g2, g3, g4⟩ := bigs_all h
  have lv : (PyData.list (a.map PyData.int)).leavesShort 121 = true := by simpa only [PyData.leavesShort] using g3
  have wt : (PyData.list (a.map PyData.int)).weight ≤ 4010 := by
    simp only [PyData.weight]; omega
  refine ⟨by simpa only [PyData.showable] using g1, by simp only [PyData.depth, g2]; omega, ?_⟩
  have b := PyData.shown_le 121 (by decide) _ lv
  have c : (121 + 2) * (PyData.list (a.map PyData.int)).weight ≤ 123 * 4010 := Nat.mul_le_mul (by decide) wt
  rw [sizeLine_eq]
  omega
theorem sh_lints {S : Sto} {p : Addr} {a : List Int} (h : S p = some (.lst (a.map D.int))) : ShP S (.ref p) (.list (a.map PyData.int)) := .inl ⟨.lst h (pyl_ints a), noDict_ints a⟩
end DL
/-! sorted(range(n), key=lambda i: xs[i]), the lambda made there -/
namespace SKy
open PySem PySem.Spec PyProof.Rows L2
theorem ns_fun {h : Heap} {L : Addr} {m m' : Str → Option Value} (x : h.Ns L m) (y : h.Ns L m') : m = m' := by
  obtain ⟨o, es, ep, e, d, _, f⟩ := x
  obtain ⟨o', es', ep', e', d', _, f'⟩ := y
  rw [e] at e'
  cases e'
  rw [d] at d'
  cases d'
  funext z
  rw [← f z, ← f' z]
section
variable {prog : Program} {w : World} {A : Around} {E : Value → Shared → Prop} {s : Shared} {h₀ : Heap} {L r f : Addr} {m : Str → Option Value} {news : List (Addr × Obj)} {n : Nat} {t u v : Tok} {Q : Value → Shared → Prop}
theorem sorted_rng {kz : List Int} (F : Fr h₀ L s.heap m) (N : News h₀ L s.heap news) (hh : A.handled = none) (hr : IsRange s.heap r 0 n 1 t u v) (hn : n ≤ 2 ^ 24) (hk : kz.length = n)
    (turn : ∀ (i : Nat) (t0 : Tok) (k : Int), i < n → kz[i]? = some k → ∀ (h : Heap) (tk : Nat) (own : List (Addr × Obj)), Fr h₀ L h m → News h₀ L h (news ++ own) →
      wpAny (model prog w) A.in1.in1 (call (.ref f) [.int (i : Nat) t0]) (KskEnd h₀ L m (news ++ own) k { s with heap := h, toks := tk }) (fun _ _ => False) { s with heap := h, toks := tk })
    (fin : ∀ (D : Addr) (h' : Heap) (tk : Nat) (out : Array Value) (c : Nat) (vs : List Value), Fr h₀ L h' m → News h₀ L h' ((D, seqObj "list" out c) :: news) → (∀ q ∈ news, q.1 < D) → vs.length = n → (∀ (i : Nat) (x : Value), vs[i]? = some x → ∃ t0, x = .int (i : Nat) t0) →
      KskOut false kz vs out.toList → Q (.ref D) { s with heap := h', toks := tk }) :
    wpAny (model prog w) A (call (.builtin "sorted") [.ref r] [(Str.ofString "key", .ref f)]) Q E s := by
  have line := sizeLine_eq
  refine call_function_entry_kw kind_sorted plain_sorted entry_sorted (ksk_s1 _ _) ?_
  unfold Builtin.«sorted»
  refine wpAny_bind (m := checkCount "sorted" 1 1 _) (wpAny_pure ?_)
  refine wpAny_bind (L2.collect_range (n := n) hh hr (small_one (by decide) (by decide) (by omega) (by omega)) (by rw [rangeSize_nat]; simp) hn fun g tk acc kp hi => ?_)
  have al : acc.toList.length = n := by rw [Array.length_toList]; exact hi.1
  refine wpAny_bind (wpAny_newList ?_ (by rw [al, line]; omega))
  have at_ : (g.push (seqObj "list" acc.toList.toArray 0)).get? g.objs.size = some (seqObj "list" acc.toList.toArray 0) := Heap.get?_push_size _ rfl
  have F1 : Fr h₀ L g m := F.kept kp
  have N1 : News h₀ L g news := N.grown kp
  have Llt : L < g.objs.size := F1.ns.lt
  have nlt : ∀ q ∈ news, q.1 < g.objs.size := fun q hq => Heap.lt_size (N1 q hq).1
  have up : ∀ b o, g.get? b = some o → (g.push (seqObj "list" acc.toList.toArray 0)).get? b = some o := fun b o e => Heap.get?_push_of_some _ e
  show wpAny _ _ _ _ _ { s with heap := g.push (seqObj "list" acc.toList.toArray 0), toks := tk }
  refine wpAny_bind (wpAny_holding (wpAny_call_entry_kw slot_list_sort ⟨_, at_, rfl⟩ entry_list_sort ?body (ksk_l1 _ _)))
  case body =>
    show wpAny (model prog w) A.in1.in1 (Builtin.«list.sort» ⟨[.ref g.objs.size], [(Str.ofString "key", .ref f)]⟩) _ _ _
    rw [ksk_t1]
    refine ksk_sortAny (kz := kz) (s := { s with heap := g.push (seqObj "list" acc.toList.toArray 0), toks := tk }) (F1.kept up) (N1.grown up) at_ (Nat.ne_of_gt Llt) (Heap.get?_none_of_le (Nat.le_trans F.above (Nat.le_of_lt Llt))) (fun p hp => Nat.ne_of_lt (nlt p hp)) (by rw [hk, al]) (by rw [al, line]; omega)
      (fun i x k hx hkk h tk' own F' N' => ?_) fun h' tk' out c F' N' ko => ⟨_, rfl, wpAny_pure ⟨_, rfl, fin _ h' tk' out c acc.toList F' N' nlt al (fun i x hx => ?_) ko⟩⟩
    · have hi' : i < n := by rw [← al]; exact (List.getElem?_eq_some_iff.mp hx).1
      obtain ⟨t0, rfl⟩ := hi.2 i x (by rw [← hx, Array.getElem?_toList])
      have e : (0 : Int) + (i : Nat) * 1 = (i : Nat) := by omega
      rw [e]
      exact turn i t0 k hi' hkk h tk' own F' N'
    · obtain ⟨t0, rfl⟩ := hi.2 i x (by rw [← hx, Array.getElem?_toList])
      exact ⟨t0, by congr 1; omega⟩
end
section
variable {prog : Program} {w : World} {A : Around} {h₀ : Heap} {L f c' : Addr} {m : Str → Option Value} {news need : List (Addr × Obj)}
/-- the key: it looks into the list -/
theorem key_call {qual x y : Str} {params : Arguments} {scope : Scope} {cl : List (Str × Addr)} {pm ctv : Value} {p1 p2 p3 : Pos} {s : Shared} {v : Value} {k : Int} {tv tk' : Tok} {i : Nat} {la cy : Addr} {its : Array Value} (F : Fr h₀ L s.heap m) (N : News h₀ L s.heap need) (hroom : A.depth < recursionLimit)
    (hf : s.heap.get? f = some (PySem.W.kla_obj "<lambda>" qual params (.Subscript (.Name y p1) (.Name x p2) p3) scope cl pm c' ctv)) (hcd : s.heap.CodeRec (.ref c') qual) (hlim : s.heap.NoLimit)
    (hkind : scope.kind = .function) (hco : scope.isCoroutine = false) (hgen : scope.isGenerator = false) (hcell : ∀ z ∈ scope.names, z.2 ≠ .cell) (hx : scope.names.lookup x = some .local) (hy : scope.names.lookup y = some .free)
    (hb : bindArgs (PySem.W.kla_fn "<lambda>" qual params (.Subscript (.Name y p1) (.Name x p2) p3) scope cl pm (.ref c') ctv) ⟨[v], []⟩ = pure [(x, v)])
    (hcy : cl.lookup y = some cy) (hc : s.heap.IsCell cy (some (.ref la))) (hl : s.heap.IsList la its) (hv : v = .int (i : Nat) tv) (hi : i < 2 ^ 62) (hk : its[i]? = some (.int k tk'))
    (dx : (x == ("__debug__" : Str)) = false := by decide) (dy : (y == ("__debug__" : Str)) = false := by decide) (dz : (y == ("__classdict__" : Str)) = false := by decide) (hs : L2.PlainIx (.Name x p2)) :
    wpAny (model prog w) A (call (.ref f) [v]) (KskEnd h₀ L m need k s) (fun _ _ => False) s := by
  refine wpAny_call (PySem.W.kla_callFunE hroom hf rfl hco hgen rfl hcd ?_)
  rw [hb]
  refine wpAny_pure (wpAny_newFunctionEnv hcell (fun z hz => by cases List.mem_singleton.mp hz; exact hx) (fun h₁ hns hsb => ⟨hlim.fresh _ hsb, ?_⟩) hkind)
  show codeAny _ _ (.expr _ (PySem.W.envX qual scope s.heap.objs.size f (.ref c') cl)) _ _
  have kp : ∀ b o, s.heap.get? b = some o → h₁.get? b = some o := fun b o e => hsb.extBut b o (Nat.ne_of_lt (Heap.lt_size e)) (Heap.get?_push_of_some _ e)
  have hc1 : h₁.IsCell cy (some (.ref la)) := by
    obtain ⟨o, ho, hd⟩ := hc
    exact ⟨o, kp _ _ ho, hd⟩
  have hl1 : h₁.IsList la its := by
    obtain ⟨o, ho, hd⟩ := hl
    exact ⟨o, kp _ _ ho, hd⟩
  refine PySem.W.kla_codeExpr (Subscript_ ?_)
  refine wpAny_Name (wpAny_loadName_free (v := .ref la) hkind hy hcy hc1 ?_ dz) dy
  refine wpAny_Name (wpAny_loadName_local (v := v) hkind hx hns (by simp) ?_) dx
  subst hv
  refine item_listR hl1 (by omega) (by omega) (x := .int k tk') (by simpa using hk) ?_ (hs _ _)
  exact ⟨h₁, _, tk', rfl, rfl, F.kept kp, N.grown kp⟩
end
section
/-- the codes in the table are known, and bear the name q -/
def Good (H : Hp) (q : Str) (ps : Array Value) : Prop := TriplesOk ps.toList ∧ ∀ (pos : Pos) (cv : Value), codeAmong pos ps.toList = some cv → ∃ (c : Addr) (oc : Obj) (vs : Array Value) (t : Tok) (u : HO), cv = .ref c ∧ H c = some (.frz oc u) ∧ oc.data = .fields vs ∧ vs[1]? = some (.str q t)
theorem Good.mono {H H' : Hp} {q : Str} {ps : Array Value} (g : Good H q ps) (k : ∀ b o u, H b = some (.frz o u) → H' b = some (.frz o u)) : Good H' q ps := ⟨g.1, fun pos cv hc => by
  obtain ⟨c, oc, vs, t, u, e1, e2, e3⟩ := g.2 pos cv hc
  exact ⟨c, oc, vs, t, u, e1, k _ _ _ e2, e3⟩⟩
/-- an object that is only kept -/
def still : HO := .ext fun _ => True
theorem still_ok {P : Program} {w : World} {H : Hp} {h : Heap} {a : Addr} {o : Obj} (e : h.get? a = some o) : ObjOk P w H h a (.frz o still) := ⟨e, trivial, ⟨o, e⟩, fun _ _ _ _ => trivial⟩
variable {X : Cx} {pins : List (Addr × Obj)} {σ : L2.St} {H : Hp} {s : Shared}
/-- all but the table stay -/
def Grown (P : Addr) (q : Str) (H H' : Hp) : Prop := (∀ b o, H b = some o → b ≠ P → H' b = some o) ∧ ∃ ps, H' P = some (.tbl ps) ∧ Good H' q ps
/-- the lambda's value: f, made by the def whose code is c, its table P -/
def tLam (X : Cx) (P : Addr) (q : Str) (params : Arguments) (body : Expr) (scope : Scope) : TE := fun σ H Q => (∃ ps, H P = some (.tbl ps) ∧ Good H q ps) ∧
  ∀ (f c' : Addr) (pm ctv : Value) (oc : Obj) (vs : Array Value) (t : Tok) (u : HO) (H1 : Hp), Grown P q H H1 → H1 c' = some (.frz oc u) → oc.data = .fields vs → vs[1]? = some (.str q t) →
    H1 f = some (.frz (PySem.W.kla_obj "<lambda>" q params body scope (cloFrom X.env.cells scope.names []) pm c' ctv) still) → Q (.ref f) H1
theorem pe_lam {c P : Addr} {q : Str} {params : Arguments} {body : Expr} {scope : Scope} {pos : Pos} (TB : LamX.TabB X.base X.mg c P) (hcode : X.env.code = .ref c) (hq : X.env.qual ++ "<lambda>" = q) (hdef : defaultsOf params X.env = ([], []))
    (hfree : X.Ok → ∀ y ∈ scope.names, y.2 = .free → ∃ c, X.env.cells.lookup y.1 = some c) : PE X (.Lambda params body scope pos) (tLam X P q params body scope) := by
  constructor
  rintro pins s σ H Q I ⟨⟨ps, hP, hg⟩, k⟩
  refine PySem.W.kla_eval hdef ?_
  rw [hq]
  have bP : s.heap.BuiltinsAt X.mg P := TB.bm.keeps I.bk
  have hP' : s.heap.get? P = some { cls := .none, data := .fields ps } := I.hok P _ hP
  cases hc : codeAmong pos ps.toList with
  | none =>
    refine PySem.W.kla_makeFunction (mg := X.mg) (c := c) (P := P) (ps := ps) (closure_ok (hfree I.ok)) I.ok.glob (I.mod.glob.keeps I.bk) hcode (TB.code.keeps I.bk) hP' hg.1 hc TB.gP bP fun c' ctv h' tk hx hge hlt hrec htb => ?_
    obtain ⟨c2, oc, vs, t, e2, hoc, hd, hv⟩ := hrec
    cases e2
    have nC : H c' = none := I.hok.fresh hge
    have nPc : P ≠ c' := ne_of_none hP nC
    have I1 := LamX.inv_table (q := q) (t' := tk) (more := #[rawInt pos.line, rawInt pos.col, .ref c']) (h' := h') I hP (fun b o hb e => hx b o hb e) htb hge ⟨oc, vs, t, hoc, hd, hv⟩
    have I2 := I1.write (x := c') (e := c') (o := .frz oc still) (t' := tk) (h' := h') (by rw [upd_same]; trivial) (.inl rfl) (fun b u _ e => e) ⟨oc, hoc⟩ (still_ok hoc)
    have I3 := I2.laid (a := h'.objs.size) (o := .frz (PySem.W.kla_obj "<lambda>" q params body scope (cloFrom X.env.cells scope.names []) ((X.mg "__name__").getD .none) c' ctv) still) (t' := tk)
      (h' := h'.push (PySem.W.kla_obj "<lambda>" q params body scope (cloFrom X.env.cells scope.names []) ((X.mg "__name__").getD .none) c' ctv)) (fun b u e => Heap.get?_push_of_some _ e) (Nat.le_refl _) (still_ok (Heap.get?_push_size _ rfl))
    have nf : ∀ b o, H b = some o → b ≠ h'.objs.size := fun b o e z => by
      have l := I.hok.lt e
      rw [z] at l
      exact Nat.lt_irrefl _ (Nat.lt_trans (Nat.lt_of_lt_of_le l hge) hlt)
    have cf : c' ≠ h'.objs.size := Nat.ne_of_lt hlt
    have keep : ∀ b o, H b = some o → b ≠ P → upd (upd (upd (upd H P (.tbl (ps ++ #[rawInt pos.line, rawInt pos.col, .ref c']))) c' (LamX.CodeO c' q)) c' (.frz oc still)) h'.objs.size (.frz (PySem.W.kla_obj "<lambda>" q params body scope (cloFrom X.env.cells scope.names []) ((X.mg "__name__").getD .none) c' ctv) still) b = some o := fun b o e nb => by
      rw [upd_ne (nf b o e), upd_ne (ne_of_none e nC), upd_ne (ne_of_none e nC), upd_ne nb]
      exact e
    have atC : upd (upd (upd (upd H P (.tbl (ps ++ #[rawInt pos.line, rawInt pos.col, .ref c']))) c' (LamX.CodeO c' q)) c' (.frz oc still)) h'.objs.size (.frz (PySem.W.kla_obj "<lambda>" q params body scope (cloFrom X.env.cells scope.names []) ((X.mg "__name__").getD .none) c' ctv) still) c' = some (.frz oc still) := by
      rw [upd_ne cf, upd_same]
    refine ⟨.ref _, _, I3, rfl, k _ c' _ ctv oc vs t _ _ ⟨keep, _, by rw [upd_ne (nf P _ hP), upd_ne nPc, upd_ne nPc, upd_same], ?_, fun p' cv hcv => ?_⟩ atC hd hv upd_same⟩
    · have eL : (ps ++ #[rawInt pos.line, rawInt pos.col, .ref c']).toList = ps.toList ++ [rawInt pos.line, rawInt pos.col, .ref c'] := by simp
      rw [eL]
      exact PySem.TriplesOk_snoc _ _ _ _ hg.1
    · have eL : (ps ++ #[rawInt pos.line, rawInt pos.col, .ref c']).toList = ps.toList ++ [rawInt pos.line, rawInt pos.col, .ref c'] := by simp
      rw [eL] at hcv
      rcases LamX.among_app _ hg.1 hcv with z | z
      · obtain ⟨c0, oc0, vs0, t0, u0, e1, e2, e3⟩ := hg.2 p' cv z
        exact ⟨c0, oc0, vs0, t0, u0, e1, keep _ _ e2 (fun z => by rw [z, hP] at e2; cases e2), e3⟩
      · exact ⟨c', oc, vs, t, still, z, atC, hd, hv⟩
  | some cv =>
    obtain ⟨c', oc, vs, t, u, e, hco, hd, hv⟩ := hg.2 pos cv hc
    subst e
    obtain ⟨hoc, _⟩ := I.hok c' _ hco
    refine PySem.W.kla_makeFunctionHit (mg := X.mg) (c := c) (P := P) (ps := ps) (closure_ok (hfree I.ok)) I.ok.glob (I.mod.glob.keeps I.bk) hcode (TB.code.keeps I.bk) hP' hg.1 hc bP fun ctv h' tk hx hsz => ?_
    have I1 : Inv X pins σ H { s with heap := h', toks := tk } := I.kept fun b o e => hx b o e
    have I2 := I1.laid (a := h'.objs.size) (o := .frz (PySem.W.kla_obj "<lambda>" q params body scope (cloFrom X.env.cells scope.names []) ((X.mg "__name__").getD .none) c' ctv) still) (t' := tk)
      (h' := h'.push (PySem.W.kla_obj "<lambda>" q params body scope (cloFrom X.env.cells scope.names []) ((X.mg "__name__").getD .none) c' ctv)) (fun b u e => Heap.get?_push_of_some _ e) (Nat.le_refl _) (still_ok (Heap.get?_push_size _ rfl))
    have nf : H h'.objs.size = none := I1.hok.fresh (Nat.le_refl _)
    have keep : ∀ b o, H b = some o → upd H h'.objs.size (.frz (PySem.W.kla_obj "<lambda>" q params body scope (cloFrom X.env.cells scope.names []) ((X.mg "__name__").getD .none) c' ctv) still) b = some o := fun b o e => by
      rw [upd_ne (ne_of_none e nf)]; exact e
    exact ⟨.ref _, _, I2, rfl, k _ c' _ ctv oc vs t u _ ⟨fun b o e _ => keep b o e, ps, keep _ _ hP, hg.mono fun b o u e => keep _ _ e⟩ (keep _ _ hco) hd hv upd_same⟩
end
section
variable {X : Cx} {pins : List (Addr × Obj)} {σ : L2.St} {H : Hp} {s : Shared}
theorem cr_range1 : CallR X (.type "range") (fun vs H Q => ∃ n, vs = [V.int n] ∧ ∀ p, H p = none → Q (.ref p) (upd H p (.rng 0 n))) := by
  intro pins s σ H vs us Q I r h
  obtain ⟨n, rfl, q⟩ := h
  obtain ⟨u1, rfl, t, rfl⟩ := vals1 r
  refine call_range_1 ⟨.ref s.heap.objs.size, upd H s.heap.objs.size (.rng 0 n), I.laid (t' := s.toks + 1 + 1) (fun b o e => Heap.get?_push_of_some _ e) (Nat.le_refl _) ?_, rfl, q _ (I.hok.fresh (Nat.le_refl _))⟩
  exact ⟨_, t, _, Heap.get?_push_size _ rfl⟩
theorem obj_there {P : Program} {w : World} {H : Hp} {h : Heap} {a : Addr} {o : HO} (z : ObjOk P w H h a o) : ∃ u, h.get? a = some u := by
  cases o with
  | lst _ => obtain ⟨_, _, _, _, e⟩ := z; exact ⟨_, e⟩
  | tup _ => obtain ⟨_, _, _, _, e, _⟩ := z; exact ⟨_, e⟩
  | dK _ => obtain ⟨_, _, _, _, _, _, _, e, _⟩ := z; exact ⟨_, e⟩
  | dT _ => obtain ⟨_, _, _, _, _, _, _, e, _⟩ := z; exact ⟨_, e⟩
  | set _ _ => obtain ⟨_, _, _, _, e, _⟩ := z; exact ⟨_, e⟩
  | ins _ _ _ => obtain ⟨_, _, _, e, _⟩ := z; exact ⟨_, e⟩
  | own _ => obtain ⟨_, e⟩ := z; exact ⟨_, e⟩
  | xd _ => obtain ⟨_, ⟨_, _, _, e, _⟩, _⟩ := z; exact ⟨_, e⟩
  | rng _ _ => obtain ⟨_, _, _, e⟩ := z; exact ⟨_, e⟩
  | frz _ _ => obtain ⟨e, _⟩ := z; exact ⟨_, e⟩
  | tbl _ => exact ⟨_, z⟩
  | met _ _ => exact ⟨_, z⟩
  | ext _ => obtain ⟨_, ⟨_, e⟩, _⟩ := z; exact ⟨_, e⟩
def numV : Value → Int
  | .int i _ => i
  | _ => 0
theorem vals_num : ∀ {l : List Value}, (∀ x ∈ l, ∃ i t, x = Value.int i t) → Vals ((l.map numV).map V.int) l
  | [], _ => .nil
  | x :: l, h => by
    obtain ⟨i, t, rfl⟩ := h _ (List.mem_cons_self ..)
    exact .cons ⟨t, rfl⟩ (vals_num fun y hy => h y (List.mem_cons_of_mem _ hy))
/-- the call itself -/
theorem sort_go {r f c' la : Addr} {n : Nat} {ks : List Int} {q x y : Str} {j : Nat} {params : Arguments} {scope : Scope} {pm ctv : Value} {p1 p2 p3 : Pos} {oc : Obj} {cvs : Array Value} {ct : Tok} {u : HO} {Q : VK} (I : Inv X pins σ H s) (hcalm : X.calm = true) (hroom : X.A.depth < recursionLimit)
    (hr : H r = some (.rng 0 n)) (hl : H la = some (.lst (ks.map V.int))) (hk : ks.length = n) (hn : n ≤ 2 ^ 24) (hc : H c' = some (.frz oc u)) (hd : oc.data = .fields cvs) (hv : cvs[1]? = some (.str q ct))
    (hf : H f = some (.frz (PySem.W.kla_obj "<lambda>" q params (.Subscript (.Name y p1) (.Name x p2) p3) scope (cloFrom X.env.cells scope.names []) pm c' ctv) still))
    (hkind : scope.kind = .function) (hco : scope.isCoroutine = false) (hgen : scope.isGenerator = false) (hcell : ∀ z ∈ scope.names, z.2 ≠ .cell) (hx : scope.names.lookup x = some .local) (hy : scope.names.lookup y = some .free)
    (hfree : ∀ y ∈ scope.names, y.2 = .free → ∃ c, X.env.cells.lookup y.1 = some c)
    (hb : ∀ v, bindArgs (PySem.W.kla_fn "<lambda>" q params (.Subscript (.Name y p1) (.Name x p2) p3) scope (cloFrom X.env.cells scope.names []) pm (.ref c') ctv) ⟨[v], []⟩ = pure [(x, v)])
    (hN : X.N[j]? = some y) (hcel : X.env.kindOf y = some .cell) (hσ : σ[j]? = some (some (.ref la)))
    (dx : (x == ("__debug__" : Str)) = false) (dy : (y == ("__debug__" : Str)) = false) (dz : (y == ("__classdict__" : Str)) = false) (hs : L2.PlainIx (.Name x p2))
    (fin : ∀ (D : Addr) (ns : List Int), H D = none → ns.Perm ((List.range n).map fun i : Nat => (i : Int)) → ns.Pairwise (fun a b => ks.getD a.toNat 0 ≤ ks.getD b.toNat 0) → Q (.ref D) (upd H D (.lst (ns.map V.int)))) :
    wpAny (model X.prog X.w) X.A (call (.builtin "sorted") [.ref r] [(Str.ofString "key", .ref f)]) (EP X pins σ Q) X.xe s := by
  have line := sizeLine_eq
  obtain ⟨its, rv, pl, _⟩ := I.list (SqL.of hl)
  have ih := rv.ints
  obtain ⟨t1, t2, t3, hrg⟩ := I.hok r _ hr
  obtain ⟨hfo, _⟩ := I.hok f _ hf
  obtain ⟨hco', _⟩ := I.hok c' _ hc
  obtain ⟨m, hns, hloc⟩ := id I.loc
  obtain ⟨uy, ry, hlook⟩ := hloc j y _ hN hσ (.inr (.inl hcel))
  obtain rfl : uy = Value.ref la := ry
  obtain ⟨cy, hcy, hcc⟩ : ∃ c, X.env.cells.lookup y = some c ∧ s.heap.IsCell c (some (.ref la)) := by
    rcases hlook with ⟨z, _⟩ | ⟨_, z⟩
    · rw [hcel] at z; cases z
    · exact z
  have F : Fr X.base X.env.locals s.heap m := ⟨hns, I.bk, Nat.le_trans I.ok.bsz I.ok.above⟩
  have neL : ∀ b o, H b = some o → b ≠ X.env.locals := fun b o e z => by rw [z, I.free] at e; cases e
  have old : ∀ (h : Heap) (own : List (Addr × Obj)), Fr X.base X.env.locals h m → News X.base X.env.locals h own → (∀ p ∈ allNews X.base s.heap X.env.locals, p ∈ own) → ∀ b o, b ≠ X.env.locals → s.heap.get? b = some o → h.get? b = some o := fun h own F' N' sub b o nb e => by
    cases qb : X.base.get? b with
    | some v =>
      have := I.bk b v qb
      rw [e] at this; cases this
      exact F'.keep b _ qb
    | none => exact (N' _ (sub _ (mem_allNews nb qb e))).1
  refine SKy.sorted_rng (kz := ks) (n := n) F news_all (I.ok.hd hcalm) hrg hn hk (fun i t0 k hi hki h tk own F' N' => ?_) fun D h' tk out c vs F' N' hlt hlen hvs ko => ?_
  · have kp := old h _ F' N' fun p hp => List.mem_append_left _ hp
    have hits : ∃ tk', its.toArray[i]? = some (.int k tk') := by
      have e1 : (ks.map V.int)[i]? = some (.int k) := by rw [List.getElem?_map, hki]; rfl
      obtain ⟨w', e2, t', e3⟩ := rv.get e1
      exact ⟨t', by simp [e2, e3]⟩
    obtain ⟨tk', hit⟩ := hits
    refine key_call (c' := c') F' N' hroom (kp _ _ (neL _ _ hf) hfo) ⟨c', oc, cvs, ct, rfl, kp _ _ (neL _ _ hc) hco', hd, hv⟩ (I.ok.mod.nolimit.keeps F'.keep) hkind hco hgen hcell hx hy (hb _)
      (NdefX.clo_has hfree (PySem.mem_of_lookup hy) hcy) ?_ (la := la) (its := its.toArray) ?_ rfl (by omega) hit dx dy dz hs
    · obtain ⟨o, ho, hdd⟩ := hcc
      exact ⟨o, kp _ _ (I.cne _ _ hcy) ho, hdd⟩
    · obtain ⟨o, ho, hdd⟩ := pl.isList
      exact ⟨o, kp _ _ (neL _ _ hl) ho, hdd⟩
  · have kp := old h' _ F' N' fun p hp => List.mem_cons_of_mem _ hp
    have nD := N' _ (List.mem_cons_self ..)
    have ltD : ∀ b o, s.heap.get? b = some o → b ≠ D := fun b o e z => by
      subst z
      by_cases hb : b = X.env.locals
      · exact nD.2.1 hb
      · cases qb : X.base.get? b with
        | some v => rw [nD.2.2] at qb; cases qb
        | none => exact Nat.lt_irrefl _ (hlt _ (mem_allNews hb qb e))
    have fD : H D = none := by
      cases e : H D with
      | none => rfl
      | some v =>
        obtain ⟨u, hu⟩ := obj_there (I.hok D v e)
        exact absurd rfl (ltD D _ hu)
    obtain ⟨ps, kp1, kp2, kp3⟩ := ko
    have zl : (ks.zip vs).length = n := by rw [List.length_zip, hk, hlen, Nat.min_self]
    have zat : ∀ p ∈ ks.zip vs, ∃ (i : Nat) (t0 : Tok), i < n ∧ p.2 = .int (i : Nat) t0 ∧ p.1 = ks.getD i 0 := fun p hp => by
      obtain ⟨i, hi⟩ := List.mem_iff_getElem?.mp hp
      rw [List.getElem?_zip_eq_some] at hi
      obtain ⟨t0, e⟩ := hvs i _ hi.2
      exact ⟨i, t0, by rw [← hk]; exact (List.getElem?_eq_some_iff.mp hi.1).1, e, by rw [List.getD_eq_getElem?_getD, hi.1]; rfl⟩
    have zn : (ks.zip vs).map (fun p => numV p.2) = (List.range n).map fun i : Nat => (i : Int) := by
      refine List.ext_getElem? fun i => ?_
      rw [List.getElem?_map, List.getElem?_map]
      by_cases hi : i < n
      · obtain ⟨x0, hx0⟩ : ∃ x0, vs[i]? = some x0 := ⟨vs[i]'(by omega), List.getElem?_eq_getElem _⟩
        obtain ⟨k0, hk0⟩ : ∃ k0, ks[i]? = some k0 := ⟨ks[i]'(by omega), List.getElem?_eq_getElem _⟩
        obtain ⟨t0, e⟩ := hvs i _ hx0
        have ez : (ks.zip vs)[i]? = some (k0, x0) := List.getElem?_zip_eq_some.mpr ⟨hk0, hx0⟩
        rw [ez, List.getElem?_range hi, e]
        rfl
      · rw [List.getElem?_eq_none (by omega), List.getElem?_eq_none (by simp; omega)]
        rfl
    have pm : ∀ p ∈ ps, ∃ (i : Nat) (t0 : Tok), i < n ∧ p.2 = .int (i : Nat) t0 ∧ p.1 = ks.getD i 0 := fun p hp => zat p (kp1.mem_iff.mp hp)
    have outl : out.toList.length = n := by rw [kp2, List.length_map, kp1.length_eq, zl]
    have en : out.toList.map numV = ps.map fun p => numV p.2 := by rw [kp2, List.map_map]; rfl
    have vout : Vals ((out.toList.map numV).map V.int) out.toList := vals_num fun x hx => by
      rw [kp2] at hx
      obtain ⟨p, hp, rfl⟩ := List.mem_map.mp hx
      obtain ⟨i, t0, _, e, _⟩ := pm p hp
      exact ⟨_, t0, e⟩
    have perm : (out.toList.map numV).Perm ((List.range n).map fun i : Nat => (i : Int)) := by
      rw [en, ← zn]
      exact kp1.map _
    have pw : (out.toList.map numV).Pairwise fun a b => ks.getD a.toNat 0 ≤ ks.getD b.toNat 0 := by
      rw [en, List.pairwise_map]
      refine kp3.imp_of_mem fun {p p'} hp hp' h => ?_
      obtain ⟨i, t0, _, e, e'⟩ := pm p hp
      obtain ⟨i', t0', _, e2, e2'⟩ := pm p' hp'
      rw [e, e2]
      have h' : p.1 ≤ p'.1 := h
      rw [e', e2'] at h'
      exact h'
    have up : ∀ b o, H b = some o → upd H D (.lst ((out.toList.map numV).map V.int)) b = some o := fun b o e => by rw [upd_ne (ne_of_none e fD)]; exact e
    have I' : Inv X pins σ (upd H D (.lst ((out.toList.map numV).map V.int))) { s with heap := h', toks := tk } := by
      refine I.step (g' := s.gens) (d' := s.drawn) (ch := []) (fun b hb => absurd hb (by simp)) (fun b o nb _ _ e _ => kp b o nb e) (fun b o nb _ _ e _ => ⟨o.slots, kp b o nb e⟩) (fun b o _ e e2 => by rw [upd_ne (ltD b o e)]; exact e2) (fun b o _ e => ?_)
        (fun b xs e => up _ _ e) (fun b o u e => up _ _ e) (fun b qs e => ⟨#[], by rw [up _ _ e]; simp⟩) (fun m' hn => ?_) (fun b o e => ?_) I.bare
      · by_cases hb : b = X.env.locals
        · obtain ⟨oL, _, _, eL, _⟩ := F'.ns
          exact ⟨oL, by rw [hb]; exact eL⟩
        · exact ⟨o, kp b o hb e⟩
      · rw [SKy.ns_fun hn hns]; exact F'.ns
      · by_cases hb : b = D
        · subst hb
          rw [upd_same] at e
          cases e
          refine ⟨by rw [List.length_map, List.length_map, outl, line]; omega, out.toList, c, vout, ?_⟩
          rw [Array.toArray_toList]
          exact nD.1
        · rw [upd_ne hb] at e
          refine (I.hok b o e).stay (fun d v hd q => kp d v ?_ q) (fun d q => up _ _ q) fun d xs q => up _ _ q
          rcases hd with rfl | hd
          · exact neL _ _ e
          · exact neL _ _ hd
    exact ⟨.ref D, _, I', rfl, fin D _ fD perm pw⟩
end
end SKy
namespace DL
open PySem PySem.Spec PyProof.Rows L2
section
variable {X : Cx} {e : Expr} {re : RT}
/-- what the lambda captures is there -/
def lamFB (sc scope : Scope) : Bool := scope.names.all fun y => !decide (y.2 = .free) || decide (sc.names.lookup y.1 = some .cell) || decide (sc.names.lookup y.1 = some .free)
theorem lamFB_is {sc scope : Scope} (h : lamFB sc scope = true) : ∀ z ∈ scope.names, z.2 = .free → sc.names.lookup z.1 = some .cell ∨ sc.names.lookup z.1 = some .free := fun z hz e => by
  have := List.all_eq_true.mp h z hz
  simp only [Bool.or_eq_true, Bool.not_eq_true', decide_eq_true_eq, decide_eq_false_iff_not] at this
  rcases this with (g | g) | g
  · exact absurd e g
  · exact .inl g
  · exact .inr g
/-- sorted(range(n), key=lambda x: y[x]), y the list at slot j, n its length -/
def rSortKey (P : Addr) (q : Str) (j : Nat) (re : RT) : RT := fun env S k => re env S fun d S1 => ∃ (la : Addr) (ks : List Int), d = .int (ks.length : Nat) ∧ ks.length ≤ 10000 ∧ env[j]? = some (some (.ref la)) ∧ S1 la = some (.lst (ks.map D.int)) ∧ S1 P = some (.tab q) ∧
  ∀ (p : Addr) (ns : List Int), S1 p = none → ns.Perm ((List.range ks.length).map fun i : Nat => (i : Int)) → ns.Pairwise (fun a b => ks.getD a.toNat 0 ≤ ks.getD b.toNat 0) → k (.ref p) (S1.upd p (.lst (ns.map D.int)))
theorem tab_at {K : PySem.W.Frag} {S : Sto} {H : Hp} {P : Addr} {q : Str} (hS : AbsS K S H) (e : S P = some (.tab q)) : ∃ ps, H P = some (.tbl ps) ∧ SKy.Good H q ps := by
  obtain ⟨h, e1, _, ps, rfl, g⟩ := hS P _ e
  exact ⟨ps, e1, g⟩
theorem grown_stp {K : PySem.W.Frag} {S : Sto} {H H' : Hp} {P : Addr} {q : Str} (hS : AbsS K S H) (e : S P = some (.tab q)) (g : SKy.Grown P q H H') : Stp H S H' S ∧ AbsS K S H' := by
  obtain ⟨k, ps, e1, g1⟩ := g
  obtain ⟨ps0, e0, _⟩ := tab_at hS e
  have m : Mon H H' := fun a o ea nm => k a o ea fun z => nm (by subst z; rw [e0] at ea; cases ea; trivial)
  refine ⟨fun a o ea sa => ⟨k a o ea (fun z => by rw [z, e] at sa; cases sa), sa⟩, fun a o sa => ?_⟩
  by_cases ha : a = P
  · subst ha
    rw [e] at sa
    cases sa
    exact ⟨_, e1, trivial, ps, rfl, g1⟩
  · obtain ⟨h, ea, mu, r⟩ := hS a o sa
    exact ⟨h, k a h ea ha, mu, r.mon m⟩
theorem re_sortKey {c P : Addr} {q x y : Str} {j : Nat} {params : Arguments} {scope : Scope} {p p2 q2 lpos kpos pos p1 p3 p4 : Pos} (TB : LamX.TabB X.base X.mg c P) (hcode : X.env.code = .ref c) (hcalm : X.calm = true) (hroom : X.A.depth < recursionLimit)
    (hg : Gl X "sorted") (hm : X.mg "sorted" = none) (hg2 : Gl X "range") (hm2 : X.mg "range" = none) (ha : RE X e re) (hN : X.N[j]? = some y) (hcel : X.env.kindOf y = some .cell)
    (hfreeB : lamFB X.env.scope scope = true)
    (hx : scope.names.lookup x = some .local) (hy : scope.names.lookup y = some .free) (hcell : ∀ z ∈ scope.names, z.2 ≠ .cell)
    (hb : ∀ (cl : List (Str × Addr)) (pm cv ctv v : Value), bindArgs (PySem.W.kla_fn "<lambda>" q params (.Subscript (.Name y p1) (.Name x p3) p4) scope cl pm cv ctv) ⟨[v], []⟩ = pure [(x, v)])
    (hs : L2.PlainIx (.Name x p3)) (hq : X.env.qual ++ "<lambda>" = q := by rfl) (hdef : defaultsOf params X.env = ([], []) := by rfl)
    (hkind : scope.kind = .function := by rfl) (hco : scope.isCoroutine = false := by rfl) (hgen : scope.isGenerator = false := by rfl)
    (dx : (x == ("__debug__" : Str)) = false := by decide) (dy : (y == ("__debug__" : Str)) = false := by decide) (dz : (y == ("__classdict__" : Str)) = false := by decide)
    (na : starEach [e] X.env = (false, eval e X.env) :: starEach [] X.env := by rfl) :
    RE X (.Call (.Name "sorted" p) [.Call (.Name "range" p2) [e] [] q2] [⟨some "key", .Lambda params (.Subscript (.Name y p1) (.Name x p3) p4) scope lpos, kpos⟩] pos) (rSortKey P q j re) := by
  constructor
  rintro pins s σ H Q I ⟨env, S, k, hE, hS, hq0, cl⟩
  have ok := I.ok
  have hfree := lamFB_is hfreeB
  have hfr : ∀ z ∈ scope.names, z.2 = .free → ∃ c, X.env.cells.lookup z.1 = some c := fun z hz e => by
    rcases hfree z hz e with w | w
    · exact ok.has _ (.inl w)
    · exact ok.has _ (.inr w)
  refine wpAny_Call_Name_kw (ld_blt I hg hm boot_sorted ?_)
  have pa : PA X [.Call (.Name "range" p2) [e] [] q2] _ := pa_cons (pe_callTy (pos := q2) SKy.cr_range1 hg2 hm2 boot_range (pa_cons ha pa_nil (hs := na)) (by decide) (by decide) na (by rfl)) pa_nil
  refine PyProof.Rows.callWith_kw (thn (pa.run pos pins s σ H (fun vs H1 => ∃ (r la : Addr) (ks : List Int) (H0 : Hp) (S1 : Sto), vs = [.ref r] ∧ H0 r = none ∧ H1 = L2.upd H0 r (.rng 0 (ks.length : Nat)) ∧ ks.length ≤ 10000 ∧ env[j]? = some (some (.ref la)) ∧ S1 la = some (.lst (ks.map D.int)) ∧ S1 P = some (.tab q) ∧
      (∀ (p : Addr) (ns : List Int), S1 p = none → ns.Perm ((List.range ks.length).map fun i : Nat => (i : Int)) → ns.Pairwise (fun a b => ks.getD a.toNat 0 ≤ ks.getD b.toNat 0) → k (.ref p) (S1.upd p (.lst (ns.map D.int)))) ∧ Stp H S H0 S1 ∧ AbsS X.K S1 H0) I
      ⟨env, S, _, hE, hS, hq0, fun d S1 v H1 q1 st r1 hS1 => ?_⟩) fun us s1 ⟨vs, H1, I1, rv, r, la, ks, H0, S1, ev, fr, eH, hl, hj, e1, e2, q1, st, hS1⟩ => ?_) ?_ rfl rfl rfl
  · obtain ⟨la, ks, rfl, hl, hj, e1, e2, q2⟩ := q1
    have := r1.int_; subst this
    exact ⟨_, rfl, fun r hr => ⟨r, la, ks, H1, S1, rfl, hr, rfl, hl, hj, e1, e2, q2, st, hS1⟩⟩
  · subst ev eH
    obtain ⟨ur, rfl, rr⟩ := vals1 rv
    obtain rfl : ur = Value.ref r := rr
    have st1 : Stp H0 S1 (L2.upd H0 r (.rng 0 (ks.length : Nat))) S1 := Stp.laid0 fr
    have hS1' : AbsS X.K S1 (L2.upd H0 r (.rng 0 (ks.length : Nat))) := hS1.laid0 fr
    have pk : PK X [⟨some "key", .Lambda params (.Subscript (.Name y p1) (.Name x p3) p4) scope lpos, kpos⟩] _ := pk_cons (SKy.pe_lam (pos := lpos) TB hcode hq hdef fun _ => hfr) pk_nil
    refine thn (pk.run pos pins s1 σ _ (fun zs H2 => ∃ (f c' : Addr) (pm ctv : Value) (oc : Obj) (cvs : Array Value) (t : Tok) (u : HO), zs = [.ref f] ∧ SKy.Grown P q (L2.upd H0 r (.rng 0 (ks.length : Nat))) H2 ∧ H2 c' = some (.frz oc u) ∧ oc.data = .fields cvs ∧ cvs[1]? = some (.str q t) ∧
      H2 f = some (.frz (PySem.W.kla_obj "<lambda>" q params (.Subscript (.Name y p1) (.Name x p3) p4) scope (cloFrom X.env.cells scope.names []) pm c' ctv) SKy.still)) I1 ⟨tab_at hS1' e2, fun f c' pm ctv oc cvs t u H2 g h1 h2 h3 h4 => ⟨f, c', pm, ctv, oc, cvs, t, u, rfl, g, h1, h2, h3, h4⟩⟩) fun ws s2 ⟨zs, H2, I2, rz, f, c', pm, ctv, oc, cvs, t, u, ez, g, h1, h2, h3, h4⟩ => ?_
    subst ez
    obtain ⟨uf, rfl, rf⟩ := vals1 rz
    obtain rfl : uf = Value.ref f := rf
    obtain ⟨st2, hS2⟩ := grown_stp hS1' e2 g
    obtain ⟨vl, e3, r3⟩ := hS2.lst e1
    have := r3.ints; subst this
    obtain ⟨vj, hσj, rj⟩ := hE.get hj
    have := rj.ref_; subst this
    refine SKy.sort_go (n := ks.length) I2 hcalm hroom (g.1 _ _ L2.upd_same fun z => ?_) e3 rfl (by omega) h1 h2 h3 h4 hkind hco hgen hcell hx hy hfr (hb _ _ _ _) hN hcel hσj dx dy dz hs fun D ns hD hp hw => ?_
    · obtain ⟨ps, e0, _⟩ := tab_at hS1 e2
      rw [z, e0] at fr; cases fr
    · have sD : S1 D = none := hS2.free hD
      exact cl _ _ _ _ (q1 D ns sD hp hw) (((st.trans st1).trans st2).trans (Stp.laid hD)) .ref (hS2.laid hD True.intro ⟨_, rfl, .of_ints⟩)
  · rfl
end
end DL
/-! zip of two lists or tuples, in any mixture -/
namespace DL
open PySem PySem.Spec PyProof.Rows L2
/-- true: a list, false: a tuple -/
def SqB (b : Bool) (K : PySem.W.Frag) (H : Hp) (a : Addr) (xs : List V) : Prop := match b with
  | true => SqL K H a xs
  | false => SqT K H a xs
def PlB (b : Bool) (h : Heap) (a : Addr) (its : Array Value) : Prop := match b with
  | true => h.IsList a its
  | false => h.IsTuple a its
def ItB (b : Bool) (h : Heap) (it a : Addr) (i : Nat) : Prop := match b with
  | true => h.IsListIter it a i
  | false => h.IsTupleIter it a i
def obB (b : Bool) (a : Addr) : Obj := match b with
  | true => { cls := .type "list_iterator", data := .fields #[.ref a, .int 0 0] }
  | false => { cls := .type "tuple_iterator", data := .fields #[.ref a, .int 0 0] }
theorem sqB_at {X : Cx} {pins : List (Addr × Obj)} {σ : L2.St} {H : Hp} {s : Shared} {b : Bool} {a : Addr} {xs : List V} (I : Inv X pins σ H s) (h : SqB b X.K H a xs) : ∃ its : List Value, Vals xs its ∧ PlB b s.heap a its.toArray := by
  cases b with
  | true => obtain ⟨its, r, p, _⟩ := I.list h; exact ⟨its, r, p.isList⟩
  | false => obtain ⟨its, r, p, _⟩ := I.tuple h; exact ⟨its, r, p⟩
theorem sqB_inj {X : Cx} {pins : List (Addr × Obj)} {σ : L2.St} {H : Hp} {s : Shared} {b : Bool} {a : Addr} {xs ys : List V} (I : Inv X pins σ H s) (h : SqB b X.K H a xs) (h' : SqB b X.K H a ys) : xs = ys := by
  cases b with
  | true => exact I.list_inj h h'
  | false => exact I.tuple_inj h h'
theorem plB_lt {b : Bool} {h : Heap} {a : Addr} {its : Array Value} (p : PlB b h a its) : a < h.objs.size := by
  cases b with
  | true => obtain ⟨_, e, _⟩ := p; exact Heap.lt_size e
  | false => obtain ⟨_, e, _⟩ := p; exact Heap.lt_size e
theorem drawsB {prog : Program} {w : World} {A : Around} (b : Bool) (hh : A.handled = none) (it a : Addr) (hne : a ≠ it) (items : Array Value) : Draws prog w A it [it, a] items.size (fun i v => items[i]? = some v) (fun i h => ItB b h it a i ∧ PlB b h a items) := by
  cases b with
  | true => exact Draws.list hh it a hne items
  | false => exact Draws.tuple hh it a hne items
theorem beginsB (b : Bool) (a : Addr) (items : Array Value) : Begins (.ref a) (obB b a) fun h => PlB b h a items := by
  cases b with
  | true => exact begins_list a items
  | false => exact begins_tuple a items
theorem itB_at {b : Bool} {h h' : Heap} {it a : Addr} {i : Nat} (x : ItB b h it a i) (k : ∀ o, h.get? it = some o → h'.get? it = some o) : ItB b h' it a i := by
  cases b with
  | true => exact Heap.IsListIter.at x k
  | false => exact Heap.IsTupleIter.at x k
theorem itB_obj {b : Bool} {h : Heap} {it a : Addr} {i : Nat} (x : ItB b h it a i) : ∃ o, h.get? it = some o ∧ ∀ v, o.data ≠ .cell v := by
  cases b with
  | true => obtain ⟨o, e, _, d⟩ := x; exact ⟨o, e, fun v q => by rw [d] at q; cases q⟩
  | false => obtain ⟨o, e, _, d⟩ := x; exact ⟨o, e, fun v q => by rw [d] at q; cases q⟩
theorem itB_new {b : Bool} {h : Heap} {it a : Addr} (e : h.get? it = some (obB b a)) : ItB b h it a 0 := by
  cases b with
  | true => exact ⟨_, e, rfl, rfl⟩
  | false => exact ⟨_, e, rfl, rfl⟩
theorem notIn {a b c : Nat} (h1 : a ≠ b) (h2 : a ≠ c) : a ∉ [b, c] := by simp [h1, h2]
theorem zsep (n l1 l2 : Nat) (h1 : l1 < n) (h2 : l2 < n) : ZipSep2 (n + 4) (n + 2) (n + 3) n (n + 1) [n, l1] [n + 1, l2] := by
  have g : ∀ {a b : Nat}, (a = b → False) → a ≠ b := fun h => h
  refine ⟨g ?_, g ?_, g ?_, g ?_, by simp, notIn (g ?_) (g ?_), notIn (g ?_) (g ?_), g ?_, by simp, notIn (g ?_) (g ?_), notIn (g ?_) (g ?_), notIn (g ?_) (g ?_), notIn (g ?_) (g ?_)⟩ <;> (intro e; omega)
def ItP (K : PySem.W.Frag) (b1 b2 : Bool) (a1 a2 : Addr) : It :=
  ⟨fun i H => ∃ xs ys, SqB b1 K H a1 xs ∧ SqB b2 K H a2 ys ∧ i < xs.length ∧ i < ys.length,
    fun i H v H' => ∃ T x y, v = .ref T ∧ H T = none ∧ H' = L2.upd H T (.tup [x, y]) ∧ (∀ xs, SqB b1 K H a1 xs → xs[i]? = some x) ∧ ∀ ys, SqB b2 K H a2 ys → ys[i]? = some y,
    fun i H => ∃ xs ys, SqB b1 K H a1 xs ∧ SqB b2 K H a2 ys ∧ i = min xs.length ys.length⟩
theorem turn_zipB {P : Program} {w : World} {K : PySem.W.Frag} {elts : List Expr} {kk : Nat} {tpos : Pos} {b1 b2 : Bool} {a1 a2 z TI TO i1 i2 : Addr} (n1 : a1 ≠ i1) (n2 : a2 ≠ i2) (S : ZipSep2 z TI TO i1 i2 [i1, a1] [i2, a2]) :
    Turn P w K (.Tuple elts kk tpos) (ItP K b1 b2 a1 a2) [z, TI, TO, i1, i2] z (fun i h => IsZip h z TI TO .none ∧ IsTupOf2 h TI (.ref i1) (.ref i2) ∧ (∃ x y, IsTupOf2 h TO x y) ∧ ItB b1 h i1 a1 i ∧ ItB b2 h i2 a2 i) where
  mem := by simp
  obj := by
    rintro i h ⟨hz, hTI, ⟨x, y, hTO⟩, h1, h2⟩ b hb
    rcases (by simpa using hb : b = z ∨ b = TI ∨ b = TO ∨ b = i1 ∨ b = i2) with rfl | rfl | rfl | rfl | rfl
    · exact ⟨_, hz, fun v q => nomatch q⟩
    · exact ⟨_, hTI, fun v q => nomatch q⟩
    · exact ⟨_, hTO, fun v q => nomatch q⟩
    · exact itB_obj h1
    · exact itB_obj h2
  keep := by
    rintro i h h' ⟨hz, hTI, ⟨x, y, hTO⟩, h1, h2⟩ k
    exact ⟨k z (by simp) _ hz, k TI (by simp) _ hTI, ⟨x, y, k TO (by simp) _ hTO⟩, itB_at h1 fun o q => k i1 (by simp) o q, itB_at h2 fun o q => k i2 (by simp) o q⟩
  item := by
    rintro X hP hw hK hc i pins s σ H E I hf ⟨hz, hTI, hTO, h1, h2⟩ ⟨xs, ys, q1, q2, l1, l2⟩
    subst hP hw hK
    obtain ⟨its, rv, p1⟩ := sqB_at I q1
    obtain ⟨its2, rv2, p2⟩ := sqB_at I q2
    have e1 := rv.length
    have e2 := rv2.length
    have W := GoesN.zip2 (elts := elts) (x1 := kk) (pos := tpos) S (drawsB (prog := X.prog) (w := X.w) (A := X.A.in1) b1 (I.ok.hd hc) i1 a1 n1 its.toArray) (drawsB (prog := X.prog) (w := X.w) (A := X.A.in1) b2 (I.ok.hd hc) i2 a2 n2 its2.toArray)
    refine W.goes i s _ E (by simp; omega) ⟨hz, hTI, hTO, ⟨h1, p1⟩, h2, p2⟩ fun v h' tk Y st' kp _ => ?_
    obtain ⟨T, x, y, ev, hnew, hx, hy, hT⟩ := Y
    subst ev
    obtain ⟨hz', hTI', hTO', ⟨h1', _⟩, h2', _⟩ := st'
    obtain ⟨dx, hdx⟩ : ∃ d, xs[i]? = some d := ⟨xs[i], by simp [l1]⟩
    obtain ⟨dy, hdy⟩ : ∃ d, ys[i]? = some d := ⟨ys[i], by simp [l2]⟩
    obtain ⟨u, hu, ru⟩ := rv.get hdx
    obtain ⟨u2, hu2, ru2⟩ := rv2.get hdy
    have gx : its[i]? = some x := by simpa using hx
    have gy : its2[i]? = some y := by simpa using hy
    rw [gx] at hu
    cases hu
    rw [gy] at hu2
    cases hu2
    have Tf : H T = none := I.hok.fresh hnew
    have hT' : IsTup h' T #[x, y] := hT
    have I1 : Inv X pins σ (L2.upd H T (.tup [dx, dy])) { s with heap := h', toks := tk } := by
      refine I.turnedNew (ch := [z, TI, TO, i1, i2]) (fun b ob hb q => kp b ob (fun m => hb ?_) q) hf hnew ?_
      · rcases (by simpa using m : b = z ∨ b = TO ∨ b = i1 ∨ b = i2) with rfl | rfl | rfl | rfl <;> simp
      · exact ⟨by show 2 ≤ sizeLine; decide, [x, y], .cons ru (.cons ru2 .nil), hT'⟩
    refine ⟨.ref T, _, I1, rfl, ⟨T, dx, dy, rfl, Tf, rfl, fun l hl => by rw [sqB_inj I hl q1]; exact hdx, fun l hl => by rw [sqB_inj I hl q2]; exact hdy⟩, ⟨hz', hTI', hTO', h1', h2'⟩, fun b hb => ?_⟩
    have hb' : b < s.heap.objs.size := by
      obtain ⟨x0, y0, hTO0⟩ := hTO
      rcases (by simpa using hb : b = z ∨ b = TI ∨ b = TO ∨ b = i1 ∨ b = i2) with rfl | rfl | rfl | rfl | rfl
      · exact Heap.lt_size hz
      · exact Heap.lt_size hTI
      · exact Heap.lt_size hTO0
      · obtain ⟨_, q, _⟩ := itB_obj h1; exact Heap.lt_size q
      · obtain ⟨_, q, _⟩ := itB_obj h2; exact Heap.lt_size q
    rw [L2.upd_ne (Nat.ne_of_lt (Nat.lt_of_lt_of_le hb' hnew))]
    exact (hf b hb).1
  done := by
    rintro X hP hw hK hc i pins s σ H E I hf ⟨hz, hTI, hTO, h1, h2⟩ ⟨xs, ys, q1, q2, rfl⟩
    subst hP hw hK
    obtain ⟨its, rv, p1⟩ := sqB_at I q1
    obtain ⟨its2, rv2, p2⟩ := sqB_at I q2
    have e1 := rv.length
    have e2 := rv2.length
    have W := GoesN.zip2 (elts := elts) (x1 := kk) (pos := tpos) S (drawsB (prog := X.prog) (w := X.w) (A := X.A.in1) b1 (I.ok.hd hc) i1 a1 n1 its.toArray) (drawsB (prog := X.prog) (w := X.w) (A := X.A.in1) b2 (I.ok.hd hc) i2 a2 n2 its2.toArray)
    have hn : min its.toArray.size its2.toArray.size = min xs.length ys.length := by simp [e1, e2]
    rw [hn] at W
    refine W.stops s _ E ⟨hz, hTI, hTO, ⟨h1, p1⟩, h2, p2⟩ fun h' tk kp _ => ?_
    exact I.turnedL (ch := [z, TI, TO, i1, i2]) (fun b ob hb q => kp b ob (fun m => hb (by
      rcases (by simpa using m : b = z ∨ b = TO ∨ b = i1 ∨ b = i2) with rfl | rfl | rfl | rfl <;> simp)) q) hf
  self := by
    rintro A i s Q E ⟨hz, _⟩ h
    exact wpAny_pyIter_zip hz h
section
variable {X : Cx} {K : PySem.W.Frag} {H : Hp} {S : Sto}
def zipD : List D → List D → List D
  | x :: xs, y :: ys => .par [x, y] :: zipD xs ys
  | _, _ => []
theorem zipD_length : ∀ (xs ys : List D), (zipD xs ys).length = min xs.length ys.length
  | [], _ => by simp [zipD]
  | _ :: _, [] => by simp [zipD]
  | x :: xs, y :: ys => by simp [zipD, zipD_length xs ys]
theorem zipD_get : ∀ {xs ys : List D} {i : Nat} {x y : D}, xs[i]? = some x → ys[i]? = some y → (zipD xs ys)[i]? = some (.par [x, y])
  | [], _, _, _, _, h, _ => by simp at h
  | _ :: _, [], _, _, _, _, h => by simp at h
  | a :: xs, b :: ys, 0, x, y, h, g => by
    simp at h g
    subst h g
    rfl
  | a :: xs, b :: ys, i + 1, x, y, h, g => by
    have := zipD_get (xs := xs) (ys := ys) (i := i) (by simpa using h) (by simpa using g)
    simpa [zipD] using this
/-- what d gives, while G -/
def SrcD (S : Sto) (d : D) (xs : List D) (G : Sto → Prop) : Prop := (d = .tup xs ∧ G = fun _ => True) ∨ (d = .lis xs ∧ G = fun _ => True) ∨ ∃ a, d = .ref a ∧ S a = some (.lst xs) ∧ G = fun S => S a = some (.lst xs)
theorem src_at {d : D} {xs : List D} {G : Sto → Prop} {v : V} (h : SrcD S d xs G) (hS : AbsS K S H) (r : Rp K H d v) : ∃ b a, v = .ref a ∧ G S ∧ ∀ S' H', Mon H H' → AbsS K S' H' → G S' → ∃ vs, SqB b K H' a vs ∧ RpL K H' xs vs := by
  rcases h with ⟨rfl, rfl⟩ | ⟨rfl, rfl⟩ | ⟨a, rfl, e, rfl⟩
  · obtain ⟨a, vs, rfl, h1, h2⟩ := r.tup_
    exact ⟨false, a, rfl, trivial, fun S' H' m _ _ => ⟨vs, m.sqt h1.sq, h2.mon m⟩⟩
  · obtain ⟨a, vs, rfl, h1, h2⟩ := r.lis_
    exact ⟨true, a, rfl, trivial, fun S' H' m _ _ => ⟨vs, (m.fzl h1).sq, h2.mon m⟩⟩
  · have := r.ref_; subst this
    exact ⟨true, a, rfl, e, fun S' H' m hS' e' => by
      obtain ⟨vs, h1, h2⟩ := hS'.lst e'
      exact ⟨vs, SqL.of h1, h2⟩⟩
theorem walkD_zip {b1 b2 : Bool} {a1 a2 : Addr} {xs ys : List D} {G1 G2 : Sto → Prop} (h1 : ∀ S' H', Mon H H' → AbsS K S' H' → G1 S' → ∃ vs, SqB b1 K H' a1 vs ∧ RpL K H' xs vs) (h2 : ∀ S' H', Mon H H' → AbsS K S' H' → G2 S' → ∃ vs, SqB b2 K H' a2 vs ∧ RpL K H' ys vs) :
    WalkD K H (ItP K b1 b2 a1 a2) (zipD xs ys) fun S => G1 S ∧ G2 S := by
  refine ⟨fun H' => ∃ vs us, SqB b1 K H' a1 vs ∧ RpL K H' xs vs ∧ SqB b2 K H' a2 us ∧ RpL K H' ys us, fun i H' v H2 => ∃ T x y vs us, v = .ref T ∧ H' T = none ∧ H2 = L2.upd H' T (.tup [x, y]) ∧ RpL K H' xs vs ∧ RpL K H' ys us ∧ vs[i]? = some x ∧ us[i]? = some y, ⟨?_, ?_, ?_⟩, fun S' H' m hS' g => ?_, fun i H' x H2 hi _ y => ?_⟩
  · rintro i H' hi ⟨vs, us, q1, r1, q2, r2⟩
    rw [zipD_length] at hi
    exact ⟨vs, us, q1, q2, by rw [← r1.length]; omega, by rw [← r2.length]; omega⟩
  · rintro H' ⟨vs, us, q1, r1, q2, r2⟩
    exact ⟨vs, us, q1, q2, by rw [zipD_length, r1.length, r2.length]⟩
  · rintro i H' v H2 hi ⟨vs, us, q1, r1, q2, r2⟩ ⟨T, x, y, e1, e2, e3, e4, e5⟩
    exact ⟨T, x, y, vs, us, e1, e2, e3, r1, r2, e4 vs q1, e5 us q2⟩
  · obtain ⟨vs, a, b⟩ := h1 S' H' m hS' g.1
    obtain ⟨us, c, d⟩ := h2 S' H' m hS' g.2
    exact ⟨vs, us, a, b, c, d⟩
  · obtain ⟨T, x, z, vs, us, rfl, fr, rfl, r1, r2, e1, e2⟩ := y
    obtain ⟨dx, g1, k1⟩ := r1.getV e1
    obtain ⟨dz, g2, k2⟩ := r2.getV e2
    have m : Mon H' (L2.upd H' T (.tup [x, z])) := Mon.laid fr
    refine ⟨_, zipD_get g1 g2, fun S' _ hS' => ⟨?_, Stp.laid0 fr, hS'.laid0 fr⟩⟩
    exact .par (SqT.of L2.upd_same) (.cons (k1.mon m) (.cons (k2.mon m) .nil))
def iZip (rl : RTa) : RTi := fun env S k => rl env S fun ds S1 => ∃ d1 d2 xs ys G1 G2, ds = [d1, d2] ∧ SrcD S1 d1 xs G1 ∧ SrcD S1 d2 ys G2 ∧ k (zipD xs ys) (fun S => G1 S ∧ G2 S) S1
variable {e e2 : Expr} {p pos : Pos} {rl : RTa}
theorem ri_zip {elts : List Expr} {kk : Nat} {tpos : Pos} (hg : Gl X "zip") (hm : X.mg "zip" = none) (ha : RA X [e, e2] rl) (hs : starEach [e, e2] X.env = (false, eval e X.env) :: starEach [e2] X.env := by rfl) (hpl : (backTo pos (starEach [e2] X.env)).any (·.1) = false := by rfl) :
    RI X (.Tuple elts kk tpos) (.Call (.Name "zip" p) [e, e2] [] pos) (iZip rl) := by
  constructor
  rintro pins s σ H R I ⟨env, S, k, hE, hS, q, cl⟩
  refine Call_ (ld_blt I hg hm boot_zip (PyProof.Rows.callWith_type1 (thn (PA.run ha pos pins s σ H (fun vs H1 => ∃ ds S1, (∃ d1 d2 xs ys G1 G2, ds = [d1, d2] ∧ SrcD S1 d1 xs G1 ∧ SrcD S1 d2 ys G2 ∧ k (zipD xs ys) (fun S => G1 S ∧ G2 S) S1) ∧ Stp H S H1 S1 ∧ RpL X.K H1 ds vs ∧ AbsS X.K S1 H1) I
    ⟨env, S, _, hE, hS, q, fun ds S1 vs H1 q1 st r1 hS1 => ⟨ds, S1, q1, st, r1, hS1⟩⟩) fun us s1 ⟨vs, H1, I1, rv, ds, S1, ⟨d1, d2, xs, ys, G1, G2, ed, sr1, sr2, q1⟩, st, rd, hS1⟩ => ?_) hs hpl))
  subst ed
  obtain ⟨v1, rr, rfl, r1, rd2⟩ := rd.cons_of
  obtain ⟨v2, rfl, r2⟩ := rd2.one
  obtain ⟨u1, u2, rfl, ru1, ru2⟩ := vals2 rv
  obtain ⟨b1, a1, rfl, g1, w1⟩ := src_at sr1 hS1 r1
  obtain ⟨b2, a2, rfl, g2, w2⟩ := src_at sr2 hS1 r2
  obtain rfl : u1 = Value.ref a1 := ru1
  obtain rfl : u2 = Value.ref a2 := ru2
  obtain ⟨xv, sq1, _⟩ := w1 S1 H1 (Mon.refl _) hS1 g1
  obtain ⟨yv, sq2, _⟩ := w2 S1 H1 (Mon.refl _) hS1 g2
  obtain ⟨its, _, p1⟩ := sqB_at I1 sq1
  obtain ⟨its2, _, p2⟩ := sqB_at I1 sq2
  have l1 := plB_lt p1
  have l2 := plB_lt p2
  refine zip_begins2 (beginsB b1 a1 its.toArray) (beginsB b2 a2 its2.toArray) p1 p2 fun h' hz hTI hTO e1 e2' hsz kp => wpAny_pyIter_zip hz ?_
  have I2 : Inv X pins σ H1 { s1 with heap := h' } := I1.kept (t' := s1.toks) kp
  refine ⟨s1.heap.objs.size + 4, [s1.heap.objs.size + 4, s1.heap.objs.size + 2, s1.heap.objs.size + 3, s1.heap.objs.size, s1.heap.objs.size + 1], _, _, H1, rfl, I2, turn_zipB (b1 := b1) (b2 := b2) (Nat.ne_of_lt l1) (Nat.ne_of_lt (Nat.lt_succ_of_lt l2)) (zsep _ _ _ l1 l2), ⟨hz, hTI, ⟨_, _, hTO⟩, itB_new e1, itB_new e2'⟩, fun b hb => ?_, ?_⟩
  · have hle : s1.heap.objs.size ≤ b := by
      rcases (by simpa using hb : b = s1.heap.objs.size + 4 ∨ b = s1.heap.objs.size + 2 ∨ b = s1.heap.objs.size + 3 ∨ b = s1.heap.objs.size ∨ b = s1.heap.objs.size + 1) with z | z | z | z | z
      · rw [z]; exact Nat.le_add_right _ _
      · rw [z]; exact Nat.le_add_right _ _
      · rw [z]; exact Nat.le_add_right _ _
      · exact Nat.le_of_eq z.symm
      · rw [z]; exact Nat.le_add_right _ _
    exact I1.fpOk hle (I1.hok.fresh hle)
  · exact cl _ _ _ _ _ q1 st hS1 (walkD_zip w1 w2)
end
end DL
/-! the end of a row whose text makes a lambda -/
namespace DL
open PySem PySem.Spec PyProof.Rows L2
section
variable {P : Program} {w : World} {K : PySem.W.Frag} {mg mb : Str → Option Value} {H : Hp} {s : Shared} {a c T : Addr} {vs : List Value} {ns : List Int}
/-- a def with its code -/
structure DefAtC (K : PySem.W.Frag) (mg : Str → Option Value) (x : Str) (st : Stmt) (ps : List Str) (cdv : Value) : Prop where
  ex : ∃ (f : Addr) (oc : Value) (od : Option Addr) (kV doc pm : Value) (an : Option Addr) (ct : Value) (osl : Array (Option Value)), K.lookup f = some ⟨oc, od, .func (PySem.W.fnOf x x (defArgs st) (defBody st) (defScope st) .none kV doc pm an cdv ct), osl⟩ ∧ PySem.W.codeIn K cdv x = true ∧
    mg x = some (.ref f) ∧ PySem.W.keepIn K (.ref f) = true ∧ Binds K (PySem.W.fnOf x x (defArgs st) (defBody st) (defScope st) .none kV doc pm an cdv ct) ps []
theorem mkCalleeC {base : Heap} {k : Nat} {x : Str} {st : Stmt} {N ps : List Str} {cdv : Value} {C : Cn} (F : DefAtC K mg x st ps cdv) (Sc : FnScope N ps (defScope st)) (n : Nat) (hn : ps.length = n)
    (r : RTs) (hd : ∀ (A : Around) (outer : List Env) (s : Shared) (H : Hp) (E : XK) (f : Addr), RoomG k (A.deeper (envOfC x (defScope st) s.heap.objs.size f cdv)) → RSs (cxOf CX0 P w K mg base N x (defScope st) f cdv A outer s H E).nox (defBody st) r)
    (hs : ∀ ds S kk, ds.length = n → C ds S kk noX → r (endOf kk) (envOf N ds) S) (hx : ∀ ds S kk ek, C ds S kk ek → C ds S kk noX) : Callee P w K mg base CX0 (k + 1) x n C := by
  obtain ⟨f, oc, od, kV, doc, pm, an, ct, osl, lk, hcd, hm, kp, hb⟩ := F.ex
  refine ⟨f, _, ps, hn, ⟨fun vs H Q E ⟨ds, S, kk, ek, hl, r, _⟩ => by rw [← r.length, hl, hn], ?_⟩, hm, kp, hb⟩
  intro A outer s H args us vs Q E hr hgd e0 hb rv hsp
  obtain ⟨ds, S, kk, ek, hl, rl, hS, q, cl, cx⟩ := hsp
  have cnt : vs.length = ps.length := by rw [← rl.length, hl, hn]
  have inS : K.In s.heap := e0.mod.kin.keeps fun b o z => (e0.bs b o z).1
  have lims : s.heap.NoLimit := e0.mod.nolimit.keeps fun b o z => (e0.bs b o z).1
  have kinds : ∀ y ∈ ps.zip us, (defScope st).names.lookup y.1 = some .local ∨ ((defScope st).names.lookup y.1 = some .cell ∧ ((cellsFrom (s.heap.objs.size + 1) (defScope st).names []).lookup y.1).isSome = true) := by
    rintro ⟨y, v⟩ hy
    exact (Sc.par y (List.of_mem_zip hy).1).imp (fun q => q) fun q => ⟨q, PySem.W.cellsFrom_some _ _ _ (.inl q)⟩
  refine codeAny_call_function hr.depth (inS _ _ lk) rfl Sc.co Sc.gen rfl (PySem.W.codeRec_of inS hcd) (hb _ _ _ _ (wpAny_newFunctionEnv_cells Sc.kind kinds ?_))
  intro env he s1 xt
  subst he
  refine ⟨lims.keeps xt.toInCall.keep, codeAny_func ?_⟩
  have J0 : Inv (cxOf CX0 P w K mg base N x (defScope st) f cdv A outer s H E) [] (start N vs) H s1 := inv_start Sc hr.hd e0 cnt rv xt
  have ht := PSs.nox (hd A outer s H E f ⟨hr.deeper _, hgd⟩)
  refine wpAny_mono (ht.run [] s1 (start N vs) H { nx := fun _ H' => Q .non H', rt := Q } J0 ⟨envOf N ds, S, endOf kk, ?_, hS, hs ds S kk hl (hx _ _ _ _ q), ⟨fun env' S' σ' H' ⟨S2, sb, q'⟩ st' hE' hS' => ?_, fun d S' v H' ⟨S2, sb, q'⟩ st' r' hS' => ?_, fun _ _ _ _ z => z.elim, fun _ _ _ _ z => z.elim⟩⟩) ?_ fun ev s2 z => z
  · unfold envOf L2.start
    rw [rl.length]
    exact absE_start rl
  · exact cl _ _ _ _ q' (st'.sub sb) .non (hS'.sub sb)
  · exact cl _ _ _ _ q' (st'.sub sb) r' (hS'.sub sb)
  · intro fl s2 z
    match fl, z with
    | .ret u, ⟨v, σ', H', J, r, q⟩ => exact (⟨v, H', J.os, J.bare, J.base, J.hok, r, q⟩ : CE outer P w H s Q u s2)
    | .next, ⟨σ', H', J, q⟩ => exact (⟨V.non, H', J.os, J.bare, J.base, J.hok, rfl, q⟩ : CE outer P w H s Q Value.none s2)
    | .brk, ⟨_, _, _, q⟩ => exact q.elim
    | .cont, ⟨_, _, _, q⟩ => exact q.elim
theorem def_atC {h : Heap} {x : Str} {st : Stmt} {ps : List Str} {f : Addr} {oc : Value} {od an : Option Addr} {osl : Array (Option Value)} {kV doc pm cdv ct : Value} (X : K.In h) (G : h.Ns mainGlobals mg)
    (a : PySem.W.nsIn K mainGlobals x = some (some (.ref f))) (l : K.lookup f = some ⟨oc, od, .func (PySem.W.fnOf x x (defArgs st) (defBody st) (defScope st) .none kV doc pm an cdv ct), osl⟩) (c : PySem.W.codeIn K cdv x = true) (k : PySem.W.keepIn K (.ref f) = true)
    (hb : ∀ (kV doc pm : Value) (an : Option Addr) (cdv ct : Value) (us : List Value), us.length = ps.length → bindArgs (PySem.W.fnOf x x (defArgs st) (defBody st) (defScope st) .none kV doc pm an cdv ct) ⟨us, []⟩ = pure (ps.zip us)) : DefAtC K mg x st ps cdv :=
  ⟨f, oc, od, kV, doc, pm, an, ct, osl, l, c, PySem.W.mg_of X G a, k, (fun_mk l c k).binds hb⟩
/-- where nothing is tracked but the script and one table -/
theorem env0GT (KX : K.In s.heap) (hns : s.heap.Ns mainGlobals mg) (hb : s.heap.Ns builtinsNs mb) (hbb : ∀ x : Str, x ≠ "__name__" → mb x = bootBuiltins x) (hlim : s.heap.NoLimit) (hg : s.gens = #[])
    (ha : s.heap.get? a = some { cls := .type "list", data := .seq vs.toArray }) (hT : s.heap.get? T = some { cls := .none, data := .fields #[] }) (nT : K.lookup T = none) (C : PySem.W.CodeHd s.heap c T)
    (hbm : ∃ (bm : Addr) (ob : Obj), mg "__builtins__" = some (.ref bm) ∧ bm ≠ builtinsNs ∧ s.heap.get? bm = some ob ∧ ob.cls = .type "module" ∧ ob.dict = some builtinsNs ∧ ob.data = .plain)
    (only : ∀ b, H b ≠ none → b = a ∨ b = T) (own : H a ≠ none → K.lookup a = none) (hok : HOk P w H s.heap) :
    K.In (hidT s.heap H) ∧ (hidT s.heap H).Ns mainGlobals mg ∧ Env0 P w K mg (hidT s.heap H) callerA [] s H ∧ LamX.TabB (hidT s.heap H) mg c T := by
  have free : ∀ {b : Addr} {o : Obj}, s.heap.get? b = some o → (∀ xs n, o.data ≠ .seq xs n) → o.data ≠ .fields #[] → (hidT s.heap H).get? b = some o := fun {b o} e n1 n2 => hidT_get e (Classical.byContradiction fun z => by
    rcases only b z with rfl | rfl
    · rw [ha] at e; cases e; exact n1 _ _ rfl
    · rw [hT] at e; cases e; exact n2 rfl)
  have spaces : ∀ {b : Addr} {m : Str → Option Value}, s.heap.Ns b m → (hidT s.heap H).Ns b m := by
    rintro b m ⟨o, es, ep, e, d, r⟩
    exact ⟨o, es, ep, free e (fun xs n z => by rw [d] at z; cases z) (fun z => by rw [d] at z; cases z), d, r⟩
  have kin : K.In (hidT s.heap H) := fun b o e => hidT_get (KX b o e) (Classical.byContradiction fun z => by
    rcases only b z with rfl | rfl
    · rw [own z] at e; cases e
    · rw [nT] at e; cases e)
  obtain ⟨mc, l1, l2⟩ := hlim
  refine ⟨kin, spaces hns, ⟨rfl, ⟨kin, spaces hns, ⟨mb, spaces hb, hbb⟩, ⟨mc, spaces l1, l2⟩⟩, fun b o e => of_hidT e, Nat.le_of_eq (hidT_size _ _), trivial, fun b hb => absurd (show b ∈ ([] : List Addr) from hb) (by simp), hok, .of_eq hg⟩, ?_, ?_, fun z => ?_⟩
  · obtain ⟨o, us, file, tf, flags, tg, inF, text, tt, e1, r1, r2, r3, r⟩ := C
    exact ⟨o, us, file, tf, flags, tg, inF, text, tt, free e1 (fun xs n z => by rw [r2] at z; cases z) (fun z => by rw [r2] at z; cases z; simp at r3), r1, r2, r3, r⟩
  · obtain ⟨bm, ob, b1, b2, b3, b4, b5, b6⟩ := hbm
    refine ⟨bm, ob, b1, b2, fun q => ?_, fun q => ?_, free b3 (fun xs n z => by rw [b6] at z; cases z) (fun z => by rw [b6] at z; cases z), b4, b5, b6⟩
    · obtain ⟨o, es, ep, e, hd, _⟩ := hns
      rw [q, e] at b3
      cases b3
      rw [hd] at b6
      cases b6
    · rw [q, hT] at b3
      cases b3
      cases b6
  · obtain ⟨o, es, ep, e, hd, _⟩ := hns
    rw [z, hT] at e
    cases e
    cases hd
theorem codeGT {k : Nat} {fa : Addr} {fd : FuncData} {x q : Str} {C : Cn} (KX : K.In s.heap) (hns : s.heap.Ns mainGlobals mg) (hb : s.heap.Ns builtinsNs mb) (hbb : ∀ x : Str, x ≠ "__name__" → mb x = bootBuiltins x) (hlim : s.heap.NoLimit) (hg : s.gens = #[])
    (hT : s.heap.get? T = some { cls := .none, data := .fields #[] }) (nT : K.lookup T = none) (Cd : PySem.W.CodeHd s.heap c T)
    (hbm : ∃ (bm : Addr) (ob : Obj), mg "__builtins__" = some (.ref bm) ∧ bm ≠ builtinsNs ∧ s.heap.get? bm = some ob ∧ ob.cls = .type "module" ∧ ob.dict = some builtinsNs ∧ ob.data = .plain)
    (ha : s.heap.get? a = some { cls := .type "list", data := .seq vs.toArray }) (hi : IntsAre vs ns) (hl : ns.length ≤ sizeLine) (hr : Room k callerA)
    (F : ∀ base : Heap, K.In base → base.Ns mainGlobals mg → LamX.TabB base mg c T → FnG P w K mg base CX0 k fa fd [x] (spD K 1 C)) (hbind : ∀ (s : Shared) (u : Value), BindsTo s fd ⟨[u], []⟩ [(x, u)])
    (hC : ∀ S : Sto, S T = some (.tab q) → C [.lis (ns.map D.int)] S (fun d _ => d = .bl true) noX) :
    codeAny (model P w) callerA (.call (.ref fa) ⟨[.ref a], []⟩) (fun r s' => r = .ok (.ret (.bool true)) ∧ OldK s.heap s'.heap ∧ s'.os = s.os ∧ AllBare s'.gens) s := by
  have ne : a ≠ T := fun z => by
    rw [z, hT] at ha
    have z' : Data.fields #[] = Data.seq vs.toArray _ := congrArg Obj.data (Option.some.inj ha)
    cases z'
  have go : ∀ H : Hp, FzL K H a (ns.map V.int) → H T = some (.tbl #[]) → (∀ b, H b ≠ none → b ≠ T → b = a ∧ ∃ o xs, H b = some (.frz o (.lst xs))) → (H a ≠ none → K.lookup a = none) → HOk P w H s.heap →
      codeAny (model P w) callerA (.call (.ref fa) ⟨[.ref a], []⟩) (fun r s' => r = .ok (.ret (.bool true)) ∧ OldK s.heap s'.heap ∧ s'.os = s.os ∧ AllBare s'.gens) s := by
    intro H fz tT only own hok
    obtain ⟨k1, k2, e0, TB⟩ := env0GT KX hns hb hbb hlim hg ha hT nT Cd hbm (fun b z => Classical.byContradiction fun nn => nn (.inl (only b z fun t => nn (.inr t)).1)) own hok
    have hS0 : AbsS K (fun b => if b = T then some (.tab q) else none) H := fun b o e0 => by
      have e : (if b = T then some (O.tab q) else none) = some o := e0
      by_cases hb : b = T
      · rw [if_pos hb] at e
        cases e
        rw [hb]
        exact ⟨_, tT, trivial, #[], rfl, trivial, fun pos cv hc => by
          have z : codeAmong pos [] = some cv := hc
          simp [codeAmong] at z⟩
      · rw [if_neg hb] at e; cases e
    have want : spD K 1 C [.ref a] H (fun v _ => v = .bl true) fun _ _ _ => False :=
      ⟨[.lis (ns.map D.int)], _, fun d _ => d = .bl true, noX, rfl, .cons (.lis fz RpL.of_ints) .nil, hS0, hC _ (if_pos rfl), fun d S' v H' e _ r _ => by subst e; exact r.bl_, fun _ _ _ z => z.elim⟩
    refine codeAny_mono ((F _ k1 k2 TB).go callerA [] s H ⟨[.ref a], []⟩ [.ref a] [.ref a] _ _ hr rfl e0 (hbind s (.ref a)) (.cons rfl .nil) want) ?_
    intro r s' z
    match r, z with
    | .error _, z => exact z.elim
    | .ok .next, z => exact z.elim
    | .ok .brk, z => exact z.elim
    | .ok .cont, z => exact z.elim
    | .ok (.ret u), ⟨v, H', os, bare, un, hok', ru, q'⟩ =>
      have q1 : v = .bl true := q'
      subst q1
      have ru' : u = Value.bool true := ru
      subst ru'
      have key : ∀ b o, b ≠ T → s.heap.get? b = some o → s'.heap.get? b = some o := fun b o nb e => by
        cases qb : H b with
        | none => exact un.keep b o e qb (fun z => absurd (show b ∈ ([] : List Addr) from z) (by simp)) (by simp)
        | some u =>
          obtain ⟨_, ob, xs, z⟩ := only b (by rw [qb]; exact fun z => nomatch z) nb
          have e1 := (hok b _ z).1
          have e2 := (hok' b _ (un.frzs b ob _ z)).1
          rw [e] at e1
          cases e1
          exact e2
      obtain ⟨more, zt⟩ := un.tbls T #[] tT
      have hm := hok' T _ zt
      refine ⟨rfl, ⟨fun b o e => ?_, fun b o e => ?_⟩, os, bare⟩
      · by_cases hb : b = T
        · rw [hb] at e ⊢
          rw [hT] at e
          cases e
          exact .inr (.inl ⟨(Cd.tab hT).isCodeTable, rfl, #[], more, rfl, hm⟩)
        · exact .inl (key b o hb e)
      · by_cases hb : b = T
        · rw [hb]; exact ⟨_, hm⟩
        · exact ⟨o, key b o hb e⟩
  have rv : Vals (ns.map V.int) vs := vals_of_ints hi
  cases hk : K.lookup a with
  | some o =>
    have e := KX a o hk
    rw [ha] at e
    cases e
    refine go (fun b => if b = T then some (.tbl #[]) else none) (.inr ⟨_, vs.toArray, _, hk, rfl, rfl, rfl, by rw [List.size_toArray, hi.length]; exact hl, by simpa using rv⟩) (if_pos rfl) (fun b z nb => absurd (if_neg nb) z) (fun z => absurd (if_neg ne) z) fun b u z => ?_
    by_cases hb : b = T
    · have z' := (if_pos hb).symm.trans z
      cases z'
      rw [hb]; exact hT
    · have z' := (if_neg hb).symm.trans z
      cases z'
  | none =>
    refine go (fun b => if b = T then some (.tbl #[]) else if b = a then some (.frz { cls := .type "list", data := .seq vs.toArray } (.lst (ns.map V.int))) else none) (.inl ⟨_, (if_neg ne).trans (if_pos rfl)⟩) (if_pos rfl) (fun b z nb => ?_) (fun _ => hk) fun b u z => ?_
    · by_cases hb : b = a
      · exact ⟨hb, _, _, (if_neg nb).trans (if_pos hb)⟩
      · exact absurd ((if_neg nb).trans (if_neg hb)) z
    · by_cases hb : b = T
      · have z' := (if_pos hb).symm.trans z
        cases z'
        rw [hb]; exact hT
      · by_cases hb2 : b = a
        · have z' := ((if_neg hb).trans (if_pos hb2)).symm.trans z
          cases z'
          rw [hb2]
          exact ⟨ha, by rw [List.length_map]; exact hl, vs, _, rv, ha⟩
        · have z' := ((if_neg hb).trans (if_neg hb2)).symm.trans z
          cases z'
theorem walkGT {l : PySem.W.OpenLaw} {n k : Nat} {q : Program} {loose : List Str} {XP : (Str → Option Value) → Heap → Prop} {YP : World → Heap → Prop} {d e : DefRec} {Kf : Params → PySem.W.Frag} {x y qn : Str} {C : Addr → Cn}
    (hn : l.most = some n) (hn2 : n ≤ sizeLine) (hdf : d.params.defaults = []) (hr : Room k callerA) (hY : ∀ (w : World) (h : Heap), YP w h → (Kf w.params).In h) (he : (recsOf q).find? (fun e => e.name == y) = some e)
    (F : ∀ (w : World) (mg : Str → Option Value) (fa : Addr) (h : Heap), (Kf w.params).In h → h.Ns mainGlobals mg → mg d.name = some (.ref fa) →
      ∃ (fd : FuncData) (c T : Addr), PySem.W.tabIn (Kf w.params) y = some (c, T) ∧ (Kf w.params).lookup T = none ∧ (∀ (s : Shared) (u : Value), BindsTo s fd ⟨[u], []⟩ [(x, u)]) ∧ ∀ base : Heap, (Kf w.params).In base → base.Ns mainGlobals mg → LamX.TabB base mg c T → FnG l.prog w (Kf w.params) mg base CX0 k fa fd [x] (spD (Kf w.params) 1 (C T)))
    (hC : ∀ (T : Addr) (ns : List Int) (S : Sto), ns.length ≤ n → S T = some (.tab qn) → C T [.lis (ns.map D.int)] S (fun d _ => d = .bl true) noX) : PySem.W.WalkO q loose XP YP l.row.toRowW d [] (fun f vs => PySem.call f vs) := by
  refine Att.attach_call hn hdf ?_
  intro w s₀ s₁ mg mb fa o pm cd doc a vs ns G Y ho hd hcd hmg hobj hints hlen hgn
  obtain ⟨fd, c, T, ht, nT, hb, hF⟩ := F w mg fa _ (hY w _ Y) G.T.g hmg
  obtain ⟨h1, h2⟩ := PySem.W.tab_of G.T (hY w _ Y) he ht
  exact codeGT (hY w _ Y) G.T.g G.T.b G.T.builtins G.T.nolimit hgn h2 nT h1 G.T.bmain hobj hints (Nat.le_trans hlen hn2) hr hF hb (fun S hS => hC T ns S hlen hS)
end
end DL
/-! xs.reverse() -/
namespace DL
open PySem PySem.Spec PyProof.Rows L2
section
variable {X : Cx}
def reverseD : D → FL := fun x ds S k => match x, ds with
  | .ref l, [] => match S l with
    | some (.lst xs) => k .non (S.upd l (.lst xs.reverse))
    | _ => False
  | _, _ => False
theorem mReverse : MtD X "list.reverse" reverseD := by
  refine ⟨_, mt_reverse, fun x ds S k v vs H Q q rx rl hS c => ?_⟩
  unfold reverseD at q
  split at q
  · split at q
    · rename_i l _ xs e1
      have := rx.ref_; subst this
      obtain rfl := rl.nil_of
      obtain ⟨ws, h1, h2⟩ := hS.lst e1
      exact ⟨l, ws, rfl, rfl, h1, c _ _ _ _ q (Stp.write e1) .non (hS.write h1 True.intro True.intro ⟨_, rfl, h2.reverse.mon (Mon.write h1 True.intro)⟩)⟩
    · exact q.elim
  · exact q.elim
theorem ext_ref {l b : Addr} {xs ys : List D} {S : Sto} {k : RK} (h : S l = some (.lst xs)) (g : S b = some (.lst ys)) (le : xs.length + ys.length ≤ sizeLine) (q : k .non (S.upd l (.lst (xs ++ ys)))) : extendD (.ref l) [.ref b] S k := by
  unfold extendD
  dsimp only
  rw [h, g]
  exact ⟨le, q⟩
theorem reverse_at {l : Addr} {xs : List D} {S : Sto} {k : RK} (h : S l = some (.lst xs)) (q : k .non (S.upd l (.lst xs.reverse))) : reverseD (.ref l) [] S k := by
  unfold reverseD
  dsimp only
  rw [h]
  exact q
theorem Sub.over {S S' : Sto} {p : Addr} {o : O} (h : Sub S S') (n : S p = none) : Sub S (S'.upd p o) := fun b x hb => by
  rw [Sto.upd_ne (fun z => by rw [z, n] at hb; cases hb)]
  exact h b x hb
end
end DL
/-! enumerate of a list -/
namespace DL
open PySem PySem.Spec PyProof.Rows L2
section
variable {X : Cx} {K : PySem.W.Frag} {H : Hp} {e : Expr} {p pos : Pos} {rl : RTa}
theorem walkD_enumL {a : Addr} {xs : List D} {vs : List V} (h : H a = some (.lst vs)) (r : RpL K H xs vs) : WalkD K H (Ite K a) (enumD xs) fun S => S a = some (.lst xs) := by
  refine ⟨fun H' => ∃ vs', SqL K H' a vs' ∧ vs'.length = xs.length ∧ H' a = some (.lst vs') ∧ RpL K H' xs vs', fun i H' v H2 => ∃ T x, v = .ref T ∧ H' T = none ∧ H2 = L2.upd H' T (.tup [.int (i : Nat), x]) ∧ ∃ vs', H' a = some (.lst vs') ∧ RpL K H' xs vs' ∧ vs'[i]? = some x, ⟨?_, ?_, ?_⟩, fun S' H' m hS' e => ?_, fun i H' x H2 hi _ y => ?_⟩
  · rintro i H' hi ⟨vs', q, hl, _⟩
    rw [enumD_length] at hi
    exact ⟨vs', vs'[i]'(by omega), q, by simp [hl, hi]⟩
  · rintro H' ⟨vs', q, hl, _⟩
    rw [enumD_length]
    exact ⟨vs', q, by omega⟩
  · rintro i H' x H2 hi ⟨vs', q, hl, e, r'⟩ ⟨T, x', rfl, fr, rfl, y⟩
    exact ⟨T, x', rfl, fr, rfl, vs', e, r', y vs' q⟩
  · obtain ⟨vs', h1, h2⟩ := hS'.lst e
    exact ⟨vs', SqL.of h1, h2.length.symm, h1, h2⟩
  · obtain ⟨T, x', rfl, fr, rfl, vs', e, r', y⟩ := y
    obtain ⟨d, e1, e2⟩ := r'.getV y
    exact ⟨_, enumD_get e1, fun S' m hS' => ⟨.par (SqT.of L2.upd_same) (.cons .int (.cons (e2.mon (Mon.laid fr)) .nil)), Stp.laid0 fr, hS'.laid0 fr⟩⟩
def iEnumL (rl : RTa) : RTi := fun env S k => rl env S fun ds S1 => match ds with
  | [.ref a] => match S1 a with
    | some (.lst xs) => k (enumD xs) (fun S => S a = some (.lst xs)) S1
    | _ => False
  | _ => False
theorem ri_enumL {elts : List Expr} {kk : Nat} {tpos : Pos} (hg : Gl X "enumerate") (hm : X.mg "enumerate" = none) (ha : RA X [e] rl) (hs : starEach [e] X.env = [(false, eval e X.env)] := by rfl) :
    RI X (.Tuple elts kk tpos) (.Call (.Name "enumerate" p) [e] [] pos) (iEnumL rl) := by
  refine PI.imp (pi_enum hg hm ha hs) fun σ H R ⟨env, S, k, hE, hS, q, cl⟩ => ?_
  refine ⟨env, S, _, hE, hS, q, fun ds S1 vs H1 q1 st r1 hS1 => ?_⟩
  dsimp only at q1 ⊢
  split at q1
  · split at q1
    · rename_i a _ xs e1
      obtain ⟨v, rfl, r2⟩ := r1.one
      have := r2.ref_; subst this
      obtain ⟨vs, h1, h2⟩ := hS1.lst e1
      exact ⟨a, vs, rfl, SqL.of h1, cl _ _ _ _ _ q1 st hS1 (walkD_enumL h1 h2)⟩
    · exact q1.elim
  · exact q1.elim
end
end DL
/-! how many cars drive in, how long the lane becomes -/
namespace DL
open PySem PySem.Spec PyProof.Rows L2
section
variable (cs w : List Int)
/-- the car, its weight, at moment t -/
def carT (t : Nat) : Int := cs.getD (t % cs.length) 0
def wT (t : Nat) : Int := w.getD (t % cs.length) 0
/-- the lane d calls behind moment b -/
def sqN (b : Nat) (ns : List Int) : Nat → List Int
  | 0 => ns
  | d + 1 => stepN (sqN b ns d) (carT cs (b + d))
def enN (b : Nat) (ns : List Int) : Nat → Int
  | 0 => 0
  | d + 1 => enN b ns d + if carT cs (b + d) ∈ sqN cs b ns d then 0 else wT cs w (b + d)
def moN (b : Nat) (ns : List Int) : Nat → Nat
  | 0 => ns.length
  | d + 1 => max (moN b ns d) (sqN cs b ns (d + 1)).length
end
section
variable {cs w : List Int}
theorem sq_seq {ns : List Int} : ∀ d, sqN cs 0 ns d = seqN cs ns d
  | 0 => rfl
  | d + 1 => by
    show stepN (sqN cs 0 ns d) (carT cs (0 + d)) = _
    rw [sq_seq d, Nat.zero_add]; rfl
theorem sq_add {b : Nat} {ns : List Int} (d : Nat) : ∀ e, sqN cs b ns (d + e) = sqN cs (b + d) (sqN cs b ns d) e
  | 0 => rfl
  | e + 1 => by
    show stepN (sqN cs b ns (d + e)) (carT cs (b + (d + e))) = stepN _ (carT cs (b + d + e))
    rw [sq_add d e, Nat.add_assoc]
theorem en_add {b : Nat} {ns : List Int} (d : Nat) : ∀ e, enN cs w b ns (d + e) = enN cs w b ns d + enN cs w (b + d) (sqN cs b ns d) e
  | 0 => by show _ = _ + (0 : Int); rw [Int.add_zero]; rfl
  | e + 1 => by
    show enN cs w b ns (d + e) + (if carT cs (b + (d + e)) ∈ sqN cs b ns (d + e) then 0 else wT cs w (b + (d + e))) = _ + (enN cs w (b + d) _ e + if carT cs (b + d + e) ∈ _ then 0 else wT cs w (b + d + e))
    rw [en_add d e, sq_add, Nat.add_assoc, Int.add_assoc]
theorem mo_ge {b : Nat} {ns : List Int} : ∀ d, ns.length ≤ moN cs b ns d
  | 0 => Nat.le_refl _
  | d + 1 => by
    have := mo_ge (b := b) (ns := ns) d
    show _ ≤ max _ _
    omega
theorem mo_end {b : Nat} {ns : List Int} : ∀ d, (sqN cs b ns d).length ≤ moN cs b ns d
  | 0 => Nat.le_refl _
  | d + 1 => by show _ ≤ max _ _; omega
theorem mo_add {b : Nat} {ns : List Int} (d : Nat) : ∀ e, moN cs b ns (d + e) = max (moN cs b ns d) (moN cs (b + d) (sqN cs b ns d) e)
  | 0 => by
    have := mo_end (cs := cs) (b := b) (ns := ns) d
    show moN cs b ns d = max _ (sqN cs b ns d).length
    omega
  | e + 1 => by
    show max (moN cs b ns (d + e)) (sqN cs b ns (d + (e + 1))).length = max _ (max (moN cs (b + d) _ e) (sqN cs (b + d) (sqN cs b ns d) (e + 1)).length)
    rw [mo_add d e, sq_add]; omega
/-- what stands in front and is not called stays -/
theorem sq_front {b : Nat} {f r : List Int} : ∀ d, (∀ u, u < d → carT cs (b + u) ∉ f) → sqN cs b (f ++ r) d = f ++ sqN cs b r d
  | 0, _ => rfl
  | d + 1, h => by
    show stepN (sqN cs b (f ++ r) d) _ = f ++ stepN (sqN cs b r d) _
    rw [sq_front d fun u hu => h u (by omega), step_front (h d (by omega))]
theorem en_front {b : Nat} {f r : List Int} : ∀ d, (∀ u, u < d → carT cs (b + u) ∉ f) → enN cs w b (f ++ r) d = enN cs w b r d
  | 0, _ => rfl
  | d + 1, h => by
    show enN cs w b (f ++ r) d + (if carT cs (b + d) ∈ sqN cs b (f ++ r) d then 0 else _) = enN cs w b r d + (if carT cs (b + d) ∈ sqN cs b r d then 0 else _)
    rw [en_front d fun u hu => h u (by omega), sq_front d fun u hu => h u (by omega)]
    have := h d (by omega)
    simp [List.mem_append, this]
theorem mo_front {b : Nat} {f r : List Int} : ∀ d, (∀ u, u < d → carT cs (b + u) ∉ f) → moN cs b (f ++ r) d = f.length + moN cs b r d
  | 0, _ => List.length_append
  | d + 1, h => by
    show max (moN cs b (f ++ r) d) (sqN cs b (f ++ r) (d + 1)).length = f.length + max (moN cs b r d) (sqN cs b r (d + 1)).length
    rw [mo_front d fun u hu => h u (by omega), sq_front (d + 1) h, List.length_append]; omega
/-- days later it is the same -/
theorem car_shift (b q : Nat) : carT cs (b + q * cs.length) = carT cs b := by unfold carT; rw [split_eq]
theorem w_shift (b q : Nat) : wT cs w (b + q * cs.length) = wT cs w b := by unfold wT; rw [split_eq]
theorem sq_shift {b : Nat} (q : Nat) {ns : List Int} : ∀ d, sqN cs (b + q * cs.length) ns d = sqN cs b ns d
  | 0 => rfl
  | d + 1 => by
    show stepN (sqN cs (b + q * cs.length) ns d) (carT cs (b + q * cs.length + d)) = stepN _ (carT cs (b + d))
    rw [sq_shift q d, show b + q * cs.length + d = b + d + q * cs.length by omega, car_shift]
theorem en_shift {b : Nat} (q : Nat) {ns : List Int} : ∀ d, enN cs w (b + q * cs.length) ns d = enN cs w b ns d
  | 0 => rfl
  | d + 1 => by
    show enN cs w (b + q * cs.length) ns d + (if carT cs (b + q * cs.length + d) ∈ sqN cs (b + q * cs.length) ns d then 0 else wT cs w (b + q * cs.length + d)) = enN cs w b ns d + (if carT cs (b + d) ∈ sqN cs b ns d then 0 else wT cs w (b + d))
    rw [en_shift q d, sq_shift, show b + q * cs.length + d = b + d + q * cs.length by omega, car_shift, w_shift]
theorem mo_shift {b : Nat} (q : Nat) {ns : List Int} : ∀ d, moN cs (b + q * cs.length) ns d = moN cs b ns d
  | 0 => rfl
  | d + 1 => by
    show max (moN cs (b + q * cs.length) ns d) (sqN cs (b + q * cs.length) ns (d + 1)).length = max (moN cs b ns d) (sqN cs b ns (d + 1)).length
    rw [mo_shift q d, sq_shift]
/-- from an empty lane at b to e -/
def entE (cs w : List Int) (b e : Nat) : Int := enN cs w b [] (e - b)
def lonE (cs : List Int) (b e : Nat) : Nat := moN cs b [] (e - b)
noncomputable def stE (cs w : List Int) (t : Nat) : Int := wT cs w t + entE cs w (t + 1) (t + gapN cs t)
noncomputable def stM (cs : List Int) (t : Nat) : Nat := 1 + lonE cs (t + 1) (t + gapN cs t)
theorem ent_self {b : Nat} : entE cs w b b = 0 := by unfold entE; rw [Nat.sub_self]; rfl
theorem lon_self {b : Nat} : lonE cs b b = 0 := by unfold lonE; rw [Nat.sub_self]; rfl
theorem sq_one {b : Nat} : sqN cs b [] 1 = [carT cs b] := by
  show stepN [] (carT cs (b + 0)) = _
  rw [step_out (by simp), Nat.add_zero]; rfl
theorem en_one {b : Nat} : enN cs w b [] 1 = wT cs w b := by
  show (0 : Int) + (if carT cs (b + 0) ∈ ([] : List Int) then 0 else wT cs w (b + 0)) = _
  simp
theorem mo_one {b : Nat} : moN cs b [] 1 = 1 := by
  show max 0 (sqN cs b [] 1).length = 1
  rw [sq_one]; rfl
theorem car_of (pos : 1 ≤ cs.length) (t : Nat) : cs[t % cs.length]? = some (carT cs t) := by
  have h := Nat.mod_lt t pos
  unfold carT
  rw [List.getD_eq_getElem?_getD, List.getElem?_eq_getElem h]; rfl
theorem in_gap (pos : 1 ≤ cs.length) {b u : Nat} (hu : u < gapN cs b - 1) : carT cs (b + 1 + u) ∉ [carT cs b] := fun h => by
  have e : carT cs (b + 1 + u) = carT cs b := by simpa using h
  have := (gap_spec pos b).no (b + 1 + u) (by omega) (by omega)
  rw [car_of pos, car_of pos, e] at this
  exact this rfl
theorem at_gap (pos : 1 ≤ cs.length) (b : Nat) : carT cs (b + gapN cs b) = carT cs b := by
  have := (gap_spec pos b).hit
  rw [car_of pos, car_of pos] at this
  exact Option.some.inj this
/-- a car that comes to its end before e -/
theorem stay_in (pos : 1 ≤ cs.length) {b e : Nat} (h : b + gapN cs b < e) : entE cs w b e = stE cs w b + entE cs w (b + gapN cs b + 1) e ∧ lonE cs b e = max (stM cs b) (lonE cs (b + gapN cs b + 1) e) ∧ sqN cs b [] (e - b) = sqN cs (b + gapN cs b + 1) [] (e - (b + gapN cs b + 1)) := by
  have g1 := gap_pos pos b
  have e0 : e - b = 1 + ((gapN cs b - 1) + (1 + (e - (b + gapN cs b + 1)))) := by omega
  have nin : ∀ u, u < gapN cs b - 1 → carT cs (b + 1 + u) ∉ [carT cs b] := fun u hu => in_gap pos hu
  have s2 : sqN cs (b + 1) [carT cs b] (gapN cs b - 1) = [carT cs b] ++ sqN cs (b + 1) [] (gapN cs b - 1) := sq_front (f := [carT cs b]) (r := []) _ nin
  have b2 : b + 1 + (gapN cs b - 1) = b + gapN cs b := by omega
  have s3 : sqN cs (b + gapN cs b) (carT cs b :: sqN cs (b + 1) [] (gapN cs b - 1)) 1 = [] := by
    show stepN (carT cs b :: sqN cs (b + 1) [] (gapN cs b - 1)) (carT cs (b + gapN cs b)) = []
    rw [at_gap pos, step_head]
  have dg : b + gapN cs b - (b + 1) = gapN cs b - 1 := by omega
  refine ⟨?_, ?_, ?_⟩
  · unfold stE entE
    rw [e0, en_add, sq_one, en_one, en_add, s2, b2, en_add]
    have := en_front (w := w) (f := [carT cs b]) (r := []) _ nin
    rw [show ([carT cs b] ++ ([] : List Int)) = [carT cs b] from rfl] at this
    rw [this, show ([carT cs b] ++ sqN cs (b + 1) [] (gapN cs b - 1)) = carT cs b :: sqN cs (b + 1) [] (gapN cs b - 1) from rfl, s3, dg]
    have z : enN cs w (b + gapN cs b) (carT cs b :: sqN cs (b + 1) [] (gapN cs b - 1)) 1 = 0 := by
      show (0 : Int) + (if carT cs (b + gapN cs b) ∈ carT cs b :: sqN cs (b + 1) [] (gapN cs b - 1) then 0 else _) = 0
      rw [at_gap pos, if_pos (List.mem_cons_self ..)]; rfl
    rw [z]; omega
  · unfold stM lonE
    rw [e0, mo_add, sq_one, mo_one, mo_add, s2, b2, mo_add]
    have := mo_front (f := [carT cs b]) (r := []) _ nin
    rw [show ([carT cs b] ++ ([] : List Int)) = [carT cs b] from rfl] at this
    rw [this, show ([carT cs b] ++ sqN cs (b + 1) [] (gapN cs b - 1)) = carT cs b :: sqN cs (b + 1) [] (gapN cs b - 1) from rfl, s3, dg]
    have z : moN cs (b + gapN cs b) (carT cs b :: sqN cs (b + 1) [] (gapN cs b - 1)) 1 = 1 + (sqN cs (b + 1) [] (gapN cs b - 1)).length := by
      show max (carT cs b :: sqN cs (b + 1) [] (gapN cs b - 1)).length (sqN cs (b + gapN cs b) (carT cs b :: sqN cs (b + 1) [] (gapN cs b - 1)) 1).length = _
      rw [s3]; simp; omega
    have := mo_end (cs := cs) (b := b + 1) (ns := []) (gapN cs b - 1)
    rw [z]
    simp only [List.length_singleton]
    omega
  · rw [e0, sq_add, sq_one, sq_add, s2, b2, sq_add]
    rw [show ([carT cs b] ++ sqN cs (b + 1) [] (gapN cs b - 1)) = carT cs b :: sqN cs (b + 1) [] (gapN cs b - 1) from rfl, s3]
/-- a car that stays -/
theorem stay_out (pos : 1 ≤ cs.length) {b e : Nat} (hb : b < e) (h : e ≤ b + gapN cs b) : entE cs w b e = wT cs w b + entE cs w (b + 1) e ∧ lonE cs b e = 1 + lonE cs (b + 1) e := by
  have e0 : e - b = 1 + (e - (b + 1)) := by omega
  have nin : ∀ u, u < e - (b + 1) → carT cs (b + 1 + u) ∉ [carT cs b] := fun u hu => in_gap pos (by omega)
  constructor
  · unfold entE
    rw [e0, en_add, sq_one, en_one]
    have := en_front (w := w) (f := [carT cs b]) (r := []) _ nin
    rw [show ([carT cs b] ++ ([] : List Int)) = [carT cs b] from rfl] at this
    rw [this]
  · unfold lonE
    rw [e0, mo_add, sq_one, mo_one]
    have := mo_front (f := [carT cs b]) (r := []) _ nin
    rw [show ([carT cs b] ++ ([] : List Int)) = [carT cs b] from rfl] at this
    rw [this]
    simp only [List.length_singleton]
    omega
theorem ste_shift (pos : 1 ≤ cs.length) (t : Nat) : stE cs w (t % cs.length) = stE cs w t ∧ stM cs (t % cs.length) = stM cs t := by
  have e := split_mod t cs.length
  have g := gap_mod pos t
  have h1 := w_shift (cs := cs) (w := w) (t % cs.length) (t / cs.length)
  have h2 := en_shift (cs := cs) (w := w) (b := t % cs.length + 1) (t / cs.length) (ns := []) (gapN cs t - 1)
  have h3 := mo_shift (cs := cs) (b := t % cs.length + 1) (t / cs.length) (ns := []) (gapN cs t - 1)
  rw [e] at h1
  rw [show t % cs.length + 1 + t / cs.length * cs.length = t + 1 by omega] at h2 h3
  unfold stE stM entE lonE
  rw [g, show t % cs.length + gapN cs t - (t % cs.length + 1) = gapN cs t - 1 by omega, show t + gapN cs t - (t + 1) = gapN cs t - 1 by omega, h1, h2, h3]
  exact ⟨rfl, rfl⟩
end
end DL
namespace DL
open PySem PySem.Spec PyProof.Rows L2
section
variable {cs w : List Int}
/-! ### rounds -/
theorem again_sq {b p : Nat} {ns : List Int} (h : sqN cs b ns (p * cs.length) = ns) : ∀ q, sqN cs b ns (q * (p * cs.length)) = ns
  | 0 => by rw [Nat.zero_mul]; rfl
  | q + 1 => by
    rw [Nat.succ_mul, Nat.add_comm, sq_add, h, sq_shift]
    exact again_sq h q
theorem again_en {b p : Nat} {ns : List Int} (h : sqN cs b ns (p * cs.length) = ns) : ∀ q r, enN cs w b ns (q * (p * cs.length) + r) = (q : Int) * enN cs w b ns (p * cs.length) + enN cs w b ns r
  | 0, r => by rw [Nat.zero_mul, Nat.zero_add]; simp
  | q + 1, r => by
    have e : (q + 1) * (p * cs.length) + r = p * cs.length + (q * (p * cs.length) + r) := by rw [Nat.succ_mul]; omega
    rw [e, en_add, h, en_shift, again_en h q r]
    have : ((q + 1 : Nat) : Int) * enN cs w b ns (p * cs.length) = (q : Int) * enN cs w b ns (p * cs.length) + enN cs w b ns (p * cs.length) := by
      rw [Int.natCast_add, Int.add_mul]; simp
    rw [this]; omega
theorem again_mo {b p : Nat} {ns : List Int} (h : sqN cs b ns (p * cs.length) = ns) : ∀ q r, moN cs b ns ((q + 1) * (p * cs.length) + r) = max (moN cs b ns (p * cs.length)) (moN cs b ns r)
  | 0, r => by
    rw [Nat.zero_add, Nat.one_mul, mo_add, h, mo_shift]
  | q + 1, r => by
    have e : (q + 1 + 1) * (p * cs.length) + r = p * cs.length + ((q + 1) * (p * cs.length) + r) := by rw [Nat.succ_mul (q + 1)]; omega
    rw [e, mo_add, h, mo_shift, again_mo h q r]; omega
theorem round_len {f k : Nat} (pos : 1 ≤ cs.length) (h : RoundK cs f k) : ∃ p, clN cs f k - f = p * cs.length ∧ 1 ≤ p ∧ p ≤ cs.length + 1 := by
  have l : f < clN cs f k := cl_lt pos (i := 0) (show 0 < k from h.pos)
  obtain ⟨q, e⟩ := mod_split h.hit.symm (Nat.le_of_lt l)
  have b := cl_le pos f k
  have kl := h.le
  refine ⟨q, by omega, ?_, ?_⟩
  · rcases Nat.eq_zero_or_pos q with z | z
    · rw [z, Nat.zero_mul] at e; omega
    · exact z
  · have b2 : k * (cs.length + 1) ≤ cs.length * (cs.length + 1) := Nat.mul_le_mul_right _ kl
    have : q * cs.length ≤ (cs.length + 1) * cs.length := by rw [Nat.mul_comm (cs.length + 1)]; omega
    exact Nat.le_of_mul_le_mul_right this pos
theorem round_back {ns : List Int} {k : Nat} (pos : 1 ≤ cs.length) (h : RoundK cs (fcN cs ns) k) : sqN cs (fcN cs ns) [] (clN cs (fcN cs ns) k - fcN cs ns) = [] := by
  have l : fcN cs ns ≤ clN cs (fcN cs ns) k := cl_mono pos (i := 0) (Nat.zero_le _)
  have e1 := cl_clear (ns := ns) pos k
  have e0 := cl_clear (ns := ns) pos 0
  have e0' : sqN cs 0 ns (fcN cs ns) = fixN ns cs := by rw [sq_seq]; exact e0
  have e2 : sqN cs 0 ns (fcN cs ns + (clN cs (fcN cs ns) k - fcN cs ns)) = fixN ns cs := by rw [sq_seq, show fcN cs ns + (clN cs (fcN cs ns) k - fcN cs ns) = clN cs (fcN cs ns) k by omega]; exact e1
  rw [sq_add, e0', Nat.zero_add] at e2
  have fo : ∀ u, u < clN cs (fcN cs ns) k - fcN cs ns → carT cs (fcN cs ns + u) ∉ fixN ns cs := fun u _ hm => fix_out hm (List.mem_of_getElem? (car_of pos _))
  have := sq_front (f := fixN ns cs) (r := []) _ fo
  rw [List.append_nil, e2] at this
  have l2 := congrArg List.length this
  rw [List.length_append] at l2
  exact List.eq_nil_of_length_eq_zero (by omega)
/-- behind the first clear moment -/
theorem clear_split {ns : List Int} (pos : 1 ≤ cs.length) {e : Nat} (h : fcN cs ns ≤ e) : enN cs w 0 ns e = enN cs w 0 ns (fcN cs ns) + entE cs w (fcN cs ns) e ∧ moN cs 0 ns e = max (moN cs 0 ns (fcN cs ns)) ((fixN ns cs).length + lonE cs (fcN cs ns) e) := by
  have e0' : sqN cs 0 ns (fcN cs ns) = fixN ns cs := by rw [sq_seq]; exact cl_clear (ns := ns) pos 0
  have fo : ∀ u, u < e - fcN cs ns → carT cs (fcN cs ns + u) ∉ fixN ns cs := fun u _ hm => fix_out hm (List.mem_of_getElem? (car_of pos _))
  have ee : e = fcN cs ns + (e - fcN cs ns) := by omega
  have f1 := en_front (w := w) (f := fixN ns cs) (r := []) _ fo
  have f2 := mo_front (f := fixN ns cs) (r := []) _ fo
  rw [List.append_nil] at f1 f2
  constructor
  · conv => lhs; rw [ee]
    rw [en_add, e0', Nat.zero_add, f1]; rfl
  · conv => lhs; rw [ee]
    rw [mo_add, e0', Nat.zero_add, f2]; rfl
/-- by rounds and the rest -/
theorem round_split {ns : List Int} {k q r : Nat} (pos : 1 ≤ cs.length) (h : RoundK cs (fcN cs ns) k) : entE cs w (fcN cs ns) (fcN cs ns + (q * (clN cs (fcN cs ns) k - fcN cs ns) + r)) = (q : Int) * entE cs w (fcN cs ns) (fcN cs ns + (clN cs (fcN cs ns) k - fcN cs ns)) + entE cs w (fcN cs ns) (fcN cs ns + r) ∧
    lonE cs (fcN cs ns) (fcN cs ns + (q * (clN cs (fcN cs ns) k - fcN cs ns) + r)) = max (if 0 < q then lonE cs (fcN cs ns) (fcN cs ns + (clN cs (fcN cs ns) k - fcN cs ns)) else 0) (lonE cs (fcN cs ns) (fcN cs ns + r)) := by
  have bk := round_back pos h
  obtain ⟨p, ep, _, _⟩ := round_len pos h
  rw [ep] at bk ⊢
  unfold entE lonE
  simp only [Nat.add_sub_cancel_left]
  refine ⟨again_en bk q r, ?_⟩
  cases q with
  | zero => simp
  | succ q => rw [again_mo bk q r, if_pos (Nat.succ_pos q)]
/-! ### bounds -/
theorem en_bound {b : Nat} {ns : List Int} (hw : ∀ t, 0 ≤ wT cs w t ∧ wT cs w t ≤ 1) : ∀ d, 0 ≤ enN cs w b ns d ∧ enN cs w b ns d ≤ (d : Int)
  | 0 => ⟨Int.le_refl _, Int.le_refl _⟩
  | d + 1 => by
    have ih := en_bound (b := b) (ns := ns) hw d
    have := hw (b + d)
    have e : enN cs w b ns (d + 1) = enN cs w b ns d + if carT cs (b + d) ∈ sqN cs b ns d then 0 else wT cs w (b + d) := rfl
    rw [e]
    split <;> constructor <;> push_cast <;> omega
theorem step_le (l : List Int) (c : Int) : (stepN l c).length ≤ l.length + 1 := by
  by_cases h : c ∈ l
  · rw [step_in h]
    have := (List.takeWhile_sublist (fun n => !decide (n = c)) (l := l)).length_le
    first | omega | (have := (List.takeWhile_prefix (p := _) (l := l)).length_le; omega)
  · rw [step_out h]; simp
theorem mo_bound {b : Nat} {ns : List Int} : ∀ d, moN cs b ns d ≤ ns.length + d
  | 0 => Nat.le_refl _
  | d + 1 => by
    have ih := mo_bound (b := b) (ns := ns) d
    have e := mo_end (cs := cs) (b := b) (ns := ns) d
    have := step_le (sqN cs b ns d) (carT cs (b + d))
    show max (moN cs b ns d) (stepN (sqN cs b ns d) (carT cs (b + d))).length ≤ _
    omega
end
end DL
namespace DL
open PySem PySem.Spec PyProof.Rows L2
section
variable {cs w : List Int}
/-- how often x leaves at another car's call -/
def frN (cs : List Int) (x : Int) (b : Nat) (ns : List Int) : Nat → Int
  | 0 => 0
  | d + 1 => frN cs x b ns d + if x ≠ carT cs (b + d) ∧ x ∈ sqN cs b ns d ∧ x ∉ sqN cs b ns (d + 1) then 1 else 0
def inI (x : Int) (l : List Int) : Int := if x ∈ l then 1 else 0
/-- how often x is called -/
def clC (cs : List Int) (x : Int) (b : Nat) : Nat → Int
  | 0 => 0
  | d + 1 => clC cs x b d + if carT cs (b + d) = x then 1 else 0
def oneN (cs : List Int) : List Int := List.replicate cs.length 1
def carW (cs : List Int) (x : Int) : List Int := cs.map fun y => if y = x then 1 else 0
theorem carW_at (pos : 1 ≤ cs.length) (x : Int) (t : Nat) : wT cs (carW cs x) t = if carT cs t = x then 1 else 0 := by
  have h := Nat.mod_lt t pos
  unfold wT carT carW
  rw [List.getD_eq_getElem?_getD, List.getD_eq_getElem?_getD, List.getElem?_map, List.getElem?_eq_getElem h]; rfl
theorem oneW_at (pos : 1 ≤ cs.length) (t : Nat) : wT cs (oneN cs) t = 1 := by
  have h := Nat.mod_lt t pos
  unfold wT oneN
  rw [List.getD_eq_getElem?_getD, List.getElem?_replicate, if_pos h]; rfl
theorem step_self_out {l : List Int} {c : Int} (h : c ∈ l) : c ∉ stepN l c := by
  rw [step_in h]
  intro m
  have h2 := List.all_eq_true.mp (List.all_takeWhile (p := fun n => !decide (n = c)) (l := l)) c m
  simp at h2
theorem forced_is (pos : 1 ≤ cs.length) (x : Int) (b : Nat) (ns : List Int) : ∀ d, frN cs x b ns d = inI x ns + enN cs (carW cs x) b ns d - inI x (sqN cs b ns d) - (clC cs x b d - enN cs (carW cs x) b ns d)
  | 0 => by
    show (0 : Int) = inI x ns + 0 - inI x ns - (0 - 0)
    omega
  | d + 1 => by
    have ih := forced_is pos x b ns d
    have e1 : frN cs x b ns (d + 1) = frN cs x b ns d + if x ≠ carT cs (b + d) ∧ x ∈ sqN cs b ns d ∧ x ∉ sqN cs b ns (d + 1) then 1 else 0 := rfl
    have e2 : enN cs (carW cs x) b ns (d + 1) = enN cs (carW cs x) b ns d + if carT cs (b + d) ∈ sqN cs b ns d then 0 else wT cs (carW cs x) (b + d) := rfl
    have e3 : clC cs x b (d + 1) = clC cs x b d + if carT cs (b + d) = x then 1 else 0 := rfl
    have e4 : sqN cs b ns (d + 1) = stepN (sqN cs b ns d) (carT cs (b + d)) := rfl
    rw [e1, e2, e3, ih, carW_at pos]
    by_cases c : carT cs (b + d) = x
    · rw [if_neg (fun z => z.1 c.symm), if_pos c]
      by_cases m : x ∈ sqN cs b ns d
      · have o : x ∉ sqN cs b ns (d + 1) := by rw [e4, c]; exact step_self_out m
        rw [c, if_pos m]
        unfold inI
        rw [if_pos m, if_neg o]; omega
      · have o : x ∈ sqN cs b ns (d + 1) := by rw [e4, c, step_out m]; simp
        rw [c, if_neg m]
        unfold inI
        rw [if_neg m, if_pos o]; omega
    · rw [if_neg c]
      have keep : x ∈ sqN cs b ns (d + 1) → x ∈ sqN cs b ns d := fun m => by
        rw [e4] at m
        rcases step_mem m with z | z
        · exact z
        · exact absurd z.symm c
      have z0 : (if carT cs (b + d) ∈ sqN cs b ns d then (0 : Int) else 0) = 0 := by split <;> rfl
      rw [z0]
      unfold inI
      by_cases m : x ∈ sqN cs b ns d
      · by_cases o : x ∈ sqN cs b ns (d + 1)
        · have q : ¬(x ≠ carT cs (b + d) ∧ x ∈ sqN cs b ns d ∧ x ∉ sqN cs b ns (d + 1)) := fun z => z.2.2 o
          rw [if_neg q, if_pos m, if_pos o]; omega
        · have q : x ≠ carT cs (b + d) ∧ x ∈ sqN cs b ns d ∧ x ∉ sqN cs b ns (d + 1) := ⟨fun z => c z.symm, m, o⟩
          rw [if_pos q, if_pos m, if_neg o]; omega
      · have q : ¬(x ≠ carT cs (b + d) ∧ x ∈ sqN cs b ns d ∧ x ∉ sqN cs b ns (d + 1)) := fun z => m z.2.1
        rw [if_neg q, if_neg m, if_neg (fun z => m (keep z))]; omega
theorem clC_day (pos : 1 ≤ cs.length) (x : Int) : ∀ d, clC cs x 0 (d * cs.length) = (d : Int) * (carW cs x).sum := by
  have inner : ∀ b r, r ≤ cs.length → clC cs x (b * cs.length) r = ((carW cs x).take r).sum := fun b r => by
    induction r with
    | zero => intro _; rfl
    | succ r ih =>
      intro hr
      have hl : r < (carW cs x).length := by unfold carW; rw [List.length_map]; omega
      have e3 : clC cs x (b * cs.length) (r + 1) = clC cs x (b * cs.length) r + if carT cs (b * cs.length + r) = x then 1 else 0 := rfl
      have e5 : carT cs (b * cs.length + r) = carT cs r := by rw [Nat.add_comm, car_shift]
      rw [e3, ih (by omega), List.take_succ_eq_append_getElem hl, List.sum_append, e5]
      have : (carW cs x)[r] = if carT cs r = x then 1 else 0 := by
        have hr' : r < cs.length := by omega
        have e6 : carT cs r = cs[r] := by
          unfold carT
          rw [Nat.mod_eq_of_lt hr', List.getD_eq_getElem?_getD, List.getElem?_eq_getElem hr']; rfl
        rw [e6]
        simp only [carW, List.getElem_map]
      rw [this]; simp
  have add : ∀ b d e, clC cs x b (d + e) = clC cs x b d + clC cs x (b + d) e := fun b d e => by
    induction e with
    | zero => show _ = _ + (0 : Int); rw [Int.add_zero]; rfl
    | succ e ih =>
      show clC cs x b (d + e) + (if carT cs (b + (d + e)) = x then 1 else 0) = clC cs x b d + (clC cs x (b + d) e + if carT cs (b + d + e) = x then 1 else 0)
      rw [ih, Nat.add_assoc, Int.add_assoc]
  intro d
  induction d with
  | zero => rw [Nat.zero_mul]; simp; rfl
  | succ d ih =>
    rw [Nat.succ_mul, add, ih, Nat.zero_add, inner d cs.length (Nat.le_refl _), List.take_of_length_le (by unfold carW; rw [List.length_map]; exact Nat.le_refl _)]
    rw [Int.natCast_add, Int.add_mul]; simp
structure WtN (cs w : List Int) : Prop where
  len : w.length = cs.length
  bd : ∀ x ∈ w, 0 ≤ x ∧ x ≤ 1
theorem WtN.at_ (h : WtN cs w) (t : Nat) : 0 ≤ wT cs w t ∧ wT cs w t ≤ 1 := by
  unfold wT
  rw [List.getD_eq_getElem?_getD]
  cases e : w[t % cs.length]? with
  | none => exact ⟨Int.le_refl _, by decide⟩
  | some x => exact h.bd x (List.mem_of_getElem? e)
theorem wt_one : WtN cs (oneN cs) := ⟨by unfold oneN; simp, fun x hx => by unfold oneN at hx; rw [List.eq_of_mem_replicate hx]; decide⟩
theorem wt_car (x : Int) : WtN cs (carW cs x) := ⟨by unfold carW; simp, fun y hy => by
  unfold carW at hy
  obtain ⟨z, _, rfl⟩ := List.mem_map.mp hy
  split <;> decide⟩
end
def TabP (PT : Addr) (S : Sto) : Prop := S PT = some (.tab "tallies_of_stays.<locals>.<lambda>")
noncomputable def staysL (cs w : List Int) : List D := (List.range cs.length).map fun t => D.tup [.int (stE cs w t), .int (stM cs t : Nat)]
def c_tally_of_calls : Cn := fun ds S k _ => ∃ (ns cs w : List Int) (c : Nat) (wp : Addr), ds = [tupI ns, tupI (cs.take c), .ref wp] ∧ LaneN ns ∧ CallsN cs ∧ c ≤ cs.length ∧ WtN cs w ∧ S wp = some (.lst (w.map D.int)) ∧ k (.tup [.int (enN cs w 0 ns c), .int (moN cs 0 ns c : Nat)]) S
def c_tally_between : Cn := fun ds S k _ => ∃ (cs w : List Int) (sl : List D) (gp wp sp : Addr) (b e : Nat), ds = [.ref gp, .ref wp, .ref sp, .int (b : Nat), .int (e : Nat)] ∧ CallsN cs ∧ WtN cs w ∧ S gp = some (.lst ((gapsN cs).map D.int)) ∧ S wp = some (.lst (w.map D.int)) ∧ S sp = some (.lst sl) ∧ sl.length = cs.length ∧
  (∀ t, t < cs.length → gapN cs t < e - b → sl[t]? = some (.tup [.int (stE cs w t), .int (stM cs t : Nat)])) ∧ b ≤ e ∧ e ≤ 10 ^ 40 ∧ k (.tup [.int (entE cs w b e), .int (lonE cs b e : Nat)]) S
def c_tallies_of_stays (PT : Addr) : Cn := fun ds S k _ => ∃ (cs w : List Int) (gp wp : Addr), ds = [.ref gp, .ref wp] ∧ CallsN cs ∧ WtN cs w ∧ S gp = some (.lst ((gapsN cs).map D.int)) ∧ S wp = some (.lst (w.map D.int)) ∧ TabP PT S ∧ ∀ p S', Sub S S' → S p = none → S' p = some (.lst (staysL cs w)) → k (.ref p) S'
def c_tally_of_days (PT : Addr) : Cn := fun ds S k _ => ∃ (ns cs w : List Int) (wp : Addr) (d : Nat), ds = [tupI ns, tupI cs, .int (d : Nat), .ref wp] ∧ LaneN ns ∧ CallsN cs ∧ WtN cs w ∧ d ≤ 10 ^ 30 ∧ S wp = some (.lst (w.map D.int)) ∧ TabP PT S ∧ ∀ S', Sub S S' → k (.tup [.int (enN cs w 0 ns (d * cs.length)), .int (moN cs 0 ns (d * cs.length) : Nat)]) S'
def c_tally_of_all (PT : Addr) : Cn := fun ds S k _ => ∃ (ns cs : List Int) (d : Nat), ds = [tupI ns, tupI cs, .int (d : Nat)] ∧ LaneN ns ∧ CallsN cs ∧ d ≤ 10 ^ 30 ∧ TabP PT S ∧ ∀ S', Sub S S' → k (.tup [.int (enN cs (oneN cs) 0 ns (d * cs.length)), .int (moN cs 0 ns (d * cs.length) : Nat)]) S'
def c_count_entering (PT : Addr) : Cn := fun ds S k _ => ∃ (ns cs : List Int) (d : Nat), ds = [tupI ns, tupI cs, .int (d : Nat)] ∧ LaneN ns ∧ CallsN cs ∧ d ≤ 10 ^ 30 ∧ TabP PT S ∧ ∀ S', Sub S S' → k (.int (enN cs (oneN cs) 0 ns (d * cs.length))) S'
def c_count_leaving (PT : Addr) : Cn := fun ds S k _ => ∃ (ns cs : List Int) (d : Nat), ds = [tupI ns, tupI cs, .int (d : Nat)] ∧ LaneN ns ∧ CallsN cs ∧ d ≤ 10 ^ 30 ∧ TabP PT S ∧ ∀ S', Sub S S' → k (.int (((ns.length : Nat) : Int) + enN cs (oneN cs) 0 ns (d * cs.length) - (((sqN cs 0 ns (d * cs.length)).length : Nat) : Int))) S'
def c_longest (PT : Addr) : Cn := fun ds S k _ => ∃ (ns cs : List Int) (d : Nat), ds = [tupI ns, tupI cs, .int (d : Nat)] ∧ LaneN ns ∧ CallsN cs ∧ d ≤ 10 ^ 30 ∧ TabP PT S ∧ ∀ S', Sub S S' → k (.int (moN cs 0 ns (d * cs.length) : Nat)) S'
def c_count_forced (PT : Addr) : Cn := fun ds S k _ => ∃ (ns cs : List Int) (x : Int) (d : Nat), ds = [tupI ns, tupI cs, .int x, .int (d : Nat)] ∧ LaneN ns ∧ CallsN cs ∧ Car x ∧ d ≤ 10 ^ 30 ∧ TabP PT S ∧ ∀ S', Sub S S' → k (.int (frN cs x 0 ns (d * cs.length))) S'
theorem days_sq {cs ns : List Int} (pos : 1 ≤ cs.length) (d : Nat) : daysN cs d ns = sqN cs 0 ns (d * cs.length) := by rw [sq_seq, seq_days pos]
end DL
namespace DL
open PySem PySem.Spec PyProof.Rows L2
section
variable {X : Cx}
def bI (b : Bool) : Int := if b = true then 1 else 0
def addBI : F2 := fun x y S k => ∃ b i, x = .bl b ∧ y = .int i ∧ k (.int (bI b + i)) S
def subIB : F2 := fun x y S k => ∃ b i, x = .int i ∧ y = .bl b ∧ k (.int (i - bI b)) S
theorem opAddBI : Op2 X (binaryOp .Add) addBI := by
  refine ⟨fun x y H Q => ∃ b i, x = V.bl b ∧ y = V.int i ∧ Q (.int (bI b + i)) H, ?_, ?_⟩
  · rintro pins s σ H x y v u Q I rx ry ⟨b, i, rfl, rfl, q⟩
    obtain ⟨t, rfl⟩ := ry
    cases rx
    exact PySem.IntBool.add_bool_int ⟨.int (bI b + i), H, I.tok _, ⟨_, rfl⟩, q⟩
  · rintro x y S k v u H Q ⟨b, i, rfl, rfl, q⟩ rx ry hS c
    exact ⟨b, i, rx.bl_, ry.int_, c _ _ _ _ q Stp.refl .int hS⟩
theorem opSubIB : Op2 X (binaryOp .Sub) subIB := by
  refine ⟨fun x y H Q => ∃ b i, x = V.int i ∧ y = V.bl b ∧ Q (.int (i - bI b)) H, ?_, ?_⟩
  · rintro pins s σ H x y v u Q I rx ry ⟨b, i, rfl, rfl, q⟩
    obtain ⟨t, rfl⟩ := rx
    cases ry
    exact PySem.IntBool.sub_int_bool ⟨.int (i - bI b), H, I.tok _, ⟨_, rfl⟩, q⟩
  · rintro x y S k v u H Q ⟨b, i, rfl, rfl, q⟩ rx ry hS c
    exact ⟨b, i, rx.int_, ry.bl_, c _ _ _ _ q Stp.refl .int hS⟩
end
end DL
namespace DL
open PySem PySem.Spec PyProof.Rows L2
theorem tuple_mul_same (l : Addr) (items : Array Value) (n : Nat) (dd : Option Addr) (sl : Array (Option Value)) (u : Tok) :
    Meets (Builtin.«tuple.__mul__» ⟨[.ref l, .int 1 u], []⟩) (fun _ R s => s.heap.get? l = some { cls := .type "tuple", dict := dd, data := .seq items n, slots := sl } ∧ R (.ok (.ret (Value.ref l))) s) :=
  .of_wp fun prog w A R s h => by
    obtain ⟨hp, g, d, tk, os⟩ := s
    obtain ⟨hl, h⟩ := h
    have f1 := AutoSeq1.idx_int
    wp_walk using wpAny_loadPart' hl
    exact ⟨_, rfl, h⟩
section
variable {X : Cx}
theorem op_mulOne : OpR X (binaryOp .Mult) (fun x y H Q => ∃ l xs, x = V.ref l ∧ y = V.int 1 ∧ SqT X.K H l xs ∧ Q (.ref l) H) := by
  rintro pins s σ H x y v u Q I rx ry ⟨l, xs, rfl, rfl, hT, q⟩
  cases rx
  obtain ⟨t, rfl⟩ := ry
  obtain ⟨its, r, ⟨⟨cls, dd, data, sl⟩, ho, hc, n, hd⟩, hs⟩ := I.tuple hT
  simp only at hc hd
  subst hc hd
  exact wpAny_binaryOp_repeat_ref (T := "tuple") (U := "int") (by decide) ⟨_, ho, rfl⟩ (fun s' => typeIs_int s' 1 t) noFill_tuple_mul F.fills_int_mul F.slot_int_rmul repeat_tuple F.slot_int_index.lookup
    (call_meets F.slot_int_rmul (typeIs_int s 1 t) F.entry_int_rmul (F.args_int_rmul_2 _ _) (int_rmul_tuple 1 t l its.toArray n dd sl)
      ⟨ho, rfl, ⟨_, ho, rfl⟩, call_meets F.slot_tuple_mul ⟨_, ho, rfl⟩ F.entry_tuple_mul (F.args_tuple_mul_2 _ _) (tuple_mul_same l its.toArray n dd sl t) ⟨ho, .ref l, H, I, rfl, q⟩⟩)
/-- a tuple so often, at least once -/
def mulTD : F2 := fun x y S k => ∃ xs j, x = .tup xs ∧ y = .int j ∧ xs ≠ [] ∧ 1 ≤ j ∧ j ≤ 1000 ∧ xs.length ≤ 1000 ∧ k (.tup (List.replicate j.toNat xs).flatten) S
theorem opMulT : Op2 X (binaryOp .Mult) mulTD := by
  refine ⟨_, op_mulOne.or op_repF, ?_⟩
  rintro x y S k v u H Q ⟨xs, j, rfl, rfl, n0, n1, n2, n3, q⟩ rx ry hS c
  have := ry.int_; subst this
  obtain ⟨a, vs, rfl, h1, h2⟩ := rx.tup_
  by_cases e : j = 1
  · subst e
    refine .inl ⟨a, vs, rfl, rfl, h1.sq, c _ _ _ _ ?_ Stp.refl (.tup h1 h2) hS⟩
    have : (List.replicate (Int.toNat 1) xs).flatten = xs := by simp
    rw [this] at q
    exact q
  · refine .inr ⟨a, _, vs, rfl, rfl, h1.sq, fun e => n0 ?_, by omega, n2, by rw [← h2.length]; exact n3, cl_newT c hS (h2.rep _) q⟩
    subst e
    exact List.length_eq_zero_iff.mp h2.length
end
end DL
namespace DL
open PySem PySem.Spec PyProof.Rows L2
theorem zip_at {f g : Int → D} : ∀ {a b : List Int} {i : Nat} {x : D}, (zipD (a.map f) (b.map g))[i]? = some x → ∃ u v, a[i]? = some u ∧ b[i]? = some v ∧ x = .par [f u, g v]
  | [], _, _, _, h => by simp [zipD] at h
  | _ :: _, [], _, _, h => by simp [zipD] at h
  | u :: a, v :: b, 0, x, h => by
    simp [zipD] at h
    exact ⟨u, v, rfl, rfl, h.symm⟩
  | u :: a, v :: b, i + 1, x, h => by
    obtain ⟨y, z, h1, h2, h3⟩ := zip_at (f := f) (g := g) (a := a) (b := b) (i := i) (x := x) (by simpa [zipD] using h)
    exact ⟨y, z, by simpa using h1, by simpa using h2, h3⟩
theorem step_lt {l : List Int} {c : Int} : l.length < (stepN l c).length ↔ c ∉ l := by
  by_cases h : c ∈ l
  · have := (List.takeWhile_sublist (fun n => !decide (n = c)) (l := l)).length_le
    rw [step_in h]
    exact ⟨fun a => by omega, fun a => absurd h a⟩
  · rw [step_out h]
    exact ⟨fun _ => h, fun _ => by simp⟩
theorem rep_one {x : D} : ∀ n : Nat, (List.replicate n [x]).flatten = List.replicate n x
  | 0 => rfl
  | n + 1 => by
    rw [List.replicate_succ, List.flatten_cons, rep_one n]; rfl
theorem wt_sum : ∀ {w : List Int}, (∀ x ∈ w, 0 ≤ x ∧ x ≤ 1) → 0 ≤ w.sum ∧ w.sum ≤ ((w.length : Nat) : Int)
  | [], _ => ⟨by decide, by decide⟩
  | x :: w, h => by
    have ih := wt_sum (w := w) fun y hy => h y (List.mem_cons_of_mem _ hy)
    have := h x (List.mem_cons_self ..)
    rw [List.sum_cons, List.length_cons]
    push_cast
    omega
theorem bI_in (x : Int) (l : List Int) : bI (decide (x ∈ l)) = inI x l := by
  unfold bI inI
  by_cases h : x ∈ l <;> simp [h]
theorem pickZ {p : Addr} {S : Sto} {xs : List Int} {t : Int} {k : RK} (h : S p = some (.lst (xs.map D.int))) (t0 : 0 ≤ t) (t1 : t < (xs.length : Nat)) (q : ∀ w ∈ xs, k (.int w) S) : ixD (.ref p) (.int t) S k := by
  obtain ⟨d, hd, e⟩ := atI_in (xs := xs.map D.int) t0 (by rw [List.length_map]; exact t1)
  obtain ⟨w, hw, rfl⟩ := List.mem_map.mp hd
  exact ixD_at (seq_ref h) e (q w hw)
abbrev c_law_sip : Cn := c_law_take
abbrev c_law_fount : Cn := c_law_shed
/-- a drawn lane of at most so many cars -/
def c_law_laneF : Cn := fun ds S k _ => ∃ a m b N, ds = [.ref a, .int m] ∧ 1 ≤ m ∧ m ≤ 60 ∧ S a = some (.lst b) ∧ ShedV N b ∧ N ≤ 10 ^ 9 ∧ ∀ b' ls S', ShedV (N + 1000) b' → Ex a S b' S' → LaneN ls → k (tupI ls) S'
def c_law_callsF : Cn := fun ds S k _ => ∃ a m b N, ds = [.ref a, .int m] ∧ 1 ≤ m ∧ m ≤ 200 ∧ S a = some (.lst b) ∧ ShedV N b ∧ N ≤ 10 ^ 9 ∧ ∀ b' cs S', ShedV (N + 1000) b' → Ex a S b' S' → CallsN cs → k (tupI cs) S'
/-- entering, leaving, forced -/
def cntL (cs : List Int) (x : Int) (ns : List Int) (t : Nat) : List Int := [enN cs (oneN cs) 0 ns t, ((ns.length : Nat) : Int) + enN cs (oneN cs) 0 ns t - (((sqN cs 0 ns t).length : Nat) : Int), frN cs x 0 ns t]
def c_law_counts (PT : Addr) : Cn := fun ds S k _ => ∃ (ns cs : List Int) (x : Int) (d : Nat), ds = [tupI ns, tupI cs, .int x, .int (d : Nat)] ∧ LaneN ns ∧ CallsN cs ∧ Car x ∧ d ≤ 10 ^ 30 ∧ TabP PT S ∧ ∀ p S', Sub S S' → S p = none → S' p = some (.lst ((cntL cs x ns (d * cs.length)).map D.int)) → k (.ref p) S'
def c_law_parts_right (PT : Addr) : Cn := fun ds S k _ => ∃ a b N ns cs x, ds = [.ref a, tupI ns, tupI cs, .int x] ∧ S a = some (.lst b) ∧ ShedV N b ∧ N ≤ 10 ^ 9 ∧ LaneN ns ∧ CallsN cs ∧ Car x ∧ TabP PT S ∧ ∀ b' S', ShedV (N + 100) b' → Ex a S b' S' → k (.bl true) S'
def c_law_cycle_right (PT : Addr) : Cn := c_law_parts_right PT
def c_lawT (PT : Addr) : Cn := fun ds S k _ => ∃ ns : List Int, ds = [.lis (ns.map D.int)] ∧ ns.length ≤ 63 ∧ TabP PT S ∧ k (.bl true) S
end DL
namespace DL
open PySem PySem.Spec PyProof.Rows L2
section
variable {cs : List Int}
theorem fr_add (x : Int) {b : Nat} {ns : List Int} (d : Nat) : ∀ e, frN cs x b ns (d + e) = frN cs x b ns d + frN cs x (b + d) (sqN cs b ns d) e
  | 0 => by show _ = _ + (0 : Int); rw [Int.add_zero]; rfl
  | e + 1 => by
    have h1 : frN cs x b ns (d + (e + 1)) = frN cs x b ns (d + e) + if x ≠ carT cs (b + (d + e)) ∧ x ∈ sqN cs b ns (d + e) ∧ x ∉ sqN cs b ns (d + (e + 1)) then 1 else 0 := rfl
    have h2 : frN cs x (b + d) (sqN cs b ns d) (e + 1) = frN cs x (b + d) (sqN cs b ns d) e + if x ≠ carT cs (b + d + e) ∧ x ∈ sqN cs (b + d) (sqN cs b ns d) e ∧ x ∉ sqN cs (b + d) (sqN cs b ns d) (e + 1) then 1 else 0 := rfl
    rw [h1, h2, fr_add x d e, sq_add, sq_add, Nat.add_assoc, Int.add_assoc]
theorem fr_shift (x : Int) {b : Nat} (q : Nat) {ns : List Int} : ∀ d, frN cs x (b + q * cs.length) ns d = frN cs x b ns d
  | 0 => rfl
  | d + 1 => by
    have h1 : frN cs x (b + q * cs.length) ns (d + 1) = frN cs x (b + q * cs.length) ns d + if x ≠ carT cs (b + q * cs.length + d) ∧ x ∈ sqN cs (b + q * cs.length) ns d ∧ x ∉ sqN cs (b + q * cs.length) ns (d + 1) then 1 else 0 := rfl
    have h2 : frN cs x b ns (d + 1) = frN cs x b ns d + if x ≠ carT cs (b + d) ∧ x ∈ sqN cs b ns d ∧ x ∉ sqN cs b ns (d + 1) then 1 else 0 := rfl
    rw [h1, h2, fr_shift x q d, sq_shift, sq_shift, show b + q * cs.length + d = b + d + q * cs.length by omega, car_shift]
/-- from the beginning of a day on -/
theorem day_en {w : List Int} {ns : List Int} (f t : Nat) : enN cs w 0 ns (f * cs.length + t) = enN cs w 0 ns (f * cs.length) + enN cs w 0 (sqN cs 0 ns (f * cs.length)) t := by
  rw [en_add]
  congr 1
  exact en_shift f t
theorem day_mo {ns : List Int} (f t : Nat) : moN cs 0 ns (f * cs.length + t) = max (moN cs 0 ns (f * cs.length)) (moN cs 0 (sqN cs 0 ns (f * cs.length)) t) := by
  rw [mo_add]
  congr 1
  exact mo_shift f t
theorem day_fr (x : Int) {ns : List Int} (f t : Nat) : frN cs x 0 ns (f * cs.length + t) = frN cs x 0 ns (f * cs.length) + frN cs x 0 (sqN cs 0 ns (f * cs.length)) t := by
  rw [fr_add]
  congr 1
  exact fr_shift x f t
theorem day_sq {ns : List Int} (f t : Nat) : sqN cs 0 ns (f * cs.length + t) = sqN cs 0 (sqN cs 0 ns (f * cs.length)) t := by
  rw [sq_add]
  exact sq_shift f t
theorem cnt_add (x : Int) (ns : List Int) (f g : Nat) : ∃ a b c a' b' c' : Int, cntL cs x ns (f * cs.length) = [a, b, c] ∧ cntL cs x (sqN cs 0 ns (f * cs.length)) (g * cs.length) = [a', b', c'] ∧ cntL cs x ns ((f + g) * cs.length) = [a + a', b + b', c + c'] := by
  refine ⟨_, _, _, _, _, _, rfl, rfl, ?_⟩
  unfold cntL
  rw [Nat.add_mul, day_en, day_fr, day_sq]
  congr 2
  · omega
theorem fr_bounds (x : Int) (ns : List Int) (pos : 1 ≤ cs.length) : ∀ d, 0 ≤ frN cs x 0 ns d ∧ frN cs x 0 ns d ≤ ((ns.length : Nat) : Int) + enN cs (oneN cs) 0 ns d - (((sqN cs 0 ns d).length : Nat) : Int)
  | 0 => by
    refine ⟨Int.le_refl _, ?_⟩
    show (0 : Int) ≤ ((ns.length : Nat) : Int) + 0 - ((ns.length : Nat) : Int)
    omega
  | d + 1 => by
    obtain ⟨i1, i2⟩ := fr_bounds x ns pos d
    have h1 : frN cs x 0 ns (d + 1) = frN cs x 0 ns d + if x ≠ carT cs (0 + d) ∧ x ∈ sqN cs 0 ns d ∧ x ∉ sqN cs 0 ns (d + 1) then 1 else 0 := rfl
    have h2 : enN cs (oneN cs) 0 ns (d + 1) = enN cs (oneN cs) 0 ns d + if carT cs (0 + d) ∈ sqN cs 0 ns d then 0 else wT cs (oneN cs) (0 + d) := rfl
    have h3 : sqN cs 0 ns (d + 1) = stepN (sqN cs 0 ns d) (carT cs (0 + d)) := rfl
    rw [h1, h2, oneW_at pos]
    by_cases m : carT cs (0 + d) ∈ sqN cs 0 ns d
    · have hlt : (sqN cs 0 ns (d + 1)).length < (sqN cs 0 ns d).length := by
        rw [h3, step_in m]
        have sl := List.takeWhile_sublist (fun n => !decide (n = carT cs (0 + d))) (l := sqN cs 0 ns d)
        rcases Nat.lt_or_eq_of_le sl.length_le with z | z
        · exact z
        · have e := sl.eq_of_length z
          have := step_self_out m
          rw [step_in m, e] at this
          exact absurd m this
      rw [if_pos m]
      constructor <;> split <;> omega
    · have e : (sqN cs 0 ns (d + 1)).length = (sqN cs 0 ns d).length + 1 := by rw [h3, step_out m]; simp
      have no : ¬(x ≠ carT cs (0 + d) ∧ x ∈ sqN cs 0 ns d ∧ x ∉ sqN cs 0 ns (d + 1)) := fun z => z.2.2 (by rw [h3, step_out m]; exact List.mem_append_left _ z.2.1)
      rw [if_neg m, if_neg no]
      constructor <;> omega
/-- days that lead back, again and again -/
theorem back_fr (x : Int) {p : Nat} {ns : List Int} (h : sqN cs 0 ns (p * cs.length) = ns) : ∀ q, frN cs x 0 ns (q * (p * cs.length)) = (q : Int) * frN cs x 0 ns (p * cs.length)
  | 0 => by rw [Nat.zero_mul]; simp; rfl
  | q + 1 => by
    have e : (q + 1) * (p * cs.length) = p * cs.length + q * (p * cs.length) := by rw [Nat.succ_mul]; omega
    rw [e, day_fr, h, back_fr x h q]
    rw [Int.natCast_add, Int.add_mul]; simp; omega
theorem back_cnt (x : Int) {p : Nat} {ns : List Int} (h : sqN cs 0 ns (p * cs.length) = ns) (q : Nat) : cntL cs x ns (q * p * cs.length) = (cntL cs x ns (p * cs.length)).map fun z => (q : Int) * z := by
  have e := again_en (cs := cs) (w := oneN cs) (b := 0) h q 0
  have e0 : enN cs (oneN cs) 0 ns 0 = 0 := rfl
  rw [e0, Nat.add_zero, Int.add_zero] at e
  unfold cntL
  rw [Nat.mul_assoc, e, back_fr x h q, again_sq h q, h]
  simp only [List.map_cons, List.map_nil]
  congr 2
  have a1 : ((ns.length : Nat) : Int) + (q : Int) * enN cs (oneN cs) 0 ns (p * cs.length) - ((ns.length : Nat) : Int) = (q : Int) * enN cs (oneN cs) 0 ns (p * cs.length) := by omega
  have a2 : ((ns.length : Nat) : Int) + enN cs (oneN cs) 0 ns (p * cs.length) - ((ns.length : Nat) : Int) = enN cs (oneN cs) 0 ns (p * cs.length) := by omega
  rw [a1, a2]
theorem per_61 {x : Ck} (h : CallsN cs) (hx : IsCase cs x) : perN cs x ≤ 61 := by
  obtain ⟨L, hL⟩ := Cars.ex cs
  have := closed_few hL h (Closed.snoc (acc := []) (Closed.nil cs) hx (by simp))
  rw [List.nil_append, List.flatten_cons, List.flatten_nil, List.append_nil] at this
  have e : (cycN cs (perN cs x) x).length = perN cs x := by unfold cycN; simp
  rwa [e] at this
/-- what is not called leaves never -/
theorem fr_fix {x : Int} {ns : List Int} (pos : 1 ≤ cs.length) (h : x ∈ fixN ns cs) : ∀ d, frN cs x 0 ns d = 0
  | 0 => rfl
  | d + 1 => by
    have h1 : frN cs x 0 ns (d + 1) = frN cs x 0 ns d + if x ≠ carT cs (0 + d) ∧ x ∈ sqN cs 0 ns d ∧ x ∉ sqN cs 0 ns (d + 1) then 1 else 0 := rfl
    have fo : ∀ u, u < d + 1 → carT cs (0 + u) ∉ fixN ns cs := fun u _ hm => fix_out hm (List.mem_of_getElem? (car_of pos _))
    have s := sq_front (b := 0) (f := fixN ns cs) (r := restN ns cs) (d + 1) fo
    rw [fix_rest] at s
    have no : ¬(x ≠ carT cs (0 + d) ∧ x ∈ sqN cs 0 ns d ∧ x ∉ sqN cs 0 ns (d + 1)) := fun z => z.2.2 (by rw [s]; exact List.mem_append_left _ h)
    rw [h1, fr_fix pos h d, if_neg no]; rfl
/-- never more cars than there are -/
theorem mo_cars {ns : List Int} (hn : LaneN ns) (h : CallsN cs) {L : List Int} (hL : ∀ x, x ∈ ns ++ cs → x ∈ L) : ∀ d, moN cs 0 ns d ≤ L.length
  | 0 => nd_le hn.nodup fun x hx => hL x (List.mem_append_left _ hx)
  | d + 1 => by
    have ih := mo_cars hn h hL d
    have sub : ∀ d, ∀ x ∈ sqN cs 0 ns d, x ∈ ns ++ cs := fun d => by
      induction d with
      | zero => intro x hx; exact List.mem_append_left _ hx
      | succ d ihd =>
        intro x hx
        rcases step_mem (show x ∈ stepN (sqN cs 0 ns d) (carT cs (0 + d)) from hx) with z | z
        · exact ihd x z
        · rw [z]; exact List.mem_append_right _ (List.mem_of_getElem? (car_of h.pos _))
    have nd : (sqN cs 0 ns (d + 1)).Nodup := by rw [sq_seq]; exact (seq_lane h hn (d + 1)).nodup
    have := nd_le nd fun x hx => hL x (sub (d + 1) x hx)
    show max _ _ ≤ _
    omega
end
end DL
namespace DL
open PySem PySem.Spec PyProof.Rows L2
section
variable {cs : List Int}
/-- the cars that leave at a call -/
theorem gone_in {l : List Int} {c : Int} (m : c ∈ l) : l = stepN l c ++ l.drop (stepN l c).length := by
  rw [step_in m]
  have e := List.takeWhile_append_dropWhile (p := fun n => !decide (n = c)) (l := l)
  have d := List.drop_left' (l₁ := l.takeWhile fun n => !decide (n = c)) (l₂ := l.dropWhile fun n => !decide (n = c)) rfl
  rw [e] at d
  rw [d]
  exact e.symm
theorem gone_out {l : List Int} {c : Int} (m : c ∉ l) : l.drop (stepN l c).length = [] := by
  rw [step_out m]
  exact List.drop_eq_nil_of_le (by simp)
theorem gone_len (l : List Int) (c : Int) : (((l.drop (stepN l c).length).length : Nat) : Int) = ((l.length : Nat) : Int) + (if c ∈ l then 0 else 1) - (((stepN l c).length : Nat) : Int) := by
  by_cases m : c ∈ l
  · have := congrArg List.length (gone_in m)
    rw [List.length_append] at this
    rw [if_pos m]; omega
  · rw [gone_out m, if_neg m, step_out m]; simp
theorem gone_mem {l : List Int} (nd : l.Nodup) (x c : Int) : x ∈ l.drop (stepN l c).length ↔ x ∈ l ∧ x ∉ stepN l c := by
  by_cases m : c ∈ l
  · have e := gone_in m
    constructor
    · intro h
      refine ⟨List.mem_of_mem_drop h, fun h2 => ?_⟩
      rw [e, List.nodup_append] at nd
      exact nd.2.2 x h2 x h rfl
    · rintro ⟨h1, h2⟩
      rw [e] at h1
      rcases List.mem_append.mp h1 with z | z
      · exact absurd z h2
      · exact z
  · rw [gone_out m]
    constructor
    · intro h; cases h
    · rintro ⟨h1, h2⟩
      exact absurd (by rw [step_out m]; exact List.mem_append_left _ h1) h2
/-- entering, leaving, forced, longest -/
def numL (cs : List Int) (x : Int) (ns : List Int) (t : Nat) : List Int := cntL cs x ns t ++ [((moN cs 0 ns t : Nat) : Int)]
end
def c_law_callM : Cn := c_step
def c_law_told : Cn := fun ds S k _ => ∃ (ns cs : List Int) (x : Int), ds = [tupI ns, tupI cs, .int x] ∧ LaneN ns ∧ CallsN cs ∧ Car x ∧ ∀ p S', Sub S S' → S p = none → S' p = some (.lst ((numL cs x ns cs.length).map D.int)) → k (.tup [.ref p, tupI (daysN cs 1 ns)]) S'
end DL
namespace DL
open PySem PySem.Spec PyProof.Rows L2
/-- a sum over the first numbers -/
def gS (f : Nat → Int) (m : Nat) : Int := ((List.range m).map f).sum
theorem gS_zero (f : Nat → Int) : gS f 0 = 0 := rfl
theorem gS_succ (f : Nat → Int) (m : Nat) : gS f (m + 1) = gS f m + f m := by
  unfold gS
  rw [List.range_succ, List.map_append, List.sum_append]
  simp
theorem gS_add (f : Nat → Int) (a : Nat) : ∀ c, gS f (a + c) = gS f a + gS (fun i => f (a + i)) c
  | 0 => by rw [gS_zero]; simp
  | c + 1 => by rw [← Nat.add_assoc, gS_succ, gS_succ, gS_add f a c]; omega
theorem gS_congr {f g : Nat → Int} : ∀ {m : Nat}, (∀ i, i < m → f i = g i) → gS f m = gS g m
  | 0, _ => rfl
  | m + 1, h => by rw [gS_succ, gS_succ, gS_congr fun i hi => h i (by omega), h m (by omega)]
theorem drop_range (f : Nat → Int) (b p : Nat) : ((List.range (b + p)).map f).drop b = (List.range p).map fun i => f (b + i) := by
  rw [List.range_add, List.map_append, List.drop_left' (by simp), List.map_map]
  rfl
theorem take_range (f : Nat → Int) {r p : Nat} (h : r ≤ p) : ((List.range p).map f).take r = (List.range r).map f := by
  rw [← List.map_take, List.take_range, Nat.min_eq_left h]
/-- what comes again with a period -/
theorem per_sum {f : Nat → Int} {b p : Nat} (h : ∀ i, f (b + p + i) = f (b + i)) (hp : 0 < p) : ∀ q r, r ≤ p →
    gS f (b + p + (q * p + r)) = gS f (b + p) + (q : Int) * gS (fun i => f (b + i)) p + gS (fun i => f (b + i)) r
  | 0, r, hr => by
    rw [Nat.zero_mul, Nat.zero_add, gS_add f (b + p) r, gS_congr fun i _ => h i]
    simp
  | q + 1, r, hr => by
    have e : b + p + ((q + 1) * p + r) = b + p + (p + (q * p + r)) := by rw [Nat.succ_mul]; omega
    have i1 := per_sum h hp q r hr
    rw [gS_add] at i1
    have e2 : gS (fun i => f (b + p + i)) (p + (q * p + r)) = gS (fun i => f (b + i)) p + gS (fun i => f (b + p + i)) (q * p + r) := by
      rw [gS_congr (g := fun i => f (b + i)) fun i _ => h i, gS_add, Int.add_right_inj]
      exact gS_congr fun i _ => by show f (b + (p + i)) = f (b + p + i); rw [Nat.add_assoc]
    rw [e, gS_add, e2, Int.natCast_succ, Int.add_mul, Int.one_mul]
    omega
/-- as the law counts it: rest // p rounds and rest % p days -/
theorem per_law {f : Nat → Int} {b p : Nat} (h : ∀ i, f (b + p + i) = f (b + i)) (hp : 0 < p) (rest : Nat) :
    gS f (b + p + rest) = gS f (b + p) + ((rest / p : Nat) : Int) * (((List.range (b + p)).map f).drop b).sum + ((((List.range (b + p)).map f).drop b).take (rest % p)).sum := by
  rw [drop_range, take_range _ (Nat.le_of_lt (Nat.mod_lt _ hp))]
  have := per_sum h hp (rest / p) (rest % p) (Nat.le_of_lt (Nat.mod_lt _ hp))
  have e : rest / p * p + rest % p = rest := by rw [Nat.mul_comm]; exact Nat.div_add_mod rest p
  rw [e] at this
  exact this
end DL
namespace DL
open PySem PySem.Spec PyProof.Rows L2
section
variable {cs : List Int}
/-- day by day -/
theorem en_days (pos : 1 ≤ cs.length) (w ns : List Int) : ∀ m, enN cs w 0 ns (m * cs.length) = gS (fun i => enN cs w 0 (daysN cs i ns) cs.length) m
  | 0 => by rw [Nat.zero_mul]; rfl
  | m + 1 => by rw [Nat.succ_mul, day_en, en_days pos w ns m, gS_succ, days_sq pos]
theorem fr_days (pos : 1 ≤ cs.length) (x : Int) (ns : List Int) : ∀ m, frN cs x 0 ns (m * cs.length) = gS (fun i => frN cs x 0 (daysN cs i ns) cs.length) m
  | 0 => by rw [Nat.zero_mul]; rfl
  | m + 1 => by rw [Nat.succ_mul, day_fr, fr_days pos x ns m, gS_succ, days_sq pos]
/-- the cars that leave on a day, forced or at their call -/
def lvN (cs : List Int) (ns : List Int) (t : Nat) : Int := ((ns.length : Nat) : Int) + enN cs (oneN cs) 0 ns t - (((sqN cs 0 ns t).length : Nat) : Int)
theorem lv_days (pos : 1 ≤ cs.length) (ns : List Int) : ∀ m, lvN cs ns (m * cs.length) = gS (fun i => lvN cs (daysN cs i ns) cs.length) m
  | 0 => by
    rw [Nat.zero_mul, gS_zero]
    show ((ns.length : Nat) : Int) + 0 - ((ns.length : Nat) : Int) = 0
    omega
  | m + 1 => by
    rw [gS_succ, ← lv_days pos ns m]
    unfold lvN
    rw [Nat.succ_mul, day_en, day_sq, days_sq pos]
    omega
theorem cnt_is (x : Int) (ns : List Int) (t : Nat) : cntL cs x ns t = [enN cs (oneN cs) 0 ns t, lvN cs ns t, frN cs x 0 ns t] := rfl
/-- the three numbers of some days are sums over the days -/
theorem cnt_days (pos : 1 ≤ cs.length) (x : Int) (ns : List Int) (m : Nat) : cntL cs x ns (m * cs.length) = [gS (fun i => enN cs (oneN cs) 0 (daysN cs i ns) cs.length) m, gS (fun i => lvN cs (daysN cs i ns) cs.length) m, gS (fun i => frN cs x 0 (daysN cs i ns) cs.length) m] := by
  rw [cnt_is, en_days pos, lv_days pos, fr_days pos]
/-- the greatest of the first numbers -/
def gM (a : Nat) (f : Nat → Nat) : Nat → Nat
  | 0 => a
  | m + 1 => max (gM a f m) (f m)
theorem mo_days (pos : 1 ≤ cs.length) (ns : List Int) : ∀ m, moN cs 0 ns (m * cs.length) = gM ns.length (fun i => moN cs 0 (daysN cs i ns) cs.length) m
  | 0 => by rw [Nat.zero_mul]; rfl
  | m + 1 => by
    rw [Nat.succ_mul, day_mo, mo_days pos ns m, ← days_sq pos]
    rfl
theorem gM_le {a : Nat} {f : Nat → Nat} : ∀ {m i : Nat}, i < m → f i ≤ gM a f m
  | 0, _, h => absurd h (by omega)
  | m + 1, i, h => by
    show _ ≤ max (gM a f m) (f m)
    by_cases e : i = m
    · subst e; exact Nat.le_max_right _ _
    · exact Nat.le_trans (gM_le (by omega)) (Nat.le_max_left _ _)
theorem gM_more {a : Nat} {f : Nat → Nat} {m : Nat} (h : ∀ i, f i ≤ gM a f m) : ∀ d, gM a f (m + d) = gM a f m
  | 0 => rfl
  | d + 1 => by
    show max (gM a f (m + d)) (f (m + d)) = _
    rw [gM_more h d]
    exact Nat.max_eq_left (h _)
/-- after the days that come again nothing greater comes -/
theorem gM_per {a : Nat} {f : Nat → Nat} {b p : Nat} (hp : 0 < p) (h : ∀ i, f (b + p + i) = f (b + i)) (d : Nat) : gM a f (b + p + d) = gM a f (b + p) := by
  refine gM_more (fun i => ?_) d
  have k : ∀ j, f (b + j) ≤ gM a f (b + p) := by
    intro j
    induction j using Nat.strongRecOn with
    | _ j ih =>
      by_cases e : j < p
      · exact gM_le (by omega)
      · have := h (j - p)
        rw [show b + p + (j - p) = b + j by omega] at this
        rw [this]
        exact ih (j - p) (by omega)
  by_cases e : i < b
  · exact gM_le (by omega)
  · have := k (i - b)
    rw [show b + (i - b) = i by omega] at this
    exact this
end
end DL
namespace DL
open PySem PySem.Spec PyProof.Rows L2
section
variable {cs ls : List Int}
/-- the day from which on the lanes come again -/
def b0N (cs ls : List Int) : Nat := if daysN cs (plN cs ls) ls = ls then 0 else 1
theorem b0_le : b0N cs ls ≤ 1 := by unfold b0N; split <;> omega
theorem pl_pos : 0 < plN cs ls := (per_spec (case_is (ns := ls) (cs := cs))).1
theorem dl_mem {n : Nat} {d : List Int} : d ∈ dlN cs ls n ↔ ∃ i, i < n ∧ daysN cs i ls = d := by
  unfold dlN
  rw [List.mem_map]
  exact ⟨fun ⟨i, h, e⟩ => ⟨i, List.mem_range.mp h, e⟩, fun ⟨i, h, e⟩ => ⟨i, List.mem_range.mpr h, e⟩⟩
theorem day0 {t : Nat} (t0 : 0 < t) (e : daysN cs t ls = ls) : plN cs ls ≤ t := by
  have h : daysN cs (t + 1) ls = daysN cs (0 + 1) ls := by
    rw [Nat.add_comm t 1, days_add, e]
  rw [days_eq] at h
  rcases Nat.lt_or_ge t (plN cs ls) with c | c
  · exact absurd h (iter_ne case_is t0 (by omega))
  · exact c
theorem seen_no {t : Nat} (h : t < b0N cs ls + plN cs ls) : daysN cs t ls ∉ dlN cs ls t := by
  intro m
  obtain ⟨i, hi, e⟩ := dl_mem.mp m
  have p0 : 0 < plN cs ls := pl_pos
  have b1 : b0N cs ls ≤ 1 := b0_le
  rcases Nat.eq_zero_or_pos i with z | z
  · subst z
    have e2 : daysN cs t ls = ls := e.symm
    have := day0 hi e2
    have et : t = plN cs ls := by omega
    have : b0N cs ls = 0 := by unfold b0N; rw [← et, if_pos e2]
    omega
  · obtain ⟨a, rfl⟩ : ∃ a, i = a + 1 := ⟨i - 1, by omega⟩
    obtain ⟨c, rfl⟩ : ∃ c, t = c + 1 := ⟨t - 1, by omega⟩
    rw [days_eq] at e
    exact iter_ne case_is (by omega) (show c < plN cs ls + a by omega) e.symm
theorem again0 : daysN cs (b0N cs ls + plN cs ls) ls = daysN cs (b0N cs ls) ls := by
  obtain ⟨p0, _, pe, _⟩ := per_spec (case_is (ns := ls) (cs := cs))
  unfold b0N
  split
  · next h => rw [Nat.zero_add, h]; rfl
  · rw [Nat.add_comm]
    exact days_eq (j := 0).mpr pe
theorem again {i : Nat} : daysN cs (b0N cs ls + plN cs ls + i) ls = daysN cs (b0N cs ls + i) ls := by
  rw [Nat.add_comm _ i, days_add, again0, ← days_add, Nat.add_comm i]
theorem seen_yes : daysN cs (b0N cs ls + plN cs ls) ls ∈ dlN cs ls (b0N cs ls + plN cs ls) :=
  dl_mem.mpr ⟨b0N cs ls, by have : 0 < plN cs ls := pl_pos; omega, again0.symm⟩
theorem seen_in {t : Nat} (h : t ≤ b0N cs ls + plN cs ls) : daysN cs t ls ∈ dlN cs ls t ↔ t = b0N cs ls + plN cs ls :=
  ⟨fun m => by
    rcases Nat.lt_or_ge t (b0N cs ls + plN cs ls) with c | c
    · exact absurd m (seen_no c)
    · omega, fun e => by subst e; exact seen_yes⟩
theorem seen_at : (dlN cs ls (b0N cs ls + plN cs ls)).idxOf (daysN cs (b0N cs ls + plN cs ls) ls) = b0N cs ls := by
  have p0 : 0 < plN cs ls := pl_pos
  rw [again0]
  unfold dlN
  obtain ⟨n, hn⟩ : ∃ n, b0N cs ls + plN cs ls = n + 1 := ⟨b0N cs ls + plN cs ls - 1, by omega⟩
  rw [hn]
  by_cases z : b0N cs ls = 0
  · rw [z, List.range_succ_eq_map, List.map_cons]
    exact List.idxOf_cons_self
  · have b1 : b0N cs ls = 1 := by have : b0N cs ls ≤ 1 := b0_le; omega
    obtain ⟨k, rfl⟩ : ∃ k, n = k + 1 := ⟨n - 1, by omega⟩
    have ne : daysN cs 0 ls ≠ daysN cs 1 ls := by
      intro e
      have e1 : daysN cs 1 ls = ls := e.symm
      have := day0 (by omega) e1
      have p1 : plN cs ls = 1 := by omega
      have : b0N cs ls = 0 := by unfold b0N; rw [p1, if_pos e1]
      omega
    rw [b1, List.range_succ_eq_map, List.range_succ_eq_map, List.map_cons, List.map_cons, List.map_cons, List.idxOf_cons, show (daysN cs 0 ls == daysN cs 1 ls) = false from beq_false_of_ne ne, cond_false, show List.idxOf (daysN cs 1 ls) (daysN cs (Nat.succ 0) ls :: _) = 0 from List.idxOf_cons_self]
end
theorem while_nx {rt : RTt} {rb : RTs} {ed : DE} {env : DEnv} {S : Sto} (h : ∀ N, N = ed.nx → rWhile rt rb { ed with nx := N } env S) : rWhile rt rb ed env S := h _ rfl
def c_law_dueM : Cn := fun ds S k _ => ∃ (ns cs : List Int) (x : Int) (d : Nat), ds = [tupI ns, tupI cs, .int x, .int (d : Nat)] ∧ LaneN ns ∧ CallsN cs ∧ Car x ∧ d ≤ 10 ^ 30 ∧ ∀ p S', Sub S S' → S p = none → S' p = some (.lst ((numL cs x ns (d * cs.length)).map D.int)) → k (.ref p) S'
end DL
namespace DL
open PySem PySem.Spec PyProof.Rows L2
section
variable {X : Cx}
/-- max of a list of ints -/
def maxLD : FL := fun ds S k => match ds with
  | [d] => ∃ ns : List Int, seqOf S d = some (ns.map D.int) ∧ isTup d = false ∧ 0 < ns.length ∧ ∀ m, m ∈ ns → (∀ y, y ∈ ns → y ≤ m) → k (.int m) S
  | _ => False
theorem cMaxL (hc : X.calm = true) : CallD X (.builtin "max") maxLD := by
  refine ⟨_, cr_max hc, fun ds S k vs H Q q r hS c => ?_⟩
  unfold maxLD at q
  split at q
  · obtain ⟨v, rfl, rv⟩ := r.one
    obtain ⟨ns, ex, nt, h0, q⟩ := q
    obtain ⟨a, us, rfl, _, _⟩ := seq_of ex rv hS
    obtain ⟨ws, hl, rw_⟩ := sq_lst ex nt rv hS
    have := rw_.ints; subst this
    exact ⟨a, ns, rfl, hl, h0, fun m h1 h2 => c _ _ _ _ (q m h1 h2) Stp.refl .int hS⟩
  · exact q.elim
end
theorem sum_ref {a : Addr} {S : Sto} {k : RK} {ns : List Int} (h : S a = some (.lst (ns.map D.int))) (q : k (.int ns.sum) S) : sumD [.ref a] S k := ⟨ns, seq_ref h, rfl, q⟩
theorem gM_mem {a : Nat} {f : Nat → Nat} : ∀ m, gM a f m = a ∨ ∃ i, i < m ∧ gM a f m = f i
  | 0 => .inl rfl
  | m + 1 => by
    show max (gM a f m) (f m) = a ∨ ∃ i, i < m + 1 ∧ max (gM a f m) (f m) = f i
    rcases Nat.le_total (gM a f m) (f m) with h | h
    · rw [Nat.max_eq_right h]; exact .inr ⟨m, by omega, rfl⟩
    · rw [Nat.max_eq_left h]
      rcases gM_mem m with z | ⟨i, hi, z⟩
      · exact .inl z
      · exact .inr ⟨i, by omega, z⟩
theorem gM_ge {a : Nat} {f : Nat → Nat} : ∀ m, a ≤ gM a f m
  | 0 => Nat.le_refl _
  | m + 1 => Nat.le_trans (gM_ge m) (Nat.le_max_left _ _)
/-- the greatest of a list as max finds it -/
theorem gM_is {a t : Nat} {f : Nat → Nat} {m : Int} (h1 : m ∈ ((a : Nat) : Int) :: (List.range t).map fun i => ((f i : Nat) : Int)) (h2 : ∀ y, y ∈ ((a : Nat) : Int) :: ((List.range t).map fun i => ((f i : Nat) : Int)) → y ≤ m) : m = ((gM a f t : Nat) : Int) := by
  have l1 : m ≤ ((gM a f t : Nat) : Int) := by
    rcases List.mem_cons.mp h1 with z | z
    · rw [z]; exact Int.ofNat_le.mpr (gM_ge t)
    · obtain ⟨i, hi, rfl⟩ := List.mem_map.mp z
      exact Int.ofNat_le.mpr (gM_le (List.mem_range.mp hi))
  have l2 : ((gM a f t : Nat) : Int) ≤ m := by
    rcases gM_mem (a := a) (f := f) t with z | ⟨i, hi, z⟩
    · rw [z]; exact h2 _ (List.mem_cons_self ..)
    · rw [z]; exact h2 _ (List.mem_cons_of_mem _ (List.mem_map.mpr ⟨i, List.mem_range.mpr hi, rfl⟩))
  omega
section
variable {cs : List Int}
/-- one of the three numbers of a day -/
def dayF (cs : List Int) (x : Int) (ns : List Int) (u i : Nat) : Int := (cntL cs x (daysN cs i ns) cs.length).getD u 0
theorem num_get {x : Int} {ns : List Int} {u i : Nat} (hu : u < 3) : ((numL cs x (daysN cs i ns) cs.length).map D.int)[u]? = some (.int (dayF cs x ns u i)) := by
  match u, hu with
  | 0, _ => rfl
  | 1, _ => rfl
  | 2, _ => rfl
theorem num_get3 {x : Int} {ns : List Int} {i : Nat} : ((numL cs x (daysN cs i ns) cs.length).map D.int)[3]? = some (.int ((moN cs 0 (daysN cs i ns) cs.length : Nat) : Int)) := rfl
theorem cnt_take {x : Int} {ns : List Int} {u t : Nat} (hu : u < 3) : (cntL cs x ns t).take (u + 1) = (cntL cs x ns t).take u ++ [(cntL cs x ns t).getD u 0] := by
  match u, hu with
  | 0, _ => rfl
  | 1, _ => rfl
  | 2, _ => rfl
theorem law_sum (pos : 1 ≤ cs.length) {x : Int} {ns : List Int} {u : Nat} (hu : u < 3) (d : Nat) : (cntL cs x ns (d * cs.length)).getD u 0 = gS (dayF cs x ns u) d := by
  rw [cnt_days pos]
  match u, hu with
  | 0, _ => rfl
  | 1, _ => rfl
  | 2, _ => rfl
theorem dayF_per {x : Int} {ns : List Int} {u : Nat} (i : Nat) : dayF cs x ns u (b0N cs ns + plN cs ns + i) = dayF cs x ns u (b0N cs ns + i) := by
  unfold dayF
  rw [again]
theorem dayF_bound (h : CallsN cs) {x : Int} {ns : List Int} (hn : LaneN ns) {u : Nat} (i : Nat) : 0 ≤ dayF cs x ns u i ∧ dayF cs x ns u i ≤ 260 := by
  have pos := h.pos
  have most := h.most
  have ln : LaneN (daysN cs i ns) := days_lane h i hn
  have l60 := cars60 ln
  have eb := en_bound (cs := cs) (w := oneN cs) (b := 0) (ns := daysN cs i ns) wt_one.at_ cs.length
  have fb := fr_bounds (cs := cs) x (daysN cs i ns) pos cs.length
  have l61 : (sqN cs 0 (daysN cs i ns) cs.length).length ≤ 60 := by
    rw [show sqN cs 0 (daysN cs i ns) cs.length = sqN cs 0 (daysN cs i ns) (1 * cs.length) by rw [Nat.one_mul], ← days_sq pos]
    exact cars60 (days_lane h 1 ln)
  unfold dayF cntL
  match u with
  | 0 => simp only [List.getD_cons_zero]; omega
  | 1 => simp only [List.getD_cons_succ, List.getD_cons_zero]; omega
  | 2 => simp only [List.getD_cons_succ, List.getD_cons_zero]; omega
  | u + 3 => simp only [List.getD_cons_succ, List.getD_nil]; omega
theorem sum_bound {f : Nat → Int} (h : ∀ i, 0 ≤ f i ∧ f i ≤ 260) : ∀ l : List Nat, 0 ≤ (l.map f).sum ∧ (l.map f).sum ≤ 260 * (l.length : Int)
  | [] => ⟨by simp, by simp⟩
  | i :: l => by
    have := sum_bound h l
    have := h i
    rw [List.map_cons, List.sum_cons, List.length_cons]
    push_cast
    omega
theorem mo_all (pos : 1 ≤ cs.length) {ns : List Int} {t d : Nat} (h : t = d ∨ t = b0N cs ns + plN cs ns ∧ t ≤ d) : moN cs 0 ns (d * cs.length) = gM ns.length (fun i => moN cs 0 (daysN cs i ns) cs.length) t := by
  rw [mo_days pos]
  rcases h with h | ⟨h1, h2⟩
  · rw [h]
  · obtain ⟨e, rfl⟩ : ∃ e, d = t + e := ⟨d - t, by omega⟩
    subst h1
    exact gM_per pl_pos (fun i => by rw [again]) e
end
section
def enF (s : Int × List Int) (c : Int) : Int × List Int := (if c ∈ s.2 then s.1 else s.1 + 1, stepN s.2 c)
theorem en_fold {cs : List Int} (pos : 1 ≤ cs.length) (ns : List Int) : ∀ t, t ≤ cs.length → (cs.take t).foldl enF (0, ns) = (enN cs (oneN cs) 0 ns t, sqN cs 0 ns t)
  | 0, _ => rfl
  | t + 1, h => by
    have hc : t < cs.length := by omega
    rw [List.take_succ_eq_append_getElem hc, List.foldl_append, en_fold pos ns t (by omega)]
    have ec : carT cs (0 + t) = cs[t] := by
      have h1 := car_of pos (0 + t)
      rw [Nat.zero_add] at h1 ⊢
      rw [Nat.mod_eq_of_lt hc, List.getElem?_eq_getElem hc] at h1
      exact (Option.some.inj h1).symm
    show (if cs[t] ∈ sqN cs 0 ns t then enN cs (oneN cs) 0 ns t else enN cs (oneN cs) 0 ns t + 1, stepN (sqN cs 0 ns t) cs[t]) = (enN cs (oneN cs) 0 ns t + (if carT cs (0 + t) ∈ sqN cs 0 ns t then 0 else wT cs (oneN cs) (0 + t)), stepN (sqN cs 0 ns t) (carT cs (0 + t)))
    rw [oneW_at pos, ec]
    split <;> simp
abbrev cs60 : List Int := (List.range 60).map fun i : Nat => (i : Int)
theorem len60 : cs60.length = 60 := by simp
theorem pos60 : 1 ≤ cs60.length := by rw [len60]; decide
theorem le60 : 60 ≤ cs60.length := by rw [len60]; decide
theorem take60 : cs60.take 60 = cs60 := List.take_of_length_le (by rw [len60]; decide)
theorem day60_0 : cs60.foldl enF (0, []) = (60, cs60) := by decide +kernel
theorem day60 : ∀ j : Fin 60, cs60.foldl enF (0, cs60.drop j.val) = (59, cs60.drop (j.val + 1)) := by decide +kernel
theorem day60s (j : Nat) (h : j < 60) : cs60.foldl enF (0, cs60.drop j) = (59, cs60.drop (j + 1)) := day60 ⟨j, h⟩
theorem fold60 (ns : List Int) : cs60.foldl enF (0, ns) = (enN cs60 (oneN cs60) 0 ns 60, sqN cs60 0 ns 60) := by
  have h := en_fold (cs := cs60) pos60 ns 60 le60
  rw [take60] at h
  exact h
theorem sq60_0 : sqN cs60 0 [] 60 = cs60 := by
  have h := fold60 []
  rw [day60_0] at h
  exact (Prod.mk.inj h).2.symm
theorem en60_0 : enN cs60 (oneN cs60) 0 [] 60 = 60 := by
  have h := fold60 []
  rw [day60_0] at h
  exact (Prod.mk.inj h).1.symm
theorem sq60 (j : Nat) (hj : j < 60) : sqN cs60 0 (cs60.drop j) 60 = cs60.drop (j + 1) := by
  have h := fold60 (cs60.drop j)
  rw [day60s j hj] at h
  exact (Prod.mk.inj h).2.symm
theorem en60 (j : Nat) (hj : j < 60) : enN cs60 (oneN cs60) 0 (cs60.drop j) 60 = 59 := by
  have h := fold60 (cs60.drop j)
  rw [day60s j hj] at h
  exact (Prod.mk.inj h).1.symm
theorem day1_60 (ns : List Int) : daysN cs60 1 ns = sqN cs60 0 ns 60 := by
  rw [days_sq pos60, len60]
theorem lane60 : ∀ j, j ≤ 60 → daysN cs60 (j + 1) [] = cs60.drop j
  | 0, _ => by rw [Nat.zero_add, day1_60, sq60_0, List.drop_zero]
  | j + 1, h => by rw [Nat.add_comm (j + 1) 1, days_add, lane60 j (by omega), day1_60, sq60 j (by omega)]
theorem sum60 : ∀ j, j ≤ 60 → gS (fun i => enN cs60 (oneN cs60) 0 (daysN cs60 i []) 60) (j + 1) = 60 + 59 * (j : Int)
  | 0, _ => by
    rw [gS_succ, gS_zero]
    show 0 + enN cs60 (oneN cs60) 0 [] 60 = _
    rw [en60_0]; rfl
  | j + 1, h => by
    rw [gS_succ, sum60 j (by omega), lane60 j (by omega), en60 j (by omega)]
    push_cast; omega
theorem last44 : enN cs60 (oneN cs60) 0 [] (61 * cs60.length) = 3600 := by
  rw [en_days pos60, len60]
  exact sum60 60 (by decide)
end
end DL
/-! isinstance(x, (T, U)), d.get(k, y) of a dict that changes, a def that calls itself -/
namespace DL
open PySem PySem.Spec PyProof.Rows L2
section
variable {X : Cx} {K : PySem.W.Frag} {H : Hp} {S : Sto}
def rIsiF (K : PySem.W.Frag) : List V → Hp → VK → Prop := fun xs H Q => ∃ (x : V) (tp : Addr) (cs : List V) (t : Value) (us : List Value) (b : Bool), xs = [x, .ref tp] ∧ SqT K H tp cs ∧ Paired ClsV cs us ∧ TyX K H x t ∧ PySem.W.kitAny K t us = some b ∧ Q (.bl b) H
theorem call_isiF : CallR X (.builtin "isinstance") (rIsiF X.K) := by
  intro pins s σ H xs us Q I r h
  obtain ⟨x, tp, cs, t, ws, b, rfl, hT, k, ty, e, q⟩ := h
  obtain ⟨u1, u2, rfl, r1, r2⟩ := vals2 r
  cases (show u2 = Value.ref tp from r2)
  obtain ⟨P, Z, p, hx⟩ := kit_of I r1 ty
  obtain ⟨its, rv, ⟨⟨cls, dd, data, sl⟩, ho, h2, n, h3⟩, hs⟩ := I.tuple hT
  have e3 := ClsV.all k rv
  subst e3
  simp only at h2 h3
  subst h2 h3
  exact PySem.W.kia_tup Z I.kIn p ho e hx fun tk => ⟨.bl b, H, I.tok tk, rfl, q⟩
def kitAnyB (a : String) : List String → Option Bool
  | [] => some false
  | b :: bs => match kitB a b with
    | some true => some true
    | some false => kitAnyB a bs
    | none => none
theorem kitAny_of {a : String} : ∀ {bs : List String} {r : Bool}, kitAnyB a bs = some r → PySem.W.kitAny K (.type a) (bs.map Value.type) = some r
  | [], r, h => by
    cases h
    exact kitAny_nil
  | b :: bs, r, h => by
    unfold kitAnyB at h
    split at h
    · rename_i e
      exact kitAny_cons (kit_ty e) (fun z => nomatch z) (fun _ => Option.some.inj h |>.symm ▸ rfl)
    · rename_i e
      exact kitAny_cons (kit_ty e) (fun _ => kitAny_of h) (fun z => nomatch z)
    · cases h
def isiTD : FL := fun ds S k => ∃ x Ts t b, ds = [x, .tup (Ts.map D.ty)] ∧ kindD S x = some t ∧ kitAnyB t Ts = some b ∧ k (.bl b) S
theorem RpL.tys : ∀ {ns : List String} {vs : List V}, RpL K H (ns.map D.ty) vs → vs = ns.map V.ty
  | [], vs, h => h.nil_of
  | n :: ns, vs, h => by
    obtain ⟨u, r, e', p, t⟩ := RpL.cons_of (d := .ty n) (ds := ns.map D.ty) h
    unfold Rp at p
    subst e' p
    rw [t.tys]; rfl
theorem cls_tys : ∀ ns : List String, Paired ClsV (ns.map V.ty) (ns.map Value.type)
  | [] => .nil
  | n :: ns => .cons (.ty n) (cls_tys ns)
theorem cIsiT : CallD X (.builtin "isinstance") isiTD := by
  refine ⟨_, call_isiF, fun ds S k vs H Q ⟨x, Ts, t, b, e, e1, e2, q⟩ r hS c => ?_⟩
  subst e
  obtain ⟨v, v', rfl, r1, r2⟩ := r.two
  obtain ⟨tp, cs, rfl, h1, h2⟩ := r2.tup_
  have := h2.tys; subst this
  exact ⟨v, tp, _, _, _, b, rfl, h1.sq, cls_tys Ts, kind_ty e1 r1 hS, kitAny_of e2, c _ _ _ _ q Stp.refl .bl hS⟩
theorem mt_getDt : MtR X "dict.get" (fun x xs H Q => ∃ a kvs c y, x = .ref a ∧ xs = [ckV c, y] ∧ H a = some (dkO a kvs) ∧ Q ((valV kvs c).getD y) H) := by
  rintro pins s σ H x xs v us Q I rx rs ⟨a, kvs, c, y, rfl, rfl, e, q⟩
  cases rx
  obtain ⟨u1, u2, rfl, r1, r2⟩ := vals2 rs
  obtain ⟨n, vs, rel, d⟩ := dk_any I (.inl e)
  refine call_meetsIn PySem.F.slot_dict_get d.typeIs PySem.F.entry_dict_get (PySem.F.args_dict_get_3 _ _ _) (meets_dict_get_default (caseK X.prog X.w) a (ck_is r1) n u2) ⟨_, d.mapOf, ?_⟩
  exact ⟨_, H, I.tok _, (rel.val c).getD r2, q⟩
theorem mGetDt : MtD X "dict.get" getDt := by
  refine ⟨_, mt_getDt, fun x ds S k v vs H Q ⟨c, y, ed, a, m, ex, ea, q⟩ rx rl hS cl => ?_⟩
  subst ex ed
  obtain rfl := rx.ref_
  obtain ⟨v1, v2, rfl, p1, p2⟩ := rl.two
  obtain rfl := ck_of p1
  obtain ⟨kvs, e, _, rm⟩ := dct_at ea hS
  refine ⟨a, kvs, c, v2, rfl, rfl, ?_, ?_⟩
  · exact e
  obtain ⟨z1, z2⟩ := rm.val c
  cases h : valD m c with
  | some d =>
    rw [h] at q
    obtain ⟨v', h1, h2⟩ := z1 d h
    rw [h1]
    exact cl _ _ _ _ q Stp.refl h2 hS
  | none =>
    rw [h] at q
    rw [z2 h]
    exact cl _ _ _ _ q Stp.refl p2 hS
end
/-- a def that is not called yet -/
theorem callee_none {P : Program} {w : World} {K : PySem.W.Frag} {mg : Str → Option Value} {base : Heap} {k : Nat} {x : Str} {st : Stmt} {ps : List Str} {n : Nat} (F : DefAt K mg x st ps) (hn : ps.length = n) : Callee P w K mg base CX0 k x n fun _ _ _ _ => False := by
  obtain ⟨f, fd, F, hm, hb⟩ := F.ex
  exact ⟨f, fd, ps, hn, ⟨fun vs H Q E ⟨ds, S, kk, ek, hl, r, _⟩ => by rw [← r.length, hl, hn], fun A outer s H args us vs Q E _ _ _ _ _ ⟨_, _, _, _, _, _, _, z, _⟩ => z.elim⟩, hm, F.kp, hb⟩
end DL
namespace DL
open PySem PySem.Spec PyProof.Rows L2
def c_law_sameI : Nat → Cn
  | 0 => fun _ _ _ _ => False
  | 1 => fun ds S k _ => ∃ i j : Int, ds = [.int i, .int j] ∧ k (.bl (decide (i = j))) S
  | 2 => fun ds S k _ => ∃ (p q : Addr) (a b : List Int), ds = [.ref p, .ref q] ∧ S p = some (.lst (a.map D.int)) ∧ S q = some (.lst (b.map D.int)) ∧ b.length ≤ 100 ∧ k (.bl (decide (a = b))) S
  | _ + 3 => fun _ _ _ _ => False
/-- a dict of numbers, 0 where there is none -/
def Tal (m : Dm) (f : Int → Int) : Prop := (∀ p ∈ m, ∃ i : Int, p.2 = .int i) ∧ ∀ x : Int, (valD m (some x)).getD (.int 0) = .int (f x)
theorem Tal.nil {f : Int → Int} (h : ∀ x, f x = 0) : Tal [] f := ⟨fun p hp => (nomatch hp), fun x => by rw [h x]; rfl⟩
theorem valD_cons {p : Ck × D} {m : Dm} {e : Ck} : valD (p :: m) e = if p.1 = e then some p.2 else valD m e := by
  unfold valD
  rw [List.find?_cons]
  by_cases h : p.1 = e
  · rw [decide_eq_true h, if_pos h]; rfl
  · rw [decide_eq_false h, if_neg h]
theorem valD_over {c e : Ck} {d : D} : ∀ {m : Dm}, valD (m.map fun p => if p.1 = c then (p.1, d) else p) e = if e = c ∧ (m.any fun p => decide (p.1 = c)) = true then some d else valD m e
  | [] => by simp
  | p :: m => by
    rw [List.map_cons, valD_cons, valD_cons, valD_over (m := m), List.any_cons]
    by_cases hp : p.1 = c
    · rw [if_pos hp]
      by_cases he : e = c
      · simp [he, hp]
      · have : ¬ p.1 = e := fun z => he (z.symm.trans hp)
        simp [he, this]
    · rw [if_neg hp]
      by_cases he : e = c
      · have : ¬ p.1 = e := fun z => hp (z.trans he)
        simp only [if_neg this, decide_eq_false hp, Bool.false_or]
      · simp [he]
theorem valD_app {e : Ck} {n : Dm} : ∀ {m : Dm}, valD (m ++ n) e = (valD m e).orElse fun _ => valD n e
  | [] => by simp [valD]
  | p :: m => by
    rw [List.cons_append, valD_cons, valD_cons, valD_app (m := m)]
    split <;> rfl
theorem valD_put {m : Dm} {c e : Ck} {d : D} : valD (putD m c d) e = if e = c then some d else valD m e := by
  unfold putD
  by_cases h : (m.any fun p => decide (p.1 = c)) = true
  · rw [if_pos h, valD_over]
    simp [h]
  · rw [if_neg h, valD_app, valD_cons]
    by_cases ec : e = c
    · subst ec
      have : valD m e = none := valD_none fun z => h (by
        obtain ⟨p, hp, e1⟩ := List.mem_map.mp z
        exact List.any_eq_true.mpr ⟨p, hp, by simp [e1]⟩)
      rw [this]; simp
    · have : ¬ c = e := fun z => ec z.symm
      simp [ec, this, valD]
theorem putD_len {m : Dm} {c : Ck} {d : D} : (putD m c d).length ≤ m.length + 1 := by
  unfold putD
  split
  · rw [List.length_map]; omega
  · rw [List.length_append]; exact Nat.le_refl _
theorem Tal.put {m : Dm} {f g : Int → Int} {c i : Int} (h : Tal m f) (hc : g c = i) (hg : ∀ x, x ≠ c → g x = f x) : Tal (putD m (some c) (.int i)) g := by
  refine ⟨fun p hp => ?_, fun x => ?_⟩
  · unfold putD at hp
    split at hp
    · obtain ⟨q, hq, rfl⟩ := List.mem_map.mp hp
      split
      · exact ⟨i, rfl⟩
      · exact h.1 q hq
    · rcases List.mem_append.mp hp with z | z
      · exact h.1 p z
      · have : p = (some c, .int i) := by simpa using z
        rw [this]; exact ⟨i, rfl⟩
  · rw [valD_put]
    by_cases e : x = c
    · subst e; rw [if_pos rfl, hc]; rfl
    · rw [if_neg (fun z => e (Option.some.inj z)), hg x e]; exact h.2 x
theorem Tal.ext {m : Dm} {f g : Int → Int} (h : Tal m f) (e : ∀ x, f x = g x) : Tal m g := ⟨h.1, fun x => by rw [← e x]; exact h.2 x⟩
def c_law_walk : Cn := fun ds S k _ => ∃ (ns cs : List Int) (d : Nat), ds = [tupI ns, tupI cs, .int (d : Nat)] ∧ LaneN ns ∧ CallsN cs ∧ d ≤ 20 ∧ ∀ p m S', Sub S S' → S p = none → S' p = some (.dct p m) → Tal m (fun x => frN cs x 0 ns (d * cs.length)) → k (.tup [.int (enN cs (oneN cs) 0 ns (d * cs.length)), .int (lvN cs ns (d * cs.length)), .ref p, .int (moN cs 0 ns (d * cs.length) : Nat)]) S'
def c_law_right43 (PT : Addr) : Cn := fun ds S k _ => ∃ a b N ns cs d, ds = [.ref a, tupI ns, tupI cs, .int (d : Nat)] ∧ S a = some (.lst b) ∧ ShedV N b ∧ N ≤ 10 ^ 9 ∧ LaneN ns ∧ CallsN cs ∧ d ≤ 20 ∧ TabP PT S ∧ ∀ b' S', ShedV (N + 10) b' → Ex a S b' S' → k (.bl true) S'
theorem eq_bl {neg a b : Bool} {S : Sto} {k : RK} (q : k (.bl (neg ^^ decide (a = b))) S) : eqD neg (.bl a) (.bl b) S k := by
  refine ⟨.bool a, .bool b, .bl _, .bl _, by cases a <;> decide, by cases b <;> decide, ?_⟩
  cases a <;> cases b <;> exact q
/-- the walk through all calls -/
def WI43 (p : Addr) (S0 : Sto) (ns cs : List Int) (d T : Nat) (o3 : Option D) (env : DEnv) (S : Sto) : Prop := ∃ o8 o9 o10 m, env = [some (tupI (sqN cs 0 ns T)), some (tupI cs), some (.int (d : Nat)), o3, some (.int (enN cs (oneN cs) 0 ns T)), some (.int (lvN cs ns T)), some (.ref p), some (.int (moN cs 0 ns T : Nat)), o8, o9, o10] ∧ S p = some (.dct p m) ∧ m.length ≤ T * 60 ∧ Tal m (fun x => frN cs x 0 ns T) ∧ Sub S0 S
theorem take_nd {l : List Int} {i : Nat} {x : Int} (nd : l.Nodup) (e : l[i]? = some x) : x ∉ l.take i ∧ ∀ y, y ∈ l.take (i + 1) ↔ y ∈ l.take i ∨ y = x := by
  have hi := (List.getElem?_eq_some_iff.mp e).1
  have e2 : l.take (i + 1) = l.take i ++ [x] := by rw [List.take_add_one, e]; rfl
  refine ⟨fun h => ?_, fun y => by rw [e2]; simp⟩
  have nd2 : (l.take (i + 1)).Nodup := nd.sublist (List.take_sublist ..)
  rw [e2, List.nodup_append] at nd2
  exact nd2.2.2 x h x (by simp) rfl
theorem all_eq {a b : List Int} (l : a.length = b.length) : ((List.range b.length).map fun i => decide (a.getD i 0 = b.getD i 0)).all id = decide (a = b) := by
  by_cases e : a = b
  · subst e
    simp
  · rw [decide_eq_false e]
    refine Bool.eq_false_iff.mpr fun z => e ?_
    rw [List.all_eq_true] at z
    refine List.ext_getElem l fun i h1 h2 => ?_
    have := z _ (List.mem_map.mpr ⟨i, List.mem_range.mpr h2, rfl⟩)
    simp only [id, decide_eq_true_eq] at this
    rw [List.getD_eq_getElem?_getD, List.getD_eq_getElem?_getD, List.getElem?_eq_getElem h1, List.getElem?_eq_getElem h2] at this
    exact this
theorem tyD_dct {S : Sto} {a : Addr} {m : Dm} (h : S a = some (.dct a m)) : tyD S "dict" (.ref a) := by
  unfold tyD; simp only [h, and_self]
/-- the cars that leave, one by one -/
def frG (cs : List Int) (ns : List Int) (T : Nat) (l : List Int) (c x : Int) : Int := frN cs x 0 ns T + if x ∈ l ∧ x ≠ c then 1 else 0
theorem frG_out {cs ns l : List Int} {T : Nat} {c x : Int} (h : ¬(x ∈ l ∧ x ≠ c)) : frG cs ns T l c x = frN cs x 0 ns T := by
  unfold frG; rw [if_neg h, Int.add_zero]
theorem frG_in {cs ns l : List Int} {T : Nat} {c x : Int} (h : x ∈ l ∧ x ≠ c) : frG cs ns T l c x = frN cs x 0 ns T + 1 := by
  unfold frG; rw [if_pos h]
theorem frG_eq {cs ns l l' : List Int} {T : Nat} {c x : Int} (h : (x ∈ l ∧ x ≠ c) ↔ (x ∈ l' ∧ x ≠ c)) : frG cs ns T l c x = frG cs ns T l' c x := by
  by_cases e : x ∈ l ∧ x ≠ c
  · rw [frG_in e, frG_in (h.mp e)]
  · rw [frG_out e, frG_out (fun z => e (h.mpr z))]
theorem frG_step {cs ns l : List Int} {T : Nat} {c x : Int} (ec : carT cs (0 + T) = c) (h : x ∈ l ↔ x ∈ sqN cs 0 ns T ∧ x ∉ sqN cs 0 ns (T + 1)) : frG cs ns T l c x = frN cs x 0 ns (T + 1) := by
  have f0 : frN cs x 0 ns (T + 1) = frN cs x 0 ns T + if x ≠ carT cs (0 + T) ∧ x ∈ sqN cs 0 ns T ∧ x ∉ sqN cs 0 ns (T + 1) then 1 else 0 := rfl
  rw [f0, ec]
  by_cases e : x ∈ l ∧ x ≠ c
  · rw [frG_in e, if_pos ⟨e.2, h.mp e.1⟩]
  · rw [frG_out e, if_neg (fun z => e ⟨h.mpr z.2, z.1⟩), Int.add_zero]
theorem cut_sub (ns : List Int) (lo hi : Option Int) : ∃ ys : List Int, cutD (ns.map D.int) lo hi = ys.map D.int ∧ ys.length ≤ ns.length ∧ ∀ y ∈ ys, y ∈ ns :=
  ⟨(ns.drop (HT.sIx (ns.map D.int).length 0 lo)).take (HT.sIx (ns.map D.int).length (ns.map D.int).length hi - HT.sIx (ns.map D.int).length 0 lo), by
    unfold cutD
    rw [← List.map_drop, ← List.map_take], by rw [List.length_take, List.length_drop]; omega, fun y hy => List.mem_of_mem_drop (List.mem_of_mem_take hy)⟩
theorem iseq_gen {re : RT} {env : DEnv} {S : Sto} {k : List D → (Sto → Prop) → Sto → Prop} (h : ∀ R : RK, (∀ a xs S1, S1 a = some (.lst xs) → k xs (fun S => S a = some (.lst xs)) S1 → R (.ref a) S1) → re env S R) : iSeq re env S k := by
  unfold iSeq
  refine h _ fun a xs S1 e q => ?_
  dsimp only
  rw [e]
  exact q
end DL
/-! programs as values: their form, depth and steps -/
namespace DL
open PySem PySem.Spec PyProof.Rows L2
mutual
def formD : D → Bool
  | .tup xs => decide (1 ≤ xs.length) && decide (xs.length ≤ 60) && formL xs
  | _ => false
def formL : List D → Bool
  | [] => true
  | x :: xs => stpF x && formL xs
def stpF : D → Bool
  | .int c => decide (0 ≤ c) && decide (c < 60)
  | .tup [.int n, q] => decide (1 ≤ n) && decide (n ≤ 10 ^ 30) && formD q
  | _ => false
end
mutual
def depD : D → Nat
  | .tup xs => 1 + depL xs
  | _ => 0
def depL : List D → Nat
  | [] => 0
  | x :: xs => max (depS x) (depL xs)
def depS : D → Nat
  | .tup [_, q] => depD q
  | _ => 0
end
mutual
def stD : D → Nat
  | .tup xs => xs.length + stL xs
  | _ => 0
def stL : List D → Nat
  | [] => 0
  | x :: xs => stS x + stL xs
def stS : D → Nat
  | .tup [_, q] => stD q
  | _ => 0
end
mutual
def htD : D → Nat
  | .tup xs => 1 + htL xs
  | _ => 0
def htL : List D → Nat
  | [] => 0
  | x :: xs => max (htD x) (htL xs)
end
/-- what the steps repeat -/
def innL : List D → List D
  | [] => []
  | .tup [_, q] :: xs => q :: innL xs
  | _ :: xs => innL xs
def innD : D → List D
  | .tup xs => innL xs
  | _ => []
/-- the form of one step, but for what it repeats -/
def step1 : D → Bool
  | .int c => decide (0 ≤ c) && decide (c < 60)
  | .tup [.int n, _] => decide (1 ≤ n) && decide (n ≤ 10 ^ 30)
  | _ => false
def form1 : D → Bool
  | .tup xs => decide (1 ≤ xs.length) && decide (xs.length ≤ 60) && xs.all step1
  | _ => false
def progD (v : D) : Bool := formD v && decide (depD v ≤ 8) && decide (stD v ≤ 200)
theorem formL_all : ∀ xs : List D, formL xs = xs.all stpF
  | [] => by unfold formL; rfl
  | x :: xs => by unfold formL; rw [List.all_cons, formL_all xs]
theorem step_split : ∀ x : D, stpF x = (step1 x && (innL [x]).all formD)
  | .int c => by unfold stpF; simp [step1, innL]
  | .tup [.int n, q] => by unfold stpF; simp [step1, innL]
  | .tup [.tup _, q] => by unfold stpF; simp [step1]
  | .tup [.non, q] => by unfold stpF; simp [step1]
  | .tup [.bl _, q] => by unfold stpF; simp [step1]
  | .tup [.str _, q] => by unfold stpF; simp [step1]
  | .tup [.ref _, q] => by unfold stpF; simp [step1]
  | .tup [.ty _, q] => by unfold stpF; simp [step1]
  | .tup [.lis _, q] => by unfold stpF; simp [step1]
  | .tup [.par _, q] => by unfold stpF; simp [step1]
  | .tup [.dic _ _, q] => by unfold stpF; simp [step1]
  | .tup [] => by unfold stpF; simp [step1]
  | .tup [_] => by unfold stpF; simp [step1]
  | .tup (_ :: _ :: _ :: _) => by unfold stpF; simp [step1]
  | .non => by unfold stpF; simp [step1]
  | .bl _ => by unfold stpF; simp [step1]
  | .str _ => by unfold stpF; simp [step1]
  | .ref _ => by unfold stpF; simp [step1]
  | .ty _ => by unfold stpF; simp [step1]
  | .lis _ => by unfold stpF; simp [step1]
  | .par _ => by unfold stpF; simp [step1]
  | .dic _ _ => by unfold stpF; simp [step1]
theorem inn_cons (x : D) (xs : List D) : innL (x :: xs) = innL [x] ++ innL xs := by
  match x with
  | .tup [a, q] => simp [innL]
  | .tup [] => simp [innL]
  | .tup [_] => simp [innL]
  | .tup (_ :: _ :: _ :: _) => simp [innL]
  | .int _ | .non | .bl _ | .str _ | .ref _ | .ty _ | .lis _ | .par _ | .dic _ _ => simp [innL]
theorem inn_app : ∀ xs ys : List D, innL (xs ++ ys) = innL xs ++ innL ys
  | [], ys => rfl
  | x :: xs, ys => by rw [List.cons_append, inn_cons, inn_app xs ys, inn_cons x xs, List.append_assoc]
theorem all_split : ∀ xs : List D, xs.all stpF = (xs.all step1 && (innL xs).all formD)
  | [] => rfl
  | x :: xs => by
    rw [List.all_cons, List.all_cons, step_split, all_split xs, inn_cons x xs, List.all_append]
    cases step1 x <;> cases (innL [x]).all formD <;> cases xs.all step1 <;> rfl
theorem form_split : ∀ v : D, formD v = (form1 v && (innD v).all formD)
  | .tup xs => by
    unfold formD
    show _ = (decide (1 ≤ xs.length) && decide (xs.length ≤ 60) && xs.all step1 && (innL xs).all formD)
    rw [formL_all, all_split, Bool.and_assoc, Bool.and_assoc, Bool.and_assoc]
  | .int _ | .non | .bl _ | .str _ | .ref _ | .ty _ | .lis _ | .par _ | .dic _ _ => by unfold formD; simp [form1]
def maxL (l : List Nat) : Nat := l.foldr max 0
theorem maxL_app : ∀ a b : List Nat, maxL (a ++ b) = max (maxL a) (maxL b)
  | [], b => by simp [maxL]
  | x :: a, b => by
    have := maxL_app a b
    show max x (maxL (a ++ b)) = max (max x (maxL a)) (maxL b)
    omega
theorem dep_inn : ∀ xs : List D, depL xs = maxL ((innL xs).map depD)
  | [] => by unfold depL; rfl
  | x :: xs => by
    unfold depL
    rw [dep_inn xs, inn_cons, List.map_append, maxL_app]
    congr 1
    match x with
    | .tup [a, q] => simp [depS, innL, maxL]
    | .tup [] => simp [depS, innL, maxL]
    | .tup [_] => simp [depS, innL, maxL]
    | .tup (_ :: _ :: _ :: _) => simp [depS, innL, maxL]
    | .int _ | .non | .bl _ | .str _ | .ref _ | .ty _ | .lis _ | .par _ | .dic _ _ => simp [depS, innL, maxL]
theorem st_inn : ∀ xs : List D, stL xs = ((innL xs).map stD).sum
  | [] => by unfold stL; rfl
  | x :: xs => by
    unfold stL
    rw [st_inn xs, inn_cons, List.map_append, List.sum_append]
    congr 1
    match x with
    | .tup [a, q] => simp [stS, innL]
    | .tup [] => simp [stS, innL]
    | .tup [_] => simp [stS, innL]
    | .tup (_ :: _ :: _ :: _) => simp [stS, innL]
    | .int _ | .non | .bl _ | .str _ | .ref _ | .ty _ | .lis _ | .par _ | .dic _ _ => simp [stS, innL]
theorem inn_len : ∀ xs : List D, (innL xs).length ≤ xs.length
  | [] => Nat.le_refl _
  | x :: xs => by
    have := inn_len xs
    rw [inn_cons, List.length_append, List.length_cons]
    have h1 : (innL [x]).length ≤ 1 := by
      match x with
      | .tup [a, q] => simp [innL]
      | .tup [] => simp [innL]
      | .tup [_] => simp [innL]
      | .tup (_ :: _ :: _ :: _) => simp [innL]
      | .int _ | .non | .bl _ | .str _ | .ref _ | .ty _ | .lis _ | .par _ | .dic _ _ => simp [innL]
    omega
end DL
namespace DL
open PySem PySem.Spec PyProof.Rows L2
def lenT : D → Nat
  | .tup xs => xs.length
  | _ => 0
theorem st_lev (d : D) : stD d = lenT d + ((innD d).map stD).sum := by
  match d with
  | .tup xs =>
    unfold stD
    rw [st_inn]; rfl
  | .int _ | .non | .bl _ | .str _ | .ref _ | .ty _ | .lis _ | .par _ | .dic _ _ => unfold stD; rfl
theorem lev_st : ∀ L : List D, (L.map stD).sum = (L.map lenT).sum + ((L.flatMap innD).map stD).sum
  | [] => rfl
  | d :: L => by
    rw [List.map_cons, List.sum_cons, List.map_cons, List.sum_cons, List.flatMap_cons, List.map_append, List.sum_append, lev_st L, st_lev d]
    omega
theorem lev_form : ∀ L : List D, L.all formD = (L.all form1 && (L.flatMap innD).all formD)
  | [] => rfl
  | d :: L => by
    rw [List.all_cons, List.all_cons, List.flatMap_cons, List.all_append, lev_form L, form_split d]
    cases form1 d <;> cases (innD d).all formD <;> cases L.all form1 <;> rfl
theorem form1_tup {d : D} (h : form1 d = true) : ∃ xs, d = .tup xs ∧ 1 ≤ xs.length ∧ xs.length ≤ 60 := by
  match d, h with
  | .tup xs, h =>
    simp only [form1, Bool.and_eq_true, decide_eq_true_eq] at h
    exact ⟨xs, rfl, h.1.1, h.1.2⟩
theorem lev_dep : ∀ {L : List D}, L.all form1 = true → L ≠ [] → maxL (L.map depD) = 1 + maxL ((L.flatMap innD).map depD)
  | [], _, h => absurd rfl h
  | [d], h, _ => by
    rw [List.all_cons, Bool.and_eq_true] at h
    obtain ⟨xs, rfl, _, _⟩ := form1_tup h.1
    show max (depD (.tup xs)) 0 = _
    unfold depD
    rw [dep_inn, List.flatMap_cons, List.flatMap_nil, List.append_nil]
    show max (1 + maxL ((innL xs).map depD)) 0 = 1 + maxL ((innL xs).map depD)
    omega
  | d :: e :: L, h, _ => by
    rw [List.all_cons, Bool.and_eq_true] at h
    have ih := lev_dep (L := e :: L) h.2 (by simp)
    obtain ⟨xs, rfl, _, _⟩ := form1_tup h.1
    rw [List.map_cons, List.flatMap_cons, List.map_append, maxL_app]
    show max (depD (.tup xs)) (maxL ((e :: L).map depD)) = _
    rw [ih]
    unfold depD
    rw [dep_inn]
    show max (1 + maxL ((innL xs).map depD)) _ = 1 + max (maxL ((innL xs).map depD)) _
    omega
/-- what the walk over the levels still has to find -/
def levA (s i : Nat) (L : List D) : Bool := L.all formD && decide (s + (L.map stD).sum ≤ 200) && decide (i + maxL (L.map depD) ≤ 8)
theorem lev_0 (v : D) : levA 0 0 [v] = progD v := by
  unfold levA progD
  have e1 : (0 : Nat) + ([v].map stD).sum = stD v := by simp
  have e2 : (0 : Nat) + maxL ([v].map depD) = depD v := by simp [maxL]
  have e3 : [v].all formD = formD v := by simp
  rw [e1, e2, e3]
  cases formD v <;> cases decide (stD v ≤ 200) <;> cases decide (depD v ≤ 8) <;> rfl
theorem lev_next {s i : Nat} {L : List D} (h : L.all form1 = true) (n : L ≠ []) : levA s i L = levA (s + (L.map lenT).sum) (i + 1) (L.flatMap innD) := by
  unfold levA
  rw [lev_form, h, Bool.true_and, lev_st, lev_dep h n, Nat.add_assoc, Nat.add_assoc]
theorem lev_bad {s i : Nat} {L : List D} {d : D} (hd : d ∈ L) (h : form1 d = false) : levA s i L = false := by
  unfold levA
  have : L.all formD = false := List.all_eq_false.mpr ⟨d, hd, by rw [form_split, h]; simp⟩
  rw [this]; rfl
theorem lev_many {s i : Nat} {P : List D} {L : List D} (hp : ∃ Q, L = P ++ Q) (h : 200 < s + (P.map lenT).sum) : levA s i L = false := by
  obtain ⟨Q, rfl⟩ := hp
  unfold levA
  have : ¬ (s + ((P ++ Q).map stD).sum ≤ 200) := by
    rw [lev_st, List.map_append, List.sum_append]; omega
  rw [decide_eq_false this, Bool.and_false, Bool.false_and]
theorem lev_end {s i : Nat} (h : s ≤ 200) (hi : i ≤ 8) : levA s i [] = true := by
  unfold levA
  simp [maxL, h, hi]
theorem lev_deep {s : Nat} {L : List D} (n : L ≠ []) : levA s 8 L = false := by
  unfold levA
  by_cases h : L.all form1 = true
  · rw [lev_dep h n, decide_eq_false (p := 8 + (1 + _) ≤ 8) (by omega), Bool.and_false]
  · have : L.all formD = false := by
      rw [lev_form, Bool.eq_false_iff.mpr h]; rfl
    rw [this]; rfl
theorem fm_len : ∀ P : List D, (P.flatMap innD).length ≤ (P.map lenT).sum
  | [] => Nat.le_refl _
  | d :: P => by
    have := fm_len P
    rw [List.flatMap_cons, List.length_append, List.map_cons, List.sum_cons]
    have h1 : (innD d).length ≤ lenT d := by
      match d with
      | .tup xs => exact inn_len xs
      | .int _ | .non | .bl _ | .str _ | .ref _ | .ty _ | .lis _ | .par _ | .dic _ _ => exact Nat.le_refl _
    omega
/-- values that is_program may be asked about -/
inductive TG (S : Sto) : D → Prop
  | leaf {d : D} : isTup d = false → (kindD S d).isSome = true → TG S d
  | tup {xs : List D} : xs.length ≤ 4000 → (∀ x ∈ xs, TG S x) → TG S (.tup xs)
theorem TG.kind {S : Sto} {d : D} (h : TG S d) : (kindD S d).isSome = true := by
  cases h with
  | leaf _ k => exact k
  | tup _ _ => rfl
theorem TG.items {S : Sto} {xs : List D} (h : TG S (.tup xs)) : xs.length ≤ 4000 ∧ ∀ x ∈ xs, TG S x := by
  cases h with
  | leaf e _ => cases e
  | tup l g => exact ⟨l, g⟩
theorem TG.kn {S : Sto} {d : D} (h : TG S d) : Kn S d := ⟨h.kind, fun xs e => by subst e; exact ⟨h.items.1, fun y hy => (h.items.2 y hy).kind⟩⟩
theorem kind_sub {S S' : Sto} (s : Sub S S') {d : D} (h : (kindD S d).isSome = true) : kindD S' d = kindD S d := by
  cases d with
  | ref a =>
    unfold kindD at h ⊢
    dsimp only at h ⊢
    cases e : S a with
    | none => rw [e] at h; cases h
    | some o => rw [s a o e]
  | _ => rfl
theorem TG.sub {S S' : Sto} (s : Sub S S') {d : D} (h : TG S d) : TG S' d := by
  induction h with
  | leaf e k => exact .leaf e (by rw [kind_sub s k]; exact k)
  | tup l _ ih => exact .tup l ih
theorem TG.inn {S : Sto} : ∀ {xs : List D}, (∀ x ∈ xs, TG S x) → ∀ q ∈ innL xs, TG S q
  | [], _, q, hq => by cases hq
  | x :: xs, h, q, hq => by
    rw [inn_cons] at hq
    rcases List.mem_append.mp hq with z | z
    · have hx := h x (List.mem_cons_self ..)
      match x, hx, z with
      | .tup [a, b], hx, z =>
        simp only [innL, List.mem_singleton] at z
        subst z
        exact hx.items.2 _ (by simp)
      | .tup [], _, z => simp [innL] at z
      | .tup [_], _, z => simp [innL] at z
      | .tup (_ :: _ :: _ :: _), _, z => simp [innL] at z
      | .int _, _, z | .non, _, z | .bl _, _, z | .str _, _, z | .ref _, _, z | .ty _, _, z | .lis _, _, z | .par _, _, z | .dic _ _, _, z => simp [innL] at z
    · exact TG.inn (fun y hy => h y (List.mem_cons_of_mem _ hy)) q z
/-- one repetition, but for what it repeats -/
def rep1 : List D → Bool
  | [.int n, _] => decide (1 ≤ n) && decide (n ≤ 10 ^ 30)
  | _ => false
def repT : D → Bool
  | .tup ys => rep1 ys
  | _ => false
theorem form1_eq (xs : List D) : form1 (.tup xs) = (decide (1 ≤ xs.length) && decide (xs.length ≤ 60) && ((xs.filter fun x => !isTup x).all isCar && (xs.filter isTup).all repT)) := by
  have key : ∀ xs : List D, xs.all step1 = ((xs.filter fun x => !isTup x).all isCar && (xs.filter isTup).all repT) := fun xs => by
    induction xs with
    | nil => rfl
    | cons x xs ih =>
      rw [List.all_cons, ih]
      match x with
      | .tup ys =>
        rw [List.filter_cons_of_neg (by simp [isTup]), List.filter_cons_of_pos (by rfl), List.all_cons]
        have e : step1 (.tup ys) = rep1 ys := by
          match ys with
          | [.int n, q] => rfl
          | [] | [_] | (_ :: _ :: _ :: _) => simp [step1, rep1]
          | [.tup _, q] | [.non, q] | [.bl _, q] | [.str _, q] | [.ref _, q] | [.ty _, q] | [.lis _, q] | [.par _, q] | [.dic _ _, q] => simp [step1, rep1]
        rw [e]
        show (rep1 ys && (_ && _)) = (_ && (rep1 ys && _))
        rw [← Bool.and_assoc, ← Bool.and_assoc, Bool.and_comm (rep1 ys)]
      | .int c =>
        rw [List.filter_cons_of_pos (by simp [isTup]), List.filter_cons_of_neg (by simp [isTup]), List.all_cons]
        show (isCar (.int c) && _) = _
        rw [Bool.and_assoc]
      | .non | .bl _ | .str _ | .ref _ | .ty _ | .lis _ | .par _ | .dic _ _ =>
        rw [List.filter_cons_of_pos (by simp [isTup]), List.all_cons]
        simp [step1, isCar]
  show (_ && _ && xs.all step1) = _
  rw [key]
theorem isW_int {a : D} (h : isW a = true) : ∃ n, a = .int n := by
  cases a <;> simp [isW] at h
  exact ⟨_, rfl⟩
theorem rep1_no {a b : D} (h : isW a = false) : rep1 [a, b] = false := by
  cases a <;> simp [isW] at h <;> rfl
theorem rep1_len {xs : List D} (h : xs.length ≠ 2) : rep1 xs = false := by
  match xs, h with
  | [], _ | [_], _ | _ :: _ :: _ :: _, _ => simp [rep1]
  | [_, _], h => exact absurd rfl h
theorem two_of {xs : List D} (h : xs.length = 2) : ∃ a b, xs = [a, b] := by
  match xs, h with
  | [a, b], _ => exact ⟨a, b, rfl⟩
def sndT : D → D
  | .tup [_, q] => q
  | _ => .non
theorem inn_filter : ∀ {xs : List D}, (xs.filter isTup).all repT = true → innL xs = (xs.filter isTup).map sndT
  | [], _ => rfl
  | x :: xs, h => by
    rw [inn_cons]
    by_cases e : isTup x = true
    · rw [List.filter_cons_of_pos e, List.all_cons, Bool.and_eq_true] at h
      rw [List.filter_cons_of_pos e, List.map_cons, inn_filter h.2]
      match x, h.1 with
      | .tup [a, q], _ => rfl
      | .tup [], z | .tup [_], z | .tup (_ :: _ :: _ :: _), z => simp [repT, rep1] at z
    · rw [List.filter_cons_of_neg e] at h ⊢
      rw [inn_filter h]
      match x, e with
      | .int _, _ | .non, _ | .bl _, _ | .str _, _ | .ref _, _ | .ty _, _ | .lis _, _ | .par _, _ | .dic _ _, _ => simp [innL]
      | .tup _, e => exact absurd rfl e
theorem form1_is (xs : List D) : form1 (.tup xs) = (decide (1 ≤ xs.length) && decide (xs.length ≤ 60) && ((xs.filter fun x => !isTup x).all isCar && (xs.filter isTup).all repT)) := form1_eq xs
def c_is_repetition : Cn := fun ds S k _ => ∃ xs : List D, ds = [.tup xs] ∧ (∀ x ∈ xs, (kindD S x).isSome = true) ∧ k (.bl (rep1 xs)) S
def c_repeated_in : Cn := fun ds S k _ => ∃ v, ds = [v] ∧ TG S v ∧ (form1 v = false → ∀ S', Sub S S' → k .non S') ∧ (form1 v = true → ∀ p S', Sub S S' → S p = none → S' p = some (.lst (innD v)) → k (.ref p) S')
def c_is_program : Cn := fun ds S k _ => ∃ v, ds = [v] ∧ TG S v ∧ k (.bl (progD v)) S
def c_law_is_formF : Nat → Cn
  | 0 => fun _ _ _ _ => False
  | j + 1 => fun ds S k _ => ∃ v, ds = [v] ∧ TG S v ∧ htD v ≤ 2 * j ∧ k (.bl (formD v)) S
def c_law_depthF : Nat → Cn
  | 0 => fun _ _ _ _ => False
  | j + 1 => fun ds S k _ => ∃ v, ds = [v] ∧ formD v = true ∧ htD v ≤ 2 * j ∧ k (.int (depD v : Nat)) S
def c_law_stepsF : Nat → Cn
  | 0 => fun _ _ _ _ => False
  | j + 1 => fun ds S k _ => ∃ v, ds = [v] ∧ formD v = true ∧ htD v ≤ 2 * j ∧ k (.int (stD v : Nat)) S
def c_law_dueP : Cn := fun ds S k _ => ∃ v, ds = [v] ∧ TG S v ∧ htD v ≤ 26 ∧ k (.bl (progD v)) S
theorem ht_mem {x : D} : ∀ {xs : List D}, x ∈ xs → htD x ≤ htL xs
  | y :: ys, h => by
    unfold htL
    rcases List.mem_cons.mp h with z | z
    · subst z; exact Nat.le_max_left _ _
    · exact Nat.le_trans (ht_mem z) (Nat.le_max_right _ _)
theorem ht_tup (xs : List D) : htD (.tup xs) = 1 + htL xs := by
  conv => lhs; unfold htD
theorem ht_deep {xs : List D} {a q : D} (h : D.tup [a, q] ∈ xs) : htD q + 2 ≤ htD (.tup xs) := by
  have h1 := ht_mem h
  have h2 : htD q ≤ htL [a, q] := ht_mem (by simp)
  rw [ht_tup] at h1 ⊢
  omega
theorem form_far {xs : List D} {y : D} (hy : y ∈ xs) (h : stpF y = false) : formD (.tup xs) = false := by
  unfold formD
  have : formL xs = false := by
    rw [formL_all]
    exact List.all_eq_false.mpr ⟨y, hy, by rw [h]; decide⟩
  rw [this, Bool.and_false]
theorem form_near {xs : List D} (h1 : 1 ≤ xs.length) (h2 : xs.length ≤ 60) (h : xs.all stpF = true) : formD (.tup xs) = true := by
  unfold formD
  rw [formL_all, h, decide_eq_true h1, decide_eq_true h2]; rfl
theorem stpF_len {zs : List D} (h : zs.length ≠ 2) : stpF (.tup zs) = false := by
  match zs, h with
  | [], _ | [_], _ | _ :: _ :: _ :: _, _ => rw [step_split]; simp [step1]
  | [_, _], h => exact absurd rfl h
theorem stpF_no {a b : D} (h : isW a = false) : stpF (.tup [a, b]) = false := by
  cases a <;> simp [isW] at h <;> (unfold stpF; rfl)
theorem stpF_car {y : D} (h : isTup y = false) : stpF y = isCar y := by
  cases y <;> simp [isTup] at h <;> (unfold stpF; rfl)
theorem isCar_W {y : D} (h : isW y = false) : isCar y = false := by
  cases y <;> simp [isW] at h <;> rfl
theorem dep_tup (xs : List D) : depD (.tup xs) = 1 + depL xs := by
  conv => lhs; unfold depD
theorem st_tup (xs : List D) : stD (.tup xs) = xs.length + stL xs := by
  conv => lhs; unfold stD
theorem form_items {xs : List D} (h : formD (.tup xs) = true) : ∀ y ∈ xs, stpF y = true := by
  unfold formD at h
  rw [formL_all, Bool.and_eq_true] at h
  exact List.all_eq_true.mp h.2
theorem stp_kind {S : Sto} {y : D} (h : stpF y = true) : (kindD S y).isSome = true := by
  rw [step_split, Bool.and_eq_true] at h
  match y, h.1 with
  | .int _, _ => rfl
  | .tup _, _ => rfl
  | .non, z | .bl _, z | .str _, z | .ref _, z | .ty _, z | .lis _, z | .par _, z | .dic _ _, z => simp [step1] at z
theorem stp_tup {y : D} (ht : isTup y = true) (h : stpF y = true) : ∃ n b, y = .tup [.int n, b] ∧ formD b = true := by
  match y, ht with
  | .tup zs, _ =>
    by_cases z2 : zs.length = 2
    · obtain ⟨a, b, rfl⟩ := two_of z2
      by_cases w : isW a = true
      · obtain ⟨n, rfl⟩ := isW_int w
        refine ⟨n, b, rfl, ?_⟩
        rw [step_split, Bool.and_eq_true] at h
        have := h.2
        simp [innL] at this
        exact this
      · rw [stpF_no (Bool.eq_false_iff.mpr w)] at h; cases h
    · rw [stpF_len z2] at h; cases h
theorem depS_out {x : D} (h : isTup x = false) : depS x = 0 := by
  match x, h with
  | .int _, _ | .non, _ | .bl _, _ | .str _, _ | .ref _, _ | .ty _, _ | .lis _, _ | .par _, _ | .dic _ _, _ => unfold depS; rfl
theorem stS_out {x : D} (h : isTup x = false) : stS x = 0 := by
  match x, h with
  | .int _, _ | .non, _ | .bl _, _ | .str _, _ | .ref _, _ | .ty _, _ | .lis _, _ | .par _, _ | .dic _ _, _ => unfold stS; rfl
theorem dep_filter : ∀ xs : List D, maxL ((xs.filter isTup).map depS) = depL xs
  | [] => by unfold depL; rfl
  | x :: xs => by
    conv => rhs; unfold depL
    by_cases e : isTup x = true
    · rw [List.filter_cons_of_pos e, List.map_cons, ← dep_filter xs]; rfl
    · rw [List.filter_cons_of_neg e, dep_filter xs, depS_out (Bool.eq_false_iff.mpr e)]
      omega
theorem st_filter : ∀ xs : List D, ((xs.filter isTup).map fun y => ((stS y : Nat) : Int)).sum = ((stL xs : Nat) : Int)
  | [] => by unfold stL; rfl
  | x :: xs => by
    conv => rhs; unfold stL
    by_cases e : isTup x = true
    · rw [List.filter_cons_of_pos e, List.map_cons, List.sum_cons, st_filter xs]; push_cast; rfl
    · rw [List.filter_cons_of_neg e, st_filter xs, stS_out (Bool.eq_false_iff.mpr e)]; push_cast; omega
theorem maxL_mem : ∀ l : List Nat, maxL l = 0 ∨ maxL l ∈ l
  | [] => .inl rfl
  | x :: l => by
    show max x (maxL l) = 0 ∨ max x (maxL l) ∈ x :: l
    rcases Nat.le_total x (maxL l) with h | h
    · rw [Nat.max_eq_right h]
      rcases maxL_mem l with z | z
      · exact .inl z
      · exact .inr (List.mem_cons_of_mem _ z)
    · rw [Nat.max_eq_left h]; exact .inr (List.mem_cons_self ..)
theorem maxL_ge : ∀ {l : List Nat} {x : Nat}, x ∈ l → x ≤ maxL l
  | y :: l, x, h => by
    show x ≤ max y (maxL l)
    rcases List.mem_cons.mp h with z | z
    · omega
    · have := maxL_ge z; omega
theorem max_is {f : D → Nat} {l : List D} {m : Int} (h1 : m ∈ (0 : Int) :: l.map fun y => ((f y : Nat) : Int)) (h2 : ∀ y, y ∈ (0 : Int) :: (l.map fun y => ((f y : Nat) : Int)) → y ≤ m) : m = ((maxL (l.map f) : Nat) : Int) := by
  have l1 : m ≤ ((maxL (l.map f) : Nat) : Int) := by
    rcases List.mem_cons.mp h1 with z | z
    · omega
    · obtain ⟨y, hy, rfl⟩ := List.mem_map.mp z
      exact Int.ofNat_le.mpr (maxL_ge (List.mem_map.mpr ⟨y, hy, rfl⟩))
  have l2 : ((maxL (l.map f) : Nat) : Int) ≤ m := by
    rcases maxL_mem (l.map f) with z | z
    · rw [z]; exact h2 _ (List.mem_cons_self ..)
    · obtain ⟨y, hy, e⟩ := List.mem_map.mp z
      rw [← e]; exact h2 _ (List.mem_cons_of_mem _ (List.mem_map.mpr ⟨y, hy, rfl⟩))
  omega
/-- nested repetitions -/
def deepD : Nat → D
  | 0 => .tup [.int 5]
  | n + 1 => .tup [.tup [.int 2, deepD n], .int 6]
def c_law_deepN : Cn := fun ds S k _ => ∃ n : Nat, ds = [.int (n : Nat)] ∧ 1 ≤ n ∧ n ≤ 9 ∧ k (deepD (n - 1)) S
end DL
/-! values that repr shows, by their weight -/
namespace DL
open PySem PySem.Spec PyProof.Rows L2
structure RepP (dp W : Nat) (p : PyData) : Prop where
  sh : p.showable = true
  dp : p.depth ≤ dp
  lv : p.leavesShort 61 = true
  wt : p.weight ≤ W
theorem RepP.fits {W : Nat} {p : PyData} (h : RepP 30 W p) (hW : W ≤ 200000) : p.showable = true ∧ p.depth ≤ 30 ∧ p.shown.length ≤ sizeLine := by
  refine ⟨h.sh, h.dp, ?_⟩
  have a := PyData.shown_le 61 (by decide) p h.lv
  have b : (61 + 2) * p.weight ≤ 63 * 200000 := Nat.mul_le_mul (by decide) (Nat.le_trans h.wt hW)
  rw [sizeLine_eq]
  omega
theorem RepP.mono {d e W V : Nat} {p : PyData} (h : RepP d W p) (a : d ≤ e) (b : W ≤ V) : RepP e V p := ⟨h.sh, Nat.le_trans h.dp a, h.lv, Nat.le_trans h.wt b⟩
/-- what a value shows: without a dict, or without a list -/
def ShK (S : Sto) (κ : Bool) (d : D) (p : PyData) : Prop := if κ = true then PyD S d p else Py S d p ∧ p.hasDict = false
def ShKL (S : Sto) (κ : Bool) (ds : List D) (ps : List PyData) : Prop := if κ = true then PyDL S ds ps else PyL S ds ps ∧ PyData.hasDictAll ps = false
theorem ShK.shp {S : Sto} {κ : Bool} {d : D} {p : PyData} (h : ShK S κ d p) : ShP S d p := by
  cases κ with
  | true => exact .inr h
  | false => exact .inl h
theorem ShKL.nil {S : Sto} : ∀ {κ : Bool}, ShKL S κ [] []
  | true => PyDL.nil
  | false => ⟨.nil, rfl⟩
theorem ShKL.cons {S : Sto} {d : D} {p : PyData} {ds : List D} {ps : List PyData} : ∀ {κ : Bool}, ShK S κ d p → ShKL S κ ds ps → ShKL S κ (d :: ds) (p :: ps)
  | true, h, t => PyDL.cons h t
  | false, h, t => ⟨.cons h.1 t.1, by simp only [PyData.hasDictAll, h.2, t.2, Bool.or_self]⟩
theorem ShK.tup {S : Sto} {ds : List D} {ps : List PyData} : ∀ {κ : Bool}, ShKL S κ ds ps → ShK S κ (.tup ds) (.tuple ps)
  | true, h => PyD.tup h
  | false, h => ⟨.tup h.1, by simp only [PyData.hasDict]; exact h.2⟩
mutual
def wD : D → Nat
  | .tup xs => wL xs
  | .ref _ => 1000
  | _ => 200
def wL : List D → Nat
  | [] => 0
  | x :: xs => wD x + 1 + wL xs
end
def Shw (S : Sto) (κ : Bool) (d : D) (W dp : Nat) : Prop := ∃ p, ShK S κ d p ∧ RepP dp W p
theorem Shw.list {S : Sto} {κ : Bool} {dp : Nat} : ∀ {xs : List D}, (∀ x ∈ xs, Shw S κ x (wD x) dp) → ∃ ps, ShKL S κ xs ps ∧ PyData.showableAll ps = true ∧ PyData.depthAll ps ≤ dp ∧ PyData.leavesShortAll 61 ps = true ∧ PyData.weightAll ps ≤ wL xs
  | [], _ => ⟨[], .nil, rfl, Nat.zero_le _, rfl, Nat.zero_le _⟩
  | x :: xs, h => by
    obtain ⟨ps, a, b, c, e, f⟩ := Shw.list (xs := xs) fun y hy => h y (List.mem_cons_of_mem _ hy)
    obtain ⟨p, g, r⟩ := h x (List.mem_cons_self ..)
    refine ⟨p :: ps, .cons g a, by simp only [PyData.showableAll, r.sh, b, Bool.and_self], ?_, by simp only [PyData.leavesShortAll, r.lv, e, Bool.and_self], ?_⟩
    · have := r.dp
      simp only [PyData.depthAll]; omega
    · have := r.wt
      unfold wL
      simp only [PyData.weightAll]; omega
theorem w_tup (xs : List D) : wD (.tup xs) = wL xs := by conv => lhs; unfold wD
theorem Shw.tup {S : Sto} {κ : Bool} {dp : Nat} {xs : List D} (h : ∀ x ∈ xs, Shw S κ x (wD x) dp) : Shw S κ (.tup xs) (wD (.tup xs)) (dp + 1) := by
  obtain ⟨ps, a, b, c, e, f⟩ := Shw.list h
  rw [w_tup]
  exact ⟨.tuple ps, ShK.tup a, by simpa only [PyData.showable] using b, by simp only [PyData.depth]; omega, by simpa only [PyData.leavesShort] using e, by simpa only [PyData.weight] using f⟩
theorem Shw.mono {S : Sto} {κ : Bool} {d : D} {W V m n : Nat} (h : Shw S κ d W m) (a : W ≤ V) (b : m ≤ n) : Shw S κ d V n := by
  obtain ⟨p, x, y⟩ := h
  exact ⟨p, x, y.mono b a⟩
/-- a value that may be asked about and shown -/
structure Gd (S : Sto) (κ : Bool) (d : D) : Prop where
  tg : TG S d
  sh : Shw S κ d (wD d) (htD d + 2)
theorem Gd.tup {S : Sto} {κ : Bool} {xs : List D} (l : xs.length ≤ 4000) (h : ∀ x ∈ xs, Gd S κ x) : Gd S κ (.tup xs) := by
  refine ⟨.tup l fun x hx => (h x hx).tg, ?_⟩
  rw [ht_tup, Nat.add_assoc, Nat.add_comm 1]
  exact Shw.tup fun x hx => (h x hx).sh.mono (Nat.le_refl _) (by have := ht_mem hx; omega)
theorem Gd.nil {S : Sto} {κ : Bool} : Gd S κ .non := ⟨.leaf rfl rfl, .none, by cases κ; exact ⟨.non, rfl⟩; exact PyD.non, by simp [PyData.showable], Nat.zero_le _, by simp [PyData.leavesShort], Nat.zero_le _⟩
theorem Gd.bl {S : Sto} {κ : Bool} (b : Bool) : Gd S κ (.bl b) := ⟨.leaf rfl rfl, .bool b, by cases κ; exact ⟨.bl b, rfl⟩; exact PyD.bl b, by simp [PyData.showable], Nat.zero_le _, by simp [PyData.leavesShort], Nat.zero_le _⟩
theorem Gd.int {S : Sto} {κ : Bool} {i : Int} (h : i.natAbs < 10 ^ 60) : Gd S κ (.int i) := by
  have lg : i.natAbs.log2 < 200 := by
    by_cases z : i.natAbs = 0
    · rw [z]; decide
    · exact (Nat.log2_lt z).mpr (Nat.lt_trans h (by decide))
  refine ⟨.leaf rfl rfl, .int i, by cases κ; exact ⟨.int i, rfl⟩; exact PyD.int i, ?_, Nat.zero_le _, ?_, ?_⟩
  · simp only [PyData.showable, decide_eq_true_eq]; omega
  · simp only [PyData.leavesShort, decide_eq_true_eq]
    have e := int_text_length_le10 (k := 60) (by decide) h
    show (Str.ofString (toString i)).length ≤ 61
    rw [PySem.ofString_length]; exact e
  · unfold PyData.weight wD
    split
    · omega
    · omega
theorem Gd.str {S : Sto} {κ : Bool} {x : Str} (h : Tx x) (l : x.length ≤ 200) : Gd S κ (.str x) := by
  refine ⟨.leaf rfl rfl, .str x, by cases κ; exact ⟨.str x, rfl⟩; exact PyD.str x, by simp [PyData.showable], Nat.zero_le _, ?_, ?_⟩
  · simp only [PyData.leavesShort, List.all_eq_true, decide_eq_true_eq]
    exact h
  · unfold PyData.weight wD
    exact l
mutual
def pureD : D → Bool
  | .non => true
  | .bl _ => true
  | .int i => decide (i.natAbs < 10 ^ 60)
  | .str x => decide (x.cps.size ≤ 200) && x.cps.toList.all fun c => decide (c < 16 ^ 8)
  | .tup xs => decide (xs.length ≤ 4000) && pureL xs
  | _ => false
def pureL : List D → Bool
  | [] => true
  | x :: xs => pureD x && pureL xs
end
mutual
theorem pure_gd {S : Sto} {κ : Bool} : ∀ d : D, pureD d = true → Gd S κ d
  | .non, _ => .nil
  | .bl b, _ => .bl b
  | .int i, h => by unfold pureD at h; exact .int (of_decide_eq_true h)
  | .str x, h => by
    unfold pureD at h
    rw [Bool.and_eq_true] at h
    exact .str (by have := h.2; rw [List.all_eq_true] at this; exact fun c hc => of_decide_eq_true (this c hc)) (of_decide_eq_true h.1)
  | .tup xs, h => by
    unfold pureD at h
    rw [Bool.and_eq_true] at h
    exact .tup (of_decide_eq_true h.1) (pureL_gd xs h.2)
  | .ref _, h | .ty _, h | .lis _, h | .par _, h | .dic _ _, h => by unfold pureD at h; cases h
theorem pureL_gd {S : Sto} {κ : Bool} : ∀ ds : List D, pureL ds = true → ∀ d ∈ ds, Gd S κ d
  | [], _, d, hd => by cases hd
  | x :: xs, h, d, hd => by
    unfold pureL at h
    rw [Bool.and_eq_true] at h
    rcases List.mem_cons.mp hd with z | z
    · rw [z]; exact pure_gd x h.1
    · exact pureL_gd xs h.2 d z
end
theorem p30_60 {n : Int} (h1 : 1 ≤ n) (h2 : n ≤ 10 ^ 30) : n.natAbs < 10 ^ 60 := by
  have e : (10 : Int) ^ 30 = 1000000000000000000000000000000 := by decide
  have f : (10 : Nat) ^ 60 = 1000000000000000000000000000000000000000000000000000000000000 := by decide
  omega
mutual
theorem form_pure : ∀ d : D, formD d = true → pureD d = true
  | .tup xs, h => by
    unfold formD at h
    unfold pureD
    rw [Bool.and_eq_true, Bool.and_eq_true] at h
    rw [formL_pure xs h.2, decide_eq_true (Nat.le_trans (of_decide_eq_true h.1.2) (by decide))]; rfl
  | .non, h | .bl _, h | .int _, h | .str _, h | .ref _, h | .ty _, h | .lis _, h | .par _, h | .dic _ _, h => by unfold formD at h; cases h
theorem formL_pure : ∀ ds : List D, formL ds = true → pureL ds = true
  | [], _ => by unfold pureL; rfl
  | x :: xs, h => by
    unfold formL at h
    unfold pureL
    rw [Bool.and_eq_true] at h
    rw [stp_pure x h.1, formL_pure xs h.2]; rfl
theorem stp_pure : ∀ d : D, stpF d = true → pureD d = true
  | .int c, h => by
    unfold stpF at h
    unfold pureD
    rw [Bool.and_eq_true, decide_eq_true_eq, decide_eq_true_eq] at h
    exact decide_eq_true (p30_60 (n := c + 1) (by omega) (by have e : (10 : Int) ^ 30 = 1000000000000000000000000000000 := by decide
                                                             omega) |> fun z => by omega)
  | .tup [.int n, q], h => by
    unfold stpF at h
    rw [Bool.and_eq_true, Bool.and_eq_true, decide_eq_true_eq, decide_eq_true_eq] at h
    have hq := form_pure q h.2
    have hn : pureD (.int n) = true := by unfold pureD; exact decide_eq_true (p30_60 h.1.1 h.1.2)
    unfold pureD
    have : pureL [.int n, q] = true := by
      unfold pureL
      rw [hn]
      unfold pureL
      rw [hq]
      unfold pureL
      rfl
    rw [this]; rfl
  | .tup [.tup _, q], h | .tup [.non, q], h | .tup [.bl _, q], h | .tup [.str _, q], h | .tup [.ref _, q], h | .tup [.ty _, q], h | .tup [.lis _, q], h | .tup [.par _, q], h | .tup [.dic _ _, q], h
  | .tup [], h | .tup [_], h | .tup (_ :: _ :: _ :: _), h | .non, h | .bl _, h | .str _, h | .ref _, h | .ty _, h | .lis _, h | .par _, h | .dic _ _, h => by rw [step_split] at h; simp [step1] at h
end
mutual
theorem form_w : ∀ d : D, formD d = true → wD d ≤ 404 * stD d
  | .tup xs, h => by
    unfold formD at h
    rw [Bool.and_eq_true] at h
    rw [w_tup, st_tup]
    have := formL_w xs h.2
    omega
  | .non, h | .bl _, h | .int _, h | .str _, h | .ref _, h | .ty _, h | .lis _, h | .par _, h | .dic _ _, h => by unfold formD at h; cases h
theorem formL_w : ∀ ds : List D, formL ds = true → wL ds ≤ 404 * (ds.length + stL ds)
  | [], _ => by unfold wL; exact Nat.zero_le _
  | x :: xs, h => by
    unfold formL at h
    rw [Bool.and_eq_true] at h
    have h1 := stp_w x h.1
    have h2 := formL_w xs h.2
    unfold wL stL
    rw [List.length_cons]
    omega
theorem stp_w : ∀ d : D, stpF d = true → wD d ≤ 403 + 404 * stS d
  | .int c, h => by unfold wD; omega
  | .tup [.int n, q], h => by
    unfold stpF at h
    rw [Bool.and_eq_true] at h
    have hq := form_w q h.2
    have e1 : wD (.tup [.int n, q]) = 200 + 1 + (wD q + 1 + 0) := by
      rw [w_tup]
      unfold wL
      have : wD (.int n) = 200 := by unfold wD; rfl
      rw [this]
      unfold wL
      unfold wL
      rfl
    have e2 : stS (.tup [.int n, q]) = stD q := by unfold stS; rfl
    rw [e1, e2]
    omega
  | .tup [.tup _, q], h | .tup [.non, q], h | .tup [.bl _, q], h | .tup [.str _, q], h | .tup [.ref _, q], h | .tup [.ty _, q], h | .tup [.lis _, q], h | .tup [.par _, q], h | .tup [.dic _ _, q], h
  | .tup [], h | .tup [_], h | .tup (_ :: _ :: _ :: _), h | .non, h | .bl _, h | .str _, h | .ref _, h | .ty _, h | .lis _, h | .par _, h | .dic _ _, h => by rw [step_split] at h; simp [step1] at h
end
end DL
/-! drawn programs -/
namespace DL
open PySem PySem.Spec PyProof.Rows L2
mutual
def csD : D → List Int
  | .tup xs => csL xs
  | _ => []
def csL : List D → List Int
  | [] => []
  | x :: xs => csS x ++ csL xs
def csS : D → List Int
  | .int c => [c]
  | .tup [_, q] => csD q
  | _ => []
end
theorem csL_app : ∀ xs ys : List D, csL (xs ++ ys) = csL xs ++ csL ys
  | [], ys => by simp [csL]
  | x :: xs, ys => by
    show csL (x :: (xs ++ ys)) = csL (x :: xs) ++ csL ys
    conv => lhs; unfold csL
    conv => rhs; arg 1; unfold csL
    rw [csL_app xs ys, List.append_assoc]
theorem stL_app : ∀ xs ys : List D, stL (xs ++ ys) = stL xs + stL ys
  | [], ys => by show stL ys = stL [] + stL ys; conv => rhs; arg 1; unfold stL
                 omega
  | x :: xs, ys => by
    show stL (x :: (xs ++ ys)) = stL (x :: xs) + stL ys
    conv => lhs; unfold stL
    conv => rhs; arg 1; unfold stL
    rw [stL_app xs ys]; omega
theorem depL_app : ∀ xs ys : List D, depL (xs ++ ys) = max (depL xs) (depL ys)
  | [], ys => by show depL ys = max (depL []) (depL ys); conv => rhs; arg 1; unfold depL
                 omega
  | x :: xs, ys => by
    show depL (x :: (xs ++ ys)) = max (depL (x :: xs)) (depL ys)
    conv => lhs; unfold depL
    conv => rhs; arg 1; unfold depL
    rw [depL_app xs ys]; omega
theorem htL_app : ∀ xs ys : List D, htL (xs ++ ys) = max (htL xs) (htL ys)
  | [], ys => by show htL ys = max (htL []) (htL ys); conv => rhs; arg 1; unfold htL
                 omega
  | x :: xs, ys => by
    show htL (x :: (xs ++ ys)) = max (htL (x :: xs)) (htL ys)
    conv => lhs; unfold htL
    conv => rhs; arg 1; unfold htL
    rw [htL_app xs ys]; omega
theorem one_car (c : Int) : stL [.int c] = 0 ∧ depL [.int c] = 0 ∧ htL [.int c] = 0 ∧ csL [.int c] = [c] := by
  refine ⟨by simp [stL, stS], by simp [depL, depS], by simp [htL, htD], by simp [csL, csS]⟩
theorem one_rep (n : Int) (q : D) : stL [.tup [.int n, q]] = stD q ∧ depL [.tup [.int n, q]] = depD q ∧ htL [.tup [.int n, q]] = 1 + htD q ∧ csL [.tup [.int n, q]] = csD q := by
  refine ⟨by simp [stL, stS], by simp [depL, depS], by simp [htL, htD], by simp [csL, csS]⟩
theorem stp_car {c : Int} (h : Car c) : stpF (.int c) = true := by
  unfold stpF
  rw [decide_eq_true h.1, decide_eq_true h.2]; rfl
theorem stp_rep {n : Int} {q : D} (h1 : 1 ≤ n) (h2 : n ≤ 10 ^ 30) (h : formD q = true) : stpF (.tup [.int n, q]) = true := by
  unfold stpF
  rw [decide_eq_true h1, decide_eq_true h2, h]; rfl
theorem cs_tup (xs : List D) : csD (.tup xs) = csL xs := by conv => lhs; unfold csD
structure PgR (cs : List Int) (lev L : Nat) (v : D) : Prop where
  form : formD v = true
  dep : depD v ≤ lev
  st : stD v ≤ L
  ht : htD v + 1 ≤ 2 * lev
  cars : ∀ x ∈ csD v, x ∈ cs
theorem st_pos {v : D} (h : formD v = true) : 1 ≤ stD v := by
  rw [form_split, Bool.and_eq_true] at h
  obtain ⟨xs, rfl, h1, _⟩ := form1_tup h.1
  rw [st_tup]; omega
/-- the steps that are drawn so far -/
structure PgL (cs : List Int) (lev L i : Nat) (vs : List D) : Prop where
  form : vs.all stpF = true
  len : vs.length ≤ i
  some_ : 0 < i → vs ≠ []
  st : vs.length + stL vs ≤ L
  dep : depL vs + 1 ≤ lev
  ht : htL vs + 2 ≤ 2 * lev
  cars : ∀ x ∈ csL vs, x ∈ cs
theorem PgL.nil {cs : List Int} {lev L : Nat} (h : 1 ≤ lev) : PgL cs lev L 0 [] := ⟨rfl, Nat.le_refl _, fun z => absurd z (by omega), by simp [stL], by simp [depL]; omega, by simp [htL]; omega, by simp [csL]⟩
theorem PgL.skip {cs : List Int} {lev L i : Nat} {vs : List D} (h : PgL cs lev L i vs) (n : vs ≠ []) : PgL cs lev L (i + 1) vs := ⟨h.form, by have := h.len; omega, fun _ => n, h.st, h.dep, h.ht, h.cars⟩
theorem PgL.car {cs : List Int} {lev L i : Nat} {vs : List D} (h : PgL cs lev L i vs) {c : Int} (hc : c ∈ cs) (hC : Car c) (l : vs.length + stL vs < L) : PgL cs lev L (i + 1) (vs ++ [.int c]) := by
  obtain ⟨e1, e2, e3, e4⟩ := one_car c
  refine ⟨by rw [List.all_append, h.form, List.all_cons, stp_car hC]; rfl, by have := h.len; simp; omega, fun _ => by simp, ?_, ?_, ?_, ?_⟩
  · rw [stL_app, e1, List.length_append, List.length_singleton]; omega
  · rw [depL_app, e2]; have := h.dep; omega
  · rw [htL_app, e3]; have := h.ht; omega
  · rw [csL_app, e4]
    intro x hx
    rcases List.mem_append.mp hx with z | z
    · exact h.cars x z
    · rw [List.mem_singleton.mp z]; exact hc
theorem PgL.rep {cs : List Int} {lev L M i : Nat} {vs : List D} (h : PgL cs (lev + 1) L i vs) {n : Int} {q : D} (n1 : 1 ≤ n) (n2 : n ≤ 10 ^ 30) (hq : PgR cs lev M q) (l : vs.length + 1 + stL vs + stD q ≤ L) : PgL cs (lev + 1) L (i + 1) (vs ++ [.tup [.int n, q]]) := by
  obtain ⟨e1, e2, e3, e4⟩ := one_rep n q
  refine ⟨by rw [List.all_append, h.form, List.all_cons, stp_rep n1 n2 hq.form]; rfl, by have := h.len; simp; omega, fun _ => by simp, ?_, ?_, ?_, ?_⟩
  · rw [stL_app, e1, List.length_append, List.length_singleton]; omega
  · rw [depL_app, e2]; have := h.dep; have := hq.dep; omega
  · rw [htL_app, e3]; have := h.ht; have := hq.ht; omega
  · rw [csL_app, e4]
    intro x hx
    rcases List.mem_append.mp hx with z | z
    · exact h.cars x z
    · exact hq.cars x z
theorem PgL.done {cs : List Int} {lev L i : Nat} {vs : List D} (h : PgL cs lev L i vs) (i0 : 0 < i) (i60 : i ≤ 60) : PgR cs lev L (.tup vs) := by
  have n := h.some_ i0
  have l := h.len
  have l1 : 1 ≤ vs.length := List.length_pos_iff.mpr n
  refine ⟨form_near l1 (by omega) h.form, ?_, ?_, ?_, ?_⟩
  · rw [dep_tup]; have := h.dep; omega
  · rw [st_tup]; exact h.st
  · rw [ht_tup]; have := h.ht; omega
  · rw [cs_tup]; exact h.cars
def c_law_programF : Nat → Cn
  | 0 => fun _ _ _ _ => False
  | j + 1 => fun ds S k _ => ∃ (a c l : Addr) (b : List D) (N : Nat) (cs : List Int) (lev : Nat) (most wide : Int) (L : Nat), ds = [.ref a, .ref c, .int (lev : Nat), .int most, .int wide, .ref l] ∧ 1 ≤ lev ∧ lev ≤ j + 1 ∧ 1 ≤ most ∧ most ≤ 60 ∧ 1 ≤ wide ∧ wide ≤ 10 ^ 30 ∧
    S a = some (.lst b) ∧ ShedV N b ∧ N + 8 * L ≤ 10 ^ 20 ∧ a ≠ c ∧ a ≠ l ∧ c ≠ l ∧ S c = some (.lst (cs.map D.int)) ∧ cs ≠ [] ∧ cs.length ≤ 60 ∧ (∀ x ∈ cs, Car x) ∧ S l = some (.lst [.int (L : Nat)]) ∧ 1 ≤ L ∧ L ≤ 1000 ∧
    ∀ v b' S', PgR cs lev L v → ShedV (N + 8 * stD v) b' → S' a = some (.lst b') → S' l = some (.lst [.int (((L - stD v : Nat)) : Nat)]) → (∀ z o, z ≠ a → z ≠ l → S z = some o → S' z = some o) → k v S'
theorem have_then {P Q : Prop} (p : P) (f : P → Q) : Q := f p
theorem eq_is {b : Bool} {P : Prop} [Decidable P] (h : P) (q : b = decide P → b = true) (e : b = decide P) : b = true := q e
theorem if_gen3 {rt : RTt} {rb re : RTs} {ed : DE} {env : DEnv} {S : Sto} (h : ∀ (B E : RTs) (ed' : DE), B = rb → E = re → ed' = ed → rIf rt B E ed' env S) : rIf rt rb re ed env S := h _ _ _ rfl rfl rfl
def OddOk (S : Sto) (e : D) : Prop := (∃ κ, Gd S κ e) ∧ htD e ≤ 4 ∧ wD e ≤ 3000
theorem wL_app : ∀ xs ys : List D, wL (xs ++ ys) = wL xs + wL ys
  | [], ys => by show wL ys = wL [] + wL ys; conv => rhs; arg 1; unfold wL
                 omega
  | x :: xs, ys => by
    show wL (x :: (xs ++ ys)) = wL (x :: xs) + wL ys
    conv => lhs; unfold wL
    conv => rhs; arg 1; unfold wL
    rw [wL_app xs ys]; omega
theorem wL_one (y : D) : wL [y] = wD y + 1 := by
  unfold wL
  unfold wL
  rfl
theorem htL_one (y : D) : htL [y] = htD y := by
  unfold htL
  unfold htL
  omega
theorem swap_is {xs : List D} {u : Nat} (ul : u < xs.length) : xs = xs.take u ++ [xs[u]] ++ xs.drop (u + 1) := by
  rw [List.append_assoc, List.singleton_append, List.getElem_cons_drop, List.take_append_drop]
theorem swap_ht {xs : List D} {u : Nat} (ul : u < xs.length) (y : D) : htD (.tup (xs.take u ++ [y] ++ xs.drop (u + 1))) ≤ max (htD (.tup xs)) (1 + htD y) := by
  have e := congrArg htL (swap_is ul)
  rw [htL_app, htL_app, htL_one] at e
  rw [ht_tup, ht_tup, htL_app, htL_app, htL_one]
  omega
theorem swap_w {xs : List D} {u : Nat} (ul : u < xs.length) (y : D) : wD (.tup (xs.take u ++ [y] ++ xs.drop (u + 1))) + wD xs[u] = wD (.tup xs) + wD y := by
  have e := congrArg wL (swap_is ul)
  rw [wL_app, wL_app, wL_one] at e
  rw [w_tup, w_tup, wL_app, wL_app, wL_one]
  omega
theorem swap_gd {S : Sto} {κ : Bool} {xs : List D} {u : Nat} {y : D} (hf : formD (.tup xs) = true) (ul : u < xs.length) (hy : Gd S κ y) : Gd S κ (.tup (xs.take u ++ [y] ++ xs.drop (u + 1))) := by
  have pu := form_pure _ hf
  unfold pureD at pu
  rw [Bool.and_eq_true] at pu
  have g := pureL_gd (S := S) (κ := κ) xs pu.2
  refine .tup ?_ fun x hx => ?_
  · have := of_decide_eq_true pu.1
    simp only [List.length_append, List.length_take, List.length_drop, List.length_singleton]; omega
  · rcases List.mem_append.mp hx with z | z
    · rcases List.mem_append.mp z with z | z
      · exact g x (List.mem_of_mem_take z)
      · rw [List.mem_singleton.mp z]; exact hy
    · exact g x (List.mem_of_mem_drop z)
theorem odd_pure {S : Sto} {e : D} (h : pureD e = true) (a : htD e ≤ 4) (b : wD e ≤ 3000) : OddOk S e := ⟨⟨true, pure_gd e h⟩, a, b⟩
theorem gd_ref {S : Sto} {p : Addr} {xs : List D} {ps : List PyData} (e : S p = some (.lst xs)) (h : PyL S xs ps) (r : RepP 2 1000 (.list ps)) (n : PyData.hasDictAll ps = false) : Gd S false (.ref p) :=
  ⟨.leaf rfl (by unfold kindD; simp only [e]; rfl), .list ps, ⟨.lst e h, by simp only [PyData.hasDict]; exact n⟩, by unfold wD htD; exact r⟩
theorem gd_dic {S : Sto} {p : Addr} (e : S p = some (.ho (.dK []))) : Gd S true (.ref p) :=
  ⟨.leaf rfl (by unfold kindD; simp only [e]; rfl), .dict [], PyD.dk0 e, ⟨by decide, Nat.le_trans (show (PyData.dict []).depth ≤ 1 by decide) (by omega), by decide, Nat.le_trans (show (PyData.dict []).weight ≤ 0 by decide) (Nat.zero_le _)⟩⟩
theorem gd_r0 {S : Sto} {p : Addr} (e : S p = some (.lst [.int 0])) : Gd S false (.ref p) := gd_ref e (.cons (.int 0) .nil) ⟨by decide +kernel, by decide +kernel, by decide +kernel, by decide +kernel⟩ rfl
theorem gd_r1 {S : Sto} {p : Addr} (e : S p = some (.lst [.int 1])) : Gd S false (.ref p) := gd_ref e (.cons (.int 1) .nil) ⟨by decide +kernel, by decide +kernel, by decide +kernel, by decide +kernel⟩ rfl
theorem gd_r2 {S : Sto} {p : Addr} (e : S p = some (.lst [.int 2, .tup [.int 1]])) : Gd S false (.ref p) := gd_ref e (.cons (.int 2) (.cons (.tup (.cons (.int 1) .nil)) .nil)) ⟨by decide +kernel, by decide +kernel, by decide +kernel, by decide +kernel⟩ rfl
theorem gd_two {S : Sto} {κ : Bool} {x y : D} (h : Gd S κ x) (g : Gd S κ y) : Gd S κ (.tup [x, y]) := .tup (by simp) fun z hz => by
  rcases List.mem_cons.mp hz with e | e
  · rw [e]; exact h
  · rw [List.mem_singleton.mp e]; exact g
theorem Gd.sub {S S' : Sto} {κ : Bool} {d : D} (k : Sub S S') (h : Gd S κ d) : Gd S' κ d := by
  obtain ⟨p, g, r⟩ := h.sh
  refine ⟨h.tg.sub k, p, ?_, r⟩
  cases κ with
  | true => exact PyD.sub k _ _ g
  | false => exact ⟨Py.sub k _ _ g.1, g.2⟩
theorem OddOk.sub {S S' : Sto} {d : D} (k : Sub S S') (h : OddOk S d) : OddOk S' d := by
  obtain ⟨⟨κ, g⟩, a, b⟩ := h
  exact ⟨⟨κ, g.sub k⟩, a, b⟩
theorem del_mono {S S' : Sto} {a : Addr} (h : Sub S S') : Sub (S.del a) (S'.del a) := fun z o e => by
  by_cases q : z = a
  · subst q; unfold Sto.del at e; rw [if_pos rfl] at e; cases e
  · rw [Sto.del_ne q] at e ⊢; exact h z o e
def c_law_changedF : Nat → Cn
  | 0 => fun _ _ _ _ => False
  | j + 1 => fun ds S k _ => ∃ (a : Addr) (v : D) (b : List D) (N : Nat), ds = [.ref a, v] ∧ formD v = true ∧ htD v ≤ 2 * j ∧ S a = some (.lst b) ∧ ShedV N b ∧ N + 3 * j ≤ 10 ^ 20 ∧ ∀ v' b' S', (∃ κ, Gd (S'.del a) κ v') → htD v' ≤ htD v + 4 → wD v' ≤ wD v + 5000 → ShedV (N + 3 * j) b' → Ex a S b' S' → k v' S'
def TOk (S : Sto) (e : D) : Prop := TG S e ∧ htD e ≤ 26
theorem TOk.sub {S S' : Sto} {e : D} (k : Sub S S') (h : TOk S e) : TOk S' e := ⟨h.1.sub k, h.2⟩
theorem tok_pure {S : Sto} {e : D} (h : pureD e = true) (a : htD e ≤ 26) : TOk S e := ⟨(pure_gd (κ := true) e h).tg, a⟩
theorem tok_lst {S : Sto} {p : Addr} {xs : List D} (e : S p = some (.lst xs)) : TOk S (.ref p) := ⟨.leaf rfl (by unfold kindD; simp only [e]; rfl), by unfold htD; omega⟩
theorem tok_dic {S : Sto} {p : Addr} (e : S p = some (.ho (.dK []))) : TOk S (.ref p) := ⟨.leaf rfl (by unfold kindD; simp only [e]; rfl), by unfold htD; omega⟩
theorem rp_bl (b : Bool) : (PyData.bool b).showable = true ∧ (PyData.bool b).depth ≤ 30 ∧ (PyData.bool b).shown.length ≤ sizeLine := by
  cases b <;> exact ⟨by decide +kernel, by decide +kernel, by decide +kernel⟩
theorem sh_bl {S : Sto} (b : Bool) : ShP S (.bl b) (.bool b) := .inl ⟨.bl b, rfl⟩
/-- a value of the law, as it stays when the bag changes -/
structure VOk (a : Addr) (S : Sto) (v : D) : Prop where
  gd : ∃ κ, Gd (S.del a) κ v
  ht : htD v ≤ 24
  w : wD v ≤ 150000
theorem VOk.sub {a : Addr} {S S' : Sto} {v : D} (h : VOk a S v) (k : ∀ z o, z ≠ a → S z = some o → S' z = some o) : VOk a S' v := by
  obtain ⟨⟨κ, g⟩, b, c⟩ := h
  refine ⟨⟨κ, g.sub fun z o e => ?_⟩, b, c⟩
  by_cases q : z = a
  · subst q; unfold Sto.del at e; rw [if_pos rfl] at e; cases e
  · rw [Sto.del_ne q] at e ⊢; exact k z o q e
theorem VOk.tg {a : Addr} {S : Sto} {v : D} (h : VOk a S v) : TG S v := by
  obtain ⟨κ, g⟩ := h.gd
  exact g.tg.sub del_sub
theorem VOk.shown {a : Addr} {S : Sto} {v : D} (h : VOk a S v) : ∃ p, ShP S v p ∧ p.showable = true ∧ p.depth ≤ 30 ∧ p.shown.length ≤ sizeLine := by
  obtain ⟨κ, g⟩ := h.gd
  obtain ⟨p, z, r⟩ := g.sh
  have b := h.ht
  have c := h.w
  exact ⟨p, z.shp.sub del_sub, (r.mono (e := 30) (V := 200000) (by omega) (by omega)).fits (Nat.le_refl _)⟩
theorem add_toks {S : Sto} {q1 : Addr} {L1 : List D} {k : RK} (w1 : S q1 = some (.lst L1)) (tok : ∀ e ∈ L1, TOk S e) {M : List D} {n m : Nat} (l1 : L1.length = n) (pm : pureL M = true) (hm : htL M ≤ 26) (lm : M.length = m) (len : n + m ≤ 1000)
    (q : ∀ L2 q3 S3, Sub S S3 → S3 q3 = some (.lst L2) → (∀ e ∈ L2, TOk S3 e) → L2.length = n + m → k (.ref q3) S3) : ∀ p, S p = none → addD (.ref q1) (.ref p) (S.upd p (.lst M)) k := fun p hp => by
  refine add_ref (old_new hp w1) Sto.upd_same (Nat.le_trans (show L1.length + M.length ≤ 1000 by omega) (by decide)) fun q3 hq3 => q (L1 ++ M) q3 _ ((Sub.upd hp).trans (Sub.upd hq3)) Sto.upd_same (fun e he => ?_) (by rw [List.length_append]; omega)
  rcases List.mem_append.mp he with z | z
  · exact (tok e z).sub ((Sub.upd hp).trans (Sub.upd hq3))
  · exact ⟨(pureL_gd (κ := true) M pm e z).tg, Nat.le_trans (ht_mem z) hm⟩
end DL
namespace DL
open PySem PySem.Spec PyProof.Rows L2
section
variable {cs ns : List Int}
/-- the clear moments among the first ones -/
theorem clr_cl (pos : 1 ≤ cs.length) : ∀ m, ∃ c, CntN cs (fcN cs ns) m c ∧ clrL cs ns (fixN ns cs).length m = (List.range c).map fun i => ((clN cs (fcN cs ns) i : Nat) : Int)
  | 0 => ⟨0, ⟨fun i hi => absurd hi (by omega), Nat.zero_le _⟩, rfl⟩
  | m + 1 => by
    obtain ⟨c, ⟨h1, h2⟩, e⟩ := clr_cl pos m
    have ec : clrL cs ns (fixN ns cs).length (m + 1) = clrL cs ns (fixN ns cs).length m ++ (if (seqN cs ns m).length = (fixN ns cs).length then [((m : Nat) : Int)] else []) := by
      unfold clrL
      rw [List.range_succ, List.filter_append, List.map_append]
      congr 1
      by_cases e : (seqN cs ns m).length = (fixN ns cs).length
      · rw [if_pos e, List.filter_cons_of_pos (by simpa using e)]; rfl
      · rw [if_neg e, List.filter_cons_of_neg (by simpa using e)]; rfl
    rcases Nat.lt_or_eq_of_le h2 with z | z
    · refine ⟨c, ⟨fun i hi => Nat.lt_succ_of_lt (h1 i hi), z⟩, ?_⟩
      rw [ec, if_neg (cl_between pos h1 z), List.append_nil, e]
    · refine ⟨c + 1, ⟨fun i hi => ?_, ?_⟩, ?_⟩
      · rcases Nat.lt_or_eq_of_le (Nat.le_of_lt_succ hi) with w | w
        · exact Nat.lt_succ_of_lt (h1 i w)
        · subst w; omega
      · have := cl_two pos (f := fcN cs ns) (i := c); omega
      · have l := congrArg List.length (cl_clear (cs := cs) (ns := ns) pos c)
        rw [← z] at l
        rw [ec, if_pos l, e, List.range_succ, List.map_append, z]; rfl
theorem cnt_len (pos : 1 ≤ cs.length) {f m M c d : Nat} (h : CntN cs f m c) (g : CntN cs f M d) (l : m ≤ M) : ((((List.range d).map fun i => ((clN cs f i : Nat) : Int)).filter fun x => decide (x < ((m : Nat) : Int))).length) = c := by
  have cd : c ≤ d := by
    rcases Nat.lt_or_ge d c with z | z
    · have := h.1 d z
      have := g.2
      omega
    · exact z
  rw [List.filter_map, List.length_map]
  refine filter_cut d cd fun i hi => ?_
  show decide (((clN cs f i : Nat) : Int) < ((m : Nat) : Int)) = _
  by_cases z : i < c
  · have := h.1 i z
    rw [decide_eq_true z]; exact decide_eq_true (by omega)
  · have := cl_mono pos (f := f) (show c ≤ i by omega)
    have := h.2
    rw [decide_eq_false z]; exact decide_eq_false (by omega)
end
/-- a longer list of ints, shown -/
theorem fit_many {a : List Int} (h : ∀ x ∈ a, x.natAbs < 10 ^ 20) (l : a.length ≤ 2000) : (PyData.list (a.map PyData.int)).showable = true ∧ (PyData.list (a.map PyData.int)).depth ≤ 30 ∧ (PyData.list (a.map PyData.int)).shown.length ≤ sizeLine :=
  ((rep_lst (ps := a.map PyData.int) (d := 0) (W := 70) fun p hp => by
    obtain ⟨b, hb, rfl⟩ := List.mem_map.mp hp
    exact rep_int (Nat.lt_trans (h b hb) (by decide))).mono (e := 30) (V := 600000) (by omega) (by rw [List.length_map]; omega)).fits (by omega)
theorem gap4_0 : gapN [0, 1, 2, 1] 0 = 4 := by
  have := gap_is (cs := [0, 1, 2, 1]) (by decide) (next_small (cs := [0, 1, 2, 1]) (t := 0) (j := 4) (by decide))
  omega
theorem gap4_5 : gapN [0, 1, 2, 1] 5 = 2 := by
  have := gap_is (cs := [0, 1, 2, 1]) (by decide) (next_small (cs := [0, 1, 2, 1]) (t := 5) (j := 7) (by decide))
  omega
theorem gap4_8 : gapN [0, 1, 2, 1] 8 = 4 := by
  have := gap_is (cs := [0, 1, 2, 1]) (by decide) (next_small (cs := [0, 1, 2, 1]) (t := 8) (j := 12) (by decide))
  omega
theorem cl4_1 : clN [0, 1, 2, 1] 0 1 = 5 := by
  show 0 + gapN [0, 1, 2, 1] 0 + 1 = 5
  rw [gap4_0]
theorem cl4_2 : clN [0, 1, 2, 1] 0 2 = 8 := by
  show clN [0, 1, 2, 1] 0 1 + gapN [0, 1, 2, 1] (clN [0, 1, 2, 1] 0 1) + 1 = 8
  rw [cl4_1, gap4_5]
theorem cl4_3 : clN [0, 1, 2, 1] 0 3 = 13 := by
  show clN [0, 1, 2, 1] 0 2 + gapN [0, 1, 2, 1] (clN [0, 1, 2, 1] 0 2) + 1 = 13
  rw [cl4_2, gap4_8]
theorem gap3_3 : gapN [0, 1, 2] 3 = 3 := by
  have := gap_is (cs := [0, 1, 2]) (by decide) (next_small (cs := [0, 1, 2]) (t := 3) (j := 6) (by decide))
  omega
theorem gap3_7 : gapN [0, 1, 2] 7 = 3 := by
  have := gap_is (cs := [0, 1, 2]) (by decide) (next_small (cs := [0, 1, 2]) (t := 7) (j := 10) (by decide))
  omega
theorem cl3_1 : clN [0, 1, 2] 3 1 = 7 := by
  show 3 + gapN [0, 1, 2] 3 + 1 = 7
  rw [gap3_3]
theorem cl3_2 : clN [0, 1, 2] 3 2 = 11 := by
  show clN [0, 1, 2] 3 1 + gapN [0, 1, 2] (clN [0, 1, 2] 3 1) + 1 = 11
  rw [cl3_1, gap3_7]
theorem cnt4 {m c : Nat} (h : CntN [0, 1, 2, 1] 0 m c) : (m = 5 → c = 1) ∧ (m = 6 → c = 2) ∧ (m = 8 → c = 2) ∧ (m = 9 → c = 3) := by
  have c0 : clN [0, 1, 2, 1] 0 0 = 0 := rfl
  refine ⟨fun e => ?_, fun e => ?_, fun e => ?_, fun e => ?_⟩ <;> subst e
  · exact h.uniq (by decide) ⟨fun i hi => by rw [show i = 0 by omega, c0]; decide, by rw [cl4_1]; decide⟩
  · refine h.uniq (by decide) ⟨fun i hi => ?_, by rw [cl4_2]; decide⟩
    rcases (show i = 0 ∨ i = 1 by omega) with rfl | rfl
    · rw [c0]; decide
    · rw [cl4_1]; decide
  · refine h.uniq (by decide) ⟨fun i hi => ?_, by rw [cl4_2]; decide⟩
    rcases (show i = 0 ∨ i = 1 by omega) with rfl | rfl
    · rw [c0]; decide
    · rw [cl4_1]; decide
  · refine h.uniq (by decide) ⟨fun i hi => ?_, by rw [cl4_3]; decide⟩
    rcases (show i = 0 ∨ i = 1 ∨ i = 2 by omega) with rfl | rfl | rfl
    · rw [c0]; decide
    · rw [cl4_1]; decide
    · rw [cl4_2]; decide
theorem cnt3_0 {c : Nat} (h : CntN [0, 1, 2, 1] 3 3 c) : c = 0 := h.uniq (by decide) ⟨fun i hi => absurd hi (by omega), Nat.le_refl _⟩
end DL
/-! permutations of keys, round and round -/
namespace DL
open PySem PySem.Spec PyProof.Rows L2
def itP (f : Ck → Ck) : Nat → Ck → Ck
  | 0, x => x
  | n + 1, x => itP f n (f x)
structure PermK (ks : List Ck) (f : Ck → Ck) : Prop where
  nd : ks.Nodup
  cl : ∀ x ∈ ks, f x ∈ ks
  inj : ∀ x ∈ ks, ∀ y ∈ ks, f x = f y → x = y
section
variable {ks : List Ck} {f : Ck → Ck}
theorem itP_succ : ∀ (n : Nat) (x : Ck), itP f (n + 1) x = f (itP f n x)
  | 0, _ => rfl
  | n + 1, x => by show itP f (n + 1) (f x) = _; rw [itP_succ n]; rfl
theorem itP_add : ∀ (m n : Nat) (x : Ck), itP f (m + n) x = itP f m (itP f n x)
  | m, 0, x => rfl
  | m, n + 1, x => by show itP f (m + n) (f x) = itP f m (itP f n (f x)); rw [itP_add]
theorem itP_in (h : PermK ks f) : ∀ {n : Nat} {x : Ck}, x ∈ ks → itP f n x ∈ ks
  | 0, _, hx => hx
  | n + 1, x, hx => by show itP f n (f x) ∈ ks; exact itP_in h (h.cl x hx)
theorem itP_inj (h : PermK ks f) : ∀ {n : Nat} {x y : Ck}, x ∈ ks → y ∈ ks → itP f n x = itP f n y → x = y
  | 0, _, _, _, _, e => e
  | n + 1, x, y, hx, hy, e => h.inj x hx y hy (itP_inj h (n := n) (h.cl x hx) (h.cl y hy) e)
theorem some_pP (h : PermK ks f) {x : Ck} (hx : x ∈ ks) : ∃ p, 0 < p ∧ p ≤ ks.length ∧ itP f p x = x := by
  by_cases nd : ((List.range (ks.length + 1)).map fun n => itP f n x).Nodup
  · have := nd_leK (M := ks) nd fun y hy => by
      obtain ⟨n, _, rfl⟩ := List.mem_map.mp hy
      exact itP_in h hx
    simp at this
    omega
  · rw [List.nodup_iff_pairwise_ne, List.pairwise_iff_getElem] at nd
    have ⟨i, j, hi, hj, hij, e⟩ : ∃ i j, i < ks.length + 1 ∧ j < ks.length + 1 ∧ i < j ∧ itP f i x = itP f j x := Classical.byContradiction fun no => nd fun i j hi hj hij e => by
      simp only [List.length_map, List.length_range] at hi hj
      simp only [List.getElem_map, List.getElem_range] at e
      exact no ⟨i, j, hi, hj, hij, e⟩
    refine ⟨j - i, by omega, by omega, ?_⟩
    have : itP f i (itP f (j - i) x) = itP f i x := by
      rw [← itP_add, e]
      congr 1
      omega
    exact itP_inj h (itP_in h hx) hx this
theorem least_pP (h : PermK ks f) {x : Ck} (hx : x ∈ ks) : ∃ p, 0 < p ∧ p ≤ ks.length ∧ itP f p x = x ∧ ∀ q, 0 < q → q < p → itP f q x ≠ x := by
  have go : ∀ n, ∀ p, p ≤ n → 0 < p → p ≤ ks.length → itP f p x = x → ∃ p, 0 < p ∧ p ≤ ks.length ∧ itP f p x = x ∧ ∀ q, 0 < q → q < p → itP f q x ≠ x := by
    intro n
    induction n with
    | zero => intro p hp h0; omega
    | succ n ih =>
      intro p hp h0 hl e
      by_cases g : ∃ q, 0 < q ∧ q < p ∧ itP f q x = x
      · obtain ⟨q, q0, ql, qe⟩ := g
        exact ih q (by omega) q0 (by omega) qe
      · exact ⟨p, h0, hl, e, fun q q0 ql qe => g ⟨q, q0, ql, qe⟩⟩
  obtain ⟨p, p0, pl, e⟩ := some_pP h hx
  exact go p p (Nat.le_refl _) p0 pl e
def peP (ks : List Ck) (f : Ck → Ck) (x : Ck) : Nat := ((List.range ks.length).find? fun n => decide (itP f (n + 1) x = x)).getD 0 + 1
theorem peP_spec (h : PermK ks f) {x : Ck} (hx : x ∈ ks) : 0 < peP ks f x ∧ peP ks f x ≤ ks.length ∧ itP f (peP ks f x) x = x ∧ ∀ q, 0 < q → q < peP ks f x → itP f q x ≠ x := by
  obtain ⟨p, p0, pl, e, no⟩ := least_pP h hx
  have g : (List.range ks.length).find? (fun n => decide (itP f (n + 1) x = x)) = some (p - 1) := by
    rw [List.find?_range_eq_some]
    refine ⟨by simpa [show p - 1 + 1 = p by omega] using e, by simp; omega, fun j hj => ?_⟩
    simpa using no (j + 1) (by omega) (by omega)
  have ep : peP ks f x = p := by
    unfold peP
    rw [g]
    simp; omega
  rw [ep]
  exact ⟨p0, pl, e, no⟩
theorem peP_is (h : PermK ks f) {x : Ck} {p : Nat} (hx : x ∈ ks) (p0 : 0 < p) (e : itP f p x = x) (no : ∀ q, 0 < q → q < p → itP f q x ≠ x) : peP ks f x = p := by
  obtain ⟨a, _, b, c⟩ := peP_spec h hx
  rcases Nat.lt_trichotomy (peP ks f x) p with l | l | l
  · exact absurd b (no _ a l)
  · exact l
  · exact absurd e (c _ p0 l)
theorem itP_mul {x : Ck} {p : Nat} (e : itP f p x = x) : ∀ k, itP f (p * k) x = x
  | 0 => rfl
  | k + 1 => by rw [Nat.mul_succ, itP_add, e, itP_mul e k]
theorem itP_mod {x : Ck} {p : Nat} (e : itP f p x = x) (n : Nat) : itP f n x = itP f (n % p) x := by
  have h : n = n % p + p * (n / p) := (Nat.mod_add_div n p).symm
  conv => lhs; rw [h, itP_add, itP_mul e]
def cyP (f : Ck → Ck) (p : Nat) (x : Ck) : List Ck := (List.range p).map fun n => itP f n x
theorem cyP_len (p : Nat) (x : Ck) : (cyP f p x).length = p := by unfold cyP; simp
theorem cyP_get {x : Ck} {p n : Nat} (h : n < p) : (cyP f p x)[n]? = some (itP f n x) := by
  unfold cyP
  rw [List.getElem?_map, List.getElem?_range h]; rfl
theorem cyP_succ (n : Nat) (x : Ck) : cyP f (n + 1) x = cyP f n x ++ [itP f n x] := by
  unfold cyP
  rw [List.range_succ, List.map_append]; rfl
theorem cyP_nodup (h : PermK ks f) {x : Ck} {p : Nat} (hx : x ∈ ks) (hp : ∀ q, 0 < q → q < p → itP f q x ≠ x) : (cyP f p x).Nodup := by
  unfold cyP
  rw [List.nodup_iff_pairwise_ne, List.pairwise_iff_getElem]
  intro i j hi hj hij e
  simp only [List.length_map, List.length_range] at hi hj
  simp only [List.getElem_map, List.getElem_range] at e
  refine hp (j - i) (by omega) (by omega) (itP_inj h (n := i) (itP_in h hx) hx ?_)
  rw [← itP_add, e]
  congr 1
  omega
theorem cyP_mem (h : PermK ks f) {y z : Ck} (hy : y ∈ ks) : z ∈ cyP f (peP ks f y) y ↔ ∃ n, z = itP f n y := by
  obtain ⟨p0, _, pe, _⟩ := peP_spec h hy
  unfold cyP
  constructor
  · intro m
    obtain ⟨n, _, rfl⟩ := List.mem_map.mp m
    exact ⟨n, rfl⟩
  · rintro ⟨n, rfl⟩
    rw [itP_mod pe]
    exact List.mem_map.mpr ⟨n % peP ks f y, List.mem_range.mpr (Nat.mod_lt _ p0), rfl⟩
theorem itP_back (h : PermK ks f) {x : Ck} (hx : x ∈ ks) (k : Nat) : ∃ m, itP f m (itP f k x) = x := by
  obtain ⟨p0, _, pe, _⟩ := peP_spec h hx
  refine ⟨peP ks f x * k - k, ?_⟩
  rw [← itP_add]
  have e : peP ks f x * k - k + k = peP ks f x * k := by
    have : k ≤ peP ks f x * k := Nat.le_mul_of_pos_left k p0
    omega
  rw [e, itP_mul pe]
/-- the cycles, in the order of their first keys -/
def cysP (ks0 : List Ck) (f : Ck → Ck) : List Ck → List (List Ck) → List (List Ck)
  | [], acc => acc
  | x :: xs, acc => if x ∈ acc.flatten then cysP ks0 f xs acc else cysP ks0 f xs (acc ++ [cyP f (peP ks0 f x) x])
theorem cysP_snoc {ks0 : List Ck} : ∀ {xs : List Ck} {x : Ck} {acc : List (List Ck)}, cysP ks0 f (xs ++ [x]) acc = if x ∈ (cysP ks0 f xs acc).flatten then cysP ks0 f xs acc else cysP ks0 f xs acc ++ [cyP f (peP ks0 f x) x]
  | [], x, acc => by
    rfl
  | y :: xs, x, acc => by
    rw [List.cons_append]
    unfold cysP
    by_cases h : y ∈ acc.flatten
    · rw [if_pos h, if_pos h]; exact cysP_snoc
    · rw [if_neg h, if_neg h]; exact cysP_snoc
structure ClosedP (ks : List Ck) (f : Ck → Ck) (acc : List (List Ck)) : Prop where
  nd : acc.flatten.Nodup
  cl : ∀ z ∈ acc.flatten, ∀ n, itP f n z ∈ acc.flatten
  ca : ∀ z ∈ acc.flatten, z ∈ ks
  ex : ∀ r ∈ acc, ∃ x ∈ ks, r = cyP f (peP ks f x) x
theorem ClosedP.nil (ks : List Ck) (f : Ck → Ck) : ClosedP ks f [] := ⟨List.nodup_nil, fun _ z => (nomatch z), fun _ z => (nomatch z), fun _ z => (nomatch z)⟩
theorem ClosedP.snoc (hP : PermK ks f) {acc : List (List Ck)} {x : Ck} (h : ClosedP ks f acc) (hx : x ∈ ks) (n : x ∉ acc.flatten) : ClosedP ks f (acc ++ [cyP f (peP ks f x) x]) := by
  have fl : (acc ++ [cyP f (peP ks f x) x]).flatten = acc.flatten ++ cyP f (peP ks f x) x := by simp
  have apart : ∀ z ∈ cyP f (peP ks f x) x, z ∉ acc.flatten := fun z hz m => by
    obtain ⟨k, rfl⟩ := (cyP_mem hP hx).mp hz
    obtain ⟨j, e⟩ := itP_back hP hx k
    have := h.cl _ m j
    rw [e] at this
    exact n this
  refine ⟨?_, ?_, ?_, ?_⟩
  · rw [fl, List.nodup_append]
    exact ⟨h.nd, cyP_nodup hP hx (peP_spec hP hx).2.2.2, fun a ha b hb e => apart b hb (e ▸ ha)⟩
  · intro z hz k
    rw [fl] at hz ⊢
    rcases List.mem_append.mp hz with m | m
    · exact List.mem_append_left _ (h.cl z m k)
    · refine List.mem_append_right _ ?_
      obtain ⟨j, rfl⟩ := (cyP_mem hP hx).mp m
      exact (cyP_mem hP hx).mpr ⟨k + j, (itP_add k j x).symm⟩
  · intro z hz
    rw [fl] at hz
    rcases List.mem_append.mp hz with m | m
    · exact h.ca z m
    · obtain ⟨j, rfl⟩ := (cyP_mem hP hx).mp m
      exact itP_in hP hx
  · intro r hr
    rcases List.mem_append.mp hr with m | m
    · exact h.ex r m
    · exact ⟨x, hx, List.mem_singleton.mp m⟩
theorem cysP_closed (hP : PermK ks f) : ∀ i, ClosedP ks f (cysP ks f (ks.take i) [])
  | 0 => by rw [List.take_zero]; exact ClosedP.nil ks f
  | i + 1 => by
    by_cases hi : i < ks.length
    · rw [List.take_add_one, List.getElem?_eq_getElem hi]
      show ClosedP ks f (cysP ks f (ks.take i ++ [ks[i]]) [])
      rw [cysP_snoc]
      by_cases m : ks[i] ∈ (cysP ks f (ks.take i) []).flatten
      · rw [if_pos m]; exact cysP_closed hP i
      · rw [if_neg m]
        exact (cysP_closed hP i).snoc hP (List.getElem_mem hi) m
    · have e : ks.take (i + 1) = ks.take i := by rw [List.take_of_length_le (by omega), List.take_of_length_le (by omega)]
      rw [e]
      exact cysP_closed hP i
theorem closedP_few {acc : List (List Ck)} (c : ClosedP ks f acc) : acc.flatten.length ≤ ks.length := nd_leK (M := ks) c.nd c.ca
theorem cysP_len {ks0 : List Ck} : ∀ {xs : List Ck} {acc : List (List Ck)}, (cysP ks0 f xs acc).length ≤ acc.length + xs.length
  | [], acc => Nat.le_refl _
  | x :: xs, acc => by
    unfold cysP
    by_cases h : x ∈ acc.flatten
    · rw [if_pos h]
      have := cysP_len (ks0 := ks0) (xs := xs) (acc := acc)
      rw [List.length_cons]; omega
    · rw [if_neg h]
      have := cysP_len (ks0 := ks0) (xs := xs) (acc := acc ++ [cyP f (peP ks0 f x) x])
      rw [List.length_append] at this
      simp at this
      rw [List.length_cons]; omega
theorem cysP_sub {ks0 : List Ck} : ∀ {xs : List Ck} {acc : List (List Ck)}, ∀ z ∈ acc.flatten, z ∈ (cysP ks0 f xs acc).flatten
  | [], acc, z, h => h
  | x :: xs, acc, z, h => by
    unfold cysP
    split
    · exact cysP_sub z h
    · exact cysP_sub z (by rw [List.flatten_append]; exact List.mem_append_left _ h)
/-- each key stands in a cycle -/
theorem cysP_all (hP : PermK ks f) : ∀ {xs : List Ck}, (∀ x ∈ xs, x ∈ ks) → ∀ {acc : List (List Ck)}, ∀ z ∈ xs, z ∈ (cysP ks f xs acc).flatten
  | x :: xs, hx, acc, z, h => by
    unfold cysP
    rcases List.mem_cons.mp h with e | h
    · subst e
      split
      · rename_i m; exact cysP_sub z m
      · refine cysP_sub z ?_
        rw [List.flatten_append]
        refine List.mem_append_right _ ?_
        rw [List.flatten_cons, List.flatten_nil, List.append_nil]
        exact (cyP_mem hP (hx z (List.mem_cons_self ..))).mpr ⟨0, rfl⟩
    · split
      · exact cysP_all hP (fun y hy => hx y (List.mem_cons_of_mem _ hy)) z h
      · exact cysP_all hP (fun y hy => hx y (List.mem_cons_of_mem _ hy)) z h
end
abbrev dicP2 (ks : List Ck) (f : Ck → Ck) : D := .dic ks (ks.map fun x => ckD (f x))
theorem ixDk_P {ks : List Ck} {f : Ck → Ck} {x : Ck} {S : Sto} {k : RK} (hx : x ∈ ks) (q : k (ckD (f x)) S) : ixDk (dicP2 ks f) (ckD x) S k := ⟨_, _, x, _, rfl, rfl, dic_map (f := fun x => ckD (f x)) hx, q⟩
def c_cycle_fromP : Cn := fun ds S k _ => ∃ (ks : List Ck) (f : Ck → Ck) (x : Ck), ds = [dicP2 ks f, ckD x] ∧ PermK ks f ∧ ks.length ≤ 300 ∧ x ∈ ks ∧ ∀ p, S p = none → k (.ref p) (S.upd p (.lst ((cyP f (peP ks f x) x).map ckD)))
def c_cycles_inP : Cn := fun ds S k _ => ∃ (ks : List Ck) (f : Ck → Ck), ds = [dicP2 ks f] ∧ PermK ks f ∧ ks.length ≤ 300 ∧ ∀ p qs S', Sub S S' → S p = none → S' p = some (.lst (qs.map D.ref)) → (∀ q ∈ qs, S q = none ∧ q ≠ p) → Rows S' qs (cysP ks f ks []) → k (.ref p) S'
end DL
/-! cycles of the clear places (k19) -/
namespace DL
open PySem PySem.Spec PyProof.Rows L2
/-- the places of a day, as keys -/
def plK (n : Nat) : List Ck := (List.range n).map fun i => some ((i : Nat) : Int)
theorem plK_len {n : Nat} : (plK n).length = n := by simp [plK]
theorem pl_mem {n : Nat} {x : Ck} : x ∈ plK n ↔ ∃ i, i < n ∧ x = some ((i : Nat) : Int) := by
  unfold plK
  rw [List.mem_map]
  exact ⟨fun ⟨i, hi, e⟩ => ⟨i, List.mem_range.mp hi, e.symm⟩, fun ⟨i, hi, e⟩ => ⟨i, List.mem_range.mpr hi, e.symm⟩⟩
/-- where a clear place leads -/
noncomputable def nxK (cs : List Int) : Ck → Ck := fun x => x.map fun i => (((i.toNat + gapN cs i.toNat + 1) % cs.length : Nat) : Int)
section
variable {cs : List Int}
theorem nx_at (i : Nat) : nxK cs (some ((i : Nat) : Int)) = some (((i + gapN cs i + 1) % cs.length : Nat) : Int) := rfl
theorem pl_nd {n : Nat} : (plK n).Nodup := by
  unfold plK
  exact List.Pairwise.map _ (fun a b (h : a ≠ b) e => h (Int.ofNat.inj (Option.some.inj e))) List.nodup_range
theorem perm_nx (pos : 1 ≤ cs.length) : PermK (plK cs.length) (nxK cs) := by
  refine ⟨pl_nd, fun x hx => ?_, fun x hx y hy e => ?_⟩
  · obtain ⟨i, hi, rfl⟩ := pl_mem.mp hx
    rw [nx_at]
    exact pl_mem.mpr ⟨_, Nat.mod_lt _ pos, rfl⟩
  · obtain ⟨i, hi, rfl⟩ := pl_mem.mp hx
    obtain ⟨j, hj, rfl⟩ := pl_mem.mp hy
    rw [nx_at, nx_at] at e
    have e1 := Int.ofNat.inj (Option.some.inj e)
    have := cl_back pos e1
    rw [Nat.mod_eq_of_lt hi, Nat.mod_eq_of_lt hj] at this
    rw [this]
theorem it_nx (pos : 1 ≤ cs.length) {p : Nat} (hp : p < cs.length) : ∀ j, itP (nxK cs) j (some ((p : Nat) : Int)) = some ((clN cs p j % cs.length : Nat) : Int)
  | 0 => by
    show some ((p : Nat) : Int) = some ((p % cs.length : Nat) : Int)
    rw [Nat.mod_eq_of_lt hp]
  | j + 1 => by
    rw [itP_succ, it_nx pos hp j, nx_at, gap_mod pos, cl_succ]
    congr 2
    rw [Nat.add_assoc, Nat.mod_add_mod, Nat.add_assoc]
theorem pe_round (pos : 1 ≤ cs.length) {p k : Nat} (hp : p < cs.length) (h : RoundK cs p k) : peP (plK cs.length) (nxK cs) (some ((p : Nat) : Int)) = k := by
  have e := Nat.mod_eq_of_lt hp
  refine peP_is (perm_nx pos) (pl_mem.mpr ⟨p, hp, rfl⟩) h.pos ?_ fun q q0 qk z => ?_
  · rw [it_nx pos hp, h.hit, e]
  · rw [it_nx pos hp] at z
    have := Int.ofNat.inj (Option.some.inj z)
    exact h.no q q0 qk (by rw [this, e])
theorem cy_round (pos : 1 ≤ cs.length) {p k : Nat} (hp : p < cs.length) : cyP (nxK cs) k (some ((p : Nat) : Int)) = (List.range k).map fun j => some ((clN cs p j % cs.length : Nat) : Int) := by
  unfold cyP
  exact List.map_congr_left fun j _ => it_nx pos hp j
end
/-- sorted keys -/
def ckI (x : Ck) : Int := x.getD 0
def srtC (r : List Ck) : List Ck := ((r.map ckI).mergeSort fun a b => decide (a ≤ b)).map some
def Ints (r : List Ck) : Prop := ∀ x ∈ r, ∃ i, x = some i
theorem ints_map {r : List Ck} (h : Ints r) : r = (r.map ckI).map some := by
  induction r with
  | nil => rfl
  | cons x r ih =>
    obtain ⟨i, rfl⟩ := h x (List.mem_cons_self ..)
    rw [List.map_cons, List.map_cons, ← ih fun y hy => h y (List.mem_cons_of_mem _ hy)]
    rfl
theorem ints_d {ns : List Int} : (ns.map some).map ckD = ns.map D.int := by rw [List.map_map]; rfl
theorem srt_is {r : List Ck} {ms : List Int} (p : ms.Perm (r.map ckI)) (s : ms.Pairwise (· ≤ ·)) : srtC r = ms.map some := by
  unfold srtC
  have a := List.mergeSort_perm (r.map ckI) fun a b => decide (a ≤ b)
  have b : ((r.map ckI).mergeSort fun a b => decide (a ≤ b)).Pairwise (· ≤ ·) := by
    have := List.pairwise_mergeSort (le := fun a b : Int => decide (a ≤ b)) (fun a b c h1 h2 => by simp at *; omega) (fun a b => by simp; omega) (r.map ckI)
    exact this.imp fun h => by simpa using h
  rw [sorted_one b s (a.trans p.symm)]
theorem srt_len {r : List Ck} : (srtC r).length = r.length := by
  unfold srtC
  rw [List.length_map, List.length_mergeSort, List.length_map]
/-- the cycles of a day's clear places -/
noncomputable def dueR (cs : List Int) : List (List Ck) := (cysP (plK cs.length) (nxK cs) (plK cs.length) []).map srtC
theorem cys_ints {cs : List Int} (pos : 1 ≤ cs.length) {i : Nat} : ∀ r ∈ cysP (plK cs.length) (nxK cs) ((plK cs.length).take i) [], Ints r := fun r hr x hx => by
  have c := cysP_closed (perm_nx pos) i
  obtain ⟨j, _, e⟩ := pl_mem.mp (c.ca x (List.mem_flatten.mpr ⟨r, hr, hx⟩))
  exact ⟨_, e⟩
theorem cys_all {cs : List Int} (pos : 1 ≤ cs.length) {r : List Ck} (hr : r ∈ cysP (plK cs.length) (nxK cs) (plK cs.length) []) : Ints r := by
  have := cys_ints (cs := cs) pos (i := (plK cs.length).length) r
  rw [List.take_length] at this
  exact this hr
/-- rows of not too many keys, shown -/
theorem rep_rowsK : ∀ {rows : List (List Ck)}, (∀ r ∈ rows, ∀ x ∈ r, RepOk 0 70 (ckP x)) → PyData.showableAll (rows.map fun r => .list (r.map ckP)) = true ∧ PyData.depthAll (rows.map fun r => .list (r.map ckP)) ≤ 1 ∧ PyData.leavesShortAll 22 (rows.map fun r => .list (r.map ckP)) = true ∧ PyData.weightAll (rows.map fun r => .list (r.map ckP)) ≤ rows.flatten.length * 71 + rows.length
  | [], _ => ⟨rfl, Nat.zero_le _, rfl, Nat.zero_le _⟩
  | r :: rows, h => by
    obtain ⟨a, b, c, e⟩ := rep_rowsK (rows := rows) fun q hq => h q (List.mem_cons_of_mem _ hq)
    have g : RepOk 1 ((r.map ckP).length * 71) (.list (r.map ckP)) := rep_lst (d := 0) (W := 70) fun p hp => by
      obtain ⟨x, hx, rfl⟩ := List.mem_map.mp hp
      exact h r (List.mem_cons_self ..) x hx
    rw [List.length_map] at g
    refine ⟨by simp only [List.map_cons, PyData.showableAll, g.sh, a, Bool.and_self], ?_, by simp only [List.map_cons, PyData.leavesShortAll, g.lv, c, Bool.and_self], ?_⟩
    · have := g.dp
      simp only [List.map_cons, PyData.depthAll]; omega
    · have := g.wt
      simp only [List.map_cons, PyData.weightAll, List.length_cons, List.flatten_cons, List.length_append, Nat.add_mul]; omega
theorem fit_rowsK {rows : List (List Ck)} (h : ∀ r ∈ rows, ∀ x ∈ r, RepOk 0 70 (ckP x)) (l : rows.length ≤ 300) (l2 : rows.flatten.length ≤ 300) : (rowsP rows).showable = true ∧ (rowsP rows).depth ≤ 30 ∧ (rowsP rows).shown.length ≤ sizeLine := by
  obtain ⟨a, b, c, e⟩ := rep_rowsK h
  have ok : RepOk 30 600000 (rowsP rows) := ⟨by simpa only [PyData.showable] using a, by simp only [PyData.depth]; omega, by simpa only [PyData.leavesShort] using c, by simp only [PyData.weight]; omega⟩
  exact ok.fits (Nat.le_refl _)
theorem flat_srt : ∀ {rows : List (List Ck)}, (rows.map srtC).flatten.length = rows.flatten.length
  | [] => rfl
  | r :: rows => by rw [List.map_cons, List.flatten_cons, List.flatten_cons, List.length_append, List.length_append, flat_srt, srt_len]
theorem srt_mem {r : List Ck} {x : Ck} (h : x ∈ srtC r) : ∃ y ∈ r, x = some (ckI y) := by
  unfold srtC at h
  obtain ⟨i, hi, rfl⟩ := List.mem_map.mp h
  have := (List.mergeSort_perm (r.map ckI) fun a b => decide (a ≤ b)).mem_iff.mp hi
  obtain ⟨y, hy, rfl⟩ := List.mem_map.mp this
  exact ⟨y, hy, rfl⟩
theorem due_fit {cs : List Int} (h : CallsN cs) : (rowsP (dueR cs)).showable = true ∧ (rowsP (dueR cs)).depth ≤ 30 ∧ (rowsP (dueR cs)).shown.length ≤ sizeLine := by
  have pos := h.pos
  have most := h.most
  have c := cysP_closed (perm_nx pos) (plK cs.length).length
  rw [List.take_length] at c
  have few := closedP_few c
  rw [plK_len] at few
  have few2 := cysP_len (f := nxK cs) (ks0 := plK cs.length) (xs := plK cs.length) (acc := [])
  rw [plK_len, List.length_nil] at few2
  unfold dueR
  refine fit_rowsK (fun r hr x hx => ?_) (by rw [List.length_map]; omega) (by rw [flat_srt]; omega)
  obtain ⟨r', hr', rfl⟩ := List.mem_map.mp hr
  obtain ⟨y, hy, rfl⟩ := srt_mem hx
  obtain ⟨i, hi, rfl⟩ := pl_mem.mp (c.ca y (List.mem_flatten.mpr ⟨r', hr', hy⟩))
  refine rep_int ?_
  have : (10 : Nat) ^ 21 = 1000000000000000000000 := by decide
  unfold Sm ckI
  rw [Option.getD_some]
  omega
theorem due_some {cs : List Int} (pos : 1 ≤ cs.length) : ∃ r rs, dueR cs = r :: rs := by
  have all := cysP_all (perm_nx pos) (xs := plK cs.length) (fun x h => h) (acc := []) (some ((0 : Nat) : Int)) (pl_mem.mpr ⟨0, pos, rfl⟩)
  unfold dueR
  generalize cysP (plK cs.length) (nxK cs) (plK cs.length) [] = l at all ⊢
  cases l with
  | nil => cases all
  | cons r rs => exact ⟨_, _, List.map_cons⟩
theorem due_len {cs : List Int} (h : CallsN cs) : (dueR cs).length ≤ 200 ∧ ∀ r ∈ dueR cs, r.length ≤ 200 := by
  have pos := h.pos
  have most := h.most
  have c := cysP_closed (perm_nx pos) (plK cs.length).length
  rw [List.take_length] at c
  have few := closedP_few c
  rw [plK_len] at few
  have few2 := cysP_len (f := nxK cs) (ks0 := plK cs.length) (xs := plK cs.length) (acc := [])
  rw [plK_len, List.length_nil] at few2
  unfold dueR
  refine ⟨by rw [List.length_map]; omega, fun r hr => ?_⟩
  obtain ⟨r', hr', rfl⟩ := List.mem_map.mp hr
  rw [srt_len]
  have : r'.length ≤ (cysP (plK cs.length) (nxK cs) (plK cs.length) []).flatten.length := by
    obtain ⟨as, bs, e⟩ := List.append_of_mem hr'
    rw [e]; simp; omega
  omega
theorem eq_of_G {neg : Bool} {p c : Addr} {S : Sto} {k : RK} (h : eqG neg (.ref p) (.ref c) S k) : eqD neg (.ref p) (.ref c) S k := h
/-! contracts -/
def c_clear_cycles : Cn := fun ds S k _ => ∃ cs, ds = [tupI cs] ∧ CallsN cs ∧ ∀ p qs S', Sub S S' → S p = none → S' p = some (.lst (qs.map D.ref)) → (∀ q ∈ qs, S q = none ∧ q ≠ p) → Rows S' qs (dueR cs) → k (.ref p) S'
def c_law_due19 : Cn := c_clear_cycles
def c_law_right19 : Cn := fun ds S k _ => ∃ cs, ds = [tupI cs] ∧ CallsN cs ∧ ∀ S', Sub S S' → k (.bl true) S'
def c_law_all_days : Cn := fun ds S k _ => ∃ m : Nat, ds = [.int (m : Nat), .int 4] ∧ m ≤ 5 ∧ ∀ p (L : List (List Int)) S', Sub S S' → S p = none → S' p = some (.lst (L.map tupI)) → L.length ≤ 4 ^ m → (∀ l ∈ L, l.length = m ∧ ∀ x ∈ l, Car x) → k (.ref p) S'
/-- the day 0 1 0 -/
theorem gp_0 : gapN [0, 1, 0] 0 = 2 := by
  have := gap_is (cs := [0, 1, 0]) (by decide) (t := 0) (j := 2) (next_small (by decide))
  omega
theorem gp_1 : gapN [0, 1, 0] 1 = 3 := by
  have := gap_is (cs := [0, 1, 0]) (by decide) (t := 1) (j := 4) (next_small (by decide))
  omega
theorem gp_2 : gapN [0, 1, 0] 2 = 1 := by
  have := gap_is (cs := [0, 1, 0]) (by decide) (t := 2) (j := 3) (next_small (by decide))
  omega
theorem due_010 : dueR [0, 1, 0] = [[some 0], [some 1, some 2]] := by
  have pos : 1 ≤ ([0, 1, 0] : List Int).length := by decide
  have n0 : nxK [0, 1, 0] (some 0) = some 0 := by
    have := nx_at (cs := [0, 1, 0]) 0
    rw [gp_0] at this; exact this
  have n1 : nxK [0, 1, 0] (some 1) = some 2 := by
    have := nx_at (cs := [0, 1, 0]) 1
    rw [gp_1] at this; exact this
  have n2 : nxK [0, 1, 0] (some 2) = some 1 := by
    have := nx_at (cs := [0, 1, 0]) 2
    rw [gp_2] at this; exact this
  have ek : plK ([0, 1, 0] : List Int).length = [some 0, some 1, some 2] := by decide
  have hP := perm_nx (cs := [0, 1, 0]) pos
  have p0 : peP (plK ([0, 1, 0] : List Int).length) (nxK [0, 1, 0]) (some 0) = 1 := peP_is hP (by rw [ek]; decide) (by decide) n0 fun q a b => by omega
  have p1 : peP (plK ([0, 1, 0] : List Int).length) (nxK [0, 1, 0]) (some 1) = 2 := peP_is hP (by rw [ek]; decide) (by decide) (by show nxK _ (nxK _ (some 1)) = _; rw [n1, n2]) fun q a b => by
    have : q = 1 := by omega
    subst this
    show nxK _ (some 1) ≠ _
    rw [n1]; decide
  have c0 : cyP (nxK [0, 1, 0]) 1 (some 0) = [some 0] := rfl
  have c1 : cyP (nxK [0, 1, 0]) 2 (some 1) = [some 1, some 2] := by
    show [some 1, nxK [0, 1, 0] (some 1)] = _
    rw [n1]
  have s0 : srtC [some 0] = [some 0] := srt_is (ms := [0]) (List.Perm.refl _) (by decide)
  have s1 : srtC [some 1, some 2] = [some 1, some 2] := srt_is (ms := [1, 2]) (List.Perm.refl _) (by decide)
  have e : cysP (plK ([0, 1, 0] : List Int).length) (nxK [0, 1, 0]) [some 0, some 1, some 2] [] = [[some 0], [some 1, some 2]] := by
    unfold cysP
    rw [if_neg (by simp), p0, c0]
    unfold cysP
    rw [if_neg (by decide), p1, c1]
    unfold cysP
    rw [if_pos (by decide)]
    rfl
  unfold dueR
  rw [show cysP (plK ([0, 1, 0] : List Int).length) (nxK [0, 1, 0]) (plK ([0, 1, 0] : List Int).length) [] = _ from (congrArg (fun z => cysP (plK ([0, 1, 0] : List Int).length) (nxK [0, 1, 0]) z []) ek).trans e, List.map_cons, List.map_cons, List.map_nil, s0, s1]
end DL
namespace K19
open PySem PySem.Spec PyProof.Rows L2 DL
theorem rVar_zero {d : D} {e : DEnv} {S : Sto} {k : RK} : rVar 0 (some d :: e) S k = k d S := rfl
theorem rVar_succ {i : Nat} {x : Option D} {e : DEnv} {S : Sto} {k : RK} : rVar (i + 1) (x :: e) S k = rVar i e S k := by
  unfold rVar
  rw [List.getElem?_cons_succ]
theorem seq_gen {r u : RTs} {ed : DE} {env : DEnv} {S : Sto} (h : ∀ N : DEnv → Sto → Prop, N = (fun env' S' => u ed env' S') → r { ed with nx := N } env S) : rSeq r u ed env S := h _ rfl
theorem ret_gen {re : RT} {ed : DE} {env : DEnv} {S : Sto} (h : ∀ R : RK, R = ed.rt → re env S R) : rRet re ed env S := h _ rfl
theorem for_gen {ri : RTi} {g : RTg} {rb : RTs} {ed : DE} {env : DEnv} {S : Sto} (h : ∀ B : RTs, B = rb → rFor ri g B ed env S) : rFor ri g rb ed env S := h _ rfl
theorem if_gen {rt : RTt} {rb re : RTs} {ed : DE} {env : DEnv} {S : Sto} (h : ∀ B : RTs, B = rb → rIf rt B re ed env S) : rIf rt rb re ed env S := h _ rfl
abbrev c_cycle_from : Cn := DL.c_cycle_fromP
abbrev c_cycles_in : Cn := DL.c_cycles_inP
abbrev c_law_due : Cn := DL.c_law_due19
abbrev c_law_right : Cn := DL.c_law_right19
/-! the text by places -/
def topS (i : Nat) : Stmt := PySem.Challenge.pw_deadlane_k19_cycles_of_clear_moments.main.body.getD i (.Pass ⟨0, 0, 0, 0⟩)
abbrev s_is_whole : Stmt := topS 6
theorem sc_is_whole : FnScope ["value"] ["value"] (defScope s_is_whole) := ⟨rfl, rfl, rfl, by decide +kernel, rfl, by decide +kernel, by decide +kernel⟩
abbrev s_is_car : Stmt := topS 7
theorem sc_is_car : FnScope ["value"] ["value"] (defScope s_is_car) := ⟨rfl, rfl, rfl, by decide +kernel, rfl, by decide +kernel, by decide +kernel⟩
abbrev s_are_cars : Stmt := topS 8
theorem sc_are_cars : FnScope ["value", "item"] ["value"] (defScope s_are_cars) := ⟨rfl, rfl, rfl, by decide +kernel, rfl, by decide +kernel, by decide +kernel⟩
abbrev s_are_calls : Stmt := topS 9
theorem sc_are_calls : FnScope ["value"] ["value"] (defScope s_are_calls) := ⟨rfl, rfl, rfl, by decide +kernel, rfl, by decide +kernel, by decide +kernel⟩
abbrev s_check_calls : Stmt := topS 10
theorem sc_check_calls : FnScope ["value"] ["value"] (defScope s_check_calls) := ⟨rfl, rfl, rfl, by decide +kernel, rfl, by decide +kernel, by decide +kernel⟩
abbrev s_cycle_from : Stmt := topS 12
theorem sc_cycle_from : FnScope ["leads", "first", "cycle", "key"] ["leads", "first"] (defScope s_cycle_from) := ⟨rfl, rfl, rfl, by decide +kernel, rfl, by decide +kernel, by decide +kernel⟩
abbrev s_cycles_in : Stmt := topS 13
theorem sc_cycles_in : FnScope ["leads", "seen", "cycles", "first", "cycle", "key"] ["leads"] (defScope s_cycles_in) := ⟨rfl, rfl, rfl, by decide +kernel, rfl, by decide +kernel, by decide +kernel⟩
abbrev s_gaps_in_order : Stmt := topS 15
theorem sc_gaps_in_order : FnScope ["calls", "size", "before", "gaps", "at", "car"] ["calls"] (defScope s_gaps_in_order) := ⟨rfl, rfl, rfl, by decide +kernel, rfl, by decide +kernel, by decide +kernel⟩
abbrev s_clear_cycles : Stmt := topS 17
theorem sc_clear_cycles : FnScope ["calls", "leads", "cycle", "at", "gap"] ["calls"] (defScope s_clear_cycles) := ⟨rfl, rfl, rfl, by decide +kernel, rfl, by decide +kernel, by decide +kernel⟩
abbrev s_law_shed : Stmt := topS 19
theorem sc_law_shed : FnScope ["script", "k", "cell"] ["script", "k"] (defScope s_law_shed) := ⟨rfl, rfl, rfl, by decide +kernel, rfl, by decide +kernel, by decide +kernel⟩
abbrev s_law_take : Stmt := topS 20
theorem sc_law_take : FnScope ["shed", "bound", "mixed", "found"] ["shed", "bound"] (defScope s_law_take) := ⟨rfl, rfl, rfl, by decide +kernel, rfl, by decide +kernel, by decide +kernel⟩
abbrev s_law_mixed : Stmt := topS 21
theorem sc_law_mixed : FnScope ["shed", "things", "left", "k"] ["shed", "things"] (defScope s_law_mixed) := ⟨rfl, rfl, rfl, by decide +kernel, rfl, by decide +kernel, by decide +kernel⟩
abbrev s_law_day : Stmt := topS 22
theorem sc_law_day : FnScope ["shed", "most", "many", "cars", "place", "way", "few", "found", "opened", "half", "wide", "car", "fresh", "must", "closes", "one"] ["shed", "most"] (defScope s_law_day) := ⟨rfl, rfl, rfl, by decide +kernel, rfl, by decide +kernel, by decide +kernel⟩
abbrev s_law_moved : Stmt := topS 23
theorem sc_law_moved : FnScope ["row", "car"] ["row", "car"] (defScope s_law_moved) := ⟨rfl, rfl, rfl, by decide +kernel, rfl, by decide +kernel, by decide +kernel⟩
abbrev s_law_due : Stmt := topS 24
theorem sc_law_due : FnScope ["day", "place", "found", "met", "here", "row", "some"] ["day"] (defScope s_law_due) := ⟨rfl, rfl, rfl, by decide +kernel, rfl, by decide +kernel, by decide +kernel⟩
abbrev s_law_right : Stmt := topS 25
theorem sc_law_right : FnScope ["day", "again", "kept", "due", "told", "inner"] ["day"] (defScope s_law_right) := ⟨rfl, rfl, rfl, by decide +kernel, rfl, by decide +kernel, by decide +kernel⟩
abbrev s_law_all_days : Stmt := topS 26
theorem sc_law_all_days : FnScope ["many", "cars", "found", "turn", "longer", "day", "car"] ["many", "cars"] (defScope s_law_all_days) := ⟨rfl, rfl, rfl, by decide +kernel, rfl, by decide +kernel, by decide +kernel⟩
abbrev s_law : Stmt := topS 27
theorem sc_law : FnScope ["script", "many", "k", "shed", "most", "day"] ["script"] (defScope s_law) := ⟨rfl, rfl, rfl, by decide +kernel, rfl, by decide +kernel, by decide +kernel⟩
/-- what the module's names hold -/
structure Txt (mg : Str → Option Value) : Prop where
  g_CARS : ∃ t, mg "CARS" = some (.int 60 t)
  g_MOST_CALLS : ∃ t, mg "MOST_CALLS" = some (.int 200 t)
  g_bool : mg "bool" = none
  g_enumerate : mg "enumerate" = none
  g_int : mg "int" = none
  g_isinstance : mg "isinstance" = none
  g_len : mg "len" = none
  g_list : mg "list" = none
  g_max : mg "max" = none
  g_min : mg "min" = none
  g_range : mg "range" = none
  g_repr : mg "repr" = none
  g_set : mg "set" = none
  g_sorted : mg "sorted" = none
  g_tuple : mg "tuple" = none
  g_type : mg "type" = none
section
variable {P : Program} {w : World} {K : PySem.W.Frag} {mg : Str → Option Value} {base : Heap}
theorem ok_is_whole (T : Txt mg)  (hdef : DefAt K mg "is_whole" s_is_whole ["value"]) : Callee P w K mg base CX0 1 "is_whole" 1 c_is_whole := by
  refine mkCallee hdef sc_is_whole 1 rfl _ (fun cdv A outer s H E f hr => (have hc : (cxOf CX0 P w K mg base ["value"] "is_whole" (defScope s_is_whole) f cdv A outer s H E).nox.calm = true := rfl; have nd := sc_is_whole.nd; (rs_one (rs_ret (re_and (re_callB cIsi rfl T.g_isinstance (by decide +kernel) (ra_cons (re_var 0) (ra_cons (re_type (n := "int") rfl T.g_int (by decide +kernel)) ra_nil))) (re_one (re_not (re_callB cIsi rfl T.g_isinstance (by decide +kernel) (ra_cons (re_var 0) (ra_cons (re_type (n := "bool") rfl T.g_bool (by decide +kernel)) ra_nil)))))))))) (fun ds S kk hl hC => ?_) (fun ds S kk ek z => z)
  obtain ⟨x, rfl, hk, q⟩ := hC
  simp only [↓rSeq, ↓rAsg, ↓gN, ↓rRet, ↓rRetN, ↓rIf, ↓rBin, ↓rUn, ↓rB, ↓rChain, ↓rC, ↓rVar_zero, ↓rVar_succ, ↓rSkip, ↓rDrop, ↓rCons, ↓rNil, ↓rTup, ↓rLst, ↓rCallB, ↓rAndV, ↓rOrV, ↓rNotV, ↓rNot, ↓rAnd, ↓rOr, ↓rIfE, ↓rBm, ↓rBm0, ↓rSl, ↓oNone, ↓oSome, ↓gIx, ↓gTup', ↓gCons', ↓gNil', ↓rCall, ↓rCallK, ↓rCallDf, ↓rTr, ↓rPar, ↓rTrL, ↓rPar3, ↓rLkD, ↓rLkS, ↓rCv, ↓rNever, ↓rBreak, ↓rCont, ↓i2, ↓i20, ↓b20, ↓rYes, wipeE, ↓negD, ↓endOf, ↓DL.envOf, List.map_cons, List.map_nil, List.cons_append, List.nil_append, List.length_cons, List.length_nil, List.replicate, List.getElem?_cons_zero, List.getElem?_cons_succ, List.set_cons_zero, List.set_cons_succ, Nat.zero_add, Nat.reduceAdd, Nat.reduceSub, ↓reduceIte, Bool.false_eq_true, Bool.xor_false, Bool.false_xor, Bool.true_xor, Bool.not_true, Bool.not_false, if_true, if_false, decide_true, decide_false]
  refine isi_int hk ?_
  cases x with
  | int i => exact isi_bool hk ⟨S, Sub.refl S, q⟩
  | bl i => exact isi_bool hk ⟨S, Sub.refl S, q⟩
  | _ => exact ⟨S, Sub.refl S, q⟩
theorem ok_cycle_from (T : Txt mg)  (hdef : DefAt K mg "cycle_from" s_cycle_from ["leads", "first"]) : Callee P w K mg base CX0 1 "cycle_from" 2 c_cycle_from := by
  refine mkCallee hdef sc_cycle_from 2 rfl _ (fun cdv A outer s H E f hr => (have hc : (cxOf CX0 P w K mg base ["leads", "first", "cycle", "key"] "cycle_from" (defScope s_cycle_from) f cdv A outer s H E).nox.calm = true := rfl; have nd := sc_cycle_from.nd; (rs_cons (rs_set 2 nd (re_lst (ra_cons (re_var 1) ra_nil)))
    (rs_cons (rs_set 3 nd (re_ix ixDic (re_var 0) (re_var 1)))
    (rs_cons (rs_while PassesOwn.never (tr_cmp (opNe hr.u64) (re_var 3) (re_var 1) (nomark _))
    (rs_cons (rs_expr (re_bm PySem.F.plainAttrs_list PySem.F.slot_list_append PySem.F.type_list_append mAppend (re_var 2) (ra_cons (re_var 3) ra_nil)))
    (rs_one (rs_set 3 nd (re_ix ixDic (re_var 0) (re_var 3))))))
    (rs_one (rs_ret (re_var 2)))))))) (fun ds S kk hl hC => ?_) (fun ds S kk ek z => z)
  obtain ⟨ks, f, x, rfl, hP, k300, hx, q⟩ := hC
  refine seq_gen fun N hN => ?_
  simp only [↓rSeq, ↓rAsg, ↓gN, ↓rRet, ↓rRetN, ↓rIf, ↓rBin, ↓rUn, ↓rB, ↓rChain, ↓rC, ↓rVar_zero, ↓rVar_succ, ↓rSkip, ↓rDrop, ↓rCons, ↓rNil, ↓rTup, ↓rLst, ↓rCallB, ↓rAndV, ↓rOrV, ↓rNotV, ↓rNot, ↓rAnd, ↓rOr, ↓rIfE, ↓rBm, ↓rBm0, ↓rSl, ↓oNone, ↓oSome, ↓gIx, ↓gTup', ↓gCons', ↓gNil', ↓rCall, ↓rCallK, ↓rCallDf, ↓rTr, ↓rPar, ↓rTrL, ↓rPar3, ↓rLkD, ↓rLkS, ↓rCv, ↓rNever, ↓rBreak, ↓rCont, ↓i2, ↓i20, ↓b20, ↓rYes, wipeE, ↓negD, ↓endOf, ↓DL.envOf, List.map_cons, List.map_nil, List.cons_append, List.nil_append, List.length_cons, List.length_nil, List.replicate, List.getElem?_cons_zero, List.getElem?_cons_succ, List.set_cons_zero, List.set_cons_succ, Nat.zero_add, Nat.reduceAdd, Nat.reduceSub, ↓reduceIte, Bool.false_eq_true, Bool.xor_false, Bool.false_xor, Bool.true_xor, Bool.not_true, Bool.not_false, if_true, if_false, decide_true, decide_false]
  refine ⟨by decide, fun p hp => ?_⟩
  subst hN
  refine seq_gen fun N hN => ?_
  simp only [↓rSeq, ↓rAsg, ↓gN, ↓rRet, ↓rRetN, ↓rIf, ↓rBin, ↓rUn, ↓rB, ↓rChain, ↓rC, ↓rVar_zero, ↓rVar_succ, ↓rSkip, ↓rDrop, ↓rCons, ↓rNil, ↓rTup, ↓rLst, ↓rCallB, ↓rAndV, ↓rOrV, ↓rNotV, ↓rNot, ↓rAnd, ↓rOr, ↓rIfE, ↓rBm, ↓rBm0, ↓rSl, ↓oNone, ↓oSome, ↓gIx, ↓gTup', ↓gCons', ↓gNil', ↓rCall, ↓rCallK, ↓rCallDf, ↓rTr, ↓rPar, ↓rTrL, ↓rPar3, ↓rLkD, ↓rLkS, ↓rCv, ↓rNever, ↓rBreak, ↓rCont, ↓i2, ↓i20, ↓b20, ↓rYes, wipeE, ↓negD, ↓endOf, ↓DL.envOf, List.map_cons, List.map_nil, List.cons_append, List.nil_append, List.length_cons, List.length_nil, List.replicate, List.getElem?_cons_zero, List.getElem?_cons_succ, List.set_cons_zero, List.set_cons_succ, Nat.zero_add, Nat.reduceAdd, Nat.reduceSub, ↓reduceIte, Bool.false_eq_true, Bool.xor_false, Bool.false_xor, Bool.true_xor, Bool.not_true, Bool.not_false, if_true, if_false, decide_true, decide_false]
  obtain ⟨p0, pl, pe, pm⟩ := peP_spec hP hx
  refine ixDk_P hx ?_
  subst hN
  refine seq_gen fun N hN => ?_
  unfold rWhile
  refine ⟨fun m env S' => ∃ n, m = peP ks f x - n ∧ 1 ≤ n ∧ n ≤ peP ks f x ∧ env = [some (dicP2 ks f), some (ckD x), some (.ref p), some (ckD (itP f n x))] ∧ S' = S.upd p (.lst ((cyP f n x).map ckD)), ⟨_, 1, rfl, Nat.le_refl _, p0, rfl, rfl⟩, ?_⟩
  rintro m env S' ⟨n, rfl, n1, np, rfl, rfl⟩
  simp only [↓rSeq, ↓rAsg, ↓gN, ↓rRet, ↓rRetN, ↓rIf, ↓rBin, ↓rUn, ↓rB, ↓rChain, ↓rC, ↓rVar_zero, ↓rVar_succ, ↓rSkip, ↓rDrop, ↓rCons, ↓rNil, ↓rTup, ↓rLst, ↓rCallB, ↓rAndV, ↓rOrV, ↓rNotV, ↓rNot, ↓rAnd, ↓rOr, ↓rIfE, ↓rBm, ↓rBm0, ↓rSl, ↓oNone, ↓oSome, ↓gIx, ↓gTup', ↓gCons', ↓gNil', ↓rCall, ↓rCallK, ↓rCallDf, ↓rTr, ↓rPar, ↓rTrL, ↓rPar3, ↓rLkD, ↓rLkS, ↓rCv, ↓rNever, ↓rBreak, ↓rCont, ↓i2, ↓i20, ↓b20, ↓rYes, wipeE, ↓negD, ↓endOf, ↓DL.envOf, List.map_cons, List.map_nil, List.cons_append, List.nil_append, List.length_cons, List.length_nil, List.replicate, List.getElem?_cons_zero, List.getElem?_cons_succ, List.set_cons_zero, List.set_cons_succ, Nat.zero_add, Nat.reduceAdd, Nat.reduceSub, ↓reduceIte, Bool.false_eq_true, Bool.xor_false, Bool.false_xor, Bool.true_xor, Bool.not_true, Bool.not_false, if_true, if_false, decide_true, decide_false]
  refine eq_ck ?_
  by_cases e : n = peP ks f x
  · have ex : itP f n x = x := by rw [e]; exact pe
    rw [ex, decide_eq_true rfl]
    subst hN
    simp only [↓rSeq, ↓rAsg, ↓gN, ↓rRet, ↓rRetN, ↓rIf, ↓rBin, ↓rUn, ↓rB, ↓rChain, ↓rC, ↓rVar_zero, ↓rVar_succ, ↓rSkip, ↓rDrop, ↓rCons, ↓rNil, ↓rTup, ↓rLst, ↓rCallB, ↓rAndV, ↓rOrV, ↓rNotV, ↓rNot, ↓rAnd, ↓rOr, ↓rIfE, ↓rBm, ↓rBm0, ↓rSl, ↓oNone, ↓oSome, ↓gIx, ↓gTup', ↓gCons', ↓gNil', ↓rCall, ↓rCallK, ↓rCallDf, ↓rTr, ↓rPar, ↓rTrL, ↓rPar3, ↓rLkD, ↓rLkS, ↓rCv, ↓rNever, ↓rBreak, ↓rCont, ↓i2, ↓i20, ↓b20, ↓rYes, wipeE, ↓negD, ↓endOf, ↓DL.envOf, List.map_cons, List.map_nil, List.cons_append, List.nil_append, List.length_cons, List.length_nil, List.replicate, List.getElem?_cons_zero, List.getElem?_cons_succ, List.set_cons_zero, List.set_cons_succ, Nat.zero_add, Nat.reduceAdd, Nat.reduceSub, ↓reduceIte, Bool.false_eq_true, Bool.xor_false, Bool.false_xor, Bool.true_xor, Bool.not_true, Bool.not_false, if_true, if_false, decide_true, decide_false]
    refine ⟨_, Sub.refl _, ?_⟩
    rw [e]
    exact q p hp
  · have ne : itP f n x ≠ x := pm n (by omega) (by omega)
    rw [decide_eq_false ne]
    simp only [↓rSeq, ↓rAsg, ↓gN, ↓rRet, ↓rRetN, ↓rIf, ↓rBin, ↓rUn, ↓rB, ↓rChain, ↓rC, ↓rVar_zero, ↓rVar_succ, ↓rSkip, ↓rDrop, ↓rCons, ↓rNil, ↓rTup, ↓rLst, ↓rCallB, ↓rAndV, ↓rOrV, ↓rNotV, ↓rNot, ↓rAnd, ↓rOr, ↓rIfE, ↓rBm, ↓rBm0, ↓rSl, ↓oNone, ↓oSome, ↓gIx, ↓gTup', ↓gCons', ↓gNil', ↓rCall, ↓rCallK, ↓rCallDf, ↓rTr, ↓rPar, ↓rTrL, ↓rPar3, ↓rLkD, ↓rLkS, ↓rCv, ↓rNever, ↓rBreak, ↓rCont, ↓i2, ↓i20, ↓b20, ↓rYes, wipeE, ↓negD, ↓endOf, ↓DL.envOf, List.map_cons, List.map_nil, List.cons_append, List.nil_append, List.length_cons, List.length_nil, List.replicate, List.getElem?_cons_zero, List.getElem?_cons_succ, List.set_cons_zero, List.set_cons_succ, Nat.zero_add, Nat.reduceAdd, Nat.reduceSub, ↓reduceIte, Bool.false_eq_true, Bool.xor_false, Bool.false_xor, Bool.true_xor, Bool.not_true, Bool.not_false, if_true, if_false, decide_true, decide_false]
    refine ⟨tyD_lst Sto.upd_same, app_ref Sto.upd_same ?_ ?_⟩
    · rw [List.length_map]
      have : (cyP f n x).length = n := cyP_len n x
      rw [this]
      exact Nat.lt_of_le_of_lt (show n ≤ 300 by omega) (by decide)
    · rw [Sto.upd_upd]
      refine ixDk_P (itP_in hP hx) ⟨_, _, ?_, Sub.refl _, n + 1, rfl, by omega, by omega, ?_, ?_⟩
      · omega
      · rw [itP_succ]
      · rw [cyP_succ, List.map_append]; rfl
theorem ok_gaps_in_order (T : Txt mg)  (hdef : DefAt K mg "gaps_in_order" s_gaps_in_order ["calls"]) : Callee P w K mg base CX0 1 "gaps_in_order" 1 c_gaps_in_order := by
  refine mkCallee hdef sc_gaps_in_order 1 rfl _ (fun cdv A outer s H E f hr => (have hc : (cxOf CX0 P w K mg base ["calls", "size", "before", "gaps", "at", "car"] "gaps_in_order" (defScope s_gaps_in_order) f cdv A outer s H E).nox.calm = true := rfl; have nd := sc_gaps_in_order.nd; (rs_cons (rs_set 1 nd (re_callB cLen rfl T.g_len (by decide +kernel) (ra_cons (re_var 0) ra_nil)))
    (rs_cons (rs_setDm 2 [("at", 4), ("car", 5)] hc nd (sw_trueD rfl rfl rfl (by decide +kernel)) (ri_enumT rfl T.g_enumerate (ra_cons (re_var 0) ra_nil)) (blkOk_by (N := ["calls", "size", "before", "gaps", "at", "car"]) (sc := defScope s_gaps_in_order) (by decide +kernel)) (fun _ _ _ _ _ => (rg_tup (n := 2) rfl (rgs_cons (rg_name 4 nd (by simp)) (rgs_cons (rg_name 5 nd (by simp)) rgs_nil)))) (fun _ _ _ _ _ => ts_nil) (fun _ _ _ _ _ => (re_var 5)) (fun _ _ _ _ _ => (re_bin opSub (re_var 4) (re_var 1))))
    (rs_cons (rs_set 3 nd (re_bin opMulL (re_lst (ra_cons re_int ra_nil)) (re_var 1)))
    (rs_cons (rs_for (is := List.range 50) PassesOwn.never hc (ri_enumT rfl T.g_enumerate (ra_cons (re_var 0) ra_nil)) (rg_tup (n := 2) rfl (rgs_cons (rg_name 4 nd (by simp)) (rgs_cons (rg_name 5 nd (by simp)) rgs_nil)))
    (rs_cons (rs_asg (is := List.range 50) (re_bin opSub (re_var 4) (re_ix ixDcm (re_var 2) (re_var 5))) (rg_sub (re_var 3) (re_ix ixDcm (re_var 2) (re_var 5)) setLst))
    (rs_one (rs_asg (is := List.range 50) (re_var 4) (rg_sub (re_var 2) (re_var 5) setDcm)))))
    (rs_one (rs_ret (re_var 3))))))))) (fun ds S kk hl hC => ?_) (fun ds S kk ek z => z)
  obtain ⟨cs, rfl, h, q⟩ := hC
  have pos := h.pos
  have most := h.most
  refine seq_gen fun N hN => ?_
  simp only [↓rSeq, ↓rAsg, ↓gN, ↓rRet, ↓rRetN, ↓rIf, ↓rBin, ↓rUn, ↓rB, ↓rChain, ↓rC, ↓rVar_zero, ↓rVar_succ, ↓rSkip, ↓rDrop, ↓rCons, ↓rNil, ↓rTup, ↓rLst, ↓rCallB, ↓rAndV, ↓rOrV, ↓rNotV, ↓rNot, ↓rAnd, ↓rOr, ↓rIfE, ↓rBm, ↓rBm0, ↓rSl, ↓oNone, ↓oSome, ↓gIx, ↓gTup', ↓gCons', ↓gNil', ↓rCall, ↓rCallK, ↓rCallDf, ↓rTr, ↓rPar, ↓rTrL, ↓rPar3, ↓rLkD, ↓rLkS, ↓rCv, ↓rNever, ↓rBreak, ↓rCont, ↓i2, ↓i20, ↓b20, ↓rYes, wipeE, ↓negD, ↓endOf, ↓DL.envOf, List.map_cons, List.map_nil, List.cons_append, List.nil_append, List.length_cons, List.length_nil, List.replicate, List.getElem?_cons_zero, List.getElem?_cons_succ, List.set_cons_zero, List.set_cons_succ, Nat.zero_add, Nat.reduceAdd, Nat.reduceSub, ↓reduceIte, Bool.false_eq_true, Bool.xor_false, Bool.false_xor, Bool.true_xor, Bool.not_true, Bool.not_false, if_true, if_false, decide_true, decide_false]
  refine len_at seq_tup ?_
  rw [List.length_map]
  subst hN
  refine seq_gen fun N hN => ?_
  simp only [↓rSeq, ↓rAsg, ↓gN, ↓rRet, ↓rRetN, ↓rIf, ↓rBin, ↓rUn, ↓rB, ↓rChain, ↓rC, ↓rVar_zero, ↓rVar_succ, ↓rSkip, ↓rDrop, ↓rCons, ↓rNil, ↓rTup, ↓rLst, ↓rCallB, ↓rAndV, ↓rOrV, ↓rNotV, ↓rNot, ↓rAnd, ↓rOr, ↓rIfE, ↓rBm, ↓rBm0, ↓rSl, ↓oNone, ↓oSome, ↓gIx, ↓gTup', ↓gCons', ↓gNil', ↓rCall, ↓rCallK, ↓rCallDf, ↓rTr, ↓rPar, ↓rTrL, ↓rPar3, ↓rLkD, ↓rLkS, ↓rCv, ↓rNever, ↓rBreak, ↓rCont, ↓i2, ↓i20, ↓b20, ↓rYes, wipeE, ↓negD, ↓endOf, ↓DL.envOf, List.map_cons, List.map_nil, List.cons_append, List.nil_append, List.length_cons, List.length_nil, List.replicate, List.getElem?_cons_zero, List.getElem?_cons_succ, List.set_cons_zero, List.set_cons_succ, Nat.zero_add, Nat.reduceAdd, Nat.reduceSub, ↓reduceIte, Bool.false_eq_true, Bool.xor_false, Bool.false_xor, Bool.true_xor, Bool.not_true, Bool.not_false, if_true, if_false, decide_true, decide_false]
  unfold rDm iEnumT
  simp only [↓rSeq, ↓rAsg, ↓gN, ↓rRet, ↓rRetN, ↓rIf, ↓rBin, ↓rUn, ↓rB, ↓rChain, ↓rC, ↓rVar_zero, ↓rVar_succ, ↓rSkip, ↓rDrop, ↓rCons, ↓rNil, ↓rTup, ↓rLst, ↓rCallB, ↓rAndV, ↓rOrV, ↓rNotV, ↓rNot, ↓rAnd, ↓rOr, ↓rIfE, ↓rBm, ↓rBm0, ↓rSl, ↓oNone, ↓oSome, ↓gIx, ↓gTup', ↓gCons', ↓gNil', ↓rCall, ↓rCallK, ↓rCallDf, ↓rTr, ↓rPar, ↓rTrL, ↓rPar3, ↓rLkD, ↓rLkS, ↓rCv, ↓rNever, ↓rBreak, ↓rCont, ↓i2, ↓i20, ↓b20, ↓rYes, wipeE, ↓negD, ↓endOf, ↓DL.envOf, List.map_cons, List.map_nil, List.cons_append, List.nil_append, List.length_cons, List.length_nil, List.replicate, List.getElem?_cons_zero, List.getElem?_cons_succ, List.set_cons_zero, List.set_cons_succ, Nat.zero_add, Nat.reduceAdd, Nat.reduceSub, ↓reduceIte, Bool.false_eq_true, Bool.xor_false, Bool.false_xor, Bool.true_xor, Bool.not_true, Bool.not_false, if_true, if_false, decide_true, decide_false]
  refine ⟨fun i m S' => S' = S ∧ m.length ≤ i ∧ ∀ c j, j < i → cs[j]? = some c → ∃ t, j ≤ t ∧ t < i ∧ cs[t]? = some c ∧ (∀ u, t < u → u < i → cs[u]? ≠ some c) ∧ valC m (some c) = some (some ((t : Int) - ((cs.length : Nat) : Int))), ⟨rfl, Nat.le_refl _, fun c j hj => absurd hj (Nat.not_lt_zero j)⟩, fun _ _ _ _ _ => trivial, ?_, ?_⟩
  · rintro i x m S' hx ⟨rfl, ml, hm⟩
    unfold enumD at hx
    rw [List.getElem?_map, Option.map_eq_some_iff] at hx
    obtain ⟨j, hj, rfl⟩ := hx
    obtain ⟨lj, ej⟩ := List.getElem?_eq_some_iff.mp hj
    rw [List.getElem_range] at ej
    subst ej
    have hi : i < cs.length := by simpa using lj
    have gi : cs[i]? = some cs[i] := List.getElem?_eq_getElem hi
    have gd : (cs.map D.int).getD i .non = .int cs[i] := by simp [List.getD, hi]
    rw [gd]
    simp only [↓rSeq, ↓rAsg, ↓gN, ↓rRet, ↓rRetN, ↓rIf, ↓rBin, ↓rUn, ↓rB, ↓rChain, ↓rC, ↓rVar_zero, ↓rVar_succ, ↓rSkip, ↓rDrop, ↓rCons, ↓rNil, ↓rTup, ↓rLst, ↓rCallB, ↓rAndV, ↓rOrV, ↓rNotV, ↓rNot, ↓rAnd, ↓rOr, ↓rIfE, ↓rBm, ↓rBm0, ↓rSl, ↓oNone, ↓oSome, ↓gIx, ↓gTup', ↓gCons', ↓gNil', ↓rCall, ↓rCallK, ↓rCallDf, ↓rTr, ↓rPar, ↓rTrL, ↓rPar3, ↓rLkD, ↓rLkS, ↓rCv, ↓rNever, ↓rBreak, ↓rCont, ↓i2, ↓i20, ↓b20, ↓rYes, wipeE, ↓negD, ↓endOf, ↓DL.envOf, List.map_cons, List.map_nil, List.cons_append, List.nil_append, List.length_cons, List.length_nil, List.replicate, List.getElem?_cons_zero, List.getElem?_cons_succ, List.set_cons_zero, List.set_cons_succ, Nat.zero_add, Nat.reduceAdd, Nat.reduceSub, ↓reduceIte, Bool.false_eq_true, Bool.xor_false, Bool.false_xor, Bool.true_xor, Bool.not_true, Bool.not_false, if_true, if_false, decide_true, decide_false]
    refine ⟨trivial, _, _, rfl, _, _, rfl, rfl, ?_⟩
    refine ⟨some cs[i], some ((i : Int) - ((cs.length : Nat) : Int)), rfl, rfl, Nat.lt_of_le_of_lt (show m.length ≤ 200 by omega) (by decide), S', Sub.refl _, rfl, Nat.le_trans (len_put ..) (by omega), fun c j hj hc => ?_⟩
    by_cases e : c = cs[i]
    · exact ⟨i, by omega, by omega, by rw [e, gi], fun u a b => by omega, by rw [valC_put, e, if_pos rfl]⟩
    · have ji : j ≠ i := fun z => by rw [z, gi] at hc; cases hc; exact e rfl
      obtain ⟨t, t1, t2, t3, t4, t5⟩ := hm c j (by omega) hc
      refine ⟨t, t1, by omega, t3, fun u u1 u2 => ?_, ?_⟩
      · rcases Nat.lt_or_ge u i with g | g
        · exact t4 u u1 g
        · have : u = i := by omega
          rw [this, gi]
          exact fun z => e (Option.some.inj z).symm
      · rw [valC_put, if_neg (fun z => e (Option.some.inj z))]; exact t5
  rintro m S' ⟨rfl, ml, hm⟩ pb hpb
  have e : (enumD (cs.map D.int)).length = cs.length := by simp [enumD]
  rw [e] at hm ml
  subst hN
  refine seq_gen fun N hN => ?_
  simp only [↓rSeq, ↓rAsg, ↓gN, ↓rRet, ↓rRetN, ↓rIf, ↓rBin, ↓rUn, ↓rB, ↓rChain, ↓rC, ↓rVar_zero, ↓rVar_succ, ↓rSkip, ↓rDrop, ↓rCons, ↓rNil, ↓rTup, ↓rLst, ↓rCallB, ↓rAndV, ↓rOrV, ↓rNotV, ↓rNot, ↓rAnd, ↓rOr, ↓rIfE, ↓rBm, ↓rBm0, ↓rSl, ↓oNone, ↓oSome, ↓gIx, ↓gTup', ↓gCons', ↓gNil', ↓rCall, ↓rCallK, ↓rCallDf, ↓rTr, ↓rPar, ↓rTrL, ↓rPar3, ↓rLkD, ↓rLkS, ↓rCv, ↓rNever, ↓rBreak, ↓rCont, ↓i2, ↓i20, ↓b20, ↓rYes, wipeE, ↓negD, ↓endOf, ↓DL.envOf, List.map_cons, List.map_nil, List.cons_append, List.nil_append, List.length_cons, List.length_nil, List.replicate, List.getElem?_cons_zero, List.getElem?_cons_succ, List.set_cons_zero, List.set_cons_succ, Nat.zero_add, Nat.reduceAdd, Nat.reduceSub, ↓reduceIte, Bool.false_eq_true, Bool.xor_false, Bool.false_xor, Bool.true_xor, Bool.not_true, Bool.not_false, if_true, if_false, decide_true, decide_false]
  refine ⟨by decide, fun p0 hp0 => ⟨p0, _, _, rfl, rfl, Sto.upd_same, by omega, by omega, ?_, fun pg hpg => ?_⟩⟩
  · rw [Int.toNat_natCast]; exact Nat.le_trans (show 1 * cs.length ≤ 200 by omega) (by decide)
  rw [Int.toNat_natCast, rep_flat]
  have npg : pb ≠ pg := fun z => by rw [← z, old_new hp0 Sto.upd_same] at hpg; cases hpg
  have hpgS : S' pg = none := (Sub.upd hpb).free ((Sub.upd hp0).free hpg)
  have b1 : (((S'.upd pb (dcO pb m)).upd p0 (.lst [D.int 0])).upd pg (.lst ((List.replicate cs.length (0 : Int)).map D.int))) pb = some (dcO pb m) := old_new hpg (old_new hp0 Sto.upd_same)
  have b2 : (((S'.upd pb (dcO pb m)).upd p0 (.lst [D.int 0])).upd pg (.lst ((List.replicate cs.length (0 : Int)).map D.int))) pg = some (.lst ((List.replicate cs.length (0 : Int)).map D.int)) := Sto.upd_same
  have b0 : DL.Sub S' (((S'.upd pb (dcO pb m)).upd p0 (.lst [D.int 0])).upd pg (.lst ((List.replicate cs.length (0 : Int)).map D.int))) := ((Sub.upd hpb).trans (Sub.upd hp0)).trans (Sub.upd hpg)
  revert b1 b2 b0
  generalize (((S'.upd pb (dcO pb m)).upd p0 (.lst [D.int 0])).upd pg (.lst ((List.replicate cs.length (0 : Int)).map D.int))) = S0
  intro b1 b2 b0
  subst hN
  refine seq_gen fun N hN => ?_
  refine for_gen fun B hB => ?_
  unfold rFor iEnumT
  simp only [↓rSeq, ↓rAsg, ↓gN, ↓rRet, ↓rRetN, ↓rIf, ↓rBin, ↓rUn, ↓rB, ↓rChain, ↓rC, ↓rVar_zero, ↓rVar_succ, ↓rSkip, ↓rDrop, ↓rCons, ↓rNil, ↓rTup, ↓rLst, ↓rCallB, ↓rAndV, ↓rOrV, ↓rNotV, ↓rNot, ↓rAnd, ↓rOr, ↓rIfE, ↓rBm, ↓rBm0, ↓rSl, ↓oNone, ↓oSome, ↓gIx, ↓gTup', ↓gCons', ↓gNil', ↓rCall, ↓rCallK, ↓rCallDf, ↓rTr, ↓rPar, ↓rTrL, ↓rPar3, ↓rLkD, ↓rLkS, ↓rCv, ↓rNever, ↓rBreak, ↓rCont, ↓i2, ↓i20, ↓b20, ↓rYes, wipeE, ↓negD, ↓endOf, ↓DL.envOf, List.map_cons, List.map_nil, List.cons_append, List.nil_append, List.length_cons, List.length_nil, List.replicate, List.getElem?_cons_zero, List.getElem?_cons_succ, List.set_cons_zero, List.set_cons_succ, Nat.zero_add, Nat.reduceAdd, Nat.reduceSub, ↓reduceIte, Bool.false_eq_true, Bool.xor_false, Bool.false_xor, Bool.true_xor, Bool.not_true, Bool.not_false, if_true, if_false, decide_true, decide_false]
  refine ⟨fun i env S2 => ∃ (m : Cm) (gs : List Int) (o4 o5 : Option D), env = [some (tupI cs), some (.int ((cs.length : Nat) : Int)), some (.ref pb), some (.ref pg), o4, o5] ∧ S2 pb = some (dcO pb m) ∧ S2 pg = some (.lst (gs.map D.int)) ∧ DL.Sub S' S2 ∧ m.length ≤ cs.length + i ∧ gs.length = cs.length ∧
    (∀ c ∈ cs, ∃ w : Nat, w < cs.length + i ∧ cs[w % cs.length]? = some c ∧ (∀ u, w < u → u < cs.length + i → cs[u % cs.length]? ≠ some c) ∧ valC m (some c) = some (some ((w : Int) - ((cs.length : Nat) : Int)))) ∧
    ∀ a, a < i → ∀ w, NextN cs w (cs.length + a) → gs[w % cs.length]? = some ((gapN cs w : Nat) : Int), ?_, fun _ _ _ _ _ => trivial, ?_, ?_⟩
  · refine ⟨m, List.replicate cs.length 0, _, _, rfl, b1, b2, b0, by omega, by simp, fun c hc => ?_, fun a ha => absurd ha (Nat.not_lt_zero a)⟩
    obtain ⟨j, hj, ej⟩ := List.getElem_of_mem hc
    obtain ⟨t, t1, t2, t3, t4, t5⟩ := hm c j hj (by rw [List.getElem?_eq_getElem hj, ej])
    refine ⟨t, by omega, by rw [Nat.mod_eq_of_lt t2]; exact t3, fun u u1 u2 => ?_, t5⟩
    rw [Nat.mod_eq_of_lt (by omega)]
    exact t4 u u1 (by omega)
  · rintro i x env S2 hx ⟨m, gs, o4, o5, rfl, hb, hg, sb, ml2, gl, hw, hgs⟩
    unfold enumD at hx
    rw [List.getElem?_map, Option.map_eq_some_iff] at hx
    obtain ⟨j, hj, rfl⟩ := hx
    obtain ⟨lj, ej⟩ := List.getElem?_eq_some_iff.mp hj
    rw [List.getElem_range] at ej
    subst ej
    have hi : i < cs.length := by simpa using lj
    have gi : cs[i]? = some cs[i] := List.getElem?_eq_getElem hi
    have gd : (cs.map D.int).getD i .non = .int cs[i] := by simp [List.getD, hi]
    rw [gd]
    simp only [↓rSeq, ↓rAsg, ↓gN, ↓rRet, ↓rRetN, ↓rIf, ↓rBin, ↓rUn, ↓rB, ↓rChain, ↓rC, ↓rVar_zero, ↓rVar_succ, ↓rSkip, ↓rDrop, ↓rCons, ↓rNil, ↓rTup, ↓rLst, ↓rCallB, ↓rAndV, ↓rOrV, ↓rNotV, ↓rNot, ↓rAnd, ↓rOr, ↓rIfE, ↓rBm, ↓rBm0, ↓rSl, ↓oNone, ↓oSome, ↓gIx, ↓gTup', ↓gCons', ↓gNil', ↓rCall, ↓rCallK, ↓rCallDf, ↓rTr, ↓rPar, ↓rTrL, ↓rPar3, ↓rLkD, ↓rLkS, ↓rCv, ↓rNever, ↓rBreak, ↓rCont, ↓i2, ↓i20, ↓b20, ↓rYes, wipeE, ↓negD, ↓endOf, ↓DL.envOf, List.map_cons, List.map_nil, List.cons_append, List.nil_append, List.length_cons, List.length_nil, List.replicate, List.getElem?_cons_zero, List.getElem?_cons_succ, List.set_cons_zero, List.set_cons_succ, Nat.zero_add, Nat.reduceAdd, Nat.reduceSub, ↓reduceIte, Bool.false_eq_true, Bool.xor_false, Bool.false_xor, Bool.true_xor, Bool.not_true, Bool.not_false, if_true, if_false, decide_true, decide_false]
    refine ⟨trivial, _, _, rfl, _, _, rfl, rfl, ?_⟩
    obtain ⟨w, w1, w2, w3, w4⟩ := hw _ (List.getElem_mem hi)
    have ni : (cs.length + i) % cs.length = i := by rw [Nat.add_mod_left, Nat.mod_eq_of_lt hi]
    have nx : NextN cs w (cs.length + i) := ⟨w1, by rw [ni, gi, w2], fun u u1 u2 => by rw [w2]; exact w3 u u1 u2⟩
    have gw := gap_is pos nx
    have ml3 := Nat.mod_lt w pos
    subst hB
    refine seq_gen fun N2 hN2 => ?_
    simp only [↓rSeq, ↓rAsg, ↓gN, ↓rRet, ↓rRetN, ↓rIf, ↓rBin, ↓rUn, ↓rB, ↓rChain, ↓rC, ↓rVar_zero, ↓rVar_succ, ↓rSkip, ↓rDrop, ↓rCons, ↓rNil, ↓rTup, ↓rLst, ↓rCallB, ↓rAndV, ↓rOrV, ↓rNotV, ↓rNot, ↓rAnd, ↓rOr, ↓rIfE, ↓rBm, ↓rBm0, ↓rSl, ↓oNone, ↓oSome, ↓gIx, ↓gTup', ↓gCons', ↓gNil', ↓rCall, ↓rCallK, ↓rCallDf, ↓rTr, ↓rPar, ↓rTrL, ↓rPar3, ↓rLkD, ↓rLkS, ↓rCv, ↓rNever, ↓rBreak, ↓rCont, ↓i2, ↓i20, ↓b20, ↓rYes, wipeE, ↓negD, ↓endOf, ↓DL.envOf, List.map_cons, List.map_nil, List.cons_append, List.nil_append, List.length_cons, List.length_nil, List.replicate, List.getElem?_cons_zero, List.getElem?_cons_succ, List.set_cons_zero, List.set_cons_succ, Nat.zero_add, Nat.reduceAdd, Nat.reduceSub, ↓reduceIte, Bool.false_eq_true, Bool.xor_false, Bool.false_xor, Bool.true_xor, Bool.not_true, Bool.not_false, if_true, if_false, decide_true, decide_false]
    refine ix_dc (c := some cs[i]) hb w4 (ix_dc (c := some cs[i]) hb w4 ?_)
    refine setL_lit (j := w % cs.length) hg ?_ ?_
    · rw [List.length_map, gl]
      have wn : w < 2 * cs.length := by omega
      unfold ixN
      by_cases z : cs.length ≤ w
      · have e1 : w % cs.length = w - cs.length := by
          rw [Nat.mod_eq_sub_mod z, Nat.mod_eq_of_lt (by omega)]
        rw [if_pos (by omega), if_pos (by omega), e1]
        congr 1; omega
      · have e1 : w % cs.length = w := Nat.mod_eq_of_lt (by omega)
        rw [if_neg (by omega), if_pos (by omega), e1]
        congr 1; omega
    have ev1 : (i : Int) - ((w : Int) - ((cs.length : Nat) : Int)) = ((gapN cs w : Nat) : Int) := by omega
    rw [ev1, ← List.map_set]
    subst hN2
    simp only [↓rSeq, ↓rAsg, ↓gN, ↓rRet, ↓rRetN, ↓rIf, ↓rBin, ↓rUn, ↓rB, ↓rChain, ↓rC, ↓rVar_zero, ↓rVar_succ, ↓rSkip, ↓rDrop, ↓rCons, ↓rNil, ↓rTup, ↓rLst, ↓rCallB, ↓rAndV, ↓rOrV, ↓rNotV, ↓rNot, ↓rAnd, ↓rOr, ↓rIfE, ↓rBm, ↓rBm0, ↓rSl, ↓oNone, ↓oSome, ↓gIx, ↓gTup', ↓gCons', ↓gNil', ↓rCall, ↓rCallK, ↓rCallDf, ↓rTr, ↓rPar, ↓rTrL, ↓rPar3, ↓rLkD, ↓rLkS, ↓rCv, ↓rNever, ↓rBreak, ↓rCont, ↓i2, ↓i20, ↓b20, ↓rYes, wipeE, ↓negD, ↓endOf, ↓DL.envOf, List.map_cons, List.map_nil, List.cons_append, List.nil_append, List.length_cons, List.length_nil, List.replicate, List.getElem?_cons_zero, List.getElem?_cons_succ, List.set_cons_zero, List.set_cons_succ, Nat.zero_add, Nat.reduceAdd, Nat.reduceSub, ↓reduceIte, Bool.false_eq_true, Bool.xor_false, Bool.false_xor, Bool.true_xor, Bool.not_true, Bool.not_false, if_true, if_false, decide_true, decide_false]
    refine set_dc (c := some cs[i]) (e := some (i : Int)) (by rw [Sto.upd_ne npg]; exact hb) (Nat.lt_of_le_of_lt (show m.length ≤ 400 by omega) (by decide)) ⟨_, Sub.refl _, putC m (some cs[i]) (some (i : Int)), gs.set (w % cs.length) ((gapN cs w : Nat) : Int), _, _, rfl, Sto.upd_same, ?_, fun y o ey => ?_, Nat.le_trans (len_put ..) (by omega), by rw [List.length_set]; exact gl, fun c hc => ?_, fun a ha w' hw' => ?_⟩
    · rw [Sto.upd_ne npg.symm, Sto.upd_same]
    · have y1 : y ≠ pb := fun z => by rw [z, hpb] at ey; cases ey
      have y2 : y ≠ pg := fun z => by rw [z, hpgS] at ey; cases ey
      rw [Sto.upd_ne y1, Sto.upd_ne y2]
      exact sb _ _ ey
    · by_cases e : c = cs[i]
      · refine ⟨cs.length + i, by omega, by rw [ni, e, gi], fun u u1 u2 => by omega, ?_⟩
        rw [valC_put, e, if_pos rfl]
        congr 2; omega
      · obtain ⟨t, t1, t2, t3, t4⟩ := hw c hc
        refine ⟨t, by omega, t2, fun u u1 u2 => ?_, by rw [valC_put, if_neg (fun z => e (Option.some.inj z))]; exact t4⟩
        rcases Nat.lt_or_ge u (cs.length + i) with g | g
        · exact t3 u u1 g
        · have : u = cs.length + i := by omega
          rw [this, ni, gi]
          exact fun z => e (Option.some.inj z).symm
    · have set_at : ∀ v, gs[v % cs.length]? = some ((gapN cs v : Nat) : Int) ∨ v % cs.length = w % cs.length → (gs.set (w % cs.length) ((gapN cs w : Nat) : Int))[v % cs.length]? = some ((gapN cs v : Nat) : Int) := fun v hv => by
        by_cases z : v % cs.length = w % cs.length
        · have ez : gapN cs v = gapN cs w := by rw [← gap_mod pos v, ← gap_mod pos w, z]
          rw [z, List.getElem?_set_self (by rw [gl]; exact ml3), ez]
        · rw [List.getElem?_set_ne (fun y => z y.symm)]
          rcases hv with hv | hv
          · exact hv
          · exact absurd hv z
      rcases Nat.lt_or_ge a i with g | g
      · exact set_at w' (.inl (hgs a g w' hw'))
      · have : a = i := by omega
        subst this
        exact set_at w' (.inr (by rw [hw'.prev nx]))
  · rintro env S2 ⟨m, gs, o4, o5, rfl, hb, hg, sb, ml2, gl, hw, hgs⟩
    rw [e] at hgs
    have eg : gs = gapsN cs := by
      refine List.ext_getElem? fun t => ?_
      unfold gapsN
      by_cases ht : t < cs.length
      · have g1 := gap_spec pos t
        have g2 := g1.le pos
        have et : (List.range cs.length)[t]? = some t := by simp [ht]
        rw [List.getElem?_map, et, Option.map_some]
        rcases Nat.lt_or_ge (t + gapN cs t) cs.length with g | g
        · have sh := g1.shift 1
          rw [Nat.one_mul] at sh
          have := hgs (t + gapN cs t) g (t + cs.length) (by rw [Nat.add_comm cs.length]; exact sh)
          rw [Nat.add_mod_right, Nat.mod_eq_of_lt ht] at this
          rw [this]
          have := gap_shift pos t 1
          rw [Nat.one_mul] at this
          rw [this]
        · have ea : cs.length + (t + gapN cs t - cs.length) = t + gapN cs t := by omega
          have := hgs (t + gapN cs t - cs.length) (by omega) t (by rw [ea]; exact g1)
          rw [Nat.mod_eq_of_lt ht] at this
          exact this
      · rw [List.getElem?_eq_none (by omega), List.getElem?_eq_none (by simp; omega)]
    rw [eg] at hg
    subst hN
    simp only [↓rSeq, ↓rAsg, ↓gN, ↓rRet, ↓rRetN, ↓rIf, ↓rBin, ↓rUn, ↓rB, ↓rChain, ↓rC, ↓rVar_zero, ↓rVar_succ, ↓rSkip, ↓rDrop, ↓rCons, ↓rNil, ↓rTup, ↓rLst, ↓rCallB, ↓rAndV, ↓rOrV, ↓rNotV, ↓rNot, ↓rAnd, ↓rOr, ↓rIfE, ↓rBm, ↓rBm0, ↓rSl, ↓oNone, ↓oSome, ↓gIx, ↓gTup', ↓gCons', ↓gNil', ↓rCall, ↓rCallK, ↓rCallDf, ↓rTr, ↓rPar, ↓rTrL, ↓rPar3, ↓rLkD, ↓rLkS, ↓rCv, ↓rNever, ↓rBreak, ↓rCont, ↓i2, ↓i20, ↓b20, ↓rYes, wipeE, ↓negD, ↓endOf, ↓DL.envOf, List.map_cons, List.map_nil, List.cons_append, List.nil_append, List.length_cons, List.length_nil, List.replicate, List.getElem?_cons_zero, List.getElem?_cons_succ, List.set_cons_zero, List.set_cons_succ, Nat.zero_add, Nat.reduceAdd, Nat.reduceSub, ↓reduceIte, Bool.false_eq_true, Bool.xor_false, Bool.false_xor, Bool.true_xor, Bool.not_true, Bool.not_false, if_true, if_false, decide_true, decide_false]
    exact ⟨S2, Sub.refl _, q pg S2 sb hpgS hg⟩
theorem ok_law_shed (T : Txt mg)  (hdef : DefAt K mg "_law_shed" s_law_shed ["script", "k"]) : Callee P w K mg base CX0 1 "_law_shed" 2 c_law_shed := by
  refine mkCallee hdef sc_law_shed 2 rfl _ (fun cdv A outer s H E f hr => (have hc : (cxOf CX0 P w K mg base ["script", "k", "cell"] "_law_shed" (defScope s_law_shed) f cdv A outer s H E).nox.calm = true := rfl; have nd := sc_law_shed.nd; (rs_cons (rs_set 2 nd re_int)
    (rs_cons (rs_if (tr_cmp opLt (re_var 1) (re_callB cLen rfl T.g_len (by decide +kernel) (ra_cons (re_var 0) ra_nil)) (nomark _))
    (rs_one (rs_set 2 nd (re_ix ixSeq (re_var 0) (re_var 1))))
    rs_nil)
    (rs_one (rs_ret (re_lst (ra_cons (re_callB (cMax hc) rfl T.g_max (by decide +kernel) (ra_cons re_int (ra_cons (re_bin opSub (re_var 2) (re_bin opPowB re_int re_int)) ra_nil))) (ra_cons (re_bin opAdd (re_bin opAdd (re_bin opMod (re_var 2) (re_bin opAdd (re_bin opPowB re_int re_int) re_int)) (re_bin opMul re_int (re_var 1))) re_int) (ra_cons re_int ra_nil)))))))))) (fun ds S kk hl hC => ?_) (fun ds S kk ek z => z)
  obtain ⟨ns, i, rfl, i0, i1, l63, q⟩ := hC
  obtain ⟨n, rfl⟩ := Int.eq_ofNat_of_zero_le i0
  have q' : ∀ (u cell : Int) (p : Addr), 0 ≤ u → S p = none → ∃ S', DL.Sub S' (S.upd p (.lst [.int u, .int (cell % (10 ^ Int.toNat 38 + 133) + 30011 * (n : Int) + 41), .int 0])) ∧ kk (.ref p) S' := fun u cell p h0 hp => by
    have e : (10 ^ Int.toNat 38 + 133 : Int) = 100000000000000000000000000000000000133 := by decide
    have a1 := Int.emod_nonneg cell (b := 100000000000000000000000000000000000133) (by decide)
    have a2 := Int.emod_lt_of_pos cell (b := 100000000000000000000000000000000000133) (by decide)
    rw [e]
    refine ⟨_, Sub.refl _, q _ p ⟨u, _, 0, h0, ?_, ?_, by omega, by omega, rfl⟩ hp⟩
    · omega
    · have e39 : (10 : Int) ^ 39 = 1000000000000000000000000000000000000000 := by decide
      omega
  simp only [↓rSeq, ↓rAsg, ↓gN, ↓rRet, ↓rRetN, ↓rIf, ↓rBin, ↓rUn, ↓rB, ↓rChain, ↓rC, ↓rVar_zero, ↓rVar_succ, ↓rSkip, ↓rDrop, ↓rCons, ↓rNil, ↓rTup, ↓rLst, ↓rCallB, ↓rAndV, ↓rOrV, ↓rNotV, ↓rNot, ↓rAnd, ↓rOr, ↓rIfE, ↓rBm, ↓rBm0, ↓rSl, ↓oNone, ↓oSome, ↓gIx, ↓gTup', ↓gCons', ↓gNil', ↓rCall, ↓rCallK, ↓rCallDf, ↓rTr, ↓rPar, ↓rTrL, ↓rPar3, ↓rLkD, ↓rLkS, ↓rCv, ↓rNever, ↓rBreak, ↓rCont, ↓i2, ↓i20, ↓b20, ↓rYes, wipeE, ↓negD, ↓endOf, ↓DL.envOf, List.map_cons, List.map_nil, List.cons_append, List.nil_append, List.length_cons, List.length_nil, List.replicate, List.getElem?_cons_zero, List.getElem?_cons_succ, List.set_cons_zero, List.set_cons_succ, Nat.zero_add, Nat.reduceAdd, Nat.reduceSub, ↓reduceIte, Bool.false_eq_true, Bool.xor_false, Bool.false_xor, Bool.true_xor, Bool.not_true, Bool.not_false, if_true, if_false, decide_true, decide_false]
  refine len_at seq_lis ?_
  simp only [↓rSeq, ↓rAsg, ↓gN, ↓rRet, ↓rRetN, ↓rIf, ↓rBin, ↓rUn, ↓rB, ↓rChain, ↓rC, ↓rVar_zero, ↓rVar_succ, ↓rSkip, ↓rDrop, ↓rCons, ↓rNil, ↓rTup, ↓rLst, ↓rCallB, ↓rAndV, ↓rOrV, ↓rNotV, ↓rNot, ↓rAnd, ↓rOr, ↓rIfE, ↓rBm, ↓rBm0, ↓rSl, ↓oNone, ↓oSome, ↓gIx, ↓gTup', ↓gCons', ↓gNil', ↓rCall, ↓rCallK, ↓rCallDf, ↓rTr, ↓rPar, ↓rTrL, ↓rPar3, ↓rLkD, ↓rLkS, ↓rCv, ↓rNever, ↓rBreak, ↓rCont, ↓i2, ↓i20, ↓b20, ↓rYes, wipeE, ↓negD, ↓endOf, ↓DL.envOf, List.map_cons, List.map_nil, List.cons_append, List.nil_append, List.length_cons, List.length_nil, List.replicate, List.getElem?_cons_zero, List.getElem?_cons_succ, List.set_cons_zero, List.set_cons_succ, Nat.zero_add, Nat.reduceAdd, Nat.reduceSub, ↓reduceIte, Bool.false_eq_true, Bool.xor_false, Bool.false_xor, Bool.true_xor, Bool.not_true, Bool.not_false, if_true, if_false, decide_true, decide_false]
  rw [List.length_map]
  by_cases hn : n < ns.length
  · have hn' : ((n : Nat) : Int) < (ns.length : Nat) := by omega
    rw [if_pos (by simpa using hn')]
    refine ixD_at seq_lis (atI_nat (v := D.int ns[n]) (by rw [List.getElem?_map, List.getElem?_eq_getElem hn]; rfl)) ⟨powB_10 (by decide) (by decide), ?_⟩
    simp only [↓rSeq, ↓rAsg, ↓gN, ↓rRet, ↓rRetN, ↓rIf, ↓rBin, ↓rUn, ↓rB, ↓rChain, ↓rC, ↓rVar_zero, ↓rVar_succ, ↓rSkip, ↓rDrop, ↓rCons, ↓rNil, ↓rTup, ↓rLst, ↓rCallB, ↓rAndV, ↓rOrV, ↓rNotV, ↓rNot, ↓rAnd, ↓rOr, ↓rIfE, ↓rBm, ↓rBm0, ↓rSl, ↓oNone, ↓oSome, ↓gIx, ↓gTup', ↓gCons', ↓gNil', ↓rCall, ↓rCallK, ↓rCallDf, ↓rTr, ↓rPar, ↓rTrL, ↓rPar3, ↓rLkD, ↓rLkS, ↓rCv, ↓rNever, ↓rBreak, ↓rCont, ↓i2, ↓i20, ↓b20, ↓rYes, wipeE, ↓negD, ↓endOf, ↓DL.envOf, List.map_cons, List.map_nil, List.cons_append, List.nil_append, List.length_cons, List.length_nil, List.replicate, List.getElem?_cons_zero, List.getElem?_cons_succ, List.set_cons_zero, List.set_cons_succ, Nat.zero_add, Nat.reduceAdd, Nat.reduceSub, ↓reduceIte, Bool.false_eq_true, Bool.xor_false, Bool.false_xor, Bool.true_xor, Bool.not_true, Bool.not_false, if_true, if_false, decide_true, decide_false]
    refine max0 fun u hu => ⟨powB_10 (by decide) (by decide), add_int ?_⟩
    simp only [↓rSeq, ↓rAsg, ↓gN, ↓rRet, ↓rRetN, ↓rIf, ↓rBin, ↓rUn, ↓rB, ↓rChain, ↓rC, ↓rVar_zero, ↓rVar_succ, ↓rSkip, ↓rDrop, ↓rCons, ↓rNil, ↓rTup, ↓rLst, ↓rCallB, ↓rAndV, ↓rOrV, ↓rNotV, ↓rNot, ↓rAnd, ↓rOr, ↓rIfE, ↓rBm, ↓rBm0, ↓rSl, ↓oNone, ↓oSome, ↓gIx, ↓gTup', ↓gCons', ↓gNil', ↓rCall, ↓rCallK, ↓rCallDf, ↓rTr, ↓rPar, ↓rTrL, ↓rPar3, ↓rLkD, ↓rLkS, ↓rCv, ↓rNever, ↓rBreak, ↓rCont, ↓i2, ↓i20, ↓b20, ↓rYes, wipeE, ↓negD, ↓endOf, ↓DL.envOf, List.map_cons, List.map_nil, List.cons_append, List.nil_append, List.length_cons, List.length_nil, List.replicate, List.getElem?_cons_zero, List.getElem?_cons_succ, List.set_cons_zero, List.set_cons_succ, Nat.zero_add, Nat.reduceAdd, Nat.reduceSub, ↓reduceIte, Bool.false_eq_true, Bool.xor_false, Bool.false_xor, Bool.true_xor, Bool.not_true, Bool.not_false, if_true, if_false, decide_true, decide_false]
    refine ⟨by decide, mul_intC (.inl ⟨by decide, by decide⟩) (add_int (add_int ⟨by decide, fun p hp => q' u _ p hu hp⟩))⟩
  · have hn' : ¬ ((n : Nat) : Int) < (ns.length : Nat) := by omega
    rw [if_neg (by simpa using hn')]
    refine ⟨powB_10 (by decide) (by decide), max0 fun u hu => ⟨powB_10 (by decide) (by decide), add_int ?_⟩⟩
    simp only [↓rSeq, ↓rAsg, ↓gN, ↓rRet, ↓rRetN, ↓rIf, ↓rBin, ↓rUn, ↓rB, ↓rChain, ↓rC, ↓rVar_zero, ↓rVar_succ, ↓rSkip, ↓rDrop, ↓rCons, ↓rNil, ↓rTup, ↓rLst, ↓rCallB, ↓rAndV, ↓rOrV, ↓rNotV, ↓rNot, ↓rAnd, ↓rOr, ↓rIfE, ↓rBm, ↓rBm0, ↓rSl, ↓oNone, ↓oSome, ↓gIx, ↓gTup', ↓gCons', ↓gNil', ↓rCall, ↓rCallK, ↓rCallDf, ↓rTr, ↓rPar, ↓rTrL, ↓rPar3, ↓rLkD, ↓rLkS, ↓rCv, ↓rNever, ↓rBreak, ↓rCont, ↓i2, ↓i20, ↓b20, ↓rYes, wipeE, ↓negD, ↓endOf, ↓DL.envOf, List.map_cons, List.map_nil, List.cons_append, List.nil_append, List.length_cons, List.length_nil, List.replicate, List.getElem?_cons_zero, List.getElem?_cons_succ, List.set_cons_zero, List.set_cons_succ, Nat.zero_add, Nat.reduceAdd, Nat.reduceSub, ↓reduceIte, Bool.false_eq_true, Bool.xor_false, Bool.false_xor, Bool.true_xor, Bool.not_true, Bool.not_false, if_true, if_false, decide_true, decide_false]
    refine ⟨by decide, mul_intC (.inl ⟨by decide, by decide⟩) (add_int (add_int ⟨by decide, fun p hp => q' u _ p hu hp⟩))⟩
theorem ok_law_take (T : Txt mg)  (hdef : DefAt K mg "_law_take" s_law_take ["shed", "bound"]) : Callee P w K mg base CX0 1 "_law_take" 2 c_law_take := by
  refine mkCallee hdef sc_law_take 2 rfl _ (fun cdv A outer s H E f hr => (have hc : (cxOf CX0 P w K mg base ["shed", "bound", "mixed", "found"] "_law_take" (defScope s_law_take) f cdv A outer s H E).nox.calm = true := rfl; have nd := sc_law_take.nd; (rs_cons (rs_if (tr_cmp opGt (re_ix ixSeq (re_var 0) re_int) re_int (nomark _))
    (rs_cons (rs_set 3 nd (re_bin opMod (re_ix ixSeq (re_var 0) re_int) (re_var 1)))
    (rs_cons (rs_asg (is := List.range 50) (re_bin opDiv (re_ix ixSeq (re_var 0) re_int) (re_var 1)) (rg_sub (re_var 0) re_int setLst))
    (rs_one (rs_ret (re_var 3)))))
    rs_nil)
    (rs_cons (rs_asg (is := List.range 50) (re_bin opAdd (re_ix ixSeq (re_var 0) re_int) re_int) (rg_sub (re_var 0) re_int setLst))
    (rs_cons (rs_set 2 nd (re_bin opMod (re_bin opPowB (re_bin opAdd (re_ix ixSeq (re_var 0) re_int) (re_bin opMul re_int (re_ix ixSeq (re_var 0) re_int))) re_int) (re_bin opAdd (re_bin opPowB re_int re_int) re_int)))
    (rs_cons (rs_set 2 nd (re_bin opMod (re_bin opPowB (re_bin opAdd (re_var 2) (re_bin opMul re_int (re_ix ixSeq (re_var 0) re_int))) re_int) (re_bin opAdd (re_bin opPowB re_int re_int) re_int)))
    (rs_one (rs_ret (re_bin opMod (re_bin opDiv (re_var 2) re_int) (re_var 1)))))))))) (fun ds S kk hl hC => ?_) (fun ds S kk ek z => z)
  obtain ⟨a, m, b, N, rfl, m0, m1, ha, ⟨u, c, t, u0, c0, c1, t0, t1, rfl⟩, hN, q⟩ := hC
  have q' : ∀ (told u' t' : Int), 0 ≤ told → told < m → 0 ≤ u' → 0 ≤ t' → t' ≤ ((N + 1 : Nat) : Int) → ∃ S', DL.Sub S' (S.upd a (.lst [.int u', .int c, .int t'])) ∧ kk (.int told) S' := fun (told u' t' : Int) h1 h2 h3 h4 h5 => ⟨_, Sub.refl _, q told _ h1 h2 ⟨u', c, t', h3, c0, c1, h4, h5, rfl⟩⟩
  have lm : m.natAbs.log2 < 9000 := by
    have e : (10 : Int) ^ 37 < 2 ^ 130 := by decide
    have := lg_lt (n := m.natAbs) (k := 130) (by omega) (by decide)
    omega
  have e39 : (10 : Int) ^ 39 = 1000000000000000000000000000000000000000 := by decide
  have e41 : (10 : Int) ^ 43 = 10000000000000000000000000000000000000000000 := by decide
  have e30 : (10 : Nat) ^ 30 = 1000000000000000000000000000000 := by decide
  have e200 : (2 : Int) ^ 200 = 1606938044258990275541962092341162602522202993782792835301376 := by decide
  simp only [↓rSeq, ↓rAsg, ↓gN, ↓rRet, ↓rRetN, ↓rIf, ↓rBin, ↓rUn, ↓rB, ↓rChain, ↓rC, ↓rVar_zero, ↓rVar_succ, ↓rSkip, ↓rDrop, ↓rCons, ↓rNil, ↓rTup, ↓rLst, ↓rCallB, ↓rAndV, ↓rOrV, ↓rNotV, ↓rNot, ↓rAnd, ↓rOr, ↓rIfE, ↓rBm, ↓rBm0, ↓rSl, ↓oNone, ↓oSome, ↓gIx, ↓gTup', ↓gCons', ↓gNil', ↓rCall, ↓rCallK, ↓rCallDf, ↓rTr, ↓rPar, ↓rTrL, ↓rPar3, ↓rLkD, ↓rLkS, ↓rCv, ↓rNever, ↓rBreak, ↓rCont, ↓i2, ↓i20, ↓b20, ↓rYes, wipeE, ↓negD, ↓endOf, ↓DL.envOf, List.map_cons, List.map_nil, List.cons_append, List.nil_append, List.length_cons, List.length_nil, List.replicate, List.getElem?_cons_zero, List.getElem?_cons_succ, List.set_cons_zero, List.set_cons_succ, Nat.zero_add, Nat.reduceAdd, Nat.reduceSub, ↓reduceIte, Bool.false_eq_true, Bool.xor_false, Bool.false_xor, Bool.true_xor, Bool.not_true, Bool.not_false, if_true, if_false, decide_true, decide_false]
  refine ixD_at (seq_ref ha) rfl ?_
  simp only [↓rSeq, ↓rAsg, ↓gN, ↓rRet, ↓rRetN, ↓rIf, ↓rBin, ↓rUn, ↓rB, ↓rChain, ↓rC, ↓rVar_zero, ↓rVar_succ, ↓rSkip, ↓rDrop, ↓rCons, ↓rNil, ↓rTup, ↓rLst, ↓rCallB, ↓rAndV, ↓rOrV, ↓rNotV, ↓rNot, ↓rAnd, ↓rOr, ↓rIfE, ↓rBm, ↓rBm0, ↓rSl, ↓oNone, ↓oSome, ↓gIx, ↓gTup', ↓gCons', ↓gNil', ↓rCall, ↓rCallK, ↓rCallDf, ↓rTr, ↓rPar, ↓rTrL, ↓rPar3, ↓rLkD, ↓rLkS, ↓rCv, ↓rNever, ↓rBreak, ↓rCont, ↓i2, ↓i20, ↓b20, ↓rYes, wipeE, ↓negD, ↓endOf, ↓DL.envOf, List.map_cons, List.map_nil, List.cons_append, List.nil_append, List.length_cons, List.length_nil, List.replicate, List.getElem?_cons_zero, List.getElem?_cons_succ, List.set_cons_zero, List.set_cons_succ, Nat.zero_add, Nat.reduceAdd, Nat.reduceSub, ↓reduceIte, Bool.false_eq_true, Bool.xor_false, Bool.false_xor, Bool.true_xor, Bool.not_true, Bool.not_false, if_true, if_false, decide_true, decide_false]
  by_cases hu : 0 < u
  · rw [if_pos (by simpa using hu)]
    refine ixD_at (seq_ref ha) rfl ?_
    simp only [↓rSeq, ↓rAsg, ↓gN, ↓rRet, ↓rRetN, ↓rIf, ↓rBin, ↓rUn, ↓rB, ↓rChain, ↓rC, ↓rVar_zero, ↓rVar_succ, ↓rSkip, ↓rDrop, ↓rCons, ↓rNil, ↓rTup, ↓rLst, ↓rCallB, ↓rAndV, ↓rOrV, ↓rNotV, ↓rNot, ↓rAnd, ↓rOr, ↓rIfE, ↓rBm, ↓rBm0, ↓rSl, ↓oNone, ↓oSome, ↓gIx, ↓gTup', ↓gCons', ↓gNil', ↓rCall, ↓rCallK, ↓rCallDf, ↓rTr, ↓rPar, ↓rTrL, ↓rPar3, ↓rLkD, ↓rLkS, ↓rCv, ↓rNever, ↓rBreak, ↓rCont, ↓i2, ↓i20, ↓b20, ↓rYes, wipeE, ↓negD, ↓endOf, ↓DL.envOf, List.map_cons, List.map_nil, List.cons_append, List.nil_append, List.length_cons, List.length_nil, List.replicate, List.getElem?_cons_zero, List.getElem?_cons_succ, List.set_cons_zero, List.set_cons_succ, Nat.zero_add, Nat.reduceAdd, Nat.reduceSub, ↓reduceIte, Bool.false_eq_true, Bool.xor_false, Bool.false_xor, Bool.true_xor, Bool.not_true, Bool.not_false, if_true, if_false, decide_true, decide_false]
    refine ⟨m0, ixD_at (seq_ref ha) rfl ?_⟩
    simp only [↓rSeq, ↓rAsg, ↓gN, ↓rRet, ↓rRetN, ↓rIf, ↓rBin, ↓rUn, ↓rB, ↓rChain, ↓rC, ↓rVar_zero, ↓rVar_succ, ↓rSkip, ↓rDrop, ↓rCons, ↓rNil, ↓rTup, ↓rLst, ↓rCallB, ↓rAndV, ↓rOrV, ↓rNotV, ↓rNot, ↓rAnd, ↓rOr, ↓rIfE, ↓rBm, ↓rBm0, ↓rSl, ↓oNone, ↓oSome, ↓gIx, ↓gTup', ↓gCons', ↓gNil', ↓rCall, ↓rCallK, ↓rCallDf, ↓rTr, ↓rPar, ↓rTrL, ↓rPar3, ↓rLkD, ↓rLkS, ↓rCv, ↓rNever, ↓rBreak, ↓rCont, ↓i2, ↓i20, ↓b20, ↓rYes, wipeE, ↓negD, ↓endOf, ↓DL.envOf, List.map_cons, List.map_nil, List.cons_append, List.nil_append, List.length_cons, List.length_nil, List.replicate, List.getElem?_cons_zero, List.getElem?_cons_succ, List.set_cons_zero, List.set_cons_succ, Nat.zero_add, Nat.reduceAdd, Nat.reduceSub, ↓reduceIte, Bool.false_eq_true, Bool.xor_false, Bool.false_xor, Bool.true_xor, Bool.not_true, Bool.not_false, if_true, if_false, decide_true, decide_false]
    refine ⟨⟨m0, lm⟩, setL_lit ha rfl ?_⟩
    exact q' _ _ _ (Int.emod_nonneg _ (by omega)) (Int.emod_lt_of_pos _ m0) (Int.ediv_nonneg u0 (by omega)) t0 (by omega)
  · rw [if_neg (by simpa using hu)]
    refine ixD_at (seq_ref ha) rfl (add_int (setL_lit ha rfl ?_))
    refine ixD_at (seq_ref Sto.upd_same) rfl (ixD_at (seq_ref Sto.upd_same) rfl ?_)
    refine mul_intC (.inl ⟨by decide, by decide⟩) (add_int ?_)
    simp only [↓rSeq, ↓rAsg, ↓gN, ↓rRet, ↓rRetN, ↓rIf, ↓rBin, ↓rUn, ↓rB, ↓rChain, ↓rC, ↓rVar_zero, ↓rVar_succ, ↓rSkip, ↓rDrop, ↓rCons, ↓rNil, ↓rTup, ↓rLst, ↓rCallB, ↓rAndV, ↓rOrV, ↓rNotV, ↓rNot, ↓rAnd, ↓rOr, ↓rIfE, ↓rBm, ↓rBm0, ↓rSl, ↓oNone, ↓oSome, ↓gIx, ↓gTup', ↓gCons', ↓gNil', ↓rCall, ↓rCallK, ↓rCallDf, ↓rTr, ↓rPar, ↓rTrL, ↓rPar3, ↓rLkD, ↓rLkS, ↓rCv, ↓rNever, ↓rBreak, ↓rCont, ↓i2, ↓i20, ↓b20, ↓rYes, wipeE, ↓negD, ↓endOf, ↓DL.envOf, List.map_cons, List.map_nil, List.cons_append, List.nil_append, List.length_cons, List.length_nil, List.replicate, List.getElem?_cons_zero, List.getElem?_cons_succ, List.set_cons_zero, List.set_cons_succ, Nat.zero_add, Nat.reduceAdd, Nat.reduceSub, ↓reduceIte, Bool.false_eq_true, Bool.xor_false, Bool.false_xor, Bool.true_xor, Bool.not_true, Bool.not_false, if_true, if_false, decide_true, decide_false]
    refine ⟨powB_3 (by omega) (by omega), powB_10 (by decide) (by decide), add_int ?_⟩
    simp only [↓rSeq, ↓rAsg, ↓gN, ↓rRet, ↓rRetN, ↓rIf, ↓rBin, ↓rUn, ↓rB, ↓rChain, ↓rC, ↓rVar_zero, ↓rVar_succ, ↓rSkip, ↓rDrop, ↓rCons, ↓rNil, ↓rTup, ↓rLst, ↓rCallB, ↓rAndV, ↓rOrV, ↓rNotV, ↓rNot, ↓rAnd, ↓rOr, ↓rIfE, ↓rBm, ↓rBm0, ↓rSl, ↓oNone, ↓oSome, ↓gIx, ↓gTup', ↓gCons', ↓gNil', ↓rCall, ↓rCallK, ↓rCallDf, ↓rTr, ↓rPar, ↓rTrL, ↓rPar3, ↓rLkD, ↓rLkS, ↓rCv, ↓rNever, ↓rBreak, ↓rCont, ↓i2, ↓i20, ↓b20, ↓rYes, wipeE, ↓negD, ↓endOf, ↓DL.envOf, List.map_cons, List.map_nil, List.cons_append, List.nil_append, List.length_cons, List.length_nil, List.replicate, List.getElem?_cons_zero, List.getElem?_cons_succ, List.set_cons_zero, List.set_cons_succ, Nat.zero_add, Nat.reduceAdd, Nat.reduceSub, ↓reduceIte, Bool.false_eq_true, Bool.xor_false, Bool.false_xor, Bool.true_xor, Bool.not_true, Bool.not_false, if_true, if_false, decide_true, decide_false]
    refine ⟨by decide, ?_⟩
    have eA : (10 ^ Int.toNat 41 + 37 : Int) = 100000000000000000000000000000000000000037 := by decide
    rw [eA]
    generalize hf : (_ % 100000000000000000000000000000000000000037 : Int) = f1
    have f0 : 0 ≤ f1 := by rw [← hf]; exact Int.emod_nonneg _ (by decide)
    have f2 : f1 < 100000000000000000000000000000000000000037 := by rw [← hf]; exact Int.emod_lt_of_pos _ (by decide)
    refine ixD_at (seq_ref Sto.upd_same) rfl (mul_intC (.inl ⟨by decide, by decide⟩) (add_int ?_))
    simp only [↓rSeq, ↓rAsg, ↓gN, ↓rRet, ↓rRetN, ↓rIf, ↓rBin, ↓rUn, ↓rB, ↓rChain, ↓rC, ↓rVar_zero, ↓rVar_succ, ↓rSkip, ↓rDrop, ↓rCons, ↓rNil, ↓rTup, ↓rLst, ↓rCallB, ↓rAndV, ↓rOrV, ↓rNotV, ↓rNot, ↓rAnd, ↓rOr, ↓rIfE, ↓rBm, ↓rBm0, ↓rSl, ↓oNone, ↓oSome, ↓gIx, ↓gTup', ↓gCons', ↓gNil', ↓rCall, ↓rCallK, ↓rCallDf, ↓rTr, ↓rPar, ↓rTrL, ↓rPar3, ↓rLkD, ↓rLkS, ↓rCv, ↓rNever, ↓rBreak, ↓rCont, ↓i2, ↓i20, ↓b20, ↓rYes, wipeE, ↓negD, ↓endOf, ↓DL.envOf, List.map_cons, List.map_nil, List.cons_append, List.nil_append, List.length_cons, List.length_nil, List.replicate, List.getElem?_cons_zero, List.getElem?_cons_succ, List.set_cons_zero, List.set_cons_succ, Nat.zero_add, Nat.reduceAdd, Nat.reduceSub, ↓reduceIte, Bool.false_eq_true, Bool.xor_false, Bool.false_xor, Bool.true_xor, Bool.not_true, Bool.not_false, if_true, if_false, decide_true, decide_false]
    refine ⟨powB_3 (by omega) (by omega), powB_10 (by decide) (by decide), add_int ?_⟩
    simp only [↓rSeq, ↓rAsg, ↓gN, ↓rRet, ↓rRetN, ↓rIf, ↓rBin, ↓rUn, ↓rB, ↓rChain, ↓rC, ↓rVar_zero, ↓rVar_succ, ↓rSkip, ↓rDrop, ↓rCons, ↓rNil, ↓rTup, ↓rLst, ↓rCallB, ↓rAndV, ↓rOrV, ↓rNotV, ↓rNot, ↓rAnd, ↓rOr, ↓rIfE, ↓rBm, ↓rBm0, ↓rSl, ↓oNone, ↓oSome, ↓gIx, ↓gTup', ↓gCons', ↓gNil', ↓rCall, ↓rCallK, ↓rCallDf, ↓rTr, ↓rPar, ↓rTrL, ↓rPar3, ↓rLkD, ↓rLkS, ↓rCv, ↓rNever, ↓rBreak, ↓rCont, ↓i2, ↓i20, ↓b20, ↓rYes, wipeE, ↓negD, ↓endOf, ↓DL.envOf, List.map_cons, List.map_nil, List.cons_append, List.nil_append, List.length_cons, List.length_nil, List.replicate, List.getElem?_cons_zero, List.getElem?_cons_succ, List.set_cons_zero, List.set_cons_succ, Nat.zero_add, Nat.reduceAdd, Nat.reduceSub, ↓reduceIte, Bool.false_eq_true, Bool.xor_false, Bool.false_xor, Bool.true_xor, Bool.not_true, Bool.not_false, if_true, if_false, decide_true, decide_false]
    refine ⟨by decide, ⟨by decide, by decide⟩, m0, ?_⟩
    exact q' _ _ _ (Int.emod_nonneg _ (by omega)) (Int.emod_lt_of_pos _ m0) u0 (by omega) (by omega)
theorem ok_law_moved (T : Txt mg)  (hdef : DefAt K mg "_law_moved" s_law_moved ["row", "car"]) : Callee P w K mg base CX0 1 "_law_moved" 2 c_law_moved := by
  refine mkCallee hdef sc_law_moved 2 rfl _ (fun cdv A outer s H E f hr => (have hc : (cxOf CX0 P w K mg base ["row", "car"] "_law_moved" (defScope s_law_moved) f cdv A outer s H E).nox.calm = true := rfl; have nd := sc_law_moved.nd; (rs_cons (rs_if (tr_cmp (opIn hr.u65) (re_var 1) (re_var 0) rfl)
    (rs_one (rs_ret (re_slice slSeq (re_var 0) ro_none (ro_some (re_bm PySem.F.plainAttrs_tuple PySem.F.slot_tuple_index PySem.F.type_tuple_index mIndex (re_var 0) (ra_cons (re_var 1) ra_nil))))))
    rs_nil)
    (rs_one (rs_ret (re_bin opAdd (re_var 0) (re_tup (ra_cons (re_var 1) ra_nil)))))))) (fun ds S kk hl hC => ?_) (fun ds S kk ek z => z)
  obtain ⟨ns, c, rfl, hl, q⟩ := hC
  simp only [↓rSeq, ↓rAsg, ↓gN, ↓rRet, ↓rRetN, ↓rIf, ↓rBin, ↓rUn, ↓rB, ↓rChain, ↓rC, ↓rVar_zero, ↓rVar_succ, ↓rSkip, ↓rDrop, ↓rCons, ↓rNil, ↓rTup, ↓rLst, ↓rCallB, ↓rAndV, ↓rOrV, ↓rNotV, ↓rNot, ↓rAnd, ↓rOr, ↓rIfE, ↓rBm, ↓rBm0, ↓rSl, ↓oNone, ↓oSome, ↓gIx, ↓gTup', ↓gCons', ↓gNil', ↓rCall, ↓rCallK, ↓rCallDf, ↓rTr, ↓rPar, ↓rTrL, ↓rPar3, ↓rLkD, ↓rLkS, ↓rCv, ↓rNever, ↓rBreak, ↓rCont, ↓i2, ↓i20, ↓b20, ↓rYes, wipeE, ↓negD, ↓endOf, ↓DL.envOf, List.map_cons, List.map_nil, List.cons_append, List.nil_append, List.length_cons, List.length_nil, List.replicate, List.getElem?_cons_zero, List.getElem?_cons_succ, List.set_cons_zero, List.set_cons_succ, Nat.zero_add, Nat.reduceAdd, Nat.reduceSub, ↓reduceIte, Bool.false_eq_true, Bool.xor_false, Bool.false_xor, Bool.true_xor, Bool.not_true, Bool.not_false, if_true, if_false, decide_true, decide_false]
  refine inD_int seq_tup ?_
  simp only [↓rSeq, ↓rAsg, ↓gN, ↓rRet, ↓rRetN, ↓rIf, ↓rBin, ↓rUn, ↓rB, ↓rChain, ↓rC, ↓rVar_zero, ↓rVar_succ, ↓rSkip, ↓rDrop, ↓rCons, ↓rNil, ↓rTup, ↓rLst, ↓rCallB, ↓rAndV, ↓rOrV, ↓rNotV, ↓rNot, ↓rAnd, ↓rOr, ↓rIfE, ↓rBm, ↓rBm0, ↓rSl, ↓oNone, ↓oSome, ↓gIx, ↓gTup', ↓gCons', ↓gNil', ↓rCall, ↓rCallK, ↓rCallDf, ↓rTr, ↓rPar, ↓rTrL, ↓rPar3, ↓rLkD, ↓rLkS, ↓rCv, ↓rNever, ↓rBreak, ↓rCont, ↓i2, ↓i20, ↓b20, ↓rYes, wipeE, ↓negD, ↓endOf, ↓DL.envOf, List.map_cons, List.map_nil, List.cons_append, List.nil_append, List.length_cons, List.length_nil, List.replicate, List.getElem?_cons_zero, List.getElem?_cons_succ, List.set_cons_zero, List.set_cons_succ, Nat.zero_add, Nat.reduceAdd, Nat.reduceSub, ↓reduceIte, Bool.false_eq_true, Bool.xor_false, Bool.false_xor, Bool.true_xor, Bool.not_true, Bool.not_false, if_true, if_false, decide_true, decide_false]
  by_cases m : c ∈ ns
  · rw [step_in m] at q
    obtain ⟨j, h1, h2, h3, h4⟩ := find_first m
    rw [if_pos (by simpa using m)]
    refine ⟨rfl, ns, c, j, rfl, rfl, h1, h2, ?_⟩
    simp only [↓rSeq, ↓rAsg, ↓gN, ↓rRet, ↓rRetN, ↓rIf, ↓rBin, ↓rUn, ↓rB, ↓rChain, ↓rC, ↓rVar_zero, ↓rVar_succ, ↓rSkip, ↓rDrop, ↓rCons, ↓rNil, ↓rTup, ↓rLst, ↓rCallB, ↓rAndV, ↓rOrV, ↓rNotV, ↓rNot, ↓rAnd, ↓rOr, ↓rIfE, ↓rBm, ↓rBm0, ↓rSl, ↓oNone, ↓oSome, ↓gIx, ↓gTup', ↓gCons', ↓gNil', ↓rCall, ↓rCallK, ↓rCallDf, ↓rTr, ↓rPar, ↓rTrL, ↓rPar3, ↓rLkD, ↓rLkS, ↓rCv, ↓rNever, ↓rBreak, ↓rCont, ↓i2, ↓i20, ↓b20, ↓rYes, wipeE, ↓negD, ↓endOf, ↓DL.envOf, List.map_cons, List.map_nil, List.cons_append, List.nil_append, List.length_cons, List.length_nil, List.replicate, List.getElem?_cons_zero, List.getElem?_cons_succ, List.set_cons_zero, List.set_cons_succ, Nat.zero_add, Nat.reduceAdd, Nat.reduceSub, ↓reduceIte, Bool.false_eq_true, Bool.xor_false, Bool.false_xor, Bool.true_xor, Bool.not_true, Bool.not_false, if_true, if_false, decide_true, decide_false]
    show ∃ S', DL.Sub S' S ∧ kk (.tup (cutD (ns.map D.int) none (some (j : Int)))) S'
    rw [cut_to, ← List.map_take, ← h3]
    exact ⟨S, Sub.refl S, q⟩
  · rw [step_out m] at q
    rw [if_neg (by simpa using m)]
    refine ⟨by decide, add_tup (by rw [List.length_map]; exact Nat.le_trans (Nat.add_le_add_right hl 1) (by decide)) ⟨S, Sub.refl S, ?_⟩⟩
    have e : ns.map D.int ++ [D.int c] = (ns ++ [c]).map D.int := by simp
    rw [e]
    exact q
theorem ok_law_all_days (T : Txt mg)  (hdef : DefAt K mg "_law_all_days" s_law_all_days ["many", "cars"]) : Callee P w K mg base CX0 1 "_law_all_days" 2 c_law_all_days := by
  refine mkCallee hdef sc_law_all_days 2 rfl _ (fun cdv A outer s H E f hr => (have hc : (cxOf CX0 P w K mg base ["many", "cars", "found", "turn", "longer", "day", "car"] "_law_all_days" (defScope s_law_all_days) f cdv A outer s H E).nox.calm = true := rfl; have nd := sc_law_all_days.nd; (rs_cons (rs_set 2 nd (re_lst (ra_cons (re_tup ra_nil) ra_nil)))
    (rs_cons (rs_for (is := List.range 50) PassesOwn.never hc (ri_rng rfl T.g_range (ra_cons (re_var 0) ra_nil)) (rg_name 3 nd (by simp))
    (rs_cons (rs_set 4 nd (re_lst ra_nil))
    (rs_cons (rs_for (is := List.range 50) PassesOwn.never hc (ri_seq (re_var 2)) (rg_name 5 nd (by simp))
    (rs_one (rs_expr (re_bm PySem.F.plainAttrs_list PySem.F.slot_list_extend PySem.F.type_list_extend mExtend (re_var 4) (ra_cons (re_comp [("car", 6)] hc nd (ri_rng rfl T.g_range (ra_cons (re_var 1) ra_nil)) (blkOk_by (N := ["many", "cars", "found", "turn", "longer", "day", "car"]) (sc := defScope s_law_all_days) (by decide +kernel)) (fun _ _ _ _ _ => (rg_name 6 nd (by simp))) (fun _ _ _ _ _ => ts_nil) (fun _ _ _ _ _ => (re_bin opAdd (re_var 5) (re_tup (ra_cons (re_var 6) ra_nil))))) ra_nil)))))
    (rs_one (rs_set 2 nd (re_var 4))))))
    (rs_one (rs_ret (re_var 2))))))) (fun ds S kk hl hC => ?_) (fun ds S kk ek z => z)
  obtain ⟨m, rfl, hm, q⟩ := hC
  refine seq_gen fun N hN => ?_
  simp only [↓rSeq, ↓rAsg, ↓gN, ↓rRet, ↓rRetN, ↓rIf, ↓rBin, ↓rUn, ↓rB, ↓rChain, ↓rC, ↓rVar_zero, ↓rVar_succ, ↓rSkip, ↓rDrop, ↓rCons, ↓rNil, ↓rTup, ↓rLst, ↓rCallB, ↓rAndV, ↓rOrV, ↓rNotV, ↓rNot, ↓rAnd, ↓rOr, ↓rIfE, ↓rBm, ↓rBm0, ↓rSl, ↓oNone, ↓oSome, ↓gIx, ↓gTup', ↓gCons', ↓gNil', ↓rCall, ↓rCallK, ↓rCallDf, ↓rTr, ↓rPar, ↓rTrL, ↓rPar3, ↓rLkD, ↓rLkS, ↓rCv, ↓rNever, ↓rBreak, ↓rCont, ↓i2, ↓i20, ↓b20, ↓rYes, wipeE, ↓negD, ↓endOf, ↓DL.envOf, List.map_cons, List.map_nil, List.cons_append, List.nil_append, List.length_cons, List.length_nil, List.replicate, List.getElem?_cons_zero, List.getElem?_cons_succ, List.set_cons_zero, List.set_cons_succ, Nat.zero_add, Nat.reduceAdd, Nat.reduceSub, ↓reduceIte, Bool.false_eq_true, Bool.xor_false, Bool.false_xor, Bool.true_xor, Bool.not_true, Bool.not_false, if_true, if_false, decide_true, decide_false]
  refine ⟨by decide, by decide, fun p1 hp1 => ?_⟩
  subst hN
  refine seq_gen fun N hN => ?_
  refine for_gen fun B hB => ?_
  unfold rFor iRng
  simp only [↓rSeq, ↓rAsg, ↓gN, ↓rRet, ↓rRetN, ↓rIf, ↓rBin, ↓rUn, ↓rB, ↓rChain, ↓rC, ↓rVar_zero, ↓rVar_succ, ↓rSkip, ↓rDrop, ↓rCons, ↓rNil, ↓rTup, ↓rLst, ↓rCallB, ↓rAndV, ↓rOrV, ↓rNotV, ↓rNot, ↓rAnd, ↓rOr, ↓rIfE, ↓rBm, ↓rBm0, ↓rSl, ↓oNone, ↓oSome, ↓gIx, ↓gTup', ↓gCons', ↓gNil', ↓rCall, ↓rCallK, ↓rCallDf, ↓rTr, ↓rPar, ↓rTrL, ↓rPar3, ↓rLkD, ↓rLkS, ↓rCv, ↓rNever, ↓rBreak, ↓rCont, ↓i2, ↓i20, ↓b20, ↓rYes, wipeE, ↓negD, ↓endOf, ↓DL.envOf, List.map_cons, List.map_nil, List.cons_append, List.nil_append, List.length_cons, List.length_nil, List.replicate, List.getElem?_cons_zero, List.getElem?_cons_succ, List.set_cons_zero, List.set_cons_succ, Nat.zero_add, Nat.reduceAdd, Nat.reduceSub, ↓reduceIte, Bool.false_eq_true, Bool.xor_false, Bool.false_xor, Bool.true_xor, Bool.not_true, Bool.not_false, if_true, if_false, decide_true, decide_false]
  refine ⟨by omega, by omega, fun i env S' => ∃ (p : Addr) (L : List (List Int)) (o3 o4 o5 o6 : Option D), env = [some (.int (m : Nat)), some (.int 4), some (.ref p), o3, o4, o5, o6] ∧ DL.Sub S S' ∧ S p = none ∧ S' p = some (.lst (L.map tupI)) ∧ L.length ≤ 4 ^ i ∧ ∀ l ∈ L, l.length = i ∧ ∀ x ∈ l, Car x, ⟨p1, [[]], _, _, _, _, rfl, Sub.upd hp1, hp1, Sto.upd_same, by decide, fun l hl => ?_⟩, fun _ _ _ _ _ => trivial, ?_, ?_⟩
  · rw [List.mem_singleton.mp hl]
    exact ⟨rfl, fun x hx => (nomatch hx)⟩
  · rintro i x env S' hx ⟨p, L, o3, o4, o5, o6, rfl, sub, fp, ep, len, good⟩
    obtain ⟨hi, rfl⟩ := rngD_it hx
    subst hB
    refine seq_gen fun N2 hN2 => ?_
    simp only [↓rSeq, ↓rAsg, ↓gN, ↓rRet, ↓rRetN, ↓rIf, ↓rBin, ↓rUn, ↓rB, ↓rChain, ↓rC, ↓rVar_zero, ↓rVar_succ, ↓rSkip, ↓rDrop, ↓rCons, ↓rNil, ↓rTup, ↓rLst, ↓rCallB, ↓rAndV, ↓rOrV, ↓rNotV, ↓rNot, ↓rAnd, ↓rOr, ↓rIfE, ↓rBm, ↓rBm0, ↓rSl, ↓oNone, ↓oSome, ↓gIx, ↓gTup', ↓gCons', ↓gNil', ↓rCall, ↓rCallK, ↓rCallDf, ↓rTr, ↓rPar, ↓rTrL, ↓rPar3, ↓rLkD, ↓rLkS, ↓rCv, ↓rNever, ↓rBreak, ↓rCont, ↓i2, ↓i20, ↓b20, ↓rYes, wipeE, ↓negD, ↓endOf, ↓DL.envOf, List.map_cons, List.map_nil, List.cons_append, List.nil_append, List.length_cons, List.length_nil, List.replicate, List.getElem?_cons_zero, List.getElem?_cons_succ, List.set_cons_zero, List.set_cons_succ, Nat.zero_add, Nat.reduceAdd, Nat.reduceSub, ↓reduceIte, Bool.false_eq_true, Bool.xor_false, Bool.false_xor, Bool.true_xor, Bool.not_true, Bool.not_false, if_true, if_false, decide_true, decide_false]
    refine ⟨by decide, fun p2 hp2 => ?_⟩
    have ep2 : (S'.upd p2 (.lst [])) p = some (.lst (L.map tupI)) := old_new hp2 ep
    have np : p2 ≠ p := fun e => by rw [e, ep] at hp2; cases hp2
    have fp2 := sub.free hp2
    subst hN2
    refine seq_gen fun N2 hN2 => ?_
    refine for_gen fun B hB => ?_
    unfold rFor iSeq
    simp only [↓rSeq, ↓rAsg, ↓gN, ↓rRet, ↓rRetN, ↓rIf, ↓rBin, ↓rUn, ↓rB, ↓rChain, ↓rC, ↓rVar_zero, ↓rVar_succ, ↓rSkip, ↓rDrop, ↓rCons, ↓rNil, ↓rTup, ↓rLst, ↓rCallB, ↓rAndV, ↓rOrV, ↓rNotV, ↓rNot, ↓rAnd, ↓rOr, ↓rIfE, ↓rBm, ↓rBm0, ↓rSl, ↓oNone, ↓oSome, ↓gIx, ↓gTup', ↓gCons', ↓gNil', ↓rCall, ↓rCallK, ↓rCallDf, ↓rTr, ↓rPar, ↓rTrL, ↓rPar3, ↓rLkD, ↓rLkS, ↓rCv, ↓rNever, ↓rBreak, ↓rCont, ↓i2, ↓i20, ↓b20, ↓rYes, wipeE, ↓negD, ↓endOf, ↓DL.envOf, List.map_cons, List.map_nil, List.cons_append, List.nil_append, List.length_cons, List.length_nil, List.replicate, List.getElem?_cons_zero, List.getElem?_cons_succ, List.set_cons_zero, List.set_cons_succ, Nat.zero_add, Nat.reduceAdd, Nat.reduceSub, ↓reduceIte, Bool.false_eq_true, Bool.xor_false, Bool.false_xor, Bool.true_xor, Bool.not_true, Bool.not_false, if_true, if_false, decide_true, decide_false]
    rw [ep2]
    dsimp only
    refine ⟨fun j env S'' => ∃ (L2 : List (List Int)) (o5 o6 : Option D), env = [some (.int (m : Nat)), some (.int 4), some (.ref p), some (.int (i : Nat)), some (.ref p2), o5, o6] ∧ DL.Sub S S'' ∧ S'' p = some (.lst (L.map tupI)) ∧ S'' p2 = some (.lst (L2.map tupI)) ∧ L2.length ≤ 4 * j ∧ ∀ l ∈ L2, l.length = i + 1 ∧ ∀ x ∈ l, Car x, ⟨[], _, _, rfl, sub.trans (Sub.upd hp2), ep2, Sto.upd_same, Nat.zero_le _, fun l hl => (nomatch hl)⟩, fun j env S'' _ ⟨_, _, _, _, _, z, _⟩ => z, ?_, ?_⟩
    · rintro j x env S'' hx ⟨L2, o5, o6, rfl, sub2, ep3, e2, len2, good2⟩
      rw [List.getElem?_map, Option.map_eq_some_iff] at hx
      obtain ⟨day, hday, rfl⟩ := hx
      obtain ⟨gl, gc⟩ := good day (List.mem_of_getElem? hday)
      have hj := (List.getElem?_eq_some_iff.mp hday).1
      have big : (4 : Nat) ^ i ≤ 4 ^ 5 := Nat.pow_le_pow_right (by decide) (by omega)
      have b5 : (4 : Nat) ^ 5 = 1024 := by decide
      subst hB
      simp only [↓rSeq, ↓rAsg, ↓gN, ↓rRet, ↓rRetN, ↓rIf, ↓rBin, ↓rUn, ↓rB, ↓rChain, ↓rC, ↓rVar_zero, ↓rVar_succ, ↓rSkip, ↓rDrop, ↓rCons, ↓rNil, ↓rTup, ↓rLst, ↓rCallB, ↓rAndV, ↓rOrV, ↓rNotV, ↓rNot, ↓rAnd, ↓rOr, ↓rIfE, ↓rBm, ↓rBm0, ↓rSl, ↓oNone, ↓oSome, ↓gIx, ↓gTup', ↓gCons', ↓gNil', ↓rCall, ↓rCallK, ↓rCallDf, ↓rTr, ↓rPar, ↓rTrL, ↓rPar3, ↓rLkD, ↓rLkS, ↓rCv, ↓rNever, ↓rBreak, ↓rCont, ↓i2, ↓i20, ↓b20, ↓rYes, wipeE, ↓negD, ↓endOf, ↓DL.envOf, List.map_cons, List.map_nil, List.cons_append, List.nil_append, List.length_cons, List.length_nil, List.replicate, List.getElem?_cons_zero, List.getElem?_cons_succ, List.set_cons_zero, List.set_cons_succ, Nat.zero_add, Nat.reduceAdd, Nat.reduceSub, ↓reduceIte, Bool.false_eq_true, Bool.xor_false, Bool.false_xor, Bool.true_xor, Bool.not_true, Bool.not_false, if_true, if_false, decide_true, decide_false]
      unfold rComp iRng
      simp only [↓rSeq, ↓rAsg, ↓gN, ↓rRet, ↓rRetN, ↓rIf, ↓rBin, ↓rUn, ↓rB, ↓rChain, ↓rC, ↓rVar_zero, ↓rVar_succ, ↓rSkip, ↓rDrop, ↓rCons, ↓rNil, ↓rTup, ↓rLst, ↓rCallB, ↓rAndV, ↓rOrV, ↓rNotV, ↓rNot, ↓rAnd, ↓rOr, ↓rIfE, ↓rBm, ↓rBm0, ↓rSl, ↓oNone, ↓oSome, ↓gIx, ↓gTup', ↓gCons', ↓gNil', ↓rCall, ↓rCallK, ↓rCallDf, ↓rTr, ↓rPar, ↓rTrL, ↓rPar3, ↓rLkD, ↓rLkS, ↓rCv, ↓rNever, ↓rBreak, ↓rCont, ↓i2, ↓i20, ↓b20, ↓rYes, wipeE, ↓negD, ↓endOf, ↓DL.envOf, List.map_cons, List.map_nil, List.cons_append, List.nil_append, List.length_cons, List.length_nil, List.replicate, List.getElem?_cons_zero, List.getElem?_cons_succ, List.set_cons_zero, List.set_cons_succ, Nat.zero_add, Nat.reduceAdd, Nat.reduceSub, ↓reduceIte, Bool.false_eq_true, Bool.xor_false, Bool.false_xor, Bool.true_xor, Bool.not_true, Bool.not_false, if_true, if_false, decide_true, decide_false]
      refine ⟨tyD_lst e2, by decide, by decide, fun c acc S3 => S3 = S'' ∧ acc = ((List.range c).map fun c : Nat => day ++ [((c : Nat) : Int)]).map tupI, ⟨rfl, rfl⟩, fun _ _ _ _ _ => trivial, ?_, ?_⟩
      · rintro c x acc S3 hx ⟨rfl, rfl⟩
        obtain ⟨hc, rfl⟩ := rngD_it hx
        simp only [↓rSeq, ↓rAsg, ↓gN, ↓rRet, ↓rRetN, ↓rIf, ↓rBin, ↓rUn, ↓rB, ↓rChain, ↓rC, ↓rVar_zero, ↓rVar_succ, ↓rSkip, ↓rDrop, ↓rCons, ↓rNil, ↓rTup, ↓rLst, ↓rCallB, ↓rAndV, ↓rOrV, ↓rNotV, ↓rNot, ↓rAnd, ↓rOr, ↓rIfE, ↓rBm, ↓rBm0, ↓rSl, ↓oNone, ↓oSome, ↓gIx, ↓gTup', ↓gCons', ↓gNil', ↓rCall, ↓rCallK, ↓rCallDf, ↓rTr, ↓rPar, ↓rTrL, ↓rPar3, ↓rLkD, ↓rLkS, ↓rCv, ↓rNever, ↓rBreak, ↓rCont, ↓i2, ↓i20, ↓b20, ↓rYes, wipeE, ↓negD, ↓endOf, ↓DL.envOf, List.map_cons, List.map_nil, List.cons_append, List.nil_append, List.length_cons, List.length_nil, List.replicate, List.getElem?_cons_zero, List.getElem?_cons_succ, List.set_cons_zero, List.set_cons_succ, Nat.zero_add, Nat.reduceAdd, Nat.reduceSub, ↓reduceIte, Bool.false_eq_true, Bool.xor_false, Bool.false_xor, Bool.true_xor, Bool.not_true, Bool.not_false, if_true, if_false, decide_true, decide_false]
        refine ⟨by decide, ?_⟩
        refine add_tup (by rw [List.length_map, gl]; exact Nat.le_trans (show i + 1 ≤ 100 by omega) (by decide)) ⟨?_, S3, Sub.refl _, rfl, ?_⟩
        · have c4 : c < 4 := hc
          rw [List.length_map, List.length_map, List.length_range]; exact Nat.lt_trans c4 (by decide)
        · rw [List.range_succ, List.map_append, List.map_append]
          simp [tupI]
      · rintro acc S3 ⟨rfl, rfl⟩ p4 hp4
        have n42 : p4 ≠ p2 := fun z => by rw [z, e2] at hp4; cases hp4
        refine ext_ref (old_new hp4 e2) Sto.upd_same ?_ ?_
        · rw [List.length_map, List.length_map, List.length_map, List.length_range, rngD_len]
          have : Int.toNat 4 = 4 := rfl
          exact Nat.le_trans (show _ ≤ 5000 by omega) (by decide)
        · refine ⟨_, Sub.refl _, L2 ++ (List.range 4).map fun c : Nat => day ++ [((c : Nat) : Int)], _, _, rfl, (sub2.over (sub2.free hp4)).over fp2, ?_, ?_, ?_, ?_⟩
          · rw [Sto.upd_ne np.symm]; exact old_new hp4 ep3
          · rw [Sto.upd_same, List.map_append, rngD_len]; rfl
          · rw [List.length_append, List.length_map, List.length_range]; omega
          · intro l hl
            rcases List.mem_append.mp hl with z | z
            · exact good2 l z
            · obtain ⟨c, hc, rfl⟩ := List.mem_map.mp z
              have c4 := List.mem_range.mp hc
              refine ⟨by rw [List.length_append, gl]; rfl, fun x hx => ?_⟩
              rcases List.mem_append.mp hx with w | w
              · exact gc x w
              · rw [List.mem_singleton.mp w]; exact ⟨by omega, by omega⟩
    · rintro env S'' ⟨L2, o5, o6, rfl, sub2, ep3, e2, len2, good2⟩
      rw [List.length_map] at len2
      subst hN2
      simp only [↓rSeq, ↓rAsg, ↓gN, ↓rRet, ↓rRetN, ↓rIf, ↓rBin, ↓rUn, ↓rB, ↓rChain, ↓rC, ↓rVar_zero, ↓rVar_succ, ↓rSkip, ↓rDrop, ↓rCons, ↓rNil, ↓rTup, ↓rLst, ↓rCallB, ↓rAndV, ↓rOrV, ↓rNotV, ↓rNot, ↓rAnd, ↓rOr, ↓rIfE, ↓rBm, ↓rBm0, ↓rSl, ↓oNone, ↓oSome, ↓gIx, ↓gTup', ↓gCons', ↓gNil', ↓rCall, ↓rCallK, ↓rCallDf, ↓rTr, ↓rPar, ↓rTrL, ↓rPar3, ↓rLkD, ↓rLkS, ↓rCv, ↓rNever, ↓rBreak, ↓rCont, ↓i2, ↓i20, ↓b20, ↓rYes, wipeE, ↓negD, ↓endOf, ↓DL.envOf, List.map_cons, List.map_nil, List.cons_append, List.nil_append, List.length_cons, List.length_nil, List.replicate, List.getElem?_cons_zero, List.getElem?_cons_succ, List.set_cons_zero, List.set_cons_succ, Nat.zero_add, Nat.reduceAdd, Nat.reduceSub, ↓reduceIte, Bool.false_eq_true, Bool.xor_false, Bool.false_xor, Bool.true_xor, Bool.not_true, Bool.not_false, if_true, if_false, decide_true, decide_false]
      refine ⟨S'', Sub.refl _, p2, L2, _, _, _, _, rfl, sub2, fp2, e2, ?_, good2⟩
      rw [Nat.pow_succ]
      omega
  · rintro env S' ⟨p, L, o3, o4, o5, o6, rfl, sub, fp, ep, len, good⟩
    rw [rngD_len] at len good
    subst hN
    simp only [↓rSeq, ↓rAsg, ↓gN, ↓rRet, ↓rRetN, ↓rIf, ↓rBin, ↓rUn, ↓rB, ↓rChain, ↓rC, ↓rVar_zero, ↓rVar_succ, ↓rSkip, ↓rDrop, ↓rCons, ↓rNil, ↓rTup, ↓rLst, ↓rCallB, ↓rAndV, ↓rOrV, ↓rNotV, ↓rNot, ↓rAnd, ↓rOr, ↓rIfE, ↓rBm, ↓rBm0, ↓rSl, ↓oNone, ↓oSome, ↓gIx, ↓gTup', ↓gCons', ↓gNil', ↓rCall, ↓rCallK, ↓rCallDf, ↓rTr, ↓rPar, ↓rTrL, ↓rPar3, ↓rLkD, ↓rLkS, ↓rCv, ↓rNever, ↓rBreak, ↓rCont, ↓i2, ↓i20, ↓b20, ↓rYes, wipeE, ↓negD, ↓endOf, ↓DL.envOf, List.map_cons, List.map_nil, List.cons_append, List.nil_append, List.length_cons, List.length_nil, List.replicate, List.getElem?_cons_zero, List.getElem?_cons_succ, List.set_cons_zero, List.set_cons_succ, Nat.zero_add, Nat.reduceAdd, Nat.reduceSub, ↓reduceIte, Bool.false_eq_true, Bool.xor_false, Bool.false_xor, Bool.true_xor, Bool.not_true, Bool.not_false, if_true, if_false, decide_true, decide_false]
    have e : Int.toNat ((m : Nat) : Int) = m := rfl
    exact ⟨_, Sub.refl _, q p L S' sub fp ep len good⟩
theorem ok_is_car (T : Txt mg) (F_is_whole : Callee P w K mg base CX0 1 "is_whole" 1 c_is_whole) (hdef : DefAt K mg "is_car" s_is_car ["value"]) : Callee P w K mg base CX0 2 "is_car" 1 c_is_car := by
  refine mkCallee hdef sc_is_car 1 rfl _ (fun cdv A outer s H E f hr => (have hc : (cxOf CX0 P w K mg base ["value"] "is_car" (defScope s_is_car) f cdv A outer s H E).nox.calm = true := rfl; have nd := sc_is_car.nd; (rs_one (rs_ret (re_and (re_call F_is_whole (hr.mono (by decide)) rfl (ra_cons (re_var 0) ra_nil)) (re_one (re_chain opLe opLt re_int (re_var 0) (re_gint rfl T.g_CARS)))))))) (fun ds S kk hl hC => ?_) (fun ds S kk ek z => z)
  obtain ⟨x, rfl, hk, q⟩ := hC
  simp only [↓rSeq, ↓rAsg, ↓gN, ↓rRet, ↓rRetN, ↓rIf, ↓rBin, ↓rUn, ↓rB, ↓rChain, ↓rC, ↓rVar_zero, ↓rVar_succ, ↓rSkip, ↓rDrop, ↓rCons, ↓rNil, ↓rTup, ↓rLst, ↓rCallB, ↓rAndV, ↓rOrV, ↓rNotV, ↓rNot, ↓rAnd, ↓rOr, ↓rIfE, ↓rBm, ↓rBm0, ↓rSl, ↓oNone, ↓oSome, ↓gIx, ↓gTup', ↓gCons', ↓gNil', ↓rCall, ↓rCallK, ↓rCallDf, ↓rTr, ↓rPar, ↓rTrL, ↓rPar3, ↓rLkD, ↓rLkS, ↓rCv, ↓rNever, ↓rBreak, ↓rCont, ↓i2, ↓i20, ↓b20, ↓rYes, wipeE, ↓negD, ↓endOf, ↓DL.envOf, List.map_cons, List.map_nil, List.cons_append, List.nil_append, List.length_cons, List.length_nil, List.replicate, List.getElem?_cons_zero, List.getElem?_cons_succ, List.set_cons_zero, List.set_cons_succ, Nat.zero_add, Nat.reduceAdd, Nat.reduceSub, ↓reduceIte, Bool.false_eq_true, Bool.xor_false, Bool.false_xor, Bool.true_xor, Bool.not_true, Bool.not_false, if_true, if_false, decide_true, decide_false]
  refine ⟨trivial, x, rfl, hk, ?_⟩
  cases x with
  | int i =>
    simp only [isW]
    by_cases h0 : 0 ≤ i
    · simp only [isCar, h0, decide_true, Bool.true_and] at q ⊢
      exact ⟨S, Sub.refl S, q⟩
    · simp only [isCar, h0, decide_false, Bool.false_and] at q ⊢
      exact ⟨S, Sub.refl S, q⟩
  | _ => exact ⟨S, Sub.refl S, q⟩
theorem ok_cycles_in (T : Txt mg) (F_cycle_from : Callee P w K mg base CX0 1 "cycle_from" 2 c_cycle_from) (hdef : DefAt K mg "cycles_in" s_cycles_in ["leads"]) : Callee P w K mg base CX0 2 "cycles_in" 1 c_cycles_in := by
  refine mkCallee hdef sc_cycles_in 1 rfl _ (fun cdv A outer s H E f hr => (have hc : (cxOf CX0 P w K mg base ["leads", "seen", "cycles", "first", "cycle", "key"] "cycles_in" (defScope s_cycles_in) f cdv A outer s H E).nox.calm = true := rfl; have nd := sc_cycles_in.nd; (rs_cons (rs_set 1 nd (re_set0 rfl T.g_set))
    (rs_cons (rs_set 2 nd (re_lst ra_nil))
    (rs_cons (rs_for (is := List.range 50) PassesOwn.never hc (ri_dk (re_var 0)) (rg_name 3 nd (by simp))
    (rs_one (rs_if (tr_cmp opNotInSk (re_var 3) (re_var 1) rfl)
    (rs_cons (rs_set 4 nd (re_call F_cycle_from (hr.mono (by decide)) rfl (ra_cons (re_var 0) (ra_cons (re_var 3) ra_nil))))
    (rs_cons (rs_expr (re_bm PySem.F.plainAttrs_list PySem.F.slot_list_append PySem.F.type_list_append mAppend (re_var 2) (ra_cons (re_var 4) ra_nil)))
    (rs_one (rs_for (is := List.range 50) PassesOwn.never hc (ri_seq (re_var 4)) (rg_name 5 nd (by simp))
    (rs_one (rs_expr (re_sadd (re_var 1) (re_var 5))))))))
    rs_nil)))
    (rs_one (rs_ret (re_var 2)))))))) (fun ds S kk hl hC => ?_) (fun ds S kk ek z => z)
  obtain ⟨ks, f', rfl, hP, k300, q⟩ := hC
  refine seq_gen fun N hN => ?_
  simp only [↓rSeq, ↓rAsg, ↓gN, ↓rRet, ↓rRetN, ↓rIf, ↓rBin, ↓rUn, ↓rB, ↓rChain, ↓rC, ↓rVar_zero, ↓rVar_succ, ↓rSkip, ↓rDrop, ↓rCons, ↓rNil, ↓rTup, ↓rLst, ↓rCallB, ↓rAndV, ↓rOrV, ↓rNotV, ↓rNot, ↓rAnd, ↓rOr, ↓rIfE, ↓rBm, ↓rBm0, ↓rSl, ↓oNone, ↓oSome, ↓gIx, ↓gTup', ↓gCons', ↓gNil', ↓rCall, ↓rCallK, ↓rCallDf, ↓rTr, ↓rPar, ↓rTrL, ↓rPar3, ↓rLkD, ↓rLkS, ↓rCv, ↓rNever, ↓rBreak, ↓rCont, ↓i2, ↓i20, ↓b20, ↓rYes, wipeE, ↓negD, ↓endOf, ↓DL.envOf, List.map_cons, List.map_nil, List.cons_append, List.nil_append, List.length_cons, List.length_nil, List.replicate, List.getElem?_cons_zero, List.getElem?_cons_succ, List.set_cons_zero, List.set_cons_succ, Nat.zero_add, Nat.reduceAdd, Nat.reduceSub, ↓reduceIte, Bool.false_eq_true, Bool.xor_false, Bool.false_xor, Bool.true_xor, Bool.not_true, Bool.not_false, if_true, if_false, decide_true, decide_false]
  unfold DL.rSet0
  intro ps hps
  subst hN
  refine seq_gen fun N hN => ?_
  simp only [↓rSeq, ↓rAsg, ↓gN, ↓rRet, ↓rRetN, ↓rIf, ↓rBin, ↓rUn, ↓rB, ↓rChain, ↓rC, ↓rVar_zero, ↓rVar_succ, ↓rSkip, ↓rDrop, ↓rCons, ↓rNil, ↓rTup, ↓rLst, ↓rCallB, ↓rAndV, ↓rOrV, ↓rNotV, ↓rNot, ↓rAnd, ↓rOr, ↓rIfE, ↓rBm, ↓rBm0, ↓rSl, ↓oNone, ↓oSome, ↓gIx, ↓gTup', ↓gCons', ↓gNil', ↓rCall, ↓rCallK, ↓rCallDf, ↓rTr, ↓rPar, ↓rTrL, ↓rPar3, ↓rLkD, ↓rLkS, ↓rCv, ↓rNever, ↓rBreak, ↓rCont, ↓i2, ↓i20, ↓b20, ↓rYes, wipeE, ↓negD, ↓endOf, ↓DL.envOf, List.map_cons, List.map_nil, List.cons_append, List.nil_append, List.length_cons, List.length_nil, List.replicate, List.getElem?_cons_zero, List.getElem?_cons_succ, List.set_cons_zero, List.set_cons_succ, Nat.zero_add, Nat.reduceAdd, Nat.reduceSub, ↓reduceIte, Bool.false_eq_true, Bool.xor_false, Bool.false_xor, Bool.true_xor, Bool.not_true, Bool.not_false, if_true, if_false, decide_true, decide_false]
  refine ⟨by decide, fun p hp => ?_⟩
  subst hN
  refine seq_gen fun N hN => ?_
  refine for_gen fun B hB => ?_
  unfold rFor iDk
  simp only [↓rSeq, ↓rAsg, ↓gN, ↓rRet, ↓rRetN, ↓rIf, ↓rBin, ↓rUn, ↓rB, ↓rChain, ↓rC, ↓rVar_zero, ↓rVar_succ, ↓rSkip, ↓rDrop, ↓rCons, ↓rNil, ↓rTup, ↓rLst, ↓rCallB, ↓rAndV, ↓rOrV, ↓rNotV, ↓rNot, ↓rAnd, ↓rOr, ↓rIfE, ↓rBm, ↓rBm0, ↓rSl, ↓oNone, ↓oSome, ↓gIx, ↓gTup', ↓gCons', ↓gNil', ↓rCall, ↓rCallK, ↓rCallDf, ↓rTr, ↓rPar, ↓rTrL, ↓rPar3, ↓rLkD, ↓rLkS, ↓rCv, ↓rNever, ↓rBreak, ↓rCont, ↓i2, ↓i20, ↓b20, ↓rYes, wipeE, ↓negD, ↓endOf, ↓DL.envOf, List.map_cons, List.map_nil, List.cons_append, List.nil_append, List.length_cons, List.length_nil, List.replicate, List.getElem?_cons_zero, List.getElem?_cons_succ, List.set_cons_zero, List.set_cons_succ, Nat.zero_add, Nat.reduceAdd, Nat.reduceSub, ↓reduceIte, Bool.false_eq_true, Bool.xor_false, Bool.false_xor, Bool.true_xor, Bool.not_true, Bool.not_false, if_true, if_false, decide_true, decide_false]
  have npp : p ≠ ps := fun e => by rw [e, Sto.upd_same] at hp; cases hp
  have hpS : S p = none := by rw [Sto.upd_ne npp] at hp; exact hp
  refine ⟨fun i env S' => ∃ qs f n a b c, env = [some (dicP2 ks f'), some (.ref ps), some (.ref p), a, b, c] ∧ DL.Sub S S' ∧ S' ps = some (.ho (skO ps f n)) ∧ (∀ z, f z = decide (z ∈ (cysP ks f' (ks.take i) []).flatten)) ∧ n = (cysP ks f' (ks.take i) []).flatten.length ∧
    S' p = some (.lst (qs.map D.ref)) ∧ Rows S' qs (cysP ks f' (ks.take i) []) ∧ ∀ q ∈ qs, S q = none ∧ q ≠ p ∧ q ≠ ps, ?_, fun _ _ _ _ _ => trivial, ?_, ?_⟩
  · exact ⟨[], fun _ => false, 0, none, none, none, rfl, (Sub.upd hps).trans (Sub.upd hp), old_new hp Sto.upd_same, fun z => by simp [cysP], by simp [cysP], Sto.upd_same, by simpa [cysP] using Rows.nil, fun _ z => (nomatch z)⟩
  · rintro i x env S' hx ⟨qs, f, n, a, b, c, rfl, sub, hs, hf, hnn, hl, rows, hq⟩
    rw [List.getElem?_map, Option.map_eq_some_iff] at hx
    obtain ⟨first, hk, rfl⟩ := hx
    obtain ⟨hi, ek⟩ := List.getElem?_eq_some_iff.mp hk
    have t : ks.take (i + 1) = ks.take i ++ [first] := by rw [List.take_add_one, hk]; rfl
    have cl := cysP_closed hP i
    have hcase : first ∈ ks := by rw [← ek]; exact List.getElem_mem hi
    have sn := cysP_snoc (ks0 := ks) (f := f') (xs := ks.take i) (x := first) (acc := [])
    rw [← t] at sn
    have alen : (cysP ks f' (ks.take i) []).length ≤ 0 + (ks.take i).length := cysP_len
    revert sn cl hf hnn rows alen
    generalize cysP ks f' (ks.take i) [] = acc
    intro hf hnn rows cl sn alen
    subst hB
    simp only [↓rSeq, ↓rAsg, ↓gN, ↓rRet, ↓rRetN, ↓rIf, ↓rBin, ↓rUn, ↓rB, ↓rChain, ↓rC, ↓rVar_zero, ↓rVar_succ, ↓rSkip, ↓rDrop, ↓rCons, ↓rNil, ↓rTup, ↓rLst, ↓rCallB, ↓rAndV, ↓rOrV, ↓rNotV, ↓rNot, ↓rAnd, ↓rOr, ↓rIfE, ↓rBm, ↓rBm0, ↓rSl, ↓oNone, ↓oSome, ↓gIx, ↓gTup', ↓gCons', ↓gNil', ↓rCall, ↓rCallK, ↓rCallDf, ↓rTr, ↓rPar, ↓rTrL, ↓rPar3, ↓rLkD, ↓rLkS, ↓rCv, ↓rNever, ↓rBreak, ↓rCont, ↓i2, ↓i20, ↓b20, ↓rYes, wipeE, ↓negD, ↓endOf, ↓DL.envOf, List.map_cons, List.map_nil, List.cons_append, List.nil_append, List.length_cons, List.length_nil, List.replicate, List.getElem?_cons_zero, List.getElem?_cons_succ, List.set_cons_zero, List.set_cons_succ, Nat.zero_add, Nat.reduceAdd, Nat.reduceSub, ↓reduceIte, Bool.false_eq_true, Bool.xor_false, Bool.false_xor, Bool.true_xor, Bool.not_true, Bool.not_false, if_true, if_false, decide_true, decide_false]
    refine ⟨first, ps, f, n, rfl, rfl, hs, ?_⟩
    rw [hf first]
    by_cases m : first ∈ acc.flatten
    · rw [if_pos m] at sn
      rw [decide_eq_true m]
      simp only [↓rSeq, ↓rAsg, ↓gN, ↓rRet, ↓rRetN, ↓rIf, ↓rBin, ↓rUn, ↓rB, ↓rChain, ↓rC, ↓rVar_zero, ↓rVar_succ, ↓rSkip, ↓rDrop, ↓rCons, ↓rNil, ↓rTup, ↓rLst, ↓rCallB, ↓rAndV, ↓rOrV, ↓rNotV, ↓rNot, ↓rAnd, ↓rOr, ↓rIfE, ↓rBm, ↓rBm0, ↓rSl, ↓oNone, ↓oSome, ↓gIx, ↓gTup', ↓gCons', ↓gNil', ↓rCall, ↓rCallK, ↓rCallDf, ↓rTr, ↓rPar, ↓rTrL, ↓rPar3, ↓rLkD, ↓rLkS, ↓rCv, ↓rNever, ↓rBreak, ↓rCont, ↓i2, ↓i20, ↓b20, ↓rYes, wipeE, ↓negD, ↓endOf, ↓DL.envOf, List.map_cons, List.map_nil, List.cons_append, List.nil_append, List.length_cons, List.length_nil, List.replicate, List.getElem?_cons_zero, List.getElem?_cons_succ, List.set_cons_zero, List.set_cons_succ, Nat.zero_add, Nat.reduceAdd, Nat.reduceSub, ↓reduceIte, Bool.false_eq_true, Bool.xor_false, Bool.false_xor, Bool.true_xor, Bool.not_true, Bool.not_false, if_true, if_false, decide_true, decide_false]
      rw [sn]
      exact ⟨S', Sub.refl _, qs, f, n, _, _, _, rfl, sub, hs, hf, hnn, hl, rows, hq⟩
    rw [if_neg m] at sn
    rw [decide_eq_false m]
    simp only [↓rSeq, ↓rAsg, ↓gN, ↓rRet, ↓rRetN, ↓rIf, ↓rBin, ↓rUn, ↓rB, ↓rChain, ↓rC, ↓rVar_zero, ↓rVar_succ, ↓rSkip, ↓rDrop, ↓rCons, ↓rNil, ↓rTup, ↓rLst, ↓rCallB, ↓rAndV, ↓rOrV, ↓rNotV, ↓rNot, ↓rAnd, ↓rOr, ↓rIfE, ↓rBm, ↓rBm0, ↓rSl, ↓oNone, ↓oSome, ↓gIx, ↓gTup', ↓gCons', ↓gNil', ↓rCall, ↓rCallK, ↓rCallDf, ↓rTr, ↓rPar, ↓rTrL, ↓rPar3, ↓rLkD, ↓rLkS, ↓rCv, ↓rNever, ↓rBreak, ↓rCont, ↓i2, ↓i20, ↓b20, ↓rYes, wipeE, ↓negD, ↓endOf, ↓DL.envOf, List.map_cons, List.map_nil, List.cons_append, List.nil_append, List.length_cons, List.length_nil, List.replicate, List.getElem?_cons_zero, List.getElem?_cons_succ, List.set_cons_zero, List.set_cons_succ, Nat.zero_add, Nat.reduceAdd, Nat.reduceSub, ↓reduceIte, Bool.false_eq_true, Bool.xor_false, Bool.false_xor, Bool.true_xor, Bool.not_true, Bool.not_false, if_true, if_false, decide_true, decide_false]
    have cl2 := cl.snoc hP hcase m
    have few := closedP_few cl2
    have fl : (acc ++ [cyP f' (peP ks f' first) first]).flatten = acc.flatten ++ cyP f' (peP ks f' first) first := by simp
    rw [fl, List.length_append] at few
    have cnd := cl2.nd
    rw [fl] at cnd
    refine ⟨trivial, ks, f', first, rfl, hP, k300, hcase, fun pc hpc => ?_⟩
    have n1 : pc ≠ p := fun e => by rw [e, hl] at hpc; cases hpc
    have n2 : pc ≠ ps := fun e => by rw [e, hs] at hpc; cases hpc
    have few2 : qs.length ≤ 300 := by
      have a1 := rows.1
      have a2 := List.length_take_le i ks
      omega
    refine ⟨tyD_lst (old_new hpc hl), app_ref (old_new hpc hl) (by rw [List.length_map]; exact Nat.lt_of_le_of_lt few2 (by decide)) ?_⟩
    obtain ⟨cyc, ecyc⟩ : ∃ cyc, cyc = cyP f' (peP ks f' first) first := ⟨_, rfl⟩
    rw [← ecyc] at few cnd fl sn ⊢
    obtain ⟨S2, e2⟩ : ∃ S2, S2 = (S'.upd pc (.lst (cyc.map ckD))).upd p (.lst (qs.map D.ref ++ [.ref pc])) := ⟨_, rfl⟩
    have at2 : ∀ z, z ≠ p → z ≠ pc → S2 z = S' z := fun z z1 z2 => by rw [e2, Sto.upd_ne z1, Sto.upd_ne z2]
    have at2p : S2 p = some (.lst ((qs ++ [pc]).map D.ref)) := by rw [e2, Sto.upd_same, List.map_append]; rfl
    have at2c : S2 pc = some (.lst (cyc.map ckD)) := by rw [e2, Sto.upd_ne n1, Sto.upd_same]
    rw [← e2]
    clear e2
    refine for_gen fun B hB => ?_
    unfold rFor iSeq
    simp only [↓rSeq, ↓rAsg, ↓gN, ↓rRet, ↓rRetN, ↓rIf, ↓rBin, ↓rUn, ↓rB, ↓rChain, ↓rC, ↓rVar_zero, ↓rVar_succ, ↓rSkip, ↓rDrop, ↓rCons, ↓rNil, ↓rTup, ↓rLst, ↓rCallB, ↓rAndV, ↓rOrV, ↓rNotV, ↓rNot, ↓rAnd, ↓rOr, ↓rIfE, ↓rBm, ↓rBm0, ↓rSl, ↓oNone, ↓oSome, ↓gIx, ↓gTup', ↓gCons', ↓gNil', ↓rCall, ↓rCallK, ↓rCallDf, ↓rTr, ↓rPar, ↓rTrL, ↓rPar3, ↓rLkD, ↓rLkS, ↓rCv, ↓rNever, ↓rBreak, ↓rCont, ↓i2, ↓i20, ↓b20, ↓rYes, wipeE, ↓negD, ↓endOf, ↓DL.envOf, List.map_cons, List.map_nil, List.cons_append, List.nil_append, List.length_cons, List.length_nil, List.replicate, List.getElem?_cons_zero, List.getElem?_cons_succ, List.set_cons_zero, List.set_cons_succ, Nat.zero_add, Nat.reduceAdd, Nat.reduceSub, ↓reduceIte, Bool.false_eq_true, Bool.xor_false, Bool.false_xor, Bool.true_xor, Bool.not_true, Bool.not_false, if_true, if_false, decide_true, decide_false]
    simp only [at2c]
    have pcS : S pc = none := sub.free hpc
    refine ⟨fun j env S'' => ∃ g o, env = [some (dicP2 ks f'), some (.ref ps), some (.ref p), some (ckD first), some (.ref pc), o] ∧ (∀ z, z ≠ ps → S'' z = S2 z) ∧ S'' ps = some (.ho (skO ps g (n + j))) ∧ ∀ z, g z = decide (z ∈ acc.flatten ++ cyc.take j), ⟨f, c, rfl, fun _ _ => rfl, by rw [at2 ps npp.symm n2.symm]; exact hs, fun z => by simp [hf]⟩, ?_, ?_, ?_⟩
    · rintro j env S'' _ ⟨g, o, _, k, _⟩; rw [k pc n2]; exact at2c
    · rintro j x env S'' hx ⟨g, o, rfl, k, hg, hgz⟩
      rw [List.getElem?_map, Option.map_eq_some_iff] at hx
      obtain ⟨z, hz, rfl⟩ := hx
      obtain ⟨hj, ez⟩ := List.getElem?_eq_some_iff.mp hz
      subst hB
      simp only [↓rSeq, ↓rAsg, ↓gN, ↓rRet, ↓rRetN, ↓rIf, ↓rBin, ↓rUn, ↓rB, ↓rChain, ↓rC, ↓rVar_zero, ↓rVar_succ, ↓rSkip, ↓rDrop, ↓rCons, ↓rNil, ↓rTup, ↓rLst, ↓rCallB, ↓rAndV, ↓rOrV, ↓rNotV, ↓rNot, ↓rAnd, ↓rOr, ↓rIfE, ↓rBm, ↓rBm0, ↓rSl, ↓oNone, ↓oSome, ↓gIx, ↓gTup', ↓gCons', ↓gNil', ↓rCall, ↓rCallK, ↓rCallDf, ↓rTr, ↓rPar, ↓rTrL, ↓rPar3, ↓rLkD, ↓rLkS, ↓rCv, ↓rNever, ↓rBreak, ↓rCont, ↓i2, ↓i20, ↓b20, ↓rYes, wipeE, ↓negD, ↓endOf, ↓DL.envOf, List.map_cons, List.map_nil, List.cons_append, List.nil_append, List.length_cons, List.length_nil, List.replicate, List.getElem?_cons_zero, List.getElem?_cons_succ, List.set_cons_zero, List.set_cons_succ, Nat.zero_add, Nat.reduceAdd, Nat.reduceSub, ↓reduceIte, Bool.false_eq_true, Bool.xor_false, Bool.false_xor, Bool.true_xor, Bool.not_true, Bool.not_false, if_true, if_false, decide_true, decide_false]
      unfold DL.rSAdd
      simp only [↓rSeq, ↓rAsg, ↓gN, ↓rRet, ↓rRetN, ↓rIf, ↓rBin, ↓rUn, ↓rB, ↓rChain, ↓rC, ↓rVar_zero, ↓rVar_succ, ↓rSkip, ↓rDrop, ↓rCons, ↓rNil, ↓rTup, ↓rLst, ↓rCallB, ↓rAndV, ↓rOrV, ↓rNotV, ↓rNot, ↓rAnd, ↓rOr, ↓rIfE, ↓rBm, ↓rBm0, ↓rSl, ↓oNone, ↓oSome, ↓gIx, ↓gTup', ↓gCons', ↓gNil', ↓rCall, ↓rCallK, ↓rCallDf, ↓rTr, ↓rPar, ↓rTrL, ↓rPar3, ↓rLkD, ↓rLkS, ↓rCv, ↓rNever, ↓rBreak, ↓rCont, ↓i2, ↓i20, ↓b20, ↓rYes, wipeE, ↓negD, ↓endOf, ↓DL.envOf, List.map_cons, List.map_nil, List.cons_append, List.nil_append, List.length_cons, List.length_nil, List.replicate, List.getElem?_cons_zero, List.getElem?_cons_succ, List.set_cons_zero, List.set_cons_succ, Nat.zero_add, Nat.reduceAdd, Nat.reduceSub, ↓reduceIte, Bool.false_eq_true, Bool.xor_false, Bool.false_xor, Bool.true_xor, Bool.not_true, Bool.not_false, if_true, if_false, decide_true, decide_false]
      have tz : cyc.take (j + 1) = cyc.take j ++ [z] := by rw [List.take_add_one, hz]; rfl
      have new : z ∉ acc.flatten ++ cyc.take j := by
        have e := List.take_append_drop j cyc
        rw [List.drop_eq_getElem_cons hj, ez] at e
        rw [← e, ← List.append_assoc] at cnd
        exact fun w => (List.nodup_append.mp cnd).2.2 z w z (List.mem_cons_self ..) rfl
      refine ⟨ps, g, n + j, rfl, hg, z, g, n + j, rfl, hg, ?_, _, Sub.refl _, fun y => g y || decide (y = z), _, rfl, fun y hy => by rw [Sto.upd_ne hy]; exact k y hy, ?_, fun y => ?_⟩
      · have : scanBound = 4096 := rfl
        omega
      · rw [Sto.upd_same, hgz z, decide_eq_false new]; rfl
      · show (g y || decide (y = z)) = _
        rw [hgz, tz, ← List.append_assoc, Bool.eq_iff_iff]
        simp only [Bool.or_eq_true, decide_eq_true_eq, List.mem_append, List.mem_singleton]
    · rintro env S'' ⟨g, o, rfl, k, hg, hgz⟩
      rw [List.length_map] at hg hgz
      rw [List.take_length] at hgz
      have keepS : DL.Sub S S'' := fun y u e => by
        have y1 : y ≠ ps := fun w => by rw [w, hps] at e; cases e
        have y2 : y ≠ p := fun w => by rw [w, hpS] at e; cases e
        have y3 : y ≠ pc := fun w => by rw [w, pcS] at e; cases e
        rw [k y y1, at2 y y2 y3]
        exact sub y u e
      rw [sn]
      refine ⟨S'', Sub.refl _, qs ++ [pc], g, _, _, _, _, rfl, keepS, hg, fun z => by rw [hgz, fl], by rw [fl, List.length_append, hnn], by rw [k p npp]; exact at2p, ?_, fun z hz => ?_⟩
      · refine rows.snoc (fun y hy u e => ?_) (by rw [k pc n2]; exact at2c)
        obtain ⟨y0, y1, y2⟩ := hq y hy
        have y3 : y ≠ pc := fun w => by rw [w, hpc] at e; cases e
        rw [k y y2, at2 y y1 y3]; exact e
      · rcases List.mem_append.mp hz with w | w
        · exact hq z w
        · rw [List.mem_singleton.mp w]; exact ⟨pcS, n1, n2⟩
  · rintro env S' ⟨qs, f, n, a, b, c, rfl, sub, hs, hf, hnn, hl, rows, hq⟩
    subst hN
    simp only [↓rSeq, ↓rAsg, ↓gN, ↓rRet, ↓rRetN, ↓rIf, ↓rBin, ↓rUn, ↓rB, ↓rChain, ↓rC, ↓rVar_zero, ↓rVar_succ, ↓rSkip, ↓rDrop, ↓rCons, ↓rNil, ↓rTup, ↓rLst, ↓rCallB, ↓rAndV, ↓rOrV, ↓rNotV, ↓rNot, ↓rAnd, ↓rOr, ↓rIfE, ↓rBm, ↓rBm0, ↓rSl, ↓oNone, ↓oSome, ↓gIx, ↓gTup', ↓gCons', ↓gNil', ↓rCall, ↓rCallK, ↓rCallDf, ↓rTr, ↓rPar, ↓rTrL, ↓rPar3, ↓rLkD, ↓rLkS, ↓rCv, ↓rNever, ↓rBreak, ↓rCont, ↓i2, ↓i20, ↓b20, ↓rYes, wipeE, ↓negD, ↓endOf, ↓DL.envOf, List.map_cons, List.map_nil, List.cons_append, List.nil_append, List.length_cons, List.length_nil, List.replicate, List.getElem?_cons_zero, List.getElem?_cons_succ, List.set_cons_zero, List.set_cons_succ, Nat.zero_add, Nat.reduceAdd, Nat.reduceSub, ↓reduceIte, Bool.false_eq_true, Bool.xor_false, Bool.false_xor, Bool.true_xor, Bool.not_true, Bool.not_false, if_true, if_false, decide_true, decide_false]
    rw [List.length_map, List.take_length] at rows
    exact ⟨S', Sub.refl _, q p qs S' sub hpS hl (fun z hz => ⟨(hq z hz).1, (hq z hz).2.1⟩) rows⟩
theorem ok_law_mixed (T : Txt mg) (F__law_take : Callee P w K mg base CX0 1 "_law_take" 2 c_law_take) (hdef : DefAt K mg "_law_mixed" s_law_mixed ["shed", "things"]) : Callee P w K mg base CX0 2 "_law_mixed" 2 c_law_mixed := by
  refine mkCallee hdef sc_law_mixed 2 rfl _ (fun cdv A outer s H E f hr => (have hc : (cxOf CX0 P w K mg base ["shed", "things", "left", "k"] "_law_mixed" (defScope s_law_mixed) f cdv A outer s H E).nox.calm = true := rfl; have nd := sc_law_mixed.nd; (rs_cons (rs_set 2 nd (re_callTy cList rfl T.g_list (by decide +kernel) (ra_cons (re_var 1) ra_nil)))
    (rs_one (rs_ret (re_comp [("k", 3)] hc nd (ri_rng rfl T.g_range (ra_cons (re_callB cLen rfl T.g_len (by decide +kernel) (ra_cons (re_var 1) ra_nil)) ra_nil)) (blkOk_by (N := ["shed", "things", "left", "k"]) (sc := defScope s_law_mixed) (by decide +kernel)) (fun _ _ _ _ _ => (rg_name 3 nd (by simp))) (fun _ _ _ _ _ => ts_nil) (fun _ _ _ _ _ => (re_bm PySem.F.plainAttrs_list PySem.F.slot_list_pop PySem.F.type_list_pop mPopAt (re_var 2) (ra_cons (re_call F__law_take (hr.mono (by decide)) rfl (ra_cons (re_var 0) (ra_cons (re_callB cLen rfl T.g_len (by decide +kernel) (ra_cons (re_var 2) ra_nil)) ra_nil))) ra_nil))))))))) (fun ds S kk hl hC => ?_) (fun ds S kk ek z => z)
  obtain ⟨a, c, b, N, ns, rfl, hac, ha, hb, hN, hc, hl, q⟩ := hC
  simp only [↓rSeq, ↓rAsg, ↓gN, ↓rRet, ↓rRetN, ↓rIf, ↓rBin, ↓rUn, ↓rB, ↓rChain, ↓rC, ↓rVar_zero, ↓rVar_succ, ↓rSkip, ↓rDrop, ↓rCons, ↓rNil, ↓rTup, ↓rLst, ↓rCallB, ↓rAndV, ↓rOrV, ↓rNotV, ↓rNot, ↓rAnd, ↓rOr, ↓rIfE, ↓rBm, ↓rBm0, ↓rSl, ↓oNone, ↓oSome, ↓gIx, ↓gTup', ↓gCons', ↓gNil', ↓rCall, ↓rCallK, ↓rCallDf, ↓rTr, ↓rPar, ↓rTrL, ↓rPar3, ↓rLkD, ↓rLkS, ↓rCv, ↓rNever, ↓rBreak, ↓rCont, ↓i2, ↓i20, ↓b20, ↓rYes, wipeE, ↓negD, ↓endOf, ↓DL.envOf, List.map_cons, List.map_nil, List.cons_append, List.nil_append, List.length_cons, List.length_nil, List.replicate, List.getElem?_cons_zero, List.getElem?_cons_succ, List.set_cons_zero, List.set_cons_succ, Nat.zero_add, Nat.reduceAdd, Nat.reduceSub, ↓reduceIte, Bool.false_eq_true, Bool.xor_false, Bool.false_xor, Bool.true_xor, Bool.not_true, Bool.not_false, if_true, if_false, decide_true, decide_false]
  refine ⟨_, seq_ref hc, fun p hp => ?_⟩
  have hpa : p ≠ a := fun e => by rw [e, ha] at hp; cases hp
  refine comp_mix (a := a) (p := p) (b := b) (S := S) (N := N) (m := ns.length) (left := ns) (fun K h => ?_) (fun d => rfl) (fun d => rfl) ((Ex.refl ha).new hp) hb hN hp hpa Sto.upd_same hl (Nat.le_refl _) ?_
  · unfold iRng
    simp only [↓rSeq, ↓rAsg, ↓gN, ↓rRet, ↓rRetN, ↓rIf, ↓rBin, ↓rUn, ↓rB, ↓rChain, ↓rC, ↓rVar_zero, ↓rVar_succ, ↓rSkip, ↓rDrop, ↓rCons, ↓rNil, ↓rTup, ↓rLst, ↓rCallB, ↓rAndV, ↓rOrV, ↓rNotV, ↓rNot, ↓rAnd, ↓rOr, ↓rIfE, ↓rBm, ↓rBm0, ↓rSl, ↓oNone, ↓oSome, ↓gIx, ↓gTup', ↓gCons', ↓gNil', ↓rCall, ↓rCallK, ↓rCallDf, ↓rTr, ↓rPar, ↓rTrL, ↓rPar3, ↓rLkD, ↓rLkS, ↓rCv, ↓rNever, ↓rBreak, ↓rCont, ↓i2, ↓i20, ↓b20, ↓rYes, wipeE, ↓negD, ↓endOf, ↓DL.envOf, List.map_cons, List.map_nil, List.cons_append, List.nil_append, List.length_cons, List.length_nil, List.replicate, List.getElem?_cons_zero, List.getElem?_cons_succ, List.set_cons_zero, List.set_cons_succ, Nat.zero_add, Nat.reduceAdd, Nat.reduceSub, ↓reduceIte, Bool.false_eq_true, Bool.xor_false, Bool.false_xor, Bool.true_xor, Bool.not_true, Bool.not_false, if_true, if_false, decide_true, decide_false]
    refine len_at (seq_ref (old_new hp hc)) ⟨by rw [List.length_map]; omega, by omega, ?_⟩
    rw [List.length_map, Int.toNat_natCast]
    exact h
  · intro b' cs rest S' hb' hx pm hcs p' hp'
    have er : rest = [] := by
      have := pm.length_eq
      rw [List.length_append] at this
      exact List.length_eq_zero_iff.mp (by omega)
    subst er
    rw [List.append_nil] at pm
    exact ⟨_, Sub.both hx.sub, q b' cs p' hb' pm (hx.free hp')⟩
theorem ok_law_due (T : Txt mg) (F__law_moved : Callee P w K mg base CX0 1 "_law_moved" 2 c_law_moved) (hdef : DefAt K mg "_law_due" s_law_due ["day"]) : Callee P w K mg base CX0 2 "_law_due" 1 c_law_due := by
  refine mkCallee hdef sc_law_due 1 rfl _ (fun cdv A outer s H E f hr => (have hc : (cxOf CX0 P w K mg base ["day", "place", "found", "met", "here", "row", "some"] "_law_due" (defScope s_law_due) f cdv A outer s H E).nox.calm = true := rfl; have nd := sc_law_due.nd; (rs_cons (rs_par 2 3 hc nd (ra_cons (re_lst ra_nil) (ra_cons (re_lst ra_nil) ra_nil)))
    (rs_cons (rs_for (is := List.range 50) PassesOwn.never hc (ri_rng rfl T.g_range (ra_cons (re_callB cLen rfl T.g_len (by decide +kernel) (ra_cons (re_var 0) ra_nil)) ra_nil)) (rg_name 1 nd (by simp))
    (rs_one (rs_if (tr_cmp (opNotIn hr.u65) (re_var 1) (re_var 3) rfl)
    (rs_cons (rs_par3 4 5 6 hc nd (ra_cons (re_var 1) (ra_cons (re_tup ra_nil) (ra_cons (re_lst (ra_cons (re_var 1) ra_nil)) ra_nil))))
    (rs_cons (rs_while PassesOwn.never (tr_val re_bl)
    (rs_cons (rs_set 5 nd (re_call F__law_moved (hr.mono (by decide)) rfl (ra_cons (re_var 5) (ra_cons (re_ix ixSeq (re_var 0) (re_var 4)) ra_nil))))
    (rs_cons (rs_set 4 nd (re_bin opMod (re_bin opAdd (re_var 4) re_int) (re_callB cLen rfl T.g_len (by decide +kernel) (ra_cons (re_var 0) ra_nil))))
    (rs_cons (rs_if (TR.w (wr_and (tr_cmp (opEq hr.u64) (re_var 5) (re_tup ra_nil) (nomark _)) (wr_and1 (tr_cmp (opEq hr.u64) (re_var 4) (re_var 1) (nomark _)))))
    (rs_one rs_break)
    rs_nil)
    (rs_one (rs_if (tr_cmp (opEq hr.u64) (re_var 5) (re_tup ra_nil) (nomark _))
    (rs_one (rs_expr (re_bm PySem.F.plainAttrs_list PySem.F.slot_list_append PySem.F.type_list_append mAppend (re_var 6) (ra_cons (re_var 4) ra_nil))))
    rs_nil))))))
    (rs_cons (rs_expr (re_bm PySem.F.plainAttrs_list PySem.F.slot_list_append PySem.F.type_list_append mAppend (re_var 2) (ra_cons (re_callB cSortI rfl T.g_sorted (by decide +kernel) (ra_cons (re_var 6) ra_nil)) ra_nil)))
    (rs_one (rs_set 3 nd (re_bin opAdd (re_var 3) (re_var 6)))))))
    rs_nil)))
    (rs_one (rs_ret (re_var 2))))))) (fun ds S kk hl hC => ?_) (fun ds S kk ek z => z)
  obtain ⟨cs, rfl, h, q⟩ := hC
  have pos := h.pos
  have most := h.most
  have hP := perm_nx pos
  refine seq_gen fun N hN => ?_
  simp only [↓rSeq, ↓rAsg, ↓gN, ↓rRet, ↓rRetN, ↓rIf, ↓rBin, ↓rUn, ↓rB, ↓rChain, ↓rC, ↓rVar_zero, ↓rVar_succ, ↓rSkip, ↓rDrop, ↓rCons, ↓rNil, ↓rTup, ↓rLst, ↓rCallB, ↓rAndV, ↓rOrV, ↓rNotV, ↓rNot, ↓rAnd, ↓rOr, ↓rIfE, ↓rBm, ↓rBm0, ↓rSl, ↓oNone, ↓oSome, ↓gIx, ↓gTup', ↓gCons', ↓gNil', ↓rCall, ↓rCallK, ↓rCallDf, ↓rTr, ↓rPar, ↓rTrL, ↓rPar3, ↓rLkD, ↓rLkS, ↓rCv, ↓rNever, ↓rBreak, ↓rCont, ↓i2, ↓i20, ↓b20, ↓rYes, wipeE, ↓negD, ↓endOf, ↓DL.envOf, List.map_cons, List.map_nil, List.cons_append, List.nil_append, List.length_cons, List.length_nil, List.replicate, List.getElem?_cons_zero, List.getElem?_cons_succ, List.set_cons_zero, List.set_cons_succ, Nat.zero_add, Nat.reduceAdd, Nat.reduceSub, ↓reduceIte, Bool.false_eq_true, Bool.xor_false, Bool.false_xor, Bool.true_xor, Bool.not_true, Bool.not_false, if_true, if_false, decide_true, decide_false]
  refine ⟨by decide, fun p1 hp1 => ⟨by decide, fun p2 hp2 => ?_⟩⟩
  have n21 : p2 ≠ p1 := fun z => by rw [z, Sto.upd_same] at hp2; cases hp2
  have hp2S : S p2 = none := by rw [Sto.upd_ne n21] at hp2; exact hp2
  subst hN
  refine seq_gen fun N hN => ?_
  refine for_gen fun B hB => ?_
  unfold rFor iRng
  simp only [↓rSeq, ↓rAsg, ↓gN, ↓rRet, ↓rRetN, ↓rIf, ↓rBin, ↓rUn, ↓rB, ↓rChain, ↓rC, ↓rVar_zero, ↓rVar_succ, ↓rSkip, ↓rDrop, ↓rCons, ↓rNil, ↓rTup, ↓rLst, ↓rCallB, ↓rAndV, ↓rOrV, ↓rNotV, ↓rNot, ↓rAnd, ↓rOr, ↓rIfE, ↓rBm, ↓rBm0, ↓rSl, ↓oNone, ↓oSome, ↓gIx, ↓gTup', ↓gCons', ↓gNil', ↓rCall, ↓rCallK, ↓rCallDf, ↓rTr, ↓rPar, ↓rTrL, ↓rPar3, ↓rLkD, ↓rLkS, ↓rCv, ↓rNever, ↓rBreak, ↓rCont, ↓i2, ↓i20, ↓b20, ↓rYes, wipeE, ↓negD, ↓endOf, ↓DL.envOf, List.map_cons, List.map_nil, List.cons_append, List.nil_append, List.length_cons, List.length_nil, List.replicate, List.getElem?_cons_zero, List.getElem?_cons_succ, List.set_cons_zero, List.set_cons_succ, Nat.zero_add, Nat.reduceAdd, Nat.reduceSub, ↓reduceIte, Bool.false_eq_true, Bool.xor_false, Bool.false_xor, Bool.true_xor, Bool.not_true, Bool.not_false, if_true, if_false, decide_true, decide_false]
  refine len_at seq_tup ?_
  rw [List.length_map]
  dsimp only
  refine ⟨by omega, by omega, fun i env S' => ∃ (qs : List Addr) (pm : Addr) (o1 o4 o5 o6 : Option D), env = [some (tupI cs), o1, some (.ref p1), some (.ref pm), o4, o5, o6] ∧ DL.Sub S S' ∧ S' p1 = some (.lst (qs.map D.ref)) ∧ pm ≠ p1 ∧
    S' pm = some (.lst ((cysP (plK cs.length) (nxK cs) ((plK cs.length).take i) []).flatten.map ckD)) ∧ (∀ z ∈ qs, S z = none ∧ z ≠ p1) ∧ Rows S' qs ((cysP (plK cs.length) (nxK cs) ((plK cs.length).take i) []).map srtC), ⟨[], p2, _, _, _, _, rfl, (Sub.upd hp1).over hp2S, old_new hp2 Sto.upd_same, n21, Sto.upd_same, fun z hz => (nomatch hz), Rows.nil⟩, fun _ _ _ _ _ => trivial, ?_, ?_⟩
  · rintro i x env S' hx ⟨qs, pm, o1, o4, o5, o6, rfl, sub, e1, npm, em, fq, rows⟩
    obtain ⟨hi, rfl⟩ := rngD_it hx
    have hi' : i < cs.length := hi
    have hk : (plK cs.length)[i]? = some (some ((i : Nat) : Int)) := by unfold plK; simp [hi']
    have t : (plK cs.length).take (i + 1) = (plK cs.length).take i ++ [some ((i : Nat) : Int)] := by rw [List.take_add_one, hk]; rfl
    have cl := cysP_closed hP i
    have sn := cysP_snoc (ks0 := plK cs.length) (f := nxK cs) (xs := (plK cs.length).take i) (x := some ((i : Nat) : Int)) (acc := [])
    have inA : ∀ r ∈ cysP (plK cs.length) (nxK cs) ((plK cs.length).take i) [], Ints r := cys_ints pos
    have fewA := closedP_few cl
    have fewB := cysP_len (f := nxK cs) (ks0 := plK cs.length) (xs := (plK cs.length).take i) (acc := [])
    rw [List.length_take, List.length_nil] at fewB
    rw [plK_len] at fewA
    rw [← t] at sn
    revert sn cl em rows inA fewA fewB
    generalize cysP (plK cs.length) (nxK cs) ((plK cs.length).take i) [] = acc
    intro em rows cl sn inA fewA fewB
    have inF : Ints acc.flatten := fun x hx => by
      obtain ⟨r, hr, hx⟩ := List.mem_flatten.mp hx
      exact inA r hr x hx
    have emI : acc.flatten.map ckD = (acc.flatten.map ckI).map D.int := by
      have := ints_map inF
      rw [← ints_d, ← this]
    have memI : ((i : Nat) : Int) ∈ acc.flatten.map ckI ↔ some ((i : Nat) : Int) ∈ acc.flatten := by
      refine ⟨fun z => ?_, fun z => List.mem_map.mpr ⟨_, z, rfl⟩⟩
      obtain ⟨y, hy, e⟩ := List.mem_map.mp z
      obtain ⟨v, rfl⟩ := inF y hy
      have : v = ((i : Nat) : Int) := e
      rw [← this]; exact hy
    subst hB
    simp only [↓rSeq, ↓rAsg, ↓gN, ↓rRet, ↓rRetN, ↓rIf, ↓rBin, ↓rUn, ↓rB, ↓rChain, ↓rC, ↓rVar_zero, ↓rVar_succ, ↓rSkip, ↓rDrop, ↓rCons, ↓rNil, ↓rTup, ↓rLst, ↓rCallB, ↓rAndV, ↓rOrV, ↓rNotV, ↓rNot, ↓rAnd, ↓rOr, ↓rIfE, ↓rBm, ↓rBm0, ↓rSl, ↓oNone, ↓oSome, ↓gIx, ↓gTup', ↓gCons', ↓gNil', ↓rCall, ↓rCallK, ↓rCallDf, ↓rTr, ↓rPar, ↓rTrL, ↓rPar3, ↓rLkD, ↓rLkS, ↓rCv, ↓rNever, ↓rBreak, ↓rCont, ↓i2, ↓i20, ↓b20, ↓rYes, wipeE, ↓negD, ↓endOf, ↓DL.envOf, List.map_cons, List.map_nil, List.cons_append, List.nil_append, List.length_cons, List.length_nil, List.replicate, List.getElem?_cons_zero, List.getElem?_cons_succ, List.set_cons_zero, List.set_cons_succ, Nat.zero_add, Nat.reduceAdd, Nat.reduceSub, ↓reduceIte, Bool.false_eq_true, Bool.xor_false, Bool.false_xor, Bool.true_xor, Bool.not_true, Bool.not_false, if_true, if_false, decide_true, decide_false]
    rw [emI] at em
    refine inD_int (seq_ref em) ?_
    by_cases m : some ((i : Nat) : Int) ∈ acc.flatten
    · rw [if_pos m] at sn
      rw [decide_eq_true (memI.mpr m)]
      simp only [↓rSeq, ↓rAsg, ↓gN, ↓rRet, ↓rRetN, ↓rIf, ↓rBin, ↓rUn, ↓rB, ↓rChain, ↓rC, ↓rVar_zero, ↓rVar_succ, ↓rSkip, ↓rDrop, ↓rCons, ↓rNil, ↓rTup, ↓rLst, ↓rCallB, ↓rAndV, ↓rOrV, ↓rNotV, ↓rNot, ↓rAnd, ↓rOr, ↓rIfE, ↓rBm, ↓rBm0, ↓rSl, ↓oNone, ↓oSome, ↓gIx, ↓gTup', ↓gCons', ↓gNil', ↓rCall, ↓rCallK, ↓rCallDf, ↓rTr, ↓rPar, ↓rTrL, ↓rPar3, ↓rLkD, ↓rLkS, ↓rCv, ↓rNever, ↓rBreak, ↓rCont, ↓i2, ↓i20, ↓b20, ↓rYes, wipeE, ↓negD, ↓endOf, ↓DL.envOf, List.map_cons, List.map_nil, List.cons_append, List.nil_append, List.length_cons, List.length_nil, List.replicate, List.getElem?_cons_zero, List.getElem?_cons_succ, List.set_cons_zero, List.set_cons_succ, Nat.zero_add, Nat.reduceAdd, Nat.reduceSub, ↓reduceIte, Bool.false_eq_true, Bool.xor_false, Bool.false_xor, Bool.true_xor, Bool.not_true, Bool.not_false, if_true, if_false, decide_true, decide_false]
      rw [← emI] at em
      rw [sn]
      exact ⟨S', Sub.refl _, qs, pm, _, _, _, _, rfl, sub, e1, npm, em, fq, rows⟩
    rw [if_neg m] at sn
    rw [decide_eq_false (fun z => m (memI.mp z))]
    obtain ⟨k, hk2⟩ := round_ex pos i
    rw [pe_round pos hi' hk2, cy_round pos hi'] at sn
    simp only [↓rSeq, ↓rAsg, ↓gN, ↓rRet, ↓rRetN, ↓rIf, ↓rBin, ↓rUn, ↓rB, ↓rChain, ↓rC, ↓rVar_zero, ↓rVar_succ, ↓rSkip, ↓rDrop, ↓rCons, ↓rNil, ↓rTup, ↓rLst, ↓rCallB, ↓rAndV, ↓rOrV, ↓rNotV, ↓rNot, ↓rAnd, ↓rOr, ↓rIfE, ↓rBm, ↓rBm0, ↓rSl, ↓oNone, ↓oSome, ↓gIx, ↓gTup', ↓gCons', ↓gNil', ↓rCall, ↓rCallK, ↓rCallDf, ↓rTr, ↓rPar, ↓rTrL, ↓rPar3, ↓rLkD, ↓rLkS, ↓rCv, ↓rNever, ↓rBreak, ↓rCont, ↓i2, ↓i20, ↓b20, ↓rYes, wipeE, ↓negD, ↓endOf, ↓DL.envOf, List.map_cons, List.map_nil, List.cons_append, List.nil_append, List.length_cons, List.length_nil, List.replicate, List.getElem?_cons_zero, List.getElem?_cons_succ, List.set_cons_zero, List.set_cons_succ, Nat.zero_add, Nat.reduceAdd, Nat.reduceSub, ↓reduceIte, Bool.false_eq_true, Bool.xor_false, Bool.false_xor, Bool.true_xor, Bool.not_true, Bool.not_false, if_true, if_false, decide_true, decide_false]
    refine ⟨by decide, by decide, fun ps hps => ?_⟩
    refine while_gen fun B hB => ?_
    unfold rWhile
    refine ⟨fun ms env S'' => ∃ (u t : Nat) (row : List Int), env = [some (tupI cs), some (.int (i : Nat)), some (.ref p1), some (.ref pm), some (.int ((t % cs.length : Nat) : Int)), some (tupI row), some (.ref ps)] ∧ S'' = S'.upd ps (.lst (((List.range (u + 1)).map fun j => ((clN cs i j % cs.length : Nat) : Int)).map D.int)) ∧ u < k ∧ clN cs i u ≤ t ∧ t < clN cs i (u + 1) ∧ ms + t = clN cs i k ∧ LaneN row ∧
      (t = clN cs i u ∧ row = [] ∨ clN cs i u < t ∧ ∃ c r, cs[clN cs i u % cs.length]? = some c ∧ row = c :: r), ⟨clN cs i k - i, 0, i, [], ?_, ?_, ?_, ?_, ?_, ?_, ?_, ?_⟩, ?_⟩
    · rw [Nat.mod_eq_of_lt hi']; rfl
    · show _ = S'.upd ps (.lst [.int ((i % cs.length : Nat) : Int)])
      rw [Nat.mod_eq_of_lt hi']
    · exact hk2.pos
    · exact Nat.le_refl _
    · exact cl_lt pos (f := i) (i := 0) (j := 1) (by decide)
    · have := cl_mono pos (f := i) (i := 0) (j := k) (by omega)
      have : clN cs i 0 = i := rfl
      omega
    · exact ⟨fun x hx => (nomatch hx), List.nodup_nil⟩
    · exact .inl ⟨rfl, rfl⟩
    rintro ms env S'' ⟨u, t, row, rfl, rfl, hu, h1, h2, hm, lr, cas⟩
    subst hB
    simp only [↓rSeq, ↓rAsg, ↓gN, ↓rRet, ↓rRetN, ↓rIf, ↓rBin, ↓rUn, ↓rB, ↓rChain, ↓rC, ↓rVar_zero, ↓rVar_succ, ↓rSkip, ↓rDrop, ↓rCons, ↓rNil, ↓rTup, ↓rLst, ↓rCallB, ↓rAndV, ↓rOrV, ↓rNotV, ↓rNot, ↓rAnd, ↓rOr, ↓rIfE, ↓rBm, ↓rBm0, ↓rSl, ↓oNone, ↓oSome, ↓gIx, ↓gTup', ↓gCons', ↓gNil', ↓rCall, ↓rCallK, ↓rCallDf, ↓rTr, ↓rPar, ↓rTrL, ↓rPar3, ↓rLkD, ↓rLkS, ↓rCv, ↓rNever, ↓rBreak, ↓rCont, ↓i2, ↓i20, ↓b20, ↓rYes, wipeE, ↓negD, ↓endOf, ↓DL.envOf, List.map_cons, List.map_nil, List.cons_append, List.nil_append, List.length_cons, List.length_nil, List.replicate, List.getElem?_cons_zero, List.getElem?_cons_succ, List.set_cons_zero, List.set_cons_succ, Nat.zero_add, Nat.reduceAdd, Nat.reduceSub, ↓reduceIte, Bool.false_eq_true, Bool.xor_false, Bool.false_xor, Bool.true_xor, Bool.not_true, Bool.not_false, if_true, if_false, decide_true, decide_false]
    have hl2 := Nat.mod_lt t pos
    obtain ⟨d, hd⟩ : ∃ d, cs[t % cs.length]? = some d := ⟨_, List.getElem?_eq_getElem hl2⟩
    obtain ⟨c, hc⟩ : ∃ c, cs[clN cs i u % cs.length]? = some c := ⟨_, List.getElem?_eq_getElem (Nat.mod_lt _ pos)⟩
    have lr60 := cars60 lr
    have lr2 := lane_step lr (h.cars d (List.mem_of_getElem? hd))
    have gs := gap_spec pos (clN cs i u)
    rw [cl_succ] at h2
    have nx := due_step (fr := []) gs hc (fun x _ hx => (nomatch hx)) (here := t) (by omega) (by
      rcases cas with ⟨a, b⟩ | ⟨a, c2, r, b, e⟩
      · exact .inl ⟨a, b⟩
      · rw [hc] at b
        cases b
        exact .inr ⟨a, r, e⟩) hd
    have er : ((t % cs.length : Nat) : Int) + 1 = ((t % cs.length + 1 : Nat) : Int) := rfl
    have er2 : ((t % cs.length + 1 : Nat) : Int) % ((cs.length : Nat) : Int) = (((t + 1) % cs.length : Nat) : Int) := by
      rw [← Int.natCast_emod, Nat.mod_add_mod]
    have kle := cl_mono pos (f := i) (i := u + 1) (j := k) (by omega)
    rw [cl_succ] at kle
    refine ixD_at seq_tup (atI_nat (v := D.int d) (by rw [List.getElem?_map, hd]; rfl)) ⟨trivial, row, d, rfl, by omega, add_int (len_at seq_tup ?_)⟩
    rw [List.length_map, er]
    dsimp only
    rw [er2]
    rcases nx with ⟨n1, r, n2⟩ | ⟨n1, n2⟩
    · have ne : decide (stepN row d = []) = false := by rw [n2]; rfl
      refine ⟨by omega, by decide, eq_tup (b := []) ?_⟩
      rw [ne]
      simp only [↓rSeq, ↓rAsg, ↓gN, ↓rRet, ↓rRetN, ↓rIf, ↓rBin, ↓rUn, ↓rB, ↓rChain, ↓rC, ↓rVar_zero, ↓rVar_succ, ↓rSkip, ↓rDrop, ↓rCons, ↓rNil, ↓rTup, ↓rLst, ↓rCallB, ↓rAndV, ↓rOrV, ↓rNotV, ↓rNot, ↓rAnd, ↓rOr, ↓rIfE, ↓rBm, ↓rBm0, ↓rSl, ↓oNone, ↓oSome, ↓gIx, ↓gTup', ↓gCons', ↓gNil', ↓rCall, ↓rCallK, ↓rCallDf, ↓rTr, ↓rPar, ↓rTrL, ↓rPar3, ↓rLkD, ↓rLkS, ↓rCv, ↓rNever, ↓rBreak, ↓rCont, ↓i2, ↓i20, ↓b20, ↓rYes, wipeE, ↓negD, ↓endOf, ↓DL.envOf, List.map_cons, List.map_nil, List.cons_append, List.nil_append, List.length_cons, List.length_nil, List.replicate, List.getElem?_cons_zero, List.getElem?_cons_succ, List.set_cons_zero, List.set_cons_succ, Nat.zero_add, Nat.reduceAdd, Nat.reduceSub, ↓reduceIte, Bool.false_eq_true, Bool.xor_false, Bool.false_xor, Bool.true_xor, Bool.not_true, Bool.not_false, if_true, if_false, decide_true, decide_false]
      refine ⟨by decide, eq_tup (b := []) ?_⟩
      rw [ne]
      simp only [↓rSeq, ↓rAsg, ↓gN, ↓rRet, ↓rRetN, ↓rIf, ↓rBin, ↓rUn, ↓rB, ↓rChain, ↓rC, ↓rVar_zero, ↓rVar_succ, ↓rSkip, ↓rDrop, ↓rCons, ↓rNil, ↓rTup, ↓rLst, ↓rCallB, ↓rAndV, ↓rOrV, ↓rNotV, ↓rNot, ↓rAnd, ↓rOr, ↓rIfE, ↓rBm, ↓rBm0, ↓rSl, ↓oNone, ↓oSome, ↓gIx, ↓gTup', ↓gCons', ↓gNil', ↓rCall, ↓rCallK, ↓rCallDf, ↓rTr, ↓rPar, ↓rTrL, ↓rPar3, ↓rLkD, ↓rLkS, ↓rCv, ↓rNever, ↓rBreak, ↓rCont, ↓i2, ↓i20, ↓b20, ↓rYes, wipeE, ↓negD, ↓endOf, ↓DL.envOf, List.map_cons, List.map_nil, List.cons_append, List.nil_append, List.length_cons, List.length_nil, List.replicate, List.getElem?_cons_zero, List.getElem?_cons_succ, List.set_cons_zero, List.set_cons_succ, Nat.zero_add, Nat.reduceAdd, Nat.reduceSub, ↓reduceIte, Bool.false_eq_true, Bool.xor_false, Bool.false_xor, Bool.true_xor, Bool.not_true, Bool.not_false, if_true, if_false, decide_true, decide_false]
      refine ⟨ms - 1, _, by omega, Sub.refl _, u, t + 1, _, rfl, rfl, hu, by omega, by rw [cl_succ]; omega, by omega, lr2, .inr ⟨by omega, c, r, hc, n2⟩⟩
    · have ne : decide (stepN row d = []) = true := by rw [n2]; rfl
      have et : t + 1 = clN cs i (u + 1) := by rw [cl_succ]; omega
      refine ⟨by omega, by decide, eq_tup (b := []) ?_⟩
      rw [ne]
      simp only [↓rSeq, ↓rAsg, ↓gN, ↓rRet, ↓rRetN, ↓rIf, ↓rBin, ↓rUn, ↓rB, ↓rChain, ↓rC, ↓rVar_zero, ↓rVar_succ, ↓rSkip, ↓rDrop, ↓rCons, ↓rNil, ↓rTup, ↓rLst, ↓rCallB, ↓rAndV, ↓rOrV, ↓rNotV, ↓rNot, ↓rAnd, ↓rOr, ↓rIfE, ↓rBm, ↓rBm0, ↓rSl, ↓oNone, ↓oSome, ↓gIx, ↓gTup', ↓gCons', ↓gNil', ↓rCall, ↓rCallK, ↓rCallDf, ↓rTr, ↓rPar, ↓rTrL, ↓rPar3, ↓rLkD, ↓rLkS, ↓rCv, ↓rNever, ↓rBreak, ↓rCont, ↓i2, ↓i20, ↓b20, ↓rYes, wipeE, ↓negD, ↓endOf, ↓DL.envOf, List.map_cons, List.map_nil, List.cons_append, List.nil_append, List.length_cons, List.length_nil, List.replicate, List.getElem?_cons_zero, List.getElem?_cons_succ, List.set_cons_zero, List.set_cons_succ, Nat.zero_add, Nat.reduceAdd, Nat.reduceSub, ↓reduceIte, Bool.false_eq_true, Bool.xor_false, Bool.false_xor, Bool.true_xor, Bool.not_true, Bool.not_false, if_true, if_false, decide_true, decide_false]
      refine eq_int ?_
      by_cases last : u + 1 = k
      · have e2 : (t + 1) % cs.length = i := by rw [et, last, hk2.hit, Nat.mod_eq_of_lt hi']
        rw [e2, decide_eq_true rfl]
        simp only [↓rSeq, ↓rAsg, ↓gN, ↓rRet, ↓rRetN, ↓rIf, ↓rBin, ↓rUn, ↓rB, ↓rChain, ↓rC, ↓rVar_zero, ↓rVar_succ, ↓rSkip, ↓rDrop, ↓rCons, ↓rNil, ↓rTup, ↓rLst, ↓rCallB, ↓rAndV, ↓rOrV, ↓rNotV, ↓rNot, ↓rAnd, ↓rOr, ↓rIfE, ↓rBm, ↓rBm0, ↓rSl, ↓oNone, ↓oSome, ↓gIx, ↓gTup', ↓gCons', ↓gNil', ↓rCall, ↓rCallK, ↓rCallDf, ↓rTr, ↓rPar, ↓rTrL, ↓rPar3, ↓rLkD, ↓rLkS, ↓rCv, ↓rNever, ↓rBreak, ↓rCont, ↓i2, ↓i20, ↓b20, ↓rYes, wipeE, ↓negD, ↓endOf, ↓DL.envOf, List.map_cons, List.map_nil, List.cons_append, List.nil_append, List.length_cons, List.length_nil, List.replicate, List.getElem?_cons_zero, List.getElem?_cons_succ, List.set_cons_zero, List.set_cons_succ, Nat.zero_add, Nat.reduceAdd, Nat.reduceSub, ↓reduceIte, Bool.false_eq_true, Bool.xor_false, Bool.false_xor, Bool.true_xor, Bool.not_true, Bool.not_false, if_true, if_false, decide_true, decide_false]
        rw [last]
        obtain ⟨ci, eci⟩ : ∃ ci, ci = (List.range k).map fun j => ((clN cs i j % cs.length : Nat) : Int) := ⟨_, rfl⟩
        have ecy : ((List.range k).map fun j => some ((clN cs i j % cs.length : Nat) : Int)) = ci.map some := by rw [eci, List.map_map]; rfl
        have lci : ci.length ≤ 200 := by
          have := hk2.le
          rw [eci, List.length_map, List.length_range]; omega
        have n1 : ps ≠ p1 := fun z => by rw [z, e1] at hps; cases hps
        have n2' : ps ≠ pm := fun z => by rw [z, em] at hps; cases hps
        rw [← eci]
        rw [ecy] at sn
        clear eci ecy
        have q1 := old_new (o := .lst (ci.map D.int)) hps e1
        have q2 := old_new (o := .lst (ci.map D.int)) hps em
        refine ⟨tyD_lst q1, ci, seq_ref Sto.upd_same, rfl, fun ms2 px pmm pss hpx => ?_⟩
        have hpx' : S' px = none := by
          have : px ≠ ps := fun z => by rw [z, Sto.upd_same] at hpx; cases hpx
          rw [Sto.upd_ne this] at hpx; exact hpx
        have nx1 : px ≠ p1 := fun z => by rw [z, e1] at hpx'; cases hpx'
        have nxm : px ≠ pm := fun z => by rw [z, em] at hpx'; cases hpx'
        have nxs : px ≠ ps := fun z => by rw [z, Sto.upd_same] at hpx; cases hpx
        have lq := rows.1
        rw [List.length_map] at lq
        refine app_ref (old_new hpx q1) (by rw [List.length_map]; exact Nat.lt_of_le_of_lt (show _ ≤ 300 by omega) (by decide)) ?_
        refine add_ref (a := pm) (b := ps) (xs := (acc.flatten.map ckI).map D.int) (ys := ci.map D.int) (by rw [Sto.upd_ne npm, Sto.upd_ne nxm.symm, q2]) (by rw [Sto.upd_ne n1, Sto.upd_ne nxs.symm, Sto.upd_same]) (by rw [List.length_map, List.length_map, List.length_map]; exact Nat.le_trans (show _ ≤ 600 by omega) (by decide)) fun p9 hp9 => ?_
        have n91 : p9 ≠ p1 := fun z => by rw [z, Sto.upd_same] at hp9; cases hp9
        have f9 : ∀ b o, S' b = some o → b ≠ p1 → b ≠ p9 := fun b o hb hb1 z => by
          have b1 : b ≠ ps := fun w => by rw [w, hps] at hb; cases hb
          have b2 : b ≠ px := fun w => by rw [w, hpx'] at hb; cases hb
          rw [← z, Sto.upd_ne hb1, Sto.upd_ne b2, Sto.upd_ne b1, hb] at hp9; cases hp9
        have n9x : p9 ≠ px := fun z => by rw [z, Sto.upd_ne nx1, Sto.upd_same] at hp9; cases hp9
        have keep : ∀ b o, S' b = some o → b ≠ p1 → (((((S'.upd ps (.lst (ci.map D.int))).upd px (.lst (ms2.map D.int))).upd p1 (.lst (qs.map D.ref ++ [.ref px]))).upd p9 (.lst ((acc.flatten.map ckI).map D.int ++ ci.map D.int))) b = some o) := fun b o hb hb1 => by
          have b1 : b ≠ ps := fun w => by rw [w, hps] at hb; cases hb
          have b2 : b ≠ px := fun w => by rw [w, hpx'] at hb; cases hb
          rw [Sto.upd_ne (f9 b o hb hb1), Sto.upd_ne hb1, Sto.upd_ne b2, Sto.upd_ne b1, hb]
        have edd : ((acc ++ [ci.map some]).flatten).map ckD = (acc.flatten.map ckI).map D.int ++ ci.map D.int := by
          rw [List.flatten_append, List.map_append, emI]
          simp only [List.flatten_cons, List.flatten_nil, List.append_nil, ints_d]
        refine ⟨_, Sub.refl _, qs ++ [px], p9, _, _, _, _, rfl, fun b o hb => keep b o (sub b o hb) (fun z => by rw [z, hp1] at hb; cases hb), ?_, n91, ?_, ?_, ?_⟩
        · rw [Sto.upd_ne n91.symm, Sto.upd_same, List.map_append]; rfl
        · rw [sn, edd, Sto.upd_same]
        · intro z hz
          rcases List.mem_append.mp hz with w | w
          · exact fq z w
          · rw [List.mem_singleton.mp w]; exact ⟨sub.free hpx', nx1⟩
        · rw [sn, List.map_append]
          refine rows.snoc (fun b hb o e => keep b o e (fq b hb).2) ?_
          rw [srt_is (r := ci.map some) (ms := ms2) (by rw [List.map_map]; exact pmm.trans (by rw [show (ckI ∘ some : Int → Int) = id from rfl, List.map_id])) pss, ints_d, Sto.upd_ne n9x.symm, Sto.upd_ne nx1, Sto.upd_same]
      · have e2 : (t + 1) % cs.length ≠ i := fun z => by
          rw [et] at z
          exact hk2.no (u + 1) (by omega) (by omega) (by rw [z, Nat.mod_eq_of_lt hi'])
        rw [decide_eq_false (show ¬ ((((t + 1) % cs.length : Nat) : Int) = ((i : Nat) : Int)) from fun z => e2 (Int.ofNat.inj z))]
        simp only [↓rSeq, ↓rAsg, ↓gN, ↓rRet, ↓rRetN, ↓rIf, ↓rBin, ↓rUn, ↓rB, ↓rChain, ↓rC, ↓rVar_zero, ↓rVar_succ, ↓rSkip, ↓rDrop, ↓rCons, ↓rNil, ↓rTup, ↓rLst, ↓rCallB, ↓rAndV, ↓rOrV, ↓rNotV, ↓rNot, ↓rAnd, ↓rOr, ↓rIfE, ↓rBm, ↓rBm0, ↓rSl, ↓oNone, ↓oSome, ↓gIx, ↓gTup', ↓gCons', ↓gNil', ↓rCall, ↓rCallK, ↓rCallDf, ↓rTr, ↓rPar, ↓rTrL, ↓rPar3, ↓rLkD, ↓rLkS, ↓rCv, ↓rNever, ↓rBreak, ↓rCont, ↓i2, ↓i20, ↓b20, ↓rYes, wipeE, ↓negD, ↓endOf, ↓DL.envOf, List.map_cons, List.map_nil, List.cons_append, List.nil_append, List.length_cons, List.length_nil, List.replicate, List.getElem?_cons_zero, List.getElem?_cons_succ, List.set_cons_zero, List.set_cons_succ, Nat.zero_add, Nat.reduceAdd, Nat.reduceSub, ↓reduceIte, Bool.false_eq_true, Bool.xor_false, Bool.false_xor, Bool.true_xor, Bool.not_true, Bool.not_false, if_true, if_false, decide_true, decide_false]
        refine ⟨by decide, eq_tup (b := []) ?_⟩
        rw [ne]
        simp only [↓rSeq, ↓rAsg, ↓gN, ↓rRet, ↓rRetN, ↓rIf, ↓rBin, ↓rUn, ↓rB, ↓rChain, ↓rC, ↓rVar_zero, ↓rVar_succ, ↓rSkip, ↓rDrop, ↓rCons, ↓rNil, ↓rTup, ↓rLst, ↓rCallB, ↓rAndV, ↓rOrV, ↓rNotV, ↓rNot, ↓rAnd, ↓rOr, ↓rIfE, ↓rBm, ↓rBm0, ↓rSl, ↓oNone, ↓oSome, ↓gIx, ↓gTup', ↓gCons', ↓gNil', ↓rCall, ↓rCallK, ↓rCallDf, ↓rTr, ↓rPar, ↓rTrL, ↓rPar3, ↓rLkD, ↓rLkS, ↓rCv, ↓rNever, ↓rBreak, ↓rCont, ↓i2, ↓i20, ↓b20, ↓rYes, wipeE, ↓negD, ↓endOf, ↓DL.envOf, List.map_cons, List.map_nil, List.cons_append, List.nil_append, List.length_cons, List.length_nil, List.replicate, List.getElem?_cons_zero, List.getElem?_cons_succ, List.set_cons_zero, List.set_cons_succ, Nat.zero_add, Nat.reduceAdd, Nat.reduceSub, ↓reduceIte, Bool.false_eq_true, Bool.xor_false, Bool.false_xor, Bool.true_xor, Bool.not_true, Bool.not_false, if_true, if_false, decide_true, decide_false]
        refine ⟨tyD_lst Sto.upd_same, app_ref Sto.upd_same ?_ ?_⟩
        · have := hk2.le
          rw [List.length_map, List.length_map, List.length_range]
          exact Nat.lt_of_le_of_lt (show u + 1 ≤ 300 by omega) (by decide)
        · refine ⟨ms - 1, _, by omega, Sub.refl _, u + 1, t + 1, _, rfl, ?_, by omega, by omega, by rw [et]; exact cl_lt pos (by omega), by omega, lr2, .inl ⟨et, n2⟩⟩
          rw [Sto.upd_upd, List.range_succ (n := u + 1), List.map_append, List.map_append, et]
          rfl
  · rintro env S' ⟨qs, pm, o1, o4, o5, o6, rfl, sub, e1, npm, em, fq, rows⟩
    have e : (rngD 0 (Int.toNat ((cs.length : Nat) : Int))).length = (plK cs.length).length := by rw [rngD_len, plK_len]; rfl
    rw [e, List.take_length] at rows
    subst hN
    simp only [↓rSeq, ↓rAsg, ↓gN, ↓rRet, ↓rRetN, ↓rIf, ↓rBin, ↓rUn, ↓rB, ↓rChain, ↓rC, ↓rVar_zero, ↓rVar_succ, ↓rSkip, ↓rDrop, ↓rCons, ↓rNil, ↓rTup, ↓rLst, ↓rCallB, ↓rAndV, ↓rOrV, ↓rNotV, ↓rNot, ↓rAnd, ↓rOr, ↓rIfE, ↓rBm, ↓rBm0, ↓rSl, ↓oNone, ↓oSome, ↓gIx, ↓gTup', ↓gCons', ↓gNil', ↓rCall, ↓rCallK, ↓rCallDf, ↓rTr, ↓rPar, ↓rTrL, ↓rPar3, ↓rLkD, ↓rLkS, ↓rCv, ↓rNever, ↓rBreak, ↓rCont, ↓i2, ↓i20, ↓b20, ↓rYes, wipeE, ↓negD, ↓endOf, ↓DL.envOf, List.map_cons, List.map_nil, List.cons_append, List.nil_append, List.length_cons, List.length_nil, List.replicate, List.getElem?_cons_zero, List.getElem?_cons_succ, List.set_cons_zero, List.set_cons_succ, Nat.zero_add, Nat.reduceAdd, Nat.reduceSub, ↓reduceIte, Bool.false_eq_true, Bool.xor_false, Bool.false_xor, Bool.true_xor, Bool.not_true, Bool.not_false, if_true, if_false, decide_true, decide_false]
    exact ⟨S', Sub.refl _, q p1 qs S' sub hp1 e1 fq rows⟩
theorem ok_are_cars (T : Txt mg) (F_is_car : Callee P w K mg base CX0 2 "is_car" 1 c_is_car) (hdef : DefAt K mg "are_cars" s_are_cars ["value"]) : Callee P w K mg base CX0 3 "are_cars" 1 c_are_cars := by
  refine mkCallee hdef sc_are_cars 1 rfl _ (fun cdv A outer s H E f hr => (have hc : (cxOf CX0 P w K mg base ["value", "item"] "are_cars" (defScope s_are_cars) f cdv A outer s H E).nox.calm = true := rfl; have nd := sc_are_cars.nd; (rs_cons (rs_if (tr_not (tr_val (re_callB cIsi rfl T.g_isinstance (by decide +kernel) (ra_cons (re_var 0) (ra_cons (re_type (n := "tuple") rfl T.g_tuple (by decide +kernel)) ra_nil)))))
    (rs_one (rs_ret re_bl))
    rs_nil)
    (rs_cons (rs_for (is := List.range 50) PassesOwn.never hc (ri_seq (re_var 0)) (rg_name 1 nd (by simp))
    (rs_one (rs_if (TR.w (wr_and (TR.w (wr_or (tr_cmp opNotTy (re_callTy cType rfl T.g_type (by decide +kernel) (ra_cons (re_var 1) ra_nil)) (re_type (n := "int") rfl T.g_int (by decide +kernel)) (nomark _)) (wr_or1 (tr_not (tr_chain opLe opLt re_int (re_var 1) (re_gint rfl T.g_CARS)))))) (wr_and1 (tr_not (tr_val (re_call F_is_car (hr.mono (by decide)) rfl (ra_cons (re_var 1) ra_nil)))))))
    (rs_one (rs_ret re_bl))
    rs_nil)))
    (rs_one (rs_ret re_bl)))))) (fun ds S kk hl hC => ?_) (fun ds S kk ek z => z)
  obtain ⟨x, rfl, hk, q⟩ := hC
  refine seq_gen fun N hN => ?_
  simp only [↓rSeq, ↓rAsg, ↓gN, ↓rRet, ↓rRetN, ↓rIf, ↓rBin, ↓rUn, ↓rB, ↓rChain, ↓rC, ↓rVar_zero, ↓rVar_succ, ↓rSkip, ↓rDrop, ↓rCons, ↓rNil, ↓rTup, ↓rLst, ↓rCallB, ↓rAndV, ↓rOrV, ↓rNotV, ↓rNot, ↓rAnd, ↓rOr, ↓rIfE, ↓rBm, ↓rBm0, ↓rSl, ↓oNone, ↓oSome, ↓gIx, ↓gTup', ↓gCons', ↓gNil', ↓rCall, ↓rCallK, ↓rCallDf, ↓rTr, ↓rPar, ↓rTrL, ↓rPar3, ↓rLkD, ↓rLkS, ↓rCv, ↓rNever, ↓rBreak, ↓rCont, ↓i2, ↓i20, ↓b20, ↓rYes, wipeE, ↓negD, ↓endOf, ↓DL.envOf, List.map_cons, List.map_nil, List.cons_append, List.nil_append, List.length_cons, List.length_nil, List.replicate, List.getElem?_cons_zero, List.getElem?_cons_succ, List.set_cons_zero, List.set_cons_succ, Nat.zero_add, Nat.reduceAdd, Nat.reduceSub, ↓reduceIte, Bool.false_eq_true, Bool.xor_false, Bool.false_xor, Bool.true_xor, Bool.not_true, Bool.not_false, if_true, if_false, decide_true, decide_false]
  refine isi_tup hk.1 ?_
  cases x with
  | tup xs =>
    obtain ⟨hl, hi⟩ := hk.2 xs rfl
    simp only [isTup, Bool.not_true, Bool.false_eq_true, if_false]
    subst hN
    refine seq_gen fun N hN => ?_
    refine for_gen fun B hB => ?_
    unfold rFor iSeq
    simp only [↓rSeq, ↓rAsg, ↓gN, ↓rRet, ↓rRetN, ↓rIf, ↓rBin, ↓rUn, ↓rB, ↓rChain, ↓rC, ↓rVar_zero, ↓rVar_succ, ↓rSkip, ↓rDrop, ↓rCons, ↓rNil, ↓rTup, ↓rLst, ↓rCallB, ↓rAndV, ↓rOrV, ↓rNotV, ↓rNot, ↓rAnd, ↓rOr, ↓rIfE, ↓rBm, ↓rBm0, ↓rSl, ↓oNone, ↓oSome, ↓gIx, ↓gTup', ↓gCons', ↓gNil', ↓rCall, ↓rCallK, ↓rCallDf, ↓rTr, ↓rPar, ↓rTrL, ↓rPar3, ↓rLkD, ↓rLkS, ↓rCv, ↓rNever, ↓rBreak, ↓rCont, ↓i2, ↓i20, ↓b20, ↓rYes, wipeE, ↓negD, ↓endOf, ↓DL.envOf, List.map_cons, List.map_nil, List.cons_append, List.nil_append, List.length_cons, List.length_nil, List.replicate, List.getElem?_cons_zero, List.getElem?_cons_succ, List.set_cons_zero, List.set_cons_succ, Nat.zero_add, Nat.reduceAdd, Nat.reduceSub, ↓reduceIte, Bool.false_eq_true, Bool.xor_false, Bool.false_xor, Bool.true_xor, Bool.not_true, Bool.not_false, if_true, if_false, decide_true, decide_false]
    refine ⟨fun i env S' => S' = S ∧ (∃ o, env = [some (.tup xs), o]) ∧ (xs.take i).all isCar = true, ⟨rfl, ⟨none, rfl⟩, rfl⟩, fun _ _ _ _ _ => trivial, ?_, ?_⟩
    · rintro i y env S' hx ⟨rfl, ⟨o, rfl⟩, al⟩
      obtain ⟨hi', rfl⟩ := List.getElem?_eq_some_iff.mp hx
      have hy := hi xs[i] (List.getElem_mem hi')
      have tk : (xs.take (i + 1)).all isCar = isCar xs[i] := by
        rw [List.take_succ, hx, List.all_append, al]
        simp
      have far : isCar xs[i] = false → carsIn (.tup xs) = false := fun e => by
        simp only [carsIn]
        exact List.all_eq_false.mpr ⟨xs[i], List.getElem_mem hi', by rw [e]; decide⟩
      subst hB
      simp only [↓rSeq, ↓rAsg, ↓gN, ↓rRet, ↓rRetN, ↓rIf, ↓rBin, ↓rUn, ↓rB, ↓rChain, ↓rC, ↓rVar_zero, ↓rVar_succ, ↓rSkip, ↓rDrop, ↓rCons, ↓rNil, ↓rTup, ↓rLst, ↓rCallB, ↓rAndV, ↓rOrV, ↓rNotV, ↓rNot, ↓rAnd, ↓rOr, ↓rIfE, ↓rBm, ↓rBm0, ↓rSl, ↓oNone, ↓oSome, ↓gIx, ↓gTup', ↓gCons', ↓gNil', ↓rCall, ↓rCallK, ↓rCallDf, ↓rTr, ↓rPar, ↓rTrL, ↓rPar3, ↓rLkD, ↓rLkS, ↓rCv, ↓rNever, ↓rBreak, ↓rCont, ↓i2, ↓i20, ↓b20, ↓rYes, wipeE, ↓negD, ↓endOf, ↓DL.envOf, List.map_cons, List.map_nil, List.cons_append, List.nil_append, List.length_cons, List.length_nil, List.replicate, List.getElem?_cons_zero, List.getElem?_cons_succ, List.set_cons_zero, List.set_cons_succ, Nat.zero_add, Nat.reduceAdd, Nat.reduceSub, ↓reduceIte, Bool.false_eq_true, Bool.xor_false, Bool.false_xor, Bool.true_xor, Bool.not_true, Bool.not_false, if_true, if_false, decide_true, decide_false]
      generalize xs[i] = y at hy tk far
      obtain ⟨t, ht⟩ := Option.isSome_iff_exists.mp hy
      refine ⟨t, ht, ?_⟩
      have goOn : isCar y = true → ∃ S3, DL.Sub S3 S' ∧ S3 = S' ∧ (∃ o, [some (D.tup xs), some y] = [some (.tup xs), o]) ∧ (xs.take (i + 1)).all isCar = true := fun e => ⟨S', Sub.refl _, rfl, ⟨_, rfl⟩, by rw [tk, e]⟩
      by_cases e : t = "int"
      · subst e
        obtain ⟨z, rfl⟩ := kind_int ht
        simp only [isTD, decide_true, Bool.xor_true, Bool.not_true]
        simp only [↓rSeq, ↓rAsg, ↓gN, ↓rRet, ↓rRetN, ↓rIf, ↓rBin, ↓rUn, ↓rB, ↓rChain, ↓rC, ↓rVar_zero, ↓rVar_succ, ↓rSkip, ↓rDrop, ↓rCons, ↓rNil, ↓rTup, ↓rLst, ↓rCallB, ↓rAndV, ↓rOrV, ↓rNotV, ↓rNot, ↓rAnd, ↓rOr, ↓rIfE, ↓rBm, ↓rBm0, ↓rSl, ↓oNone, ↓oSome, ↓gIx, ↓gTup', ↓gCons', ↓gNil', ↓rCall, ↓rCallK, ↓rCallDf, ↓rTr, ↓rPar, ↓rTrL, ↓rPar3, ↓rLkD, ↓rLkS, ↓rCv, ↓rNever, ↓rBreak, ↓rCont, ↓i2, ↓i20, ↓b20, ↓rYes, wipeE, ↓negD, ↓endOf, ↓DL.envOf, List.map_cons, List.map_nil, List.cons_append, List.nil_append, List.length_cons, List.length_nil, List.replicate, List.getElem?_cons_zero, List.getElem?_cons_succ, List.set_cons_zero, List.set_cons_succ, Nat.zero_add, Nat.reduceAdd, Nat.reduceSub, ↓reduceIte, Bool.false_eq_true, Bool.xor_false, Bool.false_xor, Bool.true_xor, Bool.not_true, Bool.not_false, if_true, if_false, decide_true, decide_false]
        by_cases z0 : 0 ≤ z
        · simp only [z0, decide_true]
          by_cases z1 : z < 60
          · simp only [z1, decide_true, Bool.not_true, Bool.false_eq_true, if_false]
            exact goOn (by simp [isCar, z0, z1])
          · simp only [z1, decide_false, Bool.not_false, if_true]
            refine ⟨trivial, _, rfl, hy, ?_⟩
            have f : isCar (.int z) = false := by simp [isCar, z1]
            rw [far f] at q
            simp only [f, Bool.not_false, if_true]
            exact ⟨S', Sub.refl _, q⟩
        · simp only [z0, decide_false]
          refine ⟨trivial, _, rfl, hy, ?_⟩
          have f : isCar (.int z) = false := by simp [isCar, z0]
          rw [far f] at q
          simp only [f, Bool.not_false, if_true]
          exact ⟨S', Sub.refl _, q⟩
      · simp only [isTD, e, decide_false, Bool.xor_false, Bool.true_xor, Bool.not_false]
        simp only [↓rSeq, ↓rAsg, ↓gN, ↓rRet, ↓rRetN, ↓rIf, ↓rBin, ↓rUn, ↓rB, ↓rChain, ↓rC, ↓rVar_zero, ↓rVar_succ, ↓rSkip, ↓rDrop, ↓rCons, ↓rNil, ↓rTup, ↓rLst, ↓rCallB, ↓rAndV, ↓rOrV, ↓rNotV, ↓rNot, ↓rAnd, ↓rOr, ↓rIfE, ↓rBm, ↓rBm0, ↓rSl, ↓oNone, ↓oSome, ↓gIx, ↓gTup', ↓gCons', ↓gNil', ↓rCall, ↓rCallK, ↓rCallDf, ↓rTr, ↓rPar, ↓rTrL, ↓rPar3, ↓rLkD, ↓rLkS, ↓rCv, ↓rNever, ↓rBreak, ↓rCont, ↓i2, ↓i20, ↓b20, ↓rYes, wipeE, ↓negD, ↓endOf, ↓DL.envOf, List.map_cons, List.map_nil, List.cons_append, List.nil_append, List.length_cons, List.length_nil, List.replicate, List.getElem?_cons_zero, List.getElem?_cons_succ, List.set_cons_zero, List.set_cons_succ, Nat.zero_add, Nat.reduceAdd, Nat.reduceSub, ↓reduceIte, Bool.false_eq_true, Bool.xor_false, Bool.false_xor, Bool.true_xor, Bool.not_true, Bool.not_false, if_true, if_false, decide_true, decide_false]
        refine ⟨trivial, _, rfl, hy, ?_⟩
        cases f : isCar y with
        | true =>
          simp only [Bool.not_true, Bool.false_eq_true, if_false]
          exact goOn f
        | false =>
          rw [far f] at q
          simp only [Bool.not_false, if_true]
          exact ⟨S', Sub.refl _, q⟩
    · rintro env S' ⟨rfl, ⟨o, rfl⟩, al⟩
      subst hN
      simp only [↓rSeq, ↓rAsg, ↓gN, ↓rRet, ↓rRetN, ↓rIf, ↓rBin, ↓rUn, ↓rB, ↓rChain, ↓rC, ↓rVar_zero, ↓rVar_succ, ↓rSkip, ↓rDrop, ↓rCons, ↓rNil, ↓rTup, ↓rLst, ↓rCallB, ↓rAndV, ↓rOrV, ↓rNotV, ↓rNot, ↓rAnd, ↓rOr, ↓rIfE, ↓rBm, ↓rBm0, ↓rSl, ↓oNone, ↓oSome, ↓gIx, ↓gTup', ↓gCons', ↓gNil', ↓rCall, ↓rCallK, ↓rCallDf, ↓rTr, ↓rPar, ↓rTrL, ↓rPar3, ↓rLkD, ↓rLkS, ↓rCv, ↓rNever, ↓rBreak, ↓rCont, ↓i2, ↓i20, ↓b20, ↓rYes, wipeE, ↓negD, ↓endOf, ↓DL.envOf, List.map_cons, List.map_nil, List.cons_append, List.nil_append, List.length_cons, List.length_nil, List.replicate, List.getElem?_cons_zero, List.getElem?_cons_succ, List.set_cons_zero, List.set_cons_succ, Nat.zero_add, Nat.reduceAdd, Nat.reduceSub, ↓reduceIte, Bool.false_eq_true, Bool.xor_false, Bool.false_xor, Bool.true_xor, Bool.not_true, Bool.not_false, if_true, if_false, decide_true, decide_false]
      rw [List.take_length] at al
      have : carsIn (.tup xs) = true := al
      rw [this] at q
      exact ⟨S', Sub.refl _, q⟩
  | _ => exact ⟨S, Sub.refl S, q⟩
theorem ok_law_day (T : Txt mg) (F__law_mixed : Callee P w K mg base CX0 2 "_law_mixed" 2 c_law_mixed) (F__law_take : Callee P w K mg base CX0 1 "_law_take" 2 c_law_take) (hdef : DefAt K mg "_law_day" s_law_day ["shed", "most"]) : Callee P w K mg base CX0 3 "_law_day" 2 c_law_day := by
  refine mkCallee hdef sc_law_day 2 rfl _ (fun cdv A outer s H E f hr => (have hc : (cxOf CX0 P w K mg base ["shed", "most", "many", "cars", "place", "way", "few", "found", "opened", "half", "wide", "car", "fresh", "must", "closes", "one"] "_law_day" (defScope s_law_day) f cdv A outer s H E).nox.calm = true := rfl; have nd := sc_law_day.nd; (rs_cons (rs_set 2 nd (re_callB (cMin hc) rfl T.g_min (by decide +kernel) (ra_cons (re_var 1) (ra_cons (re_ix ixSeq (re_lst (ra_cons (re_bin opAdd re_int (re_call F__law_take (hr.mono (by decide)) rfl (ra_cons (re_var 0) (ra_cons re_int ra_nil)))) (ra_cons (re_bin opAdd re_int (re_call F__law_take (hr.mono (by decide)) rfl (ra_cons (re_var 0) (ra_cons (re_var 1) ra_nil)))) (ra_cons (re_var 1) ra_nil)))) (re_call F__law_take (hr.mono (by decide)) rfl (ra_cons (re_var 0) (ra_cons re_int ra_nil)))) ra_nil))))
    (rs_cons (rs_asg (is := List.range 50) (re_tup (ra_cons (re_call F__law_take (hr.mono (by decide)) rfl (ra_cons (re_var 0) (ra_cons re_int ra_nil))) (ra_cons (re_bin opAdd re_int (re_call F__law_take (hr.mono (by decide)) rfl (ra_cons (re_var 0) (ra_cons re_int ra_nil)))) (ra_cons (re_lst ra_nil) (ra_cons (re_lst ra_nil) ra_nil))))) (rg_tup (n := 4) rfl (rgs_cons (rg_name 5 nd (by simp)) (rgs_cons (rg_name 6 nd (by simp)) (rgs_cons (rg_name 7 nd (by simp)) (rgs_cons (rg_name 8 nd (by simp)) rgs_nil))))))
    (rs_cons (rs_set 3 nd (re_call F__law_mixed (hr.mono (by decide)) rfl (ra_cons (re_var 0) (ra_cons (re_lrg hc rfl T.g_list rfl T.g_range re_int) ra_nil))))
    (rs_cons (rs_if (tr_cmp (opEq hr.u64) (re_var 5) re_int (nomark _))
    (rs_one (rs_ret (re_callTy cTuple rfl T.g_tuple (by decide +kernel) (ra_cons (re_slice slSeq (re_var 3) ro_none (ro_some (re_callB (cMin hc) rfl T.g_min (by decide +kernel) (ra_cons (re_var 2) (ra_cons re_int ra_nil))))) ra_nil))))
    rs_nil)
    (rs_cons (rs_if (tr_cmp (opEq hr.u64) (re_var 5) re_int (nomark _))
    (rs_cons (rs_set 9 nd (re_slice slSeq (re_var 3) ro_none (ro_some (re_callB (cMin hc) rfl T.g_min (by decide +kernel) (ra_cons re_int (ra_cons (re_bin opDiv (re_bin opAdd (re_var 2) re_int) re_int) ra_nil))))))
    (rs_one (rs_ret (re_callTy cTuple rfl T.g_tuple (by decide +kernel) (ra_cons (re_call F__law_mixed (hr.mono (by decide)) rfl (ra_cons (re_var 0) (ra_cons (re_bin opAdd (re_var 9) (re_var 9)) ra_nil))) ra_nil)))))
    rs_nil)
    (rs_cons (rs_for (is := List.range 50) PassesOwn.never hc (ri_rng rfl T.g_range (ra_cons (re_var 2) ra_nil)) (rg_name 4 nd (by simp))
    (rs_cons (rs_set 10 nd (re_ix ixSeq (re_lst (ra_cons (re_var 6) (ra_cons re_int (ra_cons re_int (ra_cons re_int (ra_cons re_int (ra_cons re_int (ra_cons re_int ra_nil)))))))) (re_var 5)))
    (rs_cons (rs_set 11 nd (re_ix ixSeq (re_var 3) (re_call F__law_take (hr.mono (by decide)) rfl (ra_cons (re_var 0) (ra_cons (re_var 10) ra_nil)))))
    (rs_cons (rs_if (tr_cmp (opEq hr.u64) (re_var 5) re_int (nomark _))
    (rs_cons (rs_setComp 12 [("one", 15)] hc nd (sw_true rfl rfl rfl (by decide +kernel)) (ri_seq (re_var 3)) (blkOk_by (N := ["shed", "most", "many", "cars", "place", "way", "few", "found", "opened", "half", "wide", "car", "fresh", "must", "closes", "one"]) (sc := defScope s_law_day) (by decide +kernel)) (fun _ _ _ _ _ => (rg_name 15 nd (by simp))) (fun _ _ _ _ _ => (ts_one (tr_cmp (opNotIn hr.u65) (re_var 15) (re_var 7) rfl))) (fun _ _ _ _ _ => (re_var 15)))
    (rs_cons (rs_set 13 nd (re_or (re_cmp (opEqNil hr.u0) (re_var 12) (re_lst ra_nil) (nomark _)) (re_one (re_cmp opLe (re_bin opSub (re_var 2) (re_var 4)) (re_callB cLen rfl T.g_len (by decide +kernel) (ra_cons (re_var 8) ra_nil)) (nomark _)))))
    (rs_cons (rs_set 14 nd (re_and (re_cmp (opNeNil hr.u0) (re_var 8) (re_lst ra_nil) (nomark _)) (re_one (re_or (re_cmp (opEq hr.u64) (re_call F__law_take (hr.mono (by decide)) rfl (ra_cons (re_var 0) (ra_cons re_int ra_nil))) re_int (nomark _)) (re_one (re_var 13))))))
    (rs_cons (rs_if (TR.w (wr_and (tr_not (tr_val (re_var 14))) (wr_and1 (tr_cmp (opEqNil hr.u0) (re_var 12) (re_lst ra_nil) (nomark _)))))
    (rs_one (rs_ret (re_callTy cTuple rfl T.g_tuple (by decide +kernel) (ra_cons (re_var 7) ra_nil))))
    rs_nil)
    (rs_cons (rs_set 11 nd (re_if (tr_val (re_var 14)) (re_bm0 PySem.F.plainAttrs_list PySem.F.slot_list_pop PySem.F.type_list_pop mPop (re_var 8)) (re_ix ixSeq (re_var 12) re_int)))
    (rs_one (rs_if (TR.w (wr_and (tr_not (tr_val (re_var 14))) (wr_and1 (tr_cmp opGt (re_call F__law_take (hr.mono (by decide)) rfl (ra_cons (re_var 0) (ra_cons re_int ra_nil))) re_int (nomark _)))))
    (rs_one (rs_expr (re_bm PySem.F.plainAttrs_list PySem.F.slot_list_append PySem.F.type_list_append mAppend (re_var 8) (ra_cons (re_var 11) ra_nil))))
    rs_nil)))))))
    rs_nil)
    (rs_cons (rs_if (TR.w (wr_and (tr_cmp (opEq hr.u64) (re_var 5) re_int (nomark _)) (wr_and (tr_cmp (opNeNil hr.u0) (re_var 7) (re_lst ra_nil) (nomark _)) (wr_and1 (tr_cmp opGt (re_call F__law_take (hr.mono (by decide)) rfl (ra_cons (re_var 0) (ra_cons re_int ra_nil))) re_int (nomark _))))))
    (rs_one (rs_set 11 nd (re_ix ixSeq (re_var 7) (re_un unNeg re_int))))
    rs_nil)
    (rs_one (rs_expr (re_bm PySem.F.plainAttrs_list PySem.F.slot_list_append PySem.F.type_list_append mAppend (re_var 7) (ra_cons (re_var 11) ra_nil)))))))))
    (rs_one (rs_ret (re_callTy cTuple rfl T.g_tuple (by decide +kernel) (ra_cons (re_var 7) ra_nil)))))))))))) (fun ds S kk hl hC => ?_) (fun ds S kk ek z => z)
  obtain ⟨a, m, b, N, rfl, m0, m1, ha, hb, hN, q⟩ := hC
  have e10 : (10 : Nat) ^ 10 = 10000000000 := by decide
  have e30 : (10 : Nat) ^ 30 = 1000000000000000000000000000000 := by decide
  have e36 : (10 : Int) ^ 36 = 1000000000000000000000000000000000000 := by decide
  refine seq_gen fun N1 hN1 => ?_
  simp only [↓rSeq, ↓rAsg, ↓gN, ↓rRet, ↓rRetN, ↓rIf, ↓rBin, ↓rUn, ↓rB, ↓rChain, ↓rC, ↓rVar_zero, ↓rVar_succ, ↓rSkip, ↓rDrop, ↓rCons, ↓rNil, ↓rTup, ↓rLst, ↓rCallB, ↓rAndV, ↓rOrV, ↓rNotV, ↓rNot, ↓rAnd, ↓rOr, ↓rIfE, ↓rBm, ↓rBm0, ↓rSl, ↓oNone, ↓oSome, ↓gIx, ↓gTup', ↓gCons', ↓gNil', ↓rCall, ↓rCallK, ↓rCallDf, ↓rTr, ↓rPar, ↓rTrL, ↓rPar3, ↓rLkD, ↓rLkS, ↓rCv, ↓rNever, ↓rBreak, ↓rCont, ↓i2, ↓i20, ↓b20, ↓rYes, wipeE, ↓negD, ↓endOf, ↓DL.envOf, List.map_cons, List.map_nil, List.cons_append, List.nil_append, List.length_cons, List.length_nil, List.replicate, List.getElem?_cons_zero, List.getElem?_cons_succ, List.set_cons_zero, List.set_cons_succ, Nat.zero_add, Nat.reduceAdd, Nat.reduceSub, ↓reduceIte, Bool.false_eq_true, Bool.xor_false, Bool.false_xor, Bool.true_xor, Bool.not_true, Bool.not_false, if_true, if_false, decide_true, decide_false]
  refine ⟨trivial, take_at (Ex.refl ha) hb (by omega) (by decide) (by decide) fun t1 b1 S1 t10 t11 hb1 x1 k1 => add_int ⟨trivial, take_at x1 hb1 (by omega) m0 (by omega) fun t2 b2 S2 t20 t21 hb2 x2 k2 => add_int ⟨by decide, fun p hp => ⟨trivial, take_at (x2.new hp) hb2 (by omega) (by decide) (by decide) fun t3 b3 S3 t30 t31 hb3 x3 k3 => ?_⟩⟩⟩⟩
  have h3 : S3 p = some (.lst [.int (1 + t1), .int (1 + t2), .int m]) := (k3 p (x2.ne hp)).trans Sto.upd_same
  obtain ⟨v, hv, v0⟩ : ∃ v, atI [D.int (1 + t1), .int (1 + t2), .int m] t3 = some (.int v) ∧ 1 ≤ v := by
    have c3 : t3 = 0 ∨ t3 = 1 ∨ t3 = 2 := by omega
    rcases c3 with rfl | rfl | rfl
    · exact ⟨_, rfl, by omega⟩
    · exact ⟨_, rfl, by omega⟩
    · exact ⟨_, rfl, by omega⟩
  refine ixD_at (seq_ref h3) hv ?_
  show N1 [some (D.ref a), some (D.int m), some (D.int (if v < m then v else m)), none, none, none, none, none, none, none, none, none, none, none, none, none] S3
  have w0 : 1 ≤ (if v < m then v else m) := by split <;> omega
  have w1 : (if v < m then v else m) ≤ 200 := by split <;> omega
  revert w0 w1
  generalize (if v < m then v else m) = many
  intro w0 w1
  subst hN1
  refine seq_gen fun N1 hN1 => ?_
  simp only [↓rSeq, ↓rAsg, ↓gN, ↓rRet, ↓rRetN, ↓rIf, ↓rBin, ↓rUn, ↓rB, ↓rChain, ↓rC, ↓rVar_zero, ↓rVar_succ, ↓rSkip, ↓rDrop, ↓rCons, ↓rNil, ↓rTup, ↓rLst, ↓rCallB, ↓rAndV, ↓rOrV, ↓rNotV, ↓rNot, ↓rAnd, ↓rOr, ↓rIfE, ↓rBm, ↓rBm0, ↓rSl, ↓oNone, ↓oSome, ↓gIx, ↓gTup', ↓gCons', ↓gNil', ↓rCall, ↓rCallK, ↓rCallDf, ↓rTr, ↓rPar, ↓rTrL, ↓rPar3, ↓rLkD, ↓rLkS, ↓rCv, ↓rNever, ↓rBreak, ↓rCont, ↓i2, ↓i20, ↓b20, ↓rYes, wipeE, ↓negD, ↓endOf, ↓DL.envOf, List.map_cons, List.map_nil, List.cons_append, List.nil_append, List.length_cons, List.length_nil, List.replicate, List.getElem?_cons_zero, List.getElem?_cons_succ, List.set_cons_zero, List.set_cons_succ, Nat.zero_add, Nat.reduceAdd, Nat.reduceSub, ↓reduceIte, Bool.false_eq_true, Bool.xor_false, Bool.false_xor, Bool.true_xor, Bool.not_true, Bool.not_false, if_true, if_false, decide_true, decide_false]
  refine ⟨trivial, take_at x3 hb3 (by omega) (by decide) (by decide) fun way b4 S4 way0 way1 hb4 x4 k4 => ⟨trivial, take_at x4 hb4 (by omega) (by decide) (by decide) fun t5 b5 S5 t50 t51 hb5 x5 k5 => add_int ?_⟩⟩
  refine ⟨by decide, fun pf hpf => ⟨by decide, fun po hpo => ⟨by decide, trivial, _, _, rfl, _, _, rfl, _, _, rfl, _, _, rfl, rfl, ?_⟩⟩⟩
  have x6 := (x5.new (o := .lst []) hpf).new (o := .lst []) hpo
  have hfa := x5.ne hpf
  have hoa := (x5.new (o := .lst []) hpf).ne hpo
  have sf : S pf = none := x5.free hpf
  have so : S po = none := (x5.new (o := .lst []) hpf).free hpo
  have hfo : pf ≠ po := fun e => by rw [← e, Sto.upd_same] at hpo; cases hpo
  have hf6 : ((S5.upd pf (.lst [])).upd po (.lst [])) pf = some (.lst []) := by rw [Sto.upd_ne hfo]; exact Sto.upd_same
  have ho6 : ((S5.upd pf (.lst [])).upd po (.lst [])) po = some (.lst []) := Sto.upd_same
  revert x6 hf6 ho6
  generalize ((S5.upd pf (.lst [])).upd po (.lst [])) = S6
  intro x6 hf6 ho6
  have fin : ∀ (S' : Sto) (b' : List D) (cs : List Int), ShedV (N + 2000) b' → Ex a S b' S' → CallsN cs → ∃ S'', DL.Sub S'' S' ∧ kk (tupI cs) S'' := fun S' b' cs g1 g2 g3 => ⟨_, g2.sub, q b' cs g1 g3⟩
  subst hN1
  refine seq_gen fun N1 hN1 => ?_
  simp only [↓rSeq, ↓rAsg, ↓gN, ↓rRet, ↓rRetN, ↓rIf, ↓rBin, ↓rUn, ↓rB, ↓rChain, ↓rC, ↓rVar_zero, ↓rVar_succ, ↓rSkip, ↓rDrop, ↓rCons, ↓rNil, ↓rTup, ↓rLst, ↓rCallB, ↓rAndV, ↓rOrV, ↓rNotV, ↓rNot, ↓rAnd, ↓rOr, ↓rIfE, ↓rBm, ↓rBm0, ↓rSl, ↓oNone, ↓oSome, ↓gIx, ↓gTup', ↓gCons', ↓gNil', ↓rCall, ↓rCallK, ↓rCallDf, ↓rTr, ↓rPar, ↓rTrL, ↓rPar3, ↓rLkD, ↓rLkS, ↓rCv, ↓rNever, ↓rBreak, ↓rCont, ↓i2, ↓i20, ↓b20, ↓rYes, wipeE, ↓negD, ↓endOf, ↓DL.envOf, List.map_cons, List.map_nil, List.cons_append, List.nil_append, List.length_cons, List.length_nil, List.replicate, List.getElem?_cons_zero, List.getElem?_cons_succ, List.set_cons_zero, List.set_cons_succ, Nat.zero_add, Nat.reduceAdd, Nat.reduceSub, ↓reduceIte, Bool.false_eq_true, Bool.xor_false, Bool.false_xor, Bool.true_xor, Bool.not_true, Bool.not_false, if_true, if_false, decide_true, decide_false]
  unfold rLrg
  simp only [↓rSeq, ↓rAsg, ↓gN, ↓rRet, ↓rRetN, ↓rIf, ↓rBin, ↓rUn, ↓rB, ↓rChain, ↓rC, ↓rVar_zero, ↓rVar_succ, ↓rSkip, ↓rDrop, ↓rCons, ↓rNil, ↓rTup, ↓rLst, ↓rCallB, ↓rAndV, ↓rOrV, ↓rNotV, ↓rNot, ↓rAnd, ↓rOr, ↓rIfE, ↓rBm, ↓rBm0, ↓rSl, ↓oNone, ↓oSome, ↓gIx, ↓gTup', ↓gCons', ↓gNil', ↓rCall, ↓rCallK, ↓rCallDf, ↓rTr, ↓rPar, ↓rTrL, ↓rPar3, ↓rLkD, ↓rLkS, ↓rCv, ↓rNever, ↓rBreak, ↓rCont, ↓i2, ↓i20, ↓b20, ↓rYes, wipeE, ↓negD, ↓endOf, ↓DL.envOf, List.map_cons, List.map_nil, List.cons_append, List.nil_append, List.length_cons, List.length_nil, List.replicate, List.getElem?_cons_zero, List.getElem?_cons_succ, List.set_cons_zero, List.set_cons_succ, Nat.zero_add, Nat.reduceAdd, Nat.reduceSub, ↓reduceIte, Bool.false_eq_true, Bool.xor_false, Bool.false_xor, Bool.true_xor, Bool.not_true, Bool.not_false, if_true, if_false, decide_true, decide_false]
  refine ⟨by decide, by decide, fun pr hpr => ?_⟩
  have hra := x6.ne hpr
  have x7 := x6.new (o := .lst (rngD 0 (Int.toNat 60))) hpr
  have hf7 := old_new (o := .lst (rngD 0 (Int.toNat 60))) hpr hf6
  have ho7 := old_new (o := .lst (rngD 0 (Int.toNat 60))) hpr ho6
  refine ⟨trivial, a, pr, b5, _, (List.range 60).map fun i : Nat => (i : Int), rfl, hra.symm, x7.bag, hb5, by omega, by rw [Sto.upd_same, rngD_ints]; rfl, by simp, fun b8 cl pc hb8 pm hpc => ?_⟩
  have x8 := x7.upd (b' := b8)
  have n8 : ∀ {z : Addr} {xs : List D}, z ≠ a → (S6.upd pr (.lst (rngD 0 (Int.toNat 60)))) z = some (.lst xs) → (((S6.upd pr (.lst (rngD 0 (Int.toNat 60)))).upd a (.lst b8)).upd pc (.lst (cl.map D.int))) z = some (.lst xs) := fun {z xs} n e => old_new (o := .lst (cl.map D.int)) (by rw [Sto.upd_ne (fun z => by rw [z, x7.bag] at hpc; cases hpc)]; exact hpc) (by rw [Sto.upd_ne n]; exact e)
  have hpca : pc ≠ a := fun z => by rw [z, x7.bag] at hpc; cases hpc
  have hpc' : ((S6.upd pr (.lst (rngD 0 (Int.toNat 60)))).upd a (.lst b8)) pc = none := by rw [Sto.upd_ne hpca]; exact hpc
  have hf8 := n8 hfa hf7
  have ho8 := n8 hoa ho7
  have x9 := x8.new (o := .lst (cl.map D.int)) hpc'
  have hc9 : (((S6.upd pr (.lst (rngD 0 (Int.toNat 60)))).upd a (.lst b8)).upd pc (.lst (cl.map D.int))) pc = some (.lst (cl.map D.int)) := Sto.upd_same
  have hcf : pc ≠ pf := fun e => by rw [e, hf7] at hpc; cases hpc
  have hco : pc ≠ po := fun e => by rw [e, ho7] at hpc; cases hpc
  clear n8
  revert hf8 ho8 x9 hc9
  generalize (((S6.upd pr (.lst (rngD 0 (Int.toNat 60)))).upd a (.lst b8)).upd pc (.lst (cl.map D.int))) = S9
  intro hf9 ho9 x9 hc9
  have cl60 : cl.length = 60 := by have := pm.length_eq; simpa using this.symm
  have clc : ∀ x ∈ cl, Car x := fun x hx => all60.cars x (pm.mem_iff.mpr hx)
  have hb9 : ShedV (N + 100) b8 := hb8.mono (by simp)
  clear x8 x7 x6 hpc hpc' pm hf7 ho7 hf6 ho6
  subst hN1
  -- way 2
  refine seq_gen fun N1 hN1 => ?_
  simp only [↓rSeq, ↓rAsg, ↓gN, ↓rRet, ↓rRetN, ↓rIf, ↓rBin, ↓rUn, ↓rB, ↓rChain, ↓rC, ↓rVar_zero, ↓rVar_succ, ↓rSkip, ↓rDrop, ↓rCons, ↓rNil, ↓rTup, ↓rLst, ↓rCallB, ↓rAndV, ↓rOrV, ↓rNotV, ↓rNot, ↓rAnd, ↓rOr, ↓rIfE, ↓rBm, ↓rBm0, ↓rSl, ↓oNone, ↓oSome, ↓gIx, ↓gTup', ↓gCons', ↓gNil', ↓rCall, ↓rCallK, ↓rCallDf, ↓rTr, ↓rPar, ↓rTrL, ↓rPar3, ↓rLkD, ↓rLkS, ↓rCv, ↓rNever, ↓rBreak, ↓rCont, ↓i2, ↓i20, ↓b20, ↓rYes, wipeE, ↓negD, ↓endOf, ↓DL.envOf, List.map_cons, List.map_nil, List.cons_append, List.nil_append, List.length_cons, List.length_nil, List.replicate, List.getElem?_cons_zero, List.getElem?_cons_succ, List.set_cons_zero, List.set_cons_succ, Nat.zero_add, Nat.reduceAdd, Nat.reduceSub, ↓reduceIte, Bool.false_eq_true, Bool.xor_false, Bool.false_xor, Bool.true_xor, Bool.not_true, Bool.not_false, if_true, if_false, decide_true, decide_false]
  refine eq_int ?_
  simp only [↓rSeq, ↓rAsg, ↓gN, ↓rRet, ↓rRetN, ↓rIf, ↓rBin, ↓rUn, ↓rB, ↓rChain, ↓rC, ↓rVar_zero, ↓rVar_succ, ↓rSkip, ↓rDrop, ↓rCons, ↓rNil, ↓rTup, ↓rLst, ↓rCallB, ↓rAndV, ↓rOrV, ↓rNotV, ↓rNot, ↓rAnd, ↓rOr, ↓rIfE, ↓rBm, ↓rBm0, ↓rSl, ↓oNone, ↓oSome, ↓gIx, ↓gTup', ↓gCons', ↓gNil', ↓rCall, ↓rCallK, ↓rCallDf, ↓rTr, ↓rPar, ↓rTrL, ↓rPar3, ↓rLkD, ↓rLkS, ↓rCv, ↓rNever, ↓rBreak, ↓rCont, ↓i2, ↓i20, ↓b20, ↓rYes, wipeE, ↓negD, ↓endOf, ↓DL.envOf, List.map_cons, List.map_nil, List.cons_append, List.nil_append, List.length_cons, List.length_nil, List.replicate, List.getElem?_cons_zero, List.getElem?_cons_succ, List.set_cons_zero, List.set_cons_succ, Nat.zero_add, Nat.reduceAdd, Nat.reduceSub, ↓reduceIte, Bool.false_eq_true, Bool.xor_false, Bool.false_xor, Bool.true_xor, Bool.not_true, Bool.not_false, if_true, if_false, decide_true, decide_false]
  by_cases w2 : way = 2
  · rw [if_pos (by simpa using w2)]
    refine min_int ?_
    simp only [↓rSeq, ↓rAsg, ↓gN, ↓rRet, ↓rRetN, ↓rIf, ↓rBin, ↓rUn, ↓rB, ↓rChain, ↓rC, ↓rVar_zero, ↓rVar_succ, ↓rSkip, ↓rDrop, ↓rCons, ↓rNil, ↓rTup, ↓rLst, ↓rCallB, ↓rAndV, ↓rOrV, ↓rNotV, ↓rNot, ↓rAnd, ↓rOr, ↓rIfE, ↓rBm, ↓rBm0, ↓rSl, ↓oNone, ↓oSome, ↓gIx, ↓gTup', ↓gCons', ↓gNil', ↓rCall, ↓rCallK, ↓rCallDf, ↓rTr, ↓rPar, ↓rTrL, ↓rPar3, ↓rLkD, ↓rLkS, ↓rCv, ↓rNever, ↓rBreak, ↓rCont, ↓i2, ↓i20, ↓b20, ↓rYes, wipeE, ↓negD, ↓endOf, ↓DL.envOf, List.map_cons, List.map_nil, List.cons_append, List.nil_append, List.length_cons, List.length_nil, List.replicate, List.getElem?_cons_zero, List.getElem?_cons_succ, List.set_cons_zero, List.set_cons_succ, Nat.zero_add, Nat.reduceAdd, Nat.reduceSub, ↓reduceIte, Bool.false_eq_true, Bool.xor_false, Bool.false_xor, Bool.true_xor, Bool.not_true, Bool.not_false, if_true, if_false, decide_true, decide_false]
    refine sl_ref hc9 fun p2 hp2 => tuple_lst Sto.upd_same ?_
    have g0 : 1 ≤ (if 60 < many then 60 else many) := by split <;> omega
    have g1 : (if 60 < many then 60 else many) ≤ 60 := by split <;> omega
    rw [cut_toI (by omega), ← List.map_take]
    refine fin _ b8 _ (hb9.mono (by omega)) (x9.new hp2) ⟨fun x hx => clc x (List.mem_of_mem_take hx), ?_, ?_⟩
    · rw [List.length_take]; omega
    · rw [List.length_take]; omega
  rw [if_neg (by simpa using w2)]
  subst hN1
  -- way 5
  refine seq_gen fun N1 hN1 => ?_
  simp only [↓rSeq, ↓rAsg, ↓gN, ↓rRet, ↓rRetN, ↓rIf, ↓rBin, ↓rUn, ↓rB, ↓rChain, ↓rC, ↓rVar_zero, ↓rVar_succ, ↓rSkip, ↓rDrop, ↓rCons, ↓rNil, ↓rTup, ↓rLst, ↓rCallB, ↓rAndV, ↓rOrV, ↓rNotV, ↓rNot, ↓rAnd, ↓rOr, ↓rIfE, ↓rBm, ↓rBm0, ↓rSl, ↓oNone, ↓oSome, ↓gIx, ↓gTup', ↓gCons', ↓gNil', ↓rCall, ↓rCallK, ↓rCallDf, ↓rTr, ↓rPar, ↓rTrL, ↓rPar3, ↓rLkD, ↓rLkS, ↓rCv, ↓rNever, ↓rBreak, ↓rCont, ↓i2, ↓i20, ↓b20, ↓rYes, wipeE, ↓negD, ↓endOf, ↓DL.envOf, List.map_cons, List.map_nil, List.cons_append, List.nil_append, List.length_cons, List.length_nil, List.replicate, List.getElem?_cons_zero, List.getElem?_cons_succ, List.set_cons_zero, List.set_cons_succ, Nat.zero_add, Nat.reduceAdd, Nat.reduceSub, ↓reduceIte, Bool.false_eq_true, Bool.xor_false, Bool.false_xor, Bool.true_xor, Bool.not_true, Bool.not_false, if_true, if_false, decide_true, decide_false]
  refine eq_int ?_
  simp only [↓rSeq, ↓rAsg, ↓gN, ↓rRet, ↓rRetN, ↓rIf, ↓rBin, ↓rUn, ↓rB, ↓rChain, ↓rC, ↓rVar_zero, ↓rVar_succ, ↓rSkip, ↓rDrop, ↓rCons, ↓rNil, ↓rTup, ↓rLst, ↓rCallB, ↓rAndV, ↓rOrV, ↓rNotV, ↓rNot, ↓rAnd, ↓rOr, ↓rIfE, ↓rBm, ↓rBm0, ↓rSl, ↓oNone, ↓oSome, ↓gIx, ↓gTup', ↓gCons', ↓gNil', ↓rCall, ↓rCallK, ↓rCallDf, ↓rTr, ↓rPar, ↓rTrL, ↓rPar3, ↓rLkD, ↓rLkS, ↓rCv, ↓rNever, ↓rBreak, ↓rCont, ↓i2, ↓i20, ↓b20, ↓rYes, wipeE, ↓negD, ↓endOf, ↓DL.envOf, List.map_cons, List.map_nil, List.cons_append, List.nil_append, List.length_cons, List.length_nil, List.replicate, List.getElem?_cons_zero, List.getElem?_cons_succ, List.set_cons_zero, List.set_cons_succ, Nat.zero_add, Nat.reduceAdd, Nat.reduceSub, ↓reduceIte, Bool.false_eq_true, Bool.xor_false, Bool.false_xor, Bool.true_xor, Bool.not_true, Bool.not_false, if_true, if_false, decide_true, decide_false]
  by_cases w5 : way = 5
  · rw [if_pos (by simpa using w5)]
    refine add_int ⟨⟨by decide, by decide⟩, min_int ?_⟩
    simp only [↓rSeq, ↓rAsg, ↓gN, ↓rRet, ↓rRetN, ↓rIf, ↓rBin, ↓rUn, ↓rB, ↓rChain, ↓rC, ↓rVar_zero, ↓rVar_succ, ↓rSkip, ↓rDrop, ↓rCons, ↓rNil, ↓rTup, ↓rLst, ↓rCallB, ↓rAndV, ↓rOrV, ↓rNotV, ↓rNot, ↓rAnd, ↓rOr, ↓rIfE, ↓rBm, ↓rBm0, ↓rSl, ↓oNone, ↓oSome, ↓gIx, ↓gTup', ↓gCons', ↓gNil', ↓rCall, ↓rCallK, ↓rCallDf, ↓rTr, ↓rPar, ↓rTrL, ↓rPar3, ↓rLkD, ↓rLkS, ↓rCv, ↓rNever, ↓rBreak, ↓rCont, ↓i2, ↓i20, ↓b20, ↓rYes, wipeE, ↓negD, ↓endOf, ↓DL.envOf, List.map_cons, List.map_nil, List.cons_append, List.nil_append, List.length_cons, List.length_nil, List.replicate, List.getElem?_cons_zero, List.getElem?_cons_succ, List.set_cons_zero, List.set_cons_succ, Nat.zero_add, Nat.reduceAdd, Nat.reduceSub, ↓reduceIte, Bool.false_eq_true, Bool.xor_false, Bool.false_xor, Bool.true_xor, Bool.not_true, Bool.not_false, if_true, if_false, decide_true, decide_false]
    refine sl_ref hc9 fun p2 hp2 => ?_
    have g0 : 1 ≤ (if (many + 1) / 2 < 30 then (many + 1) / 2 else 30) := by split <;> omega
    have g1 : (if (many + 1) / 2 < 30 then (many + 1) / 2 else 30) ≤ 30 := by split <;> omega
    rw [cut_toI (by omega), ← List.map_take]
    have lh : (cl.take (if (many + 1) / 2 < 30 then (many + 1) / 2 else 30).toNat).length = (if (many + 1) / 2 < 30 then (many + 1) / 2 else 30).toNat := by rw [List.length_take]; omega
    have ch : ∀ x ∈ cl.take (if (many + 1) / 2 < 30 then (many + 1) / 2 else 30).toNat, Car x := fun x hx => clc x (List.mem_of_mem_take hx)
    revert g0 g1 lh ch
    generalize (if (many + 1) / 2 < 30 then (many + 1) / 2 else 30) = hn
    intro g0 g1
    generalize cl.take hn.toNat = hf
    intro lh ch
    refine add_ref Sto.upd_same Sto.upd_same (by rw [List.length_map]; exact Nat.le_trans (show _ ≤ 60 by omega) (by decide)) fun p3 hp3 => ?_
    have x10 := (x9.new (o := .lst (hf.map D.int)) hp2)
    have x11 := x10.new (o := .lst (hf.map D.int ++ hf.map D.int)) hp3
    refine ⟨trivial, a, p3, b8, _, hf ++ hf, rfl, (x10.ne hp3).symm, x11.bag, hb9, by omega, by rw [Sto.upd_same, List.map_append], by rw [List.length_append]; omega, fun b9 ms p4 hb10 pm hp4 => tuple_lst Sto.upd_same ?_⟩
    have lm := pm.length_eq
    rw [List.length_append] at lm hb10
    have hp4a : p4 ≠ a := fun z => by rw [z, x11.bag] at hp4; cases hp4
    refine fin _ b9 ms (hb10.mono (by omega)) ((x11.upd).new (by rw [Sto.upd_ne hp4a]; exact hp4)) ⟨fun x hx => ?_, by omega, by omega⟩
    have := pm.mem_iff.mpr hx
    rcases List.mem_append.mp this with z | z
    · exact ch x z
    · exact ch x z
  rw [if_neg (by simpa using w5)]
  subst hN1
  -- the loop
  refine seq_gen fun N1 hN1 => ?_
  refine for_gen fun B hB => ?_
  unfold rFor iRng
  simp only [↓rSeq, ↓rAsg, ↓gN, ↓rRet, ↓rRetN, ↓rIf, ↓rBin, ↓rUn, ↓rB, ↓rChain, ↓rC, ↓rVar_zero, ↓rVar_succ, ↓rSkip, ↓rDrop, ↓rCons, ↓rNil, ↓rTup, ↓rLst, ↓rCallB, ↓rAndV, ↓rOrV, ↓rNotV, ↓rNot, ↓rAnd, ↓rOr, ↓rIfE, ↓rBm, ↓rBm0, ↓rSl, ↓oNone, ↓oSome, ↓gIx, ↓gTup', ↓gCons', ↓gNil', ↓rCall, ↓rCallK, ↓rCallDf, ↓rTr, ↓rPar, ↓rTrL, ↓rPar3, ↓rLkD, ↓rLkS, ↓rCv, ↓rNever, ↓rBreak, ↓rCont, ↓i2, ↓i20, ↓b20, ↓rYes, wipeE, ↓negD, ↓endOf, ↓DL.envOf, List.map_cons, List.map_nil, List.cons_append, List.nil_append, List.length_cons, List.length_nil, List.replicate, List.getElem?_cons_zero, List.getElem?_cons_succ, List.set_cons_zero, List.set_cons_succ, Nat.zero_add, Nat.reduceAdd, Nat.reduceSub, ↓reduceIte, Bool.false_eq_true, Bool.xor_false, Bool.false_xor, Bool.true_xor, Bool.not_true, Bool.not_false, if_true, if_false, decide_true, decide_false]
  refine ⟨by omega, by omega, fun i env S' => ∃ b' fs os o4 o9 o10 o11 o12 o13 o14 o15, ShedV (N + 100 + 4 * i) b' ∧ Ex a S b' S' ∧ S' pc = some (.lst (cl.map D.int)) ∧ S' pf = some (.lst (List.map D.int fs)) ∧ S' po = some (.lst (List.map D.int os)) ∧ fs.length = i ∧ os.length ≤ i ∧ (∀ x ∈ fs, Car x) ∧ (∀ x ∈ os, Car x) ∧
    env = [some (.ref a), some (.int m), some (.int many), some (.ref pc), o4, some (.int way), some (.int (1 + t5)), some (.ref pf), some (.ref po), o9, o10, o11, o12, o13, o14, o15], ?_, fun _ _ _ _ _ => trivial, ?_, ?_⟩
  · exact ⟨b8, [], [], _, _, _, _, _, _, _, _, hb9, x9, hc9, hf9, ho9, rfl, Nat.le_refl _, (fun x hx => by cases hx), (fun x hx => by cases hx), rfl⟩
  · rintro i x env S' hx ⟨b', fs, os, o4, o9, o10, o11, o12, o13, o14, o15, hb', hx', hc', hf', ho', lf, lo, cf, co, rfl⟩
    obtain ⟨hi, rfl⟩ := rngD_it hx
    subst hB
    -- wide
    refine seq_gen fun N2 hN2 => ?_
    simp only [↓rSeq, ↓rAsg, ↓gN, ↓rRet, ↓rRetN, ↓rIf, ↓rBin, ↓rUn, ↓rB, ↓rChain, ↓rC, ↓rVar_zero, ↓rVar_succ, ↓rSkip, ↓rDrop, ↓rCons, ↓rNil, ↓rTup, ↓rLst, ↓rCallB, ↓rAndV, ↓rOrV, ↓rNotV, ↓rNot, ↓rAnd, ↓rOr, ↓rIfE, ↓rBm, ↓rBm0, ↓rSl, ↓oNone, ↓oSome, ↓gIx, ↓gTup', ↓gCons', ↓gNil', ↓rCall, ↓rCallK, ↓rCallDf, ↓rTr, ↓rPar, ↓rTrL, ↓rPar3, ↓rLkD, ↓rLkS, ↓rCv, ↓rNever, ↓rBreak, ↓rCont, ↓i2, ↓i20, ↓b20, ↓rYes, wipeE, ↓negD, ↓endOf, ↓DL.envOf, List.map_cons, List.map_nil, List.cons_append, List.nil_append, List.length_cons, List.length_nil, List.replicate, List.getElem?_cons_zero, List.getElem?_cons_succ, List.set_cons_zero, List.set_cons_succ, Nat.zero_add, Nat.reduceAdd, Nat.reduceSub, ↓reduceIte, Bool.false_eq_true, Bool.xor_false, Bool.false_xor, Bool.true_xor, Bool.not_true, Bool.not_false, if_true, if_false, decide_true, decide_false]
    refine ⟨by decide, fun p1 hp1 => ?_⟩
    obtain ⟨wd, hwd, wd0, wd1⟩ : ∃ wd, atI [D.int (1 + t5), .int 60, .int 1, .int 1, .int 1, .int 1, .int 60] way = some (.int wd) ∧ 1 ≤ wd ∧ wd ≤ 60 := by
      have c3 : way = 0 ∨ way = 1 ∨ way = 2 ∨ way = 3 ∨ way = 4 ∨ way = 5 ∨ way = 6 := by omega
      rcases c3 with rfl | rfl | rfl | rfl | rfl | rfl | rfl
      · exact ⟨_, rfl, by omega, by omega⟩
      · exact ⟨_, rfl, by omega, by omega⟩
      · exact ⟨_, rfl, by omega, by omega⟩
      · exact ⟨_, rfl, by omega, by omega⟩
      · exact ⟨_, rfl, by omega, by omega⟩
      · exact ⟨_, rfl, by omega, by omega⟩
      · exact ⟨_, rfl, by omega, by omega⟩
    refine ixD_at (seq_ref Sto.upd_same) hwd ?_
    have xA := hx'.new (o := .lst [D.int (1 + t5), .int 60, .int 1, .int 1, .int 1, .int 1, .int 60]) hp1
    have hcA := old_new (o := .lst [D.int (1 + t5), .int 60, .int 1, .int 1, .int 1, .int 1, .int 60]) hp1 hc'
    have hfA := old_new (o := .lst [D.int (1 + t5), .int 60, .int 1, .int 1, .int 1, .int 1, .int 60]) hp1 hf'
    have hoA := old_new (o := .lst [D.int (1 + t5), .int 60, .int 1, .int 1, .int 1, .int 1, .int 60]) hp1 ho'
    revert xA hcA hfA hoA
    generalize S'.upd p1 (.lst [D.int (1 + t5), .int 60, .int 1, .int 1, .int 1, .int 1, .int 60]) = SA
    intro xA hcA hfA hoA
    subst hN2
    -- car
    refine seq_gen fun N2 hN2 => ?_
    simp only [↓rSeq, ↓rAsg, ↓gN, ↓rRet, ↓rRetN, ↓rIf, ↓rBin, ↓rUn, ↓rB, ↓rChain, ↓rC, ↓rVar_zero, ↓rVar_succ, ↓rSkip, ↓rDrop, ↓rCons, ↓rNil, ↓rTup, ↓rLst, ↓rCallB, ↓rAndV, ↓rOrV, ↓rNotV, ↓rNot, ↓rAnd, ↓rOr, ↓rIfE, ↓rBm, ↓rBm0, ↓rSl, ↓oNone, ↓oSome, ↓gIx, ↓gTup', ↓gCons', ↓gNil', ↓rCall, ↓rCallK, ↓rCallDf, ↓rTr, ↓rPar, ↓rTrL, ↓rPar3, ↓rLkD, ↓rLkS, ↓rCv, ↓rNever, ↓rBreak, ↓rCont, ↓i2, ↓i20, ↓b20, ↓rYes, wipeE, ↓negD, ↓endOf, ↓DL.envOf, List.map_cons, List.map_nil, List.cons_append, List.nil_append, List.length_cons, List.length_nil, List.replicate, List.getElem?_cons_zero, List.getElem?_cons_succ, List.set_cons_zero, List.set_cons_succ, Nat.zero_add, Nat.reduceAdd, Nat.reduceSub, ↓reduceIte, Bool.false_eq_true, Bool.xor_false, Bool.false_xor, Bool.true_xor, Bool.not_true, Bool.not_false, if_true, if_false, decide_true, decide_false]
    refine ⟨trivial, take_at xA hb' (by omega) (by omega) (by omega) fun tc bB SB tc0 tc1 hbB xB kB => ?_⟩
    have hcB := (kB pc hpca).trans hcA
    have hfB := (kB pf hfa).trans hfA
    have hoB := (kB po hoa).trans hoA
    have htc : tc.toNat < cl.length := by omega
    have etc : tc = (tc.toNat : Int) := by omega
    rw [etc]
    refine ixD_at (seq_ref hcB) (atI_nat (v := D.int cl[tc.toNat]) (by rw [List.getElem?_map, List.getElem?_eq_getElem htc]; rfl)) ?_
    have hcar : Car cl[tc.toNat] := clc _ (List.getElem_mem htc)
    revert hcar
    generalize cl[tc.toNat] = car
    intro hcar
    clear etc htc hwd
    subst hN2
    -- way 4
    refine seq_gen fun N2 hN2 => ?_
    have tail : ∀ (b2 : List D) (c : Int) (os2 : List Int) (S2 : Sto) (p12 p13 p14 p15 : Option D), ShedV (N + 100 + 4 * i + 3) b2 → Ex a S b2 S2 → S2 pc = some (.lst (cl.map D.int)) → S2 pf = some (.lst (fs.map D.int)) → S2 po = some (.lst (os2.map D.int)) → os2.length ≤ i + 1 → Car c → (∀ x ∈ os2, Car x) →
        N2 [some (.ref a), some (.int m), some (.int many), some (.ref pc), some (.int (i : Nat)), some (.int way), some (.int (1 + t5)), some (.ref pf), some (.ref po), o9, some (.int wd), some (.int c), p12, p13, p14, p15] S2 := by
      intro b2 c os2 S2 p12 p13 p14 p15 hb2 x2 hc2 hf2 ho2 lo2 hcar2 co2
      subst hN2
      refine seq_gen fun N2 hN2 => ?_
      have app : ∀ (b3 : List D) (c3 : Int) (S3 : Sto), ShedV (N + 100 + 4 * (i + 1)) b3 → Ex a S b3 S3 → S3 pc = some (.lst (cl.map D.int)) → S3 pf = some (.lst (fs.map D.int)) → S3 po = some (.lst (os2.map D.int)) → Car c3 →
          N2 [some (.ref a), some (.int m), some (.int many), some (.ref pc), some (.int (i : Nat)), some (.int way), some (.int (1 + t5)), some (.ref pf), some (.ref po), o9, some (.int wd), some (.int c3), p12, p13, p14, p15] S3 := by
        intro b3 c3 S3 hb3 x3 hc3 hf3 ho3 hcar3
        subst hN2
        simp only [↓rSeq, ↓rAsg, ↓gN, ↓rRet, ↓rRetN, ↓rIf, ↓rBin, ↓rUn, ↓rB, ↓rChain, ↓rC, ↓rVar_zero, ↓rVar_succ, ↓rSkip, ↓rDrop, ↓rCons, ↓rNil, ↓rTup, ↓rLst, ↓rCallB, ↓rAndV, ↓rOrV, ↓rNotV, ↓rNot, ↓rAnd, ↓rOr, ↓rIfE, ↓rBm, ↓rBm0, ↓rSl, ↓oNone, ↓oSome, ↓gIx, ↓gTup', ↓gCons', ↓gNil', ↓rCall, ↓rCallK, ↓rCallDf, ↓rTr, ↓rPar, ↓rTrL, ↓rPar3, ↓rLkD, ↓rLkS, ↓rCv, ↓rNever, ↓rBreak, ↓rCont, ↓i2, ↓i20, ↓b20, ↓rYes, wipeE, ↓negD, ↓endOf, ↓DL.envOf, List.map_cons, List.map_nil, List.cons_append, List.nil_append, List.length_cons, List.length_nil, List.replicate, List.getElem?_cons_zero, List.getElem?_cons_succ, List.set_cons_zero, List.set_cons_succ, Nat.zero_add, Nat.reduceAdd, Nat.reduceSub, ↓reduceIte, Bool.false_eq_true, Bool.xor_false, Bool.false_xor, Bool.true_xor, Bool.not_true, Bool.not_false, if_true, if_false, decide_true, decide_false]
        refine ⟨tyD_lst hf3, app_ref hf3 (by rw [List.length_map]; exact Nat.lt_of_le_of_lt (show _ ≤ 200 by omega) (by decide)) ⟨_, Sub.refl _, b3, fs ++ [c3], os2, _, _, _, _, _, _, _, _, hb3, x3.mod sf hfa, ?_, ?_, ?_, ?_, lo2, ?_, co2, rfl⟩⟩
        · rw [Sto.upd_ne hcf]; exact hc3
        · rw [Sto.upd_same, List.map_append]; rfl
        · rw [Sto.upd_ne hfo.symm]; exact ho3
        · rw [List.length_append, lf]; rfl
        · intro x hx
          rcases List.mem_append.mp hx with z | z
          · exact cf x z
          · rw [List.mem_singleton.mp z]; exact hcar3
      have hb2' : ShedV (N + 100 + 4 * (i + 1)) b2 := hb2.mono (by omega)
      simp only [↓rSeq, ↓rAsg, ↓gN, ↓rRet, ↓rRetN, ↓rIf, ↓rBin, ↓rUn, ↓rB, ↓rChain, ↓rC, ↓rVar_zero, ↓rVar_succ, ↓rSkip, ↓rDrop, ↓rCons, ↓rNil, ↓rTup, ↓rLst, ↓rCallB, ↓rAndV, ↓rOrV, ↓rNotV, ↓rNot, ↓rAnd, ↓rOr, ↓rIfE, ↓rBm, ↓rBm0, ↓rSl, ↓oNone, ↓oSome, ↓gIx, ↓gTup', ↓gCons', ↓gNil', ↓rCall, ↓rCallK, ↓rCallDf, ↓rTr, ↓rPar, ↓rTrL, ↓rPar3, ↓rLkD, ↓rLkS, ↓rCv, ↓rNever, ↓rBreak, ↓rCont, ↓i2, ↓i20, ↓b20, ↓rYes, wipeE, ↓negD, ↓endOf, ↓DL.envOf, List.map_cons, List.map_nil, List.cons_append, List.nil_append, List.length_cons, List.length_nil, List.replicate, List.getElem?_cons_zero, List.getElem?_cons_succ, List.set_cons_zero, List.set_cons_succ, Nat.zero_add, Nat.reduceAdd, Nat.reduceSub, ↓reduceIte, Bool.false_eq_true, Bool.xor_false, Bool.false_xor, Bool.true_xor, Bool.not_true, Bool.not_false, if_true, if_false, decide_true, decide_false]
      refine eq_int ?_
      simp only [↓rSeq, ↓rAsg, ↓gN, ↓rRet, ↓rRetN, ↓rIf, ↓rBin, ↓rUn, ↓rB, ↓rChain, ↓rC, ↓rVar_zero, ↓rVar_succ, ↓rSkip, ↓rDrop, ↓rCons, ↓rNil, ↓rTup, ↓rLst, ↓rCallB, ↓rAndV, ↓rOrV, ↓rNotV, ↓rNot, ↓rAnd, ↓rOr, ↓rIfE, ↓rBm, ↓rBm0, ↓rSl, ↓oNone, ↓oSome, ↓gIx, ↓gTup', ↓gCons', ↓gNil', ↓rCall, ↓rCallK, ↓rCallDf, ↓rTr, ↓rPar, ↓rTrL, ↓rPar3, ↓rLkD, ↓rLkS, ↓rCv, ↓rNever, ↓rBreak, ↓rCont, ↓i2, ↓i20, ↓b20, ↓rYes, wipeE, ↓negD, ↓endOf, ↓DL.envOf, List.map_cons, List.map_nil, List.cons_append, List.nil_append, List.length_cons, List.length_nil, List.replicate, List.getElem?_cons_zero, List.getElem?_cons_succ, List.set_cons_zero, List.set_cons_succ, Nat.zero_add, Nat.reduceAdd, Nat.reduceSub, ↓reduceIte, Bool.false_eq_true, Bool.xor_false, Bool.false_xor, Bool.true_xor, Bool.not_true, Bool.not_false, if_true, if_false, decide_true, decide_false]
      by_cases w6 : way = 6
      · rw [w6] at app
        simp only [w6, decide_true, Bool.xor_false, Bool.false_xor]
        refine ⟨by decide, fun p2 hp2 => ?_⟩
        have x3 := x2.new (o := .lst []) hp2
        have hc3 := old_new (o := .lst []) hp2 hc2
        have hf3 := old_new (o := .lst []) hp2 hf2
        have ho3 := old_new (o := .lst []) hp2 ho2
        have hn3 : (S2.upd p2 (.lst [])) p2 = some (.lst []) := Sto.upd_same
        revert x3 hc3 hf3 ho3 hn3
        generalize S2.upd p2 (.lst []) = S3
        intro x3 hc3 hf3 ho3 hn3
        refine nil_at hf3 hn3 ?_
        rcases last_ex fs with rfl | ⟨gs, g, rfl⟩
        · show N2 _ S3
          exact app b2 c S3 hb2' x3 hc3 hf3 ho3 hcar2
        · have ne : ((gs ++ [g]).map D.int).isEmpty = false := by simp
          rw [ne]
          simp only [↓rSeq, ↓rAsg, ↓gN, ↓rRet, ↓rRetN, ↓rIf, ↓rBin, ↓rUn, ↓rB, ↓rChain, ↓rC, ↓rVar_zero, ↓rVar_succ, ↓rSkip, ↓rDrop, ↓rCons, ↓rNil, ↓rTup, ↓rLst, ↓rCallB, ↓rAndV, ↓rOrV, ↓rNotV, ↓rNot, ↓rAnd, ↓rOr, ↓rIfE, ↓rBm, ↓rBm0, ↓rSl, ↓oNone, ↓oSome, ↓gIx, ↓gTup', ↓gCons', ↓gNil', ↓rCall, ↓rCallK, ↓rCallDf, ↓rTr, ↓rPar, ↓rTrL, ↓rPar3, ↓rLkD, ↓rLkS, ↓rCv, ↓rNever, ↓rBreak, ↓rCont, ↓i2, ↓i20, ↓b20, ↓rYes, wipeE, ↓negD, ↓endOf, ↓DL.envOf, List.map_cons, List.map_nil, List.cons_append, List.nil_append, List.length_cons, List.length_nil, List.replicate, List.getElem?_cons_zero, List.getElem?_cons_succ, List.set_cons_zero, List.set_cons_succ, Nat.zero_add, Nat.reduceAdd, Nat.reduceSub, ↓reduceIte, Bool.false_eq_true, Bool.xor_false, Bool.false_xor, Bool.true_xor, Bool.not_true, Bool.not_false, if_true, if_false, decide_true, decide_false]
          refine ⟨trivial, take_at x3 hb2 (by omega) (by decide) (by decide) fun tq bq Sq tq0 tq1 hbq xq kq => ?_⟩
          have hcq := (kq pc hpca).trans hc3
          have hfq := (kq pf hfa).trans hf3
          have hoq := (kq po hoa).trans ho3
          have hbq' : ShedV (N + 100 + 4 * (i + 1)) bq := hbq.mono (by omega)
          simp only [↓rSeq, ↓rAsg, ↓gN, ↓rRet, ↓rRetN, ↓rIf, ↓rBin, ↓rUn, ↓rB, ↓rChain, ↓rC, ↓rVar_zero, ↓rVar_succ, ↓rSkip, ↓rDrop, ↓rCons, ↓rNil, ↓rTup, ↓rLst, ↓rCallB, ↓rAndV, ↓rOrV, ↓rNotV, ↓rNot, ↓rAnd, ↓rOr, ↓rIfE, ↓rBm, ↓rBm0, ↓rSl, ↓oNone, ↓oSome, ↓gIx, ↓gTup', ↓gCons', ↓gNil', ↓rCall, ↓rCallK, ↓rCallDf, ↓rTr, ↓rPar, ↓rTrL, ↓rPar3, ↓rLkD, ↓rLkS, ↓rCv, ↓rNever, ↓rBreak, ↓rCont, ↓i2, ↓i20, ↓b20, ↓rYes, wipeE, ↓negD, ↓endOf, ↓DL.envOf, List.map_cons, List.map_nil, List.cons_append, List.nil_append, List.length_cons, List.length_nil, List.replicate, List.getElem?_cons_zero, List.getElem?_cons_succ, List.set_cons_zero, List.set_cons_succ, Nat.zero_add, Nat.reduceAdd, Nat.reduceSub, ↓reduceIte, Bool.false_eq_true, Bool.xor_false, Bool.false_xor, Bool.true_xor, Bool.not_true, Bool.not_false, if_true, if_false, decide_true, decide_false]
          by_cases tz : 0 < tq
          · rw [if_pos (by simpa using tz)]
            rw [List.map_append] at hfq
            refine ixD_at (seq_ref hfq) (atI_last (d := D.int g)) ?_
            rw [← List.map_append (f := D.int) (l₁ := gs) (l₂ := [g])] at hfq
            exact app bq g Sq hbq' xq hcq hfq hoq (cf g (by simp))
          · rw [if_neg (by simpa using tz)]
            exact app bq c Sq hbq' xq hcq hfq hoq hcar2
      · simp only [w6, decide_false, Bool.xor_false]
        exact app b2 c S2 hb2' x2 hc2 hf2 ho2 hcar2
    have hbB' : ShedV (N + 100 + 4 * i + 3) bB := hbB.mono (by omega)
    refine if_gen fun B4 hB4 => ?_
    simp only [↓rSeq, ↓rAsg, ↓gN, ↓rRet, ↓rRetN, ↓rIf, ↓rBin, ↓rUn, ↓rB, ↓rChain, ↓rC, ↓rVar_zero, ↓rVar_succ, ↓rSkip, ↓rDrop, ↓rCons, ↓rNil, ↓rTup, ↓rLst, ↓rCallB, ↓rAndV, ↓rOrV, ↓rNotV, ↓rNot, ↓rAnd, ↓rOr, ↓rIfE, ↓rBm, ↓rBm0, ↓rSl, ↓oNone, ↓oSome, ↓gIx, ↓gTup', ↓gCons', ↓gNil', ↓rCall, ↓rCallK, ↓rCallDf, ↓rTr, ↓rPar, ↓rTrL, ↓rPar3, ↓rLkD, ↓rLkS, ↓rCv, ↓rNever, ↓rBreak, ↓rCont, ↓i2, ↓i20, ↓b20, ↓rYes, wipeE, ↓negD, ↓endOf, ↓DL.envOf, List.map_cons, List.map_nil, List.cons_append, List.nil_append, List.length_cons, List.length_nil, List.replicate, List.getElem?_cons_zero, List.getElem?_cons_succ, List.set_cons_zero, List.set_cons_succ, Nat.zero_add, Nat.reduceAdd, Nat.reduceSub, ↓reduceIte, Bool.false_eq_true, Bool.xor_false, Bool.false_xor, Bool.true_xor, Bool.not_true, Bool.not_false, if_true, if_false, decide_true, decide_false]
    refine eq_int ?_
    simp only [↓rSeq, ↓rAsg, ↓gN, ↓rRet, ↓rRetN, ↓rIf, ↓rBin, ↓rUn, ↓rB, ↓rChain, ↓rC, ↓rVar_zero, ↓rVar_succ, ↓rSkip, ↓rDrop, ↓rCons, ↓rNil, ↓rTup, ↓rLst, ↓rCallB, ↓rAndV, ↓rOrV, ↓rNotV, ↓rNot, ↓rAnd, ↓rOr, ↓rIfE, ↓rBm, ↓rBm0, ↓rSl, ↓oNone, ↓oSome, ↓gIx, ↓gTup', ↓gCons', ↓gNil', ↓rCall, ↓rCallK, ↓rCallDf, ↓rTr, ↓rPar, ↓rTrL, ↓rPar3, ↓rLkD, ↓rLkS, ↓rCv, ↓rNever, ↓rBreak, ↓rCont, ↓i2, ↓i20, ↓b20, ↓rYes, wipeE, ↓negD, ↓endOf, ↓DL.envOf, List.map_cons, List.map_nil, List.cons_append, List.nil_append, List.length_cons, List.length_nil, List.replicate, List.getElem?_cons_zero, List.getElem?_cons_succ, List.set_cons_zero, List.set_cons_succ, Nat.zero_add, Nat.reduceAdd, Nat.reduceSub, ↓reduceIte, Bool.false_eq_true, Bool.xor_false, Bool.false_xor, Bool.true_xor, Bool.not_true, Bool.not_false, if_true, if_false, decide_true, decide_false]
    by_cases w4 : way = 4
    · rw [w4] at tail
      simp only [w4, decide_true, Bool.xor_false, Bool.false_xor]
      rw [if_pos trivial]
      subst hB4
      refine seq_gen fun N3 hN3 => ?_
      simp only [↓rSeq, ↓rAsg, ↓gN, ↓rRet, ↓rRetN, ↓rIf, ↓rBin, ↓rUn, ↓rB, ↓rChain, ↓rC, ↓rVar_zero, ↓rVar_succ, ↓rSkip, ↓rDrop, ↓rCons, ↓rNil, ↓rTup, ↓rLst, ↓rCallB, ↓rAndV, ↓rOrV, ↓rNotV, ↓rNot, ↓rAnd, ↓rOr, ↓rIfE, ↓rBm, ↓rBm0, ↓rSl, ↓oNone, ↓oSome, ↓gIx, ↓gTup', ↓gCons', ↓gNil', ↓rCall, ↓rCallK, ↓rCallDf, ↓rTr, ↓rPar, ↓rTrL, ↓rPar3, ↓rLkD, ↓rLkS, ↓rCv, ↓rNever, ↓rBreak, ↓rCont, ↓i2, ↓i20, ↓b20, ↓rYes, wipeE, ↓negD, ↓endOf, ↓DL.envOf, List.map_cons, List.map_nil, List.cons_append, List.nil_append, List.length_cons, List.length_nil, List.replicate, List.getElem?_cons_zero, List.getElem?_cons_succ, List.set_cons_zero, List.set_cons_succ, Nat.zero_add, Nat.reduceAdd, Nat.reduceSub, ↓reduceIte, Bool.false_eq_true, Bool.xor_false, Bool.false_xor, Bool.true_xor, Bool.not_true, Bool.not_false, if_true, if_false, decide_true, decide_false]
      refine comp_fm (xs := cl.map D.int) (G := fun S => S pc = some (.lst (cl.map D.int))) (fun d => match d with | .int i => !decide (i ∈ fs) | _ => false) id (fun K h => iSeq_ref (fun K' h' => by simp only [↓rSeq, ↓rAsg, ↓gN, ↓rRet, ↓rRetN, ↓rIf, ↓rBin, ↓rUn, ↓rB, ↓rChain, ↓rC, ↓rVar_zero, ↓rVar_succ, ↓rSkip, ↓rDrop, ↓rCons, ↓rNil, ↓rTup, ↓rLst, ↓rCallB, ↓rAndV, ↓rOrV, ↓rNotV, ↓rNot, ↓rAnd, ↓rOr, ↓rIfE, ↓rBm, ↓rBm0, ↓rSl, ↓oNone, ↓oSome, ↓gIx, ↓gTup', ↓gCons', ↓gNil', ↓rCall, ↓rCallK, ↓rCallDf, ↓rTr, ↓rPar, ↓rTrL, ↓rPar3, ↓rLkD, ↓rLkS, ↓rCv, ↓rNever, ↓rBreak, ↓rCont, ↓i2, ↓i20, ↓b20, ↓rYes, wipeE, ↓negD, ↓endOf, ↓DL.envOf, List.map_cons, List.map_nil, List.cons_append, List.nil_append, List.length_cons, List.length_nil, List.replicate, List.getElem?_cons_zero, List.getElem?_cons_succ, List.set_cons_zero, List.set_cons_succ, Nat.zero_add, Nat.reduceAdd, Nat.reduceSub, ↓reduceIte, Bool.false_eq_true, Bool.xor_false, Bool.false_xor, Bool.true_xor, Bool.not_true, Bool.not_false, if_true, if_false, decide_true, decide_false]; exact h') hcB h) hcB ?_ (fun y hy kt kf g1 g2 => ?_) fun p3 hp3 => ?_
      · rw [List.length_map]; exact Nat.le_trans (show _ ≤ 60 by omega) (by decide)
      · obtain ⟨n, _, rfl⟩ := mem_ints hy
        simp only [↓rSeq, ↓rAsg, ↓gN, ↓rRet, ↓rRetN, ↓rIf, ↓rBin, ↓rUn, ↓rB, ↓rChain, ↓rC, ↓rVar_zero, ↓rVar_succ, ↓rSkip, ↓rDrop, ↓rCons, ↓rNil, ↓rTup, ↓rLst, ↓rCallB, ↓rAndV, ↓rOrV, ↓rNotV, ↓rNot, ↓rAnd, ↓rOr, ↓rIfE, ↓rBm, ↓rBm0, ↓rSl, ↓oNone, ↓oSome, ↓gIx, ↓gTup', ↓gCons', ↓gNil', ↓rCall, ↓rCallK, ↓rCallDf, ↓rTr, ↓rPar, ↓rTrL, ↓rPar3, ↓rLkD, ↓rLkS, ↓rCv, ↓rNever, ↓rBreak, ↓rCont, ↓i2, ↓i20, ↓b20, ↓rYes, wipeE, ↓negD, ↓endOf, ↓DL.envOf, List.map_cons, List.map_nil, List.cons_append, List.nil_append, List.length_cons, List.length_nil, List.replicate, List.getElem?_cons_zero, List.getElem?_cons_succ, List.set_cons_zero, List.set_cons_succ, Nat.zero_add, Nat.reduceAdd, Nat.reduceSub, ↓reduceIte, Bool.false_eq_true, Bool.xor_false, Bool.false_xor, Bool.true_xor, Bool.not_true, Bool.not_false, if_true, if_false, decide_true, decide_false]
        refine inD_int (seq_ref hfB) ?_
        simp only [↓rSeq, ↓rAsg, ↓gN, ↓rRet, ↓rRetN, ↓rIf, ↓rBin, ↓rUn, ↓rB, ↓rChain, ↓rC, ↓rVar_zero, ↓rVar_succ, ↓rSkip, ↓rDrop, ↓rCons, ↓rNil, ↓rTup, ↓rLst, ↓rCallB, ↓rAndV, ↓rOrV, ↓rNotV, ↓rNot, ↓rAnd, ↓rOr, ↓rIfE, ↓rBm, ↓rBm0, ↓rSl, ↓oNone, ↓oSome, ↓gIx, ↓gTup', ↓gCons', ↓gNil', ↓rCall, ↓rCallK, ↓rCallDf, ↓rTr, ↓rPar, ↓rTrL, ↓rPar3, ↓rLkD, ↓rLkS, ↓rCv, ↓rNever, ↓rBreak, ↓rCont, ↓i2, ↓i20, ↓b20, ↓rYes, wipeE, ↓negD, ↓endOf, ↓DL.envOf, List.map_cons, List.map_nil, List.cons_append, List.nil_append, List.length_cons, List.length_nil, List.replicate, List.getElem?_cons_zero, List.getElem?_cons_succ, List.set_cons_zero, List.set_cons_succ, Nat.zero_add, Nat.reduceAdd, Nat.reduceSub, ↓reduceIte, Bool.false_eq_true, Bool.xor_false, Bool.false_xor, Bool.true_xor, Bool.not_true, Bool.not_false, if_true, if_false, decide_true, decide_false]
        by_cases h : n ∈ fs
        · rw [if_neg (by simpa using h)]; exact g2 (by simpa using h)
        · rw [if_pos (by simpa using h)]; exact g1 (by simpa using h)
      have ef : ((cl.map D.int).filter (fun d => match d with | .int i => !decide (i ∈ fs) | _ => false)).map id = (cl.filter fun i => !decide (i ∈ fs)).map D.int := by
        rw [List.map_id, List.filter_map]; rfl
      rw [ef]
      have gin : ∀ x ∈ cl.filter (fun i => !decide (i ∈ fs)), Car x := fun x hx => clc x (List.mem_filter.mp hx).1
      have gnil : cl.filter (fun i => !decide (i ∈ fs)) = [] → 1 ≤ fs.length := fun e => by
        cases cl with
        | nil => simp at cl60
        | cons x xs =>
          have := List.filter_eq_nil_iff.mp e x (List.mem_cons_self ..)
          have m : x ∈ fs := by simpa using this
          exact List.length_pos_of_mem m
      revert gin gnil
      generalize cl.filter (fun i => !decide (i ∈ fs)) = gr
      intro gin gnil
      have xC := xB.new (o := .lst (gr.map D.int)) hp3
      have hcC := old_new (o := .lst (gr.map D.int)) hp3 hcB
      have hfC := old_new (o := .lst (gr.map D.int)) hp3 hfB
      have hoC := old_new (o := .lst (gr.map D.int)) hp3 hoB
      have hgC : (SB.upd p3 (.lst (gr.map D.int))) p3 = some (.lst (gr.map D.int)) := Sto.upd_same
      have hga := xB.ne hp3
      revert xC hcC hfC hoC hgC
      generalize SB.upd p3 (.lst (gr.map D.int)) = SC
      intro xC hcC hfC hoC hgC
      subst hN3
      -- must
      refine seq_gen fun N3 hN3 => ?_
      have must : ∀ (mu : Bool) (S2 : Sto), Ex a S bB S2 → S2 pc = some (.lst (cl.map D.int)) → S2 pf = some (.lst (fs.map D.int)) → S2 po = some (.lst (os.map D.int)) → S2 p3 = some (.lst (gr.map D.int)) →
          N3 [some (.ref a), some (.int m), some (.int many), some (.ref pc), some (.int (i : Nat)), some (.int 4), some (.int (1 + t5)), some (.ref pf), some (.ref po), o9, some (.int wd), some (.int car), some (.ref p3), some (.bl mu), o14, o15] S2 := by
        intro mu S2 x2 hc2 hf2 ho2 hg2
        subst hN3
        refine seq_gen fun N3 hN3 => ?_
        have closes : ∀ (cz : Bool) (b3 : List D) (S3 : Sto), (cz = true → os ≠ []) → ShedV (N + 100 + 4 * i + 2) b3 → Ex a S b3 S3 → S3 pc = some (.lst (cl.map D.int)) → S3 pf = some (.lst (fs.map D.int)) → S3 po = some (.lst (os.map D.int)) → S3 p3 = some (.lst (gr.map D.int)) →
            N3 [some (.ref a), some (.int m), some (.int many), some (.ref pc), some (.int (i : Nat)), some (.int 4), some (.int (1 + t5)), some (.ref pf), some (.ref po), o9, some (.int wd), some (.int car), some (.ref p3), some (.bl mu), some (.bl cz), o15] S3 := by
          intro cz b3 S3 ocz hb3 x3 hc3 hf3 ho3 hg3
          subst hN3
          refine seq_gen fun N3 hN3 => ?_
          have go : ∀ (S4 : Sto), (cz = false → gr ≠ []) → Ex a S b3 S4 → S4 pc = some (.lst (cl.map D.int)) → S4 pf = some (.lst (fs.map D.int)) → S4 po = some (.lst (os.map D.int)) → S4 p3 = some (.lst (gr.map D.int)) →
              N3 [some (.ref a), some (.int m), some (.int many), some (.ref pc), some (.int (i : Nat)), some (.int 4), some (.int (1 + t5)), some (.ref pf), some (.ref po), o9, some (.int wd), some (.int car), some (.ref p3), some (.bl mu), some (.bl cz), o15] S4 := by
            intro S4 gcz x4 hc4 hf4 ho4 hg4
            subst hN3
            refine seq_gen fun N3 hN3 => ?_
            simp only [↓rSeq, ↓rAsg, ↓gN, ↓rRet, ↓rRetN, ↓rIf, ↓rBin, ↓rUn, ↓rB, ↓rChain, ↓rC, ↓rVar_zero, ↓rVar_succ, ↓rSkip, ↓rDrop, ↓rCons, ↓rNil, ↓rTup, ↓rLst, ↓rCallB, ↓rAndV, ↓rOrV, ↓rNotV, ↓rNot, ↓rAnd, ↓rOr, ↓rIfE, ↓rBm, ↓rBm0, ↓rSl, ↓oNone, ↓oSome, ↓gIx, ↓gTup', ↓gCons', ↓gNil', ↓rCall, ↓rCallK, ↓rCallDf, ↓rTr, ↓rPar, ↓rTrL, ↓rPar3, ↓rLkD, ↓rLkS, ↓rCv, ↓rNever, ↓rBreak, ↓rCont, ↓i2, ↓i20, ↓b20, ↓rYes, wipeE, ↓negD, ↓endOf, ↓DL.envOf, List.map_cons, List.map_nil, List.cons_append, List.nil_append, List.length_cons, List.length_nil, List.replicate, List.getElem?_cons_zero, List.getElem?_cons_succ, List.set_cons_zero, List.set_cons_succ, Nat.zero_add, Nat.reduceAdd, Nat.reduceSub, ↓reduceIte, Bool.false_eq_true, Bool.xor_false, Bool.false_xor, Bool.true_xor, Bool.not_true, Bool.not_false, if_true, if_false, decide_true, decide_false]
            cases cz with
            | true =>
              rw [if_pos rfl]
              rcases last_ex os with rfl | ⟨gs, g, rfl⟩
              · exact absurd rfl (ocz rfl)
              refine ⟨tyD_lst ho4, ?_⟩
              unfold popD
              simp only [ho4]
              refine ⟨gs.map D.int, .int g, by rw [List.map_append]; rfl, ?_⟩
              subst hN3
              simp only [↓rSeq, ↓rAsg, ↓gN, ↓rRet, ↓rRetN, ↓rIf, ↓rBin, ↓rUn, ↓rB, ↓rChain, ↓rC, ↓rVar_zero, ↓rVar_succ, ↓rSkip, ↓rDrop, ↓rCons, ↓rNil, ↓rTup, ↓rLst, ↓rCallB, ↓rAndV, ↓rOrV, ↓rNotV, ↓rNot, ↓rAnd, ↓rOr, ↓rIfE, ↓rBm, ↓rBm0, ↓rSl, ↓oNone, ↓oSome, ↓gIx, ↓gTup', ↓gCons', ↓gNil', ↓rCall, ↓rCallK, ↓rCallDf, ↓rTr, ↓rPar, ↓rTrL, ↓rPar3, ↓rLkD, ↓rLkS, ↓rCv, ↓rNever, ↓rBreak, ↓rCont, ↓i2, ↓i20, ↓b20, ↓rYes, wipeE, ↓negD, ↓endOf, ↓DL.envOf, List.map_cons, List.map_nil, List.cons_append, List.nil_append, List.length_cons, List.length_nil, List.replicate, List.getElem?_cons_zero, List.getElem?_cons_succ, List.set_cons_zero, List.set_cons_succ, Nat.zero_add, Nat.reduceAdd, Nat.reduceSub, ↓reduceIte, Bool.false_eq_true, Bool.xor_false, Bool.false_xor, Bool.true_xor, Bool.not_true, Bool.not_false, if_true, if_false, decide_true, decide_false]
              rw [List.length_append] at lo
              refine tail b3 g gs _ _ _ _ _ (hb3.mono (by omega)) (x4.mod so hoa) ?_ ?_ Sto.upd_same (by omega) (co g (by simp)) fun x hx => co x (by simp [hx])
              · rw [Sto.upd_ne hco]; exact hc4
              · rw [Sto.upd_ne hfo]; exact hf4
            | false =>
              rw [if_neg (by decide)]
              cases gr with
              | nil => exact absurd rfl (gcz rfl)
              | cons g0 gr =>
                refine ixD_at (seq_ref hg4) (d := .int g0) atI_head ?_
                have cg := gin g0 (List.mem_cons_self ..)
                subst hN3
                simp only [↓rSeq, ↓rAsg, ↓gN, ↓rRet, ↓rRetN, ↓rIf, ↓rBin, ↓rUn, ↓rB, ↓rChain, ↓rC, ↓rVar_zero, ↓rVar_succ, ↓rSkip, ↓rDrop, ↓rCons, ↓rNil, ↓rTup, ↓rLst, ↓rCallB, ↓rAndV, ↓rOrV, ↓rNotV, ↓rNot, ↓rAnd, ↓rOr, ↓rIfE, ↓rBm, ↓rBm0, ↓rSl, ↓oNone, ↓oSome, ↓gIx, ↓gTup', ↓gCons', ↓gNil', ↓rCall, ↓rCallK, ↓rCallDf, ↓rTr, ↓rPar, ↓rTrL, ↓rPar3, ↓rLkD, ↓rLkS, ↓rCv, ↓rNever, ↓rBreak, ↓rCont, ↓i2, ↓i20, ↓b20, ↓rYes, wipeE, ↓negD, ↓endOf, ↓DL.envOf, List.map_cons, List.map_nil, List.cons_append, List.nil_append, List.length_cons, List.length_nil, List.replicate, List.getElem?_cons_zero, List.getElem?_cons_succ, List.set_cons_zero, List.set_cons_succ, Nat.zero_add, Nat.reduceAdd, Nat.reduceSub, ↓reduceIte, Bool.false_eq_true, Bool.xor_false, Bool.false_xor, Bool.true_xor, Bool.not_true, Bool.not_false, if_true, if_false, decide_true, decide_false]
                refine ⟨trivial, take_at x4 hb3 (by omega) (by decide) (by decide) fun tq bq Sq tq0 tq1 hbq xq kq => ?_⟩
                have hcq := (kq pc hpca).trans hc4
                have hfq := (kq pf hfa).trans hf4
                have hoq := (kq po hoa).trans ho4
                simp only [↓rSeq, ↓rAsg, ↓gN, ↓rRet, ↓rRetN, ↓rIf, ↓rBin, ↓rUn, ↓rB, ↓rChain, ↓rC, ↓rVar_zero, ↓rVar_succ, ↓rSkip, ↓rDrop, ↓rCons, ↓rNil, ↓rTup, ↓rLst, ↓rCallB, ↓rAndV, ↓rOrV, ↓rNotV, ↓rNot, ↓rAnd, ↓rOr, ↓rIfE, ↓rBm, ↓rBm0, ↓rSl, ↓oNone, ↓oSome, ↓gIx, ↓gTup', ↓gCons', ↓gNil', ↓rCall, ↓rCallK, ↓rCallDf, ↓rTr, ↓rPar, ↓rTrL, ↓rPar3, ↓rLkD, ↓rLkS, ↓rCv, ↓rNever, ↓rBreak, ↓rCont, ↓i2, ↓i20, ↓b20, ↓rYes, wipeE, ↓negD, ↓endOf, ↓DL.envOf, List.map_cons, List.map_nil, List.cons_append, List.nil_append, List.length_cons, List.length_nil, List.replicate, List.getElem?_cons_zero, List.getElem?_cons_succ, List.set_cons_zero, List.set_cons_succ, Nat.zero_add, Nat.reduceAdd, Nat.reduceSub, ↓reduceIte, Bool.false_eq_true, Bool.xor_false, Bool.false_xor, Bool.true_xor, Bool.not_true, Bool.not_false, if_true, if_false, decide_true, decide_false]
                by_cases tz : 0 < tq
                · rw [if_pos (by simpa using tz)]
                  refine ⟨tyD_lst hoq, app_ref hoq (by rw [List.length_map]; exact Nat.lt_of_le_of_lt (show _ ≤ 200 by omega) (by decide)) ?_⟩
                  refine tail bq g0 (os ++ [g0]) _ _ _ _ _ hbq (xq.mod so hoa) ?_ ?_ ?_ (by rw [List.length_append]; simp only [List.length_singleton]; omega) cg fun x hx => ?_
                  · rw [Sto.upd_ne hco]; exact hcq
                  · rw [Sto.upd_ne hfo]; exact hfq
                  · rw [Sto.upd_same, List.map_append]; rfl
                  · rcases List.mem_append.mp hx with z | z
                    · exact co x z
                    · rw [List.mem_singleton.mp z]; exact cg
                · rw [if_neg (by simpa using tz)]
                  exact tail bq g0 os Sq _ _ _ _ hbq xq hcq hfq hoq (by omega) cg co
          simp only [↓rSeq, ↓rAsg, ↓gN, ↓rRet, ↓rRetN, ↓rIf, ↓rBin, ↓rUn, ↓rB, ↓rChain, ↓rC, ↓rVar_zero, ↓rVar_succ, ↓rSkip, ↓rDrop, ↓rCons, ↓rNil, ↓rTup, ↓rLst, ↓rCallB, ↓rAndV, ↓rOrV, ↓rNotV, ↓rNot, ↓rAnd, ↓rOr, ↓rIfE, ↓rBm, ↓rBm0, ↓rSl, ↓oNone, ↓oSome, ↓gIx, ↓gTup', ↓gCons', ↓gNil', ↓rCall, ↓rCallK, ↓rCallDf, ↓rTr, ↓rPar, ↓rTrL, ↓rPar3, ↓rLkD, ↓rLkS, ↓rCv, ↓rNever, ↓rBreak, ↓rCont, ↓i2, ↓i20, ↓b20, ↓rYes, wipeE, ↓negD, ↓endOf, ↓DL.envOf, List.map_cons, List.map_nil, List.cons_append, List.nil_append, List.length_cons, List.length_nil, List.replicate, List.getElem?_cons_zero, List.getElem?_cons_succ, List.set_cons_zero, List.set_cons_succ, Nat.zero_add, Nat.reduceAdd, Nat.reduceSub, ↓reduceIte, Bool.false_eq_true, Bool.xor_false, Bool.false_xor, Bool.true_xor, Bool.not_true, Bool.not_false, if_true, if_false, decide_true, decide_false]
          cases cz with
          | true =>
            rw [if_neg (by decide)]
            exact go S3 (fun e => by cases e) x3 hc3 hf3 ho3 hg3
          | false =>
            rw [if_pos (by decide)]
            refine ⟨by decide, fun p4 hp4 => ?_⟩
            have x4 := x3.new (o := .lst []) hp4
            have hc4 := old_new (o := .lst []) hp4 hc3
            have hf4 := old_new (o := .lst []) hp4 hf3
            have ho4 := old_new (o := .lst []) hp4 ho3
            have hg4 := old_new (o := .lst []) hp4 hg3
            refine nil_at hg4 Sto.upd_same ?_
            cases gr with
            | nil =>
              simp only [↓rSeq, ↓rAsg, ↓gN, ↓rRet, ↓rRetN, ↓rIf, ↓rBin, ↓rUn, ↓rB, ↓rChain, ↓rC, ↓rVar_zero, ↓rVar_succ, ↓rSkip, ↓rDrop, ↓rCons, ↓rNil, ↓rTup, ↓rLst, ↓rCallB, ↓rAndV, ↓rOrV, ↓rNotV, ↓rNot, ↓rAnd, ↓rOr, ↓rIfE, ↓rBm, ↓rBm0, ↓rSl, ↓oNone, ↓oSome, ↓gIx, ↓gTup', ↓gCons', ↓gNil', ↓rCall, ↓rCallK, ↓rCallDf, ↓rTr, ↓rPar, ↓rTrL, ↓rPar3, ↓rLkD, ↓rLkS, ↓rCv, ↓rNever, ↓rBreak, ↓rCont, ↓i2, ↓i20, ↓b20, ↓rYes, wipeE, ↓negD, ↓endOf, ↓DL.envOf, List.map_cons, List.map_nil, List.cons_append, List.nil_append, List.length_cons, List.length_nil, List.replicate, List.getElem?_cons_zero, List.getElem?_cons_succ, List.set_cons_zero, List.set_cons_succ, Nat.zero_add, Nat.reduceAdd, Nat.reduceSub, ↓reduceIte, Bool.false_eq_true, Bool.xor_false, Bool.false_xor, Bool.true_xor, Bool.not_true, Bool.not_false, if_true, if_false, decide_true, decide_false]
              rw [if_pos List.isEmpty_nil]
              refine tuple_lst hf4 ?_
              exact fin _ b3 fs (hb3.mono (by omega)) x4 ⟨cf, gnil rfl, by omega⟩
            | cons g0 gr =>
              simp only [↓rSeq, ↓rAsg, ↓gN, ↓rRet, ↓rRetN, ↓rIf, ↓rBin, ↓rUn, ↓rB, ↓rChain, ↓rC, ↓rVar_zero, ↓rVar_succ, ↓rSkip, ↓rDrop, ↓rCons, ↓rNil, ↓rTup, ↓rLst, ↓rCallB, ↓rAndV, ↓rOrV, ↓rNotV, ↓rNot, ↓rAnd, ↓rOr, ↓rIfE, ↓rBm, ↓rBm0, ↓rSl, ↓oNone, ↓oSome, ↓gIx, ↓gTup', ↓gCons', ↓gNil', ↓rCall, ↓rCallK, ↓rCallDf, ↓rTr, ↓rPar, ↓rTrL, ↓rPar3, ↓rLkD, ↓rLkS, ↓rCv, ↓rNever, ↓rBreak, ↓rCont, ↓i2, ↓i20, ↓b20, ↓rYes, wipeE, ↓negD, ↓endOf, ↓DL.envOf, List.map_cons, List.map_nil, List.cons_append, List.nil_append, List.length_cons, List.length_nil, List.replicate, List.getElem?_cons_zero, List.getElem?_cons_succ, List.set_cons_zero, List.set_cons_succ, Nat.zero_add, Nat.reduceAdd, Nat.reduceSub, ↓reduceIte, Bool.false_eq_true, Bool.xor_false, Bool.false_xor, Bool.true_xor, Bool.not_true, Bool.not_false, if_true, if_false, decide_true, decide_false]
              exact go _ (fun _ => List.cons_ne_nil _ _) x4 hc4 hf4 ho4 hg4
        simp only [↓rSeq, ↓rAsg, ↓gN, ↓rRet, ↓rRetN, ↓rIf, ↓rBin, ↓rUn, ↓rB, ↓rChain, ↓rC, ↓rVar_zero, ↓rVar_succ, ↓rSkip, ↓rDrop, ↓rCons, ↓rNil, ↓rTup, ↓rLst, ↓rCallB, ↓rAndV, ↓rOrV, ↓rNotV, ↓rNot, ↓rAnd, ↓rOr, ↓rIfE, ↓rBm, ↓rBm0, ↓rSl, ↓oNone, ↓oSome, ↓gIx, ↓gTup', ↓gCons', ↓gNil', ↓rCall, ↓rCallK, ↓rCallDf, ↓rTr, ↓rPar, ↓rTrL, ↓rPar3, ↓rLkD, ↓rLkS, ↓rCv, ↓rNever, ↓rBreak, ↓rCont, ↓i2, ↓i20, ↓b20, ↓rYes, wipeE, ↓negD, ↓endOf, ↓DL.envOf, List.map_cons, List.map_nil, List.cons_append, List.nil_append, List.length_cons, List.length_nil, List.replicate, List.getElem?_cons_zero, List.getElem?_cons_succ, List.set_cons_zero, List.set_cons_succ, Nat.zero_add, Nat.reduceAdd, Nat.reduceSub, ↓reduceIte, Bool.false_eq_true, Bool.xor_false, Bool.false_xor, Bool.true_xor, Bool.not_true, Bool.not_false, if_true, if_false, decide_true, decide_false]
        refine ⟨by decide, fun p4 hp4 => ?_⟩
        have x4 := x2.new (o := .lst []) hp4
        have hc4 := old_new (o := .lst []) hp4 hc2
        have hf4 := old_new (o := .lst []) hp4 hf2
        have ho4 := old_new (o := .lst []) hp4 ho2
        have hg4 := old_new (o := .lst []) hp4 hg2
        refine nil_at ho4 Sto.upd_same ?_
        cases os with
        | nil =>
          simp only [↓rSeq, ↓rAsg, ↓gN, ↓rRet, ↓rRetN, ↓rIf, ↓rBin, ↓rUn, ↓rB, ↓rChain, ↓rC, ↓rVar_zero, ↓rVar_succ, ↓rSkip, ↓rDrop, ↓rCons, ↓rNil, ↓rTup, ↓rLst, ↓rCallB, ↓rAndV, ↓rOrV, ↓rNotV, ↓rNot, ↓rAnd, ↓rOr, ↓rIfE, ↓rBm, ↓rBm0, ↓rSl, ↓oNone, ↓oSome, ↓gIx, ↓gTup', ↓gCons', ↓gNil', ↓rCall, ↓rCallK, ↓rCallDf, ↓rTr, ↓rPar, ↓rTrL, ↓rPar3, ↓rLkD, ↓rLkS, ↓rCv, ↓rNever, ↓rBreak, ↓rCont, ↓i2, ↓i20, ↓b20, ↓rYes, wipeE, ↓negD, ↓endOf, ↓DL.envOf, List.map_cons, List.map_nil, List.cons_append, List.nil_append, List.length_cons, List.length_nil, List.replicate, List.getElem?_cons_zero, List.getElem?_cons_succ, List.set_cons_zero, List.set_cons_succ, Nat.zero_add, Nat.reduceAdd, Nat.reduceSub, ↓reduceIte, Bool.false_eq_true, Bool.xor_false, Bool.false_xor, Bool.true_xor, Bool.not_true, Bool.not_false, if_true, if_false, decide_true, decide_false]
          exact closes false bB _ (fun e => by cases e) (hbB.mono (by omega)) x4 hc4 hf4 ho4 hg4
        | cons g0 os =>
          simp only [↓rSeq, ↓rAsg, ↓gN, ↓rRet, ↓rRetN, ↓rIf, ↓rBin, ↓rUn, ↓rB, ↓rChain, ↓rC, ↓rVar_zero, ↓rVar_succ, ↓rSkip, ↓rDrop, ↓rCons, ↓rNil, ↓rTup, ↓rLst, ↓rCallB, ↓rAndV, ↓rOrV, ↓rNotV, ↓rNot, ↓rAnd, ↓rOr, ↓rIfE, ↓rBm, ↓rBm0, ↓rSl, ↓oNone, ↓oSome, ↓gIx, ↓gTup', ↓gCons', ↓gNil', ↓rCall, ↓rCallK, ↓rCallDf, ↓rTr, ↓rPar, ↓rTrL, ↓rPar3, ↓rLkD, ↓rLkS, ↓rCv, ↓rNever, ↓rBreak, ↓rCont, ↓i2, ↓i20, ↓b20, ↓rYes, wipeE, ↓negD, ↓endOf, ↓DL.envOf, List.map_cons, List.map_nil, List.cons_append, List.nil_append, List.length_cons, List.length_nil, List.replicate, List.getElem?_cons_zero, List.getElem?_cons_succ, List.set_cons_zero, List.set_cons_succ, Nat.zero_add, Nat.reduceAdd, Nat.reduceSub, ↓reduceIte, Bool.false_eq_true, Bool.xor_false, Bool.false_xor, Bool.true_xor, Bool.not_true, Bool.not_false, if_true, if_false, decide_true, decide_false]
          refine ⟨trivial, take_at x4 hbB (by omega) (by decide) (by decide) fun tq bq Sq tq0 tq1 hbq xq kq => eq_int ?_⟩
          have hcq := (kq pc hpca).trans hc4
          have hfq := (kq pf hfa).trans hf4
          have hoq := (kq po hoa).trans ho4
          have hgq := (kq p3 hga).trans hg4
          by_cases tz : tq = 0
          · simp only [tz, decide_true, Bool.xor_false, Bool.false_xor]
            exact closes true bq Sq (fun _ => List.cons_ne_nil _ _) hbq xq hcq hfq hoq hgq
          · simp only [tz, decide_false, Bool.xor_false]
            exact closes mu bq Sq (fun _ => List.cons_ne_nil _ _) hbq xq hcq hfq hoq hgq
      simp only [↓rSeq, ↓rAsg, ↓gN, ↓rRet, ↓rRetN, ↓rIf, ↓rBin, ↓rUn, ↓rB, ↓rChain, ↓rC, ↓rVar_zero, ↓rVar_succ, ↓rSkip, ↓rDrop, ↓rCons, ↓rNil, ↓rTup, ↓rLst, ↓rCallB, ↓rAndV, ↓rOrV, ↓rNotV, ↓rNot, ↓rAnd, ↓rOr, ↓rIfE, ↓rBm, ↓rBm0, ↓rSl, ↓oNone, ↓oSome, ↓gIx, ↓gTup', ↓gCons', ↓gNil', ↓rCall, ↓rCallK, ↓rCallDf, ↓rTr, ↓rPar, ↓rTrL, ↓rPar3, ↓rLkD, ↓rLkS, ↓rCv, ↓rNever, ↓rBreak, ↓rCont, ↓i2, ↓i20, ↓b20, ↓rYes, wipeE, ↓negD, ↓endOf, ↓DL.envOf, List.map_cons, List.map_nil, List.cons_append, List.nil_append, List.length_cons, List.length_nil, List.replicate, List.getElem?_cons_zero, List.getElem?_cons_succ, List.set_cons_zero, List.set_cons_succ, Nat.zero_add, Nat.reduceAdd, Nat.reduceSub, ↓reduceIte, Bool.false_eq_true, Bool.xor_false, Bool.false_xor, Bool.true_xor, Bool.not_true, Bool.not_false, if_true, if_false, decide_true, decide_false]
      refine ⟨by decide, fun p4 hp4 => ?_⟩
      have x4 := xC.new (o := .lst []) hp4
      have hc4 := old_new (o := .lst []) hp4 hcC
      have hf4 := old_new (o := .lst []) hp4 hfC
      have ho4 := old_new (o := .lst []) hp4 hoC
      have hg4 := old_new (o := .lst []) hp4 hgC
      refine nil_at hg4 Sto.upd_same ?_
      cases gr with
      | nil =>
        simp only [↓rSeq, ↓rAsg, ↓gN, ↓rRet, ↓rRetN, ↓rIf, ↓rBin, ↓rUn, ↓rB, ↓rChain, ↓rC, ↓rVar_zero, ↓rVar_succ, ↓rSkip, ↓rDrop, ↓rCons, ↓rNil, ↓rTup, ↓rLst, ↓rCallB, ↓rAndV, ↓rOrV, ↓rNotV, ↓rNot, ↓rAnd, ↓rOr, ↓rIfE, ↓rBm, ↓rBm0, ↓rSl, ↓oNone, ↓oSome, ↓gIx, ↓gTup', ↓gCons', ↓gNil', ↓rCall, ↓rCallK, ↓rCallDf, ↓rTr, ↓rPar, ↓rTrL, ↓rPar3, ↓rLkD, ↓rLkS, ↓rCv, ↓rNever, ↓rBreak, ↓rCont, ↓i2, ↓i20, ↓b20, ↓rYes, wipeE, ↓negD, ↓endOf, ↓DL.envOf, List.map_cons, List.map_nil, List.cons_append, List.nil_append, List.length_cons, List.length_nil, List.replicate, List.getElem?_cons_zero, List.getElem?_cons_succ, List.set_cons_zero, List.set_cons_succ, Nat.zero_add, Nat.reduceAdd, Nat.reduceSub, ↓reduceIte, Bool.false_eq_true, Bool.xor_false, Bool.false_xor, Bool.true_xor, Bool.not_true, Bool.not_false, if_true, if_false, decide_true, decide_false]
        exact must true _ x4 hc4 hf4 ho4 hg4
      | cons g0 gr =>
        simp only [↓rSeq, ↓rAsg, ↓gN, ↓rRet, ↓rRetN, ↓rIf, ↓rBin, ↓rUn, ↓rB, ↓rChain, ↓rC, ↓rVar_zero, ↓rVar_succ, ↓rSkip, ↓rDrop, ↓rCons, ↓rNil, ↓rTup, ↓rLst, ↓rCallB, ↓rAndV, ↓rOrV, ↓rNotV, ↓rNot, ↓rAnd, ↓rOr, ↓rIfE, ↓rBm, ↓rBm0, ↓rSl, ↓oNone, ↓oSome, ↓gIx, ↓gTup', ↓gCons', ↓gNil', ↓rCall, ↓rCallK, ↓rCallDf, ↓rTr, ↓rPar, ↓rTrL, ↓rPar3, ↓rLkD, ↓rLkS, ↓rCv, ↓rNever, ↓rBreak, ↓rCont, ↓i2, ↓i20, ↓b20, ↓rYes, wipeE, ↓negD, ↓endOf, ↓DL.envOf, List.map_cons, List.map_nil, List.cons_append, List.nil_append, List.length_cons, List.length_nil, List.replicate, List.getElem?_cons_zero, List.getElem?_cons_succ, List.set_cons_zero, List.set_cons_succ, Nat.zero_add, Nat.reduceAdd, Nat.reduceSub, ↓reduceIte, Bool.false_eq_true, Bool.xor_false, Bool.false_xor, Bool.true_xor, Bool.not_true, Bool.not_false, if_true, if_false, decide_true, decide_false]
        refine len_at (seq_ref ho4) ?_
        simp only [↓rSeq, ↓rAsg, ↓gN, ↓rRet, ↓rRetN, ↓rIf, ↓rBin, ↓rUn, ↓rB, ↓rChain, ↓rC, ↓rVar_zero, ↓rVar_succ, ↓rSkip, ↓rDrop, ↓rCons, ↓rNil, ↓rTup, ↓rLst, ↓rCallB, ↓rAndV, ↓rOrV, ↓rNotV, ↓rNot, ↓rAnd, ↓rOr, ↓rIfE, ↓rBm, ↓rBm0, ↓rSl, ↓oNone, ↓oSome, ↓gIx, ↓gTup', ↓gCons', ↓gNil', ↓rCall, ↓rCallK, ↓rCallDf, ↓rTr, ↓rPar, ↓rTrL, ↓rPar3, ↓rLkD, ↓rLkS, ↓rCv, ↓rNever, ↓rBreak, ↓rCont, ↓i2, ↓i20, ↓b20, ↓rYes, wipeE, ↓negD, ↓endOf, ↓DL.envOf, List.map_cons, List.map_nil, List.cons_append, List.nil_append, List.length_cons, List.length_nil, List.replicate, List.getElem?_cons_zero, List.getElem?_cons_succ, List.set_cons_zero, List.set_cons_succ, Nat.zero_add, Nat.reduceAdd, Nat.reduceSub, ↓reduceIte, Bool.false_eq_true, Bool.xor_false, Bool.false_xor, Bool.true_xor, Bool.not_true, Bool.not_false, if_true, if_false, decide_true, decide_false]
        exact must _ _ x4 hc4 hf4 ho4 hg4
    · simp only [w4, decide_false, Bool.xor_false]
      exact tail bB car os SB _ _ _ _ hbB' xB hcB hfB hoB (by omega) hcar co
  · rintro env S' ⟨b', fs, os, o4, o9, o10, o11, o12, o13, o14, o15, hb', hx', hc', hf', ho', lf, lo, cf, co, rfl⟩
    rw [rngD_len] at lf hb'
    subst hN1
    simp only [↓rSeq, ↓rAsg, ↓gN, ↓rRet, ↓rRetN, ↓rIf, ↓rBin, ↓rUn, ↓rB, ↓rChain, ↓rC, ↓rVar_zero, ↓rVar_succ, ↓rSkip, ↓rDrop, ↓rCons, ↓rNil, ↓rTup, ↓rLst, ↓rCallB, ↓rAndV, ↓rOrV, ↓rNotV, ↓rNot, ↓rAnd, ↓rOr, ↓rIfE, ↓rBm, ↓rBm0, ↓rSl, ↓oNone, ↓oSome, ↓gIx, ↓gTup', ↓gCons', ↓gNil', ↓rCall, ↓rCallK, ↓rCallDf, ↓rTr, ↓rPar, ↓rTrL, ↓rPar3, ↓rLkD, ↓rLkS, ↓rCv, ↓rNever, ↓rBreak, ↓rCont, ↓i2, ↓i20, ↓b20, ↓rYes, wipeE, ↓negD, ↓endOf, ↓DL.envOf, List.map_cons, List.map_nil, List.cons_append, List.nil_append, List.length_cons, List.length_nil, List.replicate, List.getElem?_cons_zero, List.getElem?_cons_succ, List.set_cons_zero, List.set_cons_succ, Nat.zero_add, Nat.reduceAdd, Nat.reduceSub, ↓reduceIte, Bool.false_eq_true, Bool.xor_false, Bool.false_xor, Bool.true_xor, Bool.not_true, Bool.not_false, if_true, if_false, decide_true, decide_false]
    exact tuple_lst hf' (fin _ b' fs (hb'.mono (by omega)) hx' ⟨cf, by omega, by omega⟩)
theorem ok_are_calls (T : Txt mg) (F_are_cars : Callee P w K mg base CX0 3 "are_cars" 1 c_are_cars) (hdef : DefAt K mg "are_calls" s_are_calls ["value"]) : Callee P w K mg base CX0 4 "are_calls" 1 c_are_calls := by
  refine mkCallee hdef sc_are_calls 1 rfl _ (fun cdv A outer s H E f hr => (have hc : (cxOf CX0 P w K mg base ["value"] "are_calls" (defScope s_are_calls) f cdv A outer s H E).nox.calm = true := rfl; have nd := sc_are_calls.nd; (rs_one (rs_ret (re_and (re_call F_are_cars (hr.mono (by decide)) rfl (ra_cons (re_var 0) ra_nil)) (re_one (re_chain opLe opLe re_int (re_callB cLen rfl T.g_len (by decide +kernel) (ra_cons (re_var 0) ra_nil)) (re_gint rfl T.g_MOST_CALLS)))))))) (fun ds S kk hl hC => ?_) (fun ds S kk ek z => z)
  obtain ⟨x, rfl, hk, q⟩ := hC
  simp only [↓rSeq, ↓rAsg, ↓gN, ↓rRet, ↓rRetN, ↓rIf, ↓rBin, ↓rUn, ↓rB, ↓rChain, ↓rC, ↓rVar_zero, ↓rVar_succ, ↓rSkip, ↓rDrop, ↓rCons, ↓rNil, ↓rTup, ↓rLst, ↓rCallB, ↓rAndV, ↓rOrV, ↓rNotV, ↓rNot, ↓rAnd, ↓rOr, ↓rIfE, ↓rBm, ↓rBm0, ↓rSl, ↓oNone, ↓oSome, ↓gIx, ↓gTup', ↓gCons', ↓gNil', ↓rCall, ↓rCallK, ↓rCallDf, ↓rTr, ↓rPar, ↓rTrL, ↓rPar3, ↓rLkD, ↓rLkS, ↓rCv, ↓rNever, ↓rBreak, ↓rCont, ↓i2, ↓i20, ↓b20, ↓rYes, wipeE, ↓negD, ↓endOf, ↓DL.envOf, List.map_cons, List.map_nil, List.cons_append, List.nil_append, List.length_cons, List.length_nil, List.replicate, List.getElem?_cons_zero, List.getElem?_cons_succ, List.set_cons_zero, List.set_cons_succ, Nat.zero_add, Nat.reduceAdd, Nat.reduceSub, ↓reduceIte, Bool.false_eq_true, Bool.xor_false, Bool.false_xor, Bool.true_xor, Bool.not_true, Bool.not_false, if_true, if_false, decide_true, decide_false]
  refine ⟨trivial, x, rfl, hk, ?_⟩
  cases x with
  | tup xs =>
    cases h : xs.all isCar with
    | false =>
      simp only [areCallsD, carsIn, h, Bool.false_and] at q ⊢
      exact ⟨S, Sub.refl S, q⟩
    | true =>
      simp only [areCallsD, carsIn, h, Bool.true_and] at q ⊢
      refine len_at seq_tup ?_
      by_cases h1 : 1 ≤ xs.length
      · have h1' : (1 : Int) ≤ (xs.length : Nat) := by omega
        have e : decide ((xs.length : Int) ≤ 200) = decide (xs.length ≤ 200) := by
          rw [decide_eq_decide]; omega
        simp only [h1, h1', decide_true, Bool.true_and, e] at q ⊢
        exact ⟨S, Sub.refl S, q⟩
      · have h1' : ¬ (1 : Int) ≤ (xs.length : Nat) := by omega
        simp only [h1, h1', decide_false, Bool.false_and] at q ⊢
        exact ⟨S, Sub.refl S, q⟩
  | _ => exact ⟨S, Sub.refl S, q⟩
theorem ok_check_calls (T : Txt mg) (F_are_calls : Callee P w K mg base CX0 4 "are_calls" 1 c_are_calls) (hdef : DefAt K mg "check_calls" s_check_calls ["value"]) : Callee P w K mg base CX0 5 "check_calls" 1 c_check_calls := by
  refine mkCallee hdef sc_check_calls 1 rfl _ (fun cdv A outer s H E f hr => (have hc : (cxOf CX0 P w K mg base ["value"] "check_calls" (defScope s_check_calls) f cdv A outer s H E).nox.calm = true := rfl; have nd := sc_check_calls.nd; (rs_one (rs_if (tr_not (tr_val (re_call F_are_calls (hr.mono (by decide)) rfl (ra_cons (re_var 0) ra_nil)))) rss_never rs_nil)))) (fun ds S kk hl hC => ?_) (fun ds S kk ek z => z)
  obtain ⟨cs, rfl, h, q⟩ := hC
  simp only [↓rSeq, ↓rAsg, ↓gN, ↓rRet, ↓rRetN, ↓rIf, ↓rBin, ↓rUn, ↓rB, ↓rChain, ↓rC, ↓rVar_zero, ↓rVar_succ, ↓rSkip, ↓rDrop, ↓rCons, ↓rNil, ↓rTup, ↓rLst, ↓rCallB, ↓rAndV, ↓rOrV, ↓rNotV, ↓rNot, ↓rAnd, ↓rOr, ↓rIfE, ↓rBm, ↓rBm0, ↓rSl, ↓oNone, ↓oSome, ↓gIx, ↓gTup', ↓gCons', ↓gNil', ↓rCall, ↓rCallK, ↓rCallDf, ↓rTr, ↓rPar, ↓rTrL, ↓rPar3, ↓rLkD, ↓rLkS, ↓rCv, ↓rNever, ↓rBreak, ↓rCont, ↓i2, ↓i20, ↓b20, ↓rYes, wipeE, ↓negD, ↓endOf, ↓DL.envOf, List.map_cons, List.map_nil, List.cons_append, List.nil_append, List.length_cons, List.length_nil, List.replicate, List.getElem?_cons_zero, List.getElem?_cons_succ, List.set_cons_zero, List.set_cons_succ, Nat.zero_add, Nat.reduceAdd, Nat.reduceSub, ↓reduceIte, Bool.false_eq_true, Bool.xor_false, Bool.false_xor, Bool.true_xor, Bool.not_true, Bool.not_false, if_true, if_false, decide_true, decide_false]
  refine ⟨trivial, tupI cs, rfl, kn_ints (Nat.le_trans h.most (by decide)), ?_⟩
  simp only [calls_are h]
  exact ⟨S, Sub.refl S, q⟩
theorem ok_clear_cycles (T : Txt mg) (F_check_calls : Callee P w K mg base CX0 5 "check_calls" 1 c_check_calls) (F_cycles_in : Callee P w K mg base CX0 2 "cycles_in" 1 c_cycles_in) (F_gaps_in_order : Callee P w K mg base CX0 1 "gaps_in_order" 1 c_gaps_in_order) (hdef : DefAt K mg "clear_cycles" s_clear_cycles ["calls"]) : Callee P w K mg base CX0 6 "clear_cycles" 1 c_clear_cycles := by
  refine mkCallee hdef sc_clear_cycles 1 rfl _ (fun cdv A outer s H E f hr => (have hc : (cxOf CX0 P w K mg base ["calls", "leads", "cycle", "at", "gap"] "clear_cycles" (defScope s_clear_cycles) f cdv A outer s H E).nox.calm = true := rfl; have nd := sc_clear_cycles.nd; (rs_cons (rs_expr (re_call F_check_calls (hr.mono (by decide)) rfl (ra_cons (re_var 0) ra_nil)))
    (rs_cons (rs_setDm 1 [("at", 3), ("gap", 4)] hc nd (sw_trueD rfl rfl rfl (by decide +kernel)) (ri_enumL rfl T.g_enumerate (ra_cons (re_call F_gaps_in_order (hr.mono (by decide)) rfl (ra_cons (re_var 0) ra_nil)) ra_nil)) (blkOk_by (N := ["calls", "leads", "cycle", "at", "gap"]) (sc := defScope s_clear_cycles) (by decide +kernel)) (fun _ _ _ _ _ => (rg_tup (n := 2) rfl (rgs_cons (rg_name 3 nd (by simp)) (rgs_cons (rg_name 4 nd (by simp)) rgs_nil)))) (fun _ _ _ _ _ => ts_nil) (fun _ _ _ _ _ => (re_var 3)) (fun _ _ _ _ _ => (re_bin opMod (re_bin opAdd (re_bin opAdd (re_var 3) (re_var 4)) re_int) (re_callB cLen rfl T.g_len (by decide +kernel) (ra_cons (re_var 0) ra_nil)))))
    (rs_one (rs_ret (re_comp [("cycle", 2)] hc nd (ri_seq (re_call F_cycles_in (hr.mono (by decide)) rfl (ra_cons (re_lk (re_var 1)) ra_nil))) (blkOk_by (N := ["calls", "leads", "cycle", "at", "gap"]) (sc := defScope s_clear_cycles) (by decide +kernel)) (fun _ _ _ _ _ => (rg_name 2 nd (by simp))) (fun _ _ _ _ _ => ts_nil) (fun _ _ _ _ _ => (re_callB cSortI rfl T.g_sorted (by decide +kernel) (ra_cons (re_var 2) ra_nil)))))))))) (fun ds S kk hl hC => ?_) (fun ds S kk ek z => z)
  obtain ⟨cs, rfl, h, q⟩ := hC
  have pos := h.pos
  have most := h.most
  refine seq_gen fun N hN => ?_
  simp only [↓rSeq, ↓rAsg, ↓gN, ↓rRet, ↓rRetN, ↓rIf, ↓rBin, ↓rUn, ↓rB, ↓rChain, ↓rC, ↓rVar_zero, ↓rVar_succ, ↓rSkip, ↓rDrop, ↓rCons, ↓rNil, ↓rTup, ↓rLst, ↓rCallB, ↓rAndV, ↓rOrV, ↓rNotV, ↓rNot, ↓rAnd, ↓rOr, ↓rIfE, ↓rBm, ↓rBm0, ↓rSl, ↓oNone, ↓oSome, ↓gIx, ↓gTup', ↓gCons', ↓gNil', ↓rCall, ↓rCallK, ↓rCallDf, ↓rTr, ↓rPar, ↓rTrL, ↓rPar3, ↓rLkD, ↓rLkS, ↓rCv, ↓rNever, ↓rBreak, ↓rCont, ↓i2, ↓i20, ↓b20, ↓rYes, wipeE, ↓negD, ↓endOf, ↓DL.envOf, List.map_cons, List.map_nil, List.cons_append, List.nil_append, List.length_cons, List.length_nil, List.replicate, List.getElem?_cons_zero, List.getElem?_cons_succ, List.set_cons_zero, List.set_cons_succ, Nat.zero_add, Nat.reduceAdd, Nat.reduceSub, ↓reduceIte, Bool.false_eq_true, Bool.xor_false, Bool.false_xor, Bool.true_xor, Bool.not_true, Bool.not_false, if_true, if_false, decide_true, decide_false]
  refine ⟨trivial, cs, rfl, h, ?_⟩
  subst hN
  refine seq_gen fun N hN => ?_
  simp only [↓rSeq, ↓rAsg, ↓gN, ↓rRet, ↓rRetN, ↓rIf, ↓rBin, ↓rUn, ↓rB, ↓rChain, ↓rC, ↓rVar_zero, ↓rVar_succ, ↓rSkip, ↓rDrop, ↓rCons, ↓rNil, ↓rTup, ↓rLst, ↓rCallB, ↓rAndV, ↓rOrV, ↓rNotV, ↓rNot, ↓rAnd, ↓rOr, ↓rIfE, ↓rBm, ↓rBm0, ↓rSl, ↓oNone, ↓oSome, ↓gIx, ↓gTup', ↓gCons', ↓gNil', ↓rCall, ↓rCallK, ↓rCallDf, ↓rTr, ↓rPar, ↓rTrL, ↓rPar3, ↓rLkD, ↓rLkS, ↓rCv, ↓rNever, ↓rBreak, ↓rCont, ↓i2, ↓i20, ↓b20, ↓rYes, wipeE, ↓negD, ↓endOf, ↓DL.envOf, List.map_cons, List.map_nil, List.cons_append, List.nil_append, List.length_cons, List.length_nil, List.replicate, List.getElem?_cons_zero, List.getElem?_cons_succ, List.set_cons_zero, List.set_cons_succ, Nat.zero_add, Nat.reduceAdd, Nat.reduceSub, ↓reduceIte, Bool.false_eq_true, Bool.xor_false, Bool.false_xor, Bool.true_xor, Bool.not_true, Bool.not_false, if_true, if_false, decide_true, decide_false]
  unfold rDm iEnumL
  simp only [↓rSeq, ↓rAsg, ↓gN, ↓rRet, ↓rRetN, ↓rIf, ↓rBin, ↓rUn, ↓rB, ↓rChain, ↓rC, ↓rVar_zero, ↓rVar_succ, ↓rSkip, ↓rDrop, ↓rCons, ↓rNil, ↓rTup, ↓rLst, ↓rCallB, ↓rAndV, ↓rOrV, ↓rNotV, ↓rNot, ↓rAnd, ↓rOr, ↓rIfE, ↓rBm, ↓rBm0, ↓rSl, ↓oNone, ↓oSome, ↓gIx, ↓gTup', ↓gCons', ↓gNil', ↓rCall, ↓rCallK, ↓rCallDf, ↓rTr, ↓rPar, ↓rTrL, ↓rPar3, ↓rLkD, ↓rLkS, ↓rCv, ↓rNever, ↓rBreak, ↓rCont, ↓i2, ↓i20, ↓b20, ↓rYes, wipeE, ↓negD, ↓endOf, ↓DL.envOf, List.map_cons, List.map_nil, List.cons_append, List.nil_append, List.length_cons, List.length_nil, List.replicate, List.getElem?_cons_zero, List.getElem?_cons_succ, List.set_cons_zero, List.set_cons_succ, Nat.zero_add, Nat.reduceAdd, Nat.reduceSub, ↓reduceIte, Bool.false_eq_true, Bool.xor_false, Bool.false_xor, Bool.true_xor, Bool.not_true, Bool.not_false, if_true, if_false, decide_true, decide_false]
  refine ⟨trivial, cs, rfl, h, fun pg S1 s1 fpg e1 => ?_⟩
  dsimp only
  rw [e1]
  dsimp only
  refine ⟨fun i m S' => S' = S1 ∧ m = (List.range i).map fun j => ((some ((j : Nat) : Int), nxK cs (some ((j : Nat) : Int))) : Ck × Ck), ⟨rfl, rfl⟩, fun i m S' _ ⟨e, _⟩ => by rw [e]; exact e1, ?_, ?_⟩
  · rintro i x m S' hx ⟨rfl, rfl⟩
    have hi : i < cs.length := by
      have := (List.getElem?_eq_some_iff.mp hx).1
      rw [enumD_length, List.length_map] at this
      simpa [gapsN] using this
    have eg : ((gapsN cs).map D.int)[i]? = some (.int ((gapN cs i : Nat) : Int)) := by
      unfold gapsN
      simp [hi]
    rw [enumD_get eg] at hx
    cases hx
    simp only [↓rSeq, ↓rAsg, ↓gN, ↓rRet, ↓rRetN, ↓rIf, ↓rBin, ↓rUn, ↓rB, ↓rChain, ↓rC, ↓rVar_zero, ↓rVar_succ, ↓rSkip, ↓rDrop, ↓rCons, ↓rNil, ↓rTup, ↓rLst, ↓rCallB, ↓rAndV, ↓rOrV, ↓rNotV, ↓rNot, ↓rAnd, ↓rOr, ↓rIfE, ↓rBm, ↓rBm0, ↓rSl, ↓oNone, ↓oSome, ↓gIx, ↓gTup', ↓gCons', ↓gNil', ↓rCall, ↓rCallK, ↓rCallDf, ↓rTr, ↓rPar, ↓rTrL, ↓rPar3, ↓rLkD, ↓rLkS, ↓rCv, ↓rNever, ↓rBreak, ↓rCont, ↓i2, ↓i20, ↓b20, ↓rYes, wipeE, ↓negD, ↓endOf, ↓DL.envOf, List.map_cons, List.map_nil, List.cons_append, List.nil_append, List.length_cons, List.length_nil, List.replicate, List.getElem?_cons_zero, List.getElem?_cons_succ, List.set_cons_zero, List.set_cons_succ, Nat.zero_add, Nat.reduceAdd, Nat.reduceSub, ↓reduceIte, Bool.false_eq_true, Bool.xor_false, Bool.false_xor, Bool.true_xor, Bool.not_true, Bool.not_false, if_true, if_false, decide_true, decide_false]
    refine ⟨trivial, _, _, rfl, _, _, rfl, rfl, add_int (add_int (len_at seq_tup ?_))⟩
    rw [List.length_map]
    dsimp only
    have er : ((i : Int) + ((gapN cs i : Nat) : Int) + 1) % ((cs.length : Nat) : Int) = (((i + gapN cs i + 1) % cs.length : Nat) : Int) := by
      rw [Int.natCast_emod]; rfl
    rw [er]
    refine ⟨by omega, some (i : Int), some (((i + gapN cs i + 1) % cs.length : Nat) : Int), rfl, rfl, ?_, S', Sub.refl _, rfl, ?_⟩
    · rw [List.length_map, List.length_range]; exact Nat.lt_of_le_of_lt (show i ≤ 200 by omega) (by decide)
    · rw [put_new, List.range_succ, List.map_append]
      · rfl
      · rw [List.map_map]
        rintro z
        obtain ⟨d, hd, e⟩ := List.mem_map.mp z
        have := Int.ofNat.inj (Option.some.inj e)
        have := List.mem_range.mp hd
        omega
  rintro m S' ⟨rfl, rfl⟩ pd hpd
  have el : (enumD ((gapsN cs).map D.int)).length = cs.length := by rw [enumD_length, List.length_map]; simp [gapsN]
  rw [el]
  subst hN
  simp only [↓rSeq, ↓rAsg, ↓gN, ↓rRet, ↓rRetN, ↓rIf, ↓rBin, ↓rUn, ↓rB, ↓rChain, ↓rC, ↓rVar_zero, ↓rVar_succ, ↓rSkip, ↓rDrop, ↓rCons, ↓rNil, ↓rTup, ↓rLst, ↓rCallB, ↓rAndV, ↓rOrV, ↓rNotV, ↓rNot, ↓rAnd, ↓rOr, ↓rIfE, ↓rBm, ↓rBm0, ↓rSl, ↓oNone, ↓oSome, ↓gIx, ↓gTup', ↓gCons', ↓gNil', ↓rCall, ↓rCallK, ↓rCallDf, ↓rTr, ↓rPar, ↓rTrL, ↓rPar3, ↓rLkD, ↓rLkS, ↓rCv, ↓rNever, ↓rBreak, ↓rCont, ↓i2, ↓i20, ↓b20, ↓rYes, wipeE, ↓negD, ↓endOf, ↓DL.envOf, List.map_cons, List.map_nil, List.cons_append, List.nil_append, List.length_cons, List.length_nil, List.replicate, List.getElem?_cons_zero, List.getElem?_cons_succ, List.set_cons_zero, List.set_cons_succ, Nat.zero_add, Nat.reduceAdd, Nat.reduceSub, ↓reduceIte, Bool.false_eq_true, Bool.xor_false, Bool.false_xor, Bool.true_xor, Bool.not_true, Bool.not_false, if_true, if_false, decide_true, decide_false]
  unfold rComp iSeq
  simp only [↓rSeq, ↓rAsg, ↓gN, ↓rRet, ↓rRetN, ↓rIf, ↓rBin, ↓rUn, ↓rB, ↓rChain, ↓rC, ↓rVar_zero, ↓rVar_succ, ↓rSkip, ↓rDrop, ↓rCons, ↓rNil, ↓rTup, ↓rLst, ↓rCallB, ↓rAndV, ↓rOrV, ↓rNotV, ↓rNot, ↓rAnd, ↓rOr, ↓rIfE, ↓rBm, ↓rBm0, ↓rSl, ↓oNone, ↓oSome, ↓gIx, ↓gTup', ↓gCons', ↓gNil', ↓rCall, ↓rCallK, ↓rCallDf, ↓rTr, ↓rPar, ↓rTrL, ↓rPar3, ↓rLkD, ↓rLkS, ↓rCv, ↓rNever, ↓rBreak, ↓rCont, ↓i2, ↓i20, ↓b20, ↓rYes, wipeE, ↓negD, ↓endOf, ↓DL.envOf, List.map_cons, List.map_nil, List.cons_append, List.nil_append, List.length_cons, List.length_nil, List.replicate, List.getElem?_cons_zero, List.getElem?_cons_succ, List.set_cons_zero, List.set_cons_succ, Nat.zero_add, Nat.reduceAdd, Nat.reduceSub, ↓reduceIte, Bool.false_eq_true, Bool.xor_false, Bool.false_xor, Bool.true_xor, Bool.not_true, Bool.not_false, if_true, if_false, decide_true, decide_false]
  refine ⟨pd, _, rfl, Sto.upd_same, trivial, plK cs.length, nxK cs, ?_, perm_nx pos, by rw [plK_len]; omega, fun pc qs S2 s2 fpc e2 hqs rows => ?_⟩
  · unfold dicP2 plK
    rw [List.map_map, List.map_map, List.map_map]
    rfl
  have sub2 : DL.Sub S S2 := fun b o hb => by
    have b1 : b ≠ pd := fun z => by rw [z] at hb; rw [s1 _ _ hb] at hpd; cases hpd
    exact s2 b o (by rw [Sto.del_ne b1, Sto.upd_ne b1]; exact s1 b o hb)
  dsimp only
  rw [e2]
  dsimp only
  have free2 : ∀ z, S2 z = none → S z = none := fun z hz => by
    cases e : S z with
    | none => rfl
    | some o => rw [sub2 z o e] at hz; cases hz
  obtain ⟨rw_, erw⟩ : ∃ rw_, rw_ = cysP (plK cs.length) (nxK cs) (plK cs.length) [] := ⟨_, rfl⟩
  have inR : ∀ r ∈ rw_, Ints r := fun r hr => cys_all pos (by rw [← erw]; exact hr)
  have edue : dueR cs = rw_.map srtC := by rw [erw]; rfl
  have fewR : rw_.length ≤ 200 := by
    have := cysP_len (f := nxK cs) (ks0 := plK cs.length) (xs := plK cs.length) (acc := [])
    rw [plK_len, List.length_nil, ← erw] at this
    omega
  rw [← erw] at rows
  rw [edue] at q
  refine ⟨fun i acc S3 => ∃ ps, acc = ps.map D.ref ∧ DL.Sub S2 S3 ∧ (∀ z ∈ ps, S2 z = none) ∧ Rows S3 ps ((rw_.take i).map srtC), ⟨[], rfl, Sub.refl _, fun z hz => (nomatch hz), Rows.nil⟩, ?_, ?_, ?_⟩
  · rintro i acc S3 _ ⟨ps, _, s3, _⟩
    exact s3 _ _ e2
  · rintro i x acc S3 hx ⟨ps, rfl, s3, fps, rows3⟩
    rw [List.getElem?_map, Option.map_eq_some_iff] at hx
    obtain ⟨a, ha, rfl⟩ := hx
    have hi : i < rw_.length := by rw [← rows.1]; exact (List.getElem?_eq_some_iff.mp ha).1
    have hr : rw_[i]? = some rw_[i] := List.getElem?_eq_getElem hi
    have ea := s3 _ _ (rows.2 i a _ ha hr)
    simp only [↓rSeq, ↓rAsg, ↓gN, ↓rRet, ↓rRetN, ↓rIf, ↓rBin, ↓rUn, ↓rB, ↓rChain, ↓rC, ↓rVar_zero, ↓rVar_succ, ↓rSkip, ↓rDrop, ↓rCons, ↓rNil, ↓rTup, ↓rLst, ↓rCallB, ↓rAndV, ↓rOrV, ↓rNotV, ↓rNot, ↓rAnd, ↓rOr, ↓rIfE, ↓rBm, ↓rBm0, ↓rSl, ↓oNone, ↓oSome, ↓gIx, ↓gTup', ↓gCons', ↓gNil', ↓rCall, ↓rCallK, ↓rCallDf, ↓rTr, ↓rPar, ↓rTrL, ↓rPar3, ↓rLkD, ↓rLkS, ↓rCv, ↓rNever, ↓rBreak, ↓rCont, ↓i2, ↓i20, ↓b20, ↓rYes, wipeE, ↓negD, ↓endOf, ↓DL.envOf, List.map_cons, List.map_nil, List.cons_append, List.nil_append, List.length_cons, List.length_nil, List.replicate, List.getElem?_cons_zero, List.getElem?_cons_succ, List.set_cons_zero, List.set_cons_succ, Nat.zero_add, Nat.reduceAdd, Nat.reduceSub, ↓reduceIte, Bool.false_eq_true, Bool.xor_false, Bool.false_xor, Bool.true_xor, Bool.not_true, Bool.not_false, if_true, if_false, decide_true, decide_false]
    refine ⟨(rw_[i]).map ckI, ?_, rfl, fun ms p pm ps2 hp => ⟨?_, _, Sub.refl _, ps ++ [p], by rw [List.map_append]; rfl, s3.trans (Sub.upd hp), ?_, ?_⟩⟩
    · show seqOf S3 (.ref a) = _
      rw [seq_ref ea]
      have := ints_map (inR _ (List.mem_of_getElem? hr))
      rw [← ints_d, ← this]
    · rw [List.length_map, rows3.1, List.length_map, List.length_take]
      exact Nat.lt_of_le_of_lt (show _ ≤ 300 by omega) (by decide)
    · intro z hz
      rcases List.mem_append.mp hz with w | w
      · exact fps z w
      · rw [List.mem_singleton.mp w]; exact s3.free hp
    · have t : rw_.take (i + 1) = rw_.take i ++ [rw_[i]] := by rw [List.take_add_one, hr]; rfl
      rw [t, List.map_append]
      refine rows3.snoc (fun b hb o e => ?_) ?_
      · rw [Sto.upd_ne (fun z => by rw [z, hp] at e; cases e)]; exact e
      · rw [srt_is pm ps2, ints_d, Sto.upd_same]
  · rintro acc S3 ⟨ps, rfl, s3, fps, rows3⟩ pz hpz
    rw [List.length_map, rows.1, List.take_length] at rows3
    refine ⟨_, Sub.refl _, q pz ps _ (sub2.trans (s3.trans (Sub.upd hpz))) (free2 _ (s3.free hpz)) Sto.upd_same (fun z hz => ⟨free2 _ (fps z hz), fun e => ?_⟩) (rows3.keep fun b hb o e => ?_)⟩
    · subst e
      obtain ⟨j, hj⟩ := List.getElem?_of_mem hz
      have hjl := (List.getElem?_eq_some_iff.mp hj).1
      have hj2 : (rw_.map srtC)[j]? = some ((rw_.map srtC)[j]'(by rw [← rows3.1]; exact hjl)) := List.getElem?_eq_getElem _
      have := rows3.2 j z _ hj hj2
      rw [this] at hpz; cases hpz
    · rw [Sto.upd_ne (fun z => by rw [z, hpz] at e; cases e)]; exact e
theorem ok_law_right (T : Txt mg) (F__law_due : Callee P w K mg base CX0 2 "_law_due" 1 c_law_due) (F_clear_cycles : Callee P w K mg base CX0 6 "clear_cycles" 1 c_clear_cycles) (hdef : DefAt K mg "_law_right" s_law_right ["day"]) : Callee P w K mg base CX0 7 "_law_right" 1 c_law_right := by
  refine mkCallee hdef sc_law_right 1 rfl _ (fun cdv A outer s H E f hr => (have hc : (cxOf CX0 P w K mg base ["day", "again", "kept", "due", "told", "inner"] "_law_right" (defScope s_law_right) f cdv A outer s H E).nox.calm = true := rfl; have nd := sc_law_right.nd; (rs_cons (rs_par 2 3 hc nd (ra_cons (re_callB (cRepr hr.u64 hr.g) rfl T.g_repr (by decide +kernel) (ra_cons (re_var 0) ra_nil)) (ra_cons (re_call F__law_due (hr.mono (by decide)) rfl (ra_cons (re_var 0) ra_nil)) ra_nil)))
    (rs_cons (rs_for (is := List.range 50) PassesOwn.never hc (ri_rng rfl T.g_range (ra_cons re_int ra_nil)) (rg_name 1 nd (by simp))
    (rs_cons (rs_set 4 nd (re_call F_clear_cycles (hr.mono (by decide)) rfl (ra_cons (re_var 0) ra_nil)))
    (rs_cons (rs_if (TR.w (wr_or (tr_cmp (opNe hr.u64) (re_callB (cRepr hr.u64 hr.g) rfl T.g_repr (by decide +kernel) (ra_cons (re_var 4) ra_nil)) (re_callB (cRepr hr.u64 hr.g) rfl T.g_repr (by decide +kernel) (ra_cons (re_var 3) ra_nil)) (nomark _)) (wr_or1 (tr_cmp (opNe hr.u64) (re_callB (cRepr hr.u64 hr.g) rfl T.g_repr (by decide +kernel) (ra_cons (re_var 0) ra_nil)) (re_var 2) (nomark _)))))
    (rs_one (rs_ret re_bl))
    rs_nil)
    (rs_cons (rs_set 5 nd (re_ix ixSeq (re_var 4) re_int))
    (rs_cons (rs_expr (re_bm PySem.F.plainAttrs_list PySem.F.slot_list_append PySem.F.type_list_append mAppend (re_var 5) (ra_cons re_non ra_nil)))
    (rs_one (rs_expr (re_bm0 PySem.F.plainAttrs_list PySem.F.slot_list_reverse PySem.F.type_list_reverse mReverse (re_var 4)))))))))
    (rs_one (rs_ret re_bl)))))) (fun ds S kk hl hC => ?_) (fun ds S kk ek z => z)
  obtain ⟨cs, rfl, h, q⟩ := hC
  have pos := h.pos
  have most := h.most
  have fitd := fit_tupI (fun j hj => (h.cars j hj).sm) (show cs.length ≤ 401 by omega)
  have fitr := due_fit h
  refine seq_gen fun N1 hN1 => ?_
  simp only [↓rSeq, ↓rAsg, ↓gN, ↓rRet, ↓rRetN, ↓rIf, ↓rBin, ↓rUn, ↓rB, ↓rChain, ↓rC, ↓rVar_zero, ↓rVar_succ, ↓rSkip, ↓rDrop, ↓rCons, ↓rNil, ↓rTup, ↓rLst, ↓rCallB, ↓rAndV, ↓rOrV, ↓rNotV, ↓rNot, ↓rAnd, ↓rOr, ↓rIfE, ↓rBm, ↓rBm0, ↓rSl, ↓oNone, ↓oSome, ↓gIx, ↓gTup', ↓gCons', ↓gNil', ↓rCall, ↓rCallK, ↓rCallDf, ↓rTr, ↓rPar, ↓rTrL, ↓rPar3, ↓rLkD, ↓rLkS, ↓rCv, ↓rNever, ↓rBreak, ↓rCont, ↓i2, ↓i20, ↓b20, ↓rYes, wipeE, ↓negD, ↓endOf, ↓DL.envOf, List.map_cons, List.map_nil, List.cons_append, List.nil_append, List.length_cons, List.length_nil, List.replicate, List.getElem?_cons_zero, List.getElem?_cons_succ, List.set_cons_zero, List.set_cons_succ, Nat.zero_add, Nat.reduceAdd, Nat.reduceSub, ↓reduceIte, Bool.false_eq_true, Bool.xor_false, Bool.false_xor, Bool.true_xor, Bool.not_true, Bool.not_false, if_true, if_false, decide_true, decide_false]
  refine repr_at sh_tupI fitd ⟨trivial, cs, rfl, h, fun pd qs S1 s1 fpd e1 fq rows => ?_⟩
  subst hN1
  refine seq_gen fun N1 hN1 => ?_
  refine for_gen fun B hB => ?_
  unfold rFor iRng
  simp only [↓rSeq, ↓rAsg, ↓gN, ↓rRet, ↓rRetN, ↓rIf, ↓rBin, ↓rUn, ↓rB, ↓rChain, ↓rC, ↓rVar_zero, ↓rVar_succ, ↓rSkip, ↓rDrop, ↓rCons, ↓rNil, ↓rTup, ↓rLst, ↓rCallB, ↓rAndV, ↓rOrV, ↓rNotV, ↓rNot, ↓rAnd, ↓rOr, ↓rIfE, ↓rBm, ↓rBm0, ↓rSl, ↓oNone, ↓oSome, ↓gIx, ↓gTup', ↓gCons', ↓gNil', ↓rCall, ↓rCallK, ↓rCallDf, ↓rTr, ↓rPar, ↓rTrL, ↓rPar3, ↓rLkD, ↓rLkS, ↓rCv, ↓rNever, ↓rBreak, ↓rCont, ↓i2, ↓i20, ↓b20, ↓rYes, wipeE, ↓negD, ↓endOf, ↓DL.envOf, List.map_cons, List.map_nil, List.cons_append, List.nil_append, List.length_cons, List.length_nil, List.replicate, List.getElem?_cons_zero, List.getElem?_cons_succ, List.set_cons_zero, List.set_cons_succ, Nat.zero_add, Nat.reduceAdd, Nat.reduceSub, ↓reduceIte, Bool.false_eq_true, Bool.xor_false, Bool.false_xor, Bool.true_xor, Bool.not_true, Bool.not_false, if_true, if_false, decide_true, decide_false]
  refine ⟨by decide, by decide, fun u env S' => ∃ o1 o4 o5, env = [some (tupI cs), o1, some (.str (PyData.tuple (cs.map PyData.int)).shown), some (.ref pd), o4, o5] ∧ DL.Sub S1 S', ⟨_, _, _, rfl, Sub.refl _⟩, fun _ _ _ _ _ => trivial, ?_, ?_⟩
  · rintro u x env S' hx ⟨o1, o4, o5, rfl, sub⟩
    subst hB
    refine seq_gen fun N2 hN2 => ?_
    simp only [↓rSeq, ↓rAsg, ↓gN, ↓rRet, ↓rRetN, ↓rIf, ↓rBin, ↓rUn, ↓rB, ↓rChain, ↓rC, ↓rVar_zero, ↓rVar_succ, ↓rSkip, ↓rDrop, ↓rCons, ↓rNil, ↓rTup, ↓rLst, ↓rCallB, ↓rAndV, ↓rOrV, ↓rNotV, ↓rNot, ↓rAnd, ↓rOr, ↓rIfE, ↓rBm, ↓rBm0, ↓rSl, ↓oNone, ↓oSome, ↓gIx, ↓gTup', ↓gCons', ↓gNil', ↓rCall, ↓rCallK, ↓rCallDf, ↓rTr, ↓rPar, ↓rTrL, ↓rPar3, ↓rLkD, ↓rLkS, ↓rCv, ↓rNever, ↓rBreak, ↓rCont, ↓i2, ↓i20, ↓b20, ↓rYes, wipeE, ↓negD, ↓endOf, ↓DL.envOf, List.map_cons, List.map_nil, List.cons_append, List.nil_append, List.length_cons, List.length_nil, List.replicate, List.getElem?_cons_zero, List.getElem?_cons_succ, List.set_cons_zero, List.set_cons_succ, Nat.zero_add, Nat.reduceAdd, Nat.reduceSub, ↓reduceIte, Bool.false_eq_true, Bool.xor_false, Bool.false_xor, Bool.true_xor, Bool.not_true, Bool.not_false, if_true, if_false, decide_true, decide_false]
    refine ⟨trivial, cs, rfl, h, fun pt qt S2 s2 fpt e2 fqt rowt => ?_⟩
    subst hN2
    refine seq_gen fun N2 hN2 => ?_
    simp only [↓rSeq, ↓rAsg, ↓gN, ↓rRet, ↓rRetN, ↓rIf, ↓rBin, ↓rUn, ↓rB, ↓rChain, ↓rC, ↓rVar_zero, ↓rVar_succ, ↓rSkip, ↓rDrop, ↓rCons, ↓rNil, ↓rTup, ↓rLst, ↓rCallB, ↓rAndV, ↓rOrV, ↓rNotV, ↓rNot, ↓rAnd, ↓rOr, ↓rIfE, ↓rBm, ↓rBm0, ↓rSl, ↓oNone, ↓oSome, ↓gIx, ↓gTup', ↓gCons', ↓gNil', ↓rCall, ↓rCallK, ↓rCallDf, ↓rTr, ↓rPar, ↓rTrL, ↓rPar3, ↓rLkD, ↓rLkS, ↓rCv, ↓rNever, ↓rBreak, ↓rCont, ↓i2, ↓i20, ↓b20, ↓rYes, wipeE, ↓negD, ↓endOf, ↓DL.envOf, List.map_cons, List.map_nil, List.cons_append, List.nil_append, List.length_cons, List.length_nil, List.replicate, List.getElem?_cons_zero, List.getElem?_cons_succ, List.set_cons_zero, List.set_cons_succ, Nat.zero_add, Nat.reduceAdd, Nat.reduceSub, ↓reduceIte, Bool.false_eq_true, Bool.xor_false, Bool.false_xor, Bool.true_xor, Bool.not_true, Bool.not_false, if_true, if_false, decide_true, decide_false]
    have rowd := rows.keep fun b _ o e => s2 b o (sub b o e)
    refine repr_at (sh_rows e2 rowt) fitr (repr_at (sh_rows (s2 _ _ (sub _ _ e1)) rowd) fitr (ne_str ?_))
    rw [decide_eq_true rfl]
    simp only [Bool.xor_self, Bool.false_eq_true, if_false]
    refine repr_at sh_tupI fitd (ne_str ?_)
    rw [decide_eq_true rfl]
    simp only [Bool.xor_self, Bool.false_eq_true, if_false]
    obtain ⟨r, rs, er⟩ := due_some pos
    rw [er] at rowt
    cases qt with
    | nil => have := rowt.1; simp at this
    | cons z zs =>
    have ez := rowt.2 0 z r rfl rfl
    obtain ⟨fz, nz⟩ := fqt z (List.mem_cons_self ..)
    subst hN2
    simp only [↓rSeq, ↓rAsg, ↓gN, ↓rRet, ↓rRetN, ↓rIf, ↓rBin, ↓rUn, ↓rB, ↓rChain, ↓rC, ↓rVar_zero, ↓rVar_succ, ↓rSkip, ↓rDrop, ↓rCons, ↓rNil, ↓rTup, ↓rLst, ↓rCallB, ↓rAndV, ↓rOrV, ↓rNotV, ↓rNot, ↓rAnd, ↓rOr, ↓rIfE, ↓rBm, ↓rBm0, ↓rSl, ↓oNone, ↓oSome, ↓gIx, ↓gTup', ↓gCons', ↓gNil', ↓rCall, ↓rCallK, ↓rCallDf, ↓rTr, ↓rPar, ↓rTrL, ↓rPar3, ↓rLkD, ↓rLkS, ↓rCv, ↓rNever, ↓rBreak, ↓rCont, ↓i2, ↓i20, ↓b20, ↓rYes, wipeE, ↓negD, ↓endOf, ↓DL.envOf, List.map_cons, List.map_nil, List.cons_append, List.nil_append, List.length_cons, List.length_nil, List.replicate, List.getElem?_cons_zero, List.getElem?_cons_succ, List.set_cons_zero, List.set_cons_succ, Nat.zero_add, Nat.reduceAdd, Nat.reduceSub, ↓reduceIte, Bool.false_eq_true, Bool.xor_false, Bool.false_xor, Bool.true_xor, Bool.not_true, Bool.not_false, if_true, if_false, decide_true, decide_false]
    refine ixD_at (seq_ref e2) atI_head ⟨tyD_lst ez, app_ref ez ?_ ⟨tyD_lst (by rw [Sto.upd_ne nz.symm, e2]), reverse_at (by rw [Sto.upd_ne nz.symm, e2]) ?_⟩⟩
    · have := (due_len h).2 r (by rw [er]; exact List.mem_cons_self ..)
      rw [List.length_map]
      exact Nat.lt_of_le_of_lt this (by decide)
    · exact ⟨_, Sub.refl _, _, _, _, rfl, ((sub.trans s2).over (sub.free fz)).over (sub.free fpt)⟩
  · rintro env S' ⟨o1, o4, o5, rfl, sub⟩
    subst hN1
    simp only [↓rSeq, ↓rAsg, ↓gN, ↓rRet, ↓rRetN, ↓rIf, ↓rBin, ↓rUn, ↓rB, ↓rChain, ↓rC, ↓rVar_zero, ↓rVar_succ, ↓rSkip, ↓rDrop, ↓rCons, ↓rNil, ↓rTup, ↓rLst, ↓rCallB, ↓rAndV, ↓rOrV, ↓rNotV, ↓rNot, ↓rAnd, ↓rOr, ↓rIfE, ↓rBm, ↓rBm0, ↓rSl, ↓oNone, ↓oSome, ↓gIx, ↓gTup', ↓gCons', ↓gNil', ↓rCall, ↓rCallK, ↓rCallDf, ↓rTr, ↓rPar, ↓rTrL, ↓rPar3, ↓rLkD, ↓rLkS, ↓rCv, ↓rNever, ↓rBreak, ↓rCont, ↓i2, ↓i20, ↓b20, ↓rYes, wipeE, ↓negD, ↓endOf, ↓DL.envOf, List.map_cons, List.map_nil, List.cons_append, List.nil_append, List.length_cons, List.length_nil, List.replicate, List.getElem?_cons_zero, List.getElem?_cons_succ, List.set_cons_zero, List.set_cons_succ, Nat.zero_add, Nat.reduceAdd, Nat.reduceSub, ↓reduceIte, Bool.false_eq_true, Bool.xor_false, Bool.false_xor, Bool.true_xor, Bool.not_true, Bool.not_false, if_true, if_false, decide_true, decide_false]
    exact ⟨S', Sub.refl _, q S' (s1.trans sub)⟩
theorem ok_law (T : Txt mg) (F__law_all_days : Callee P w K mg base CX0 1 "_law_all_days" 2 c_law_all_days) (F__law_day : Callee P w K mg base CX0 3 "_law_day" 2 c_law_day) (F__law_right : Callee P w K mg base CX0 7 "_law_right" 1 c_law_right) (F__law_shed : Callee P w K mg base CX0 1 "_law_shed" 2 c_law_shed) (F_clear_cycles : Callee P w K mg base CX0 6 "clear_cycles" 1 c_clear_cycles) {f : Addr} {fd : FuncData} (F : Fun K "law" "law" s_law f fd) : FnG P w K mg base CX0 8 f fd ["script"] (spD K 1 c_law) := by
  refine mkFnG F sc_law 1 rfl _ (fun cdv A outer s H E f hr => (have hc : (cxOf CX0 P w K mg base ["script", "many", "k", "shed", "most", "day"] "law" (defScope s_law) f cdv A outer s H E).nox.calm = true := rfl; have nd := sc_law.nd; (rs_cons (rs_for (is := List.range 50) PassesOwn.never hc (ri_rng2 rfl T.g_range (ra_cons re_int (ra_cons re_int ra_nil))) (rg_name 1 nd (by simp))
    (rs_one (rs_if (tr_cmp (opNeNil hr.u0) (re_comp [("day", 5)] hc nd (ri_seq (re_call F__law_all_days (hr.mono (by decide)) rfl (ra_cons (re_var 1) (ra_cons re_int ra_nil)))) (blkOk_by (N := ["script", "many", "k", "shed", "most", "day"]) (sc := defScope s_law) (by decide +kernel)) (fun _ _ _ _ _ => (rg_name 5 nd (by simp))) (fun _ _ _ _ _ => (ts_one (tr_not (tr_val (re_call F__law_right (hr.mono (by decide)) rfl (ra_cons (re_var 5) ra_nil)))))) (fun _ _ _ _ _ => (re_var 5))) (re_lst ra_nil) (nomark _))
    (rs_one (rs_ret re_bl))
    rs_nil)))
    (rs_cons (rs_for (is := List.range 50) PassesOwn.never hc (ri_rng rfl T.g_range (ra_cons (re_callB (cMax hc) rfl T.g_max (by decide +kernel) (ra_cons re_int (ra_cons (re_callB (cMin hc) rfl T.g_min (by decide +kernel) (ra_cons re_int (ra_cons (re_callB cLen rfl T.g_len (by decide +kernel) (ra_cons (re_var 0) ra_nil)) ra_nil))) ra_nil))) ra_nil)) (rg_name 2 nd (by simp))
    (rs_cons (rs_set 3 nd (re_call F__law_shed (hr.mono (by decide)) rfl (ra_cons (re_var 0) (ra_cons (re_var 2) ra_nil))))
    (rs_one (rs_for (is := List.range 50) PassesOwn.never hc (ri_seq (re_lst (ra_cons re_int (ra_cons re_int (ra_cons re_int ra_nil))))) (rg_name 4 nd (by simp))
    (rs_one (rs_if (tr_not (tr_val (re_call F__law_right (hr.mono (by decide)) rfl (ra_cons (re_call F__law_day (hr.mono (by decide)) rfl (ra_cons (re_var 3) (ra_cons (re_var 4) ra_nil))) ra_nil))))
    (rs_one (rs_ret re_bl))
    rs_nil))))))
    (rs_one (rs_ret (re_cmp (opEq hr.u64) (re_call F_clear_cycles (hr.mono (by decide)) rfl (ra_cons (re_tup (ra_cons re_int (ra_cons re_int (ra_cons re_int ra_nil)))) ra_nil)) (re_lst (ra_cons (re_lst (ra_cons re_int ra_nil)) (ra_cons (re_lst (ra_cons re_int (ra_cons re_int ra_nil))) ra_nil))) (nomark _)))))))) (fun ds S kk hl hC => ?_) (fun ds S kk ek z => z)
  obtain ⟨ns, rfl, hl63, q⟩ := hC
  refine seq_gen fun N hN => ?_
  refine for_gen fun B hB => ?_
  unfold rFor iRng'
  simp only [↓rSeq, ↓rAsg, ↓gN, ↓rRet, ↓rRetN, ↓rIf, ↓rBin, ↓rUn, ↓rB, ↓rChain, ↓rC, ↓rVar_zero, ↓rVar_succ, ↓rSkip, ↓rDrop, ↓rCons, ↓rNil, ↓rTup, ↓rLst, ↓rCallB, ↓rAndV, ↓rOrV, ↓rNotV, ↓rNot, ↓rAnd, ↓rOr, ↓rIfE, ↓rBm, ↓rBm0, ↓rSl, ↓oNone, ↓oSome, ↓gIx, ↓gTup', ↓gCons', ↓gNil', ↓rCall, ↓rCallK, ↓rCallDf, ↓rTr, ↓rPar, ↓rTrL, ↓rPar3, ↓rLkD, ↓rLkS, ↓rCv, ↓rNever, ↓rBreak, ↓rCont, ↓i2, ↓i20, ↓b20, ↓rYes, wipeE, ↓negD, ↓endOf, ↓DL.envOf, List.map_cons, List.map_nil, List.cons_append, List.nil_append, List.length_cons, List.length_nil, List.replicate, List.getElem?_cons_zero, List.getElem?_cons_succ, List.set_cons_zero, List.set_cons_succ, Nat.zero_add, Nat.reduceAdd, Nat.reduceSub, ↓reduceIte, Bool.false_eq_true, Bool.xor_false, Bool.false_xor, Bool.true_xor, Bool.not_true, Bool.not_false, if_true, if_false, decide_true, decide_false]
  refine ⟨by decide, fun i env S' => DL.Sub S S' ∧ ∃ o1 o2 o3 o4 o5, env = [some (.lis (ns.map D.int)), o1, o2, o3, o4, o5], ⟨Sub.refl _, _, _, _, _, _, rfl⟩, fun _ _ _ _ _ => trivial, ?_, ?_⟩
  · rintro i x env S' hx ⟨sub, o1, o2, o3, o4, o5, rfl⟩
    have hx' : x = .int ((i + 1 : Nat) : Int) ∧ i < 5 := by
      unfold rngD at hx
      rw [List.getElem?_map, Option.map_eq_some_iff] at hx
      obtain ⟨j, hj, rfl⟩ := hx
      obtain ⟨lj, ej⟩ := List.getElem?_eq_some_iff.mp hj
      rw [List.getElem_range] at ej
      subst ej
      rw [List.length_range] at lj
      exact ⟨by rw [show (1 : Int) + ((i : Nat) : Int) = ((i + 1 : Nat) : Int) by omega], lj⟩
    obtain ⟨rfl, hi⟩ := hx'
    subst hB
    simp only [↓rSeq, ↓rAsg, ↓gN, ↓rRet, ↓rRetN, ↓rIf, ↓rBin, ↓rUn, ↓rB, ↓rChain, ↓rC, ↓rVar_zero, ↓rVar_succ, ↓rSkip, ↓rDrop, ↓rCons, ↓rNil, ↓rTup, ↓rLst, ↓rCallB, ↓rAndV, ↓rOrV, ↓rNotV, ↓rNot, ↓rAnd, ↓rOr, ↓rIfE, ↓rBm, ↓rBm0, ↓rSl, ↓oNone, ↓oSome, ↓gIx, ↓gTup', ↓gCons', ↓gNil', ↓rCall, ↓rCallK, ↓rCallDf, ↓rTr, ↓rPar, ↓rTrL, ↓rPar3, ↓rLkD, ↓rLkS, ↓rCv, ↓rNever, ↓rBreak, ↓rCont, ↓i2, ↓i20, ↓b20, ↓rYes, wipeE, ↓negD, ↓endOf, ↓DL.envOf, List.map_cons, List.map_nil, List.cons_append, List.nil_append, List.length_cons, List.length_nil, List.replicate, List.getElem?_cons_zero, List.getElem?_cons_succ, List.set_cons_zero, List.set_cons_succ, Nat.zero_add, Nat.reduceAdd, Nat.reduceSub, ↓reduceIte, Bool.false_eq_true, Bool.xor_false, Bool.false_xor, Bool.true_xor, Bool.not_true, Bool.not_false, if_true, if_false, decide_true, decide_false]
    unfold rComp iSeq
    simp only [↓rSeq, ↓rAsg, ↓gN, ↓rRet, ↓rRetN, ↓rIf, ↓rBin, ↓rUn, ↓rB, ↓rChain, ↓rC, ↓rVar_zero, ↓rVar_succ, ↓rSkip, ↓rDrop, ↓rCons, ↓rNil, ↓rTup, ↓rLst, ↓rCallB, ↓rAndV, ↓rOrV, ↓rNotV, ↓rNot, ↓rAnd, ↓rOr, ↓rIfE, ↓rBm, ↓rBm0, ↓rSl, ↓oNone, ↓oSome, ↓gIx, ↓gTup', ↓gCons', ↓gNil', ↓rCall, ↓rCallK, ↓rCallDf, ↓rTr, ↓rPar, ↓rTrL, ↓rPar3, ↓rLkD, ↓rLkS, ↓rCv, ↓rNever, ↓rBreak, ↓rCont, ↓i2, ↓i20, ↓b20, ↓rYes, wipeE, ↓negD, ↓endOf, ↓DL.envOf, List.map_cons, List.map_nil, List.cons_append, List.nil_append, List.length_cons, List.length_nil, List.replicate, List.getElem?_cons_zero, List.getElem?_cons_succ, List.set_cons_zero, List.set_cons_succ, Nat.zero_add, Nat.reduceAdd, Nat.reduceSub, ↓reduceIte, Bool.false_eq_true, Bool.xor_false, Bool.false_xor, Bool.true_xor, Bool.not_true, Bool.not_false, if_true, if_false, decide_true, decide_false]
    refine ⟨trivial, i + 1, rfl, by omega, fun p L S1 s1 fp e1 len good => ?_⟩
    dsimp only
    rw [e1]
    dsimp only
    refine ⟨fun j acc S2 => acc = [] ∧ DL.Sub S1 S2, ⟨rfl, Sub.refl _⟩, fun j acc S2 _ z => z.2 _ _ e1, ?_, ?_⟩
    · rintro j x acc S2 hx ⟨rfl, s2⟩
      rw [List.getElem?_map, Option.map_eq_some_iff] at hx
      obtain ⟨day, hday, rfl⟩ := hx
      obtain ⟨gl, gc⟩ := good day (List.mem_of_getElem? hday)
      refine ⟨trivial, day, rfl, ⟨gc, by omega, by omega⟩, fun S3 s3 => ?_⟩
      simp only [↓rSeq, ↓rAsg, ↓gN, ↓rRet, ↓rRetN, ↓rIf, ↓rBin, ↓rUn, ↓rB, ↓rChain, ↓rC, ↓rVar_zero, ↓rVar_succ, ↓rSkip, ↓rDrop, ↓rCons, ↓rNil, ↓rTup, ↓rLst, ↓rCallB, ↓rAndV, ↓rOrV, ↓rNotV, ↓rNot, ↓rAnd, ↓rOr, ↓rIfE, ↓rBm, ↓rBm0, ↓rSl, ↓oNone, ↓oSome, ↓gIx, ↓gTup', ↓gCons', ↓gNil', ↓rCall, ↓rCallK, ↓rCallDf, ↓rTr, ↓rPar, ↓rTrL, ↓rPar3, ↓rLkD, ↓rLkS, ↓rCv, ↓rNever, ↓rBreak, ↓rCont, ↓i2, ↓i20, ↓b20, ↓rYes, wipeE, ↓negD, ↓endOf, ↓DL.envOf, List.map_cons, List.map_nil, List.cons_append, List.nil_append, List.length_cons, List.length_nil, List.replicate, List.getElem?_cons_zero, List.getElem?_cons_succ, List.set_cons_zero, List.set_cons_succ, Nat.zero_add, Nat.reduceAdd, Nat.reduceSub, ↓reduceIte, Bool.false_eq_true, Bool.xor_false, Bool.false_xor, Bool.true_xor, Bool.not_true, Bool.not_false, if_true, if_false, decide_true, decide_false]
      exact ⟨S3, Sub.refl _, trivial, s2.trans s3⟩
    · rintro acc S2 ⟨rfl, s2⟩ p2 hp2
      refine ⟨by decide, fun p3 hp3 => nil_at (old_new hp3 Sto.upd_same) Sto.upd_same ?_⟩
      simp only [↓rSeq, ↓rAsg, ↓gN, ↓rRet, ↓rRetN, ↓rIf, ↓rBin, ↓rUn, ↓rB, ↓rChain, ↓rC, ↓rVar_zero, ↓rVar_succ, ↓rSkip, ↓rDrop, ↓rCons, ↓rNil, ↓rTup, ↓rLst, ↓rCallB, ↓rAndV, ↓rOrV, ↓rNotV, ↓rNot, ↓rAnd, ↓rOr, ↓rIfE, ↓rBm, ↓rBm0, ↓rSl, ↓oNone, ↓oSome, ↓gIx, ↓gTup', ↓gCons', ↓gNil', ↓rCall, ↓rCallK, ↓rCallDf, ↓rTr, ↓rPar, ↓rTrL, ↓rPar3, ↓rLkD, ↓rLkS, ↓rCv, ↓rNever, ↓rBreak, ↓rCont, ↓i2, ↓i20, ↓b20, ↓rYes, wipeE, ↓negD, ↓endOf, ↓DL.envOf, List.map_cons, List.map_nil, List.cons_append, List.nil_append, List.length_cons, List.length_nil, List.replicate, List.getElem?_cons_zero, List.getElem?_cons_succ, List.set_cons_zero, List.set_cons_succ, Nat.zero_add, Nat.reduceAdd, Nat.reduceSub, ↓reduceIte, Bool.false_eq_true, Bool.xor_false, Bool.false_xor, Bool.true_xor, Bool.not_true, Bool.not_false, if_true, if_false, decide_true, decide_false]
      exact ⟨_, Sub.refl _, ((sub.trans (s1.trans s2)).trans (Sub.upd hp2)).trans (Sub.upd hp3), _, _, _, _, _, rfl⟩
  · rintro env S' ⟨sub, o1, o2, o3, o4, o5, rfl⟩
    subst hN
    refine seq_gen fun N hN => ?_
    refine for_gen fun B hB => ?_
    unfold rFor iRng
    simp only [↓rSeq, ↓rAsg, ↓gN, ↓rRet, ↓rRetN, ↓rIf, ↓rBin, ↓rUn, ↓rB, ↓rChain, ↓rC, ↓rVar_zero, ↓rVar_succ, ↓rSkip, ↓rDrop, ↓rCons, ↓rNil, ↓rTup, ↓rLst, ↓rCallB, ↓rAndV, ↓rOrV, ↓rNotV, ↓rNot, ↓rAnd, ↓rOr, ↓rIfE, ↓rBm, ↓rBm0, ↓rSl, ↓oNone, ↓oSome, ↓gIx, ↓gTup', ↓gCons', ↓gNil', ↓rCall, ↓rCallK, ↓rCallDf, ↓rTr, ↓rPar, ↓rTrL, ↓rPar3, ↓rLkD, ↓rLkS, ↓rCv, ↓rNever, ↓rBreak, ↓rCont, ↓i2, ↓i20, ↓b20, ↓rYes, wipeE, ↓negD, ↓endOf, ↓DL.envOf, List.map_cons, List.map_nil, List.cons_append, List.nil_append, List.length_cons, List.length_nil, List.replicate, List.getElem?_cons_zero, List.getElem?_cons_succ, List.set_cons_zero, List.set_cons_succ, Nat.zero_add, Nat.reduceAdd, Nat.reduceSub, ↓reduceIte, Bool.false_eq_true, Bool.xor_false, Bool.false_xor, Bool.true_xor, Bool.not_true, Bool.not_false, if_true, if_false, decide_true, decide_false]
    refine len_at seq_lis (min_int ?_)
    rw [List.length_map]
    have n1 : (if ((ns.length : Nat) : Int) < 4 then ((ns.length : Nat) : Int) else 4) ≤ 4 := by split <;> omega
    revert n1
    generalize (if ((ns.length : Nat) : Int) < 4 then ((ns.length : Nat) : Int) else 4) = n4
    intro n1
    show maxD [.int 1, .int n4] S' _
    unfold maxD
    dsimp only
    have n2 : (if n4 > 1 then n4 else 1) ≤ 4 := by split <;> omega
    have n3 : 0 ≤ (if n4 > 1 then n4 else 1) := by split <;> omega
    revert n2 n3
    generalize (if n4 > 1 then n4 else 1) = many
    intro n2 n3
    refine ⟨by omega, by omega, fun i env S2 => DL.Sub S S2 ∧ ∃ o1 o2 o3 o4 o5, env = [some (.lis (ns.map D.int)), o1, o2, o3, o4, o5], ⟨sub, _, _, _, _, _, rfl⟩, fun _ _ _ _ _ => trivial, ?_, ?_⟩
    · rintro i x env S0 hx ⟨sub0, o1, o2, o3, o4, o5, rfl⟩
      obtain ⟨hi, rfl⟩ := rngD_it hx
      subst hB
      refine seq_gen fun N2 hN2 => ?_
      simp only [↓rSeq, ↓rAsg, ↓gN, ↓rRet, ↓rRetN, ↓rIf, ↓rBin, ↓rUn, ↓rB, ↓rChain, ↓rC, ↓rVar_zero, ↓rVar_succ, ↓rSkip, ↓rDrop, ↓rCons, ↓rNil, ↓rTup, ↓rLst, ↓rCallB, ↓rAndV, ↓rOrV, ↓rNotV, ↓rNot, ↓rAnd, ↓rOr, ↓rIfE, ↓rBm, ↓rBm0, ↓rSl, ↓oNone, ↓oSome, ↓gIx, ↓gTup', ↓gCons', ↓gNil', ↓rCall, ↓rCallK, ↓rCallDf, ↓rTr, ↓rPar, ↓rTrL, ↓rPar3, ↓rLkD, ↓rLkS, ↓rCv, ↓rNever, ↓rBreak, ↓rCont, ↓i2, ↓i20, ↓b20, ↓rYes, wipeE, ↓negD, ↓endOf, ↓DL.envOf, List.map_cons, List.map_nil, List.cons_append, List.nil_append, List.length_cons, List.length_nil, List.replicate, List.getElem?_cons_zero, List.getElem?_cons_succ, List.set_cons_zero, List.set_cons_succ, Nat.zero_add, Nat.reduceAdd, Nat.reduceSub, ↓reduceIte, Bool.false_eq_true, Bool.xor_false, Bool.false_xor, Bool.true_xor, Bool.not_true, Bool.not_false, if_true, if_false, decide_true, decide_false]
      refine ⟨trivial, ns, (i : Int), rfl, by omega, by omega, hl63, fun b0 p0 hb0 hp0 => ?_⟩
      subst hN2
      refine for_gen fun B hB => ?_
      unfold rFor iSeq rLst rCons
      simp only [↓rSeq, ↓rAsg, ↓gN, ↓rRet, ↓rRetN, ↓rIf, ↓rBin, ↓rUn, ↓rB, ↓rChain, ↓rC, ↓rVar_zero, ↓rVar_succ, ↓rSkip, ↓rDrop, ↓rCons, ↓rNil, ↓rTup, ↓rLst, ↓rCallB, ↓rAndV, ↓rOrV, ↓rNotV, ↓rNot, ↓rAnd, ↓rOr, ↓rIfE, ↓rBm, ↓rBm0, ↓rSl, ↓oNone, ↓oSome, ↓gIx, ↓gTup', ↓gCons', ↓gNil', ↓rCall, ↓rCallK, ↓rCallDf, ↓rTr, ↓rPar, ↓rTrL, ↓rPar3, ↓rLkD, ↓rLkS, ↓rCv, ↓rNever, ↓rBreak, ↓rCont, ↓i2, ↓i20, ↓b20, ↓rYes, wipeE, ↓negD, ↓endOf, ↓DL.envOf, List.map_cons, List.map_nil, List.cons_append, List.nil_append, List.length_cons, List.length_nil, List.replicate, List.getElem?_cons_zero, List.getElem?_cons_succ, List.set_cons_zero, List.set_cons_succ, Nat.zero_add, Nat.reduceAdd, Nat.reduceSub, ↓reduceIte, Bool.false_eq_true, Bool.xor_false, Bool.false_xor, Bool.true_xor, Bool.not_true, Bool.not_false, if_true, if_false, decide_true, decide_false]
      refine ⟨by decide, fun p1 hp1 => ?_⟩
      have x0 : Ex p0 (S0.upd p0 (.lst b0)) b0 ((S0.upd p0 (.lst b0)).upd p1 (.lst [D.int 200, D.int 60, D.int 9])) := (Ex.refl Sto.upd_same).new hp1
      have h1 : ((S0.upd p0 (.lst b0)).upd p1 (.lst [D.int 200, D.int 60, D.int 9])) p1 = some (.lst (([200, 60, 9] : List Int).map D.int)) := Sto.upd_same
      have s0 : DL.Sub S0 ((S0.upd p0 (.lst b0)).upd p1 (.lst [D.int 200, D.int 60, D.int 9])) := (Sub.upd hp0).trans (Sub.upd hp1)
      have n10 : p1 ≠ p0 := fun e => by rw [e, Sto.upd_same] at hp1; cases hp1
      revert x0 h1 s0
      generalize ((S0.upd p0 (.lst b0)).upd p1 (.lst [D.int 200, D.int 60, D.int 9])) = S2
      intro x0 h1 s0
      simp only [h1]
      refine ⟨fun j env S'' => ∃ b', ShedV (j * 4000) b' ∧ Ex p0 S2 b' S'' ∧ ∃ o1 o4 o5, env = [some (.lis (ns.map D.int)), o1, some (.int (i : Nat)), some (.ref p0), o4, o5], ⟨b0, hb0.mono (by omega), Ex.refl x0.bag, _, _, _, rfl⟩, ?_, ?_, ?_⟩
      · rintro j env S'' _ ⟨b', _, x', _⟩
        exact x'.rest p1 _ n10 h1
      · rintro j x env S'' hx2 ⟨b', hb', x', o1, o4, o5, rfl⟩
        obtain ⟨mo, hmo, rfl⟩ := mem_ints (List.mem_of_getElem? hx2)
        have hj : j < 3 := by
          have := (List.getElem?_eq_some_iff.mp hx2).1
          simpa using this
        have mo0 : 0 < mo ∧ mo ≤ 200 := by
          simp only [List.mem_cons, List.not_mem_nil, or_false] at hmo
          rcases hmo with rfl | rfl | rfl
          · omega
          · omega
          · omega
        subst hB
        simp only [↓rSeq, ↓rAsg, ↓gN, ↓rRet, ↓rRetN, ↓rIf, ↓rBin, ↓rUn, ↓rB, ↓rChain, ↓rC, ↓rVar_zero, ↓rVar_succ, ↓rSkip, ↓rDrop, ↓rCons, ↓rNil, ↓rTup, ↓rLst, ↓rCallB, ↓rAndV, ↓rOrV, ↓rNotV, ↓rNot, ↓rAnd, ↓rOr, ↓rIfE, ↓rBm, ↓rBm0, ↓rSl, ↓oNone, ↓oSome, ↓gIx, ↓gTup', ↓gCons', ↓gNil', ↓rCall, ↓rCallK, ↓rCallDf, ↓rTr, ↓rPar, ↓rTrL, ↓rPar3, ↓rLkD, ↓rLkS, ↓rCv, ↓rNever, ↓rBreak, ↓rCont, ↓i2, ↓i20, ↓b20, ↓rYes, wipeE, ↓negD, ↓endOf, ↓DL.envOf, List.map_cons, List.map_nil, List.cons_append, List.nil_append, List.length_cons, List.length_nil, List.replicate, List.getElem?_cons_zero, List.getElem?_cons_succ, List.set_cons_zero, List.set_cons_succ, Nat.zero_add, Nat.reduceAdd, Nat.reduceSub, ↓reduceIte, Bool.false_eq_true, Bool.xor_false, Bool.false_xor, Bool.true_xor, Bool.not_true, Bool.not_false, if_true, if_false, decide_true, decide_false]
        refine ⟨trivial, p0, mo, b', _, rfl, mo0.1, mo0.2, x'.bag, hb', by omega, fun b2 cs hb2 hcs => ⟨trivial, cs, rfl, hcs, fun S4 s4 => ?_⟩⟩
        simp only [↓rSeq, ↓rAsg, ↓gN, ↓rRet, ↓rRetN, ↓rIf, ↓rBin, ↓rUn, ↓rB, ↓rChain, ↓rC, ↓rVar_zero, ↓rVar_succ, ↓rSkip, ↓rDrop, ↓rCons, ↓rNil, ↓rTup, ↓rLst, ↓rCallB, ↓rAndV, ↓rOrV, ↓rNotV, ↓rNot, ↓rAnd, ↓rOr, ↓rIfE, ↓rBm, ↓rBm0, ↓rSl, ↓oNone, ↓oSome, ↓gIx, ↓gTup', ↓gCons', ↓gNil', ↓rCall, ↓rCallK, ↓rCallDf, ↓rTr, ↓rPar, ↓rTrL, ↓rPar3, ↓rLkD, ↓rLkS, ↓rCv, ↓rNever, ↓rBreak, ↓rCont, ↓i2, ↓i20, ↓b20, ↓rYes, wipeE, ↓negD, ↓endOf, ↓DL.envOf, List.map_cons, List.map_nil, List.cons_append, List.nil_append, List.length_cons, List.length_nil, List.replicate, List.getElem?_cons_zero, List.getElem?_cons_succ, List.set_cons_zero, List.set_cons_succ, Nat.zero_add, Nat.reduceAdd, Nat.reduceSub, ↓reduceIte, Bool.false_eq_true, Bool.xor_false, Bool.false_xor, Bool.true_xor, Bool.not_true, Bool.not_false, if_true, if_false, decide_true, decide_false]
        exact ⟨S4, Sub.refl _, b2, hb2.mono (by omega), x'.upd.grow s4, _, _, _, rfl⟩
      · rintro env S'' ⟨b', _, x', o1, o4, o5, rfl⟩
        exact ⟨S0, fun c o e => x'.rest c o (fun z => by rw [z, hp0] at e; cases e) (s0 c o e), sub0, _, _, _, _, _, rfl⟩
    · rintro env S0 ⟨sub0, o1, o2, o3, o4, o5, rfl⟩
      subst hN
      simp only [↓rSeq, ↓rAsg, ↓gN, ↓rRet, ↓rRetN, ↓rIf, ↓rBin, ↓rUn, ↓rB, ↓rChain, ↓rC, ↓rVar_zero, ↓rVar_succ, ↓rSkip, ↓rDrop, ↓rCons, ↓rNil, ↓rTup, ↓rLst, ↓rCallB, ↓rAndV, ↓rOrV, ↓rNotV, ↓rNot, ↓rAnd, ↓rOr, ↓rIfE, ↓rBm, ↓rBm0, ↓rSl, ↓oNone, ↓oSome, ↓gIx, ↓gTup', ↓gCons', ↓gNil', ↓rCall, ↓rCallK, ↓rCallDf, ↓rTr, ↓rPar, ↓rTrL, ↓rPar3, ↓rLkD, ↓rLkS, ↓rCv, ↓rNever, ↓rBreak, ↓rCont, ↓i2, ↓i20, ↓b20, ↓rYes, wipeE, ↓negD, ↓endOf, ↓DL.envOf, List.map_cons, List.map_nil, List.cons_append, List.nil_append, List.length_cons, List.length_nil, List.replicate, List.getElem?_cons_zero, List.getElem?_cons_succ, List.set_cons_zero, List.set_cons_succ, Nat.zero_add, Nat.reduceAdd, Nat.reduceSub, ↓reduceIte, Bool.false_eq_true, Bool.xor_false, Bool.false_xor, Bool.true_xor, Bool.not_true, Bool.not_false, if_true, if_false, decide_true, decide_false]
      have cok : CallsN [0, 1, 0] := ⟨fun n hn => by
        simp only [List.mem_cons, List.not_mem_nil, or_false] at hn
        rcases hn with rfl | rfl | rfl <;> exact ⟨by decide, by decide⟩, by decide, by decide⟩
      refine ⟨by decide, trivial, [0, 1, 0], rfl, cok, fun p qs S1 s1 fp e1 fq rows => ?_⟩
      rw [due_010] at rows
      refine ⟨by decide, fun a ha => ⟨by decide, fun b hb => ⟨by decide, fun c hc => ?_⟩⟩⟩
      have nba : b ≠ a := fun z => by rw [z, Sto.upd_same] at hb; cases hb
      have nca : c ≠ a := fun z => by rw [z, Sto.upd_ne nba.symm, Sto.upd_same] at hc; cases hc
      have ncb : c ≠ b := fun z => by rw [z, Sto.upd_same] at hc; cases hc
      have k1 := Sub.upd (o := .lst [D.int 0]) ha
      have k2 := k1.trans (Sub.upd (o := .lst [D.int 1, D.int 2]) hb)
      have k3 := k2.trans (Sub.upd (o := .lst [D.ref a, D.ref b]) hc)
      have r2 : Rows ((((S1.upd a (.lst [D.int 0])).upd b (.lst [D.int 1, D.int 2])).upd c (.lst [D.ref a, D.ref b]))) [a, b] [[some 0], [some 1, some 2]] := by
        refine (Rows.nil (S := (S1.upd a (.lst [D.int 0])).upd b (.lst [D.int 1, D.int 2]))).snoc (rows := []) (qs := []) (q := a) (r := [some 0]) (S' := ((S1.upd a (.lst [D.int 0])).upd b (.lst [D.int 1, D.int 2])).upd c (.lst [D.ref a, D.ref b])) (fun z hz => (nomatch hz)) (by rw [Sto.upd_ne nca.symm, Sto.upd_ne nba.symm, Sto.upd_same]; rfl) |>.snoc (fun z hz o e => e) (by rw [Sto.upd_ne ncb.symm, Sto.upd_same]; rfl)
      refine eq_of_G ⟨rowsP [[some 0], [some 1, some 2]], rowsP [[some 0], [some 1, some 2]], .lst (k3 _ _ e1) (rows_pyl (rows.keep fun z _ o e => k3 z o e)), .lst (xs := [a, b].map D.ref) Sto.upd_same (rows_pyl r2), by decide, by decide, ?_⟩
      have ev1 : PyData.eqv (rowsP [[some 0], [some 1, some 2]]) (rowsP [[some 0], [some 1, some 2]]) = true := by decide
      rw [ev1]
      exact ⟨_, (sub0.trans (s1.trans k3)), q⟩
end
theorem all_mk {l : PySem.W.OpenLaw} {w : World} {K : PySem.W.Frag} {h : Heap} {mg : Str → Option Value} {fa : Addr} (X : K.In h) (G : h.Ns mainGlobals mg) (hfa : mg "law" = some (.ref fa))
    {f0 : Addr} {oc0 kV0 dc0 pm0 cd0 ct0 : Value} {od0 an0 : Option Addr} {sl0 : Array (Option Value)}
    (a0 : PySem.W.nsIn K mainGlobals "_law_all_days" = some (some (.ref f0))) (l0 : K.lookup f0 = some ⟨oc0, od0, .func (PySem.W.fnOf "_law_all_days" "_law_all_days" (defArgs s_law_all_days) (defBody s_law_all_days) (defScope s_law_all_days) .none kV0 dc0 pm0 an0 cd0 ct0), sl0⟩) (c0 : PySem.W.codeIn K cd0 "_law_all_days" = true) (k0 : PySem.W.keepIn K (.ref f0) = true)
    {f1 : Addr} {oc1 kV1 dc1 pm1 cd1 ct1 : Value} {od1 an1 : Option Addr} {sl1 : Array (Option Value)}
    (a1 : PySem.W.nsIn K mainGlobals "_law_take" = some (some (.ref f1))) (l1 : K.lookup f1 = some ⟨oc1, od1, .func (PySem.W.fnOf "_law_take" "_law_take" (defArgs s_law_take) (defBody s_law_take) (defScope s_law_take) .none kV1 dc1 pm1 an1 cd1 ct1), sl1⟩) (c1 : PySem.W.codeIn K cd1 "_law_take" = true) (k1 : PySem.W.keepIn K (.ref f1) = true)
    {f2 : Addr} {oc2 kV2 dc2 pm2 cd2 ct2 : Value} {od2 an2 : Option Addr} {sl2 : Array (Option Value)}
    (a2 : PySem.W.nsIn K mainGlobals "_law_mixed" = some (some (.ref f2))) (l2 : K.lookup f2 = some ⟨oc2, od2, .func (PySem.W.fnOf "_law_mixed" "_law_mixed" (defArgs s_law_mixed) (defBody s_law_mixed) (defScope s_law_mixed) .none kV2 dc2 pm2 an2 cd2 ct2), sl2⟩) (c2 : PySem.W.codeIn K cd2 "_law_mixed" = true) (k2 : PySem.W.keepIn K (.ref f2) = true)
    {f3 : Addr} {oc3 kV3 dc3 pm3 cd3 ct3 : Value} {od3 an3 : Option Addr} {sl3 : Array (Option Value)}
    (a3 : PySem.W.nsIn K mainGlobals "_law_day" = some (some (.ref f3))) (l3 : K.lookup f3 = some ⟨oc3, od3, .func (PySem.W.fnOf "_law_day" "_law_day" (defArgs s_law_day) (defBody s_law_day) (defScope s_law_day) .none kV3 dc3 pm3 an3 cd3 ct3), sl3⟩) (c3 : PySem.W.codeIn K cd3 "_law_day" = true) (k3 : PySem.W.keepIn K (.ref f3) = true)
    {f4 : Addr} {oc4 kV4 dc4 pm4 cd4 ct4 : Value} {od4 an4 : Option Addr} {sl4 : Array (Option Value)}
    (a4 : PySem.W.nsIn K mainGlobals "_law_moved" = some (some (.ref f4))) (l4 : K.lookup f4 = some ⟨oc4, od4, .func (PySem.W.fnOf "_law_moved" "_law_moved" (defArgs s_law_moved) (defBody s_law_moved) (defScope s_law_moved) .none kV4 dc4 pm4 an4 cd4 ct4), sl4⟩) (c4 : PySem.W.codeIn K cd4 "_law_moved" = true) (k4 : PySem.W.keepIn K (.ref f4) = true)
    {f5 : Addr} {oc5 kV5 dc5 pm5 cd5 ct5 : Value} {od5 an5 : Option Addr} {sl5 : Array (Option Value)}
    (a5 : PySem.W.nsIn K mainGlobals "_law_due" = some (some (.ref f5))) (l5 : K.lookup f5 = some ⟨oc5, od5, .func (PySem.W.fnOf "_law_due" "_law_due" (defArgs s_law_due) (defBody s_law_due) (defScope s_law_due) .none kV5 dc5 pm5 an5 cd5 ct5), sl5⟩) (c5 : PySem.W.codeIn K cd5 "_law_due" = true) (k5 : PySem.W.keepIn K (.ref f5) = true)
    {f6 : Addr} {oc6 kV6 dc6 pm6 cd6 ct6 : Value} {od6 an6 : Option Addr} {sl6 : Array (Option Value)}
    (a6 : PySem.W.nsIn K mainGlobals "is_whole" = some (some (.ref f6))) (l6 : K.lookup f6 = some ⟨oc6, od6, .func (PySem.W.fnOf "is_whole" "is_whole" (defArgs s_is_whole) (defBody s_is_whole) (defScope s_is_whole) .none kV6 dc6 pm6 an6 cd6 ct6), sl6⟩) (c6 : PySem.W.codeIn K cd6 "is_whole" = true) (k6 : PySem.W.keepIn K (.ref f6) = true)
    {f7 : Addr} {oc7 kV7 dc7 pm7 cd7 ct7 : Value} {od7 an7 : Option Addr} {sl7 : Array (Option Value)}
    (a7 : PySem.W.nsIn K mainGlobals "is_car" = some (some (.ref f7))) (l7 : K.lookup f7 = some ⟨oc7, od7, .func (PySem.W.fnOf "is_car" "is_car" (defArgs s_is_car) (defBody s_is_car) (defScope s_is_car) .none kV7 dc7 pm7 an7 cd7 ct7), sl7⟩) (c7 : PySem.W.codeIn K cd7 "is_car" = true) (k7 : PySem.W.keepIn K (.ref f7) = true)
    {f8 : Addr} {oc8 kV8 dc8 pm8 cd8 ct8 : Value} {od8 an8 : Option Addr} {sl8 : Array (Option Value)}
    (a8 : PySem.W.nsIn K mainGlobals "are_cars" = some (some (.ref f8))) (l8 : K.lookup f8 = some ⟨oc8, od8, .func (PySem.W.fnOf "are_cars" "are_cars" (defArgs s_are_cars) (defBody s_are_cars) (defScope s_are_cars) .none kV8 dc8 pm8 an8 cd8 ct8), sl8⟩) (c8 : PySem.W.codeIn K cd8 "are_cars" = true) (k8 : PySem.W.keepIn K (.ref f8) = true)
    {f9 : Addr} {oc9 kV9 dc9 pm9 cd9 ct9 : Value} {od9 an9 : Option Addr} {sl9 : Array (Option Value)}
    (a9 : PySem.W.nsIn K mainGlobals "are_calls" = some (some (.ref f9))) (l9 : K.lookup f9 = some ⟨oc9, od9, .func (PySem.W.fnOf "are_calls" "are_calls" (defArgs s_are_calls) (defBody s_are_calls) (defScope s_are_calls) .none kV9 dc9 pm9 an9 cd9 ct9), sl9⟩) (c9 : PySem.W.codeIn K cd9 "are_calls" = true) (k9 : PySem.W.keepIn K (.ref f9) = true)
    {f10 : Addr} {oc10 kV10 dc10 pm10 cd10 ct10 : Value} {od10 an10 : Option Addr} {sl10 : Array (Option Value)}
    (a10 : PySem.W.nsIn K mainGlobals "check_calls" = some (some (.ref f10))) (l10 : K.lookup f10 = some ⟨oc10, od10, .func (PySem.W.fnOf "check_calls" "check_calls" (defArgs s_check_calls) (defBody s_check_calls) (defScope s_check_calls) .none kV10 dc10 pm10 an10 cd10 ct10), sl10⟩) (c10 : PySem.W.codeIn K cd10 "check_calls" = true) (k10 : PySem.W.keepIn K (.ref f10) = true)
    {f11 : Addr} {oc11 kV11 dc11 pm11 cd11 ct11 : Value} {od11 an11 : Option Addr} {sl11 : Array (Option Value)}
    (a11 : PySem.W.nsIn K mainGlobals "cycle_from" = some (some (.ref f11))) (l11 : K.lookup f11 = some ⟨oc11, od11, .func (PySem.W.fnOf "cycle_from" "cycle_from" (defArgs s_cycle_from) (defBody s_cycle_from) (defScope s_cycle_from) .none kV11 dc11 pm11 an11 cd11 ct11), sl11⟩) (c11 : PySem.W.codeIn K cd11 "cycle_from" = true) (k11 : PySem.W.keepIn K (.ref f11) = true)
    {f12 : Addr} {oc12 kV12 dc12 pm12 cd12 ct12 : Value} {od12 an12 : Option Addr} {sl12 : Array (Option Value)}
    (a12 : PySem.W.nsIn K mainGlobals "cycles_in" = some (some (.ref f12))) (l12 : K.lookup f12 = some ⟨oc12, od12, .func (PySem.W.fnOf "cycles_in" "cycles_in" (defArgs s_cycles_in) (defBody s_cycles_in) (defScope s_cycles_in) .none kV12 dc12 pm12 an12 cd12 ct12), sl12⟩) (c12 : PySem.W.codeIn K cd12 "cycles_in" = true) (k12 : PySem.W.keepIn K (.ref f12) = true)
    {f13 : Addr} {oc13 kV13 dc13 pm13 cd13 ct13 : Value} {od13 an13 : Option Addr} {sl13 : Array (Option Value)}
    (a13 : PySem.W.nsIn K mainGlobals "gaps_in_order" = some (some (.ref f13))) (l13 : K.lookup f13 = some ⟨oc13, od13, .func (PySem.W.fnOf "gaps_in_order" "gaps_in_order" (defArgs s_gaps_in_order) (defBody s_gaps_in_order) (defScope s_gaps_in_order) .none kV13 dc13 pm13 an13 cd13 ct13), sl13⟩) (c13 : PySem.W.codeIn K cd13 "gaps_in_order" = true) (k13 : PySem.W.keepIn K (.ref f13) = true)
    {f14 : Addr} {oc14 kV14 dc14 pm14 cd14 ct14 : Value} {od14 an14 : Option Addr} {sl14 : Array (Option Value)}
    (a14 : PySem.W.nsIn K mainGlobals "clear_cycles" = some (some (.ref f14))) (l14 : K.lookup f14 = some ⟨oc14, od14, .func (PySem.W.fnOf "clear_cycles" "clear_cycles" (defArgs s_clear_cycles) (defBody s_clear_cycles) (defScope s_clear_cycles) .none kV14 dc14 pm14 an14 cd14 ct14), sl14⟩) (c14 : PySem.W.codeIn K cd14 "clear_cycles" = true) (k14 : PySem.W.keepIn K (.ref f14) = true)
    {f15 : Addr} {oc15 kV15 dc15 pm15 cd15 ct15 : Value} {od15 an15 : Option Addr} {sl15 : Array (Option Value)}
    (a15 : PySem.W.nsIn K mainGlobals "_law_right" = some (some (.ref f15))) (l15 : K.lookup f15 = some ⟨oc15, od15, .func (PySem.W.fnOf "_law_right" "_law_right" (defArgs s_law_right) (defBody s_law_right) (defScope s_law_right) .none kV15 dc15 pm15 an15 cd15 ct15), sl15⟩) (c15 : PySem.W.codeIn K cd15 "_law_right" = true) (k15 : PySem.W.keepIn K (.ref f15) = true)
    {f16 : Addr} {oc16 kV16 dc16 pm16 cd16 ct16 : Value} {od16 an16 : Option Addr} {sl16 : Array (Option Value)}
    (a16 : PySem.W.nsIn K mainGlobals "_law_shed" = some (some (.ref f16))) (l16 : K.lookup f16 = some ⟨oc16, od16, .func (PySem.W.fnOf "_law_shed" "_law_shed" (defArgs s_law_shed) (defBody s_law_shed) (defScope s_law_shed) .none kV16 dc16 pm16 an16 cd16 ct16), sl16⟩) (c16 : PySem.W.codeIn K cd16 "_law_shed" = true) (k16 : PySem.W.keepIn K (.ref f16) = true)
    {f17 : Addr} {oc17 kV17 dc17 pm17 cd17 ct17 : Value} {od17 an17 : Option Addr} {sl17 : Array (Option Value)}
    (a17 : PySem.W.nsIn K mainGlobals "law" = some (some (.ref f17))) (l17 : K.lookup f17 = some ⟨oc17, od17, .func (PySem.W.fnOf "law" "law" (defArgs s_law) (defBody s_law) (defScope s_law) .none kV17 dc17 pm17 an17 cd17 ct17), sl17⟩) (c17 : PySem.W.codeIn K cd17 "law" = true) (k17 : PySem.W.keepIn K (.ref f17) = true)
    {t0 : Tok} (z0 : PySem.W.nsIn K mainGlobals "CARS" = some (some (.int 60 t0)))
    {t1 : Tok} (z1 : PySem.W.nsIn K mainGlobals "MOST_CALLS" = some (some (.int 200 t1)))
    (z2 : PySem.W.nsIn K mainGlobals "bool" = some none)
    (z3 : PySem.W.nsIn K mainGlobals "enumerate" = some none)
    (z4 : PySem.W.nsIn K mainGlobals "int" = some none)
    (z5 : PySem.W.nsIn K mainGlobals "isinstance" = some none)
    (z6 : PySem.W.nsIn K mainGlobals "len" = some none)
    (z7 : PySem.W.nsIn K mainGlobals "list" = some none)
    (z8 : PySem.W.nsIn K mainGlobals "max" = some none)
    (z9 : PySem.W.nsIn K mainGlobals "min" = some none)
    (z10 : PySem.W.nsIn K mainGlobals "range" = some none)
    (z11 : PySem.W.nsIn K mainGlobals "repr" = some none)
    (z12 : PySem.W.nsIn K mainGlobals "set" = some none)
    (z13 : PySem.W.nsIn K mainGlobals "sorted" = some none)
    (z14 : PySem.W.nsIn K mainGlobals "tuple" = some none)
    (z15 : PySem.W.nsIn K mainGlobals "type" = some none)
    : ∃ fd : FuncData, (∀ (s : Shared) (v : Value), BindsTo s fd ⟨[v], []⟩ [("script", v)]) ∧ ∀ base : Heap, K.In base → base.Ns mainGlobals mg → FnG l.prog w K mg base CX0 8 fa fd ["script"] (spD K 1 c_law) := by
  have e := hfa.symm.trans (PySem.W.mg_of X G a17)
  cases e
  have T : Txt mg := ⟨⟨_, PySem.W.mg_of X G z0⟩, ⟨_, PySem.W.mg_of X G z1⟩, PySem.W.mg_none_of X G z2, PySem.W.mg_none_of X G z3, PySem.W.mg_none_of X G z4, PySem.W.mg_none_of X G z5, PySem.W.mg_none_of X G z6, PySem.W.mg_none_of X G z7, PySem.W.mg_none_of X G z8, PySem.W.mg_none_of X G z9, PySem.W.mg_none_of X G z10, PySem.W.mg_none_of X G z11, PySem.W.mg_none_of X G z12, PySem.W.mg_none_of X G z13, PySem.W.mg_none_of X G z14, PySem.W.mg_none_of X G z15⟩
  refine ⟨PySem.W.fnOf "law" "law" (defArgs s_law) (defBody s_law) (defScope s_law) .none kV17 dc17 pm17 an17 cd17 ct17, fun s v => .of_eq rfl, fun base _ _ => ?_⟩
  have F__law_all_days : Callee l.prog w K mg base CX0 1 "_law_all_days" 2 c_law_all_days := ok_law_all_days T  (def_at X G a0 l0 c0 k0 fun _ _ _ _ _ _ us hl => match us, hl with | [_, _], _ => rfl)
  have F__law_take : Callee l.prog w K mg base CX0 1 "_law_take" 2 c_law_take := ok_law_take T  (def_at X G a1 l1 c1 k1 fun _ _ _ _ _ _ us hl => match us, hl with | [_, _], _ => rfl)
  have F__law_mixed : Callee l.prog w K mg base CX0 2 "_law_mixed" 2 c_law_mixed := ok_law_mixed T F__law_take (def_at X G a2 l2 c2 k2 fun _ _ _ _ _ _ us hl => match us, hl with | [_, _], _ => rfl)
  have F__law_day : Callee l.prog w K mg base CX0 3 "_law_day" 2 c_law_day := ok_law_day T F__law_mixed F__law_take (def_at X G a3 l3 c3 k3 fun _ _ _ _ _ _ us hl => match us, hl with | [_, _], _ => rfl)
  have F__law_moved : Callee l.prog w K mg base CX0 1 "_law_moved" 2 c_law_moved := ok_law_moved T  (def_at X G a4 l4 c4 k4 fun _ _ _ _ _ _ us hl => match us, hl with | [_, _], _ => rfl)
  have F__law_due : Callee l.prog w K mg base CX0 2 "_law_due" 1 c_law_due := ok_law_due T F__law_moved (def_at X G a5 l5 c5 k5 fun _ _ _ _ _ _ us hl => match us, hl with | [_], _ => rfl)
  have F_is_whole : Callee l.prog w K mg base CX0 1 "is_whole" 1 c_is_whole := ok_is_whole T  (def_at X G a6 l6 c6 k6 fun _ _ _ _ _ _ us hl => match us, hl with | [_], _ => rfl)
  have F_is_car : Callee l.prog w K mg base CX0 2 "is_car" 1 c_is_car := ok_is_car T F_is_whole (def_at X G a7 l7 c7 k7 fun _ _ _ _ _ _ us hl => match us, hl with | [_], _ => rfl)
  have F_are_cars : Callee l.prog w K mg base CX0 3 "are_cars" 1 c_are_cars := ok_are_cars T F_is_car (def_at X G a8 l8 c8 k8 fun _ _ _ _ _ _ us hl => match us, hl with | [_], _ => rfl)
  have F_are_calls : Callee l.prog w K mg base CX0 4 "are_calls" 1 c_are_calls := ok_are_calls T F_are_cars (def_at X G a9 l9 c9 k9 fun _ _ _ _ _ _ us hl => match us, hl with | [_], _ => rfl)
  have F_check_calls : Callee l.prog w K mg base CX0 5 "check_calls" 1 c_check_calls := ok_check_calls T F_are_calls (def_at X G a10 l10 c10 k10 fun _ _ _ _ _ _ us hl => match us, hl with | [_], _ => rfl)
  have F_cycle_from : Callee l.prog w K mg base CX0 1 "cycle_from" 2 c_cycle_from := ok_cycle_from T  (def_at X G a11 l11 c11 k11 fun _ _ _ _ _ _ us hl => match us, hl with | [_, _], _ => rfl)
  have F_cycles_in : Callee l.prog w K mg base CX0 2 "cycles_in" 1 c_cycles_in := ok_cycles_in T F_cycle_from (def_at X G a12 l12 c12 k12 fun _ _ _ _ _ _ us hl => match us, hl with | [_], _ => rfl)
  have F_gaps_in_order : Callee l.prog w K mg base CX0 1 "gaps_in_order" 1 c_gaps_in_order := ok_gaps_in_order T  (def_at X G a13 l13 c13 k13 fun _ _ _ _ _ _ us hl => match us, hl with | [_], _ => rfl)
  have F_clear_cycles : Callee l.prog w K mg base CX0 6 "clear_cycles" 1 c_clear_cycles := ok_clear_cycles T F_check_calls F_cycles_in F_gaps_in_order (def_at X G a14 l14 c14 k14 fun _ _ _ _ _ _ us hl => match us, hl with | [_], _ => rfl)
  have F__law_right : Callee l.prog w K mg base CX0 7 "_law_right" 1 c_law_right := ok_law_right T F__law_due F_clear_cycles (def_at X G a15 l15 c15 k15 fun _ _ _ _ _ _ us hl => match us, hl with | [_], _ => rfl)
  have F__law_shed : Callee l.prog w K mg base CX0 1 "_law_shed" 2 c_law_shed := ok_law_shed T  (def_at X G a16 l16 c16 k16 fun _ _ _ _ _ _ us hl => match us, hl with | [_, _], _ => rfl)
  exact ok_law T F__law_all_days F__law_day F__law_right F__law_shed F_clear_cycles (fun_mk (st := s_law) l17 c17 k17)
end K19
open PySem PySem.W PyProof.Rows in
set_option maxRecDepth 100000 in
set_option maxHeartbeats 0 in
theorem PySem.Challenge.cw_deadlane_k19_cycles_of_clear_moments_holds : PySem.Challenge.rw_deadlane_k19_cycles_of_clear_moments.Holds := by
  w_on; o_law; k_head; (case hw => w_witness2)
  k_fill
  refine DL.walkG (l := PySem.Challenge.rw_deadlane_k19_cycles_of_clear_moments) (n := 63) (k := 8) (x := "script") (C := DL.c_law) rfl (by decide) rfl ⟨rfl, by decide, by decide⟩ (fun w h Y => PySem.W.kIn_of Y) ?F (fun ns hn => ⟨ns, rfl, hn, rfl⟩)
  case F =>
    intro w mg fa h KX G hmg
    refine' K19.all_mk KX G hmg ?a0 ?l0 ?c0 ?k0 ?a1 ?l1 ?c1 ?k1 ?a2 ?l2 ?c2 ?k2 ?a3 ?l3 ?c3 ?k3 ?a4 ?l4 ?c4 ?k4 ?a5 ?l5 ?c5 ?k5 ?a6 ?l6 ?c6 ?k6 ?a7 ?l7 ?c7 ?k7 ?a8 ?l8 ?c8 ?k8 ?a9 ?l9 ?c9 ?k9 ?a10 ?l10 ?c10 ?k10 ?a11 ?l11 ?c11 ?k11 ?a12 ?l12 ?c12 ?k12 ?a13 ?l13 ?c13 ?k13 ?a14 ?l14 ?c14 ?k14 ?a15 ?l15 ?c15 ?k15 ?a16 ?l16 ?c16 ?k16 ?a17 ?l17 ?c17 ?k17 ?z0 ?z1 ?z2 ?z3 ?z4 ?z5 ?z6 ?z7 ?z8 ?z9 ?z10 ?z11 ?z12 ?z13 ?z14 ?z15
    (case a0 => k_is)
    (case l0 => k_is)
    (case c0 => k_is)
    (case k0 => k_is)
    (case a1 => k_is)
    (case l1 => k_is)
    (case c1 => k_is)
    (case k1 => k_is)
    (case a2 => k_is)
    (case l2 => k_is)
    (case c2 => k_is)
    (case k2 => k_is)
    (case a3 => k_is)
    (case l3 => k_is)
    (case c3 => k_is)
    (case k3 => k_is)
    (case a4 => k_is)
    (case l4 => k_is)
    (case c4 => k_is)
    (case k4 => k_is)
    (case a5 => k_is)
    (case l5 => k_is)
    (case c5 => k_is)
    (case k5 => k_is)
    (case a6 => k_is)
    (case l6 => k_is)
    (case c6 => k_is)
    (case k6 => k_is)
    (case a7 => k_is)
    (case l7 => k_is)
    (case c7 => k_is)
    (case k7 => k_is)
    (case a8 => k_is)
    (case l8 => k_is)
    (case c8 => k_is)
    (case k8 => k_is)
    (case a9 => k_is)
    (case l9 => k_is)
    (case c9 => k_is)
    (case k9 => k_is)
    (case a10 => k_is)
    (case l10 => k_is)
    (case c10 => k_is)
    (case k10 => k_is)
    (case a11 => k_is)
    (case l11 => k_is)
    (case c11 => k_is)
    (case k11 => k_is)
    (case a12 => k_is)
    (case l12 => k_is)
    (case c12 => k_is)
    (case k12 => k_is)
    (case a13 => k_is)
    (case l13 => k_is)
    (case c13 => k_is)
    (case k13 => k_is)
    (case a14 => k_is)
    (case l14 => k_is)
    (case c14 => k_is)
    (case k14 => k_is)
    (case a15 => k_is)
    (case l15 => k_is)
    (case c15 => k_is)
    (case k15 => k_is)
    (case a16 => k_is)
    (case l16 => k_is)
    (case c16 => k_is)
    (case k16 => k_is)
    (case a17 => k_is)
    (case l17 => k_is)
    (case c17 => k_is)
    (case k17 => k_is)
    (case z0 => k_is)
    (case z1 => k_is)
    (case z2 => k_is)
    (case z3 => k_is)
    (case z4 => k_is)
    (case z5 => k_is)
    (case z6 => k_is)
    (case z7 => k_is)
    (case z8 => k_is)
    (case z9 => k_is)
    (case z10 => k_is)
    (case z11 => k_is)
    (case z12 => k_is)
    (case z13 => k_is)
    (case z14 => k_is)
    (case z15 => k_is)
