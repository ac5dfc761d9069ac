import PyProof.Rows.All
import Wide.All
import OpenK.AllK
import Wide.FinOn
import HandS.Walk
import HandS.NoneIn
import HandS.DictComp
import HandS.Iter
import HandS.ForMost
import HandS.TupAny
import HandS.TupMul
import HandS.Conv
import HandS.IsInst
import HandS.Deep
import HandS.RaiseMore
import HandS.Wide
import HandS.SetFor
import HandS.Strs
import HandS.Zip
import HandS.Style
import HandS.SortInts
import KE.GoesNew
import HandS.Star
import HandS.Defaults
import HandS.MakeKwOnly
import PyProof.SeqIndex
import PySem.Challenge.RW_deadlane_k01_lanes_and_calls
set_option Elab.async false
set_option linter.all false
set_option maxRecDepth 100000
set_option maxHeartbeats 4000000
/-! dicts whose keys are None or ints -/
namespace DL
open PySem PySem.Spec PyProof.Rows L2
abbrev Ck := Option Int
def ckV : Ck → V
  | none => .non
  | some i => .int i
def wide : Ck → Option Key
  | none => none
  | some i => some (.inl i)
theorem wide_inj {a b : Ck} (e : wide a = wide b) : a = b := by
  cases a <;> cases b <;> first | rfl | (cases e; rfl) | cases e
theorem wide_dec (a b : Ck) : decide (wide a = wide b) = decide (a = b) := by
  by_cases h : a = b
  · subst h; rw [decide_eq_true rfl, decide_eq_true rfl]
  · rw [decide_eq_false h, decide_eq_false fun e => h (wide_inj e)]
def ckHash : Ck → Int
  | none => reduceHash 0xFCA86420
  | some i => hashInt i
theorem wide_hash (P : Program) (w : World) : ∀ k : Ck, (noneKind P w).hash (wide k) = ckHash k
  | none => rfl
  | some _ => rfl
/-- None or an int as a key; no world is asked for its hash -/
def caseK (P : Program) (w : World) : PySem.KeyKind P w Ck where
  is := fun k v => nkIs (wide k) v
  hash := ckHash
  inj := fun v a b ha hb => wide_inj ((noneKind P w).inj v _ _ ha hb)
  byValue := fun k v h => (noneKind P w).byValue _ v h
  pyHash := @fun A E s k v Q hv h => (noneKind P w).pyHash (k := wide k) hv (by rw [wide_hash]; exact h)
  eqBool := @fun A E s a b u v Q hu hv h => (noneKind P w).eqBool (a := wide a) (b := wide b) hu hv (by rw [wide_dec]; exact h)
  «strs» := fun k x t v h => (noneKind P w).strs _ x t v h
theorem ck_is {P : Program} {w : World} {k : Ck} {u : Value} (r : RelV (ckV k) u) : (caseK P w).is k u = true := by
  cases k with
  | none => cases (show u = Value.none from r); rfl
  | some i =>
    obtain ⟨t, rfl⟩ := r
    exact keyIs_int i t
theorem ck_rel {P : Program} {w : World} {k : Ck} {u : Value} (h : (caseK P w).is k u = true) : RelV (ckV k) u := by
  cases k with
  | none => exact nk_none h
  | some i => exact relV_key (k := .inl i) h
/-- what the dict at a holds -/
def DkAt (a : Addr) (kvs : List (Ck × V)) : Heap → Prop := fun h => kvs.length ≤ sizeLine ∧ (a == sysModules) = false ∧ ∃ vs, KV kvs vs ∧ ∀ (P : Program) (w : World), h.DictOf (caseK P w) a vs
abbrev dkO (a : Addr) (kvs : List (Ck × V)) : HO := .ext (DkAt a kvs)
section
variable {P : Program} {w : World} {H : Hp} {h : Heap} {a : Addr} {kvs : List (Ck × V)}
theorem any_world {P' : Program} {w' : World} {vs : List (Ck × Value)} (d : h.DictOf (caseK P w) a vs) : h.DictOf (caseK P' w') a vs := by
  obtain ⟨o, es, ep, g, x, t, ky, pr, nd⟩ := d
  have go : ∀ {l : List DictEntry} {m : List (Ck × Value)}, Pairs (caseK P w) l m → Pairs (caseK P' w') l m := fun {l m} z => by
    induction z with
    | nil => exact .nil
    | cons i e _ ih => exact .cons i e ih
  exact ⟨o, es, ep, g, x, t, ky, go pr, nd⟩
theorem dk_ok {vs : List (Ck × Value)} (z : kvs.length ≤ sizeLine) (n : (a == sysModules) = false) (r : KV kvs vs) (d : h.DictOf (caseK P w) a vs) : ObjOk P w H h a (dkO a kvs) := by
  refine ⟨⟨z, n, vs, r, fun P' w' => any_world d⟩, ?_, ?_⟩
  · obtain ⟨o, _, _, e, _⟩ := d
    exact ⟨o, e⟩
  · rintro h1 h2 ⟨z', n', vs', r', d'⟩ k
    refine ⟨z', n', vs', r', fun P' w' => ?_⟩
    obtain ⟨o, es, ep, e, rest⟩ := d' P' w'
    exact ⟨o, es, ep, k o e, rest⟩
theorem dk_at (ok : ObjOk P w H h a (dkO a kvs)) : kvs.length ≤ sizeLine ∧ (a == sysModules) = false ∧ ∃ vs, KV kvs vs ∧ h.DictOf (caseK P w) a vs := by
  obtain ⟨⟨z, n, vs, r, d⟩, _⟩ := ok
  exact ⟨z, n, vs, r, d P w⟩
theorem dk_nil (hb : sysModules < h.objs.size) : ObjOk P w H (h.push { cls := .type "dict", data := .dict #[] }) h.objs.size (dkO h.objs.size []) :=
  dk_ok (Nat.zero_le _) (beq_eq_false_iff_ne.mpr (Nat.ne_of_gt hb)) .nil (Heap.DictOf.new h)
end
section
variable {X : Cx} {pins : List (Addr × Obj)} {σ : L2.St} {H : Hp} {s : Shared} {a : Addr} {kvs : List (Ck × V)} {k : Ck} {u r : Value} {v : V}
/-- a locked one -/
theorem lk_at {o : Obj} (I : Inv X pins σ H s) (e : H a = some (.frz o (dkO a kvs))) : s.heap.get? a = some o ∧ kvs.length ≤ sizeLine ∧ (a == sysModules) = false ∧ ∃ vs, KV kvs vs ∧ s.heap.DictOf (caseK X.prog X.w) a vs := by
  obtain ⟨g, x⟩ := I.hok a _ e
  exact ⟨g, dk_at x⟩
theorem lk_get {o : Obj} {E : Value → Shared → Prop} {A : Around} {Q : Value → Shared → Prop} (I : Inv X pins σ H s) (e : H a = some (.frz o (dkO a kvs))) (ry : RelV (ckV k) u) (l : valV kvs k = some v) (q : ∀ w' s', Inv X pins σ H s' → RelV v w' → Q w' s') :
    wpAny (model X.prog X.w) A (getItem (.ref a) u) Q E s := by
  obtain ⟨_, _, _, vs, rel, d⟩ := lk_at I e
  obtain ⟨w', hw, rw'⟩ := RelO.some_of (v := v) (o := valueAt vs k) (by rw [← l]; exact rel.val k)
  exact wpAny_getItem_of (ck_is ry) d.mapOf hw (q w' _ (I.tok _) rw')
theorem dk_put {E : Value → Shared → Prop} {Q : Unit → Shared → Prop} (I : Inv X pins σ H s) (e : H a = some (dkO a kvs)) (hz : kvs.length < sizeLine) (ry : RelV (ckV k) u) (rv : RelV v r)
    (q : ∀ s', Inv X pins σ (L2.upd H a (dkO a (putK kvs k v))) s' → Q () s') : wpAny (model X.prog X.w) X.A (dictSet a u r) Q E s := by
  obtain ⟨z, n, vs, rel, d⟩ := dk_at (I.hok a _ e)
  have l := length_putK kvs k v
  refine wpAny_dictSet_pairs (hsz := by rw [← rel.length]; exact z) (ck_is ry) d fun h' d' sb => q _ ?_
  obtain ⟨o, es, ep, g, rest⟩ := id d'
  exact d_write I (by rw [e]; exact True.intro) sb ⟨o, g⟩ (dk_ok (by omega) n (rel.put k rv) d')
theorem dk_set {E : Value → Shared → Prop} {A : Around} {Q : Unit → Shared → Prop} (I : Inv X pins σ H s) (e : H a = some (dkO a kvs)) (hz : kvs.length < sizeLine) (ry : RelV (ckV k) u) (rv : RelV v r)
    (q : ∀ s', Inv X pins σ (L2.upd H a (dkO a (putK kvs k v))) s' → Q () s') : wpAny (model X.prog X.w) A (setItem (.ref a) u r) Q E s := by
  obtain ⟨z, n, vs, rel, d⟩ := dk_at (I.hok a _ e)
  have l := length_putK kvs k v
  refine wpAny_setItem_pairs (hsz := by rw [← rel.length]; exact z) (ck_is ry) d fun h' d' sb => q _ ?_
  obtain ⟨o, es, ep, g, rest⟩ := id d'
  exact d_write I (by rw [e]; exact True.intro) sb ⟨o, g⟩ (dk_ok (by omega) n (rel.put k rv) d')
end
end DL
/-! a dict comprehension whose keys are None or ints -/
namespace DL
open PySem PySem.Spec PyProof.Rows L2
section
variable {X : Cx}
/-- one turn of the block: the target, the test, the key, the value, and what the dict holds then -/
abbrev turnK (g : TG) (tt : TT) (tk tv : TE) (vs : List Nat) (σ : L2.St) (D : Addr) (Nx : Hp → Prop) : V → Hp → Prop := fun x H' =>
  g x (L2.wipe σ vs) H' fun σ2 H2 => L2.wipe σ2 vs = L2.wipe σ vs ∧ tt σ2 H2 fun b H3 =>
    if b = true then tk σ2 H3 fun y H4 => tv σ2 H4 fun z H5 => ∃ kvs k, y = ckV k ∧ H5 D = some (dkO D kvs) ∧ kvs.length < sizeLine ∧ Nx (L2.upd H5 D (dkO D (putK kvs k z))) else Nx H3
def tDk (wi : TI) (g : TG) (tt : TT) (tk tv : TE) (vs : List Nat) : TE := fun σ H Q => wi σ H fun J H1 => ∀ D, H1 D = none → ∃ W : Nat → Nat → Hp → Prop, (∃ m, W 0 m (L2.upd H1 D (dkO D []))) ∧
  ∀ i m H, W i m H → (J.stop i H ∧ Q (.ref D) H) ∨ (J.go i H ∧ ∃ Nx : Hp → Prop, (∀ H', Nx H' → ∃ m', m' < m ∧ W (i + 1) m' H') ∧ ∀ x H', J.yld i H x H' → turnK g tt tk tv vs σ D Nx x H')
theorem pe_dk {kx vx tg iter : Expr} {ifs : List Expr} {scope : Scope} {own : List (Str × Nat)} {pos : Pos} {wi : TI} {g : TG} {tt : TT} {tk tv : TE} (calm : X.calm = true) (nd : X.N.Nodup) (wk : PI X tg iter wi) (blk : BlkOk X.N X.env.scope scope own)
    (ptg : ∀ (s : Shared) (H : Hp) (C : Addr) (cl : List (Str × Addr)) (fp : List Addr), PG (X.blk s H scope (compEnvC scope cl C X.env) fp) tg g)
    (pif : ∀ (s : Shared) (H : Hp) (C : Addr) (cl : List (Str × Addr)) (fp : List Addr), PTs (X.blk s H scope (compEnvC scope cl C X.env) fp) ifs tt)
    (pke : ∀ (s : Shared) (H : Hp) (C : Addr) (cl : List (Str × Addr)) (fp : List Addr), PE (X.blk s H scope (compEnvC scope cl C X.env) fp) kx tk)
    (pva : ∀ (s : Shared) (H : Hp) (C : Addr) (cl : List (Str × Addr)) (fp : List Addr), PE (X.blk s H scope (compEnvC scope cl C X.env) fp) vx tv) (fold : ∀ x, foldedSetIterable iter X.env x = pure x := by intro _; rfl) :
    PE X (.DictComp kx vx [⟨tg, iter, ifs, 0⟩] scope pos) (tDk wi g tt tk tv (own.map (·.2))) := by
  refine ⟨fun pins s σ H Q inv0 want => ?_⟩
  rw [arm_eval_DictComp]
  have clo : ∀ y ∈ scope.names, y.2 = .free → ∃ c, X.env.cells.lookup y.1 = some c := fun y hy e => by
    rcases blk.free y hy e with z | z
    · exact inv0.ok.has _ (.inl z)
    · exact inv0.ok.has _ (.inr z)
  refine wpAny_comprehension_free (use := none) rfl fold (closure_ok clo) blk.kind (fun y hy e => by rw [blk.uniq y hy, e]) (thn (wk.run pins s σ H _ inv0 want) fun xv sA hx => thn hx fun itv sB hB => ?_)
  obtain ⟨it, fp, tn, J, HB, rfl, invB, T, stB, okB, reach⟩ := hB
  refine wpAny_newObj_type (newEnv_comp ?_)
  -- the dict is laid
  obtain ⟨D, eD⟩ : ∃ D, D = sB.heap.objs.size := ⟨_, rfl⟩
  have freeD : HB D = none := by rw [eD]; exact invB.hok.fresh (Nat.le_refl _)
  obtain ⟨W, ⟨mStart, wStart⟩, turns⟩ := reach D freeD
  obtain ⟨sC, eC⟩ : ∃ sC : Shared, sC = { sB with heap := sB.heap.push { cls := .type "dict", data := .dict #[] } } := ⟨_, rfl⟩
  have invC : Inv X pins σ (L2.upd HB D (dkO D [])) sC := by
    rw [eC, eD]
    exact invB.laid (t' := sB.toks) (fun b o e => Heap.get?_push_of_some _ e) (Nat.le_refl _) (dk_nil invB.big)
  have heapC : sC.heap = sB.heap.push { cls := .type "dict", data := .dict #[] } := by rw [eC]
  have below : ∀ b ∈ fp, b < sB.heap.objs.size := fun b hb => by
    obtain ⟨o, e, _⟩ := T.obj _ _ stB b hb
    exact Heap.lt_size e
  have fpC : ∀ b ∈ fp, FpOk X pins (L2.upd HB D (dkO D [])) b ∧ b < sC.heap.objs.size := fun b hb => by
    have lt := below b hb
    refine ⟨⟨?_, (okB b hb).2⟩, by rw [heapC, Heap.size_push]; exact Nat.lt_succ_of_lt lt⟩
    rw [L2.upd_ne (by rw [eD]; exact Nat.ne_of_lt lt)]
    exact (okB b hb).1
  have stC : tn 0 sC.heap := T.keep _ _ _ stB fun b _ o e => by rw [heapC]; exact Heap.get?_push_of_some _ e
  obtain ⟨HC, eHC⟩ : ∃ HC, HC = L2.upd HB D (dkO D []) := ⟨_, rfl⟩
  rw [← eHC] at invC fpC wStart
  have invE := block_start invC blk nd fpC
  obtain ⟨cs, eCs⟩ : ∃ cs, cs = cellsFrom (sC.heap.objs.size + 1) scope.names (cloFrom X.env.cells scope.names []) := ⟨_, rfl⟩
  obtain ⟨ce, eCe⟩ : ∃ ce, ce = compEnvC scope cs sC.heap.objs.size X.env := ⟨_, rfl⟩
  have rTg := ptg sC HC sC.heap.objs.size cs fp
  have rIf := pif sC HC sC.heap.objs.size cs fp
  have rKe := pke sC HC sC.heap.objs.size cs fp
  have rVa := pva sC HC sC.heap.objs.size cs fp
  rw [← eCe] at rTg rIf rKe rVa
  rw [← eCs, ← eCe] at invE
  have loc : ce.locals = sC.heap.objs.size := by rw [eCe]; rfl
  obtain ⟨sE, eE⟩ : ∃ sE : Shared, sE = { sC with heap := pushCells (sC.heap.push { cls := .type "dict", data := .dict #[] }) scope.names } := ⟨_, rfl⟩
  rw [← eE] at invE
  have stE : tn 0 sE.heap := T.keep _ _ _ stC fun b _ o e => by rw [eE]; exact pushCells_keeps _ _ _ _ (Heap.get?_push_of_some _ e)
  have good : ∀ {σ' : L2.St} {H' : Hp} {s' : Shared}, Inv (X.blk sC HC scope ce fp) [] σ' H' s' → (∀ b ∈ fp, H' b = none) → ∀ b ∈ fp, FpOk (X.blk sC HC scope ce fp) [] H' b := fun {σ' H' s'} J' free b hb =>
    ⟨free b hb, (J'.ok.exf b hb).1, J'.ok.exfs b hb, .inl hb, fun x c e => (J'.ok.exf b hb).2 x c e, fun p hp => absurd (show p ∈ ([] : List (Addr × Obj)) ++ [] from hp) (by simp)⟩
  have whole : codeAny (model X.prog X.w) X.A (.compLoop (.DictComp kx vx [⟨tg, iter, ifs, 0⟩] scope pos) 0 (.ref it) (.ref D) ce) (compPost (model X.prog X.w) X.A X.xe none (EP X pins σ Q) (.ref D) sC.heap.objs.size) sE := by
    refine compLoop_anyD (fun n s' => ∃ i H', Inv (X.blk sC HC scope ce fp) [] (L2.wipe σ (own.map (·.2))) H' s' ∧ tn i s'.heap ∧ (∀ b ∈ fp, H' b = none) ∧ W i n H') ?_ mStart ⟨0, HC, invE, stE, fun b hb => (fpC b hb).1.1, wStart⟩
    rintro n s5 ⟨i, H5, inv5, st5, free5, w5⟩
    rcases turns i n H5 w5 with ⟨stop, fin⟩ | ⟨go, Nx, down, step⟩
    · refine thnF (T.done (X.blk sC HC scope ce fp) rfl rfl rfl calm i [] s5 _ H5 (fun _ _ => False) inv5 (good inv5 free5) st5 stop) fun r s6 ⟨er, inv6⟩ => ?_
      subst er
      have back : Inv X pins σ H5 s6 := invC.call' (ch := fp) inv6.os inv6.base inv6.hok inv6.bare fun b hb => ⟨(fpC b hb).1.2.2.2.1, (fpC b hb).1.2.1, (fpC b hb).1.2.2.2.2.1, (fpC b hb).1.2.2.2.2.2⟩
      have nC : H5 sC.heap.objs.size = none := by
        have z : H5 ce.locals = none := inv6.free
        rw [loc] at z
        exact z
      obtain ⟨m, hn, _⟩ := inv6.loc
      have hn : s6.heap.Ns ce.locals m := hn
      rw [loc] at hn
      obtain ⟨f0, f1, f2, f3, f4, f5⟩ := invC.fpOk (Nat.le_refl _) nC
      exact ⟨m, hn, fun h'' sb => ⟨.ref D, H5, back.turned (t' := s6.toks) (fun b o hb e => (sb.2 b hb).trans e) f0 f1 f3 f4 f5, rfl, fin⟩⟩
    · refine thnF (T.item (X.blk sC HC scope ce fp) rfl rfl rfl calm i [] s5 _ H5 (fun _ _ => False) inv5 (good inv5 free5) st5 go) fun r s6 ⟨u, er, h6⟩ => ?_
      subst er
      refine thnF h6 fun _ s7 ⟨x, H7, inv7, r7, y7, st7, free7⟩ => ?_
      have inv7' := inv7.pinned (good inv7 free7) (T.obj _ _ st7)
      refine thnF (rTg.run _ s7 _ H7 x u _ inv7' r7 (step x H7 y7)) fun _ s8 ⟨σ8, H8, inv8, wiped, q8⟩ => thnF (rIf.run _ s8 σ8 H8 _ inv8 q8) fun b s9 ⟨H9, inv9, q9⟩ => ?_
      have next : ∀ {s' : Shared} {H' : Hp}, Inv (X.blk sC HC scope ce fp) ([] ++ pinsAt fp s7.heap) σ8 H' s' → Nx H' → ∃ m, m < n ∧ ∃ i H', Inv (X.blk sC HC scope ce fp) [] (L2.wipe σ (own.map (·.2))) H' s' ∧ tn i s'.heap ∧ (∀ b ∈ fp, H' b = none) ∧ W i m H' := fun {s' H'} inv' nx => by
        obtain ⟨m', lt, w'⟩ := down H' nx
        have held : ∀ b ∈ fp, ∀ o, s7.heap.get? b = some o → s'.heap.get? b = some o ∧ H' b = none := fun b hb o e =>
          let z := inv'.pin (b, o) (List.mem_append_right _ (List.mem_append_right _ (mem_pinsAt hb e)))
          ⟨z.1, z.2.1⟩
        refine ⟨m', lt, i + 1, H', (inv'.unpinned (pins := [])).weak (by rw [← wiped, L2.wipe_length]) (fun j v e => ?_), T.keep _ _ _ st7 fun b hb o e => (held b hb o e).1, fun b hb => ?_, w'⟩
        · rw [← wiped] at e
          exact (L2.wipe_some e).1
        · obtain ⟨o, e, _⟩ := T.obj _ _ st7 b hb
          exact (held b hb o e).2
      cases b with
      | true =>
        simp only [if_true] at q9 ⊢
        refine thnF (rKe.run _ s9 σ8 H9 _ inv9 q9) fun z s10 ⟨yk, H10, inv10, r10, q10⟩ => thnF (rVa.run _ s10 σ8 H10 _ inv10 q10) fun z2 s11 ⟨yv, H11, inv11, r11, kvs, k, ek, hD, hz, nx⟩ => ?_
        subst ek
        exact dk_put (X := X.blk sC HC scope ce fp) inv11 hD hz r10 r11 fun s12 inv12 => next inv12 nx
      | false =>
        simp only [Bool.false_eq_true, if_false] at q9 ⊢
        exact next inv9 q9
  show codeAny _ _ (.compStart (.DictComp kx vx [⟨tg, iter, ifs, 0⟩] scope pos) 0 (.ref it) (.ref sB.heap.objs.size) (compEnvC scope (cellsFrom ((sB.heap.push { cls := .type "dict", data := .dict #[] }).objs.size + 1) scope.names (cloFrom X.env.cells scope.names [])) (sB.heap.push { cls := .type "dict", data := .dict #[] }).objs.size X.env)) _ _
  subst eD eC eHC eCs eCe eE
  exact codeAny_compStart_dict whole (T.self X.A 0 _ _ _ stE whole)
end
end DL
/-! A layer of our own over HandS: tuples as plain data, a store for what may change, readings that compute. -/
namespace DL
open PySem PySem.Spec PyProof.Rows L2

/-- a value: tuples (and lists that never change) by their items -/
inductive D where
  | non | bl (b : Bool) | int (i : Int) | str (x : Str) | ref (a : Addr) | ty (n : String)
  | tup (xs : List D) | lis (xs : List D)
  /-- a tuple that is only taken apart -/
  | par (xs : List D)
  /-- a dict that never changes, its keys None or ints -/
  | dic (ks : List (Option Int)) (vs : List D)
/-- what may change -/
inductive O where
  | lst (xs : List D)
  | ho (o : HO)
abbrev Sto := Addr → Option O
def Sto.upd (S : Sto) (a : Addr) (o : O) : Sto := fun b => if b = a then some o else S b
@[simp] theorem Sto.upd_same {S : Sto} {a : Addr} {o : O} : S.upd a o a = some o := if_pos rfl
theorem Sto.upd_ne {S : Sto} {a b : Addr} {o : O} (h : b ≠ a) : S.upd a o b = S b := if_neg h
theorem Sto.upd_upd {S : Sto} {a : Addr} {o u : O} : (S.upd a o).upd a u = S.upd a u := by
  funext b
  unfold Sto.upd
  split <;> rfl
abbrev DEnv := List (Option D)

def FzL (K : PySem.W.Frag) (H : Hp) (a : Addr) (xs : List V) : Prop :=
  (∃ o, H a = some (.frz o (.lst xs))) ∨
    ∃ (o : Obj) (its : Array Value) (n : Nat), K.lookup a = some o ∧ o.cls = .type "list" ∧ o.dict = none ∧ o.data = .seq its n ∧ its.size ≤ sizeLine ∧ Vals xs its.toList
theorem FzL.sq {K : PySem.W.Frag} {H : Hp} {a : Addr} {xs : List V} (h : FzL K H a xs) : SqL K H a xs := by
  rcases h with h | h
  · exact .inl (.inr h)
  · exact .inr h

/-- a tuple without a dict of its own -/
def TqT (K : PySem.W.Frag) (H : Hp) (a : Addr) (xs : List V) : Prop :=
  (∃ o, H a = some (.frz o (.tup xs)) ∧ o.dict = none) ∨
    ∃ (o : Obj) (its : Array Value) (n : Nat), K.lookup a = some o ∧ o.cls = .type "tuple" ∧ o.dict = none ∧ o.data = .seq its n ∧ its.size ≤ sizeLine ∧ Vals xs its.toList
theorem TqT.sq {K : PySem.W.Frag} {H : Hp} {a : Addr} {xs : List V} (h : TqT K H a xs) : SqT K H a xs := by
  rcases h with ⟨o, h, _⟩ | ⟨o, its, n, h1, h2, _, h3⟩
  · exact .inl (.inr ⟨o, h⟩)
  · exact .inr ⟨o, its, n, h1, h2, h3⟩

mutual
def Rp (K : PySem.W.Frag) (H : Hp) : D → V → Prop
  | .non, v => v = .non
  | .bl b, v => v = .bl b
  | .int i, v => v = .int i
  | .str x, v => v = .str x
  | .ref a, v => v = .ref a
  | .ty n, v => v = .ty n
  | .tup ds, v => ∃ a vs, v = .ref a ∧ TqT K H a vs ∧ RpL K H ds vs
  | .par ds, v => ∃ a vs, v = .ref a ∧ SqT K H a vs ∧ RpL K H ds vs
  | .lis ds, v => ∃ a vs, v = .ref a ∧ FzL K H a vs ∧ RpL K H ds vs
  | .dic ks ds, v => ∃ a o us, v = .ref a ∧ H a = some (.frz o (dkO a (ks.zip us))) ∧ ks.length = us.length ∧ RpL K H ds us
def RpL (K : PySem.W.Frag) (H : Hp) : List D → List V → Prop
  | [], vs => vs = []
  | d :: ds, vs => ∃ v r, vs = v :: r ∧ Rp K H d v ∧ RpL K H ds r
end

/-- what can't change is as it was -/
def Mon (H H' : Hp) : Prop := ∀ a o, H a = some o → ¬ Mut (some o) → H' a = some o
theorem Mon.refl (H : Hp) : Mon H H := fun _ _ h _ => h
theorem Mon.trans {H H1 H2 : Hp} (a : Mon H H1) (b : Mon H1 H2) : Mon H H2 := fun c o h m => b c o (a c o h m) m
theorem Mon.sqt {K : PySem.W.Frag} {H H' : Hp} {a : Addr} {xs : List V} (m : Mon H H') (h : SqT K H a xs) : SqT K H' a xs := by
  rcases h with (h | ⟨o, h⟩) | h
  · exact .inl (.inl (m _ _ h fun z => z))
  · exact .inl (.inr ⟨o, m _ _ h fun z => z⟩)
  · exact .inr h
theorem Mon.tqt {K : PySem.W.Frag} {H H' : Hp} {a : Addr} {xs : List V} (m : Mon H H') (h : TqT K H a xs) : TqT K H' a xs := by
  rcases h with ⟨o, h, e⟩ | h
  · exact .inl ⟨o, m _ _ h fun z => z, e⟩
  · exact .inr h
theorem Mon.fzl {K : PySem.W.Frag} {H H' : Hp} {a : Addr} {xs : List V} (m : Mon H H') (h : FzL K H a xs) : FzL K H' a xs := by
  rcases h with ⟨o, h⟩ | h
  · exact .inl ⟨o, m _ _ h fun z => z⟩
  · exact .inr h
section
variable {K : PySem.W.Frag} {H H' : Hp}
mutual
theorem Rp.mon (m : Mon H H') : ∀ (d : D) (v : V), Rp K H d v → Rp K H' d v
  | .non, _, h => by unfold Rp at h ⊢; exact h
  | .bl _, _, h => by unfold Rp at h ⊢; exact h
  | .int _, _, h => by unfold Rp at h ⊢; exact h
  | .str _, _, h => by unfold Rp at h ⊢; exact h
  | .ref _, _, h => by unfold Rp at h ⊢; exact h
  | .ty _, _, h => by unfold Rp at h ⊢; exact h
  | .tup ds, v, h => by
    unfold Rp at h ⊢
    obtain ⟨a, vs, e, q, r⟩ := h
    exact ⟨a, vs, e, m.tqt q, RpL.mon m ds vs r⟩
  | .par ds, v, h => by
    unfold Rp at h ⊢
    obtain ⟨a, vs, e, q, r⟩ := h
    exact ⟨a, vs, e, m.sqt q, RpL.mon m ds vs r⟩
  | .lis ds, v, h => by
    unfold Rp at h ⊢
    obtain ⟨a, vs, e, q, r⟩ := h
    exact ⟨a, vs, e, m.fzl q, RpL.mon m ds vs r⟩
  | .dic ks ds, v, h => by
    unfold Rp at h ⊢
    obtain ⟨a, o, us, e, q, l, r⟩ := h
    exact ⟨a, o, us, e, m _ _ q fun z => z, l, RpL.mon m ds us r⟩
theorem RpL.mon (m : Mon H H') : ∀ (ds : List D) (vs : List V), RpL K H ds vs → RpL K H' ds vs
  | [], _, h => by unfold RpL at h ⊢; exact h
  | d :: ds, vs, h => by
    unfold RpL at h ⊢
    obtain ⟨v, r, e, q, t⟩ := h
    exact ⟨v, r, e, Rp.mon m d v q, RpL.mon m ds r t⟩
end
theorem RpL.nil : RpL K H [] [] := by unfold RpL; rfl
theorem RpL.cons {d : D} {v : V} {ds : List D} {vs : List V} (h : Rp K H d v) (t : RpL K H ds vs) : RpL K H (d :: ds) (v :: vs) := by
  unfold RpL; exact ⟨v, vs, rfl, h, t⟩
theorem RpL.nil_of {vs : List V} (h : RpL K H [] vs) : vs = [] := by unfold RpL at h; exact h
theorem RpL.cons_of {d : D} {ds : List D} {vs : List V} (h : RpL K H (d :: ds) vs) : ∃ v r, vs = v :: r ∧ Rp K H d v ∧ RpL K H ds r := by unfold RpL at h; exact h
theorem RpL.length : ∀ {ds : List D} {vs : List V}, RpL K H ds vs → ds.length = vs.length
  | [], vs, h => by rw [h.nil_of]; rfl
  | d :: ds, vs, h => by
    obtain ⟨v, r, e, _, t⟩ := h.cons_of
    rw [e, List.length_cons, List.length_cons, t.length]
theorem RpL.append : ∀ {ds es : List D} {vs us : List V}, RpL K H ds vs → RpL K H es us → RpL K H (ds ++ es) (vs ++ us)
  | [], es, vs, us, h, g => by rw [h.nil_of]; exact g
  | d :: ds, es, vs, us, h, g => by
    obtain ⟨v, r, e, q, t⟩ := h.cons_of
    subst e
    exact .cons q (t.append g)
theorem RpL.take : ∀ {ds : List D} {vs : List V} (n : Nat), RpL K H ds vs → RpL K H (ds.take n) (vs.take n)
  | _, _, 0, _ => .nil
  | [], vs, n + 1, h => by rw [h.nil_of]; exact .nil
  | d :: ds, vs, n + 1, h => by
    obtain ⟨v, r, e, q, t⟩ := h.cons_of
    subst e
    exact .cons q (t.take n)
theorem RpL.drop : ∀ {ds : List D} {vs : List V} (n : Nat), RpL K H ds vs → RpL K H (ds.drop n) (vs.drop n)
  | _, _, 0, h => h
  | [], vs, n + 1, h => by rw [h.nil_of]; exact .nil
  | d :: ds, vs, n + 1, h => by
    obtain ⟨v, r, e, q, t⟩ := h.cons_of
    subst e
    exact t.drop n
theorem RpL.get : ∀ {ds : List D} {vs : List V} {i : Nat} {d : D}, RpL K H ds vs → ds[i]? = some d → ∃ v, vs[i]? = some v ∧ Rp K H d v
  | [], _, _, _, _, e => by simp at e
  | x :: ds, vs, 0, d, h, e => by
    obtain ⟨v, r, e', q, t⟩ := h.cons_of
    subst e'
    simp at e
    subst e
    exact ⟨v, rfl, q⟩
  | x :: ds, vs, i + 1, d, h, e => by
    obtain ⟨v, r, e', q, t⟩ := h.cons_of
    subst e'
    obtain ⟨u, h1, h2⟩ := RpL.get (i := i) (d := d) t (by simpa using e)
    exact ⟨u, by simpa using h1, h2⟩
theorem RpL.getV {ds : List D} {vs : List V} {i : Nat} {v : V} (h : RpL K H ds vs) (e : vs[i]? = some v) : ∃ d, ds[i]? = some d ∧ Rp K H d v := by
  have hl := h.length
  have hi : i < ds.length := by rw [hl]; exact (List.getElem?_eq_some_iff.mp e).1
  obtain ⟨u, h1, h2⟩ := h.get (i := i) (d := ds[i]) (by simp [hi])
  rw [e] at h1
  cases h1
  exact ⟨_, by simp [hi], h2⟩
theorem RpL.set : ∀ {ds : List D} {vs : List V} (i : Nat) {d : D} {v : V}, RpL K H ds vs → Rp K H d v → RpL K H (ds.set i d) (vs.set i v)
  | [], vs, _, _, _, h, _ => by rw [h.nil_of]; exact .nil
  | x :: ds, vs, 0, d, v, h, q => by
    obtain ⟨u, r, e', _, t⟩ := h.cons_of
    subst e'
    exact .cons q t
  | x :: ds, vs, i + 1, d, v, h, q => by
    obtain ⟨u, r, e', p, t⟩ := h.cons_of
    subst e'
    exact .cons p (t.set i q)
theorem RpL.erase : ∀ {ds : List D} {vs : List V} (i : Nat), RpL K H ds vs → RpL K H (ds.eraseIdx i) (vs.eraseIdx i)
  | [], vs, _, h => by rw [h.nil_of]; exact .nil
  | x :: ds, vs, 0, h => by
    obtain ⟨u, r, e', _, t⟩ := h.cons_of
    subst e'
    exact t
  | x :: ds, vs, i + 1, h => by
    obtain ⟨u, r, e', p, t⟩ := h.cons_of
    subst e'
    exact .cons p (t.erase i)
theorem RpL.reverse : ∀ {ds : List D} {vs : List V}, RpL K H ds vs → RpL K H ds.reverse vs.reverse
  | [], vs, h => by rw [h.nil_of]; exact .nil
  | x :: ds, vs, h => by
    obtain ⟨u, r, e', p, t⟩ := h.cons_of
    subst e'
    rw [List.reverse_cons, List.reverse_cons]
    exact t.reverse.append (.cons p .nil)
theorem RpL.ints : ∀ {ns : List Int} {vs : List V}, RpL K H (ns.map D.int) vs → vs = ns.map V.int
  | [], vs, h => h.nil_of
  | n :: ns, vs, h => by
    obtain ⟨u, r, e', p, t⟩ := RpL.cons_of (d := .int n) (ds := ns.map D.int) h
    unfold Rp at p
    subst e' p
    rw [t.ints]; rfl
theorem RpL.of_ints : ∀ {ns : List Int}, RpL K H (ns.map D.int) (ns.map V.int)
  | [] => .nil
  | n :: ns => .cons (by unfold Rp; rfl) RpL.of_ints
theorem RpL.bls : ∀ {ns : List Bool} {vs : List V}, RpL K H (ns.map D.bl) vs → vs = ns.map V.bl
  | [], vs, h => h.nil_of
  | n :: ns, vs, h => by
    obtain ⟨u, r, e', p, t⟩ := RpL.cons_of (d := .bl n) (ds := ns.map D.bl) h
    unfold Rp at p
    subst e' p
    rw [t.bls]; rfl
theorem RpL.strs : ∀ {ns : List Str} {vs : List V}, RpL K H (ns.map D.str) vs → vs = ns.map V.str
  | [], vs, h => h.nil_of
  | n :: ns, vs, h => by
    obtain ⟨u, r, e', p, t⟩ := RpL.cons_of (d := .str n) (ds := ns.map D.str) h
    unfold Rp at p
    subst e' p
    rw [t.strs]; rfl
theorem Rp.non_ {v : V} (h : Rp K H .non v) : v = .non := by unfold Rp at h; exact h
theorem Rp.bl_ {b : Bool} {v : V} (h : Rp K H (.bl b) v) : v = .bl b := by unfold Rp at h; exact h
theorem Rp.int_ {b : Int} {v : V} (h : Rp K H (.int b) v) : v = .int b := by unfold Rp at h; exact h
theorem Rp.str_ {b : Str} {v : V} (h : Rp K H (.str b) v) : v = .str b := by unfold Rp at h; exact h
theorem Rp.ref_ {b : Addr} {v : V} (h : Rp K H (.ref b) v) : v = .ref b := by unfold Rp at h; exact h
theorem Rp.ty_ {b : String} {v : V} (h : Rp K H (.ty b) v) : v = .ty b := by unfold Rp at h; exact h
theorem Rp.tup_ {b : List D} {v : V} (h : Rp K H (.tup b) v) : ∃ a vs, v = .ref a ∧ TqT K H a vs ∧ RpL K H b vs := by unfold Rp at h; exact h
theorem Rp.lis_ {b : List D} {v : V} (h : Rp K H (.lis b) v) : ∃ a vs, v = .ref a ∧ FzL K H a vs ∧ RpL K H b vs := by unfold Rp at h; exact h
theorem Rp.non : Rp K H .non .non := by unfold Rp; rfl
theorem Rp.bl {b : Bool} : Rp K H (.bl b) (.bl b) := by unfold Rp; rfl
theorem Rp.int {b : Int} : Rp K H (.int b) (.int b) := by unfold Rp; rfl
theorem Rp.str {b : Str} : Rp K H (.str b) (.str b) := by unfold Rp; rfl
theorem Rp.ref {b : Addr} : Rp K H (.ref b) (.ref b) := by unfold Rp; rfl
theorem Rp.ty {b : String} : Rp K H (.ty b) (.ty b) := by unfold Rp; rfl
theorem Rp.tup {b : List D} {a : Addr} {vs : List V} (h : TqT K H a vs) (r : RpL K H b vs) : Rp K H (.tup b) (.ref a) := by unfold Rp; exact ⟨a, vs, rfl, h, r⟩
theorem Rp.par_ {b : List D} {v : V} (h : Rp K H (.par b) v) : ∃ a vs, v = .ref a ∧ SqT K H a vs ∧ RpL K H b vs := by unfold Rp at h; exact h
theorem Rp.dic_ {ks : List (Option Int)} {b : List D} {v : V} (h : Rp K H (.dic ks b) v) : ∃ a o us, v = .ref a ∧ H a = some (.frz o (dkO a (ks.zip us))) ∧ ks.length = us.length ∧ RpL K H b us := by unfold Rp at h; exact h
theorem Rp.dic {ks : List (Option Int)} {b : List D} {a : Addr} {o : Obj} {us : List V} (h : H a = some (.frz o (dkO a (ks.zip us)))) (l : ks.length = us.length) (r : RpL K H b us) : Rp K H (.dic ks b) (.ref a) := by unfold Rp; exact ⟨a, o, us, rfl, h, l, r⟩
theorem Rp.par {b : List D} {a : Addr} {vs : List V} (h : SqT K H a vs) (r : RpL K H b vs) : Rp K H (.par b) (.ref a) := by unfold Rp; exact ⟨a, vs, rfl, h, r⟩
theorem Rp.lis {b : List D} {a : Addr} {vs : List V} (h : FzL K H a vs) (r : RpL K H b vs) : Rp K H (.lis b) (.ref a) := by unfold Rp; exact ⟨a, vs, rfl, h, r⟩
end

/-- the object h stands for o -/
def AOr (K : PySem.W.Frag) (H : Hp) : O → HO → Prop
  | .lst ds, h => ∃ vs, h = .lst vs ∧ RpL K H ds vs
  | .ho o, h => h = o
def AbsS (K : PySem.W.Frag) (S : Sto) (H : Hp) : Prop := ∀ a o, S a = some o → ∃ h, H a = some h ∧ Mut (some h) ∧ AOr K H o h
def AbsE (K : PySem.W.Frag) (H : Hp) : DEnv → L2.St → Prop
  | [], σ => σ = []
  | none :: e, σ => ∃ x r, σ = x :: r ∧ AbsE K H e r
  | some d :: e, σ => ∃ v r, σ = some v :: r ∧ Rp K H d v ∧ AbsE K H e r
/-- a step: what is not of the store is as it was, and stays without -/
def Stp (H : Hp) (S : Sto) (H' : Hp) (S' : Sto) : Prop := ∀ a o, H a = some o → S a = none → H' a = some o ∧ S' a = none
def Sub (S S' : Sto) : Prop := ∀ a o, S a = some o → S' a = some o
theorem Sub.refl (S : Sto) : Sub S S := fun _ _ h => h
theorem Sub.trans {S S1 S2 : Sto} (a : Sub S S1) (b : Sub S1 S2) : Sub S S2 := fun c o h => b c o (a c o h)
theorem Sub.free {S S' : Sto} {a : Addr} (s : Sub S S') (h : S' a = none) : S a = none := by
  cases q : S a with
  | none => rfl
  | some o => rw [s a o q] at h; cases h
theorem Sub.upd {S : Sto} {a : Addr} {o : O} (h : S a = none) : Sub S (S.upd a o) := fun b u e => by
  rw [Sto.upd_ne]
  · exact e
  · intro q; rw [q, h] at e; cases e
theorem Sub.both {S S' : Sto} {a : Addr} {o : O} (s : Sub S S') : Sub (S.upd a o) (S'.upd a o) := fun b u e => by
  by_cases q : b = a
  · subst q
    rw [Sto.upd_same] at e ⊢
    exact e
  · rw [Sto.upd_ne q] at e ⊢
    exact s b u e
section
variable {K : PySem.W.Frag} {H H' H1 H2 : Hp} {S S' S1 S2 : Sto} {σ : L2.St} {env : DEnv} {a : Addr} {o : O} {h : HO}
theorem Stp.refl : Stp H S H S := fun _ _ h q => ⟨h, q⟩
theorem Stp.trans (x : Stp H S H1 S1) (y : Stp H1 S1 H2 S2) : Stp H S H2 S2 := fun a o h q => let ⟨h1, q1⟩ := x a o h q; y a o h1 q1
theorem Stp.sub (x : Stp H S H1 S1) (s : Sub S2 S1) : Stp H S H1 S2 := fun a o h q => let ⟨h1, q1⟩ := x a o h q; ⟨h1, s.free q1⟩
theorem AbsS.sub (x : AbsS K S H) (s : Sub S' S) : AbsS K S' H := fun a o h => x a o (s a o h)
theorem AOr.mon (m : Mon H H') : ∀ {o : O} {h : HO}, AOr K H o h → AOr K H' o h
  | .lst ds, h, ⟨vs, e, r⟩ => ⟨vs, e, r.mon m⟩
  | .ho _, _, e => e
theorem Stp.mon (s : Stp H S H' S') (x : AbsS K S H) : Mon H H' := fun a o e m => by
  cases q : S a with
  | none => exact (s a o e q).1
  | some u =>
    obtain ⟨h, e', m', _⟩ := x a u q
    rw [e] at e'; cases e'
    exact absurd m' m
theorem AbsE.mon (m : Mon H H') : ∀ {env : DEnv} {σ : L2.St}, AbsE K H env σ → AbsE K H' env σ
  | [], σ, h => (show σ = [] from h)
  | none :: e, σ, h => by
    obtain ⟨x, r, e', q⟩ := h
    exact ⟨x, r, e', AbsE.mon m q⟩
  | some d :: e, σ, h => by
    obtain ⟨v, r, e', p, q⟩ := h
    exact ⟨v, r, e', p.mon m, AbsE.mon m q⟩
theorem AbsE.get : ∀ {env : DEnv} {σ : L2.St} {i : Nat} {d : D}, AbsE K H env σ → env[i]? = some (some d) → ∃ v, σ[i]? = some (some v) ∧ Rp K H d v
  | [], _, _, _, _, e => by simp at e
  | none :: en, σ, 0, d, h, e => by simp at e
  | some x :: en, σ, 0, d, h, e => by
    obtain ⟨v, r, e', p, q⟩ := h
    simp at e
    subst e e'
    exact ⟨v, rfl, p⟩
  | none :: en, σ, i + 1, d, h, e => by
    obtain ⟨x, r, e', q⟩ := h
    subst e'
    obtain ⟨v, h1, h2⟩ := AbsE.get (i := i) (d := d) q (by simpa using e)
    exact ⟨v, by simpa using h1, h2⟩
  | some x :: en, σ, i + 1, d, h, e => by
    obtain ⟨v, r, e', p, q⟩ := h
    subst e'
    obtain ⟨v, h1, h2⟩ := AbsE.get (i := i) (d := d) q (by simpa using e)
    exact ⟨v, by simpa using h1, h2⟩
theorem AbsE.set : ∀ {env : DEnv} {σ : L2.St} (i : Nat) {d : D} {v : V}, AbsE K H env σ → Rp K H d v → AbsE K H (env.set i (some d)) (σ.set i (some v))
  | [], _, _, _, _, h, _ => by
    cases (show _ = [] from h)
    exact rfl
  | none :: en, σ, 0, d, v, h, p => by
    obtain ⟨x, r, e', q⟩ := h
    subst e'
    exact ⟨v, r, rfl, p, q⟩
  | some x :: en, σ, 0, d, v, h, p => by
    obtain ⟨u, r, e', _, q⟩ := h
    subst e'
    exact ⟨v, r, rfl, p, q⟩
  | none :: en, σ, i + 1, d, v, h, p => by
    obtain ⟨x, r, e', q⟩ := h
    subst e'
    exact ⟨x, _, rfl, AbsE.set i q p⟩
  | some x :: en, σ, i + 1, d, v, h, p => by
    obtain ⟨u, r, e', p', q⟩ := h
    subst e'
    exact ⟨u, _, rfl, p', AbsE.set i q p⟩
theorem AbsE.unset : ∀ {env : DEnv} {σ : L2.St} (i : Nat), AbsE K H env σ → AbsE K H (env.set i none) (σ.set i none)
  | [], _, _, h => by
    cases (show _ = [] from h)
    exact rfl
  | none :: en, σ, 0, h => by
    obtain ⟨x, r, e', q⟩ := h
    subst e'
    exact ⟨none, r, rfl, q⟩
  | some x :: en, σ, 0, h => by
    obtain ⟨u, r, e', _, q⟩ := h
    subst e'
    exact ⟨none, r, rfl, q⟩
  | none :: en, σ, i + 1, h => by
    obtain ⟨x, r, e', q⟩ := h
    subst e'
    exact ⟨x, _, rfl, AbsE.unset i q⟩
  | some x :: en, σ, i + 1, h => by
    obtain ⟨u, r, e', p', q⟩ := h
    subst e'
    exact ⟨u, _, rfl, p', AbsE.unset i q⟩
theorem AbsE.length : ∀ {env : DEnv} {σ : L2.St}, AbsE K H env σ → env.length = σ.length
  | [], _, h => by
    cases (show _ = [] from h)
    rfl
  | none :: en, σ, h => by
    obtain ⟨x, r, e', q⟩ := h
    subst e'
    rw [List.length_cons, List.length_cons, q.length]
  | some x :: en, σ, h => by
    obtain ⟨u, r, e', _, q⟩ := h
    subst e'
    rw [List.length_cons, List.length_cons, q.length]
def wipeE (env : DEnv) : List Nat → DEnv
  | [] => env
  | v :: vs => (wipeE env vs).set v none
theorem AbsE.wipe (x : AbsE K H env σ) : ∀ vs : List Nat, AbsE K H (wipeE env vs) (L2.wipe σ vs)
  | [] => x
  | v :: vs => (AbsE.wipe x vs).unset v
/-- an object is laid -/
theorem Mon.laid {p : Addr} {h : HO} (n : H p = none) : Mon H (L2.upd H p h) := fun a o e _ => by
  rw [L2.upd_ne]
  · exact e
  · intro q; rw [q, n] at e; cases e
theorem AbsS.free (x : AbsS K S H) {p : Addr} (n : H p = none) : S p = none := by
  cases q : S p with
  | none => rfl
  | some o =>
    obtain ⟨h, e, _⟩ := x p o q
    rw [n] at e; cases e
theorem Stp.laid {p : Addr} {h : HO} {o : O} (n : H p = none) : Stp H S (L2.upd H p h) (S.upd p o) := fun a u e q => by
  have ne : a ≠ p := by intro z; rw [z, n] at e; cases e
  exact ⟨by rw [L2.upd_ne ne]; exact e, by rw [Sto.upd_ne ne]; exact q⟩
theorem Stp.laid0 {p : Addr} {h : HO} (n : H p = none) : Stp H S (L2.upd H p h) S := fun a u e q => by
  have ne : a ≠ p := by intro z; rw [z, n] at e; cases e
  exact ⟨by rw [L2.upd_ne ne]; exact e, q⟩
theorem AbsS.laid0 {p : Addr} {h : HO} (x : AbsS K S H) (n : H p = none) : AbsS K S (L2.upd H p h) := fun a o e => by
  obtain ⟨u, e1, m, r⟩ := x a o e
  have ne : a ≠ p := by intro z; rw [z, n] at e1; cases e1
  exact ⟨u, by rw [L2.upd_ne ne]; exact e1, m, r.mon (Mon.laid n)⟩
theorem AbsS.laid {p : Addr} {h : HO} (x : AbsS K S H) (n : H p = none) (m : Mut (some h)) (r : AOr K (L2.upd H p h) o h) : AbsS K (S.upd p o) (L2.upd H p h) := fun a u e => by
  by_cases ne : a = p
  · subst ne
    rw [Sto.upd_same] at e
    cases e
    exact ⟨h, L2.upd_same, m, r⟩
  · rw [Sto.upd_ne ne] at e
    exact x.laid0 n a u e
/-- an object of the store is changed -/
theorem Mon.write {p : Addr} {h h0 : HO} (e0 : H p = some h0) (m : Mut (some h0)) : Mon H (L2.upd H p h) := fun a o e nm => by
  rw [L2.upd_ne]
  · exact e
  · intro q; rw [q, e0] at e; cases e; exact nm m
theorem Stp.write {p : Addr} {h : HO} {o u : O} (q : S p = some u) : Stp H S (L2.upd H p h) (S.upd p o) := fun a v e n => by
  have ne : a ≠ p := by intro z; rw [z, q] at n; cases n
  exact ⟨by rw [L2.upd_ne ne]; exact e, by rw [Sto.upd_ne ne]; exact n⟩
theorem AbsS.write {p : Addr} {h h0 : HO} (x : AbsS K S H) (e0 : H p = some h0) (m0 : Mut (some h0)) (m : Mut (some h)) (r : AOr K (L2.upd H p h) o h) : AbsS K (S.upd p o) (L2.upd H p h) := fun a u e => by
  by_cases ne : a = p
  · subst ne
    rw [Sto.upd_same] at e
    cases e
    exact ⟨h, L2.upd_same, m, r⟩
  · rw [Sto.upd_ne ne] at e
    obtain ⟨v, e1, m1, r1⟩ := x a u e
    exact ⟨v, by rw [L2.upd_ne ne]; exact e1, m1, r1.mon (Mon.write e0 m0)⟩
theorem AbsS.lst {ds : List D} (x : AbsS K S H) (q : S a = some (.lst ds)) : ∃ vs, H a = some (.lst vs) ∧ RpL K H ds vs := by
  obtain ⟨h, e, _, vs, rfl, r⟩ := x a _ q
  exact ⟨vs, e, r⟩
end
end DL
namespace DL
open PySem PySem.Spec PyProof.Rows L2

abbrev RK := D → Sto → Prop
abbrev RT := DEnv → Sto → RK → Prop
def Cl (K : PySem.W.Frag) (H : Hp) (S : Sto) (k : RK) (Q : VK) : Prop := ∀ d S' v H', k d S' → Stp H S H' S' → Rp K H' d v → AbsS K S' H' → Q v H'
def tR (K : PySem.W.Frag) (r : RT) : TE := fun σ H Q => ∃ env S k, AbsE K H env σ ∧ AbsS K S H ∧ r env S k ∧ Cl K H S k Q
def RE (X : Cx) (e : Expr) (r : RT) : Prop := PE X e (tR X.K r)
abbrev TK := Bool → Sto → Prop
abbrev RTt := DEnv → Sto → TK → Prop
def ClB (K : PySem.W.Frag) (H : Hp) (S : Sto) (k : TK) (Q : Bool → Hp → Prop) : Prop := ∀ b S' H', k b S' → Stp H S H' S' → AbsS K S' H' → Q b H'
def tT (K : PySem.W.Frag) (r : RTt) : TT := fun σ H Q => ∃ env S k, AbsE K H env σ ∧ AbsS K S H ∧ r env S k ∧ ClB K H S k Q
def TR (X : Cx) (e : Expr) (r : RTt) : Prop := PT X e (tT X.K r)
abbrev AK := List D → Sto → Prop
abbrev RTa := DEnv → Sto → AK → Prop
def ClA (K : PySem.W.Frag) (H : Hp) (S : Sto) (k : AK) (Q : List V → Hp → Prop) : Prop := ∀ ds S' vs H', k ds S' → Stp H S H' S' → RpL K H' ds vs → AbsS K S' H' → Q vs H'
def tA (K : PySem.W.Frag) (r : RTa) : TA := fun σ H Q => ∃ env S k, AbsE K H env σ ∧ AbsS K S H ∧ r env S k ∧ ClA K H S k Q
def RA (X : Cx) (es : List Expr) (r : RTa) : Prop := PA X es (tA X.K r)

section
variable {X : Cx} {K : PySem.W.Frag} {H H1 : Hp} {S S1 : Sto}
theorem Cl.after {k : RK} {Q : VK} (c : Cl K H S k Q) (s : Stp H S H1 S1) : Cl K H1 S1 k Q := fun d S' v H' q st r a => c d S' v H' q (s.trans st) r a
theorem ClB.after {k : TK} {Q : Bool → Hp → Prop} (c : ClB K H S k Q) (s : Stp H S H1 S1) : ClB K H1 S1 k Q := fun d S' H' q st a => c d S' H' q (s.trans st) a
theorem ClA.after {k : AK} {Q : List V → Hp → Prop} (c : ClA K H S k Q) (s : Stp H S H1 S1) : ClA K H1 S1 k Q := fun d S' v H' q st r a => c d S' v H' q (s.trans st) r a
theorem PE.imp {e : Expr} {t t' : TE} (h : PE X e t) (i : ∀ σ H Q, t' σ H Q → t σ H Q) : PE X e t' := ⟨fun pins s σ H Q I q => h.run pins s σ H Q I (i σ H Q q)⟩
theorem PT.imp {e : Expr} {t t' : TT} (h : PT X e t) (i : ∀ σ H Q, t' σ H Q → t σ H Q) : PT X e t' := ⟨fun pins s σ H Q I q => h.run pins s σ H Q I (i σ H Q q)⟩
theorem PW.imp {e : Expr} {t t' : TT} (h : PW X e t) (i : ∀ σ H Q, t' σ H Q → t σ H Q) : PW X e t' := ⟨fun wh pins s σ H Q I q => h.run wh pins s σ H Q I (i σ H Q q)⟩
theorem PA.imp {e : List Expr} {t t' : TA} (h : PA X e t) (i : ∀ σ H Q, t' σ H Q → t σ H Q) : PA X e t' := ⟨fun pos pins s σ H Q I q => h.run pos pins s σ H Q I (i σ H Q q)⟩

/-! ### names, constants -/
def rVar (i : Nat) : RT := fun env S k => match env[i]? with
  | some (some d) => k d S
  | _ => False
def rC (d : D) : RT := fun _ S k => k d S
theorem re_var (i : Nat) {x : Str} {pos : Pos} (hN : X.N[i]? = some x := by rfl) (hv : Vis X.env.scope x := by first | exact Or.inl rfl | exact Or.inr (Or.inl rfl) | exact Or.inr (Or.inr rfl))
    (hd : (x == ("__debug__" : Str)) = false := by decide) (hcd : (x == ("__classdict__" : Str)) = false := by decide) : RE X (.Name x pos) (rVar i) := by
  refine PE.imp (pe_var hN hv hd hcd) fun σ H Q ⟨env, S, k, hE, hS, h, c⟩ => ?_
  unfold rVar at h
  split at h
  · rename_i d e
    obtain ⟨v, e', r⟩ := hE.get e
    exact ⟨v, e', c _ _ _ _ h Stp.refl r hS⟩
  · exact h.elim
theorem re_const {e : Expr} {v : V} {d : D} (h : PE X e (tC v)) (r : ∀ H, Rp X.K H d v) : RE X e (rC d) :=
  PE.imp h fun σ H Q ⟨env, S, k, hE, hS, q, c⟩ => c _ _ _ _ q Stp.refl (r H) hS
theorem re_int {i j pos} : RE X (.Constant (.int i) j pos) (rC (.int i)) := re_const pe_int fun _ => .int
theorem re_bl {i j pos} : RE X (.Constant (.bool i) j pos) (rC (.bl i)) := re_const pe_bl fun _ => .bl
theorem re_non {j pos} : RE X (.Constant .none j pos) (rC .non) := re_const pe_non fun _ => .non
theorem re_str {i j pos} : RE X (.Constant (.str i) j pos) (rC (.str i)) := re_const pe_str fun _ => .str
theorem re_glob {x : Str} {v : V} {d : D} {u : Value} {pos : Pos} (hg : Gl X x) (hm : X.mg x = some u) (r : RelV v u) (rd : ∀ H, Rp X.K H d v) (hd : (x == ("__debug__" : Str)) = false := by decide) : RE X (.Name x pos) (rC d) := re_const (pe_glob hg hm r hd) rd
theorem re_gint {x : Str} {i : Int} {pos : Pos} (hg : Gl X x) (hm : ∃ t, X.mg x = some (.int i t)) (hd : (x == ("__debug__" : Str)) = false := by decide) : RE X (.Name x pos) (rC (.int i)) := by
  obtain ⟨t, hm⟩ := hm
  exact re_const (pe_glob (v := .int i) hg hm ⟨t, rfl⟩ hd) fun _ => .int
theorem re_type {x : Str} {n : String} {pos : Pos} (hg : Gl X x) (hm : X.mg x = none) (hv : bootBuiltins x = some (.type n)) (hn : x ≠ "__name__" := by decide) (hd : (x == ("__debug__" : Str)) = false := by decide) : RE X (.Name x pos) (rC (.ty n)) :=
  re_const (pe_bltn (v := .ty n) hg hm hv rfl hn hd) fun _ => .ty

/-! ### operations on values -/
abbrev F1 := D → Sto → RK → Prop
abbrev F2 := D → D → Sto → RK → Prop
abbrev FL := List D → Sto → RK → Prop
def Op2 (X : Cx) (f : Value → Value → Sem Value) (g : F2) : Prop := ∃ r, OpR X f r ∧ ∀ x y S k v u H Q, g x y S k → Rp X.K H x v → Rp X.K H y u → AbsS X.K S H → Cl X.K H S k Q → r v u H Q
def Un1 (X : Cx) (f : Value → Sem Value) (g : F1) : Prop := ∃ r, UnR X f r ∧ ∀ x S k v H Q, g x S k → Rp X.K H x v → AbsS X.K S H → Cl X.K H S k Q → r v H Q
def CallD (X : Cx) (f : Value) (g : FL) : Prop := ∃ r, CallR X f r ∧ ∀ ds S k vs H Q, g ds S k → RpL X.K H ds vs → AbsS X.K S H → Cl X.K H S k Q → r vs H Q
def MtD (X : Cx) (id : String) (g : D → FL) : Prop := ∃ r, MtR X id r ∧ ∀ x ds S k v vs H Q, g x ds S k → Rp X.K H x v → RpL X.K H ds vs → AbsS X.K S H → Cl X.K H S k Q → r v vs H Q
def IxD (X : Cx) (g : F2) : Prop := ∃ r, IxR X r ∧ ∀ x y S k v u H Q, g x y S k → Rp X.K H x v → Rp X.K H y u → AbsS X.K S H → Cl X.K H S k Q → r v u H Q
abbrev FS := D → Option Int → Option Int → Sto → RK → Prop
def SlD (X : Cx) (g : FS) : Prop := ∃ r, SlR X r ∧ ∀ x lo hi S k v H Q, g x lo hi S k → Rp X.K H x v → AbsS X.K S H → Cl X.K H S k Q → r v lo hi H Q
theorem Op2.or {f : Value → Value → Sem Value} {g g' : F2} (h : Op2 X f g) (h' : Op2 X f g') : Op2 X f fun x y S k => g x y S k ∨ g' x y S k := by
  obtain ⟨r, a, b⟩ := h
  obtain ⟨r', a', b'⟩ := h'
  refine ⟨_, a.or a', fun x y S k v u H Q q rx ry hS c => ?_⟩
  rcases q with q | q
  · exact .inl (b x y S k v u H Q q rx ry hS c)
  · exact .inr (b' x y S k v u H Q q rx ry hS c)
theorem Op2.imp {f : Value → Value → Sem Value} {g g' : F2} (h : Op2 X f g) (i : ∀ x y S k, g' x y S k → g x y S k) : Op2 X f g' := by
  obtain ⟨r, a, b⟩ := h
  exact ⟨r, a, fun x y S k v u H Q q rx ry hS c => b x y S k v u H Q (i x y S k q) rx ry hS c⟩

variable {a b c e : Expr} {es : List Expr} {ra rb rc : RT} {rl : RTa} {pos : Pos}
def rBin (g : F2) (ra rb : RT) : RT := fun env S k => ra env S fun x S1 => rb env S1 fun y S2 => g x y S2 k
/-- two in a row -/
theorem two {σ : L2.St} {Q : VK} {r2 : R2} {g : F2} (hc : ∀ x y S k v u H Q, g x y S k → Rp X.K H x v → Rp X.K H y u → AbsS X.K S H → Cl X.K H S k Q → r2 v u H Q) (h : tR X.K (rBin g ra rb) σ H Q) :
    tR X.K ra σ H fun x H1 => tR X.K rb σ H1 fun y H2 => r2 x y H2 Q := by
  obtain ⟨env, S, k, hE, hS, h, cl⟩ := h
  refine ⟨env, S, _, hE, hS, h, fun x S1 v H1 q st rx hS1 => ?_⟩
  refine ⟨env, S1, _, hE.mon (st.mon hS), hS1, q, fun y S2 u H2 q2 st2 ry hS2 => ?_⟩
  exact hc x y S2 k v u H2 Q q2 (rx.mon (st2.mon hS1)) ry hS2 ((cl.after st).after st2)
theorem re_bin {op : Operator} {g : F2} (ho : Op2 X (binaryOp op) g) (ha : RE X a ra) (hb : RE X b rb) : RE X (.BinOp a op b pos) (rBin g ra rb) := by
  obtain ⟨r, ho, hc⟩ := ho
  exact PE.imp (pe_op ho ha hb) fun σ H Q h => two hc h
def rUn (g : F1) (ra : RT) : RT := fun env S k => ra env S fun x S1 => g x S1 k
theorem re_un {op : UnaryOp} {g : F1} (ho : Un1 X (unaryOp op) g) (ha : RE X a ra) : RE X (.UnaryOp op a pos) (rUn g ra) := by
  obtain ⟨r, ho, hc⟩ := ho
  refine PE.imp (pe_un ho ha) fun σ H Q h => ?_
  obtain ⟨env, S, k, hE, hS, h, cl⟩ := h
  refine ⟨env, S, _, hE, hS, h, fun x S1 v H1 q st rx hS1 => hc x S1 k v H1 Q q rx hS1 (cl.after st)⟩
theorem re_cmp {op : CmpOp} {g : F2} (ho : Op2 X (compareOp op) g) (ha : RE X a ra) (hb : RE X b rb) (hm : behindInMarks op b = false) : RE X (.Compare a [op] [b] pos) (rBin g ra rb) := by
  obtain ⟨r, ho, hc⟩ := ho
  exact PE.imp (pe_cmpR ho ha hb hm) fun σ H Q h => two hc h
/-- a bool as a test -/
def rB (r : RT) : RTt := fun env S k => r env S fun d S' => match d with
  | .bl b => k b S'
  | _ => False
theorem cl_b {k : TK} {Q : Bool → Hp → Prop} (c : ClB X.K H S k Q) : Cl X.K H S (fun d S' => match d with
  | .bl b => k b S'
  | _ => False) (fun v H' => ∃ b, v = .bl b ∧ Q b H') := fun d S' v H' q st r a => by
  dsimp only at q ⊢
  split at q
  · exact ⟨_, r.bl_, c _ _ _ q st a⟩
  · exact q.elim
theorem tr_val {r : RT} (h : RE X e r) (he : ∀ whole, isTrue e X.env whole = (do let v ← whole; standAt e.pos; holding [v] (truthy v)) := by intro _; rfl) : TR X e (rB r) :=
  PT.imp (pt_val h he) fun σ H Q ⟨env, S, k, hE, hS, q, c⟩ => ⟨env, S, _, hE, hS, q, cl_b c⟩
theorem tr_cmp {op : CmpOp} {g : F2} (ho : Op2 X (compareOp op) g) (ha : RE X a ra) (hb : RE X b rb) (hm : behindInMarks op b = false) : TR X (.Compare a [op] [b] pos) (rB (rBin g ra rb)) := by
  obtain ⟨r, ho, hc⟩ := ho
  exact PT.imp (pt_cmpR ho ha hb hm) fun σ H Q ⟨env, S, k, hE, hS, q, c⟩ => two hc ⟨env, S, _, hE, hS, q, cl_b c⟩
def rChain (g g' : F2) (ra rb rc : RT) : RT := fun env S k => ra env S fun x S1 => rb env S1 fun y S2 => g x y S2 fun d S3 => match d with
  | .bl true => rc env S3 fun z S4 => g' y z S4 k
  | .bl false => k (.bl false) S3
  | _ => False
theorem chain_go {σ : L2.St} {Q : VK} {g g' : F2} {r r' : R2} (hc : ∀ x y S k v u H Q, g x y S k → Rp X.K H x v → Rp X.K H y u → AbsS X.K S H → Cl X.K H S k Q → r v u H Q)
    (hc' : ∀ x y S k v u H Q, g' x y S k → Rp X.K H x v → Rp X.K H y u → AbsS X.K S H → Cl X.K H S k Q → r' v u H Q) (h : tR X.K (rChain g g' ra rb rc) σ H Q) : tChain r r' (tR X.K ra) (tR X.K rb) (tR X.K rc) σ H Q := by
  obtain ⟨env, S, k, hE, hS, h, cl⟩ := h
  refine ⟨env, S, _, hE, hS, h, fun x S1 v H1 q st rx hS1 => ?_⟩
  refine ⟨env, S1, _, hE.mon (st.mon hS), hS1, q, fun y S2 u H2 q2 st2 ry hS2 => ?_⟩
  refine hc x y S2 _ v u H2 _ q2 (rx.mon (st2.mon hS1)) ry hS2 fun d S3 z H3 q3 st3 rz hS3 => ?_
  split at q3
  · refine ⟨true, rz.bl_, ?_⟩
    rw [if_pos rfl]
    refine ⟨env, S3, _, ((hE.mon (st.mon hS)).mon (st2.mon hS1)).mon (st3.mon hS2), hS3, q3, fun w S4 t H4 q4 st4 rw_ hS4 => ?_⟩
    exact hc' y w S4 k u t H4 Q q4 ((ry.mon (st3.mon hS2)).mon (st4.mon hS3)) rw_ hS4 ((((cl.after st).after st2).after st3).after st4)
  · refine ⟨false, rz.bl_, ?_⟩
    rw [if_neg Bool.false_ne_true]
    exact cl _ _ _ _ q3 ((st.trans st2).trans st3) .bl hS3
  · exact q3.elim
theorem re_chain {op op' : CmpOp} {g g' : F2} (ho : Op2 X (compareOp op) g) (ho' : Op2 X (compareOp op') g') (ha : RE X a ra) (hb : RE X b rb) (hc : RE X c rc)
    (hm : lastMarks [op, op'] [b, c] = false := by with_unfolding_all rfl) : RE X (.Compare a [op, op'] [b, c] pos) (rChain g g' ra rb rc) := by
  obtain ⟨r, ho, h1⟩ := ho
  obtain ⟨r', ho', h2⟩ := ho'
  exact PE.imp (pe_chain ho ho' ha hb hc hm) fun σ H Q h => chain_go h1 h2 h
theorem tr_chain {op op' : CmpOp} {g g' : F2} (ho : Op2 X (compareOp op) g) (ho' : Op2 X (compareOp op') g') (ha : RE X a ra) (hb : RE X b rb) (hc : RE X c rc)
    (hm : lastMarks [op, op'] [b, c] = false := by with_unfolding_all rfl) : TR X (.Compare a [op, op'] [b, c] pos) (rB (rChain g g' ra rb rc)) := by
  obtain ⟨r, ho, h1⟩ := ho
  obtain ⟨r', ho', h2⟩ := ho'
  exact PT.imp (pt_chain ho ho' ha hb hc hm) fun σ H Q ⟨env, S, k, hE, hS, q, c⟩ => chain_go h1 h2 ⟨env, S, _, hE, hS, q, cl_b c⟩

/-! ### and, or, not, if -/
variable {tA' tB' : RTt} {rest : List Expr}
def WR (X : Cx) (e : Expr) (r : RTt) : Prop := PW X e (tT X.K r)
def rAnd (t u : RTt) : RTt := fun env S k => t env S fun c S1 => if c = true then u env S1 k else k false S1
def rOr (t u : RTt) : RTt := fun env S k => t env S fun c S1 => if c = true then k true S1 else u env S1 k
def rNot (t : RTt) : RTt := fun env S k => t env S fun c S1 => k (!c) S1
theorem TR.w (h : WR X e tA') : TR X e tA' := L2.PW.pt h
theorem wr_and1 (ha : TR X a tA') : WR X (.BoolOp .And [a] pos) tA' := pw_and1 ha
theorem wr_or1 (ha : TR X a tA') : WR X (.BoolOp .Or [a] pos) tA' := pw_or1 ha
theorem wr_and (ha : TR X a tA') (hb : WR X (.BoolOp .And (b :: rest) pos) tB') : WR X (.BoolOp .And (a :: b :: rest) pos) (rAnd tA' tB') := by
  refine PW.imp (pw_and ha hb) fun σ H Q ⟨env, S, k, hE, hS, q, cl⟩ => ?_
  refine ⟨env, S, _, hE, hS, q, fun c S1 H1 q1 st hS1 => ?_⟩
  by_cases h : c = true
  · rw [if_pos h] at q1 ⊢
    exact ⟨env, S1, k, hE.mon (st.mon hS), hS1, q1, cl.after st⟩
  · rw [if_neg h] at q1 ⊢
    exact cl _ _ _ q1 st hS1
theorem wr_or (ha : TR X a tA') (hb : WR X (.BoolOp .Or (b :: rest) pos) tB') : WR X (.BoolOp .Or (a :: b :: rest) pos) (rOr tA' tB') := by
  refine PW.imp (pw_or ha hb) fun σ H Q ⟨env, S, k, hE, hS, q, cl⟩ => ?_
  refine ⟨env, S, _, hE, hS, q, fun c S1 H1 q1 st hS1 => ?_⟩
  by_cases h : c = true
  · rw [if_pos h] at q1 ⊢
    exact cl _ _ _ q1 st hS1
  · rw [if_neg h] at q1 ⊢
    exact ⟨env, S1, k, hE.mon (st.mon hS), hS1, q1, cl.after st⟩
theorem tr_not (ha : TR X a tA') : TR X (.UnaryOp .Not a pos) (rNot tA') := by
  refine PT.imp (pt_not ha) fun σ H Q ⟨env, S, k, hE, hS, q, cl⟩ => ?_
  exact ⟨env, S, _, hE, hS, q, fun c S1 H1 q1 st hS1 => cl _ _ _ q1 st hS1⟩
/-- as values: bools -/
def rAndV (ra rb : RT) : RT := fun env S k => ra env S fun x S1 => match x with
  | .bl true => rb env S1 k
  | .bl false => k (.bl false) S1
  | _ => False
def rOrV (ra rb : RT) : RT := fun env S k => ra env S fun x S1 => match x with
  | .bl false => rb env S1 k
  | .bl true => k (.bl true) S1
  | _ => False
def rNotV (ra : RT) : RT := fun env S k => ra env S fun x S1 => match x with
  | .bl b => k (.bl (!b)) S1
  | _ => False
theorem re_one {op} (h : RE X a ra) : RE X (.BoolOp op [a] pos) ra := pe_one h
theorem re_and (ha : RE X a ra) (hb : RE X (.BoolOp .And (b :: rest) pos) rb) : RE X (.BoolOp .And (a :: b :: rest) pos) (rAndV ra rb) := by
  refine PE.imp (pe_and ha hb) fun σ H Q ⟨env, S, k, hE, hS, q, cl⟩ => ?_
  refine ⟨env, S, _, hE, hS, q, fun c S1 v H1 q1 st r hS1 => ?_⟩
  split at q1
  · refine ⟨true, r.bl_, ?_⟩
    rw [if_pos rfl]
    exact ⟨env, S1, k, hE.mon (st.mon hS), hS1, q1, cl.after st⟩
  · refine ⟨false, r.bl_, ?_⟩
    rw [if_neg Bool.false_ne_true]
    exact cl _ _ _ _ q1 st .bl hS1
  · exact q1.elim
theorem re_or (ha : RE X a ra) (hb : RE X (.BoolOp .Or (b :: rest) pos) rb) : RE X (.BoolOp .Or (a :: b :: rest) pos) (rOrV ra rb) := by
  refine PE.imp (pe_or ha hb) fun σ H Q ⟨env, S, k, hE, hS, q, cl⟩ => ?_
  refine ⟨env, S, _, hE, hS, q, fun c S1 v H1 q1 st r hS1 => ?_⟩
  split at q1
  · refine ⟨false, r.bl_, ?_⟩
    rw [if_neg Bool.false_ne_true]
    exact ⟨env, S1, k, hE.mon (st.mon hS), hS1, q1, cl.after st⟩
  · refine ⟨true, r.bl_, ?_⟩
    rw [if_pos rfl]
    exact cl _ _ _ _ q1 st .bl hS1
  · exact q1.elim
theorem re_not (ha : RE X a ra) : RE X (.UnaryOp .Not a pos) (rNotV ra) := by
  refine PE.imp (pe_not ha) fun σ H Q ⟨env, S, k, hE, hS, q, cl⟩ => ?_
  refine ⟨env, S, _, hE, hS, q, fun c S1 v H1 q1 st r hS1 => ?_⟩
  split at q1
  · exact ⟨_, r.bl_, cl _ _ _ _ q1 st .bl hS1⟩
  · exact q1.elim
def rIfE (t : RTt) (ra rb : RT) : RT := fun env S k => t env S fun c S1 => if c = true then ra env S1 k else rb env S1 k
theorem re_if (hc : TR X c tA') (ha : RE X a ra) (hb : RE X b rb) : RE X (.IfExp c a b pos) (rIfE tA' ra rb) := by
  refine PE.imp (pe_ifExp hc ha hb) fun σ H Q ⟨env, S, k, hE, hS, q, cl⟩ => ?_
  refine ⟨env, S, _, hE, hS, q, fun c S1 H1 q1 st hS1 => ?_⟩
  by_cases h : c = true
  · rw [if_pos h] at q1 ⊢
    exact ⟨env, S1, k, hE.mon (st.mon hS), hS1, q1, cl.after st⟩
  · rw [if_neg h] at q1 ⊢
    exact ⟨env, S1, k, hE.mon (st.mon hS), hS1, q1, cl.after st⟩

/-! ### argument lists, displays -/
def rNil : RTa := fun _ S k => k [] S
def rCons (ra : RT) (rl : RTa) : RTa := fun env S k => ra env S fun d S1 => rl env S1 fun ds S2 => k (d :: ds) S2
theorem ra_nil : RA X [] rNil := PA.imp pa_nil fun σ H Q ⟨env, S, k, hE, hS, q, cl⟩ => cl _ _ _ _ q Stp.refl .nil hS
theorem ra_cons (ha : RE X e ra) (hr : RA X es rl) (hs : starEach (e :: es) X.env = (false, eval e X.env) :: starEach es X.env := by rfl) : RA X (e :: es) (rCons ra rl) := by
  refine PA.imp (pa_cons ha hr hs) fun σ H Q ⟨env, S, k, hE, hS, q, cl⟩ => ?_
  refine ⟨env, S, _, hE, hS, q, fun d S1 v H1 q1 st r hS1 => ?_⟩
  refine ⟨env, S1, _, hE.mon (st.mon hS), hS1, q1, fun ds S2 vs H2 q2 st2 r2 hS2 => ?_⟩
  exact cl _ _ _ _ q2 (st.trans st2) (.cons (r.mon (st2.mon hS1)) r2) hS2
def rTup (rl : RTa) : RT := fun env S k => rl env S fun ds S1 => ds.length ≤ sizeLine ∧ k (.tup ds) S1
def rLst (rl : RTa) : RT := fun env S k => rl env S fun ds S1 => ds.length ≤ sizeLine ∧ ∀ p, S1 p = none → k (.ref p) (S1.upd p (.lst ds))
/-- a written tuple: its object is known -/
theorem pe_tupF {t : TA} {x1} (h : PA X es t) : PE X (.Tuple es x1 pos) (fun σ H Q => t σ H fun xs H1 => xs.length ≤ sizeLine ∧ ∀ p o, o.dict = none → H1 p = none → Q (.ref p) (L2.upd H1 p (.frz o (.tup xs)))) := by
  constructor
  intro pins s σ H Q I hq
  refine wpAny_Tuple_spliced (thn (h.run pos pins s σ H _ I hq) ?_)
  rintro us s1 ⟨xs, H1, I1, r, z, q⟩
  refine ⟨by rw [← r.length]; exact z, ?_⟩
  refine ⟨.ref s1.heap.objs.size, L2.upd H1 s1.heap.objs.size (.frz { cls := .type "tuple", data := .seq us.toArray } (.tup xs)), I1.laid (t' := s1.toks) (fun b u e => Heap.get?_push_of_some _ e) (Nat.le_refl _) ?_, rfl, q _ _ rfl (I1.hok.fresh (Nat.le_refl _))⟩
  exact ⟨Heap.get?_push_size _ rfl, z, us, r, ⟨_, Heap.get?_push_size _ rfl, rfl, _, rfl⟩⟩
/-- a new tuple -/
theorem cl_newT {k : RK} {Q : VK} {ds : List D} {vs : List V} (cl : Cl K H S k Q) (hS : AbsS K S H) (r : RpL K H ds vs) (q : k (.tup ds) S) : ∀ p o, o.dict = none → H p = none → Q (.ref p) (L2.upd H p (.frz o (.tup vs))) := fun p o ho hp =>
  cl _ _ _ _ q (Stp.laid0 hp) (.tup (.inl ⟨o, L2.upd_same, ho⟩) (r.mon (Mon.laid hp))) (hS.laid0 hp)
theorem re_tup {x1} (h : RA X es rl) : RE X (.Tuple es x1 pos) (rTup rl) := by
  refine PE.imp (pe_tupF h) fun σ H Q ⟨env, S, k, hE, hS, q, cl⟩ => ?_
  refine ⟨env, S, _, hE, hS, q, fun ds S1 vs H1 q1 st r hS1 => ?_⟩
  obtain ⟨hl, q1⟩ := q1
  exact ⟨by rw [← r.length]; exact hl, cl_newT (cl.after st) hS1 r q1⟩
/-- a new list -/
theorem cl_new {k : RK} {Q : VK} {ds : List D} {vs : List V} (cl : Cl K H S k Q) (hS : AbsS K S H) (r : RpL K H ds vs) (q : ∀ p, S p = none → k (.ref p) (S.upd p (.lst ds))) : ∀ p, H p = none → Q (.ref p) (L2.upd H p (.lst vs)) := fun p hp =>
  cl _ _ _ _ (q p (hS.free hp)) (Stp.laid hp) .ref (hS.laid hp True.intro ⟨vs, rfl, r.mon (Mon.laid hp)⟩)
theorem re_lst (h : RA X es rl) : RE X (.List es pos) (rLst rl) := by
  refine PE.imp (pe_lst h) fun σ H Q ⟨env, S, k, hE, hS, q, cl⟩ => ?_
  refine ⟨env, S, _, hE, hS, q, fun ds S1 vs H1 q1 st r hS1 => ?_⟩
  obtain ⟨hl, q1⟩ := q1
  exact ⟨by rw [← r.length]; exact hl, cl_new (cl.after st) hS1 r q1⟩
/-! ### calls of builtins -/
variable {x : Str} {p : Pos} {id T : String}
def rCallB (g : FL) (rl : RTa) : RT := fun env S k => rl env S fun ds S1 => g ds S1 k
theorem call_go {σ : L2.St} {Q : VK} {g : FL} {r : List V → Hp → VK → Prop} (hc : ∀ ds S k vs H Q, g ds S k → RpL X.K H ds vs → AbsS X.K S H → Cl X.K H S k Q → r vs H Q) (h : tR X.K (rCallB g rl) σ H Q) : tCB r (tA X.K rl) σ H Q := by
  obtain ⟨env, S, k, hE, hS, q, cl⟩ := h
  exact ⟨env, S, _, hE, hS, q, fun ds S1 vs H1 q1 st r1 hS1 => hc ds S1 k vs H1 Q q1 r1 hS1 (cl.after st)⟩
theorem re_callB {g : FL} (hc : CallD X (.builtin id) g) (hg : Gl X x) (hm : X.mg x = none) (hv : bootBuiltins x = some (.builtin id)) (ha : RA X (e :: es) rl) (hn : x ≠ "__name__" := by decide) (hdb : (x == ("__debug__" : Str)) = false := by decide)
    (he : starEach (e :: es) X.env = (false, eval e X.env) :: starEach es X.env := by rfl) (hpl : (backTo pos (starEach es X.env)).any (·.1) = false := by rfl) : RE X (.Call (.Name x p) (e :: es) [] pos) (rCallB g rl) := by
  obtain ⟨r, h1, h2⟩ := hc
  exact PE.imp (pe_callB h1 hg hm hv ha hn hdb he hpl) fun σ H Q h => call_go h2 h
theorem re_callTy {g : FL} (hc : CallD X (.type T) g) (hg : Gl X x) (hm : X.mg x = none) (hv : bootBuiltins x = some (.type T)) (ha : RA X (e :: es) rl) (hn : x ≠ "__name__" := by decide) (hdb : (x == ("__debug__" : Str)) = false := by decide)
    (he : starEach (e :: es) X.env = (false, eval e X.env) :: starEach es X.env := by rfl) (hpl : (backTo pos (starEach es X.env)).any (·.1) = false := by rfl) : RE X (.Call (.Name x p) (e :: es) [] pos) (rCallB g rl) := by
  obtain ⟨r, h1, h2⟩ := hc
  exact PE.imp (pe_callTy h1 hg hm hv ha hn hdb he hpl) fun σ H Q h => call_go h2 h
end
end DL
namespace DL
open PySem PySem.Spec PyProof.Rows L2

/-! ### statements -/
structure DE where
  nx : DEnv → Sto → Prop
  rt : RK
  bk : DEnv → Sto → Prop := fun _ _ => False
  ct : DEnv → Sto → Prop := fun _ _ => False
abbrev RTs := DE → DEnv → Sto → Prop
def ClN (K : PySem.W.Frag) (H : Hp) (S : Sto) (k : DEnv → Sto → Prop) (Q : L2.St → Hp → Prop) : Prop := ∀ env S' σ H', k env S' → Stp H S H' S' → AbsE K H' env σ → AbsS K S' H' → Q σ H'
structure ClS (K : PySem.W.Frag) (H : Hp) (S : Sto) (ed : DE) (D : Ends) : Prop where
  nx : ClN K H S ed.nx D.nx
  rt : Cl K H S ed.rt D.rt
  bk : ClN K H S ed.bk D.bk
  ct : ClN K H S ed.ct D.ct
def tS (K : PySem.W.Frag) (r : RTs) : TS := fun D σ H => ∃ env S ed, AbsE K H env σ ∧ AbsS K S H ∧ r ed env S ∧ ClS K H S ed D
def RS (X : Cx) (st : Stmt) (r : RTs) : Prop := PS X st (tS X.K r)
def RSs (X : Cx) (st : List Stmt) (r : RTs) : Prop := PSs X st (tS X.K r)
section
variable {X : Cx} {K : PySem.W.Frag} {H H1 : Hp} {S S1 : Sto}
theorem ClN.after {k : DEnv → Sto → Prop} {Q : L2.St → Hp → Prop} (c : ClN K H S k Q) (s : Stp H S H1 S1) : ClN K H1 S1 k Q := fun d S' v H' q st r a => c d S' v H' q (s.trans st) r a
theorem ClS.after {ed : DE} {D : Ends} (c : ClS K H S ed D) (s : Stp H S H1 S1) : ClS K H1 S1 ed D := ⟨c.nx.after s, c.rt.after s, c.bk.after s, c.ct.after s⟩
theorem PS.imp {e : Stmt} {t t' : TS} (h : PS X e t) (i : ∀ D σ H, t' D σ H → t D σ H) : PS X e t' := ⟨fun pins s σ H D I q => h.run pins s σ H D I (i D σ H q)⟩
theorem PSs.imp {e : List Stmt} {t t' : TS} (h : PSs X e t) (i : ∀ D σ H, t' D σ H → t D σ H) : PSs X e t' := ⟨fun pins s σ H D I q => h.run pins s σ H D I (i D σ H q)⟩

variable {st : Stmt} {rest : List Stmt} {e c : Expr} {r u : RTs} {re : RT} {rt : RTt} {pos : Pos}
def rSkip : RTs := fun ed env S => ed.nx env S
def rSeq (r u : RTs) : RTs := fun ed env S => r { ed with nx := fun env' S' => u ed env' S' } env S
theorem rs_nil : RSs X [] rSkip := PSs.imp pss_nil fun D σ H ⟨env, S, ed, hE, hS, q, cl⟩ => cl.nx _ _ _ _ q Stp.refl hE hS
theorem rs_cons (h1 : RS X st r) (h2 : RSs X rest u) : RSs X (st :: rest) (rSeq r u) := by
  refine PSs.imp (pss_cons h1 h2) fun D σ H ⟨env, S, ed, hE, hS, q, cl⟩ => ?_
  exact ⟨env, S, _, hE, hS, q, ⟨fun env' S' σ' H' q' st' hE' hS' => ⟨env', S', ed, hE', hS', q', cl.after st'⟩, cl.rt, cl.bk, cl.ct⟩⟩
theorem rs_one (h1 : RS X st r) : RSs X [st] r := pss_one h1
theorem rs_pass : RS X (.Pass pos) rSkip := PS.imp ps_pass fun D σ H ⟨env, S, ed, hE, hS, q, cl⟩ => cl.nx _ _ _ _ q Stp.refl hE hS
def rBreak : RTs := fun ed env S => ed.bk env S
def rCont : RTs := fun ed env S => ed.ct env S
theorem rs_break : RS X (.Break pos) rBreak := PS.imp ps_break fun D σ H ⟨env, S, ed, hE, hS, q, cl⟩ => cl.bk _ _ _ _ q Stp.refl hE hS
theorem rs_continue : RS X (.Continue pos) rCont := PS.imp ps_continue fun D σ H ⟨env, S, ed, hE, hS, q, cl⟩ => cl.ct _ _ _ _ q Stp.refl hE hS
def rDrop (re : RT) : RTs := fun ed env S => re env S fun _ S1 => ed.nx env S1
theorem rs_expr (he : RE X e re) (hs : swapsWith e none pos.line X.env = pure false := by rfl) : RS X (.Expr e pos) (rDrop re) :=
  PS.imp (ps_expr he hs) fun D σ H ⟨env, S, ed, hE, hS, q, cl⟩ => ⟨env, S, _, hE, hS, q, fun _ S1 _ H1 q1 st _ hS1 => cl.nx _ _ _ _ q1 st (hE.mon (st.mon hS)) hS1⟩
theorem rs_doc {x j pos pos'} : RS X (.Expr (.Constant (.str x) j pos) pos') rSkip := PS.imp ps_doc fun D σ H ⟨env, S, ed, hE, hS, q, cl⟩ => cl.nx _ _ _ _ q Stp.refl hE hS
def rRet (re : RT) : RTs := fun ed env S => re env S ed.rt
theorem rs_ret (he : RE X e re) : RS X (.Return (some e) pos) (rRet re) :=
  PS.imp (ps_ret he) fun D σ H ⟨env, S, ed, hE, hS, q, cl⟩ => ⟨env, S, _, hE, hS, q, cl.rt⟩
def rRetN : RTs := fun ed env S => ed.rt .non S
theorem rs_retN : RS X (.Return none pos) rRetN :=
  PS.imp ps_retN fun D σ H ⟨env, S, ed, hE, hS, q, cl⟩ => cl.rt _ _ _ _ q Stp.refl .non hS
def rIf (rt : RTt) (r u : RTs) : RTs := fun ed env S => rt env S fun b S1 => if b = true then r ed env S1 else u ed env S1
theorem rs_if {a b : List Stmt} (hc : TR X c rt) (ha : RSs X a r) (hb : RSs X b u) : RS X (.If c a b pos) (rIf rt r u) := by
  refine PS.imp (ps_if hc ha hb) fun D σ H ⟨env, S, ed, hE, hS, q, cl⟩ => ?_
  refine ⟨env, S, _, hE, hS, q, fun b S1 H1 q1 st hS1 => ?_⟩
  by_cases h : b = true
  · rw [if_pos h] at q1 ⊢
    exact ⟨env, S1, ed, hE.mon (st.mon hS), hS1, q1, cl.after st⟩
  · rw [if_neg h] at q1 ⊢
    exact ⟨env, S1, ed, hE.mon (st.mon hS), hS1, q1, cl.after st⟩
def rNever : RTs := fun _ _ _ => False
theorem rs_never : RS X st rNever := PS.imp ps_never fun D σ H ⟨env, S, ed, hE, hS, q, cl⟩ => q.elim
theorem rss_never {sts : List Stmt} : RSs X sts rNever := PSs.imp pss_never fun D σ H ⟨env, S, ed, hE, hS, q, cl⟩ => q.elim

/-! ### targets -/
abbrev RTg := D → DEnv → Sto → (DEnv → Sto → Prop) → Prop
abbrev RTgs := List D → DEnv → Sto → (DEnv → Sto → Prop) → Prop
/-- the slots outside is are as they were -/
def Out (is : List Nat) (σ σ' : L2.St) : Prop := σ'.length = σ.length ∧ ∀ j, j ∉ is → σ'[j]? = σ[j]?
theorem Out.refl (is : List Nat) (σ : L2.St) : Out is σ σ := ⟨rfl, fun _ _ => rfl⟩
theorem Out.trans {is : List Nat} {σ σ1 σ2 : L2.St} (a : Out is σ σ1) (b : Out is σ1 σ2) : Out is σ σ2 := ⟨b.1.trans a.1, fun j h => (b.2 j h).trans (a.2 j h)⟩
theorem Out.set {is : List Nat} {σ : L2.St} {i : Nat} {o : Option V} (h : i ∈ is) : Out is σ (σ.set i o) := ⟨List.length_set .., fun j hj => List.getElem?_set_ne (fun e => by subst e; exact hj h)⟩
theorem wipe_eq_of : ∀ (is : List Nat) (σ σ' : L2.St), σ'.length = σ.length → (∀ j, j ∉ is → σ'[j]? = σ[j]?) → L2.wipe σ' is = L2.wipe σ is := by
  intro is σ σ' hl h
  refine List.ext_getElem? fun j => ?_
  by_cases hj : j ∈ is
  · have key : ∀ (τ : L2.St) (vs : List Nat), j ∈ vs → (L2.wipe τ vs)[j]? = if j < τ.length then some none else none := by
      intro τ vs
      induction vs with
      | nil => intro z; cases z
      | cons v vs ih =>
        intro z
        unfold L2.wipe
        by_cases e : v = j
        · subst e
          by_cases hlt : v < (L2.wipe τ vs).length
          · rw [List.getElem?_set_self hlt, if_pos (by rw [L2.wipe_length] at hlt; exact hlt)]
          · rw [List.getElem?_eq_none (by rw [List.length_set]; omega), if_neg (by rw [L2.wipe_length] at hlt; exact hlt)]
        · rw [List.getElem?_set_ne e]
          exact ih (by rcases List.mem_cons.mp z with q | q; exact absurd q.symm e; exact q)
    rw [key _ _ hj, key _ _ hj, hl]
  · rw [L2.wipe_out hj, L2.wipe_out hj, h j hj]
def tG (K : PySem.W.Frag) (is : List Nat) (g : RTg) : TG := fun v σ H Q => ∃ d env S kk, Rp K H d v ∧ AbsE K H env σ ∧ AbsS K S H ∧ g d env S kk ∧
  ∀ env' S' σ' H', kk env' S' → Stp H S H' S' → AbsE K H' env' σ' → AbsS K S' H' → Out is σ σ' → Q σ' H'
def tGs (K : PySem.W.Frag) (is : List Nat) (g : RTgs) : TGs := fun vs σ H Q => ∃ ds env S kk, RpL K H ds vs ∧ AbsE K H env σ ∧ AbsS K S H ∧ g ds env S kk ∧
  ∀ env' S' σ' H', kk env' S' → Stp H S H' S' → AbsE K H' env' σ' → AbsS K S' H' → Out is σ σ' → Q σ' H'
def RG (X : Cx) (is : List Nat) (e : Expr) (g : RTg) : Prop := PG X e (tG X.K is g)
def RGs (X : Cx) (is : List Nat) (es : List Expr) (g : RTgs) : Prop := PGs X es (tGs X.K is g)
theorem PG.imp {e : Expr} {t t' : TG} (h : PG X e t) (i : ∀ v σ H Q, t' v σ H Q → t v σ H Q) : PG X e t' := ⟨fun pins s σ H v u Q I r q => h.run pins s σ H v u Q I r (i v σ H Q q)⟩
theorem PGs.imp {e : List Expr} {t t' : TGs} (h : PGs X e t) (i : ∀ v σ H Q, t' v σ H Q → t v σ H Q) : PGs X e t' := ⟨fun pins s σ H v u Q I r q => h.run pins s σ H v u Q I r (i v σ H Q q)⟩
def gN (i : Nat) : RTg := fun d env S k => k (env.set i (some d)) S
theorem rg_name {is : List Nat} (i : Nat) {x : Str} (hN : X.N.Nodup) (hm : i ∈ is) (hi : X.N[i]? = some x := by rfl) (hx : Loc X.env.scope x := by first | exact Or.inl rfl | exact Or.inr rfl)
    (hf : X.fn x = true ∨ X.env.scope.names.lookup x = some .local := by first | exact .inl rfl | exact .inr rfl | assumption) : RG X is (.Name x pos) (gN i) :=
  PG.imp (pg_name hN hi hx hf) fun v σ H Q ⟨d, env, S, kk, r, hE, hS, q, cl⟩ => cl _ _ _ _ q Stp.refl (hE.set i r) hS (Out.set hm)
def gNil' : RTgs := fun ds env S k => ds = [] ∧ k env S
def gCons' (g : RTg) (u : RTgs) : RTgs := fun ds env S k => ∃ d t, ds = d :: t ∧ g d env S fun env' S' => u t env' S' k
theorem rgs_nil {is : List Nat} : RGs X is [] gNil' := PGs.imp pgs_nil fun v σ H Q ⟨ds, env, S, kk, r, hE, hS, ⟨e, q⟩, cl⟩ => by
  subst e
  exact ⟨r.nil_of, cl _ _ _ _ q Stp.refl hE hS (Out.refl ..)⟩
theorem rgs_cons {is : List Nat} {es : List Expr} {g : RTg} {u : RTgs} (h1 : RG X is e g) (h2 : RGs X is es u)
    (hs : (assignEach (e :: es) X.env).map (·.2) = assign e X.env :: (assignEach es X.env).map (·.2) := by rfl) : RGs X is (e :: es) (gCons' g u) :=
  PGs.imp (pgs_cons h1 h2 hs) fun v σ H Q ⟨ds, env, S, kk, r, hE, hS, ⟨d, t, e, q⟩, cl⟩ => by
    subst e
    obtain ⟨v0, vr, e, p, r⟩ := r.cons_of
    refine ⟨v0, vr, e, d, env, S, _, p, hE, hS, q, fun env1 S1 σ1 H1 q1 st1 hE1 hS1 o1 => ?_⟩
    exact ⟨t, env1, S1, kk, r.mon (st1.mon hS), hE1, hS1, q1, fun env2 S2 σ2 H2 q2 st2 hE2 hS2 o2 => cl _ _ _ _ q2 (st1.trans st2) hE2 hS2 (o1.trans o2)⟩
def gTup' (n : Nat) (u : RTgs) : RTg := fun d env S k => match d with
  | .tup ds => ds.length = n ∧ u ds env S k
  | .par ds => ds.length = n ∧ u ds env S k
  | _ => False
theorem rg_tup {is : List Nat} {es : List Expr} {k : Nat} {u : RTgs} {n : Nat} (hc : X.calm = true) (h : RGs X is es u)
    (hn : (assignEach es X.env).length = n := by rfl) (hst : (assignEach es X.env).findIdx? (·.1) = none := by rfl) : RG X is (.Tuple es k pos) (gTup' n u) :=
  PG.imp (pg_tup hc h hn hst) fun v σ H Q ⟨d, env, S, kk, r, hE, hS, q, cl⟩ => by
    unfold gTup' at q
    split at q
    · obtain ⟨a, vs, e, hq, hl⟩ := r.tup_
      exact ⟨a, vs, e, hq.sq, by rw [← hl.length]; exact q.1, _, env, S, kk, hl, hE, hS, q.2, cl⟩
    · obtain ⟨a, vs, e, hq, hl⟩ := r.par_
      exact ⟨a, vs, e, hq, by rw [← hl.length]; exact q.1, _, env, S, kk, hl, hE, hS, q.2, cl⟩
    · exact q.elim
abbrev SetF := D → D → D → Sto → (Sto → Prop) → Prop
def SetD (X : Cx) (g : SetF) : Prop := ∃ t, PSet X t ∧ ∀ o i d S k ov iv v H Q, g o i d S k → Rp X.K H o ov → Rp X.K H i iv → Rp X.K H d v → AbsS X.K S H → (∀ S' H', k S' → Stp H S H' S' → AbsS X.K S' H' → Q H') → t ov iv v H Q
def gIx (ro ri : RT) (g : SetF) : RTg := fun d env S k => ro env S fun o S1 => ri env S1 fun i S2 => g o i d S2 fun S3 => k env S3
theorem rg_sub {is : List Nat} {o i : Expr} {ro ri : RT} {g : SetF} (ho : RE X o ro) (hi : RE X i ri) (hs : SetD X g)
    (ha : ∀ v, assign (.Subscript o i pos) X.env v = (do
      let ov ← holding [v] (eval o X.env)
      let iv ← holding [v, ov] (eval i X.env)
      standAt pos
      holding [v, ov, iv] (setItem ov iv v)
      release [v, ov, iv] []) := by intro _; rfl) : RG X is (.Subscript o i pos) (gIx ro ri g) := by
  obtain ⟨t, h1, h2⟩ := hs
  refine PG.imp (pg_sub ho hi h1 ha) fun v σ H Q ⟨d, env, S, kk, r, hE, hS, q, cl⟩ => ?_
  refine ⟨env, S, _, hE, hS, q, fun od S1 ov H1 q1 st1 r1 hS1 => ?_⟩
  refine ⟨env, S1, _, hE.mon (st1.mon hS), hS1, q1, fun id S2 iv H2 q2 st2 r2 hS2 => ?_⟩
  refine h2 od id d S2 _ ov iv v H2 _ q2 (r1.mon (st2.mon hS1)) r2 ((r.mon (st1.mon hS)).mon (st2.mon hS1)) hS2 fun S3 H3 q3 st3 hS3 => ?_
  exact cl _ _ _ _ q3 ((st1.trans st2).trans st3) (((hE.mon (st1.mon hS)).mon (st2.mon hS1)).mon (st3.mon hS2)) hS3 (Out.refl ..)
def rAsg (re : RT) (g : RTg) : RTs := fun ed env S => re env S fun d S1 => g d env S1 ed.nx
theorem rs_asg {is : List Nat} {tg : Expr} {g : RTg} (he : RE X e re) (hg : RG X is tg g) (hs : swapsWithSole [tg] e pos.line X.env = pure false := by rfl) (hw : swappedStores [tg] e X.env = pure none := by rfl)
    (h1 : (assignEach [tg] X.env).map (·.2) = [assign tg X.env] := by rfl) : RS X (.Assign [tg] e pos) (rAsg re g) := by
  refine PS.imp (ps_asg he hg hs hw h1) fun D σ H ⟨env, S, ed, hE, hS, q, cl⟩ => ?_
  refine ⟨env, S, _, hE, hS, q, fun d S1 v H1 q1 st1 r1 hS1 => ?_⟩
  exact ⟨d, env, S1, ed.nx, r1, hE.mon (st1.mon hS), hS1, q1, fun env2 S2 σ2 H2 q2 st2 hE2 hS2 _ => cl.nx _ _ _ _ q2 (st1.trans st2) hE2 hS2⟩
theorem rs_set (i : Nat) {x : Str} {pos' : Pos} (hN : X.N.Nodup) (he : RE X e re) (hi : X.N[i]? = some x := by rfl) (hx : Loc X.env.scope x := by first | exact Or.inl rfl | exact Or.inr rfl) (hs : swapsWith e (some (.Name x pos')) pos.line X.env = pure false := by rfl)
    (hf : X.fn x = true ∨ X.env.scope.names.lookup x = some .local := by first | exact .inl rfl | exact .inr rfl | assumption) : RS X (.Assign [.Name x pos'] e pos) (rAsg re (gN i)) := by
  refine PS.imp (ps_set hN hi hx he hs hf) fun D σ H ⟨env, S, ed, hE, hS, q, cl⟩ => ?_
  refine ⟨env, S, _, hE, hS, q, fun d S1 v H1 q1 st1 r1 hS1 => ?_⟩
  exact cl.nx _ _ _ _ q1 st1 ((hE.mon (st1.mon hS)).set i r1) hS1
/-- a, b = x, y with two local names -/
def rPar (i j : Nat) (rl : RTa) : RTs := fun ed env S => rl env S fun ds S1 => match ds with
  | [d, e] => ed.nx ((env.set i (some d)).set j (some e)) S1
  | _ => False
theorem rs_par (i j : Nat) {x y : Str} {a b : Expr} {rl : RTa} {px py pt : Pos} {kt k2 pt2} (hc : X.calm = true) (hN : X.N.Nodup) (ha : RA X [a, b] rl) (hi : X.N[i]? = some x := by rfl) (hj : X.N[j]? = some y := by rfl) (hij : i ≠ j := by decide)
    (hx : X.env.scope.names.lookup x = some .local := by rfl) (hy : X.env.scope.names.lookup y = some .local := by rfl)
    (hw : swappedStores [.Tuple [.Name x px, .Name y py] kt pt] (.Tuple [a, b] k2 pt2) X.env = pure (some [x, y]) := by rfl)
    (hs : swapsWithSole [.Tuple [.Name x px, .Name y py] kt pt] (.Tuple [a, b] k2 pt2) pos.line X.env = pure false := by rfl) : RS X (.Assign [.Tuple [.Name x px, .Name y py] kt pt] (.Tuple [a, b] k2 pt2) pos) (rPar i j rl) := by
  refine PS.imp (ps_par hc hN hi hj hij hx hy ha hw hs) fun D σ H ⟨env, S, ed, hE, hS, q, cl⟩ => ?_
  refine ⟨env, S, _, hE, hS, q, fun ds S1 vs H1 q1 st1 r1 hS1 => ?_⟩
  dsimp only at q1 ⊢
  split at q1
  · obtain ⟨v, r', e1, p1, t1⟩ := r1.cons_of
    obtain ⟨w, r'', e2, p2, t2⟩ := t1.cons_of
    have e3 := t2.nil_of
    subst e3 e2 e1
    exact ⟨v, w, rfl, cl.nx _ _ _ _ q1 st1 (((hE.mon (st1.mon hS)).set i p1).set j p2) hS1⟩
  · exact q1.elim
/-- name op= e -/
def IpD (X : Cx) (op : Operator) (g : F2) : Prop := ∃ t, PIp X op t ∧ ∀ x y S k v u H Q, g x y S k → Rp X.K H x v → Rp X.K H y u → AbsS X.K S H → Cl X.K H S k Q → t v u H Q
def rAug (i : Nat) (re : RT) (g : F2) : RTs := fun ed env S => match env[i]? with
  | some (some d) => re env S fun y S1 => g d y S1 fun z S2 => ed.nx (env.set i (some z)) S2
  | _ => False
theorem rs_aug (i : Nat) {x : Str} {op : Operator} {g : F2} {pos' : Pos} (hN : X.N.Nodup) (he : RE X e re) (ho : IpD X op g) (hi : X.N[i]? = some x := by rfl) (hx : Loc X.env.scope x := by first | exact Or.inl rfl | exact Or.inr rfl)
    (hf : X.fn x = true ∨ X.env.scope.names.lookup x = some .local := by first | exact .inl rfl | exact .inr rfl | assumption) : RS X (.AugAssign (.Name x pos') op e pos) (rAug i re g) := by
  obtain ⟨t, h1, h2⟩ := ho
  refine PS.imp (ps_aug hN hi hx he h1 hf) fun D σ H ⟨env, S, ed, hE, hS, q, cl⟩ => ?_
  unfold rAug at q
  split at q
  · rename_i d e
    obtain ⟨v, e', p⟩ := hE.get e
    refine ⟨v, e', env, S, _, hE, hS, q, fun y S1 u H1 q1 st1 r1 hS1 => ?_⟩
    refine h2 d y S1 _ v u H1 _ q1 (p.mon (st1.mon hS)) r1 hS1 fun z S2 w H2 q2 st2 r2 hS2 => ?_
    exact cl.nx _ _ _ _ q2 (st1.trans st2) (((hE.mon (st1.mon hS)).mon (st2.mon hS1)).set i r2) hS2
  · exact q.elim

/-! ### while -/
def rWhile (rt : RTt) (rb : RTs) : RTs := fun ed env S => ∃ I : Nat → DEnv → Sto → Prop, (∃ m, I m env S) ∧ ∀ m env S, I m env S →
  rt env S fun b S1 => if b = true then rb { ed with nx := fun env' S' => ∃ m' S'', m' < m ∧ Sub S'' S' ∧ I m' env' S'', ct := fun env' S' => ∃ m' S'', m' < m ∧ Sub S'' S' ∧ I m' env' S'', bk := ed.nx } env S1 else ed.nx env S1
theorem rs_while {body : List Stmt} {rb : RTs} (hp : PassesOwn (model X.prog X.w) X.A X.env X.xe) (hc : TR X c rt) (hb : RSs X body rb) : RS X (.While c body [] pos) (rWhile rt rb) := by
  refine PS.imp (ps_while hp hc hb) fun D σ H ⟨env, S, ed, hE, hS, ⟨I, ⟨m0, i0⟩, go⟩, cl⟩ => ?_
  refine ⟨fun m σ' H' => ∃ env' S', AbsE X.K H' env' σ' ∧ AbsS X.K S' H' ∧ Stp H S H' S' ∧ I m env' S', ⟨m0, env, S, hE, hS, Stp.refl, i0⟩, ?_⟩
  rintro m σ1 H1 ⟨env1, S1, hE1, hS1, st1, i1⟩
  refine ⟨env1, S1, _, hE1, hS1, go m env1 S1 i1, fun b S2 H2 q2 st2 hS2 => ?_⟩
  by_cases h : b = true
  · rw [if_pos h] at q2 ⊢
    refine ⟨fun σ' H' => ∃ m', m' < m ∧ ∃ env' S', AbsE X.K H' env' σ' ∧ AbsS X.K S' H' ∧ Stp H S H' S' ∧ I m' env' S', fun σ' H' q => q, ?_⟩
    refine ⟨env1, S2, _, hE1.mon (st2.mon hS1), hS2, q2, ⟨fun env' S' σ' H' ⟨m', S'', lt, sb, i'⟩ st' hE' hS' => ?_, cl.rt.after (st1.trans st2), cl.nx.after (st1.trans st2), fun env' S' σ' H' ⟨m', S'', lt, sb, i'⟩ st' hE' hS' => ?_⟩⟩
    · exact ⟨m', lt, env', S'', hE', hS'.sub sb, ((st1.trans st2).trans st').sub sb, i'⟩
    · exact ⟨m', lt, env', S'', hE', hS'.sub sb, ((st1.trans st2).trans st').sub sb, i'⟩
  · rw [if_neg h] at q2 ⊢
    exact cl.nx _ _ _ _ q2 (st1.trans st2) (hE1.mon (st2.mon hS1)) hS2

/-! ### what is walked -/
/-- items, and what must stand while they are walked -/
abbrev RTi := DEnv → Sto → (List D → (Sto → Prop) → Sto → Prop) → Prop
def WalkD (K : PySem.W.Frag) (H0 : Hp) (J : It) (items : List D) (G : Sto → Prop) : Prop := ∃ Gh Y, Walk J items.length Gh Y ∧ (∀ S H, Mon H0 H → AbsS K S H → G S → Gh H) ∧
  ∀ i H x H', i < items.length → Gh H → Y i H x H' → ∃ d, items[i]? = some d ∧ ∀ S, Mon H0 H → AbsS K S H → Rp K H' d x ∧ Stp H S H' S ∧ AbsS K S H'
def tI (K : PySem.W.Frag) (r : RTi) : TI := fun σ H R => ∃ env S k, AbsE K H env σ ∧ AbsS K S H ∧ r env S k ∧
  ∀ items G S1 J H1, k items G S1 → Stp H S H1 S1 → AbsS K S1 H1 → WalkD K H1 J items G → R J H1
def RI (X : Cx) (tg iter : Expr) (r : RTi) : Prop := PI X tg iter (tI X.K r)
theorem PI.imp {tg e : Expr} {t t' : TI} (h : PI X tg e t) (i : ∀ σ H Q, t' σ H Q → t σ H Q) : PI X tg e t' := ⟨fun pins s σ H Q I q => h.run pins s σ H Q I (i σ H Q q)⟩
def rFor (ri : RTi) (g : RTg) (rb : RTs) : RTs := fun ed env S => ri env S fun items G S1 => ∃ I : Nat → DEnv → Sto → Prop, I 0 env S1 ∧ (∀ i env S, i ≤ items.length → I i env S → G S) ∧
  (∀ i x env S, items[i]? = some x → I i env S → g x env S fun env' S' => rb { ed with nx := fun env2 S2 => ∃ S3, Sub S3 S2 ∧ I (i + 1) env2 S3, ct := fun env2 S2 => ∃ S3, Sub S3 S2 ∧ I (i + 1) env2 S3, bk := ed.nx } env' S') ∧
  ∀ env S, I items.length env S → ed.nx env S
theorem rs_for {is : List Nat} {tg iter : Expr} {body : List Stmt} {ri : RTi} {g : RTg} {rb : RTs} (hp : PassesOwn (model X.prog X.w) X.A X.env X.xe) (hc : X.calm = true) (hi : RI X tg iter ri) (hg : RG X is tg g) (hb : RSs X body rb)
    (hs : ∀ x, foldedSetIterable iter X.env x = pure x := by intro _; rfl) : RS X (.For tg iter body [] pos) (rFor ri g rb) := by
  refine PS.imp (ps_for hp hc hi hg hb hs) fun D σ H ⟨env, S, ed, hE, hS, q, cl⟩ => ?_
  refine ⟨env, S, _, hE, hS, q, fun items G S1 J H1 ⟨I, i0, iG, go, fin⟩ st1 hS1 w => ?_⟩
  obtain ⟨Gh, Y, wk, hG, hY⟩ := w
  refine for_it wk (fun i σ' H' => ∃ env' S', AbsE X.K H' env' σ' ∧ AbsS X.K S' H' ∧ Stp H1 S1 H' S' ∧ I i env' S') ⟨env, S1, hE.mon (st1.mon hS), hS1, Stp.refl, i0⟩ ?_ ?_ ?_
  · rintro i σ' H' hi' ⟨env', S', hE', hS', st', q'⟩
    exact hG S' H' (st'.mon hS1) hS' (iG i env' S' hi' q')
  · rintro i x σ' H' H2 hi' ⟨env', S', hE', hS', st', q'⟩ y
    obtain ⟨d, e, hd⟩ := hY i H' x H2 hi' (hG S' H' (st'.mon hS1) hS' (iG i env' S' (Nat.le_of_lt hi') q')) y
    obtain ⟨rd, st2, hS2⟩ := hd S' (st'.mon hS1) hS'
    refine ⟨d, env', S', _, rd, hE'.mon (st2.mon hS'), hS2, go i d env' S' e q', fun env3 S3 σ3 H3 q3 st3 hE3 hS3 _ => ?_⟩
    have sA := (st'.trans st2).trans st3
    refine ⟨env3, S3, _, hE3, hS3, q3, ⟨fun env4 S4 σ4 H4 ⟨S5, sb, i5⟩ st4 hE4 hS4 => ?_, cl.rt.after (st1.trans sA), cl.nx.after (st1.trans sA), fun env4 S4 σ4 H4 ⟨S5, sb, i5⟩ st4 hE4 hS4 => ?_⟩⟩
    · exact ⟨env4, S5, hE4, hS4.sub sb, (sA.trans st4).sub sb, i5⟩
    · exact ⟨env4, S5, hE4, hS4.sub sb, (sA.trans st4).sub sb, i5⟩
  · rintro σ' H' ⟨env', S', hE', hS', st', q'⟩
    exact cl.nx _ _ _ _ (fin env' S' q') (st1.trans st') hE' hS'

/-! ### comprehensions -/
def rComp (ri : RTi) (g : RTg) (tt : RTt) (re : RT) (vs : List Nat) : RT := fun env S k => ri env S fun items G S1 => ∃ I : Nat → List D → Sto → Prop, I 0 [] S1 ∧ (∀ i acc S, i ≤ items.length → I i acc S → G S) ∧
  (∀ i x acc S, items[i]? = some x → I i acc S → g x (wipeE env vs) S fun env2 S2 => tt env2 S2 fun b S3 => if b = true then re env2 S3 fun d S4 => acc.length < sizeLine ∧ ∃ S5, Sub S5 S4 ∧ I (i + 1) (acc ++ [d]) S5 else ∃ S5, Sub S5 S3 ∧ I (i + 1) acc S5) ∧
  ∀ acc S, I items.length acc S → ∀ p, S p = none → k (.ref p) (S.upd p (.lst acc))
theorem comp_go {σ : L2.St} {Q : VK} {is : List Nat} {ri : RTi} {g : RTg} {tt : RTt} {re : RT} (h : tR X.K (rComp ri g tt re is) σ H Q) : tLc (tI X.K ri) (tG X.K is g) (tT X.K tt) (tR X.K re) is σ H Q := by
  obtain ⟨env, S, k, hE, hS, q, cl⟩ := h
  refine ⟨env, S, _, hE, hS, q, fun items G S1 J H1 ⟨I, i0, iG, go, fin⟩ st1 hS1 w D hD => ?_⟩
  obtain ⟨Gh, Y, wk, hG, hY⟩ := w
  refine lc_it wk (fun i H' => ∃ acc S' vs, H' D = some (.lst vs) ∧ RpL X.K H' acc vs ∧ S' D = none ∧ AbsS X.K S' H' ∧ Stp H1 S1 H' S' ∧ I i acc S')
    ⟨[], S1, [], L2.upd_same, .nil, hS1.free hD, hS1.laid0 hD, Stp.laid0 hD, i0⟩ ?_ ?_ ?_
  · rintro i H' hi' ⟨acc, S', vs, hd, rl, fr, hS', st', q'⟩
    exact hG S' H' (st'.mon hS1) hS' (iG i acc S' hi' q')
  · rintro i x H' H2 hi' ⟨acc, S', vs, hd, rl, fr, hS', st', q'⟩ y
    obtain ⟨d, e, hd'⟩ := hY i H' x H2 hi' (hG S' H' (st'.mon hS1) hS' (iG i acc S' (Nat.le_of_lt hi') q')) y
    obtain ⟨rd, st2, hS2⟩ := hd' S' (st'.mon hS1) hS'
    have hE2 : AbsE X.K H2 env σ := ((hE.mon (st1.mon hS)).mon (st'.mon hS1)).mon (st2.mon hS')
    refine ⟨d, wipeE env is, S', _, rd, hE2.wipe is, hS2, go i d acc S' e q', fun env3 S3 σ3 H3 q3 st3 hE3 hS3 o3 => ?_⟩
    refine ⟨?_, ?_⟩
    · have z := wipe_eq_of is (L2.wipe σ is) σ3 o3.1 o3.2
      rw [z]
      exact wipe_eq_of is σ (L2.wipe σ is) (L2.wipe_length _ _) fun j hj => L2.wipe_out hj
    · refine ⟨env3, S3, _, hE3, hS3, q3, fun b S4 H4 q4 st4 hS4 => ?_⟩
      have sA : Stp H' S' H4 S4 := (st2.trans st3).trans st4
      dsimp only
      by_cases h : b = true
      · rw [if_pos h] at q4 ⊢
        refine ⟨env3, S4, _, hE3.mon (st4.mon hS3), hS4, q4, fun y S5 v H5 ⟨hl, S6, sb, i6⟩ st5 r5 hS5 => ?_⟩
        have sB : Stp H' S' H5 S5 := sA.trans st5
        have at5 : H5 D = some (.lst vs) := (sB _ _ hd fr).1
        have rl5 : RpL X.K H5 acc vs := rl.mon (sB.mon hS')
        refine ⟨vs, at5, by rw [← rl.length]; exact hl, acc ++ [y], S6, vs ++ [v], L2.upd_same, ?_, ?_, ?_, ?_, i6⟩
        · exact (rl5.append (.cons r5 .nil)).mon (Mon.write at5 True.intro)
        · exact sb.free (sB _ _ hd fr).2
        · exact fun a o ea => by
            have ha := sb a o ea
            obtain ⟨u, e1, m1, r1⟩ := hS5 a o ha
            have ne : a ≠ D := by intro z; rw [z, (sB _ _ hd fr).2] at ha; cases ha
            exact ⟨u, by rw [L2.upd_ne ne]; exact e1, m1, r1.mon (Mon.write at5 True.intro)⟩
        · exact fun a o ea en => by
            have ne : a ≠ D := by intro z; rw [z, hD] at ea; cases ea
            obtain ⟨z1, z2⟩ := (st'.trans sB) a o ea en
            exact ⟨by rw [L2.upd_ne ne]; exact z1, sb.free z2⟩
      · rw [if_neg h] at q4 ⊢
        obtain ⟨S6, sb, i6⟩ := q4
        exact ⟨acc, S6, vs, (sA _ _ hd fr).1, rl.mon (sA.mon hS'), sb.free (sA _ _ hd fr).2, hS4.sub sb, (st'.trans sA).sub sb, i6⟩
  · rintro H' ⟨acc, S', vs, hd, rl, fr, hS', st', q'⟩
    refine cl _ _ _ _ (fin acc S' q' D fr) ?_ .ref ?_
    · exact fun a o ea en => by
        obtain ⟨z1, z2⟩ := st1 a o ea en
        have ne : a ≠ D := by intro z; rw [z, hD] at z1; cases z1
        obtain ⟨y1, y2⟩ := st' a o z1 z2
        exact ⟨y1, by rw [Sto.upd_ne ne]; exact y2⟩
    · exact fun a o ea => by
        by_cases ne : a = D
        · subst ne
          rw [Sto.upd_same] at ea
          cases ea
          exact ⟨_, hd, True.intro, vs, rfl, rl⟩
        · rw [Sto.upd_ne ne] at ea
          exact hS' a o ea
def RTs1 (X : Cx) (ifs : List Expr) (t : RTt) : Prop := PTs X ifs (tT X.K t)
def rYes : RTt := fun _ S k => k true S
theorem PTs.imp {e : List Expr} {t t' : TT} (h : PTs X e t) (i : ∀ σ H Q, t' σ H Q → t σ H Q) : PTs X e t' := ⟨fun pins s σ H Q I q => h.run pins s σ H Q I (i σ H Q q)⟩
theorem ts_nil : RTs1 X [] rYes := PTs.imp pts_nil fun σ H Q ⟨env, S, k, hE, hS, q, cl⟩ => cl _ _ _ q Stp.refl hS
theorem ts_one {t : RTt} (h : TR X c t) : RTs1 X [c] t := pts_one h
theorem re_comp {elt tg iter : Expr} {ifs : List Expr} {scope : Scope} (own : List (Str × Nat)) {ri : RTi} {g : RTg} {tt : RTt} {re : RT} (hc : X.calm = true) (hN : X.N.Nodup) (hi : RI X tg iter ri) (ok : BlkOk X.N X.env.scope scope own)
    (hg : ∀ (s : Shared) (H : Hp) (C : Addr) (cl : List (Str × Addr)) (fp : List Addr), RG (X.blk s H scope (compEnvC scope cl C X.env) fp) (own.map (·.2)) tg g) (ht : ∀ (s : Shared) (H : Hp) (C : Addr) (cl : List (Str × Addr)) (fp : List Addr), RTs1 (X.blk s H scope (compEnvC scope cl C X.env) fp) ifs tt)
    (he : ∀ (s : Shared) (H : Hp) (C : Addr) (cl : List (Str × Addr)) (fp : List Addr), RE (X.blk s H scope (compEnvC scope cl C X.env) fp) elt re) (hs : ∀ x, foldedSetIterable iter X.env x = pure x := by intro _; rfl) :
    RE X (.ListComp elt [⟨tg, iter, ifs, 0⟩] scope pos) (rComp ri g tt re (own.map (·.2))) :=
  PE.imp (pe_lc (own := own) (g := tG X.K (own.map fun (x : Str × Nat) => x.2) g) (tt := tT X.K tt) (te := tR X.K re) hc hN hi ok hg ht he hs) fun σ H Q h => comp_go h
theorem rs_setComp (i : Nat) {y : Str} {py : Pos} {elt tg iter : Expr} {ifs : List Expr} {scope : Scope} (own : List (Str × Nat)) {spos : Pos} {ri : RTi} {g : RTg} {tt : RTt} {re : RT} (hc : X.calm = true) (hN : X.N.Nodup)
    (hsw : swapsWith (.ListComp elt [⟨tg, iter, ifs, 0⟩] scope pos) (some (.Name y py)) spos.line X.env = pure true) (hi : RI X tg iter ri) (ok : BlkOk X.N X.env.scope scope own)
    (hg : ∀ (s : Shared) (H : Hp) (C : Addr) (cl : List (Str × Addr)) (fp : List Addr), RG (X.blk s H scope (compEnvC scope cl C X.env) fp) (own.map (·.2)) tg g) (ht : ∀ (s : Shared) (H : Hp) (C : Addr) (cl : List (Str × Addr)) (fp : List Addr), RTs1 (X.blk s H scope (compEnvC scope cl C X.env) fp) ifs tt)
    (he : ∀ (s : Shared) (H : Hp) (C : Addr) (cl : List (Str × Addr)) (fp : List Addr), RE (X.blk s H scope (compEnvC scope cl C X.env) fp) elt re) (hy : X.N[i]? = some y := by rfl) (hyl : X.env.scope.names.lookup y = some .local := by rfl) (hs : ∀ x, foldedSetIterable iter X.env x = pure x := by intro _; rfl) :
    RS X (.Assign [.Name y py] (.ListComp elt [⟨tg, iter, ifs, 0⟩] scope pos) spos) (rAsg (rComp ri g tt re (own.map (·.2))) (gN i)) := by
  refine PS.imp (ps_setLc (own := own) (g := tG X.K (own.map fun (x : Str × Nat) => x.2) g) (tt := tT X.K tt) (te := tR X.K re) hc hN hy hyl hsw hi ok hg ht he hs) fun D σ H ⟨env, S, ed, hE, hS, q, cl⟩ => ?_
  refine comp_go ⟨env, S, _, hE, hS, q, fun d S1 v H1 q1 st1 r1 hS1 => ?_⟩
  exact cl.nx _ _ _ _ q1 st1 ((hE.mon (st1.mon hS)).set i r1) hS1

/-! ### own defs -/
abbrev XKd := Addr → Sto → Prop
abbrev Cn := List D → Sto → RK → XKd → Prop
def ClX (K : PySem.W.Frag) (H : Hp) (S : Sto) (k : XKd) (E : XK) : Prop := ∀ c S' H', k c S' → Stp H S H' S' → AbsS K S' H' → E (.ref c) none H'
def spD (K : PySem.W.Frag) (n : Nat) (C : Cn) : Sp := fun vs H Q E => ∃ ds S k ek, ds.length = n ∧ RpL K H ds vs ∧ AbsS K S H ∧ C ds S k ek ∧ Cl K H S k Q ∧ ClX K H S ek E
def noX : XKd := fun _ _ => False
/-- as FnOk, where no repr of a container is under way around -/
structure FnG (P : Program) (w : World) (K : PySem.W.Frag) (mg : Str → Option Value) (base : Heap) (CX : CXT) (k : Nat) (f : Addr) (fd : FuncData) (ps : List Str) (sp : Sp) : Prop where
  len : ∀ vs H Q E, sp vs H Q E → vs.length = ps.length
  go : ∀ (A : Around) (outer : List Env) (s : Shared) (H : Hp) (args : Args) (us : List Value) (vs : List V) (Q : VK) (E : XK), Room k A → A.guards = some [] → Env0 P w K mg base A outer s H →
    BindsTo s fd args (ps.zip us) → Vals vs us → sp vs H Q E → codeAny (model P w) A (.call (.ref f) args) (CR CX outer P w H s Q E) s
/-- room, and no repr under way -/
structure RoomG (k : Nat) (A : Around) : Prop where
  r : Room k A
  g : A.guards = some []
theorem RoomG.mono {j k : Nat} {A : Around} (h : RoomG k A) (l : j ≤ k) : RoomG j A := ⟨h.r.mono l, h.g⟩
theorem runG {CX : CXT} {k : Nat} {f : Addr} {fd : FuncData} {ps : List Str} {sp : Sp} {dvs : List V} {ds us : List Value} {vs : List V} {E : XK} {Q : VK} {pins : List (Addr × Obj)} {s : Shared} {σ : L2.St} {H : Hp}
    (F : FnG X.prog X.w X.K X.mg X.base CX k f fd ps sp) (hr : RoomG k X.A) (hb : Binds X.K fd ps ds) (hd : Vals dvs ds) (hx : Passes CX X E) (I : Inv X pins σ H s) (rv : Vals vs us) (h : sp (vs ++ dvs) H Q E) :
    wpAny (model X.prog X.w) X.A (call (.ref f) us) (EP X pins σ Q) X.xe s := by
  have both := rv.append hd
  have cnt : (us ++ ds).length = ps.length := both.length.symm.trans (F.len _ _ _ _ h)
  refine wpAny_call (codeAny_mono (F.go X.A X.stack s H ⟨us, []⟩ (us ++ ds) (vs ++ dvs) Q E hr.r hr.g I.env0 (hb s us I.kIn cnt) both h) fun res s2 z => ?_)
  match res, z with
  | .error ev, z => exact hx pins σ H s ev s2 I z
  | .ok (.ret _), z => exact I.after z
  | .ok .next, z => exact z.elim
  | .ok .brk, z => exact z.elim
  | .ok .cont, z => exact z.elim
/-- the def x keeps the contract C, at level k -/
def Callee (P : Program) (w : World) (K : PySem.W.Frag) (mg : Str → Option Value) (base : Heap) (CX : CXT) (k : Nat) (x : Str) (n : Nat) (C : Cn) : Prop :=
  ∃ f fd ps, ps.length = n ∧ FnG P w K mg base CX k f fd ps (spD K n C) ∧ mg x = some (.ref f) ∧ PySem.W.keepIn K (.ref f) = true ∧ Binds K fd ps []
def rCall (n : Nat) (C : Cn) (rl : RTa) : RT := fun env S k => rl env S fun ds S1 => ds.length = n ∧ C ds S1 k noX
theorem re_call {k n : Nat} {x : Str} {p : Pos} {C : Cn} {es : List Expr} {rl : RTa} (F : Callee X.prog X.w X.K X.mg X.base CX0 k x n C) (hr : RoomG k X.A) (hg : Gl X x) (ha : RA X (e :: es) rl) (hdb : (x == ("__debug__" : Str)) = false := by decide)
    (he : starEach (e :: es) X.env = (false, eval e X.env) :: starEach es X.env := by rfl) (hpl : (backTo pos (starEach es X.env)).any (·.1) = false := by rfl) : RE X (.Call (.Name x p) (e :: es) [] pos) (rCall n C rl) := by
  obtain ⟨f, fd, ps, hn, G, hm, hk, hb⟩ := F
  have base : PE X (.Call (.Name x p) (e :: es) [] pos) (tCall (spD X.K n C) [] E0 (tA X.K rl)) := by
    constructor
    intro pins s σ H Q I h
    refine wpAny_Call_Name_kw (ld_glob I hg hm (PySem.W.callWith_K (h₀ := X.base) I.ok.mod.kin hk (thn (PA.run ha pos pins s σ H _ I h) ?_) he hpl) hdb)
    rintro us s1 ⟨vs, H1, I1, rv, q⟩
    exact ⟨I1.kIn, runG G hr hb .nil (pass0 (X := X)) I1 rv q⟩
  refine PE.imp base fun σ H Q ⟨env, S, kk, hE, hS, q, cl⟩ => ?_
  refine ⟨env, S, _, hE, hS, q, fun ds S1 vs H1 ⟨hl, q1⟩ st1 r1 hS1 => ?_⟩
  show spD X.K n C (vs ++ []) H1 Q E0
  rw [List.append_nil]
  exact ⟨ds, S1, kk, noX, hl, r1, hS1, q1, cl.after st1, fun _ _ _ z => z.elim⟩
def envOf (N : List Str) (ds : List D) : DEnv := ds.map some ++ List.replicate (N.length - ds.length) none
theorem absE_none {K : PySem.W.Frag} {H : Hp} : ∀ n, AbsE K H (List.replicate n none) (List.replicate n none)
  | 0 => rfl
  | n + 1 => ⟨none, _, rfl, absE_none n⟩
theorem absE_start {K : PySem.W.Frag} {H : Hp} {n : Nat} : ∀ {ds : List D} {vs : List V}, RpL K H ds vs → AbsE K H (ds.map some ++ List.replicate n none) (vs.map some ++ List.replicate n none)
  | [], vs, h => by rw [h.nil_of]; exact absE_none n
  | d :: ds, vs, h => by
    obtain ⟨v, r, e, p, t⟩ := h.cons_of
    subst e
    exact ⟨v, _, rfl, p, absE_start t⟩
def endOf (k : RK) : DE := { nx := fun _ S => ∃ S', Sub S' S ∧ k .non S', rt := fun d S => ∃ S', Sub S' S ∧ k d S' }
/-- a def of the text -/
structure DefAt (K : PySem.W.Frag) (mg : Str → Option Value) (x : Str) (st : Stmt) (ps : List Str) : Prop where
  ex : ∃ f fd, Fun K x x st f fd ∧ mg x = some (.ref f) ∧ Binds K fd ps []
/-- a def from its body -/
theorem fnG_of {P : Program} {w : World} {mg : Str → Option Value} {base : Heap} {CX : CXT} {k : Nat} {f : Addr} {x : Str} {st : Stmt} {fd : FuncData} {N ps : List Str} {sp : Sp} (F : Fun K x x st f fd) (Sc : FnScope N ps (defScope st))
    (len : ∀ vs H Q E, sp vs H Q E → vs.length = ps.length)
    (body : ∀ (cdv : Value) (A : Around) (outer : List Env) (s : Shared) (H : Hp) (vs : List V) (Q : VK) (E : XK), RoomG k (A.deeper (envOfC x (defScope st) s.heap.objs.size f cdv)) → sp vs H Q E →
      ∃ t, PSs (cxOf CX P w K mg base N x (defScope st) f cdv A outer s H E) (defBody st) t ∧ t { nx := fun _ H' => Q .non H', rt := Q } (start N vs) H) : FnG P w K mg base CX (k + 1) f fd ps sp := by
  obtain ⟨oc, od, kV, doc, pm, an, cdv, ct, osl, rfl, lk, hcd⟩ := F.ex
  refine ⟨len, ?_⟩
  intro A outer s H args us vs Q E hr hgd e0 hb rv hsp
  have cnt := len _ _ _ _ hsp
  have inS : K.In s.heap := e0.mod.kin.keeps fun b o z => (e0.bs b o z).1
  have lims : s.heap.NoLimit := e0.mod.nolimit.keeps fun b o z => (e0.bs b o z).1
  have kinds : ∀ y ∈ ps.zip us, (defScope st).names.lookup y.1 = some .local ∨ ((defScope st).names.lookup y.1 = some .cell ∧ ((cellsFrom (s.heap.objs.size + 1) (defScope st).names []).lookup y.1).isSome = true) := by
    rintro ⟨y, v⟩ hy
    exact (Sc.par y (List.of_mem_zip hy).1).imp (fun q => q) fun q => ⟨q, PySem.W.cellsFrom_some _ _ _ (.inl q)⟩
  refine codeAny_call_function hr.depth (inS _ _ lk) rfl Sc.co Sc.gen rfl (PySem.W.codeRec_of inS hcd) (hb _ _ _ _ (wpAny_newFunctionEnv_cells Sc.kind kinds ?_))
  intro env he s1 xt
  subst he
  refine ⟨lims.keeps xt.toInCall.keep, codeAny_func ?_⟩
  obtain ⟨t, ht, hq⟩ := body cdv A outer s H vs Q E ⟨hr.deeper _, hgd⟩ hsp
  have J0 : Inv (cxOf CX P w K mg base N x (defScope st) f cdv A outer s H E) [] (start N vs) H s1 := inv_start Sc hr.hd e0 cnt rv xt
  refine wpAny_mono (ht.run [] s1 (start N vs) H _ J0 hq) ?_ fun ev s2 z => z
  intro fl s2 z
  match fl, z with
  | .ret u, ⟨v, σ', H', J, r, q⟩ => exact (⟨v, H', J.os, J.bare, J.base, J.hok, r, q⟩ : CE outer P w H s Q u s2)
  | .next, ⟨σ', H', J, q⟩ => exact (⟨V.non, H', J.os, J.bare, J.base, J.hok, rfl, q⟩ : CE outer P w H s Q Value.none s2)
  | .brk, ⟨_, _, _, q⟩ => exact q.elim
  | .cont, ⟨_, _, _, q⟩ => exact q.elim
theorem mkCallee {P : Program} {w : World} {mg : Str → Option Value} {base : Heap} {k : Nat} {x : Str} {st : Stmt} {N ps : List Str} {C : Cn} (F : DefAt K mg x st ps) (Sc : FnScope N ps (defScope st)) (n : Nat) (hn : ps.length = n)
    (r : RTs) (hd : ∀ (cdv : Value) (A : Around) (outer : List Env) (s : Shared) (H : Hp) (E : XK) (f : Addr), RoomG k (A.deeper (envOfC x (defScope st) s.heap.objs.size f cdv)) → RSs (cxOf CX0 P w K mg base N x (defScope st) f cdv A outer s H E).nox (defBody st) r)
    (hs : ∀ ds S kk, ds.length = n → C ds S kk noX → r (endOf kk) (envOf N ds) S) (hx : ∀ ds S kk ek, C ds S kk ek → C ds S kk noX) : Callee P w K mg base CX0 (k + 1) x n C := by
  obtain ⟨f, fd, F, hm, hb⟩ := F.ex
  refine ⟨f, fd, ps, hn, fnG_of F Sc (fun vs H Q E ⟨ds, S, kk, ek, hl, r, _⟩ => by rw [← r.length, hl, hn]) (fun cdv A outer s H vs Q E hr ⟨ds, S, kk, ek, hl, rl, hS, q, cl, cx⟩ => ?_), hm, F.kp, hb⟩
  refine ⟨_, PSs.nox (hd cdv A outer s H E f hr), envOf N ds, S, endOf kk, ?_, hS, hs ds S kk hl (hx _ _ _ _ q), ⟨fun env' S' σ' H' ⟨S2, sb, q'⟩ st' hE' hS' => ?_, fun d S' v H' ⟨S2, sb, q'⟩ st' r' hS' => ?_, fun _ _ _ _ z => z.elim, fun _ _ _ _ z => z.elim⟩⟩
  · unfold envOf L2.start
    rw [rl.length]
    exact absE_start rl
  · exact cl _ _ _ _ q' (st'.sub sb) .non (hS'.sub sb)
  · exact cl _ _ _ _ q' (st'.sub sb) r' (hS'.sub sb)
end
end DL
namespace DL
open PySem PySem.Spec PyProof.Rows L2

section
variable {X : Cx} {K : PySem.W.Frag} {H : Hp} {S : Sto}
/-- the items of a sequence -/
def seqOf (S : Sto) : D → Option (List D)
  | .tup xs => some xs
  | .lis xs => some xs
  | .ref a => match S a with
    | some (.lst xs) => some xs
    | _ => none
  | _ => none
theorem seq_of {d : D} {v : V} {xs : List D} (e : seqOf S d = some xs) (r : Rp K H d v) (hS : AbsS K S H) : ∃ a vs, v = .ref a ∧ (SqL K H a vs ∨ SqT K H a vs) ∧ RpL K H xs vs := by
  unfold seqOf at e
  split at e
  · cases e
    obtain ⟨a, vs, h1, h2, h3⟩ := r.tup_
    exact ⟨a, vs, h1, .inr h2.sq, h3⟩
  · cases e
    obtain ⟨a, vs, h1, h2, h3⟩ := r.lis_
    exact ⟨a, vs, h1, .inl h2.sq, h3⟩
  · split at e
    · rename_i a _ xs' q
      cases e
      obtain ⟨vs, h1, h2⟩ := hS.lst q
      exact ⟨a, vs, r.ref_, .inl (SqL.of h1), h2⟩
    · cases e
  · cases e

/-! ### tuples whose object is known -/
abbrev NewT (H : Hp) (Q : VK) (xs : List V) : Prop := ∀ p o, o.dict = none → H p = none → Q (.ref p) (L2.upd H p (.frz o (.tup xs)))
theorem laidT {pins : List (Addr × Obj)} {σ : L2.St} {s : Shared} {h' : Heap} {tk : Nat} {xs : List V} {its : List Value} {Q : VK} (I : Inv X pins σ H s) (kp : ∀ b o, s.heap.get? b = some o → h'.get? b = some o) (hz : xs.length ≤ sizeLine) (r : Vals xs its)
    (q : NewT H Q xs) : EP X pins σ Q (.ref h'.objs.size) { s with heap := h'.push { cls := .type "tuple", data := .seq its.toArray }, toks := tk } := by
  have I1 : Inv X pins σ H { s with heap := h', toks := tk } := I.kept kp
  refine ⟨.ref h'.objs.size, L2.upd H h'.objs.size (.frz { cls := .type "tuple", data := .seq its.toArray } (.tup xs)), I1.laid (t' := tk) (fun b o e => Heap.get?_push_of_some _ e) (Nat.le_refl _) ?_, rfl, q _ _ rfl (I1.hok.fresh (Nat.le_refl _))⟩
  exact ⟨Heap.get?_push_size _ rfl, hz, its, r, IsTup.new _ _⟩
def rCatF (K : PySem.W.Frag) : R2 := fun x y H Q => ∃ a b xs ys, x = .ref a ∧ y = .ref b ∧ SqT K H a xs ∧ SqT K H b ys ∧ xs.length + ys.length ≤ sizeLine ∧ (xs = [] → Q (.ref b) H) ∧ (ys = [] → Q (.ref a) H) ∧ NewT H Q (xs ++ ys)
theorem op_catF : OpR X (binaryOp .Add) (rCatF X.K) := by
  rintro pins s σ H x y v u Q I rx ry ⟨a, b, xs, ys, rfl, rfl, ha, hb, hz, q0, q1, q2⟩
  cases rx
  cases ry
  obtain ⟨its, r1, p1, _⟩ := I.tuple ha
  obtain ⟨its2, r2, p2, _⟩ := I.tuple hb
  by_cases hx : its = []
  · subst hx
    exact cat_tup0 p1 p2 ⟨.ref b, H, I, rfl, q0 (by cases r1; rfl)⟩
  · refine HT.cat_tup p1 p2 hx (fun z => ⟨.ref a, H, I, rfl, q1 (by rw [z] at r2; cases r2; rfl)⟩) (fun z => ?_) (by rw [← r1.length, ← r2.length]; exact hz)
    exact laidT (tk := s.toks) I (fun _ _ z => z) (by rw [List.length_append]; exact hz) (r1.append r2) q2
def rSlF (K : PySem.W.Frag) : V → Option Int → Option Int → Hp → VK → Prop := fun x lo hi H Q => ∃ a xs, x = .ref a ∧ SqT K H a xs ∧ (cutV xs lo hi = xs → Q (.ref a) H) ∧ NewT H Q (cutV xs lo hi)
theorem sl_tupF : SlR X (rSlF X.K) := by
  rintro pins s σ H x v vl vu lo hi sl Q I rx hs pl pu ⟨a, xs, rfl, hx, q1, q2⟩
  cases rx
  obtain ⟨its, r, ht, hz⟩ := I.tuple hx
  have hlen : its.toArray.size = xs.length := by rw [List.size_toArray]; exact r.length.symm
  refine ⟨"tuple", _, PyProof.Rows.slot_tuple_getitem.lookup, ht.typeIs, ?_⟩
  by_cases hw : HT.sIx xs.length 0 lo = 0 ∧ HT.sIx xs.length xs.length hi = xs.length
  · refine getItem_tuple_whole ht hs pl pu (by rw [hlen]; exact hw) ⟨.ref a, H, I, rfl, q1 ?_⟩
    unfold cutV
    rw [hw.1, hw.2, List.drop_zero, Nat.sub_zero, List.take_length]
  · refine HT.getItem_tuple_cut ht hs pl pu (by rw [hlen]; exact hw) ?_ (by rw [hlen]; exact hz)
    rw [hlen]
    exact laidT (tk := s.toks) I (fun _ _ z => z) (Nat.le_trans (cutV_length xs lo hi) hz) ((r.drop (HT.sIx xs.length 0 lo)).take (HT.sIx xs.length xs.length hi - HT.sIx xs.length 0 lo)) q2
theorem call_tupleF : CallR X (.type "tuple") (fun xs H Q => ∃ p ys, xs = [.ref p] ∧ ((SqL X.K H p ys ∧ NewT H Q ys) ∨ (SqT X.K H p ys ∧ Q (.ref p) H))) := by
  rintro pins s σ H xs us Q I r ⟨p, ys, rfl, h⟩
  obtain ⟨u, rfl, rx⟩ := vals1 r
  cases rx
  rcases h with ⟨hq, q⟩ | ⟨hq, q⟩
  · obtain ⟨its, r', pl, hz⟩ := I.list hq
    have hlen := r'.length
    exact call_tuple_list pl.isList (fun h' kp => laidT (tk := s.toks) I kp hz r' q) (by simp only [List.size_toArray] <;> omega)
  · obtain ⟨its, r', pl, hz⟩ := I.tuple hq
    exact call_tuple_same pl ⟨.ref p, H, I, rfl, q⟩
def rRepF (K : PySem.W.Frag) : R2 := fun x y H Q => ∃ l k xs, x = .ref l ∧ y = .int k ∧ SqT K H l xs ∧ xs ≠ [] ∧ 2 ≤ k ∧ k ≤ 1000 ∧ xs.length ≤ 1000 ∧ NewT H Q (List.replicate k.toNat xs).flatten
theorem op_repF : OpR X (binaryOp .Mult) (rRepF X.K) := by
  rintro pins s σ H x y v u Q I rx ry ⟨l, k, xs, rfl, rfl, hT, hne, h1, h2, hz, q⟩
  cases rx
  obtain ⟨t, rfl⟩ := ry
  obtain ⟨its, r, ⟨⟨cls, dd, data, sl⟩, ho, hc, n, hd⟩, hs⟩ := I.tuple hT
  simp only at hc hd
  subst hc hd
  have el : its.length = xs.length := r.length.symm
  have hne' : its.toArray.isEmpty = false := by
    cases its with
    | nil => exact absurd (List.eq_nil_of_length_eq_zero el.symm) hne
    | cons a b => rfl
  have esz : its.toArray.size = xs.length := by rw [List.size_toArray, el]
  have few : ((its.toArray.size : Nat) : Int) * k ≤ 1000000 := by
    rw [esz]
    exact Int.le_trans (Int.mul_le_mul_of_nonneg_right (b := 1000) (by omega) (by omega)) (by omega)
  have len : (List.replicate k.toNat its).flatten.length ≤ sizeLine := by
    rw [PyProof.Rows.lm_len_rep_flat, el, sizeLine_eq]
    exact Nat.le_trans (Nat.mul_le_mul (show k.toNat ≤ 1000 by omega) hz) (by decide)
  have g0 : (decide (k < -(2 ^ 63)) || decide (k ≥ 2 ^ 63)) = false := by simp; omega
  have g1 : (its.toArray.isEmpty || k == 1) = false := by rw [hne', Bool.false_or]; exact beq_eq_false_iff_ne.mpr (by omega)
  have g2 : (decide (k ≤ 0) || its.toArray.isEmpty) = false := by rw [hne', Bool.or_false]; exact decide_eq_false (by omega)
  have g4 : Builtin.Tuple.tupleTooMany (((its.toArray.size : Nat) : Int) * k) = false := by
    unfold Builtin.Tuple.tupleTooMany; rw [sizeLine_eq]; exact decide_eq_false (by omega)
  refine wpAny_binaryOp_repeat_ref (T := "tuple") (U := "int") (by decide) ⟨_, ho, rfl⟩ (fun s' => typeIs_int s' k t) noFill_tuple_mul F.fills_int_mul F.slot_int_rmul repeat_tuple F.slot_int_index.lookup ?_
  refine call_meets F.slot_int_rmul (typeIs_int s k t) F.entry_int_rmul (F.args_int_rmul_2 _ _) (int_rmul_tuple k t l its.toArray n dd sl) ⟨ho, rfl, ⟨_, ho, rfl⟩, ?_⟩
  refine call_meets F.slot_tuple_mul ⟨_, ho, rfl⟩ F.entry_tuple_mul (F.args_tuple_mul_2 _ _) (tuple_mulW l its.toArray n dd sl k t g0 g1 g2 (by omega) g4 (by rw [size_rep, List.size_toArray]; exact len)) ⟨ho, ?_⟩
  rw [size_rep]
  exact laidT (tk := s.toks) I (fun _ _ z => z) (by rw [PyProof.Rows.lm_len_rep_flat] at len ⊢; rw [← el]; exact len) (r.rep k.toNat) q

/-! ### + - * // % ** -/
def addD : F2 := fun x y S k => match x, y with
  | .int i, .int j => k (.int (i + j)) S
  | .str a, .str b => a.length + b.length ≤ sizeLine ∧ k (.str (a ++ b)) S
  | .tup a, .tup b => a.length + b.length ≤ sizeLine ∧ k (.tup (a ++ b)) S
  | .ref a, .ref b => match S a, S b with
    | some (.lst xs), some (.lst ys) => xs.length + ys.length ≤ sizeLine ∧ ∀ p, S p = none → k (.ref p) (S.upd p (.lst (xs ++ ys)))
    | _, _ => False
  | _, _ => False
theorem opAdd : Op2 X (binaryOp .Add) addD := by
  refine ⟨_, op_add.or (op_add_str.or (op_catF.or op_cat)), fun x y S k v u H Q q rx ry hS c => ?_⟩
  unfold addD at q
  split at q
  · have := rx.int_; have := ry.int_; subst v u
    exact .inl ⟨_, _, rfl, rfl, c _ _ _ _ q Stp.refl .int hS⟩
  · have := rx.str_; have := ry.str_; subst v u
    exact .inr (.inl ⟨_, _, rfl, rfl, q.1, c _ _ _ _ q.2 Stp.refl .str hS⟩)
  · obtain ⟨a', vs, rfl, h1, h2⟩ := rx.tup_
    obtain ⟨b', us, rfl, h3, h4⟩ := ry.tup_
    refine .inr (.inr (.inl ⟨a', b', vs, us, rfl, rfl, h1.sq, h3.sq, by rw [← h2.length, ← h4.length]; exact q.1, fun e => ?_, fun e' => ?_, cl_newT c hS (h2.append h4) q.2⟩))
    · subst e
      have z := h2.length
      have z' : _ = [] := List.length_eq_zero_iff.mp z
      rw [z', List.nil_append] at q
      exact c _ _ _ _ q.2 Stp.refl ry hS
    · subst e'
      have z := h4.length
      have z' : _ = [] := List.length_eq_zero_iff.mp z
      rw [z', List.append_nil] at q
      exact c _ _ _ _ q.2 Stp.refl rx hS
  · split at q
    · rename_i a b _ _ xs ys e1 e2
      have := rx.ref_; have := ry.ref_; subst v u
      obtain ⟨vs, h1, h2⟩ := hS.lst e1
      obtain ⟨us, h3, h4⟩ := hS.lst e2
      exact .inr (.inr (.inr ⟨a, b, vs, us, rfl, rfl, h1, h3, by rw [← h2.length, ← h4.length]; exact q.1, cl_new c hS (h2.append h4) q.2⟩))
    · exact q.elim
  · exact q.elim
def i2 (C : Int → Int → Prop) (g : Int → Int → Int) : F2 := fun x y S k => match x, y with
  | .int i, .int j => C i j ∧ k (.int (g i j)) S
  | _, _ => False
theorem opI2 {f : Value → Value → Sem Value} {C : Int → Int → Prop} {g : Int → Int → Int} (h : OpR X f (rI C fun i j => .int (g i j))) : Op2 X f (i2 C g) := by
  refine ⟨_, h, fun x y S k v u H Q q rx ry hS c => ?_⟩
  unfold i2 at q
  split at q
  · have := rx.int_; have := ry.int_; subst v u
    exact ⟨_, _, rfl, rfl, q.1, c _ _ _ _ q.2 Stp.refl .int hS⟩
  · exact q.elim
def i20 (g : Int → Int → Int) : F2 := fun x y S k => match x, y with
  | .int i, .int j => k (.int (g i j)) S
  | _, _ => False
theorem opI20 {f : Value → Value → Sem Value} {g : Int → Int → Int} (h : OpR X f (rI0 fun i j => .int (g i j))) : Op2 X f (i20 g) := by
  refine ⟨_, h, fun x y S k v u H Q q rx ry hS c => ?_⟩
  unfold i20 at q
  split at q
  · have := rx.int_; have := ry.int_; subst v u
    exact ⟨_, _, rfl, rfl, c _ _ _ _ q Stp.refl .int hS⟩
  · exact q.elim
def b20 (g : Int → Int → Bool) : F2 := fun x y S k => match x, y with
  | .int i, .int j => k (.bl (g i j)) S
  | _, _ => False
theorem opB20 {f : Value → Value → Sem Value} {g : Int → Int → Bool} (h : OpR X f (rI0 fun i j => .bl (g i j))) : Op2 X f (b20 g) := by
  refine ⟨_, h, fun x y S k v u H Q q rx ry hS c => ?_⟩
  unfold b20 at q
  split at q
  · have := rx.int_; have := ry.int_; subst v u
    exact ⟨_, _, rfl, rfl, c _ _ _ _ q Stp.refl .bl hS⟩
  · exact q.elim
theorem opSub : Op2 X (binaryOp .Sub) (i20 fun i j => i - j) := opI20 op_sub
theorem opMod : Op2 X (binaryOp .Mod) (i2 (fun _ j => 0 < j) fun i j => i % j) := opI2 op_mod
theorem opDiv : Op2 X (binaryOp .FloorDiv) (i2 CDivW fun i j => i / j) := opI2 op_fdivW
theorem opPow : Op2 X (binaryOp .Pow) (i2 CPow fun i j => i ^ j.toNat) := opI2 op_pow
/-- int * int, tuple * int, list * int -/
def mulD : F2 := fun x y S k => match x, y with
  | .int i, .int j => CMul i j ∧ k (.int (i * j)) S
  | .tup xs, .int j => xs ≠ [] ∧ 2 ≤ j ∧ j ≤ 1000 ∧ xs.length ≤ 1000 ∧ k (.tup (List.replicate j.toNat xs).flatten) S
  | _, _ => False
theorem RpL.rep {ds : List D} {vs : List V} (h : RpL K H ds vs) : ∀ n : Nat, RpL K H (List.replicate n ds).flatten (List.replicate n vs).flatten
  | 0 => .nil
  | n + 1 => by
    rw [List.replicate_succ, List.replicate_succ, List.flatten_cons, List.flatten_cons]
    exact h.append (RpL.rep h n)
theorem opMul : Op2 X (binaryOp .Mult) mulD := by
  refine ⟨_, op_mul.or op_repF, fun x y S k v u H Q q rx ry hS c => ?_⟩
  unfold mulD at q
  split at q
  · have := rx.int_; have := ry.int_; subst v u
    exact .inl ⟨_, _, rfl, rfl, q.1, c _ _ _ _ q.2 Stp.refl .int hS⟩
  · have := ry.int_; subst u
    obtain ⟨a, vs, rfl, h1, h2⟩ := rx.tup_
    obtain ⟨n0, n1, n2, n3, q⟩ := q
    refine .inr ⟨a, _, vs, rfl, rfl, h1.sq, fun e => n0 ?_, n1, n2, by rw [← h2.length]; exact n3, cl_newT c hS (h2.rep _) q⟩
    subst e
    exact List.length_eq_zero_iff.mp h2.length
  · exact q.elim
def negD : F1 := fun x S k => match x with
  | .int i => k (.int (-i)) S
  | _ => False
theorem unNeg : Un1 X (unaryOp .USub) negD := by
  refine ⟨_, un_neg, fun x S k v H Q q rx hS c => ?_⟩
  unfold negD at q
  split at q
  · have := rx.int_; subst v
    exact ⟨_, rfl, c _ _ _ _ q Stp.refl .int hS⟩
  · exact q.elim

/-! ### comparisons -/
theorem opLt : Op2 X (compareOp .Lt) (b20 fun i j => decide (i < j)) := opB20 op_lt
theorem opLe : Op2 X (compareOp .LtE) (b20 fun i j => decide (i ≤ j)) := opB20 op_le
theorem opGt : Op2 X (compareOp .Gt) (b20 fun i j => decide (j < i)) := opB20 op_gt
theorem opGe : Op2 X (compareOp .GtE) (b20 fun i j => decide (j ≤ i)) := opB20 op_ge
mutual
/-- the datum of a value, the lists by what the store holds -/
inductive Py (S : Sto) : D → PyData → Prop
  | non : Py S .non .none
  | bl (b : Bool) : Py S (.bl b) (.bool b)
  | int (i : Int) : Py S (.int i) (.int i)
  | str (x : Str) : Py S (.str x) (.str x)
  | tup {xs : List D} {ps : List PyData} : PyL S xs ps → Py S (.tup xs) (.tuple ps)
  | lis {xs : List D} {ps : List PyData} : PyL S xs ps → Py S (.lis xs) (.list ps)
  | lst {a : Addr} {xs : List D} {ps : List PyData} : S a = some (.lst xs) → PyL S xs ps → Py S (.ref a) (.list ps)
inductive PyL (S : Sto) : List D → List PyData → Prop
  | nil : PyL S [] []
  | cons {d : D} {ds : List D} {p : PyData} {ps : List PyData} : Py S d p → PyL S ds ps → PyL S (d :: ds) (p :: ps)
end
mutual
theorem Py.dp (hS : AbsS K S H) : ∀ (p : PyData) (d : D) (v : V), Py S d p → Rp K H d v → Dp K H v p
  | _, _, v, .non, r => by rw [r.non_]; exact .non
  | _, _, v, .bl b, r => by rw [r.bl_]; exact .bl b
  | _, _, v, .int b, r => by rw [r.int_]; exact .int b
  | _, _, v, .str b, r => by rw [r.str_]; exact .str b
  | .tuple ps, _, v, .tup (xs := xs) l, r => by
    obtain ⟨a, vs, e, h1, h2⟩ := r.tup_
    rw [e]
    exact .tup h1.sq (PyL.dp hS ps xs vs l h2)
  | .list ps, _, v, .lis (xs := xs) l, r => by
    obtain ⟨a, vs, e, h1, h2⟩ := r.lis_
    rw [e]
    exact .lst h1.sq (PyL.dp hS ps xs vs l h2)
  | .list ps, _, v, .lst (xs := xs) e l, r => by
    obtain ⟨vs, h1, h2⟩ := hS.lst e
    rw [r.ref_]
    exact .lst (SqL.of h1) (PyL.dp hS ps xs vs l h2)
theorem PyL.dp (hS : AbsS K S H) : ∀ (ps : List PyData) (ds : List D) (vs : List V), PyL S ds ps → RpL K H ds vs → DpAll K H vs ps
  | _, _, vs, .nil, r => by rw [r.nil_of]; exact .nil
  | p :: ps, d :: ds, vs, .cons h t, r => by
    obtain ⟨v, r', e, h1, h2⟩ := r.cons_of
    rw [e]
    exact .cons (Py.dp hS p d v h h1) (PyL.dp hS ps ds r' t h2)
end
def eqG (neg : Bool) : F2 := fun x y S k => ∃ p q, Py S x p ∧ Py S y q ∧ SeqAt.shaped p = true ∧ SeqAt.shaped q = true ∧ k (.bl (neg ^^ PyData.eqv p q)) S
def eqD (neg : Bool) : F2 := fun x y S k => match x, y with
  | .int i, .int j => k (.bl (neg ^^ decide (i = j))) S
  | .str i, .str j => k (.bl (neg ^^ decide (i = j))) S
  | .non, .int _ => k (.bl (neg ^^ false)) S
  | .int _, .non => k (.bl (neg ^^ false)) S
  | .non, .non => k (.bl (neg ^^ true)) S
  | x, y => eqG neg x y S k
theorem eq_go {neg : Bool} {r1 r2 : R2} (h1 : ∀ x y H Q, scal x y = true → Q (.bl (neg ^^ decide (x = y))) H → r1 x y H Q)
    (h2 : ∀ x y H Q p q, Dp K H x p → Dp K H y q → SeqAt.shaped p = true → SeqAt.shaped q = true → Q (.bl (neg ^^ PyData.eqv p q)) H → r2 x y H Q)
    {x y : D} {k : RK} {v u : V} {Q : VK} (q : eqD neg x y S k) (rx : Rp K H x v) (ry : Rp K H y u) (hS : AbsS K S H) (c : Cl K H S k Q) : r1 v u H Q ∨ r2 v u H Q := by
  unfold eqD at q
  split at q
  · have := rx.int_; have := ry.int_; subst v u
    refine .inl (h1 _ _ _ _ rfl ?_)
    rw [dec_int, Bool.beq_eq_decide_eq]
    exact c _ _ _ _ q Stp.refl .bl hS
  · have := rx.str_; have := ry.str_; subst v u
    refine .inl (h1 _ _ _ _ rfl ?_)
    rw [dec_str, Bool.beq_eq_decide_eq]
    exact c _ _ _ _ q Stp.refl .bl hS
  · have := rx.non_; have := ry.int_; subst v u
    exact .inr (h2 _ _ _ _ _ _ .non (.int _) (by simp [SeqAt.shaped, PyData.canLay0, PyData.depth]) (by simp [SeqAt.shaped, PyData.canLay0, PyData.depth]) (by simp only [PyData.eqv]; exact c _ _ _ _ q Stp.refl .bl hS))
  · have := rx.int_; have := ry.non_; subst v u
    exact .inr (h2 _ _ _ _ _ _ (.int _) .non (by simp [SeqAt.shaped, PyData.canLay0, PyData.depth]) (by simp [SeqAt.shaped, PyData.canLay0, PyData.depth]) (by simp only [PyData.eqv]; exact c _ _ _ _ q Stp.refl .bl hS))
  · have := rx.non_; have := ry.non_; subst v u
    exact .inr (h2 _ _ _ _ _ _ .non .non (by simp [SeqAt.shaped, PyData.canLay0, PyData.depth]) (by simp [SeqAt.shaped, PyData.canLay0, PyData.depth]) (by simp only [PyData.eqv]; exact c _ _ _ _ q Stp.refl .bl hS))
  · obtain ⟨p, q', e1, e2, e3, e4, e5⟩ := q
    exact .inr (h2 _ _ _ _ _ _ (e1.dp hS _ _ _ rx) (e2.dp hS _ _ _ ry) e3 e4 (c _ _ _ _ e5 Stp.refl .bl hS))
theorem opEq (hu : X.A.units + 64 < cLine) : Op2 X (compareOp .Eq) (eqD false) :=
  ⟨_, op_eq.or (op_eqD hu), fun x y S k v u H Q q rx ry hS c => eq_go (neg := false) (fun x y H Q a b => ⟨a, by simpa using b⟩) (fun x y H Q p q a b d e f => ⟨p, q, a, b, d, e, by simpa using f⟩) q rx ry hS c⟩
theorem opNe (hu : X.A.units + 64 < cLine) : Op2 X (compareOp .NotEq) (eqD true) :=
  ⟨_, op_ne.or (op_neD hu), fun x y S k v u H Q q rx ry hS c => eq_go (neg := true) (fun x y H Q a b => ⟨a, by simpa using b⟩) (fun x y H Q p q a b d e f => ⟨p, q, a, b, d, e, by simpa using f⟩) q rx ry hS c⟩
/-- is None, is not None -/
def isN (neg : Bool) : F2 := fun x y S k => match y with
  | .non => k (.bl (neg ^^ (match x with | .non => true | _ => false))) S
  | _ => False
theorem Rp.non_iff : ∀ {x : D} {v : V}, Rp K H x v → (decide (v = .non)) = (match x with | .non => true | _ => false)
  | .non, v, r => by rw [r.non_]; rfl
  | .bl _, v, r => by rw [r.bl_]; rfl
  | .int _, v, r => by rw [r.int_]; rfl
  | .str _, v, r => by rw [r.str_]; rfl
  | .ref _, v, r => by rw [r.ref_]; rfl
  | .ty _, v, r => by rw [r.ty_]; rfl
  | .tup _, v, r => by obtain ⟨_, _, e, _⟩ := r.tup_; rw [e]; rfl
  | .lis _, v, r => by obtain ⟨_, _, e, _⟩ := r.lis_; rw [e]; rfl
  | .par _, v, r => by obtain ⟨_, _, e, _⟩ := r.par_; rw [e]; rfl
  | .dic _ _, v, r => by obtain ⟨_, _, _, e, _⟩ := r.dic_; rw [e]; rfl
theorem opIs : Op2 X (compareOp .Is) (isN false) := by
  refine ⟨_, op_isN, fun x y S k v u H Q q rx ry hS c => ?_⟩
  unfold isN at q
  split at q
  · refine ⟨ry.non_, ?_⟩
    rw [rx.non_iff]
    exact c _ _ _ _ (by simpa using q) Stp.refl .bl hS
  · exact q.elim
theorem opIsNot : Op2 X (compareOp .IsNot) (isN true) := by
  refine ⟨_, op_notN, fun x y S k v u H Q q rx ry hS c => ?_⟩
  unfold isN at q
  split at q
  · refine ⟨ry.non_, ?_⟩
    rw [rx.non_iff]
    exact c _ _ _ _ (by simpa using q) Stp.refl .bl hS
  · exact q.elim
/-- an int in a sequence of ints; a datum in a list of data -/
def inD (neg : Bool) : F2 := fun x y S k => (∃ (i : Int) (ns : List Int), x = .int i ∧ seqOf S y = some (ns.map D.int) ∧ k (.bl (neg ^^ decide (i ∈ ns))) S) ∨
  ∃ p ps, Py S x p ∧ Py S y (.list ps) ∧ SeqAt.shaped p = true ∧ SeqAt.shaped (.list ps) = true ∧ k (.bl (neg ^^ ps.any fun z => PyData.eqv z p)) S
theorem inV_ints (i : Int) : ∀ ns : List Int, inV (.int i) (ns.map V.int) = decide (i ∈ ns)
  | [] => rfl
  | n :: ns => by
    have ih := inV_ints i ns
    unfold inV at ih ⊢
    rw [List.map_cons, List.any_cons, ih]
    show ((n == i) || _) = _
    by_cases h : i = n
    · subst h; simp
    · have h' : (n == i) = false := beq_eq_false_iff_ne.mpr fun e => h e.symm
      rw [h']; simp [h]
theorem flat_ints (ns : List Int) : (ns.map V.int).all flatV = true := by
  rw [List.all_map]
  exact List.all_eq_true.mpr fun _ _ => rfl
theorem opIn (hu : X.A.units + 65 < cLine) : Op2 X (compareOp .In) (inD false) := by
  refine ⟨_, op_in_seq.or (op_inD hu), fun x y S k v u H Q q rx ry hS c => ?_⟩
  rcases q with ⟨i, ns, rfl, e, q⟩ | ⟨p, ps, h1, h2, h3, h4, q⟩
  · obtain ⟨a, vs, rfl, h1, h2⟩ := seq_of e ry hS
    have := h2.ints; subst vs
    have := rx.int_; subst v
    exact .inl ⟨a, _, rfl, h1, rfl, flat_ints ns, by rw [inV_ints]; exact c _ _ _ _ (by simpa using q) Stp.refl .bl hS⟩
  · exact .inr ⟨p, ps, h1.dp hS _ _ _ rx, h2.dp hS _ _ _ ry, h3, h4, c _ _ _ _ (by simpa using q) Stp.refl .bl hS⟩
theorem opNotIn (hu : X.A.units + 65 < cLine) : Op2 X (compareOp .NotIn) (inD true) := by
  refine ⟨_, op_notIn_seq.or (op_notInD hu), fun x y S k v u H Q q rx ry hS c => ?_⟩
  rcases q with ⟨i, ns, rfl, e, q⟩ | ⟨p, ps, h1, h2, h3, h4, q⟩
  · obtain ⟨a, vs, rfl, h1, h2⟩ := seq_of e ry hS
    have := h2.ints; subst vs
    have := rx.int_; subst v
    exact .inl ⟨a, _, rfl, h1, rfl, flat_ints ns, by rw [inV_ints]; exact c _ _ _ _ (by simpa using q) Stp.refl .bl hS⟩
  · exact .inr ⟨p, ps, h1.dp hS _ _ _ rx, h2.dp hS _ _ _ ry, h3, h4, c _ _ _ _ (by simpa using q) Stp.refl .bl hS⟩

/-! ### subscripts, slices, stores -/
def ixD : F2 := fun x y S k => match y with
  | .int i => ∃ xs d, seqOf S x = some xs ∧ atI xs i = some d ∧ k d S
  | _ => False
theorem RpL.at {ds : List D} {vs : List V} {i : Int} {d : D} (h : RpL K H ds vs) (e : atI ds i = some d) : ∃ v, atI vs i = some v ∧ Rp K H d v := by
  unfold atI at e ⊢
  rw [← h.length]
  cases q : ixN ds.length i with
  | none => rw [q] at e; cases e
  | some j =>
    rw [q] at e
    exact h.get e
theorem ixSeq : IxD X ixD := by
  refine ⟨_, ix_seq, fun x y S k v u H Q q rx ry hS c => ?_⟩
  unfold ixD at q
  split at q
  · have := ry.int_; subst u
    obtain ⟨xs, d, e, e2, q⟩ := q
    obtain ⟨a, vs, rfl, h1, h2⟩ := seq_of e rx hS
    obtain ⟨w, h3, h4⟩ := h2.at e2
    rcases h1 with h1 | h1
    · exact .inl ⟨a, vs, _, w, rfl, rfl, h1, h3, c _ _ _ _ q Stp.refl h4 hS⟩
    · exact .inr (.inl ⟨a, vs, _, w, rfl, rfl, h1, h3, c _ _ _ _ q Stp.refl h4 hS⟩)
  · exact q.elim
def cutD (xs : List D) (lo hi : Option Int) : List D := (xs.drop (HT.sIx xs.length 0 lo)).take (HT.sIx xs.length xs.length hi - HT.sIx xs.length 0 lo)
theorem RpL.cut {ds : List D} {vs : List V} (h : RpL K H ds vs) (lo hi : Option Int) : RpL K H (cutD ds lo hi) (cutV vs lo hi) := by
  unfold cutD cutV
  rw [h.length]
  exact (h.drop _).take _
def slD : FS := fun x lo hi S k => match x with
  | .tup xs => k (.tup (cutD xs lo hi)) S
  | .lis xs => ∀ p, S p = none → k (.ref p) (S.upd p (.lst (cutD xs lo hi)))
  | .ref a => match S a with
    | some (.lst xs) => ∀ p, S p = none → k (.ref p) (S.upd p (.lst (cutD xs lo hi)))
    | _ => False
  | _ => False
theorem RpL.inj_ : ∀ {xs ys : List D} {vs : List V}, RpL K H xs vs → RpL K H ys vs → xs.length = ys.length := fun a b => a.length.trans b.length.symm
theorem slSeq : SlD X slD := by
  refine ⟨_, sl_tupF.or sl_list, fun x lo hi S k v H Q q rx hS c => ?_⟩
  unfold slD at q
  split at q
  · rename_i xs
    obtain ⟨a, vs, rfl, h1, h2⟩ := rx.tup_
    refine .inl ⟨a, vs, rfl, h1.sq, fun w => ?_, cl_newT c hS (h2.cut lo hi) q⟩
    have hr := h2.cut lo hi
    rw [w] at hr
    exact c _ _ _ _ q Stp.refl (.tup h1 hr) hS
  · obtain ⟨a, vs, rfl, h1, h2⟩ := rx.lis_
    exact .inr ⟨a, vs, rfl, h1.sq, cl_new c hS (h2.cut lo hi) q⟩
  · split at q
    · rename_i a _ xs e
      have := rx.ref_; subst v
      obtain ⟨vs, h1, h2⟩ := hS.lst e
      exact .inr ⟨a, vs, rfl, SqL.of h1, cl_new c hS (h2.cut lo hi) q⟩
    · exact q.elim
  · exact q.elim
variable {a b e lo hi : Expr} {es : List Expr} {ra rb : RT} {rl : RTa} {pos p2 : Pos}
theorem re_ix {g : F2} (hr : IxD X g) (ha : RE X a ra) (hb : RE X b rb) (hs : PlainIx b := by exact fun _ _ => rfl) : RE X (.Subscript a b pos) (rBin g ra rb) := by
  obtain ⟨r, ho, hc⟩ := hr
  exact PE.imp (pe_ix ho ha hb hs) fun σ H Q h => two hc h
abbrev RTo := DEnv → Sto → (Option Int → Sto → Prop) → Prop
def tO (K : PySem.W.Frag) (r : RTo) : TO := fun σ H Q => ∃ env S k, AbsE K H env σ ∧ AbsS K S H ∧ r env S k ∧ ∀ o S' H', k o S' → Stp H S H' S' → AbsS K S' H' → Q o H'
def RO (X : Cx) (e : Option Expr) (r : RTo) : Prop := PO X e (tO X.K r)
theorem PO.imp {e : Option Expr} {t t' : TO} (h : PO X e t) (i : ∀ σ H Q, t' σ H Q → t σ H Q) : PO X e t' := ⟨fun pins s σ H Q I q => h.run pins s σ H Q I (i σ H Q q)⟩
def oNone : RTo := fun _ S k => k none S
def oSome (r : RT) : RTo := fun env S k => r env S fun d S1 => match d with
  | .int i => k (some i) S1
  | _ => False
theorem ro_none : RO X none oNone := PO.imp po_none fun σ H Q ⟨env, S, k, hE, hS, q, c⟩ => c _ _ _ q Stp.refl hS
theorem ro_some (h : RE X e ra) : RO X (some e) (oSome ra) := PO.imp (po_some h) fun σ H Q ⟨env, S, k, hE, hS, q, c⟩ =>
  ⟨env, S, _, hE, hS, q, fun d S1 v H1 q1 st r hS1 => by
    dsimp only at q1 ⊢
    split at q1
    · exact ⟨_, r.int_, c _ _ _ q1 st hS1⟩
    · exact q1.elim⟩
def rSl (g : FS) (re : RT) (rlo rhi : RTo) : RT := fun env S k => re env S fun x S1 => rlo env S1 fun lo S2 => rhi env S2 fun hi S3 => g x lo hi S3 k
theorem re_slice {lo hi : Option Expr} {g : FS} {rlo rhi : RTo} (hr : SlD X g) (he : RE X e ra) (hl : RO X lo rlo) (hu : RO X hi rhi) : RE X (.Subscript e (.Slice lo hi none p2) pos) (rSl g ra rlo rhi) := by
  obtain ⟨r, h1, h2⟩ := hr
  refine PE.imp (pe_slice h1 he hl hu) fun σ H Q ⟨env, S, k, hE, hS, q, c⟩ => ?_
  refine ⟨env, S, _, hE, hS, q, fun x S1 v H1 q1 st1 r1 hS1 => ?_⟩
  refine ⟨env, S1, _, hE.mon (st1.mon hS), hS1, q1, fun l S2 H2 q2 st2 hS2 => ?_⟩
  refine ⟨env, S2, _, (hE.mon (st1.mon hS)).mon (st2.mon hS1), hS2, q2, fun u S3 H3 q3 st3 hS3 => ?_⟩
  exact h2 x l u S3 k v H3 Q q3 ((r1.mon (st2.mon hS1)).mon (st3.mon hS2)) hS3 (((c.after st1).after st2).after st3)
/-- xs[i] = v -/
def setL : SetF := fun o i d S k => match o, i with
  | .ref l, .int n => match S l with
    | some (.lst xs) => ∃ j, ixN xs.length n = some j ∧ k (S.upd l (.lst (xs.set j d)))
    | _ => False
  | _, _ => False
theorem setLst : SetD X setL := by
  refine ⟨_, set_list, fun o i d S k ov iv v H Q q ro ri rv hS c => ?_⟩
  unfold setL at q
  split at q
  · split at q
    · rename_i l n _ xs e
      have := ro.ref_; have := ri.int_; subst ov iv
      obtain ⟨vs, h1, h2⟩ := hS.lst e
      obtain ⟨j, e2, q⟩ := q
      refine ⟨l, vs, n, j, rfl, rfl, h1, by rw [← h2.length]; exact e2, ?_⟩
      exact c _ _ q (Stp.write e) (hS.write h1 True.intro True.intro ⟨_, rfl, (h2.set j rv).mon (Mon.write h1 True.intro)⟩)
    · exact q.elim
  · exact q.elim

/-! ### builtins -/
def lenD : FL := fun ds S k => match ds with
  | [.str x] => x.length ≤ sizeLine ∧ k (.int x.length) S
  | [d] => ∃ xs, seqOf S d = some xs ∧ k (.int xs.length) S
  | _ => False
theorem RpL.one {d : D} {vs : List V} (h : RpL K H [d] vs) : ∃ v, vs = [v] ∧ Rp K H d v := by
  obtain ⟨v, r, e, p, t⟩ := h.cons_of
  rw [t.nil_of] at e
  exact ⟨v, e, p⟩
theorem RpL.two {d d' : D} {vs : List V} (h : RpL K H [d, d'] vs) : ∃ v v', vs = [v, v'] ∧ Rp K H d v ∧ Rp K H d' v' := by
  obtain ⟨v, r, e, p, t⟩ := h.cons_of
  obtain ⟨v', e', p'⟩ := t.one
  exact ⟨v, v', by rw [e, e'], p, p'⟩
theorem cLen : CallD X (.builtin "len") lenD := by
  refine ⟨_, call_len, fun ds S k vs H Q q r hS c => ?_⟩
  unfold lenD at q
  split at q
  · obtain ⟨v, rfl, r0⟩ := r.one
    have := r0.str_; subst v
    exact ⟨_, _, rfl, ⟨q.1, rfl⟩, c _ _ _ _ q.2 Stp.refl .int hS⟩
  · obtain ⟨v, rfl, r0⟩ := r.one
    obtain ⟨xs, e, q⟩ := q
    obtain ⟨a, us, rfl, h1, h2⟩ := seq_of e r0 hS
    rw [h2.length] at q
    refine ⟨_, us.length, rfl, ?_, c _ _ _ _ q Stp.refl .int hS⟩
    rcases h1 with h1 | h1
    · exact .inl ⟨us, h1, rfl⟩
    · exact .inr ⟨us, h1, rfl⟩
  · exact q.elim
def maxD : FL := fun ds S k => match ds with
  | [.int i, .int j] => k (.int (if j > i then j else i)) S
  | _ => False
theorem cMax (hc : X.calm = true) : CallD X (.builtin "max") maxD := by
  refine ⟨_, call_max2 hc, fun ds S k vs H Q q r hS c => ?_⟩
  unfold maxD at q
  split at q
  · obtain ⟨v, v', rfl, r1, r2⟩ := r.two
    have := r1.int_; have := r2.int_; subst v v'
    exact ⟨_, _, rfl, c _ _ _ _ q Stp.refl .int hS⟩
  · exact q.elim
/-- list(xs) -/
def listD : FL := fun ds S k => match ds with
  | [d] => ∃ xs, seqOf S d = some xs ∧ ∀ p, S p = none → k (.ref p) (S.upd p (.lst xs))
  | _ => False
theorem cList : CallD X (.type "list") listD := by
  refine ⟨_, call_list_of, fun ds S k vs H Q q r hS c => ?_⟩
  unfold listD at q
  split at q
  · obtain ⟨v, rfl, r0⟩ := r.one
    obtain ⟨xs, e, q⟩ := q
    obtain ⟨a, us, rfl, h1, h2⟩ := seq_of e r0 hS
    exact ⟨a, us, rfl, h1, cl_new c hS h2 q⟩
  · exact q.elim
def isTup : D → Bool
  | .tup _ => true
  | _ => false
theorem sq_lst {d : D} {a : Addr} {xs : List D} (e : seqOf S d = some xs) (n : isTup d = false) (r0 : Rp K H d (.ref a)) (hS : AbsS K S H) : ∃ vs, SqL K H a vs ∧ RpL K H xs vs := by
  cases d with
  | tup ys => cases n
  | lis ys =>
    cases (show some ys = some xs from e)
    obtain ⟨a', vs, h1, h2, h3⟩ := r0.lis_
    cases h1
    exact ⟨vs, h2.sq, h3⟩
  | ref a' =>
    have := r0.ref_
    cases this
    unfold seqOf at e
    dsimp only at e
    split at e
    · rename_i xs' q
      cases e
      obtain ⟨vs, h1, h2⟩ := hS.lst q
      exact ⟨vs, SqL.of h1, h2⟩
    · cases e
  | _ => cases e
/-- tuple(xs) -/
def tupleD : FL := fun ds S k => match ds with
  | [.tup xs] => k (.tup xs) S
  | [d] => ∃ xs, seqOf S d = some xs ∧ isTup d = false ∧ k (.tup xs) S
  | _ => False
theorem cTuple : CallD X (.type "tuple") tupleD := by
  refine ⟨_, call_tupleF, fun ds S k vs H Q q r hS c => ?_⟩
  unfold tupleD at q
  split at q
  · obtain ⟨v, rfl, r0⟩ := r.one
    obtain ⟨a, us, rfl, h1, h2⟩ := r0.tup_
    exact ⟨a, us, rfl, .inr ⟨h1.sq, c _ _ _ _ q Stp.refl r0 hS⟩⟩
  · obtain ⟨v, rfl, r0⟩ := r.one
    obtain ⟨xs, e, n, q⟩ := q
    obtain ⟨a, us, rfl, _, _⟩ := seq_of e r0 hS
    obtain ⟨us, h3, h4⟩ := sq_lst e n r0 hS
    exact ⟨a, us, rfl, .inl ⟨h3, cl_newT c hS h4 q⟩⟩
  · exact q.elim
def allD : FL := fun ds S k => match ds with
  | [d] => ∃ bs : List Bool, seqOf S d = some (bs.map D.bl) ∧ isTup d = false ∧ k (.bl (bs.all id)) S
  | _ => False
theorem cAll (hc : X.calm = true) : CallD X (.builtin "all") allD := by
  refine ⟨_, cr_all hc, fun ds S k vs H Q q r hS c => ?_⟩
  unfold allD at q
  split at q
  · obtain ⟨v, rfl, r0⟩ := r.one
    obtain ⟨bs, e, n, q⟩ := q
    obtain ⟨a, us, rfl, _, _⟩ := seq_of e r0 hS
    obtain ⟨us, h1, h2⟩ := sq_lst e n r0 hS
    have := h2.bls; subst us
    exact ⟨a, bs, rfl, h1, c _ _ _ _ q Stp.refl .bl hS⟩
  · exact q.elim
end
end DL
/-! enumerate over what begins anywhere; walks of lists, tuples, ranges -/
namespace DLE
open PySem
theorem new_enum1 {v : Value} {o : Obj} {H : Heap → Prop} (B : Begins v o H) : Meets (Builtin.«enumerate.__new__» ⟨[.type "enumerate", v], []⟩) (fun _ R s => H s.heap ∧
      R (.ok (.ret (.ref (s.heap.push o).objs.size))) { s with heap := (s.heap.push o).push { cls := .type "enumerate", data := .fields #[.none, .bool false, .ref s.heap.objs.size, rawInt 0, .none, .none] } }) := by
  refine .of_wp fun prog w A R s hh => ?_
  obtain ⟨hp, g, d, tk, os⟩ := s
  obtain ⟨h1, h⟩ := hh
  have hsub := sub_enumerate
  have qi : ∀ {A' : Around} {E Q : Value → Shared → Prop}, Q (.ref hp.objs.size) ⟨hp.push o, g, d, tk, os⟩ → wpAny (model prog w) A' (pyIter v) Q E ⟨hp, g, d, tk, os⟩ := fun {A' E Q} z => B.iter prog w _ _ ⟨hp, g, d, tk, os⟩ _ h1 z
  wp_walk using qi
  refine wpAny_stack_any fun _ => wpAny_pure ?_
  split
  · rename_i c _ _ _ _ _
    cases (c == Value.type "enumerate") <;> (wp_walk using qi; exact ⟨_, rfl, h⟩)
  · wp_walk using qi; exact ⟨_, rfl, h⟩
theorem enum_begins1 {prog : Program} {w : World} {A : Around} {E : Value → Shared → Prop} {s : Shared} {v : Value} {o : Obj} {H : Heap → Prop} {Q : Value → Shared → Prop} (B : Begins v o H) (h1 : H s.heap)
    (h : ∀ h', IsEnum h' (s.heap.objs.size + 1) s.heap.objs.size 0 .none → h'.get? s.heap.objs.size = some o → (∀ b u, s.heap.get? b = some u → h'.get? b = some u) → Q (.ref (s.heap.objs.size + 1)) { s with heap := h' }) :
    wpAny (model prog w) A (call (.type "enumerate") [v]) Q E s := by
  refine callType_new F.called_enumerate (by decide) (F.typeCall_enumerate_1 _) (F.newCall_enumerate_1 _) (fun obj => F.args_object_init_2 obj _) F.entry_enumerate_new (new_enum1 B) ⟨h1, ?_⟩
  have hz : (s.heap.push o).objs.size = s.heap.objs.size + 1 := Heap.size_push ..
  have he := Heap.get?_push_size (s.heap.push o) (o := { cls := .type "enumerate", data := .fields #[.none, .bool false, .ref s.heap.objs.size, rawInt 0, .none, .none] }) rfl
  rw [hz] at he
  show _ ∧ _
  rw [hz]
  exact ⟨⟨_, he, rfl⟩, h _ he (Heap.get?_push_of_some _ (Heap.get?_push_size _ B.free)) fun b u x => Heap.get?_push_of_some _ (Heap.get?_push_of_some _ x)⟩
end DLE
namespace DL
open PySem PySem.Spec PyProof.Rows L2
/-- the tuple at a, each item in a new pair with its place -/
def ItE (K : PySem.W.Frag) (a : Addr) (xs : List V) : It :=
  ⟨fun i H => SqT K H a xs ∧ i < xs.length, fun i H v H' => ∃ T x, v = .ref T ∧ H T = none ∧ H' = L2.upd H T (.tup [.int (i : Nat), x]) ∧ xs[i]? = some x, fun i H => SqT K H a xs ∧ i = xs.length⟩
theorem turn_enumT {P : Program} {w : World} {K : PySem.W.Frag} {elts : List Expr} {kk : Nat} {tpos : Pos} (a e it : Addr) (xs : List V) (hei : e ≠ it) (hai : a ≠ it) (hea : e ≠ a) :
    Turn P w K (.Tuple elts kk tpos) (ItE K a xs) [e, it] e (fun i h => (∃ old, IsEnum h e it ((i : Nat) : Int) old) ∧ h.IsTupleIter it a i) where
  mem := by simp
  obj := by
    intro i h st b hb
    obtain ⟨⟨old, he⟩, ⟨o, ho, hc, hd⟩⟩ := st
    rcases (by simpa using hb : b = e ∨ b = it) with rfl | rfl
    · exact ⟨_, he, fun v q => nomatch q⟩
    · exact ⟨o, ho, fun v q => by rw [hd] at q; cases q⟩
  keep := by
    intro i h h' st k
    obtain ⟨⟨old, he⟩, hi⟩ := st
    exact ⟨⟨old, k e (by simp) _ he⟩, hi.at fun o q => k it (by simp) o q⟩
  item := by
    intro X hP hw hK hc i pins s σ H E I hf st hg
    subst hP hw hK
    obtain ⟨⟨old, he⟩, hit⟩ := st
    obtain ⟨hq, hlt⟩ := hg
    obtain ⟨its, rv, p, hz⟩ := I.tuple hq
    have hl := rv.length
    have Dr := Draws.tuple (prog := X.prog) (w := X.w) (A := X.A.in1) (I.ok.hd hc) it a hai its.toArray
    have W := GoesN.enumFrom (elts := elts) (x1 := kk) (pos := tpos) 0 Dr e hei (by simp [hei, hea]) (by simp)
    refine W.goes i s _ E (by simp; omega) ⟨⟨old, by rw [Int.zero_add]; exact he⟩, hit, p⟩ fun v h' tk Y st' kp _ => ?_
    obtain ⟨T, t, x, ev, hnew, hx, hT⟩ := Y
    subst ev
    obtain ⟨⟨old', he'⟩, hit', _⟩ := st'
    have hx' : its[i]? = some x := by simpa using hx
    obtain ⟨y, hy⟩ : ∃ y, xs[i]? = some y := ⟨xs[i], by simp [hlt]⟩
    obtain ⟨u, hu, ru⟩ := rv.get hy
    rw [hx'] at hu
    cases hu
    rw [Int.zero_add] at hT
    have hT' : IsTup h' T #[.int ((i : Nat) : Int) t, x] := hT
    have Tf : H T = none := I.hok.fresh hnew
    have I1 : Inv X pins σ (L2.upd H T (.tup [.int (i : Nat), y])) { s with heap := h', toks := tk } := by
      refine I.turnedNew (ch := [e, it]) (fun b ob hb q => kp b ob hb q) hf hnew ?_
      exact ⟨by show 2 ≤ sizeLine; decide, [.int ((i : Nat) : Int) t, x], .cons ⟨_, rfl⟩ (.cons ru .nil), hT'⟩
    refine ⟨.ref T, _, I1, rfl, ⟨T, y, rfl, Tf, rfl, hy⟩, ⟨⟨old', ?_⟩, hit'⟩, fun b hb => ?_⟩
    · have e1 : (0 : Int) + ((i + 1 : Nat) : Int) = ((i + 1 : Nat) : Int) := Int.zero_add _
      rw [← e1]
      exact he'
    · have hb' : b < s.heap.objs.size := by
        rcases (by simpa using hb : b = e ∨ b = it) with rfl | rfl
        · exact Heap.lt_size he
        · obtain ⟨_, q, _⟩ := hit; exact Heap.lt_size q
      rw [L2.upd_ne (Nat.ne_of_lt (Nat.lt_of_lt_of_le hb' hnew))]
      exact (hf b hb).1
  done := by
    intro X hP hw hK hc i pins s σ H E I hf st hg
    subst hP hw hK
    obtain ⟨⟨old, he⟩, hit⟩ := st
    obtain ⟨hq, hlt⟩ := hg
    subst hlt
    obtain ⟨its, rv, p, hz⟩ := I.tuple hq
    have hl := rv.length
    have Dr := Draws.tuple (prog := X.prog) (w := X.w) (A := X.A.in1) (I.ok.hd hc) it a hai its.toArray
    have W := GoesN.enumFrom (elts := elts) (x1 := kk) (pos := tpos) 0 Dr e hei (by simp [hei, hea]) (by simp)
    have hn : its.toArray.size = xs.length := by simp; omega
    rw [hn] at W
    refine W.stops s _ E ⟨⟨old, by rw [Int.zero_add]; exact he⟩, hit, p⟩ fun h' tk kp _ => ?_
    exact I.turnedL (ch := [e, it]) kp hf
  self := by
    intro A i s Q E st h
    obtain ⟨⟨_, he⟩, _⟩ := st
    exact wpAny_pyIter_enum he h
theorem walk_enumT {K : PySem.W.Frag} {a : Addr} {xs : List V} : Walk (ItE K a xs) xs.length (fun H => SqT K H a xs) (YPair (fun i => some (.int (i : Nat))) (fun i => xs[i]?)) :=
  ⟨fun _ _ hi q => ⟨q, hi⟩, fun _ q => ⟨q, rfl⟩, fun i H v H' _ q ⟨T, x, h1, h2, h3, h4⟩ => ⟨T, .int (i : Nat), x, h1, h2, h3, rfl, h4⟩⟩
section
variable {X : Cx} {K : PySem.W.Frag} {H : Hp} {S : Sto}
/-- what may be walked: a tuple, a list -/
theorem walkD_tup {a : Addr} {vs : List V} {xs : List D} {G : Sto → Prop} (h : SqT K H a vs) (r : RpL K H xs vs) : WalkD K H (Itt K a) xs G := by
  refine ⟨_, _, by rw [r.length]; exact walk_tup (xs := vs), fun S' H' m _ _ => m.sqt h, fun i H' x H2 hi _ y => ?_⟩
  obtain ⟨rfl, y⟩ := y
  obtain ⟨d, e, _⟩ := r.getV y
  refine ⟨d, e, fun S' m hS' => ⟨?_, Stp.refl, hS'⟩⟩
  obtain ⟨v, e1, e2⟩ := (r.mon m).get e
  rw [y] at e1; cases e1
  exact e2
theorem walkD_lis {a : Addr} {vs : List V} {xs : List D} {G : Sto → Prop} (h : FzL K H a vs) (r : RpL K H xs vs) : WalkD K H (Itl K a) xs G := by
  refine ⟨_, _, by rw [r.length]; exact walk_list (xs := vs), fun S' H' m _ _ => (m.fzl h).sq, fun i H' x H2 hi _ y => ?_⟩
  obtain ⟨rfl, y⟩ := y
  obtain ⟨d, e, _⟩ := r.getV y
  refine ⟨d, e, fun S' m hS' => ⟨?_, Stp.refl, hS'⟩⟩
  obtain ⟨v, e1, e2⟩ := (r.mon m).get e
  rw [y] at e1; cases e1
  exact e2
/-- a list of the store that is as it was at each turn -/
theorem walkD_lst {a : Addr} {xs : List D} {vs : List V} (h : H a = some (.lst vs)) (r : RpL K H xs vs) : WalkD K H (Itl K a) xs fun S => S a = some (.lst xs) := by
  refine ⟨fun H' => ∃ vs', SqL K H' a vs' ∧ vs'.length = xs.length ∧ H' a = some (.lst vs') ∧ RpL K H' xs vs', fun i H' x H2 => H2 = H' ∧ ∃ vs', H' a = some (.lst vs') ∧ RpL K H' xs vs' ∧ vs'[i]? = some x, ⟨?_, ?_, ?_⟩, fun S' H' m hS' e => ?_, fun i H' x H2 hi _ y => ?_⟩
  · rintro i H' hi ⟨vs', q, hl, _⟩
    exact ⟨vs', vs'[i]'(by omega), q, by simp [hl, hi]⟩
  · rintro H' ⟨vs', q, hl, _⟩
    exact ⟨vs', q, by omega⟩
  · rintro i H' x H2 hi ⟨vs', q, hl, e, r'⟩ ⟨rfl, y⟩
    exact ⟨rfl, vs', e, r', y vs' q⟩
  · obtain ⟨vs', h1, h2⟩ := hS'.lst e
    exact ⟨vs', SqL.of h1, h2.length.symm, h1, h2⟩
  · obtain ⟨rfl, vs', e, r', y⟩ := y
    obtain ⟨d, e1, e2⟩ := r'.getV y
    exact ⟨d, e1, fun S' m hS' => ⟨e2, Stp.refl, hS'⟩⟩
variable {tg e e2 : Expr} {re : RT} {p pos : Pos}
/-- for x in a tuple, a list (the list known at its start; it stays as it is) -/
def iSeq (re : RT) : RTi := fun env S k => re env S fun d S1 => match d with
  | .tup xs => k xs (fun _ => True) S1
  | .lis xs => k xs (fun _ => True) S1
  | .ref a => match S1 a with
    | some (.lst xs) => k xs (fun S => S a = some (.lst xs)) S1
    | _ => False
  | _ => False
def isRefD : D → Bool
  | .tup _ => false
  | _ => true
/-- a tuple -/
def iTupD (re : RT) : RTi := fun env S k => re env S fun d S1 => match d with
  | .tup xs => k xs (fun _ => True) S1
  | _ => False
theorem ri_tup (h : RE X e re) : RI X tg e (iTupD re) := by
  refine PI.imp (pi_tup h) fun σ H R ⟨env, S, k, hE, hS, q, cl⟩ => ?_
  refine ⟨env, S, _, hE, hS, q, fun d S1 v H1 q1 st r1 hS1 => ?_⟩
  dsimp only at q1 ⊢
  split at q1
  · obtain ⟨a, vs, rfl, h1, h2⟩ := r1.tup_
    exact ⟨a, rfl, ⟨vs, h1.sq⟩, cl _ _ _ _ _ q1 st hS1 (walkD_tup h1.sq h2)⟩
  · exact q1.elim
/-- a list -/
def iLstD (re : RT) : RTi := fun env S k => re env S fun d S1 => match d with
  | .lis xs => k xs (fun _ => True) S1
  | .ref a => match S1 a with
    | some (.lst xs) => k xs (fun S => S a = some (.lst xs)) S1
    | _ => False
  | _ => False
theorem ri_lst (h : RE X e re) : RI X tg e (iLstD re) := by
  refine PI.imp (pi_list h) fun σ H R ⟨env, S, k, hE, hS, q, cl⟩ => ?_
  refine ⟨env, S, _, hE, hS, q, fun d S1 v H1 q1 st r1 hS1 => ?_⟩
  dsimp only at q1 ⊢
  split at q1
  · obtain ⟨a, vs, rfl, h1, h2⟩ := r1.lis_
    exact ⟨a, rfl, ⟨vs, h1.sq⟩, cl _ _ _ _ _ q1 st hS1 (walkD_lis h1 h2)⟩
  · split at q1
    · rename_i a _ xs e1
      have := r1.ref_; subst this
      obtain ⟨vs, h1, h2⟩ := hS1.lst e1
      exact ⟨a, rfl, ⟨vs, SqL.of h1⟩, cl _ _ _ _ _ q1 st hS1 (walkD_lst h1 h2)⟩
    · exact q1.elim
  · exact q1.elim
def rngD (lo : Int) (n : Nat) : List D := (List.range n).map fun i => D.int (lo + (i : Nat))
theorem rngD_length (lo : Int) (n : Nat) : (rngD lo n).length = n := by unfold rngD; simp
theorem rngD_get {lo : Int} {n i : Nat} (h : i < n) : (rngD lo n)[i]? = some (.int (lo + (i : Nat))) := by unfold rngD; simp [h]
theorem walkD_rng {lo : Int} {n : Nat} {G : Sto → Prop} : WalkD K H (Itr lo n) (rngD lo n) G := by
  refine ⟨_, _, by rw [rngD_length]; exact walk_range, fun _ _ _ _ _ => True.intro, fun i H' x H2 hi _ y => ?_⟩
  obtain ⟨rfl, rfl⟩ := y
  rw [rngD_length] at hi
  exact ⟨_, rngD_get hi, fun S' m hS' => ⟨.int, Stp.refl, hS'⟩⟩
/-- range(n), range(a, b) -/
def iRng (rl : RTa) : RTi := fun env S k => rl env S fun ds S1 => match ds with
  | [.int n] => n < 2 ^ 62 ∧ -(2 ^ 62) ≤ n ∧ k (rngD 0 n.toNat) (fun _ => True) S1
  | _ => False
def iRng' (rl : RTa) : RTi := fun env S k => rl env S fun ds S1 => match ds with
  | [.int a, .int b] => (-(2 ^ 62) ≤ a ∧ a < 2 ^ 62 ∧ -(2 ^ 62) ≤ b ∧ b < 2 ^ 62) ∧ k (rngD a (b - a).toNat) (fun _ => True) S1
  | _ => False
variable {rl : RTa}
theorem ri_rng (hg : Gl X "range") (hm : X.mg "range" = none) (ha : RA X [e] rl) (hs : starEach [e] X.env = [(false, eval e X.env)] := by rfl) : RI X tg (.Call (.Name "range" p) [e] [] pos) (iRng rl) := by
  refine PI.imp (pi_range1 hg hm ha hs) fun σ H R ⟨env, S, k, hE, hS, q, cl⟩ => ?_
  refine ⟨env, S, _, hE, hS, q, fun ds S1 vs H1 q1 st r1 hS1 => ?_⟩
  dsimp only at q1 ⊢
  split at q1
  · obtain ⟨v, rfl, r2⟩ := r1.one
    have := r2.int_; subst this
    exact ⟨_, rfl, q1.2.1, q1.1, cl _ _ _ _ _ q1.2.2 st hS1 walkD_rng⟩
  · exact q1.elim
theorem ri_rng2 (hg : Gl X "range") (hm : X.mg "range" = none) (ha : RA X [e, e2] rl) (hs : starEach [e, e2] X.env = [(false, eval e X.env), (false, eval e2 X.env)] := by rfl) (hs2 : starEach [e2] X.env = [(false, eval e2 X.env)] := by rfl) : RI X tg (.Call (.Name "range" p) [e, e2] [] pos) (iRng' rl) := by
  refine PI.imp (pi_range2 hg hm ha hs hs2) fun σ H R ⟨env, S, k, hE, hS, q, cl⟩ => ?_
  refine ⟨env, S, _, hE, hS, q, fun ds S1 vs H1 q1 st r1 hS1 => ?_⟩
  dsimp only at q1 ⊢
  split at q1
  · obtain ⟨v, v', rfl, r1, r2⟩ := r1.two
    have := r1.int_; have := r2.int_; subst v v'
    exact ⟨_, _, rfl, q1.1, cl _ _ _ _ _ q1.2 st hS1 walkD_rng⟩
  · exact q1.elim
/-- enumerate of a tuple -/
def enumD (xs : List D) : List D := (List.range xs.length).map fun i => D.par [.int (i : Nat), xs.getD i .non]
theorem enumD_length (xs : List D) : (enumD xs).length = xs.length := by unfold enumD; simp
theorem enumD_get {xs : List D} {i : Nat} {d : D} (h : xs[i]? = some d) : (enumD xs)[i]? = some (.par [.int (i : Nat), d]) := by
  unfold enumD
  have hi := (List.getElem?_eq_some_iff.mp h).1
  simp [hi, List.getD_eq_getElem?_getD, (List.getElem?_eq_some_iff.mp h).2]
def iEnumT (rl : RTa) : RTi := fun env S k => rl env S fun ds S1 => match ds with
  | [.tup xs] => k (enumD xs) (fun _ => True) S1
  | _ => False
theorem walkD_pair {J : It} {Gh : Hp → Prop} {fx fy : Nat → Option V} {items : List D} {G : Sto → Prop} (w : Walk J items.length Gh (YPair fx fy)) (hG : ∀ S H', Mon H H' → AbsS K S H' → G S → Gh H')
    (hd : ∀ i x y, i < items.length → fx i = some x → fy i = some y → ∃ dx dy, items[i]? = some (.par [dx, dy]) ∧ ∀ H', Mon H H' → Rp K H' dx x ∧ Rp K H' dy y) : WalkD K H J items G := by
  refine ⟨Gh, _, w, hG, fun i H' v H2 hi _ y => ?_⟩
  obtain ⟨T, x, z, rfl, fr, rfl, e1, e2⟩ := y
  obtain ⟨dx, dy, e3, h3⟩ := hd i x z hi e1 e2
  refine ⟨_, e3, fun S' m hS' => ⟨?_, Stp.laid0 fr, hS'.laid0 fr⟩⟩
  obtain ⟨r1, r2⟩ := h3 (L2.upd H' T (.tup [x, z])) (m.trans (Mon.laid fr))
  exact .par (SqT.of L2.upd_same) (.cons r1 (.cons r2 .nil))
theorem ri_enumT {elts : List Expr} {kk : Nat} {tpos : Pos} (hg : Gl X "enumerate") (hm : X.mg "enumerate" = none) (ha : RA X [e] rl) (hs : starEach [e] X.env = [(false, eval e X.env)] := by rfl) :
    RI X (.Tuple elts kk tpos) (.Call (.Name "enumerate" p) [e] [] pos) (iEnumT rl) := by
  constructor
  rintro pins s σ H R I ⟨env, S, k, hE, hS, q, cl⟩
  refine Call_ (ld_blt I hg hm boot_enumerate (PyProof.Rows.callWith_type1 (thn (PA.run ha pos pins s σ H (fun vs H1 => ∃ xs S1, k (enumD xs) (fun _ => True) S1 ∧ Stp H S H1 S1 ∧ AbsS X.K S1 H1 ∧ ∃ a us, vs = [.ref a] ∧ SqT X.K H1 a us ∧ RpL X.K H1 xs us) I ⟨env, S, _, hE, hS, q, fun ds S1 vs H1 q1 st r1 hS1 => ?_⟩) fun us s1 ⟨vs, H1, I1, r1, xs, S1, q1, st, hS1, a, ws, ev, h1, h2⟩ => ?_) hs rfl))
  · split at q1
    · obtain ⟨v, rfl, r2⟩ := r1.one
      obtain ⟨a, us, rfl, h1, h2⟩ := r2.tup_
      exact ⟨_, S1, q1, st, hS1, a, us, rfl, h1.sq, h2⟩
    · exact q1.elim
  · subst ev
    obtain ⟨u, rfl, ru⟩ := vals1 r1
    cases ru
    obtain ⟨its, rv, p', hz⟩ := I1.tuple h1
    have hlt : a < s1.heap.objs.size := by obtain ⟨_, z, _⟩ := p'; exact Heap.lt_size z
    refine DLE.enum_begins1 (begins_tuple a its.toArray) (show s1.heap.IsTuple a its.toArray from p') fun h' he hit kp => wpAny_pyIter_enum he ?_
    have I2 : Inv X pins σ H1 { s1 with heap := h' } := I1.kept (t' := s1.toks) kp
    refine ⟨s1.heap.objs.size + 1, [s1.heap.objs.size + 1, s1.heap.objs.size], _, _, H1, rfl, I2, turn_enumT a (s1.heap.objs.size + 1) s1.heap.objs.size ws (Nat.succ_ne_self _) (Nat.ne_of_lt hlt) (Nat.ne_of_gt (Nat.lt_succ_of_lt hlt)), ⟨⟨.none, he⟩, ⟨_, hit, rfl, rfl⟩⟩, fun b hb => ?_, ?_⟩
    · have hle : s1.heap.objs.size ≤ b := by
        rcases (by simpa using hb : b = s1.heap.objs.size + 1 ∨ b = s1.heap.objs.size) with z | z
        · rw [z]; exact Nat.le_succ _
        · exact Nat.le_of_eq z.symm
      exact I1.fpOk hle (I1.hok.fresh hle)
    · refine cl _ _ _ _ _ q1 st hS1 ?_
      have w := walk_enumT (K := X.K) (a := a) (xs := ws)
      have el : ws.length = (enumD xs).length := by rw [enumD_length, h2.length]
      rw [el] at w
      refine walkD_pair w (fun S' H' m _ _ => m.sqt h1) fun i x y hi e1 e2 => ?_
      cases e1
      obtain ⟨d, e3, _⟩ := h2.getV e2
      refine ⟨_, d, enumD_get e3, fun H' m => ⟨.int, ?_⟩⟩
      obtain ⟨v, e4, e5⟩ := (h2.mon m).get e3
      rw [e2] at e4
      cases e4
      exact e5
end
end DL
/-! t[::-1] of a tuple; repr of data; isinstance; len(set(t)); t.index(i) -/
namespace DLF
open PySem PySem.Calls PyProof.Rows
section
variable {prog : Program} {w : World} {A : Around} {E : Value → Shared → Prop} {s : Shared}
theorem applied_rev {sl : Addr} {t : Tok} {n : Nat} {Q : Int × Int × Nat → Shared → Prop} (hs : s.heap.IsSliceOf sl .none .none (.int (-1) t)) (h : Q ((n : Int) - 1, -1, n) s) :
    wpAny (model prog w) A (Builtin.Slice.sliceApplied (.ref sl) (pure (n : Int))) Q E s := by
  obtain ⟨os, hos, hcs, hds⟩ := id hs
  unfold Builtin.Slice.sliceApplied Builtin.Slice.sliceFields
  refine wpAny_bind (wpAny_bind (wpAny_field hos hds (x := .none) rfl (wpAny_bind (wpAny_field hos hds (x := .none) rfl (wpAny_bind (wpAny_field hos hds (x := .int (-1) t) rfl (wpAny_pure ?_)))))))
  refine wpAny_bind (slicePart_int ?_)
  show wpAny _ _ (if ((-1 : Int) == 0) = true then _ else _) _ _ s
  rw [if_neg (by decide)]
  refine wpAny_bind (slicePart_none (wpAny_bind (slicePart_none (wpAny_bind (wpAny_pure ?_)))))
  show wpAny _ _ (pure ((n : Int) - 1, (-1 : Int), Builtin.Slice.slicePlaces ((n : Int) - 1) (-1) (-1))) _ _ s
  have e : Builtin.Slice.slicePlaces ((n : Int) - 1) (-1) (-1) = n := by
    unfold Builtin.Slice.slicePlaces
    have h1 : ¬ ((-1 : Int) > 0) := by decide
    simp only [h1, if_false, show (- -1 : Int) = 1 by decide, Int.ediv_one]
    split <;> omega
  rw [e]
  exact wpAny_pure h
theorem fm_congr {α β : Type} {f g : α → Option β} : ∀ {l : List α}, (∀ x ∈ l, f x = g x) → l.filterMap f = l.filterMap g
  | [], _ => rfl
  | x :: l, h => by
    rw [List.filterMap_cons, List.filterMap_cons, h x List.mem_cons_self, fm_congr fun y hy => h y (List.mem_cons_of_mem _ hy)]
theorem pick_rev (xs : Array Value) : ((List.range xs.size).filterMap fun (m : Nat) => xs[(((xs.size : Int) - 1) + (m : Int) * -1).toNat]?).toArray = xs.toList.reverse.toArray := by
  have e : ((List.range xs.size).filterMap fun (m : Nat) => xs[(((xs.size : Int) - 1) + (m : Int) * -1).toNat]?) = ((List.range xs.size).map fun k => xs.size - 1 - k).filterMap (xs[·]?) := by
    rw [List.filterMap_map]
    refine fm_congr fun m hm => ?_
    have := List.mem_range.mp hm
    have q : (((xs.size : Int) - 1) + (m : Int) * -1).toNat = xs.size - 1 - m := by omega
    rw [q]
    rfl
  rw [e, PySem.W.krv_range, List.filterMap_reverse, PySem.W.krv_all]
theorem tuple_rev {t sl : Addr} {items : Array Value} {tk : Tok} {Q : Value → Shared → Prop} (ht : IsTup s.heap t items) (hs : s.heap.IsSliceOf sl .none .none (.int (-1) tk))
    (h : Q (.ref s.heap.objs.size) { s with heap := s.heap.push { cls := .type "tuple", data := .seq items.toList.reverse.toArray } }) (hsz : items.size ≤ sizeLine) : wpAny (model prog w) A (getItem (.ref t) (.ref sl)) Q E s := by
  have hok : sizeOk (.seq items.toList.reverse.toArray) := by
    show items.toList.reverse.toArray.size ≤ sizeLine
    rw [List.size_toArray, List.length_reverse, Array.length_toList]
    exact hsz
  obtain ⟨os, hos, hcs, hds⟩ := id hs
  have hTs : s.TypeIs (.ref sl) "slice" := ⟨os, hos, hcs⟩
  unfold getItem
  try with_reducible refine wpAny_holding ?_
  first | refine wpAny_bind (wpAny_pure ?_) | skip
  refine wpAny_bind (wpAny_sequenceKey ht.typeIs (by decide) (wpAny_bind (wpAny_callSpecial?_slot (name := Str.ofString "__getitem__") ht.typeIs slot_tuple_getitem (wpAny_call_entry slot_tuple_getitem ht.typeIs entry_tuple_getitem ?_ (args_tuple_getitem _ _)))))
  refine wpAny_bind (m := Builtin.Tuple.tupleItemsOf (.ref t)) (tupleItemsOf_ ht (wpAny_bind (wpAny_typeOf hTs ?_)))
  rw [if_pos (by decide)]
  refine wpAny_bind (applied_rev (n := items.size) hs ?_)
  show wpAny _ _ (if (((items.size : Int) - 1) == 0 && (-1 : Int) == 1 && items.size == items.size) = true then _ else _) _ _ s
  rw [if_neg (by simp), pick_rev]
  first
    | exact wpAny_bind (m := Builtin.Tuple.tupleExact _) (wpAny_newObj_type (wpAny_pure ⟨_, rfl, wpAny_pure h⟩) hok)
    | exact wpAny_bind (m := Builtin.Tuple.tupleExact _) (wpAny_newObj_type (wpAny_bind (wpAny_pure (wpAny_pure ⟨_, rfl, wpAny_pure h⟩))) hok)
    | exact wpAny_bind (wpAny_bind (m := Builtin.Tuple.tupleExact _) (wpAny_newObj_type (wpAny_pure (wpAny_pure ⟨_, rfl, wpAny_pure h⟩)) hok))
    | exact wpAny_bind (wpAny_bind (m := Builtin.Tuple.tupleExact _) (wpAny_newObj_type (wpAny_pure ⟨_, rfl, wpAny_pure h⟩) hok))
end
end DLF
namespace DL
open PySem PySem.Spec PyProof.Rows L2
section
variable {X : Cx} {K : PySem.W.Frag} {H : Hp} {S : Sto} {e a : Expr} {re : RT} {p pos : Pos}
/-- t[::-1] -/
def tRevT (K : PySem.W.Frag) (te : TE) : TE := fun σ H Q => te σ H fun x H1 => ∃ a xs, x = .ref a ∧ SqT K H1 a xs ∧ NewT H1 Q xs.reverse
theorem pe_revT {te : TE} {k : Nat} {p1 p2 p3 pos : Pos} (he : PE X e te) : PE X (.Subscript e (.Slice none none (some (.UnaryOp .USub (.Constant (.int 1) k p1) p2)) p3) pos) (tRevT X.K te) := by
  constructor
  intro pins s σ H Q I h
  refine Subscript_ (thn (he.run pins s σ H _ I h) ?_)
  rintro v s1 ⟨x, H1, I1, r1, a, xs, rfl, hx, q⟩
  cases r1
  have step : PO X (some (.UnaryOp .USub (.Constant (.int 1) k p1) p2)) (tPart (tUn (rU fun i => .int (-i)) (tC (.int 1)))) := po_some (pe_un un_neg pe_int)
  refine wpAny_Slice (thn (po_none.run pins s1 σ H1 (fun o H2 => o = none ∧ H2 = H1) I1 ⟨rfl, rfl⟩) ?_)
  rintro vl s2 ⟨l, H2, I2, pl, rfl, rfl⟩
  refine thn (po_none.run pins s2 σ H2 (fun o H3 => o = none ∧ H3 = H2) I2 ⟨rfl, rfl⟩) ?_
  rintro vu s3 ⟨u, H3, I3, pu, rfl, rfl⟩
  refine thn (step.run pins s3 σ H3 (fun o H4 => o = some (-1) ∧ H4 = H3) I3 ⟨1, rfl, -1, rfl, rfl, rfl⟩) ?_
  rintro vs s4 ⟨o, H4, I4, ps, rfl, rfl⟩
  cases pl
  cases pu
  obtain ⟨t, rfl⟩ : ∃ t, vs = .int (-1) t := by cases ps; exact ⟨_, rfl⟩
  have I5 : Inv X pins σ H4 { s4 with heap := s4.heap.push { cls := .type "slice", data := .fields #[.none, .none, .int (-1) t] } } := I4.kept (t' := s4.toks) fun b ob z => Heap.get?_push_of_some _ z
  obtain ⟨its, r, ht, hz⟩ := I5.tuple hx
  have hlen := r.length
  show wpAny (model X.prog X.w) X.A (subscriptTail e (.Slice none none (some (.UnaryOp .USub (.Constant (.int 1) k p1) p2)) p3) (.ref a) (.ref s4.heap.objs.size)) _ _ _
  refine tail_any (ops := [.ref a, .ref s4.heap.objs.size]) ht.typeIs (PyProof.Rows.slot_tuple_getitem.lookup) ?_ (by with_unfolding_all rfl)
  refine DLF.tuple_rev ht (Heap.IsSliceOf.new _ .none .none (.int (-1) t)) ?_ (by rw [List.size_toArray]; omega)
  exact laidT (tk := s4.toks) I5 (fun _ _ z => z) (by rw [List.length_reverse]; exact hz) r.reverse q
def rRevT (re : RT) : RT := fun env S k => re env S fun d S1 => match d with
  | .tup xs => k (.tup xs.reverse) S1
  | _ => False
theorem re_revT {k : Nat} {p1 p2 p3 : Pos} (he : RE X e re) : RE X (.Subscript e (.Slice none none (some (.UnaryOp .USub (.Constant (.int 1) k p1) p2)) p3) pos) (rRevT re) := by
  refine PE.imp (pe_revT he) fun σ H Q ⟨env, S, k, hE, hS, q, c⟩ => ⟨env, S, _, hE, hS, q, fun d S1 v H1 q1 st r1 hS1 => ?_⟩
  dsimp only at q1 ⊢
  split at q1
  · obtain ⟨a, vs, rfl, h1, h2⟩ := r1.tup_
    exact ⟨a, vs, rfl, h1.sq, cl_newT (c.after st) hS1 h2.reverse q1⟩
  · exact q1.elim
def rRevL (re : RT) : RT := fun env S k => re env S fun d S1 => match d with
  | .ref a => match S1 a with
    | some (.lst xs) => ∀ p, S1 p = none → k (.ref p) (S1.upd p (.lst xs.reverse))
    | _ => False
  | _ => False
theorem re_revL {k : Nat} {p1 p2 p3 : Pos} (he : RE X e re) : RE X (.Subscript e (.Slice none none (some (.UnaryOp .USub (.Constant (.int 1) k p1) p2)) p3) pos) (rRevL re) := by
  refine PE.imp (pe_revL he) fun σ H Q ⟨env, S, k, hE, hS, q, c⟩ => ⟨env, S, _, hE, hS, q, fun d S1 v H1 q1 st r1 hS1 => ?_⟩
  dsimp only at q1 ⊢
  split at q1
  · split at q1
    · rename_i a _ xs e1
      have := r1.ref_; subst this
      obtain ⟨vs, h1, h2⟩ := hS1.lst e1
      exact ⟨a, vs, rfl, SqL.of h1, cl_new (c.after st) hS1 h2.reverse q1⟩
    · exact q1.elim
  · exact q1.elim

/-! ### repr -/
mutual
/-- data without a list, a new dict in it perhaps -/
inductive PyD (S : Sto) : D → PyData → Prop
  | non : PyD S .non .none
  | bl (b : Bool) : PyD S (.bl b) (.bool b)
  | int (i : Int) : PyD S (.int i) (.int i)
  | str (x : Str) : PyD S (.str x) (.str x)
  | tup {xs : List D} {ps : List PyData} : PyDL S xs ps → PyD S (.tup xs) (.tuple ps)
  | dk0 {a : Addr} : S a = some (.ho (.dK [])) → PyD S (.ref a) (.dict [])
inductive PyDL (S : Sto) : List D → List PyData → Prop
  | nil : PyDL S [] []
  | cons {d : D} {ds : List D} {p : PyData} {ps : List PyData} : PyD S d p → PyDL S ds ps → PyDL S (d :: ds) (p :: ps)
end
section
variable {pins : List (Addr × Obj)} {σ : L2.St} {s : Shared}
mutual
theorem PyD.reads (I : Inv X pins σ H s) (hS : AbsS X.K S H) : ∀ (p : PyData) (d : D) (v : V) (u : Value), PyD S d p → Rp X.K H d v → RelV v u → ∃ as, Reads s.heap u p as ∧ ∀ b ∈ as, (b == sysModules) = false
  | _, _, v, u, .non, r, q => by rw [r.non_] at q; cases q; exact ⟨_, .none, fun _ z => nomatch z⟩
  | _, _, v, u, .bl b, r, q => by rw [r.bl_] at q; cases q; exact ⟨_, .bool b, fun _ z => nomatch z⟩
  | _, _, v, u, .int b, r, q => by rw [r.int_] at q; obtain ⟨t, rfl⟩ := q; exact ⟨_, .int b t, fun _ z => nomatch z⟩
  | _, _, v, u, .str b, r, q => by rw [r.str_] at q; obtain ⟨t, rfl⟩ := q; exact ⟨_, .str b t, fun _ z => nomatch z⟩
  | .tuple ps, _, v, u, .tup (xs := xs) l, r, q => by
    obtain ⟨a, vs, rfl, h1, h2⟩ := r.tup_
    cases q
    obtain ⟨its, rv, ⟨o, ho, hc, n, hd⟩, hz⟩ := I.tuple h1.sq
    obtain ⟨as, h3, h4⟩ := PyDL.reads I hS ps xs vs its l h2 rv
    exact ⟨as, .tuple ho hc hd (by simpa using h3), h4⟩
  | _, _, v, u, .dk0 (a := a) e, r, q => by
    have := r.ref_; subst this
    cases q
    obtain ⟨h, e1, _, e2⟩ := hS _ _ e
    have e2' : h = .dK [] := e2
    subst e2'
    obtain ⟨_, nm, vs, kv, o, es, ep, ho, hx, hd, _, he, _⟩ := (show ObjOk X.prog X.w H s.heap a (.dK []) from I.hok a _ e1)
    cases kv
    have es0 : es.toList = [] := by
      generalize es.toList = l at he
      cases he
      rfl
    exact ⟨_, .dict (as := []) (bs := []) ho hx.1 hd (by rw [es0]; exact .nil) (by rw [es0]; exact .nil), fun b hb => by simp at hb; subst hb; exact nm⟩
theorem PyDL.reads (I : Inv X pins σ H s) (hS : AbsS X.K S H) : ∀ (ps : List PyData) (ds : List D) (vs : List V) (us : List Value), PyDL S ds ps → RpL X.K H ds vs → Vals vs us → ∃ as, ReadsAll s.heap us ps as ∧ ∀ b ∈ as, (b == sysModules) = false
  | _, _, vs, us, .nil, r, q => by rw [r.nil_of] at q; cases q; exact ⟨_, .nil, fun _ z => nomatch z⟩
  | p :: ps, d :: ds, vs, us, .cons h t, r, q => by
    obtain ⟨v, r', rfl, h1, h2⟩ := r.cons_of
    cases q with
    | cons q1 q2 =>
      obtain ⟨as, z1, z2⟩ := PyD.reads I hS p d v _ h h1 q1
      obtain ⟨bs, y1, y2⟩ := PyDL.reads I hS ps ds r' _ t h2 q2
      exact ⟨_, .cons z1 y1, fun b hb => (List.mem_append.mp hb).elim (z2 b) (y2 b)⟩
end
end
def ShP (S : Sto) (d : D) (p : PyData) : Prop := (Py S d p ∧ p.hasDict = false) ∨ PyD S d p
def reprD : FL := fun ds S k => match ds with
  | [d] => ∃ p, ShP S d p ∧ p.showable = true ∧ p.depth ≤ 30 ∧ p.shown.length ≤ sizeLine ∧ k (.str p.shown) S
  | _ => False
def rRepr (K : PySem.W.Frag) (P : Program) (w : World) : List V → Hp → VK → Prop := fun vs H Q => ∃ v p, vs = [v] ∧ (∀ (X : Cx) (pins : List (Addr × Obj)) (σ : L2.St) (s : Shared) (u : Value), X.K = K → X.prog = P → X.w = w → Inv X pins σ H s → RelV v u → ∃ as, Reads s.heap u p as ∧ (p.hasDict = true → sysModules ∉ as)) ∧
  p.showable = true ∧ p.depth ≤ 30 ∧ p.shown.length ≤ sizeLine ∧ Q (.str p.shown) H
theorem call_repr_data (hu : X.A.units + 64 < cLine) (hg : X.A.guards = some []) : CallR X (.builtin "repr") (rRepr X.K X.prog X.w) := by
  intro pins s σ H xs us Q I r h
  obtain ⟨v, p, rfl, hr, hs, hd, hz, q⟩ := h
  obtain ⟨u, rfl, ru⟩ := vals1 r
  obtain ⟨as, rd, hm⟩ := hr X pins σ s u rfl rfl rfl I ru
  cases rd with
  | none => exact PySem.P.repr_of_none ⟨.str _, H, I.tok _, ⟨_, rfl⟩, by simpa [PyData.shown] using q⟩
  | bool b => exact PySem.P.repr_of_bool ⟨.str _, H, I.tok _, ⟨_, rfl⟩, by simpa [PyData.shown] using q⟩
  | int i t => exact PySem.P.repr_of_int (by simpa [PyData.showable] using hs) ⟨.str _, H, I.tok _, ⟨_, rfl⟩, by simpa [PyData.shown] using q⟩
  | str x t => exact PySem.P.repr_of_str ⟨.str _, H, I.tok _, ⟨_, rfl⟩, by simpa [PyData.shown] using q⟩ (by simpa [PyData.shown] using hz)
  | list h1 h2 h3 h4 =>
    exact repr_of_reads' (.list h1 h2 h3 h4) hs hm hg (by omega) (fun _ _ z => z) (fun h' u tk kp => ⟨.str _, H, I.kept (t' := tk) kp, ⟨u, rfl⟩, q⟩) hz
  | tuple h1 h2 h3 h4 =>
    exact repr_of_reads' (.tuple h1 h2 h3 h4) hs hm hg (by omega) (fun _ _ z => z) (fun h' u tk kp => ⟨.str _, H, I.kept (t' := tk) kp, ⟨u, rfl⟩, q⟩) hz
  | dict h1 h2 h3 h4 h5 =>
    exact repr_of_reads' (.dict h1 h2 h3 h4 h5) hs hm hg (by omega) (fun _ _ z => z) (fun h' u tk kp => ⟨.str _, H, I.kept (t' := tk) kp, ⟨u, rfl⟩, q⟩) hz
theorem cRepr (hu : X.A.units + 64 < cLine) (hg : X.A.guards = some []) : CallD X (.builtin "repr") reprD := by
  refine ⟨_, call_repr_data hu hg, fun ds S k vs H Q q r hS c => ?_⟩
  unfold reprD at q
  split at q
  · obtain ⟨v, rfl, r0⟩ := r.one
    obtain ⟨p, hp, hs, hd, hz, q⟩ := q
    refine ⟨v, p, rfl, fun X' pins σ s u eK eP eW I ru => ?_, hs, hd, hz, c _ _ _ _ q Stp.refl .str hS⟩
    rw [← eK] at r0 hS
    rcases hp with ⟨hp, hn⟩ | hp
    · obtain ⟨as, z⟩ := Dp.reads I p v u (hp.dp hS _ _ _ r0) ru
      exact ⟨as, z, fun e => by rw [hn] at e; cases e⟩
    · obtain ⟨as, z1, z2⟩ := hp.reads I hS p _ v u r0 ru
      exact ⟨as, z1, fun _ hm => by have := z2 _ hm; simp at this⟩
  · exact q.elim

/-! ### isinstance -/
def kindD (S : Sto) : D → Option String
  | .non => some "NoneType"
  | .bl _ => some "bool"
  | .int _ => some "int"
  | .str _ => some "str"
  | .tup _ => some "tuple"
  | .lis _ => some "list"
  | .ref a => match S a with
    | some (.lst _) => some "list"
    | some (.ho (.dK _)) => some "dict"
    | _ => none
  | .par _ => none
  | .dic _ _ => none
  | .ty _ => none
def isiD : FL := fun ds S k => match ds with
  | [x, .ty T] => ∃ t b, kindD S x = some t ∧ kitB t T = some b ∧ k (.bl b) S
  | _ => False
theorem kind_ty {x : D} {v : V} {t : String} (e : kindD S x = some t) (r : Rp K H x v) (hS : AbsS K S H) : TyX K H v (.type t) := by
  cases x with
  | non => cases e; rw [r.non_]; exact .base .non
  | bl b => cases e; rw [r.bl_]; exact .base (.bl b)
  | int b => cases e; rw [r.int_]; exact .base (.int b)
  | str b => cases e; rw [r.str_]; exact .base (.str b)
  | ty n => cases e
  | par n => cases e
  | dic _ _ => cases e
  | tup xs =>
    cases e
    obtain ⟨a, vs, rfl, h, _⟩ := r.tup_
    rcases h with ⟨o, h, _⟩ | ⟨o, its, n, h1, h2, _⟩
    · exact .fTuple h
    · exact .kTuple h1 h2
  | lis xs =>
    cases e
    obtain ⟨a, vs, rfl, h, _⟩ := r.lis_
    rcases h with ⟨o, h⟩ | ⟨o, its, n, h1, h2, _⟩
    · exact .base (.frz h)
    · exact .kList h1 h2
  | ref a =>
    rw [r.ref_]
    unfold kindD at e
    dsimp only at e
    split at e
    · rename_i xs q
      cases e
      obtain ⟨vs, h1, _⟩ := hS.lst q
      exact .base (.lst h1)
    · rename_i kvs q
      cases e
      obtain ⟨h, e1, _, e2⟩ := hS _ _ q
      have e2' : h = .dK kvs := e2
      subst e2'
      exact .base (.dK e1)
    · cases e
theorem cIsi : CallD X (.builtin "isinstance") isiD := by
  refine ⟨_, call_isi, fun ds S k vs H Q q r hS c => ?_⟩
  unfold isiD at q
  split at q
  · obtain ⟨v, v', rfl, r1, r2⟩ := r.two
    obtain ⟨t, b, e1, e2, q⟩ := q
    have := r2.ty_; subst this
    exact ⟨v, _, _, _, b, rfl, .ty _, kind_ty e1 r1 hS, kit_ty e2, c _ _ _ _ q Stp.refl .bl hS⟩
  · exact q.elim

/-! ### len(set(t)) of ints -/
def rLenSet (re : RT) : RT := fun env S k => re env S fun d S1 => ∃ ns : List Int, d = .tup (ns.map D.int) ∧ ns.length ≤ 4000 ∧ ∀ L : List Int, L.Nodup → (∀ i, i ∈ L ↔ i ∈ ns) → k (.int L.length) S1
theorem re_lenSet {p2 q pos : Pos} (hg : Gl X "len") (hm : X.mg "len" = none) (hg2 : Gl X "set") (hm2 : X.mg "set" = none) (ha : RE X a re) (hc : X.calm = true := by rfl)
    (na : starEach [a] X.env = (false, eval a X.env) :: starEach [] X.env := by rfl) : RE X (.Call (.Name "len" p) [.Call (.Name "set" p2) [a] [] q] [] pos) (rLenSet re) := by
  constructor
  rintro pins s σ H Q I ⟨env, S, k, hE, hS, hq, c⟩
  refine Call_ (ld_blt I hg hm boot_len (PyProof.Rows.callWith_builtin1 (PyProof.Rows.args_cons (Call_ (ld_blt I hg2 hm2 boot_set ?_)) rfl) rfl rfl))
  refine PyProof.Rows.callWith_type1 (PyProof.Rows.args_cons (thn (PE.run ha pins s σ H (fun v H1 => ∃ d S1, (∃ ns : List Int, d = .tup (ns.map D.int) ∧ ns.length ≤ 4000 ∧ ∀ L : List Int, L.Nodup → (∀ i, i ∈ L ↔ i ∈ ns) → k (.int L.length) S1) ∧ Stp H S H1 S1 ∧ Rp X.K H1 d v ∧ AbsS X.K S1 H1) I ⟨env, S, _, hE, hS, hq, fun d S1 v H1 q1 st r1 hS1 => ⟨d, S1, q1, st, r1, hS1⟩⟩) ?_) na) na rfl
  rintro v s1 ⟨x, H1, I1, r1, d, S1, ⟨ns, rfl, hl, q1⟩, st, rd, hS1⟩
  refine PyProof.Rows.args_nil ?_
  obtain ⟨l, vs, rfl, h1, h2⟩ := rd.tup_
  have := h2.ints; subst this
  cases r1
  obtain ⟨its, r, pl, hz⟩ := I1.tuple h1.sq
  have hdn := I1.ok.hd hc
  refine call_set_tupI ns hdn (show s1.heap.IsTuple l its.toArray from pl) (by simpa using r.ints) (by unfold scanBound; omega) fun h' tk cc R1 hcn kp => PyProof.Rows.args_nil ?_
  obtain ⟨o, es, ep, t, ho, hex, hd, g, nd, mem, hb, hf, hn, _, _⟩ := R1
  have I2 : Inv X pins σ H1 { s1 with heap := h', toks := tk } := I1.kept kp
  have el : (es.toList.map keyOf).length = cc := by rw [List.length_map, Array.length_toList, hn]
  refine call_len_set ho hex hd hf (by rw [hn]; have := hcn; omega) ⟨.int cc, H1, I2.tok _, ⟨_, by rw [hn]⟩, ?_⟩
  have fin := q1 (es.toList.map keyOf) nd fun i => by
    have := mem i
    rw [← this]
    exact decide_eq_true_iff
  rw [el] at fin
  exact c _ _ _ _ fin st .int hS1
end
end DL
/-! methods; ranges as lists and tuples; texts; new dicts; a list against the empty one -/
namespace DL
open PySem PySem.Spec PyProof.Rows L2
section
variable {X : Cx} {K : PySem.W.Frag} {H : Hp} {S : Sto} {o e a b : Expr} {es : List Expr} {ro re ra rb : RT} {rl : RTa} {p pos : Pos} {x : Str}
def tyD (S : Sto) (T : String) : D → Prop
  | .str _ => T = "str"
  | .tup _ => T = "tuple"
  | .dic _ _ => T = "dict"
  | .ref a => match S a with
    | some (.lst _) => T = "list"
    | some (.ho (.dK _)) => T = "dict"
    | _ => False
  | _ => False
theorem tyD_is {pins : List (Addr × Obj)} {σ : L2.St} {s : Shared} {T : String} {d : D} {v : V} {u : Value} (I : Inv X pins σ H s) (hS : AbsS X.K S H) (r : Rp X.K H d v) (q : RelV v u) (ty : tyD S T d) :
    s.TypeIs u T ∧ ∀ a, u = .ref a → ∃ ob, s.heap.get? a = some ob ∧ ob.dict = none := by
  cases d with
  | str x => exact tyV_is I (x := .str x) (by rw [r.str_] at q; exact q) ty
  | dic ks ds =>
    cases (show T = "dict" from ty)
    obtain ⟨a, o, us, rfl, h, _⟩ := r.dic_
    cases q
    obtain ⟨_, _, _, vs, _, d⟩ := lk_at I h
    exact ⟨d.typeIs, d.mapOf.noDict⟩
  | tup xs =>
    cases (show T = "tuple" from ty)
    obtain ⟨a, vs, rfl, h, _⟩ := r.tup_
    cases q
    obtain ⟨its, rv, pt, hz⟩ := I.tuple h.sq
    refine ⟨by obtain ⟨ob, h1, h2, _⟩ := pt; exact ⟨ob, h1, h2⟩, fun a' e => ?_⟩
    cases e
    rcases h with ⟨ob, h, hd⟩ | ⟨ob, its', n, h1, _, hd, _⟩
    · exact ⟨ob, (I.hok a _ h).1, hd⟩
    · exact ⟨ob, I.kIn a ob h1, hd⟩
  | ref a =>
    have := r.ref_; subst this
    unfold tyD at ty
    dsimp only at ty
    split at ty
    · rename_i xs e1
      obtain ⟨vs, h1, _⟩ := hS.lst e1
      exact tyV_is I (x := .ref a) q (.inl ⟨ty, vs, SqL.of h1⟩)
    · rename_i kvs e1
      obtain ⟨h, e2, _, e3⟩ := hS _ _ e1
      have e3' : h = .dK kvs := e3
      subst e3'
      exact tyV_is I (x := .ref a) q (.inr (.inr (.inl ⟨ty, .inl ⟨kvs, e2⟩⟩)))
    · exact ty.elim
  | _ => exact ty.elim
def rBm (T : String) (g : D → FL) (ro : RT) (rl : RTa) : RT := fun env S k => ro env S fun x S1 => tyD S1 T x ∧ rl env S1 fun ds S2 => g x ds S2 k
def rBm0 (T : String) (g : D → FL) (ro : RT) : RT := fun env S k => ro env S fun x S1 => tyD S1 T x ∧ g x [] S1 k
variable {T id : String} {name : Str} {apos cpos : Pos} {g : D → FL}
theorem re_bm (pa : PlainAttrs T) (slot : Slot T name id) (hty : typeOf (.builtin id) = pure (.type "method_descriptor")) (hm : MtD X id g) (ho : RE X o ro) (ha : RA X (e :: es) rl)
    (hbase : attributeBase o name X.env (eval o X.env) = eval o X.env := by rfl)
    (few : ((backTo cpos (starEach (e :: es) X.env)).all (fun x => !x.1) && (backToKw cpos (keywordEach [] X.env)).all (fun x => x.1.isSome) && decide ((e :: es).length + ([] : List Keyword).length + (if ([] : List Keyword).isEmpty then 0 else 1) < 30)) = true := by rfl)
    (hline : (apos.endLine == cpos.line) = true := by rfl) (hs : starEach (e :: es) X.env = (false, eval e X.env) :: starEach es X.env := by rfl) (hp : (backTo cpos (starEach es X.env)).any (·.1) = false := by rfl) :
    RE X (.Call (.Attribute o name apos) (e :: es) [] cpos) (rBm T g ro rl) := by
  obtain ⟨r, m1, m2⟩ := hm
  constructor
  rintro pins s σ H Q I ⟨env, S, k, hE, hS, q, c⟩
  refine wpAny_Call_method_late hbase few hline rfl (thn (PE.run ho pins s σ H (fun v H1 => ∃ d S1, (tyD S1 T d ∧ rl env S1 fun ds S2 => g d ds S2 k) ∧ Stp H S H1 S1 ∧ Rp X.K H1 d v ∧ AbsS X.K S1 H1) I ⟨env, S, _, hE, hS, q, fun d S1 v H1 q1 st r1 hS1 => ⟨d, S1, q1, st, r1, hS1⟩⟩) ?_)
  rintro v s1 ⟨xv, H1, I1, rx, d, S1, ⟨ty, q1⟩, st, rd, hS1⟩
  obtain ⟨t1, t2⟩ := tyD_is I1 hS1 rd rx ty
  refine ⟨T, id, pa, slot, hty, t1, t2, ?_⟩
  have hA := PA.run ha cpos pins s1 σ H1 (fun vs H2 => ∃ ds S2, g d ds S2 k ∧ Stp H1 S1 H2 S2 ∧ RpL X.K H2 ds vs ∧ AbsS X.K S2 H2) I1 ⟨env, S1, _, hE.mon (st.mon hS), hS1, q1, fun ds S2 vs H2 q2 st2 r2 hS2 => ⟨ds, S2, q2, st2, r2, hS2⟩⟩
  rw [hs] at hA ⊢
  refine Calls.callWith_builtin (by show (false || (backTo cpos (starEach es X.env)).any (·.1)) = false; rw [hp]; rfl) (Calls.evalArgs_plain (thn hA ?_))
  rintro us s2 ⟨vs, H2, I2, rv, ds, S2, q2, st2, r2, hS2⟩
  exact m1 pins s2 σ H2 xv vs v us Q I2 rx rv (m2 d ds S2 k xv vs H2 Q q2 (rd.mon (st2.mon hS1)) r2 hS2 ((c.after st).after st2))
theorem re_bm0 (pa : PlainAttrs T) (slot : Slot T name id) (hty : typeOf (.builtin id) = pure (.type "method_descriptor")) (hm : MtD X id g) (ho : RE X o ro)
    (hbase : attributeBase o name X.env (eval o X.env) = eval o X.env := by rfl) (hline : (apos.endLine == cpos.line) = true := by rfl) : RE X (.Call (.Attribute o name apos) [] [] cpos) (rBm0 T g ro) := by
  obtain ⟨r, m1, m2⟩ := hm
  constructor
  rintro pins s σ H Q I ⟨env, S, k, hE, hS, q, c⟩
  refine wpAny_Call_method0_late hbase hline (thn (PE.run ho pins s σ H (fun v H1 => ∃ d S1, (tyD S1 T d ∧ g d [] S1 k) ∧ Stp H S H1 S1 ∧ Rp X.K H1 d v ∧ AbsS X.K S1 H1) I ⟨env, S, _, hE, hS, q, fun d S1 v H1 q1 st r1 hS1 => ⟨d, S1, q1, st, r1, hS1⟩⟩) ?_)
  rintro v s1 ⟨xv, H1, I1, rx, d, S1, ⟨ty, q1⟩, st, rd, hS1⟩
  obtain ⟨t1, t2⟩ := tyD_is I1 hS1 rd rx ty
  exact ⟨T, id, pa, slot, hty, t1, t2, Calls.callWith_builtin rfl (PySem.evalArgs_none (m1 pins s1 σ H1 xv [] v [] Q I1 rx .nil (m2 d [] S1 k xv [] H1 Q q1 rd .nil hS1 (c.after st))))⟩

def appendD : D → FL := fun x ds S k => match x, ds with
  | .ref l, [d] => match S l with
    | some (.lst xs) => xs.length < sizeLine ∧ k .non (S.upd l (.lst (xs ++ [d])))
    | _ => False
  | _, _ => False
theorem mAppend : MtD X "list.append" appendD := by
  refine ⟨_, mt_append, fun x ds S k v vs H Q q rx rl hS c => ?_⟩
  unfold appendD at q
  split at q
  · split at q
    · rename_i l d _ xs e1
      have := rx.ref_; subst this
      obtain ⟨u, rfl, ru⟩ := rl.one
      obtain ⟨ws, h1, h2⟩ := hS.lst e1
      refine ⟨l, ws, u, rfl, rfl, h1, by rw [← h2.length]; exact q.1, c _ _ _ _ q.2 (Stp.write e1) .non (hS.write h1 True.intro True.intro ⟨_, rfl, (h2.append (.cons ru .nil)).mon (Mon.write h1 True.intro)⟩)⟩
    · exact q.elim
  · exact q.elim
def popAtD : D → FL := fun x ds S k => match x, ds with
  | .ref l, [.int i] => match S l with
    | some (.lst xs) => ∃ d, 0 ≤ i ∧ i < 2 ^ 63 ∧ xs[i.toNat]? = some d ∧ k d (S.upd l (.lst (xs.eraseIdx i.toNat)))
    | _ => False
  | _, _ => False
theorem mPopAt : MtD X "list.pop" popAtD := by
  refine ⟨_, mt_popAt, fun x ds S k v vs H Q q rx rl hS c => ?_⟩
  unfold popAtD at q
  split at q
  · split at q
    · rename_i l i _ xs e1
      have := rx.ref_; subst this
      obtain ⟨u, rfl, ru⟩ := rl.one
      have := ru.int_; subst this
      obtain ⟨ws, h1, h2⟩ := hS.lst e1
      obtain ⟨d, i0, i1, e2, q⟩ := q
      obtain ⟨y, e3, ry⟩ := h2.get e2
      have hlt := (List.getElem?_eq_some_iff.mp e3).1
      refine ⟨l, ws, i, i.toNat, y, rfl, rfl, h1, by omega, i1, ?_, e3, c _ _ _ _ q (Stp.write e1) (ry.mon (Mon.write h1 True.intro)) (hS.write h1 True.intro True.intro ⟨_, rfl, (h2.erase _).mon (Mon.write h1 True.intro)⟩)⟩
      have z := ixN_seq (n := ws.length) (i := i) (j := i.toNat) (by unfold ixN; rw [if_pos i0, if_pos (by omega)])
      exact z.1
    · exact q.elim
  · exact q.elim
/-- the place of an int in a tuple of ints -/
theorem mt_tup_indexI : MtR X "tuple.index" (fun x xs H Q => ∃ p, ∃ ys : List Int, ∃ z j, x = .ref p ∧ xs = [.int z] ∧ SqT X.K H p (ys.map V.int) ∧ ys[j]? = some z ∧ (∀ m, m < j → ys[m]? ≠ some z) ∧ Q (.int (j : Nat)) H) := by
  rintro pins s σ H x xs v us Q I rx rs ⟨p, ys, z, j, rfl, rfl, hq, hy, hno, q⟩
  cases rx
  obtain ⟨u, rfl, t, rfl⟩ := vals1 rs
  obtain ⟨its, r, pl, hz⟩ := I.tuple hq
  obtain ⟨⟨cls, dd, dt, sl⟩, ho, hc, n, hd⟩ := pl
  simp only at hc hd
  subst hc hd
  have hl : its.toArray.size = ys.length := by rw [List.size_toArray, ← r.length, List.length_map]
  have hj : j < its.toArray.size := hl ▸ (List.getElem?_eq_some_iff.mp hy).1
  have item : ∀ (m : Nat) (hm : m < its.toArray.size), ∃ y t', ys[m]? = some y ∧ its.toArray[m] = Value.int y t' := by
    intro m hm
    have hm' : m < ys.length := hl ▸ hm
    obtain ⟨w, hw, t', hw'⟩ := r.get (i := m) (x := .int ys[m]) (by simp [hm'])
    refine ⟨ys[m], t', List.getElem?_eq_getElem hm', ?_⟩
    rw [← hw', ← (List.getElem?_eq_some_iff.mp hw).2]
    simp
  refine call_meets PySem.F.slot_tuple_index ⟨_, ho, rfl⟩ PySem.F.entry_tuple_index (PySem.F.args_tuple_index_2 _ _) (TI.tuple_indexAt p its.toArray n dd sl (.int z t) (eqU (.int z)) j hj ?_ ?_) ⟨ho, ?_, ⟨.int (j : Nat), H, I.tok _, ⟨_, rfl⟩, q⟩⟩
  · obtain ⟨y, t', h1, h2⟩ := item j hj
    rw [hy] at h1
    cases h1
    rw [h2]
    exact beq_self_eq_true z
  · intro m hm hmj
    obtain ⟨y, t', h1, h2⟩ := item m hm
    rw [h2]
    exact beq_eq_false_iff_ne.mpr fun e => hno m hmj (e ▸ h1)
  · intro w hw
    exact mem_eqAt (x := .int z) ⟨t, rfl⟩ rfl r (flat_ints ys) w (by simpa using hw)
/-- t.index(z) of ints, z there -/
def indexD : D → FL := fun x ds S k => ∃ (ys : List Int) (z : Int) (j : Nat), x = .tup (ys.map D.int) ∧ ds = [.int z] ∧ ys[j]? = some z ∧ (∀ m, m < j → ys[m]? ≠ some z) ∧ k (.int (j : Nat)) S
theorem mIndex : MtD X "tuple.index" indexD := by
  refine ⟨_, mt_tup_indexI, fun x ds S k v vs H Q q rx rl hS c => ?_⟩
  obtain ⟨ys, z, j, rfl, rfl, h1, h2, q⟩ := q
  obtain ⟨u, rfl, ru⟩ := rl.one
  have := ru.int_; subst this
  obtain ⟨a, ws, rfl, h3, h4⟩ := rx.tup_
  have := h4.ints; subst this
  exact ⟨a, ys, z, j, rfl, rfl, h3.sq, h1, h2, c _ _ _ _ q Stp.refl .int hS⟩
/-- sep.join(a list of texts) -/
def joinD : D → FL := fun x ds S k => match x, ds with
  | .str a, [d] => ∃ ys : List Str, seqOf S d = some (ys.map D.str) ∧ (ys.map (·.length)).sum + ys.length * a.length ≤ 16777216 ∧ k (.str (Txt.join a ys)) S
  | _, _ => False
theorem mJoin : MtD X "str.join" joinD := by
  refine ⟨_, mt_join, fun x ds S k v vs H Q q rx rl hS c => ?_⟩
  unfold joinD at q
  split at q
  · have := rx.str_; subst this
    obtain ⟨u, rfl, ru⟩ := rl.one
    obtain ⟨ys, e1, hz, q⟩ := q
    obtain ⟨p', us, rfl, h1, h2⟩ := seq_of e1 ru hS
    have := h2.strs; subst this
    exact ⟨_, p', ys, rfl, rfl, h1, hz, c _ _ _ _ q Stp.refl .str hS⟩
  · exact q.elim
/-- str of an int -/
def strD : FL := fun ds S k => match ds with
  | [.int i] => i.natAbs.log2 < 1920 ∧ k (.str (toString i)) S
  | _ => False
theorem cStr : CallD X (.type "str") strD := by
  refine ⟨_, call_str_int, fun ds S k vs H Q q r hS c => ?_⟩
  unfold strD at q
  split at q
  · obtain ⟨v, rfl, r0⟩ := r.one
    have := r0.int_; subst this
    exact ⟨_, rfl, q.1, c _ _ _ _ q.2 Stp.refl .str hS⟩
  · exact q.elim
/-- {} -/
def rDnew : RT := fun _ S k => ∀ p, S p = none → k (.ref p) (S.upd p (.ho (.dK [])))
theorem re_dnew : RE X (.Dict [] [] pos) rDnew := PE.imp pe_dnewK fun σ H Q ⟨env, S, k, hE, hS, q, c⟩ p hp =>
  c _ _ _ _ (q p (hS.free hp)) (Stp.laid hp) .ref (hS.laid hp True.intro rfl)

/-! ### ranges -/
theorem rng_rp {K : PySem.W.Frag} {H : Hp} (n : Nat) (lo : Int) : RpL K H (rngD lo n) ((List.range n).map fun i => V.int (lo + (i : Nat))) := by
  unfold rngD
  generalize List.range n = l
  induction l with
  | nil => exact .nil
  | cons x l ih => exact .cons .int ih
/-- list(range(n)) -/
def rLrg (rl : RTa) : RT := fun env S k => rl env S fun ds S1 => match ds with
  | [.int n] => 0 ≤ n ∧ n ≤ 16777216 ∧ ∀ p, S1 p = none → k (.ref p) (S1.upd p (.lst (rngD 0 n.toNat)))
  | _ => False
/-- tuple(range(n)) -/
def rTrg (rl : RTa) : RT := fun env S k => rl env S fun ds S1 => match ds with
  | [.int n] => 0 ≤ n ∧ n ≤ 16777216 ∧ k (.tup (rngD 0 n.toNat)) S1
  | _ => False
theorem range1 {rl : RTa} {σ : L2.St} {env : DEnv} {k : Int → Sto → Prop} {Q : V → Hp → Prop} (hE : AbsE X.K H env σ) (hS : AbsS X.K S H) {re : RT} (q : rCons re rNil env S fun ds S1 => match ds with
  | [.int n] => k n S1
  | _ => False) (h : ∀ n S1 H1, k n S1 → Stp H S H1 S1 → AbsS X.K S1 H1 → Q (.int n) H1) : tR X.K re σ H Q := by
  refine ⟨env, S, _, hE, hS, q, fun d S1 v H1 q1 st r1 hS1 => ?_⟩
  dsimp only [rNil] at q1
  split at q1
  · rename_i n e1
    cases e1
    have := r1.int_; subst this
    exact h _ _ _ q1 st hS1
  · exact q1.elim
theorem re_lrg {p2 pos2 : Pos} (hc : X.calm = true) (hg : Gl X "list") (hm : X.mg "list" = none) (hg2 : Gl X "range") (hm2 : X.mg "range" = none) (ha : RE X e re) (na : starEach [e] X.env = (false, eval e X.env) :: starEach [] X.env := by rfl)
    (na2 : starEach [(.Call (.Name "range" p2) [e] [] pos2 : Expr)] X.env = (false, eval (.Call (.Name "range" p2) [e] [] pos2) X.env) :: starEach [] X.env := by rfl) :
    RE X (.Call (.Name "list" p) [.Call (.Name "range" p2) [e] [] pos2] [] pos) (rLrg (rCons re rNil)) := by
  refine PE.imp (pe_listRg hc hg hm (prg_1 hg2 hm2 ha na) na2) fun σ H Q ⟨env, S, k, hE, hS, q, c⟩ => ?_
  refine range1 (rl := rNil) hE hS q fun n S1 H1 q1 st hS1 => ⟨n, rfl, .of_le (by omega) q1.2.1 (by omega) q1.1, fun q hq => ?_⟩
  have := cl_new (c.after st) hS1 (rng_rp n.toNat 0) q1.2.2 q hq
  unfold rgV
  rw [Int.sub_zero]
  exact this
theorem pe_tupRgF {te : L2.St → Hp → (Int → Int → Hp → Prop) → Prop} {p pos : Pos} (hc : X.calm = true) (hg : Gl X "tuple") (hm : X.mg "tuple" = none) (he : PRg X e te) (na : starEach [e] X.env = (false, eval e X.env) :: starEach [] X.env := by rfl) :
    PE X (.Call (.Name "tuple" p) [e] [] pos) (fun σ H Q => te σ H fun a b H1 => RgOk a b ∧ NewT H1 Q (rgV a b)) := by
  constructor
  intro pins s σ H Q I h
  refine Call_ (ld_blt I hg hm boot_tuple (PyProof.Rows.callWith_type1 (args_cons (thn (he pins s σ H _ I h) ?_) na) na))
  rintro x s1 ⟨r, a, b, t, u, v, H1, rfl, hr, I1, ⟨b1, b2, b3, b4, b5⟩, q⟩
  refine args_nil (call_tuple_range (n := (b - a).toNat) (I1.ok.hd hc) hr (small_one b1 b2 b3 b4) (rangeSize_nat a b) b5 fun h' tk acc hk hi => ?_)
  have fin := laidT (tk := tk) (its := acc.toList) I1 hk (by rw [rgV_length, sizeLine_eq]; omega) (vals_rg hi) q
  rw [Array.toArray_toList] at fin
  exact fin
theorem re_trg {p2 pos2 : Pos} (hc : X.calm = true) (hg : Gl X "tuple") (hm : X.mg "tuple" = none) (hg2 : Gl X "range") (hm2 : X.mg "range" = none) (ha : RE X e re) (na : starEach [e] X.env = (false, eval e X.env) :: starEach [] X.env := by rfl)
    (na2 : starEach [(.Call (.Name "range" p2) [e] [] pos2 : Expr)] X.env = (false, eval (.Call (.Name "range" p2) [e] [] pos2) X.env) :: starEach [] X.env := by rfl) :
    RE X (.Call (.Name "tuple" p) [.Call (.Name "range" p2) [e] [] pos2] [] pos) (rTrg (rCons re rNil)) := by
  refine PE.imp (pe_tupRgF hc hg hm (prg_1 hg2 hm2 ha na) na2) fun σ H Q ⟨env, S, k, hE, hS, q, c⟩ => ?_
  refine range1 (rl := rNil) hE hS q fun n S1 H1 q1 st hS1 => ⟨n, rfl, .of_le (by omega) q1.2.1 (by omega) q1.1, fun q o ho hq => ?_⟩
  have := cl_newT (c.after st) hS1 (rng_rp n.toNat 0) q1.2.2 q o ho hq
  unfold rgV
  rw [Int.sub_zero]
  exact this

/-! ### a list against the empty one -/
def rNil2 (K : PySem.W.Frag) (neg : Bool) : R2 := fun x y H Q => ∃ a b xs, x = .ref a ∧ y = .ref b ∧ SqL K H a xs ∧ SqL K H b [] ∧ Q (.bl (neg ^^ xs.isEmpty)) H
theorem op_eqNil (hu : X.A.units < cLine) : OpR X (compareOp .Eq) (rNil2 X.K false) := by
  rintro pins s σ H x y v u Q I rx ry ⟨a, b, xs, rfl, rfl, h1, h2, q⟩
  cases rx
  cases ry
  obtain ⟨its, r, pl, _⟩ := I.list h1
  obtain ⟨its2, r2, pl2, _⟩ := I.list h2
  cases r2
  cases xs with
  | nil =>
    cases r
    exact SeqAt.eq_listAt (e := fun _ => true) pl.isList pl2.isList rfl hu (fun j h _ => absurd h (Nat.not_lt_zero j)) ⟨.bl _, H, I, rfl, q⟩
  | cons y ys =>
    cases r with
    | cons r0 rr => exact SeqAt.eq_list_lengthsAt pl.isList pl2.isList (by simp) hu ⟨.bl _, H, I, rfl, q⟩
theorem op_neNil (hu : X.A.units < cLine) : OpR X (compareOp .NotEq) (rNil2 X.K true) := by
  rintro pins s σ H x y v u Q I rx ry ⟨a, b, xs, rfl, rfl, h1, h2, q⟩
  cases rx
  cases ry
  obtain ⟨its, r, pl, _⟩ := I.list h1
  obtain ⟨its2, r2, pl2, _⟩ := I.list h2
  cases r2
  cases xs with
  | nil =>
    cases r
    exact SeqAt.RcNeAt.lists (e := fun _ => true) pl.isList pl2.isList rfl hu (fun j h _ => absurd h (Nat.not_lt_zero j)) _ _ _ _ ⟨.bl _, H, I, rfl, q⟩
  | cons y ys =>
    cases r with
    | cons r0 rr => exact SeqAt.RcNeAt.lists_lengths pl.isList pl2.isList (by simp) hu _ _ _ _ ⟨.bl _, H, I, rfl, q⟩
def eqNilD (neg : Bool) : F2 := fun x y S k => match x, y with
  | .ref a, .ref b => match S a, S b with
    | some (.lst xs), some (.lst []) => k (.bl (neg ^^ xs.isEmpty)) S
    | _, _ => False
  | _, _ => False
theorem eqNil_go {neg : Bool} {r2 : R2} (h : ∀ x y H Q, rNil2 X.K neg x y H Q → r2 x y H Q) {x y : D} {k : RK} {v u : V} {Q : VK} (q : eqNilD neg x y S k) (rx : Rp X.K H x v) (ry : Rp X.K H y u) (hS : AbsS X.K S H) (c : Cl X.K H S k Q) : r2 v u H Q := by
  unfold eqNilD at q
  split at q
  · split at q
    · rename_i a b _ _ xs e1 e2
      have := rx.ref_; have := ry.ref_; subst v u
      obtain ⟨vs, h1, h2⟩ := hS.lst e1
      obtain ⟨us, h3, h4⟩ := hS.lst e2
      have := h4.nil_of; subst this
      refine h _ _ _ _ ⟨a, b, vs, rfl, rfl, SqL.of h1, SqL.of h3, ?_⟩
      have e : vs.isEmpty = xs.isEmpty := by
        have hl := h2.length
        cases xs <;> cases vs <;> simp_all
      rw [e]
      exact c _ _ _ _ q Stp.refl .bl hS
    · exact q.elim
  · exact q.elim
theorem opEqNil (hu : X.A.units < cLine) : Op2 X (compareOp .Eq) (eqNilD false) := ⟨_, op_eqNil hu, fun x y S k v u H Q q rx ry hS c => eqNil_go (r2 := rNil2 X.K false) (fun _ _ _ _ z => z) q rx ry hS c⟩
theorem opNeNil (hu : X.A.units < cLine) : Op2 X (compareOp .NotEq) (eqNilD true) := ⟨_, op_neNil hu, fun x y S k v u H Q q rx ry hS c => eqNil_go (r2 := rNil2 X.K true) (fun _ _ _ _ z => z) q rx ry hS c⟩
end
end DL
namespace DL
open PySem PySem.Spec PyProof.Rows L2
section
variable {X : Cx} {tg e : Expr} {re : RT}
/-- for x in a tuple or a list, whichever comes -/
theorem ri_seq (h : RE X e re) : RI X tg e (iSeq re) := by
  constructor
  rintro pins s σ H R I ⟨env, S, k, hE, hS, q, cl⟩
  refine thn (PE.run h pins s σ H (fun v H1 => ∃ d S1, (match d with
    | .tup xs => k xs (fun _ => True) S1
    | .lis xs => k xs (fun _ => True) S1
    | .ref a => match S1 a with
      | some (.lst xs) => k xs (fun S => S a = some (.lst xs)) S1
      | _ => False
    | _ => False) ∧ Stp H S H1 S1 ∧ Rp X.K H1 d v ∧ AbsS X.K S1 H1) I ⟨env, S, _, hE, hS, q, fun d S1 v H1 q1 st r1 hS1 => ⟨d, S1, q1, st, r1, hS1⟩⟩) ?_
  rintro u s1 ⟨v, H1, I1, ru, d, S1, q1, st, rd, hS1⟩
  have fp : ∀ b ∈ [s1.heap.objs.size], FpOk X pins H1 b := fun b hb => by
    have e : b = s1.heap.objs.size := by simpa using hb
    subst e
    exact I1.fpOk (Nat.le_refl _) (I1.hok.fresh (Nat.le_refl _))
  have lists : ∀ {a : Addr} {vs : List V} {xs : List D} {G : Sto → Prop}, u = .ref a → SqL X.K H1 a vs → k xs G S1 → WalkD X.K H1 (Itl X.K a) xs G → wpAny (model X.prog X.w) X.A (pyIter u) (PIE X pins σ tg R) X.xe s1 := by
    intro a vs xs G eu hq qk w
    subst eu
    obtain ⟨its, rv, p, hz⟩ := I1.list hq
    exact wpAny_pyIter_list p.isList ⟨s1.heap.objs.size, [s1.heap.objs.size], _, _, H1, rfl, I1.kept (t' := s1.toks) fun b o e => Heap.get?_push_of_some _ e, turn_list a _, ⟨_, Heap.get?_push_size _ rfl, rfl, rfl⟩, fp, cl _ _ _ _ _ qk st hS1 w⟩
  split at q1
  · obtain ⟨a, vs, rfl, h1, h2⟩ := rd.tup_
    cases ru
    obtain ⟨its, rv, p, hz⟩ := I1.tuple h1.sq
    exact wpAny_pyIter_tuple (show s1.heap.IsTuple a its.toArray from p) ⟨s1.heap.objs.size, [s1.heap.objs.size], _, _, H1, rfl, I1.kept (t' := s1.toks) fun b o e => Heap.get?_push_of_some _ e, turn_tuple a _, ⟨_, Heap.get?_push_size _ rfl, rfl, rfl⟩, fp, cl _ _ _ _ _ q1 st hS1 (walkD_tup h1.sq h2)⟩
  · obtain ⟨a, vs, rfl, h1, h2⟩ := rd.lis_
    exact lists ru h1.sq q1 (walkD_lis h1 h2)
  · split at q1
    · rename_i a _ xs e1
      have := rd.ref_; subst this
      obtain ⟨vs, h1, h2⟩ := hS1.lst e1
      exact lists ru (SqL.of h1) q1 (walkD_lst h1 h2)
    · exact q1.elim
  · exact q1.elim
end
theorem RoomG.u64 {k : Nat} {A : Around} (h : RoomG k A) : A.units + 64 < cLine := h.r.units
theorem RoomG.u65 {k : Nat} {A : Around} (h : RoomG k A) : A.units + 65 < cLine := by have := h.r.un; omega
theorem RoomG.u0 {k : Nat} {A : Around} (h : RoomG k A) : A.units < cLine := by have := h.r.un; omega
end DL
/-! the end: from the law's contract to the row -/
namespace DL
open PySem PySem.Spec PyProof.Rows L2
section
variable {P : Program} {w : World} {K : PySem.W.Frag} {mg mb : Str → Option Value} {H : Hp} {s : Shared} {a : Addr} {vs : List Value} {ns : List Int}
/-- where nothing is tracked but the script -/
theorem env0G (KX : K.In s.heap) (hns : s.heap.Ns mainGlobals mg) (hb : s.heap.Ns builtinsNs mb) (hbb : ∀ x : Str, x ≠ "__name__" → mb x = bootBuiltins x) (hlim : s.heap.NoLimit) (hg : s.gens = #[])
    (ha : s.heap.get? a = some { cls := .type "list", data := .seq vs.toArray }) (only : ∀ b, H b ≠ none → b = a) (own : H a ≠ none → K.lookup a = none) (hok : HOk P w H s.heap) :
    K.In (hidT s.heap H) ∧ (hidT s.heap H).Ns mainGlobals mg ∧ Env0 P w K mg (hidT s.heap H) callerA [] s H := by
  have free : ∀ {b : Addr} {o : Obj}, s.heap.get? b = some o → (b = a → False) → (hidT s.heap H).get? b = some o := fun {b o} e ne => hidT_get e (Classical.byContradiction fun z => ne (only b z))
  have spaces : ∀ {b : Addr} {m : Str → Option Value}, s.heap.Ns b m → (hidT s.heap H).Ns b m := by
    rintro b m ⟨o, es, ep, e, d, r⟩
    refine ⟨o, es, ep, free e fun z => ?_, d, r⟩
    subst z
    rw [ha] at e
    cases e
    cases d
  have kin : K.In (hidT s.heap H) := fun b o e => hidT_get (KX b o e) (Classical.byContradiction fun z => by
    have eb := only b z
    subst eb
    rw [own z] at e
    cases e)
  obtain ⟨mc, l1, l2⟩ := hlim
  exact ⟨kin, spaces hns, rfl, ⟨kin, spaces hns, ⟨mb, spaces hb, hbb⟩, ⟨mc, spaces l1, l2⟩⟩, fun b o e => of_hidT e, Nat.le_of_eq (hidT_size _ _), trivial, fun b hb => absurd (show b ∈ ([] : List Addr) from hb) (by simp), hok, .of_eq hg⟩
theorem codeG {k : Nat} {fa : Addr} {fd : FuncData} {x : Str} {C : Cn} (KX : K.In s.heap) (hns : s.heap.Ns mainGlobals mg) (hb : s.heap.Ns builtinsNs mb) (hbb : ∀ x : Str, x ≠ "__name__" → mb x = bootBuiltins x) (hlim : s.heap.NoLimit) (hg : s.gens = #[])
    (ha : s.heap.get? a = some { cls := .type "list", data := .seq vs.toArray }) (hi : IntsAre vs ns) (hl : ns.length ≤ sizeLine) (hr : Room k callerA)
    (F : ∀ base : Heap, K.In base → base.Ns mainGlobals mg → FnG P w K mg base CX0 k fa fd [x] (spD K 1 C)) (hbind : ∀ (s : Shared) (u : Value), BindsTo s fd ⟨[u], []⟩ [(x, u)])
    (hC : C [.lis (ns.map D.int)] (fun _ => none) (fun d _ => d = .bl true) noX) :
    codeAny (model P w) callerA (.call (.ref fa) ⟨[.ref a], []⟩) (fun r s' => r = .ok (.ret (.bool true)) ∧ OldK s.heap s'.heap ∧ s'.os = s.os ∧ AllBare s'.gens) s := by
  have go : ∀ H : Hp, FzL K H a (ns.map V.int) → (∀ b, H b ≠ none → b = a ∧ ∃ o xs, H b = some (.frz o (.lst xs))) → (H a ≠ none → K.lookup a = none) → HOk P w H s.heap →
      codeAny (model P w) callerA (.call (.ref fa) ⟨[.ref a], []⟩) (fun r s' => r = .ok (.ret (.bool true)) ∧ OldK s.heap s'.heap ∧ s'.os = s.os ∧ AllBare s'.gens) s := by
    intro H fz only own hok
    obtain ⟨k1, k2, e0⟩ := env0G KX hns hb hbb hlim hg ha (fun b z => (only b z).1) own hok
    have want : spD K 1 C [.ref a] H (fun v _ => v = .bl true) fun _ _ _ => False :=
      ⟨[.lis (ns.map D.int)], fun _ => none, fun d _ => d = .bl true, noX, rfl, .cons (.lis fz RpL.of_ints) .nil, (fun _ _ z => nomatch z), hC, fun d S' v H' e _ r _ => by subst e; exact r.bl_, fun _ _ _ z => z.elim⟩
    refine codeAny_mono ((F _ k1 k2).go callerA [] s H ⟨[.ref a], []⟩ [.ref a] [.ref a] _ _ hr rfl e0 (hbind s (.ref a)) (.cons rfl .nil) want) ?_
    intro r s' z
    match r, z with
    | .error _, z => exact z.elim
    | .ok .next, z => exact z.elim
    | .ok .brk, z => exact z.elim
    | .ok .cont, z => exact z.elim
    | .ok (.ret u), ⟨v, H', os, bare, un, hok', ru, q⟩ =>
      have q' : v = .bl true := q
      subst q'
      have ru' : u = Value.bool true := ru
      subst ru'
      refine ⟨rfl, OldK.of_keep fun b o e => ?_, os, bare⟩
      cases qb : H b with
      | none => exact un.keep b o e qb (fun z => absurd (show b ∈ ([] : List Addr) from z) (by simp)) (by simp)
      | some u =>
        obtain ⟨_, ob, xs, z⟩ := only b (by rw [qb]; exact fun z => nomatch z)
        have e1 := (hok b _ z).1
        have e2 := (hok' b _ (un.frzs b ob _ z)).1
        rw [e] at e1
        cases e1
        exact e2
  have rv : Vals (ns.map V.int) vs := vals_of_ints hi
  cases hk : K.lookup a with
  | some o =>
    have e := KX a o hk
    rw [ha] at e
    cases e
    exact go (fun _ => none) (.inr ⟨_, vs.toArray, _, hk, rfl, rfl, rfl, by rw [List.size_toArray, hi.length]; exact hl, by simpa using rv⟩) (fun b z => absurd rfl z) (fun z => absurd rfl z) fun b u z => nomatch z
  | none =>
    have at_ : ∀ b, (if b = a then some (HO.frz { cls := .type "list", data := .seq vs.toArray } (.lst (ns.map V.int))) else none) ≠ none → b = a := fun b z => Classical.byContradiction fun ne => z (if_neg ne)
    refine go (fun b => if b = a then some (.frz { cls := .type "list", data := .seq vs.toArray } (.lst (ns.map V.int))) else none) (.inl ⟨_, if_pos rfl⟩) (fun b z => ⟨at_ b z, ?_⟩) (fun _ => hk) fun b u z => ?_
    · have eb := at_ b z
      subst eb
      exact ⟨_, _, if_pos rfl⟩
    · have eb := at_ b (fun q => nomatch (show some u = none from z.symm.trans q))
      subst eb
      have z' := (if_pos rfl).symm.trans z
      cases z'
      exact ⟨ha, by rw [List.length_map]; exact hl, vs, _, rv, ha⟩
theorem walkG {l : PySem.W.OpenLaw} {n k : Nat} {q : Program} {loose : List Str} {XP : (Str → Option Value) → Heap → Prop} {YP : World → Heap → Prop} {d : DefRec} {Kf : Params → PySem.W.Frag} {x : Str} {C : Cn}
    (hn : l.most = some n) (hn2 : n ≤ sizeLine) (hdf : d.params.defaults = []) (hr : Room k callerA) (hY : ∀ (w : World) (h : Heap), YP w h → (Kf w.params).In h)
    (F : ∀ (w : World) (mg : Str → Option Value) (fa : Addr) (h : Heap), (Kf w.params).In h → h.Ns mainGlobals mg → mg d.name = some (.ref fa) →
      ∃ fd : FuncData, (∀ (s : Shared) (u : Value), BindsTo s fd ⟨[u], []⟩ [(x, u)]) ∧ ∀ base : Heap, (Kf w.params).In base → base.Ns mainGlobals mg → FnG l.prog w (Kf w.params) mg base CX0 k fa fd [x] (spD (Kf w.params) 1 C))
    (hC : ∀ ns : List Int, ns.length ≤ n → C [.lis (ns.map D.int)] (fun _ => none) (fun d _ => d = .bl true) noX) : PySem.W.WalkO q loose XP YP l.row.toRowW d [] (fun f vs => PySem.call f vs) := by
  refine Att.attach_call hn hdf ?_
  intro w s₀ s₁ mg mb fa o pm cd doc a vs ns G Y ho hd hcd hmg hobj hints hlen hgn
  obtain ⟨fd, hb, hF⟩ := F w mg fa _ (hY w _ Y) G.T.g hmg
  exact codeG (hY w _ Y) G.T.g G.T.b G.T.builtins G.T.nolimit hgn hobj hints (Nat.le_trans hlen hn2) hr hF hb (hC ns hlen)
/-- from the def's contract -/
theorem fn_of_callee {base : Heap} {k : Nat} {x : Str} {C : Cn} {fa : Addr} (h : Callee P w K mg base CX0 k x 1 C) (hm : mg x = some (.ref fa)) : ∃ fd ps, ps.length = 1 ∧ FnG P w K mg base CX0 k fa fd ps (spD K 1 C) := by
  obtain ⟨f, fd, ps, h1, h2, h3, _⟩ := h
  rw [hm] at h3
  cases h3
  exact ⟨fd, ps, h1, h2⟩
end
end DL
namespace DL
open PySem PySem.Spec PyProof.Rows L2
/-! ### what the combinators say, step by step -/
theorem nd_le : ∀ {L M : List Int}, L.Nodup → (∀ x ∈ L, x ∈ M) → L.length ≤ M.length
  | [], M, _, _ => Nat.zero_le _
  | x :: L, M, h, g => by
    have hx := g x (List.mem_cons_self ..)
    have h' := List.nodup_cons.mp h
    have := nd_le (L := L) (M := M.erase x) h'.2 fun y hy => (List.mem_erase_of_ne (fun e => by rw [e] at hy; exact h'.1 hy)).mpr (g y (List.mem_cons_of_mem _ hy))
    rw [List.length_erase_of_mem hx] at this
    have := List.length_pos_of_mem hx
    rw [List.length_cons]; omega
theorem nd_of_len : ∀ {M L : List Int}, L.Nodup → (∀ x ∈ L, x ∈ M) → M.length ≤ L.length → (∀ x ∈ M, x ∈ L) → M.Nodup
  | [], _, _, _, _, _ => List.nodup_nil
  | x :: M, L, h, g, l, g' => by
    have hx : x ∉ M := fun z => by
      have := nd_le (M := M) h fun y hy => by
        rcases List.mem_cons.mp (g y hy) with e | q
        · rw [e]; exact z
        · exact q
      rw [List.length_cons] at l; omega
    refine List.nodup_cons.mpr ⟨hx, nd_of_len (L := L.erase x) (h.erase x) (fun y hy => ?_) ?_ fun y hy => ?_⟩
    · have z := (h.mem_erase_iff).mp hy
      rcases List.mem_cons.mp (g y z.2) with e | q
      · exact absurd e z.1
      · exact q
    · rw [List.length_erase_of_mem (g' x (List.mem_cons_self ..))]
      rw [List.length_cons] at l; omega
    · exact (h.mem_erase_iff).mpr ⟨fun e => hx (e ▸ hy), g' y (List.mem_cons_of_mem _ hy)⟩
theorem ixN_of {n j : Nat} (hj : j < n) : ixN n (j : Int) = some j := by
  unfold ixN
  rw [if_pos (by omega), if_pos (by omega), Int.toNat_natCast]
theorem rVar_at {i : Nat} {env : DEnv} {S : Sto} {k : RK} {d : D} (h : env[i]? = some (some d)) (q : k d S) : rVar i env S k := by
  unfold rVar; rw [h]; exact q
theorem ixD_at {x : D} {i : Int} {S : Sto} {k : RK} {xs : List D} {d : D} (h : seqOf S x = some xs) (e : atI xs i = some d) (q : k d S) : ixD x (.int i) S k := ⟨xs, d, h, e, q⟩
theorem inD_int {neg : Bool} {i : Int} {y : D} {S : Sto} {k : RK} {ns : List Int} (h : seqOf S y = some (ns.map D.int)) (q : k (.bl (neg ^^ decide (i ∈ ns))) S) : inD neg (.int i) y S k := .inl ⟨i, ns, rfl, h, q⟩
theorem seq_tup {S : Sto} {xs : List D} : seqOf S (.tup xs) = some xs := rfl
theorem seq_ref {S : Sto} {a : Addr} {xs : List D} (h : S a = some (.lst xs)) : seqOf S (.ref a) = some xs := by unfold seqOf; simp only [h]
theorem seq_lis {S : Sto} {xs : List D} : seqOf S (.lis xs) = some xs := rfl
theorem cut_to {xs : List D} {n : Nat} : cutD xs none (some (n : Int)) = xs.take n := by
  unfold cutD
  rw [HT.sIx_none, HT.sIx_nat, List.drop_zero, Nat.sub_zero]
  by_cases h : n ≤ xs.length
  · rw [Nat.min_eq_left h]
  · rw [Nat.min_eq_right (by omega), List.take_length, List.take_of_length_le (by omega)]
theorem cut_from {xs : List D} {n : Nat} : cutD xs (some (n : Int)) none = xs.drop n := by
  unfold cutD
  rw [HT.sIx_none, HT.sIx_nat]
  by_cases h : n ≤ xs.length
  · rw [Nat.min_eq_left h, List.take_of_length_le (by rw [List.length_drop]; omega)]
  · rw [Nat.min_eq_right (by omega), Nat.sub_self, List.take_zero, List.drop_eq_nil_of_le (by omega)]
theorem cut_toI {xs : List D} {i : Int} (h : 0 ≤ i) : cutD xs none (some i) = xs.take i.toNat := by
  obtain ⟨n, rfl⟩ := Int.eq_ofNat_of_zero_le h
  exact cut_to
theorem cut_fromI {xs : List D} {i : Int} (h : 0 ≤ i) : cutD xs (some i) none = xs.drop i.toNat := by
  obtain ⟨n, rfl⟩ := Int.eq_ofNat_of_zero_le h
  exact cut_from
theorem setL_at {l : Addr} {i : Nat} {d : D} {S : Sto} {k : Sto → Prop} {xs : List D} (h : S l = some (.lst xs)) (hi : i < xs.length) (q : k (S.upd l (.lst (xs.set i d)))) : setL (.ref l) (.int (i : Nat)) d S k := by
  unfold setL
  simp only [h]
  exact ⟨i, ixN_of hi, q⟩
theorem sl_ref {a : Addr} {lo hi : Option Int} {S : Sto} {k : RK} {xs : List D} (h : S a = some (.lst xs)) (q : ∀ p, S p = none → k (.ref p) (S.upd p (.lst (cutD xs lo hi)))) : slD (.ref a) lo hi S k := by
  unfold slD; simp only [h]; exact q
theorem add_ref {a b : Addr} {S : Sto} {k : RK} {xs ys : List D} (h : S a = some (.lst xs)) (g : S b = some (.lst ys)) (l : xs.length + ys.length ≤ sizeLine) (q : ∀ p, S p = none → k (.ref p) (S.upd p (.lst (xs ++ ys)))) : addD (.ref a) (.ref b) S k := by
  unfold addD; simp only [h, g]; exact ⟨l, q⟩
theorem len_at {d : D} {S : Sto} {k : RK} {xs : List D} (h : seqOf S d = some xs) (q : k (.int (xs.length : Nat)) S) : lenD [d] S k := by
  cases d with
  | str x => simp [seqOf] at h
  | _ => exact ⟨xs, h, q⟩
theorem iSeq_ref {re : RT} {env : DEnv} {S : Sto} {k : List D → (Sto → Prop) → Sto → Prop} {a : Addr} {xs : List D} (e : ∀ K : RK, K (.ref a) S → re env S K) (h : S a = some (.lst xs)) (q : k xs (fun S => S a = some (.lst xs)) S) : iSeq re env S k := by
  unfold iSeq
  refine e _ ?_
  simp only [h]
  exact q

/-! ### cars -/
def isW : D → Bool
  | .int _ => true
  | _ => false
def isCar : D → Bool
  | .int i => decide (0 ≤ i) && decide (i < 60)
  | _ => false
def carsIn : D → Bool
  | .tup xs => xs.all isCar
  | _ => false
def intsOf : List D → List Int
  | [] => []
  | .int i :: r => i :: intsOf r
  | _ :: r => intsOf r
theorem intsOf_map (ns : List Int) : intsOf (ns.map D.int) = ns := by
  induction ns with
  | nil => rfl
  | cons n ns ih => rw [List.map_cons, intsOf, ih]
theorem map_intsOf : ∀ xs : List D, xs.all isCar = true → xs = (intsOf xs).map D.int
  | [], _ => rfl
  | x :: xs, h => by
    rw [List.all_cons, Bool.and_eq_true] at h
    cases x with
    | int i => rw [intsOf, List.map_cons, ← map_intsOf xs h.2]
    | _ => simp [isCar] at h
def Car (i : Int) : Prop := 0 ≤ i ∧ i < 60
theorem isCar_int {i : Int} : isCar (.int i) = true ↔ Car i := by simp [isCar, Car]
theorem all_isCar {ns : List Int} : (ns.map D.int).all isCar = true ↔ ∀ n ∈ ns, Car n := by
  simp [List.all_map, isCar, Car]
def isLaneD : D → Bool
  | .tup xs => xs.all isCar && decide ((intsOf xs).Nodup)
  | _ => false
def areCallsD : D → Bool
  | .tup xs => xs.all isCar && (decide (1 ≤ xs.length) && decide (xs.length ≤ 200))
  | _ => false
/-- a value whose kind is known, and its items' -/
def Kn (S : Sto) (x : D) : Prop := (kindD S x).isSome = true ∧ ∀ xs, x = .tup xs → xs.length ≤ 4000 ∧ ∀ y ∈ xs, (kindD S y).isSome = true
def stepN (ns : List Int) (c : Int) : List Int := if c ∈ ns then ns.takeWhile (fun n => !decide (n = c)) else ns ++ [c]
def leftN (ns : List Int) (c : Int) : List Int := ns.dropWhile fun n => !decide (n = c)
theorem find_first {ns : List Int} {c : Int} (h : c ∈ ns) : ∃ j, ns[j]? = some c ∧ (∀ m, m < j → ns[m]? ≠ some c) ∧ ns.takeWhile (fun n => !decide (n = c)) = ns.take j ∧ leftN ns c = ns.drop j := by
  induction ns with
  | nil => cases h
  | cons n ns ih =>
    by_cases e : n = c
    · subst e
      exact ⟨0, rfl, fun m hm => absurd hm (Nat.not_lt_zero m), by simp, by simp [leftN]⟩
    · obtain ⟨j, h1, h2, h3, h4⟩ := ih (by rcases List.mem_cons.mp h with q | q; exact absurd q.symm e; exact q)
      refine ⟨j + 1, by simpa using h1, ?_, ?_, ?_⟩
      · intro m hm
        cases m with
        | zero => simpa using e
        | succ m => simpa using h2 m (by omega)
      · simp [e, h3]
      · simpa [leftN, e] using h4
theorem step_in {ns : List Int} {c : Int} (h : c ∈ ns) : stepN ns c = ns.takeWhile (fun n => !decide (n = c)) := if_pos h
theorem step_out {ns : List Int} {c : Int} (h : c ∉ ns) : stepN ns c = ns ++ [c] := if_neg h
theorem left_out {ns : List Int} {c : Int} (h : c ∉ ns) : leftN ns c = [] := by
  unfold leftN
  induction ns with
  | nil => rfl
  | cons n ns ih =>
    rw [List.dropWhile_cons, if_pos (by simp; intro e; exact h (e ▸ List.mem_cons_self ..))]
    exact ih fun q => h (List.mem_cons_of_mem _ q)

/-! ### contracts of the program -/
def c_is_whole : Cn := fun ds S k _ => ∃ x, ds = [x] ∧ (kindD S x).isSome = true ∧ k (.bl (isW x)) S
def c_is_car : Cn := fun ds S k _ => ∃ x, ds = [x] ∧ (kindD S x).isSome = true ∧ k (.bl (isCar x)) S
def c_are_cars : Cn := fun ds S k _ => ∃ x, ds = [x] ∧ Kn S x ∧ k (.bl (carsIn x)) S
def c_is_lane : Cn := fun ds S k _ => ∃ x, ds = [x] ∧ Kn S x ∧ k (.bl (isLaneD x)) S
def c_are_calls : Cn := fun ds S k _ => ∃ x, ds = [x] ∧ Kn S x ∧ k (.bl (areCallsD x)) S
/-- a lane, by its cars -/
structure LaneN (ns : List Int) : Prop where
  cars : ∀ n ∈ ns, Car n
  nodup : ns.Nodup
structure CallsN (ns : List Int) : Prop where
  cars : ∀ n ∈ ns, Car n
  pos : 1 ≤ ns.length
  most : ns.length ≤ 200
abbrev tupI (ns : List Int) : D := .tup (ns.map D.int)
def c_check_lane : Cn := fun ds S k _ => ∃ ns, ds = [tupI ns] ∧ LaneN ns ∧ k .non S
def c_check_calls : Cn := fun ds S k _ => ∃ ns, ds = [tupI ns] ∧ CallsN ns ∧ k .non S
def c_check_car : Cn := fun ds S k _ => ∃ n, ds = [.int n] ∧ Car n ∧ k .non S
def c_step : Cn := fun ds S k _ => ∃ ns c, ds = [tupI ns, .int c] ∧ ns.length ≤ 100 ∧ k (tupI (stepN ns c)) S
def c_called : Cn := fun ds S k _ => ∃ ns c, ds = [tupI ns, .int c] ∧ LaneN ns ∧ Car c ∧ k (tupI (stepN ns c)) S
def c_leaving : Cn := fun ds S k _ => ∃ ns c, ds = [tupI ns, .int c] ∧ LaneN ns ∧ Car c ∧ k (tupI (leftN ns c)) S
/-- different cars are at most sixty -/
theorem cars60 {ns : List Int} (h : LaneN ns) : ns.length ≤ 60 := by
  have := nd_le (M := (List.range 60).map fun i : Nat => (i : Int)) h.nodup fun x hx => by
    have c := h.cars x hx
    unfold Car at c
    exact List.mem_map.mpr ⟨x.toNat, List.mem_range.mpr (by omega), by omega⟩
  rw [List.length_map, List.length_range] at this
  exact this
theorem lane_step {ns : List Int} {c : Int} (h : LaneN ns) (hc : Car c) : LaneN (stepN ns c) := by
  by_cases m : c ∈ ns
  · rw [step_in m]
    obtain ⟨j, _, _, e, _⟩ := find_first m
    rw [e]
    exact ⟨fun n hn => h.cars n (List.mem_of_mem_take hn), h.nodup.sublist (List.take_sublist ..)⟩
  · rw [step_out m]
    refine ⟨fun n hn => ?_, ?_⟩
    · rcases List.mem_append.mp hn with q | q
      · exact h.cars n q
      · rw [List.mem_singleton.mp q]; exact hc
    · rw [List.nodup_append]
      refine ⟨h.nodup, List.nodup_cons.mpr ⟨List.not_mem_nil, List.nodup_nil⟩, fun a ha b hb e => ?_⟩
      rw [List.mem_singleton.mp hb] at e
      subst e; exact m ha
theorem kn_ints {S : Sto} {ns : List Int} (h : ns.length ≤ 4000) : Kn S (tupI ns) := by
  refine ⟨rfl, fun xs e => ?_⟩
  cases e
  refine ⟨by rw [List.length_map]; exact h, fun y hy => ?_⟩
  obtain ⟨i, _, rfl⟩ := List.mem_map.mp hy
  rfl
theorem lane_is {ns : List Int} (h : LaneN ns) : isLaneD (tupI ns) = true := by
  unfold isLaneD tupI
  simp only [intsOf_map, Bool.and_eq_true, decide_eq_true_eq]
  exact ⟨all_isCar.mpr h.cars, h.nodup⟩
theorem calls_are {ns : List Int} (h : CallsN ns) : areCallsD (tupI ns) = true := by
  unfold areCallsD tupI
  simp only [List.length_map, Bool.and_eq_true, decide_eq_true_eq]
  exact ⟨all_isCar.mpr h.cars, h.pos, h.most⟩
/-- a list without doubles that holds the same -/
theorem nodup_len {L ns : List Int} (hL : L.Nodup) (h : ∀ i, i ∈ L ↔ i ∈ ns) : decide ((L.length : Int) = (ns.length : Int)) = decide ns.Nodup := by
  rw [decide_eq_decide]
  constructor
  · intro e
    exact nd_of_len hL (fun x hx => (h x).mp hx) (by omega) fun x hx => (h x).mpr hx
  · intro d
    have := nd_le hL fun x hx => (h x).mp hx
    have := nd_le d fun x hx => (h x).mpr hx
    omega
end DL
namespace DL
open PySem PySem.Spec PyProof.Rows L2
/-! ### contracts of the drawing -/
def BagV (b : List D) : Prop := ∃ u c t : Int, 0 ≤ u ∧ b = [.int u, .int c, .int t]
def c_law_bag : Cn := fun ds S k _ => ∃ c : Int, ds = [.int c] ∧ ∀ b p, BagV b → S p = none → k (.ref p) (S.upd p (.lst b))
def c_law_pick : Cn := fun ds S k _ => ∃ a m b, ds = [.ref a, .int m] ∧ 0 < m ∧ m.natAbs.log2 < 9000 ∧ S a = some (.lst b) ∧ BagV b ∧ ∀ told b', 0 ≤ told → told < m → BagV b' → k (.int told) (S.upd a (.lst b'))
def c_law_cars : Cn := fun ds S k _ => ∃ a m b, ds = [.ref a, .int m] ∧ 0 < m ∧ m ≤ 60 ∧ S a = some (.lst b) ∧ BagV b ∧
  ∀ b' ns p, BagV b' → (ns.length : Int) = m → LaneN ns → S p = none → k (.ref p) ((S.upd a (.lst b')).upd p (.lst (ns.map D.int)))
def c_law_calls : Cn := fun ds S k _ => ∃ a c m b ns, ds = [.ref a, .ref c, .int m] ∧ 0 < m ∧ m ≤ 200 ∧ S a = some (.lst b) ∧ BagV b ∧ a ≠ c ∧ S c = some (.lst (ns.map D.int)) ∧ ns ≠ [] ∧ ns.length ≤ 60 ∧
  ∀ b' cs, BagV b' → 1 ≤ cs.length → (cs.length : Int) ≤ m → (∀ x ∈ cs, x ∈ ns) → k (tupI cs) (S.upd a (.lst b'))
def c_law_lane : Cn := fun ds S k _ => ∃ a c b ns cs, ds = [.ref a, .ref c, tupI cs] ∧ S a = some (.lst b) ∧ BagV b ∧ a ≠ c ∧ S c = some (.lst (ns.map D.int)) ∧ LaneN ns ∧ CallsN cs ∧
  ∀ b' ls, BagV b' → LaneN ls → k (tupI ls) (S.upd a (.lst b'))
def c_law_case : Cn := fun ds S k _ => ∃ a m l b, ds = [.ref a, .int m, .int l] ∧ 0 < m ∧ m ≤ 60 ∧ 0 < l ∧ l ≤ 200 ∧ S a = some (.lst b) ∧ BagV b ∧
  ∀ b' ls cs, BagV b' → LaneN ls → CallsN cs → (cs.length : Int) ≤ l → k (.tup [tupI ls, tupI cs]) (S.upd a (.lst b'))
def c_law_call : Cn := fun ds S k _ => ∃ ns c, ds = [tupI ns, .int c] ∧ ns.length ≤ 100 ∧ k (.tup [tupI (stepN ns c), tupI (leftN ns c)]) S
end DL
namespace DL
open PySem PySem.Spec PyProof.Rows L2
theorem setL_lit {l : Addr} {n : Int} {j : Nat} {d : D} {S : Sto} {k : Sto → Prop} {xs : List D} (h : S l = some (.lst xs)) (hi : ixN xs.length n = some j) (q : k (S.upd l (.lst (xs.set j d)))) : setL (.ref l) (.int n) d S k := by
  unfold setL
  simp only [h]
  exact ⟨j, hi, q⟩
theorem mul_int {i j : Int} {S : Sto} {k : RK} (h : -(2 ^ 64) < j ∧ j < 2 ^ 64) (q : k (.int (i * j)) S) : mulD (.int i) (.int j) S k := ⟨.inr h, q⟩
theorem add_int {i j : Int} {S : Sto} {k : RK} (q : k (.int (i + j)) S) : addD (.int i) (.int j) S k := q
theorem add_tup {a b : List D} {S : Sto} {k : RK} (h : a.length + b.length ≤ sizeLine) (q : k (.tup (a ++ b)) S) : addD (.tup a) (.tup b) S k := ⟨h, q⟩
end DL
namespace DL
open PySem PySem.Spec PyProof.Rows L2
def isB : D → Bool
  | .bl _ => true
  | _ => false
theorem isi_int {S : Sto} {x : D} {k : RK} (h : (kindD S x).isSome = true) (q : k (.bl (isW x || isB x)) S) : isiD [x, .ty "int"] S k := by
  obtain ⟨t, ht⟩ := Option.isSome_iff_exists.mp h
  refine ⟨t, isW x || isB x, ht, ?_, q⟩
  unfold kindD at ht
  split at ht <;> first | (cases ht; done) | (cases ht; rfl) | skip
  · split at ht <;> first | (cases ht; done) | (cases ht; rfl)
theorem isi_bool {S : Sto} {x : D} {k : RK} (h : (kindD S x).isSome = true) (q : k (.bl (isB x)) S) : isiD [x, .ty "bool"] S k := by
  obtain ⟨t, ht⟩ := Option.isSome_iff_exists.mp h
  refine ⟨t, isB x, ht, ?_, q⟩
  unfold kindD at ht
  split at ht <;> first | (cases ht; done) | (cases ht; rfl) | skip
  · split at ht <;> first | (cases ht; done) | (cases ht; rfl)
theorem isi_tup {S : Sto} {x : D} {k : RK} (h : (kindD S x).isSome = true) (q : k (.bl (isTup x)) S) : isiD [x, .ty "tuple"] S k := by
  obtain ⟨t, ht⟩ := Option.isSome_iff_exists.mp h
  refine ⟨t, isTup x, ht, ?_, q⟩
  unfold kindD at ht
  split at ht <;> first | (cases ht; done) | (cases ht; rfl) | skip
  · split at ht <;> first | (cases ht; done) | (cases ht; rfl)
theorem max0 {j : Int} {S : Sto} {k : RK} (q : ∀ u : Int, 0 ≤ u → k (.int u) S) : maxD [.int 0, .int j] S k := by
  unfold maxD
  refine q _ ?_
  split <;> omega
end DL
namespace DL
open PySem PySem.Spec PyProof.Rows L2
/-- a comprehension that changes nothing -/
theorem comp_fm {ri : RTi} {g : RTg} {tt : RTt} {re : RT} {vs : List Nat} {env : DEnv} {S : Sto} {k : RK} {xs : List D} {G : Sto → Prop} (P : D → Bool) (f : D → D)
    (hri : ∀ K : List D → (Sto → Prop) → Sto → Prop, K xs G S → ri env S K) (hG : G S) (hl : xs.length ≤ sizeLine)
    (step : ∀ x ∈ xs, ∀ (kt : RK) (kf : Sto → Prop), (P x = true → kt (f x) S) → (P x = false → kf S) → g x (wipeE env vs) S fun env2 S2 => tt env2 S2 fun b S3 => if b = true then re env2 S3 kt else kf S3)
    (q : ∀ p, S p = none → k (.ref p) (S.upd p (.lst ((xs.filter P).map f)))) : rComp ri g tt re vs env S k := by
  refine hri _ ⟨fun i acc S' => S' = S ∧ acc = ((xs.take i).filter P).map f, ⟨rfl, rfl⟩, ?_, ?_, ?_⟩
  · rintro i acc S' _ ⟨rfl, _⟩
    exact hG
  · rintro i x acc S' hx ⟨rfl, rfl⟩
    have hi := (List.getElem?_eq_some_iff.mp hx).1
    have ht : xs.take (i + 1) = xs.take i ++ [x] := by
      rw [List.take_add_one, hx]; rfl
    refine step x (List.mem_of_getElem? hx) _ _ (fun e => ⟨?_, S', Sub.refl _, rfl, ?_⟩) fun e => ⟨S', Sub.refl _, rfl, ?_⟩
    · have l1 := List.length_filter_le P (xs.take i)
      have l2 := List.length_take_le i xs
      rw [List.length_map]
      omega
    · rw [ht, List.filter_append, List.map_append, List.filter_cons_of_pos e]; rfl
    · rw [ht, List.filter_append, List.filter_cons_of_neg (by simp [e])]
      simp
  · rintro acc S' ⟨rfl, rfl⟩ p hp
    rw [List.take_length]
    exact q p hp
theorem comp_map {ri : RTi} {g : RTg} {re : RT} {vs : List Nat} {env : DEnv} {S : Sto} {k : RK} {xs : List D} {G : Sto → Prop} (f : D → D)
    (hri : ∀ K : List D → (Sto → Prop) → Sto → Prop, K xs G S → ri env S K) (hG : G S) (hl : xs.length ≤ sizeLine)
    (step : ∀ x ∈ xs, ∀ (kt : RK), kt (f x) S → g x (wipeE env vs) S fun env2 S2 => re env2 S2 kt)
    (q : ∀ p, S p = none → k (.ref p) (S.upd p (.lst (xs.map f)))) : rComp ri g rYes re vs env S k := by
  refine comp_fm (fun _ => true) f hri hG hl (fun x hx kt kf h1 _ => ?_) ?_
  · simp only [rYes, if_true]
    exact step x hx kt (h1 rfl)
  · have e : xs.filter (fun _ => true) = xs := by simp
    rw [e]; exact q
end DL
namespace DL
open PySem PySem.Spec PyProof.Rows L2
/-! ### a store that is as before but for the bag, and what is new -/
structure Ex (a : Addr) (S : Sto) (b : List D) (S' : Sto) : Prop where
  bag : S' a = some (.lst b)
  rest : ∀ c o, c ≠ a → S c = some o → S' c = some o
theorem Ex.refl {a : Addr} {S : Sto} {b : List D} (h : S a = some (.lst b)) : Ex a S b S := ⟨h, fun _ _ _ z => z⟩
theorem Ex.upd {a : Addr} {S S' : Sto} {b b' : List D} (h : Ex a S b S') : Ex a S b' (S'.upd a (.lst b')) := ⟨Sto.upd_same, fun c o n z => by rw [Sto.upd_ne n]; exact h.rest c o n z⟩
theorem Ex.ne {a p : Addr} {S S' : Sto} {b : List D} (h : Ex a S b S') (hp : S' p = none) : p ≠ a := fun e => by rw [e, h.bag] at hp; cases hp
theorem Ex.free {a p : Addr} {S S' : Sto} {b : List D} (h : Ex a S b S') (hp : S' p = none) : S p = none := by
  cases q : S p with
  | none => rfl
  | some o => rw [h.rest p o (h.ne hp) q] at hp; cases hp
theorem Ex.mod {a p : Addr} {S S' : Sto} {b : List D} {o : O} (h : Ex a S b S') (hp : S p = none) (n : p ≠ a) : Ex a S b (S'.upd p o) := ⟨by rw [Sto.upd_ne n.symm]; exact h.bag, fun c o' hn z => by
  rw [Sto.upd_ne]
  · exact h.rest c o' hn z
  · intro e; rw [e, hp] at z; cases z⟩
theorem Ex.new {a p : Addr} {S S' : Sto} {b : List D} {o : O} (h : Ex a S b S') (hp : S' p = none) : Ex a S b (S'.upd p o) := h.mod (h.free hp) (h.ne hp)
theorem Ex.sub {a : Addr} {S S' : Sto} {b : List D} (h : Ex a S b S') : Sub (S.upd a (.lst b)) S' := fun c o e => by
  by_cases n : c = a
  · subst n; rw [Sto.upd_same] at e; cases e; exact h.bag
  · rw [Sto.upd_ne n] at e; exact h.rest c o n e
theorem Ex.trans {a : Addr} {S S1 S2 : Sto} {b b1 : List D} (h : Ex a S b S1) (g : Ex a S1 b1 S2) : Ex a S b1 S2 := ⟨g.bag, fun c o n z => g.rest c o n (h.rest c o n z)⟩
theorem rngD_it {n i : Nat} {x : D} (h : (rngD 0 n)[i]? = some x) : i < n ∧ x = .int (i : Nat) := by
  unfold rngD at h
  rw [List.getElem?_map, Option.map_eq_some_iff] at h
  obtain ⟨j, h1, h2⟩ := h
  have := List.getElem?_eq_some_iff.mp h1
  obtain ⟨l, e⟩ := this
  rw [List.getElem_range] at e
  rw [List.length_range] at l
  subst e
  exact ⟨l, by rw [← h2]; simp⟩
theorem rngD_len {n : Nat} : (rngD 0 n).length = n := by simp [rngD]
theorem rngD_ints {n : Nat} : rngD 0 n = ((List.range n).map fun i : Nat => (i : Int)).map D.int := by
  unfold rngD
  rw [List.map_map]
  exact List.map_congr_left fun i _ => by simp
theorem erase_perm {α : Type} : ∀ {l : List α} {j : Nat} {x : α}, l[j]? = some x → l.Perm (x :: l.eraseIdx j)
  | [], _, _, h => by simp at h
  | y :: l, 0, x, h => by
    simp at h; subst h; exact List.Perm.refl _
  | y :: l, j + 1, x, h => by
    have := erase_perm (l := l) (j := j) (x := x) (by simpa using h)
    rw [List.eraseIdx_cons_succ]
    exact (this.cons y).trans (List.Perm.swap x y _)
theorem LaneN.perm {ns ms : List Int} (h : LaneN ns) (p : ns.Perm ms) : LaneN ms := ⟨fun n hn => h.cars n (p.mem_iff.mpr hn), p.nodup_iff.mp h.nodup⟩
theorem LaneN.sub {ns ms : List Int} (h : LaneN ns) (p : ms.Sublist ns) : LaneN ms := ⟨fun n hn => h.cars n (p.subset hn), h.nodup.sublist p⟩
theorem all60 : LaneN ((List.range 60).map fun i : Nat => (i : Int)) := ⟨by unfold Car; decide, by decide⟩
theorem eraseIdx_ints : ∀ {ns : List Int} {j : Nat}, (ns.map D.int).eraseIdx j = (ns.eraseIdx j).map D.int
  | [], _ => rfl
  | _ :: _, 0 => rfl
  | n :: ns, j + 1 => by
    rw [List.map_cons, List.eraseIdx_cons_succ, List.eraseIdx_cons_succ, List.map_cons, eraseIdx_ints]
theorem popAt_at {l : Addr} {i : Int} {S : Sto} {k : RK} {xs : List D} {d : D} (h : S l = some (.lst xs)) (h0 : 0 ≤ i) (h1 : i < 2 ^ 63) (e : xs[i.toNat]? = some d) (q : k d (S.upd l (.lst (xs.eraseIdx i.toNat)))) : popAtD (.ref l) [.int i] S k := by
  unfold popAtD
  simp only [h]
  exact ⟨d, h0, h1, e, q⟩
theorem tyD_lst {S : Sto} {a : Addr} {xs : List D} (h : S a = some (.lst xs)) : tyD S "list" (.ref a) := by
  unfold tyD; simp only [h]
theorem tuple_lst {S : Sto} {a : Addr} {xs : List D} {k : RK} (h : S a = some (.lst xs)) (q : k (.tup xs) S) : tupleD [.ref a] S k := ⟨xs, seq_ref h, rfl, q⟩
theorem eq_int {neg : Bool} {i j : Int} {S : Sto} {k : RK} (q : k (.bl (neg ^^ decide (i = j))) S) : eqD neg (.int i) (.int j) S k := q
/-- drawing out of a list -/
theorem comp_draw {a p : Addr} {S : Sto} {b : List D} {vi : Nat} {m : Nat} {left : List Int} {env : DEnv} {S0 : Sto} {k : RK} {vb vl : Nat} {ri : RTi}
    (hri : ∀ K : List D → (Sto → Prop) → Sto → Prop, K (rngD 0 m) (fun _ => True) S0 → ri env S0 K)
    (e0 : ∀ d, ((wipeE env [vi]).set vi (some d))[vb]? = some (some (.ref a))) (e1 : ∀ d, ((wipeE env [vi]).set vi (some d))[vl]? = some (some (.ref p)))
    (hx : Ex a S b S0) (hb : BagV b) (hp : S p = none) (hpa : p ≠ a) (hl : S0 p = some (.lst (left.map D.int))) (hL : LaneN left) (hm : m ≤ left.length)
    (q : ∀ b' cs S', BagV b' → Ex a S b' S' → LaneN cs → cs.length = m → ∀ p, S' p = none → k (.ref p) (S'.upd p (.lst (cs.map D.int)))) :
    rComp ri (gN vi) rYes (rBm "list" popAtD (rVar vl) (rCons (rCall 2 c_law_pick (rCons (rVar vb) (rCons (rCallB lenD (rCons (rVar vl) rNil)) rNil))) rNil)) [vi] env S0 k := by
  refine hri _ ⟨fun i acc S' => ∃ b' cs rest, BagV b' ∧ Ex a S b' S' ∧ S' p = some (.lst (rest.map D.int)) ∧ acc = cs.map D.int ∧ cs.length = i ∧ left.Perm (cs ++ rest), ⟨b, [], left, hb, hx, hl, rfl, rfl, List.Perm.refl _⟩, fun _ _ _ _ _ => trivial, ?_, ?_⟩
  · rintro i x acc S' hi ⟨b', cs, rest, hb', hx', hp', rfl, rfl, pm⟩
    obtain ⟨hi', rfl⟩ := rngD_it hi
    have ln := pm.length_eq
    have l60 := cars60 hL
    rw [List.length_append] at ln
    simp only [gN, rYes, if_true, rBm, rVar, e0, e1, rCons, rNil, rCall, rCallB]
    refine ⟨tyD_lst hp', len_at (seq_ref hp') ⟨rfl, a, _, b', rfl, ?_, ?_, hx'.bag, hb', fun told b'' t0 t1 hb'' => ?_⟩⟩
    · rw [List.length_map]; omega
    · rw [List.length_map]
      have : ((rest.length : Nat) : Int).natAbs = rest.length := Int.natAbs_natCast _
      rw [this]
      have : rest.length < 2 ^ 64 := by omega
      have := (Nat.log2_lt (n := rest.length) (k := 64) (by omega)).mpr this
      omega
    · rw [List.length_map] at t1
      have hj : told.toNat < rest.length := by omega
      have ej : rest[told.toNat]? = some rest[told.toNat] := List.getElem?_eq_getElem hj
      refine popAt_at (xs := rest.map D.int) (d := .int rest[told.toNat]) (by rw [Sto.upd_ne hpa]; exact hp') t0 (by omega) (by rw [List.getElem?_map, ej]; rfl) ⟨?_, _, Sub.refl _, b'', cs ++ [rest[told.toNat]], rest.eraseIdx told.toNat, hb'', ?_, ?_, ?_, ?_, ?_⟩
      · rw [List.length_map]; exact Nat.lt_of_le_of_lt (show cs.length ≤ 60 by omega) (by decide)
      · exact (hx'.upd).mod hp hpa
      · rw [Sto.upd_same, eraseIdx_ints]
      · simp
      · simp
      · rw [List.append_assoc, List.singleton_append]
        exact pm.trans (List.Perm.append_left cs (erase_perm ej))
  · rintro acc S' ⟨b', cs, rest, hb', hx', hp', rfl, hcs, pm⟩
    rw [rngD_len] at hcs
    exact q b' cs S' hb' hx' ((hL.perm pm).sub (List.sublist_append_left ..)) hcs
end DL
namespace DL
open PySem PySem.Spec PyProof.Rows L2
theorem rev_ref {re : RT} {env : DEnv} {S : Sto} {a : Addr} {xs : List D} {k : RK} (e : ∀ K : RK, K (.ref a) S → re env S K) (h : S a = some (.lst xs)) (q : ∀ p, S p = none → k (.ref p) (S.upd p (.lst xs.reverse))) : rRevL re env S k := by
  unfold rRevL
  refine e _ ?_
  simp only [h]
  exact q
theorem pick_at {a : Addr} {m : Int} {S : Sto} {k : RK} {ek : XKd} {S0 : Sto} {b : List D} (hx : Ex a S0 b S) (hb : BagV b) (h0 : 0 < m) (h1 : m < 2 ^ 64) (q : ∀ told b' S', 0 ≤ told → told < m → BagV b' → Ex a S0 b' S' → (∀ c, c ≠ a → S' c = S c) → k (.int told) S') : c_law_pick [.ref a, .int m] S k ek := by
  refine ⟨a, m, b, rfl, h0, ?_, hx.bag, hb, fun told b' t0 t1 hb' => q told b' _ t0 t1 hb' hx.upd fun c hc => Sto.upd_ne hc⟩
  have : m.natAbs < 2 ^ 64 := by omega
  have := (Nat.log2_lt (n := m.natAbs) (k := 64) (by omega)).mpr this
  omega
theorem mem_ints {x : D} {ns : List Int} (h : x ∈ ns.map D.int) : ∃ n ∈ ns, x = .int n := by
  obtain ⟨n, h1, h2⟩ := List.mem_map.mp h
  exact ⟨n, h1, h2.symm⟩
/-- [some[_law_pick(bag, len(some))] for k in range(many)] -/
theorem comp_pick {a p : Addr} {S : Sto} {b : List D} {vi : Nat} {m : Nat} {sm : List Int} {env : DEnv} {S0 : Sto} {k : RK} {vb vl : Nat} {ri : RTi}
    (hri : ∀ K : List D → (Sto → Prop) → Sto → Prop, K (rngD 0 m) (fun _ => True) S0 → ri env S0 K)
    (e0 : ∀ d, ((wipeE env [vi]).set vi (some d))[vb]? = some (some (.ref a))) (e1 : ∀ d, ((wipeE env [vi]).set vi (some d))[vl]? = some (some (.ref p)))
    (hx : Ex a S b S0) (hb : BagV b) (hpa : p ≠ a) (hl : S0 p = some (.lst (sm.map D.int))) (hL : sm ≠ []) (h60 : sm.length ≤ 60) (hm : m ≤ 1000)
    (q : ∀ (b' : List D) (cs : List Int) (S' : Sto), BagV b' → Ex a S b' S' → (∀ x ∈ cs, x ∈ sm) → cs.length = m → ∀ p, S' p = none → k (.ref p) (S'.upd p (.lst (cs.map D.int)))) :
    rComp ri (gN vi) rYes (rBin ixD (rVar vl) (rCall 2 c_law_pick (rCons (rVar vb) (rCons (rCallB lenD (rCons (rVar vl) rNil)) rNil)))) [vi] env S0 k := by
  have lp : 0 < sm.length := List.length_pos_iff.mpr hL
  refine hri _ ⟨fun i acc S' => ∃ b' cs, BagV b' ∧ Ex a S b' S' ∧ S' p = some (.lst (sm.map D.int)) ∧ acc = cs.map D.int ∧ cs.length = i ∧ (∀ x ∈ cs, x ∈ sm), ⟨b, [], hb, hx, hl, rfl, rfl, fun _ z => nomatch z⟩, fun _ _ _ _ _ => trivial, ?_, ?_⟩
  · rintro i x acc S' hi ⟨b', cs, hb', hx', hp', rfl, rfl, pm⟩
    obtain ⟨hi', rfl⟩ := rngD_it hi
    simp only [gN, rYes, if_true, rBin, rVar, e0, e1, rCons, rNil, rCall, rCallB]
    refine len_at (seq_ref hp') ⟨rfl, pick_at hx' hb' (by rw [List.length_map]; omega) (by rw [List.length_map]; omega) fun told b'' S2 t0 t1 hb'' hx2 hk => ?_⟩
    rw [List.length_map] at t1
    have hj : told.toNat < sm.length := by omega
    have ej : sm[told.toNat]? = some sm[told.toNat] := List.getElem?_eq_getElem hj
    have et : told = (told.toNat : Int) := by omega
    rw [et]
    refine ixD_at (xs := sm.map D.int) (seq_ref ((hk p hpa).trans hp')) (atI_nat (v := D.int sm[told.toNat]) (by rw [List.getElem?_map, ej]; rfl)) ⟨?_, _, Sub.refl _, b'', cs ++ [sm[told.toNat]], hb'', hx2, (hk p hpa).trans hp', by simp, by simp, fun x hx => ?_⟩
    · rw [List.length_map]; exact Nat.lt_of_lt_of_le (show cs.length < 1000 by omega) (by decide)
    · rcases List.mem_append.mp hx with z | z
      · exact pm x z
      · rw [List.mem_singleton.mp z]; exact List.getElem_mem hj
  · rintro acc S' ⟨b', cs, hb', hx', hp', rfl, hcs, pm⟩
    rw [rngD_len] at hcs
    exact q b' cs S' hb' hx' pm hcs
end DL
namespace DL
open PySem PySem.Spec PyProof.Rows L2
/-! ### what repr shows -/
structure RepOk (d W : Nat) (p : PyData) : Prop where
  sh : p.showable = true
  dp : p.depth ≤ d
  lv : p.leavesShort 22 = true
  wt : p.weight ≤ W
theorem RepOk.fits {W : Nat} {p : PyData} (h : RepOk 30 W p) (hW : W ≤ 600000) : p.showable = true ∧ p.depth ≤ 30 ∧ p.shown.length ≤ sizeLine := by
  refine ⟨h.sh, h.dp, ?_⟩
  have a := PyData.shown_le 22 (by decide) p h.lv
  have b : (22 + 2) * p.weight ≤ 24 * 600000 := Nat.mul_le_mul (by decide) (Nat.le_trans h.wt hW)
  rw [sizeLine_eq]
  omega
theorem RepOk.mono {d e W V : Nat} {p : PyData} (h : RepOk d W p) (a : d ≤ e) (b : W ≤ V) : RepOk e V p := ⟨h.sh, Nat.le_trans h.dp a, h.lv, Nat.le_trans h.wt b⟩
def Sm (i : Int) : Prop := i.natAbs < 10 ^ 21
theorem Car.sm {i : Int} (h : Car i) : Sm i := by
  unfold Car at h; unfold Sm; omega
theorem rep_int {i : Int} (h : Sm i) : RepOk 0 70 (.int i) := by
  unfold Sm at h
  have lg : i.natAbs.log2 < 70 := by
    by_cases z : i.natAbs = 0
    · rw [z]; decide
    · exact (Nat.log2_lt z).mpr (Nat.lt_trans h (by decide))
  refine ⟨?_, Nat.le_refl _, ?_, ?_⟩
  · simp only [PyData.showable, decide_eq_true_eq]; omega
  · simp only [PyData.leavesShort, decide_eq_true_eq]
    have e := int_text_length_le10 (k := 21) (by decide) h
    show (Str.ofString (toString i)).length ≤ 22
    rw [PySem.ofString_length]; exact e
  · unfold PyData.weight
    split
    · omega
    · omega
theorem rep_bl {b : Bool} : RepOk 0 0 (.bool b) := ⟨by simp [PyData.showable], Nat.le_refl _, by simp [PyData.leavesShort], Nat.le_refl _⟩
theorem rep_non : RepOk 0 0 .none := ⟨by simp [PyData.showable], Nat.le_refl _, by simp [PyData.leavesShort], Nat.le_refl _⟩
theorem rep_all {d W : Nat} : ∀ {ps : List PyData}, (∀ p ∈ ps, RepOk d W p) → PyData.showableAll ps = true ∧ PyData.depthAll ps ≤ d ∧ PyData.leavesShortAll 22 ps = true ∧ PyData.weightAll ps ≤ ps.length * (W + 1)
  | [], _ => ⟨rfl, Nat.zero_le _, rfl, Nat.zero_le _⟩
  | p :: ps, h => by
    obtain ⟨a, b, c, e⟩ := rep_all (ps := ps) fun q hq => h q (List.mem_cons_of_mem _ hq)
    have g := h p (List.mem_cons_self ..)
    refine ⟨by simp only [PyData.showableAll, g.sh, a, Bool.and_self], ?_, by simp only [PyData.leavesShortAll, g.lv, c, Bool.and_self], ?_⟩
    · have := g.dp
      simp only [PyData.depthAll]; omega
    · have := g.wt
      simp only [PyData.weightAll, List.length_cons, Nat.add_mul]; omega
theorem rep_tup {d W : Nat} {ps : List PyData} (h : ∀ p ∈ ps, RepOk d W p) : RepOk (d + 1) (ps.length * (W + 1)) (.tuple ps) := by
  obtain ⟨a, b, c, e⟩ := rep_all h
  exact ⟨by simpa only [PyData.showable] using a, by simp only [PyData.depth]; omega, by simpa only [PyData.leavesShort] using c, by simpa only [PyData.weight] using e⟩
theorem rep_lst {d W : Nat} {ps : List PyData} (h : ∀ p ∈ ps, RepOk d W p) : RepOk (d + 1) (ps.length * (W + 1)) (.list ps) := by
  obtain ⟨a, b, c, e⟩ := rep_all h
  exact ⟨by simpa only [PyData.showable] using a, by simp only [PyData.depth]; omega, by simpa only [PyData.leavesShort] using c, by simpa only [PyData.weight] using e⟩
/-- a text of small code points -/
def Tx (x : Str) : Prop := ∀ c ∈ x.cps.toList, c < 16 ^ 8
theorem rep_str {x : Str} (h : Tx x) : RepOk 0 x.length (.str x) := by
  refine ⟨by simp [PyData.showable], Nat.le_refl _, ?_, Nat.le_refl _⟩
  simp only [PyData.leavesShort, List.all_eq_true, decide_eq_true_eq]
  exact h
theorem Tx.append {x y : Str} (h : Tx x) (g : Tx y) : Tx (x ++ y) := by
  intro c hc
  rw [PySem.Str.cps_append, Array.toList_append, List.mem_append] at hc
  exact hc.elim (h c) (g c)
theorem Tx.of (s : String) : Tx (Str.ofString s) := by
  intro c hc
  have e : (Str.ofString s).cps.toList = s.toList.map Char.toNat := by rw [PySem.Str.ofString_eq_toList]
  rw [e] at hc
  obtain ⟨z, _, rfl⟩ := List.mem_map.mp hc
  exact z.val.toNat_lt
end DL
namespace DL
open PySem PySem.Spec PyProof.Rows L2
theorem Tx.join {g : Str} (hg : Tx g) {ys : List Str} (h : ∀ y ∈ ys, Tx y) : Tx (Txt.join g ys) := by
  have go : ∀ (l : List Str) (acc : Array Nat), (∀ y ∈ l, Tx y) → (∀ c ∈ acc.toList, c < 16 ^ 8) → ∀ c ∈ (l.foldl (fun acc p => acc ++ g.cps ++ p.cps) acc).toList, c < 16 ^ 8 := by
    intro l
    induction l with
    | nil => intro acc _ ha; exact ha
    | cons y l ih =>
      intro acc hl ha
      refine ih _ (fun z hz => hl z (List.mem_cons_of_mem _ hz)) fun c hc => ?_
      rw [Array.toList_append, Array.toList_append, List.mem_append, List.mem_append] at hc
      rcases hc with (q | q) | q
      · exact ha c q
      · exact hg c q
      · exact hl y (List.mem_cons_self ..) c q
  show Tx (PySem.Builtin.Str.glued g ys)
  unfold PySem.Builtin.Str.glued
  refine go _ _ (fun y hy => h y (List.mem_of_mem_drop hy)) fun c hc => ?_
  cases ys with
  | nil => simp [Str.empty] at hc
  | cons y ys => exact h y (List.mem_cons_self ..) c hc
theorem joinLen (g : Str) : ∀ ys : List Str, (Txt.join g ys).length ≤ (ys.map (·.length)).sum + ys.length * g.length := by
  intro ys
  have go : ∀ (l : List Str) (acc : Array Nat), (l.foldl (fun acc p => acc ++ g.cps ++ p.cps) acc).size = acc.size + (l.map (·.length)).sum + l.length * g.length := by
    intro l
    induction l with
    | nil => intro acc; simp
    | cons y l ih =>
      intro acc
      rw [List.foldl_cons, ih, Array.size_append, Array.size_append, List.map_cons, List.sum_cons, List.length_cons, Nat.add_mul]
      have e1 : y.cps.size = y.length := rfl
      have e2 : g.cps.size = g.length := rfl
      rw [e1, e2]
      omega
  show (PySem.Builtin.Str.glued g ys).length ≤ _
  show (PySem.Builtin.Str.glued g ys).cps.size ≤ _
  unfold PySem.Builtin.Str.glued
  rw [go]
  cases ys with
  | nil => simp [Str.empty]
  | cons y ys =>
    have e1 : y.cps.size = y.length := rfl
    simp only [List.headD_cons, List.drop_succ_cons, List.drop_zero, List.map_cons, List.sum_cons, List.length_cons, Nat.add_mul, e1]
    omega
/-- an odd value, with what it shows -/
inductive Od (a : Addr) (S : Sto) : D → PyData → Prop
  | non : Od a S .non .none
  | bl (b : Bool) : Od a S (.bl b) (.bool b)
  | int {i : Int} : Sm i → Od a S (.int i) (.int i)
  | str {x : Str} : Tx x → x.length ≤ 5000 → Od a S (.str x) (.str x)
  | nil : Od a S (.tup []) (.tuple [])
  | ls {p : Addr} : p ≠ a → S p = some (.lst []) → Od a S (.ref p) (.list [])
  | dc {p : Addr} : p ≠ a → S p = some (.ho (.dK [])) → Od a S (.ref p) (.dict [])
inductive GD (a : Addr) (S : Sto) : D → Prop
  | odd {d : D} {p : PyData} : Od a S d p → GD a S d
  | mix {as bs : List Int} {d : D} {p : PyData} : (∀ i ∈ as, Sm i) → (∀ i ∈ bs, Sm i) → Od a S d p → as.length + bs.length ≤ 400 → GD a S (.tup (as.map D.int ++ [d] ++ bs.map D.int))
  | il {ns : List Int} : (∀ i ∈ ns, Sm i) → ns.length ≤ 401 → GD a S (tupI ns)
  | lst {p : Addr} {ns : List Int} : p ≠ a → S p = some (.lst (ns.map D.int)) → (∀ i ∈ ns, Sm i) → ns.length ≤ 401 → GD a S (.ref p)
  | tt {ns : List Int} : (∀ i ∈ ns, Sm i) → ns.length ≤ 401 → GD a S (.tup [tupI ns])
def Keep (a : Addr) (S S' : Sto) : Prop := ∀ c o, c ≠ a → S c = some o → S' c = some o
theorem Od.mono {a : Addr} {S S' : Sto} (k : Keep a S S') {d : D} {p : PyData} (h : Od a S d p) : Od a S' d p := by
  cases h with
  | non => exact .non
  | bl b => exact .bl b
  | int h => exact .int h
  | str h g => exact .str h g
  | nil => exact .nil
  | ls n h => exact .ls n (k _ _ n h)
  | dc n h => exact .dc n (k _ _ n h)
theorem GD.mono {a : Addr} {S S' : Sto} (k : Keep a S S') {d : D} (h : GD a S d) : GD a S' d := by
  cases h with
  | odd h => exact .odd (h.mono k)
  | mix h1 h2 h3 h4 => exact .mix h1 h2 (h3.mono k) h4
  | il h g => exact .il h g
  | lst n h1 h2 h3 => exact .lst n (k _ _ n h1) h2 h3
  | tt h g => exact .tt h g
theorem Od.kind {a : Addr} {S : Sto} {d : D} {p : PyData} (h : Od a S d p) : (kindD S d).isSome = true ∧ (d = .tup [] ∨ isTup d = false) := by
  cases h with
  | non => exact ⟨rfl, .inr rfl⟩
  | bl b => exact ⟨rfl, .inr rfl⟩
  | int h => exact ⟨rfl, .inr rfl⟩
  | str h => exact ⟨rfl, .inr rfl⟩
  | nil => exact ⟨rfl, .inl rfl⟩
  | ls n h => exact ⟨by simp only [kindD, h]; rfl, .inr rfl⟩
  | dc n h => exact ⟨by simp only [kindD, h]; rfl, .inr rfl⟩
theorem GD.kn {a : Addr} {S : Sto} {d : D} (h : GD a S d) : Kn S d := by
  cases h with
  | odd h =>
    obtain ⟨h1, h2⟩ := h.kind
    refine ⟨h1, fun xs e => ?_⟩
    rcases h2 with q | q
    · rw [q] at e; cases e; exact ⟨Nat.zero_le _, fun y hy => nomatch hy⟩
    · rw [e] at q; simp [isTup] at q
  | mix h1 h2 h3 h4 =>
    refine ⟨rfl, fun xs e => ?_⟩
    cases e
    refine ⟨by simp; omega, fun y hy => ?_⟩
    rcases List.mem_append.mp hy with q | q
    · rcases List.mem_append.mp q with q | q
      · obtain ⟨n, _, rfl⟩ := mem_ints q; rfl
      · rw [List.mem_singleton.mp q]; exact h3.kind.1
    · obtain ⟨n, _, rfl⟩ := mem_ints q; rfl
  | il h g => exact kn_ints (by omega)
  | lst n h1 h2 h3 => exact ⟨by simp only [kindD, h1]; rfl, fun xs e => nomatch e⟩
  | tt h g =>
    refine ⟨rfl, fun xs e => ?_⟩
    cases e
    exact ⟨by simp, fun y hy => by rw [List.mem_singleton.mp hy]; rfl⟩
theorem pyl_ints {S : Sto} : ∀ ns : List Int, PyL S (ns.map D.int) (ns.map PyData.int)
  | [] => .nil
  | n :: ns => .cons (.int n) (pyl_ints ns)
theorem pydl_ints {S : Sto} : ∀ ns : List Int, PyDL S (ns.map D.int) (ns.map PyData.int)
  | [] => .nil
  | n :: ns => .cons (.int n) (pydl_ints ns)
theorem PyL.append {S : Sto} : ∀ {xs ys : List D} {ps qs : List PyData}, PyL S xs ps → PyL S ys qs → PyL S (xs ++ ys) (ps ++ qs)
  | [], _, [], _, _, g => g
  | x :: xs, ys, p :: ps, qs, .cons h t, g => .cons h (PyL.append t g)
theorem PyDL.append {S : Sto} : ∀ {xs ys : List D} {ps qs : List PyData}, PyDL S xs ps → PyDL S ys qs → PyDL S (xs ++ ys) (ps ++ qs)
  | [], _, [], _, _, g => g
  | x :: xs, ys, p :: ps, qs, .cons h t, g => .cons h (PyDL.append t g)
theorem Od.py {a : Addr} {S : Sto} {d : D} {p : PyData} (h : Od a S d p) : ((Py S d p ∧ p.hasDict = false) ∨ PyD S d p) ∧ RepOk 1 5000 p := by
  cases h with
  | non => exact ⟨.inr .non, rep_non.mono (by omega) (by omega)⟩
  | bl b => exact ⟨.inr (.bl b), rep_bl.mono (by omega) (by omega)⟩
  | int h => exact ⟨.inr (.int _), (rep_int h).mono (by omega) (by omega)⟩
  | str h g => exact ⟨.inr (.str _), (rep_str h).mono (by omega) g⟩
  | nil => exact ⟨.inr (.tup .nil), (rep_tup (ps := []) (d := 0) (W := 0) fun p hp => nomatch hp).mono (by omega) (by simp)⟩
  | ls n h => exact ⟨.inl ⟨.lst h .nil, rfl⟩, (rep_lst (ps := []) (d := 0) (W := 0) fun p hp => nomatch hp).mono (by omega) (by simp)⟩
  | dc n h => exact ⟨.inr (.dk0 h), ⟨by simp [PyData.showable, PyData.showableKv], by simp [PyData.depth, PyData.depthKv], by simp [PyData.leavesShort, PyData.leavesShortKv], by simp [PyData.weight, PyData.weightKv]⟩⟩
theorem noDict_ints : ∀ ns : List Int, PyData.hasDictAll (ns.map PyData.int) = false
  | [] => rfl
  | n :: ns => by simp only [List.map_cons, PyData.hasDictAll, PyData.hasDict, noDict_ints ns, Bool.or_self]
theorem noDict_app : ∀ ps qs : List PyData, PyData.hasDictAll (ps ++ qs) = (PyData.hasDictAll ps || PyData.hasDictAll qs)
  | [], qs => by simp [PyData.hasDictAll]
  | p :: ps, qs => by simp only [List.cons_append, PyData.hasDictAll, noDict_app ps qs, Bool.or_assoc]
theorem rep_ints {ns : List Int} (h : ∀ i ∈ ns, Sm i) : ∀ p ∈ ns.map PyData.int, RepOk 0 70 p := fun p hp => by
  obtain ⟨n, hn, rfl⟩ := List.mem_map.mp hp
  exact rep_int (h n hn)
theorem GD.show {a : Addr} {S : Sto} {d : D} (h : GD a S d) : ∃ p, ShP S d p ∧ p.showable = true ∧ p.depth ≤ 30 ∧ p.shown.length ≤ sizeLine := by
  have go : ∃ p, ShP S d p ∧ RepOk 30 600000 p := by
    cases h with
    | odd h =>
      obtain ⟨h1, h2⟩ := h.py
      exact ⟨_, h1, h2.mono (by omega) (by omega)⟩
    | @mix as bs x p h1 h2 h3 h4 =>
      obtain ⟨g1, g2⟩ := h3.py
      have tot : (∀ (w : Nat), True) := fun _ => trivial
      have wa := rep_all (rep_ints h1)
      have wb := rep_all (rep_ints h2)
      refine ⟨.tuple (as.map .int ++ [p] ++ bs.map .int), ?_, ?_⟩
      · rcases g1 with ⟨g1, nd⟩ | g1
        · refine .inl ⟨.tup (((pyl_ints as).append (.cons g1 .nil)).append (pyl_ints bs)), ?_⟩
          show PyData.hasDictAll _ = false
          rw [noDict_app, noDict_app, noDict_ints, noDict_ints]
          simp only [PyData.hasDictAll, nd, Bool.or_self]
        · exact .inr (.tup (((pydl_ints as).append (.cons g1 .nil)).append (pydl_ints bs)))
      · have w3 : PyData.weightAll (as.map .int ++ [p] ++ bs.map .int) ≤ 600000 := by
          have app : ∀ ps qs : List PyData, PyData.weightAll (ps ++ qs) = PyData.weightAll ps + PyData.weightAll qs := by
            intro ps qs
            induction ps with
            | nil => simp [PyData.weightAll]
            | cons x ps ih => simp only [List.cons_append, PyData.weightAll, ih]; omega
          rw [app, app]
          have e1 : PyData.weightAll [p] = p.weight + 1 := by simp [PyData.weightAll]
          have := wa.2.2.2
          have := wb.2.2.2
          have := g2.wt
          rw [List.length_map] at *
          omega
        have all : ∀ q ∈ as.map PyData.int ++ [p] ++ bs.map PyData.int, RepOk 1 5000 q := by
          intro q hq
          rcases List.mem_append.mp hq with z | z
          · rcases List.mem_append.mp z with z | z
            · exact (rep_ints h1 q z).mono (by omega) (by omega)
            · rw [List.mem_singleton.mp z]; exact g2
          · exact (rep_ints h2 q z).mono (by omega) (by omega)
        have t := rep_tup all
        exact ⟨t.sh, Nat.le_trans t.dp (by omega), t.lv, by simpa only [PyData.weight] using w3⟩
    | @il ns h g => exact ⟨.tuple (ns.map .int), .inr (.tup (pydl_ints ns)), (rep_tup (rep_ints h)).mono (by omega) (by rw [List.length_map]; omega)⟩
    | @lst p ns n h1 h2 h3 => exact ⟨.list (ns.map .int), .inl ⟨.lst h1 (pyl_ints ns), noDict_ints ns⟩, (rep_lst (rep_ints h2)).mono (by omega) (by rw [List.length_map]; omega)⟩
    | @tt ns h g =>
      have t1 : RepOk 1 40000 (.tuple (ns.map .int)) := (rep_tup (rep_ints h)).mono (by omega) (by rw [List.length_map]; omega)
      exact ⟨.tuple [.tuple (ns.map .int)], .inr (.tup (.cons (.tup (pydl_ints ns)) .nil)), (rep_tup (ps := [.tuple (ns.map .int)]) (d := 1) (W := 40000) fun q hq => by rw [List.mem_singleton.mp hq]; exact t1).mono (by omega) (by simp)⟩
  obtain ⟨p, h1, h2⟩ := go
  exact ⟨p, h1, h2.fits (by omega)⟩
def c_law_is_car : Cn := c_is_car
def c_law_due : Cn := fun ds S k _ => ∃ x, ds = [x] ∧ Kn S x ∧ ∀ p S', Sub S S' → S' p = none → k (.ref p) (S'.upd p (.lst [.bl (isLaneD x), .bl (areCallsD x)]))
def c_law_others : Cn := fun ds S k _ => ∃ a b row, ds = [.ref a, tupI row] ∧ S a = some (.lst b) ∧ BagV b ∧ (∀ i ∈ row, Car i) ∧ row.length ≤ 200 ∧
  ∀ b' xs S' p, BagV b' → Ex a S b' S' → (∀ x ∈ xs, GD a S' x) → xs.length ≤ 100 → S' p = none → k (.ref p) (S'.upd p (.lst xs))
end DL
namespace DL
open PySem PySem.Spec PyProof.Rows L2
theorem sl_tup {xs : List D} {lo hi : Option Int} {S : Sto} {k : RK} (q : k (.tup (cutD xs lo hi)) S) : slD (.tup xs) lo hi S k := q
theorem keep_new {a p : Addr} {S : Sto} {o : O} (h : S p = none) : Keep a S (S.upd p o) := fun c u n e => by
  rw [Sto.upd_ne]
  · exact e
  · intro z; rw [z, h] at e; cases e
theorem old_new {p c : Addr} {S : Sto} {o u : O} (h : S p = none) (e : S c = some u) : (S.upd p o) c = some u := by
  rw [Sto.upd_ne]
  · exact e
  · intro z; rw [z, h] at e; cases e
theorem list_at {d : D} {xs : List D} {S : Sto} {k : RK} (h : seqOf S d = some xs) (q : ∀ p, S p = none → k (.ref p) (S.upd p (.lst xs))) : listD [d] S k := ⟨xs, h, q⟩
theorem atI_in {xs : List D} {i : Int} (h0 : 0 ≤ i) (h1 : i < (xs.length : Nat)) : ∃ d ∈ xs, atI xs i = some d := by
  have hj : i.toNat < xs.length := by omega
  have e : ((i.toNat : Nat) : Int) = i := by omega
  have t : atI xs ((i.toNat : Nat) : Int) = some xs[i.toNat] := atI_nat (List.getElem?_eq_getElem hj)
  rw [e] at t
  exact ⟨xs[i.toNat], List.getElem_mem hj, t⟩
end DL
namespace DL
open PySem PySem.Spec PyProof.Rows L2
theorem txt_sm {i : Int} (h : Sm i) : (Str.ofString (toString i)).length ≤ 22 := by
  have e := int_text_length_le10 (k := 21) (by decide) h
  rw [PySem.ofString_length]; exact e
theorem sum_txt : ∀ {ys : List Str}, (∀ y ∈ ys, y.length ≤ 22) → (ys.map (·.length)).sum ≤ ys.length * 22
  | [], _ => Nat.zero_le _
  | y :: ys, h => by
    have := sum_txt (ys := ys) fun z hz => h z (List.mem_cons_of_mem _ hz)
    have := h y (List.mem_cons_self ..)
    rw [List.map_cons, List.sum_cons, List.length_cons, Nat.add_mul]; omega
theorem rep_flat (x : Int) : ∀ n : Nat, (List.replicate n [D.int x]).flatten = (List.replicate n x).map D.int
  | 0 => rfl
  | n + 1 => by rw [List.replicate_succ, List.replicate_succ, List.flatten_cons, List.map_cons, rep_flat x n]; rfl
theorem mul_tup {xs : List D} {j : Int} {S : Sto} {k : RK} (h0 : xs ≠ []) (h1 : 2 ≤ j) (h2 : j ≤ 1000) (h3 : xs.length ≤ 1000) (q : k (.tup (List.replicate j.toNat xs).flatten) S) : mulD (.tup xs) (.int j) S k := ⟨h0, h1, h2, h3, q⟩
theorem str_at {i : Int} {S : Sto} {k : RK} (h : Sm i) (q : k (.str (Str.ofString (toString i))) S) : strD [.int i] S k := by
  refine ⟨?_, q⟩
  unfold Sm at h
  by_cases z : i.natAbs = 0
  · rw [z]; decide
  · exact Nat.lt_trans ((Nat.log2_lt z).mpr (Nat.lt_trans h (show 10 ^ 21 < 2 ^ 70 by decide))) (by decide)
theorem rng_sm {n : Nat} (h : n ≤ 1000) : ∀ i ∈ (List.range n).map (fun i : Nat => (i : Int)), Sm i := fun i hi => by
  obtain ⟨j, hj, rfl⟩ := List.mem_map.mp hi
  have := List.mem_range.mp hj
  unfold Sm; omega
theorem gd_rng {a : Addr} {S : Sto} {n : Nat} (h : n ≤ 400) : GD a S (.tup (rngD 0 n)) := by
  rw [rngD_ints]
  exact .il (rng_sm (by omega)) (by simp; omega)
theorem gd_rep {a : Addr} {S : Sto} {n : Nat} (h : n ≤ 400) : GD a S (.tup (List.replicate n [D.int 0]).flatten) := by
  rw [rep_flat]
  exact .il (fun i hi => by rw [(List.mem_replicate.mp hi).2]; unfold Sm; decide) (by simp; omega)
theorem gd_few {a : Addr} {S : Sto} {ns : List Int} (h : ∀ i ∈ ns, Sm i) (l : ns.length ≤ 401) : GD a S (.tup (ns.map D.int)) := .il h l
end DL
namespace DL
open PySem PySem.Spec PyProof.Rows L2
theorem filt_all : ∀ xs : List D, (xs.filter fun y => !isCar y).isEmpty = xs.all isCar
  | [] => rfl
  | y :: ys => by
    rw [List.filter_cons, List.all_cons, ← filt_all ys]
    cases h : isCar y <;> simp
end DL
namespace DL
open PySem PySem.Spec PyProof.Rows L2
mutual
theorem Py.sub {S S' : Sto} (k : Sub S S') : ∀ (p : PyData) (d : D), Py S d p → Py S' d p
  | _, _, .non => .non
  | _, _, .bl b => .bl b
  | _, _, .int i => .int i
  | _, _, .str x => .str x
  | .tuple ps, _, .tup (xs := xs) l => .tup (PyL.sub k ps xs l)
  | .list ps, _, .lis (xs := xs) l => .lis (PyL.sub k ps xs l)
  | .list ps, _, .lst (xs := xs) e l => .lst (k _ _ e) (PyL.sub k ps xs l)
theorem PyL.sub {S S' : Sto} (k : Sub S S') : ∀ (ps : List PyData) (ds : List D), PyL S ds ps → PyL S' ds ps
  | _, _, .nil => .nil
  | p :: ps, d :: ds, .cons h t => .cons (Py.sub k p d h) (PyL.sub k ps ds t)
end
mutual
theorem PyD.sub {S S' : Sto} (k : Sub S S') : ∀ (p : PyData) (d : D), PyD S d p → PyD S' d p
  | _, _, .non => .non
  | _, _, .bl b => .bl b
  | _, _, .int i => .int i
  | _, _, .str x => .str x
  | .tuple ps, _, .tup (xs := xs) l => .tup (PyDL.sub k ps xs l)
  | _, _, .dk0 e => .dk0 (k _ _ e)
theorem PyDL.sub {S S' : Sto} (k : Sub S S') : ∀ (ps : List PyData) (ds : List D), PyDL S ds ps → PyDL S' ds ps
  | _, _, .nil => .nil
  | p :: ps, d :: ds, .cons h t => .cons (PyD.sub k p d h) (PyDL.sub k ps ds t)
end
theorem ShP.sub {S S' : Sto} (k : Sub S S') {d : D} {p : PyData} (h : ShP S d p) : ShP S' d p := by
  rcases h with ⟨h, e⟩ | h
  · exact .inl ⟨h.sub k, e⟩
  · exact .inr (h.sub k)
theorem Sub.keep {a : Addr} {S S' : Sto} (k : Sub S S') : Keep a S S' := fun c o _ e => k c o e
theorem kn_sub {a : Addr} {S S' : Sto} (k : Sub S S') {d : D} (h : GD a S d) : Kn S' d := (h.mono k.keep).kn
theorem repr_at {d : D} {S : Sto} {k : RK} {p : PyData} (h : ShP S d p) (s : p.showable = true ∧ p.depth ≤ 30 ∧ p.shown.length ≤ sizeLine) (q : k (.str p.shown) S) : reprD [d] S k := ⟨p, h, s.1, s.2.1, s.2.2, q⟩
theorem ne_str {neg : Bool} {x y : Str} {S : Sto} {k : RK} (q : k (.bl (neg ^^ decide (x = y))) S) : eqD neg (.str x) (.str y) S k := q
theorem sh_bls {S : Sto} {p : Addr} {bs : List Bool} (h : S p = some (.lst (bs.map D.bl))) : ShP S (.ref p) (.list (bs.map PyData.bool)) := by
  have go : ∀ bs : List Bool, PyL S (bs.map D.bl) (bs.map PyData.bool) := fun bs => by
    induction bs with
    | nil => exact .nil
    | cons b bs ih => exact .cons (.bl b) ih
  have nd : ∀ bs : List Bool, PyData.hasDictAll (bs.map PyData.bool) = false := fun bs => by
    induction bs with
    | nil => rfl
    | cons b bs ih => simp only [List.map_cons, PyData.hasDictAll, PyData.hasDict, ih, Bool.or_self]
  exact .inl ⟨.lst h (go bs), nd bs⟩
theorem fit_bls {bs : List Bool} (h : bs.length ≤ 100) : (PyData.list (bs.map PyData.bool)).showable = true ∧ (PyData.list (bs.map PyData.bool)).depth ≤ 30 ∧ (PyData.list (bs.map PyData.bool)).shown.length ≤ sizeLine :=
  ((rep_lst (ps := bs.map PyData.bool) (d := 0) (W := 0) fun p hp => by obtain ⟨b, _, rfl⟩ := List.mem_map.mp hp; exact rep_bl).mono (e := 30) (V := 600000) (by omega) (by rw [List.length_map]; omega)).fits (by omega)
theorem sh_tupI {S : Sto} {ns : List Int} : ShP S (tupI ns) (.tuple (ns.map PyData.int)) := .inr (.tup (pydl_ints ns))
theorem fit_tupI {ns : List Int} (h : ∀ i ∈ ns, Sm i) (l : ns.length ≤ 401) : (PyData.tuple (ns.map PyData.int)).showable = true ∧ (PyData.tuple (ns.map PyData.int)).depth ≤ 30 ∧ (PyData.tuple (ns.map PyData.int)).shown.length ≤ sizeLine :=
  ((rep_tup (rep_ints h)).mono (e := 30) (V := 600000) (by omega) (by rw [List.length_map]; omega)).fits (by omega)
theorem nodup_take : ∀ {ns : List Int}, ns.Nodup ↔ ∀ i, i < ns.length → ns.getD i 0 ∉ ns.take i := by
  intro ns
  constructor
  · intro h i hi hm
    obtain ⟨j, hj, e⟩ := List.mem_take_iff_getElem.mp hm
    rw [List.getD, List.getElem?_eq_getElem hi] at e
    have := (List.getElem_inj (h₀ := by omega) (h₁ := hi) h).mp e
    omega
  · intro h
    rw [List.nodup_iff_pairwise_ne, List.pairwise_iff_getElem]
    intro i j hi hj hij e
    refine h j hj ?_
    rw [List.getD, List.getElem?_eq_getElem hj, Option.getD_some, ← e]
    exact List.mem_take_iff_getElem.mpr ⟨i, by omega, rfl⟩
def c_law : Cn := fun ds S k _ => ∃ ns : List Int, ds = [.lis (ns.map D.int)] ∧ ns.length ≤ 63 ∧ k (.bl true) S
end DL
namespace DL
open PySem PySem.Spec PyProof.Rows L2
section
variable {K : PySem.W.Frag}
theorem mkFnG {P : Program} {w : World} {mg : Str → Option Value} {base : Heap} {k : Nat} {x : Str} {st : Stmt} {N ps : List Str} {C : Cn} {f : Addr} {fd : FuncData} (F : Fun K x x st f fd) (Sc : FnScope N ps (defScope st)) (n : Nat) (hn : ps.length = n)
    (r : RTs) (hd : ∀ (cdv : Value) (A : Around) (outer : List Env) (s : Shared) (H : Hp) (E : XK) (f : Addr), RoomG k (A.deeper (envOfC x (defScope st) s.heap.objs.size f cdv)) → RSs (cxOf CX0 P w K mg base N x (defScope st) f cdv A outer s H E).nox (defBody st) r)
    (hs : ∀ ds S kk, ds.length = n → C ds S kk noX → r (endOf kk) (DL.envOf N ds) S) (hx : ∀ ds S kk ek, C ds S kk ek → C ds S kk noX) : FnG P w K mg base CX0 (k + 1) f fd ps (spD K n C) := by
  refine fnG_of F Sc (fun vs H Q E ⟨ds, S, kk, ek, hl, r, _⟩ => by rw [← r.length, hl, hn]) (fun cdv A outer s H vs Q E hr ⟨ds, S, kk, ek, hl, rl, hS, q, cl, cx⟩ => ?_)
  refine ⟨_, PSs.nox (hd cdv A outer s H E f hr), DL.envOf N ds, S, endOf kk, ?_, hS, hs ds S kk hl (hx _ _ _ _ q), ⟨fun env' S' σ' H' ⟨S2, sb, q'⟩ st' hE' hS' => ?_, fun d S' v H' ⟨S2, sb, q'⟩ st' r' hS' => ?_, fun _ _ _ _ z => z.elim, fun _ _ _ _ z => z.elim⟩⟩
  · unfold DL.envOf L2.start
    rw [rl.length]
    exact absE_start rl
  · exact cl _ _ _ _ q' (st'.sub sb) .non (hS'.sub sb)
  · exact cl _ _ _ _ q' (st'.sub sb) r' (hS'.sub sb)
theorem def_at {h : Heap} {mg : Str → Option Value} {x : Str} {st : Stmt} {ps : List Str} {f : Addr} {oc : Value} {od an : Option Addr} {osl : Array (Option Value)} {kV doc pm cdv ct : Value} (X : K.In h) (G : h.Ns mainGlobals mg)
    (a : PySem.W.nsIn K mainGlobals x = some (some (.ref f))) (l : K.lookup f = some ⟨oc, od, .func (PySem.W.fnOf x x (defArgs st) (defBody st) (defScope st) .none kV doc pm an cdv ct), osl⟩) (c : PySem.W.codeIn K cdv x = true) (k : PySem.W.keepIn K (.ref f) = true)
    (hb : ∀ (kV doc pm : Value) (an : Option Addr) (cdv ct : Value) (us : List Value), us.length = ps.length → bindArgs (PySem.W.fnOf x x (defArgs st) (defBody st) (defScope st) .none kV doc pm an cdv ct) ⟨us, []⟩ = pure (ps.zip us)) : DefAt K mg x st ps :=
  ⟨f, _, fun_mk l c k, PySem.W.mg_of X G a, (fun_mk l c k).binds hb⟩
end
end DL
/-! dicts with keys None or ints, as data -/
namespace DL
open PySem PySem.Spec PyProof.Rows L2
def ckD : Ck → D
  | none => .non
  | some i => .int i
section
variable {K : PySem.W.Frag} {H : Hp}
theorem ck_of {c : Ck} {v : V} (r : Rp K H (ckD c) v) : v = ckV c := by
  cases c with
  | none => exact r.non_
  | some i => exact r.int_
theorem ck_rp (c : Ck) : Rp K H (ckD c) (ckV c) := by
  cases c with
  | none => exact .non
  | some i => exact .int
theorem ckD_inj {a b : Ck} (e : ckD a = ckD b) : a = b := by
  cases a <;> cases b <;> first | rfl | (cases e; rfl) | cases e
end
section
variable {X : Cx}
theorem dk_it {J : It} {n : Nat} {Gh : Hp → Prop} {Y : Nat → Hp → V → Hp → Prop} {g : TG} {tt : TT} {tk tv : TE} {vs : List Nat} {σ : L2.St} {D : Addr} {H1 : Hp} {Qd : Hp → Prop} (wk : Walk J n Gh Y) (Pv : Nat → Hp → Prop) (p0 : Pv 0 (L2.upd H1 D (dkO D [])))
    (pg : ∀ i H, i ≤ n → Pv i H → Gh H) (step : ∀ i x H H', i < n → Pv i H → Y i H x H' → turnK g tt tk tv vs σ D (Pv (i + 1)) x H') (fin : ∀ H, Pv n H → Qd H) :
    ∃ W : Nat → Nat → Hp → Prop, (∃ m, W 0 m (L2.upd H1 D (dkO D []))) ∧
      ∀ i m H, W i m H → (J.stop i H ∧ Qd H) ∨ (J.go i H ∧ ∃ Nx : Hp → Prop, (∀ H', Nx H' → ∃ m', m' < m ∧ W (i + 1) m' H') ∧ ∀ x H', J.yld i H x H' → turnK g tt tk tv vs σ D Nx x H') := by
  refine ⟨fun i m H => m = n - i ∧ i ≤ n ∧ Pv i H, ⟨n, by simp, Nat.zero_le _, p0⟩, ?_⟩
  rintro i m H ⟨rfl, hi, p⟩
  have gh := pg i H hi p
  rcases Nat.lt_or_eq_of_le hi with lt | rfl
  · exact .inr ⟨wk.goes i H lt gh, Pv (i + 1), fun H' p' => ⟨n - (i + 1), by omega, rfl, lt, p'⟩, fun x H' y => step i x H H' lt p (wk.yields i H x H' lt gh y)⟩
  · exact .inl ⟨wk.stops H gh, fin H p⟩
/-- locked when it has come -/
def tLk (t : TE) : TE := fun σ H Q => t σ H fun v H1 => ∃ d u, v = .ref d ∧ H1 d = some u ∧ Mut (some u) ∧ ∀ od, Q v (L2.upd H1 d (.frz od u))
theorem pe_lk {e : Expr} {t : TE} (h : PE X e t) : PE X e (tLk t) := by
  refine ⟨fun pins s σ H Q I q => thn (h.run pins s σ H _ I q) fun u s1 ⟨v, H1, I1, r, d, o, e1, e2, mu, q1⟩ => ?_⟩
  obtain ⟨od, I2⟩ := I1.lock e2 mu
  exact ⟨v, _, I2, r, q1 od⟩
def rDk (ri : RTi) (g : RTg) (tt : RTt) (rk rv : RT) (vs : List Nat) : RT := fun env S k => ri env S fun items G S1 => ∃ I : Nat → List Ck → List D → Sto → Prop, I 0 [] [] S1 ∧ (∀ i ks ds S, i ≤ items.length → I i ks ds S → G S) ∧
  (∀ i x ks ds S, items[i]? = some x → I i ks ds S → g x (wipeE env vs) S fun env2 S2 => tt env2 S2 fun b S3 => if b = true then rk env2 S3 fun y S4 => rv env2 S4 fun d S5 => ∃ c, y = ckD c ∧ c ∉ ks ∧ ks.length < sizeLine ∧ ∃ S6, Sub S6 S5 ∧ I (i + 1) (ks ++ [c]) (ds ++ [d]) S6 else ∃ S5, Sub S5 S3 ∧ I (i + 1) ks ds S5) ∧
  ∀ ks ds S, I items.length ks ds S → k (.dic ks ds) S
theorem val_new {kvs : List (Ck × V)} {c : Ck} (h : c ∉ kvs.map (·.1)) : valV kvs c = none := by
  have := valV_any c kvs
  cases q : valV kvs c with
  | none => rfl
  | some v =>
    rw [q] at this
    replace this : (kvs.any fun kv => decide (kv.fst = c)) = true := this
    rw [List.any_eq_true] at this
    obtain ⟨p, hp, e⟩ := this
    exact absurd (List.mem_map.mpr ⟨p, hp, of_decide_eq_true e⟩) h
theorem dk_go {σ : L2.St} {Q : VK} {is : List Nat} {ri : RTi} {g : RTg} {tt : RTt} {rk rv : RT} (h : tR X.K (rDk ri g tt rk rv is) σ H Q) : tLk (tDk (tI X.K ri) (tG X.K is g) (tT X.K tt) (tR X.K rk) (tR X.K rv) is) σ H Q := by
  obtain ⟨env, S, k, hE, hS, q, cl⟩ := h
  refine ⟨env, S, _, hE, hS, q, fun items G S1 J H1 ⟨I, i0, iG, go, fin⟩ st1 hS1 w D hD => ?_⟩
  obtain ⟨Gh, Y, wk, hG, hY⟩ := w
  refine dk_it wk (fun i H' => ∃ ks ds S' us, H' D = some (dkO D (ks.zip us)) ∧ ks.length = us.length ∧ RpL X.K H' ds us ∧ S' D = none ∧ AbsS X.K S' H' ∧ Stp H1 S1 H' S' ∧ I i ks ds S')
    ⟨[], [], S1, [], L2.upd_same, rfl, .nil, hS1.free hD, hS1.laid0 hD, Stp.laid0 hD, i0⟩ ?_ ?_ ?_
  · rintro i H' hi' ⟨ks, ds, S', us, hd, ll, rl, fr, hS', st', q'⟩
    exact hG S' H' (st'.mon hS1) hS' (iG i ks ds S' hi' q')
  · rintro i x H' H2 hi' ⟨ks, ds, S', us, hd, ll, rl, fr, hS', st', q'⟩ y
    obtain ⟨d, e, hd'⟩ := hY i H' x H2 hi' (hG S' H' (st'.mon hS1) hS' (iG i ks ds S' (Nat.le_of_lt hi') q')) y
    obtain ⟨rd, st2, hS2⟩ := hd' S' (st'.mon hS1) hS'
    have hE2 : AbsE X.K H2 env σ := ((hE.mon (st1.mon hS)).mon (st'.mon hS1)).mon (st2.mon hS')
    refine ⟨d, wipeE env is, S', _, rd, hE2.wipe is, hS2, go i d ks ds S' e q', fun env3 S3 σ3 H3 q3 st3 hE3 hS3 o3 => ?_⟩
    refine ⟨?_, ?_⟩
    · have z := wipe_eq_of is (L2.wipe σ is) σ3 o3.1 o3.2
      rw [z]
      exact wipe_eq_of is σ (L2.wipe σ is) (L2.wipe_length _ _) fun j hj => L2.wipe_out hj
    · refine ⟨env3, S3, _, hE3, hS3, q3, fun b S4 H4 q4 st4 hS4 => ?_⟩
      have sA : Stp H' S' H4 S4 := (st2.trans st3).trans st4
      dsimp only
      by_cases h : b = true
      · rw [if_pos h] at q4 ⊢
        refine ⟨env3, S4, _, hE3.mon (st4.mon hS3), hS4, q4, fun yk S5 v H5 q5 st5 r5 hS5 => ?_⟩
        refine ⟨env3, S5, _, (hE3.mon (st4.mon hS3)).mon (st5.mon hS4), hS5, q5, fun yd S6 v6 H6 q6 st6 r6 hS6 => ?_⟩
        obtain ⟨c, rfl, nc, hl, S7, sb, i7⟩ := q6
        have sB : Stp H' S' H6 S6 := (sA.trans st5).trans st6
        have at6 : H6 D = some (dkO D (ks.zip us)) := (sB _ _ hd fr).1
        have rl6 : RpL X.K H6 ds us := rl.mon (sB.mon hS')
        have kz : (ks.zip us).map (·.1) = ks := List.map_fst_zip (by omega)
        refine ⟨ks.zip us, c, ck_of (r5.mon (st6.mon hS5)), at6, ?_, ?_⟩
        · rw [List.length_zip]; omega
        · rw [putK_new v6 (val_new (by rw [kz]; exact nc))]
          have ez : ks.zip us ++ [(c, v6)] = (ks ++ [c]).zip (us ++ [v6]) := by
            rw [List.zip_append ll]; rfl
          rw [ez]
          refine ⟨ks ++ [c], ds ++ [yd], S7, us ++ [v6], L2.upd_same, by simp [ll], ?_, ?_, ?_, ?_, i7⟩
          · exact (rl6.append (.cons r6 .nil)).mon (Mon.write at6 True.intro)
          · exact sb.free (sB _ _ hd fr).2
          · exact fun a o ea => by
              have ha := sb a o ea
              obtain ⟨u, e1, m1, r1⟩ := hS6 a o ha
              have ne : a ≠ D := by intro z; rw [z, (sB _ _ hd fr).2] at ha; cases ha
              exact ⟨u, by rw [L2.upd_ne ne]; exact e1, m1, r1.mon (Mon.write at6 True.intro)⟩
          · exact fun a o ea en => by
              have ne : a ≠ D := by intro z; rw [z, hD] at ea; cases ea
              obtain ⟨z1, z2⟩ := (st'.trans sB) a o ea en
              exact ⟨by rw [L2.upd_ne ne]; exact z1, sb.free z2⟩
      · rw [if_neg h] at q4 ⊢
        obtain ⟨S6, sb, i6⟩ := q4
        exact ⟨ks, ds, S6, us, (sA _ _ hd fr).1, ll, rl.mon (sA.mon hS'), sb.free (sA _ _ hd fr).2, hS4.sub sb, (st'.trans sA).sub sb, i6⟩
  · rintro H' ⟨ks, ds, S', us, hd, ll, rl, fr, hS', st', q'⟩
    refine ⟨D, _, rfl, hd, True.intro, fun od => ?_⟩
    have mo : Mon H' (L2.upd H' D (.frz od (dkO D (ks.zip us)))) := Mon.write hd True.intro
    refine cl _ _ _ _ (fin ks ds S' q') ?_ (.dic L2.upd_same ll (rl.mon mo)) ?_
    · exact fun a o ea en => by
        obtain ⟨z1, z2⟩ := st1 a o ea en
        have ne : a ≠ D := by intro z; rw [z, hD] at z1; cases z1
        obtain ⟨y1, y2⟩ := st' a o z1 z2
        exact ⟨by rw [L2.upd_ne ne]; exact y1, y2⟩
    · exact fun a o ea => by
        have ne : a ≠ D := by intro z; rw [z, fr] at ea; cases ea
        obtain ⟨u, e1, m1, r1⟩ := hS' a o ea
        exact ⟨u, by rw [L2.upd_ne ne]; exact e1, m1, r1.mon mo⟩
theorem re_dk {kx vx tg iter : Expr} {ifs : List Expr} {scope : Scope} {pos : Pos} (own : List (Str × Nat)) {ri : RTi} {g : RTg} {tt : RTt} {rk rv : RT} (hc : X.calm = true) (hN : X.N.Nodup) (hi : RI X tg iter ri) (ok : BlkOk X.N X.env.scope scope own)
    (hg : ∀ (s : Shared) (H : Hp) (C : Addr) (cl : List (Str × Addr)) (fp : List Addr), RG (X.blk s H scope (compEnvC scope cl C X.env) fp) (own.map (·.2)) tg g) (ht : ∀ (s : Shared) (H : Hp) (C : Addr) (cl : List (Str × Addr)) (fp : List Addr), RTs1 (X.blk s H scope (compEnvC scope cl C X.env) fp) ifs tt)
    (hk : ∀ (s : Shared) (H : Hp) (C : Addr) (cl : List (Str × Addr)) (fp : List Addr), RE (X.blk s H scope (compEnvC scope cl C X.env) fp) kx rk)
    (he : ∀ (s : Shared) (H : Hp) (C : Addr) (cl : List (Str × Addr)) (fp : List Addr), RE (X.blk s H scope (compEnvC scope cl C X.env) fp) vx rv) (hs : ∀ x, foldedSetIterable iter X.env x = pure x := by intro _; rfl) :
    RE X (.DictComp kx vx [⟨tg, iter, ifs, 0⟩] scope pos) (rDk ri g tt rk rv (own.map (·.2))) :=
  PE.imp (pe_lk (pe_dk (own := own) (g := tG X.K (own.map fun (x : Str × Nat) => x.2) g) (tt := tT X.K tt) (tk := tR X.K rk) (tv := tR X.K rv) hc hN hi ok hg ht hk he hs)) fun σ H Q h => dk_go h
end
end DL
namespace DL
open PySem PySem.Spec PyProof.Rows L2
/-! ### d[k] -/
def dicAt : List Ck → List D → Ck → Option D
  | k :: ks, d :: ds, c => if k = c then some d else dicAt ks ds c
  | _, _, _ => none
section
variable {X : Cx} {K : PySem.W.Frag} {H : Hp}
theorem dicAt_val : ∀ {ks : List Ck} {ds : List D} {us : List V} {c : Ck} {d : D}, dicAt ks ds c = some d → RpL K H ds us → ∃ v, valV (ks.zip us) c = some v ∧ Rp K H d v
  | [], _, _, _, _, e, _ => by simp [dicAt] at e
  | k :: ks, [], _, _, _, e, _ => by simp [dicAt] at e
  | k :: ks, x :: ds, us, c, d, e, r => by
    obtain ⟨v, r', eu, p, t⟩ := r.cons_of
    subst eu
    unfold dicAt at e
    rw [List.zip_cons_cons]
    by_cases h : k = c
    · rw [if_pos h] at e
      cases e
      exact ⟨v, valV_pos h, p⟩
    · rw [if_neg h] at e
      obtain ⟨v', h1, h2⟩ := dicAt_val e t
      exact ⟨v', by rw [valV_neg h]; exact h1, h2⟩
def rIxDk (K : PySem.W.Frag) : R2 := fun x y H Q => ∃ a o kvs c v, x = .ref a ∧ y = ckV c ∧ H a = some (.frz o (dkO a kvs)) ∧ valV kvs c = some v ∧ Q v H
theorem ix_dic : IxR X (rIxDk X.K) := by
  intro value slice pins s σ H x y v u Q I rx ry h hs
  obtain ⟨a, o, kvs, c, z, rfl, rfl, e, l, q⟩ := h
  obtain rfl : v = Value.ref a := rx
  obtain ⟨_, _, _, vs, _, d⟩ := lk_at I e
  exact tail_any d.typeIs slot_dict_getitem.lookup (lk_get I e ry l fun w' s' I' rw' => ⟨z, H, I', rw', q⟩) hs
def ixDk : F2 := fun x y S k => ∃ ks ds c d, x = .dic ks ds ∧ y = ckD c ∧ dicAt ks ds c = some d ∧ k d S
theorem ixDic : IxD X ixDk := by
  refine ⟨_, ix_dic, fun x y S k v u H Q ⟨ks, ds, c, d, ex, ey, l, q⟩ rx ry hS cl => ?_⟩
  subst ex ey
  obtain ⟨a, o, us, rfl, e, ll, r⟩ := rx.dic_
  obtain ⟨v', h1, h2⟩ := dicAt_val l r
  exact ⟨a, o, _, c, v', rfl, ck_of ry, e, h1, cl _ _ _ _ q Stp.refl h2 hS⟩

/-! ### for k in d -/
def Jk (d : Addr) (o : Obj) (kvs : List (Ck × V)) : It :=
  ⟨fun i H => H d = some (.frz o (dkO d kvs)) ∧ i < kvs.length, fun i H x H' => H' = H ∧ ∃ p, kvs[i]? = some p ∧ x = ckV p.1, fun i H => H d = some (.frz o (dkO d kvs)) ∧ kvs.length ≤ i⟩
theorem lk_raw {pins : List (Addr × Obj)} {σ : L2.St} {s : Shared} {d : Addr} {o : Obj} {kvs : List (Ck × V)} (I : Inv X pins σ H s) (e : H d = some (.frz o (dkO d kvs))) :
    (d == sysModules) = false ∧ s.heap.get? d = some o ∧ o.ExactDict ∧ ∃ (es : Array DictEntry) (ep : Nat) (vs : List (Ck × Value)), o.data = .dict es ep ∧ es.size = kvs.length ∧ KV kvs vs ∧ s.heap.DictAt (caseK X.prog X.w) d vs ep := by
  obtain ⟨g, _, n, vs, r, o', es, ep, g', x, t, ky, pr, nd⟩ := lk_at I e
  rw [g] at g'
  cases g'
  refine ⟨n, g, x, es, ep, vs, t, ?_, r, o, es, g, x, t, ky, pr, nd⟩
  have a := pr.length
  have b : kvs.length = vs.length := Paired.length r
  rw [Array.length_toList] at a
  omega
theorem turn_dk {P : Program} {w : World} {tg : Expr} {d : Addr} {o : Obj} {es : Array DictEntry} {ep : Nat} {kvs : List (Ck × V)} (it : Addr) (hod : o.data = .dict es ep) : Turn P w K tg (Jk d o kvs) [it] it (fun i h => h.IsKeyIter it d i kvs.length ep) where
  mem := List.mem_singleton.mpr rfl
  obj := fun i h st b hb => by
    obtain rfl := List.mem_singleton.mp hb
    obtain ⟨oi, e, _, dd⟩ := st
    exact ⟨oi, e, fun v z => by rw [dd] at z; cases z⟩
  keep := fun i h h' st k => st.at fun oi e => k it (List.mem_singleton.mpr rfl) oi e
  item := by
    rintro X rfl rfl rfl hc i pins s σ H E J free st ⟨at_, lt⟩
    obtain ⟨f0, f1, f2, f3, f4, f5⟩ := free it (List.mem_singleton.mpr rfl)
    obtain ⟨_, _, _, es', ep', vs, dt, _, kv, da⟩ := lk_raw J at_
    obtain ⟨rfl, rfl⟩ := dict_ep hod dt
    have len : kvs.length = vs.length := Paired.length kv
    have ei : kvs[i]? = some kvs[i] := List.getElem?_eq_getElem lt
    obtain ⟨u, hu, _⟩ := kv_get kv (k := kvs[i].1) (v := kvs[i].2) ei
    rw [len] at st
    refine wpAny_pyNext_dict_item st da hu fun key h' isk st' sb => ?_
    have J1 : Inv X pins σ H { s with heap := h' } := J.turned (t' := s.toks) (fun b ob hb e => (sb.2 b hb).trans e) f0 f1 f3 f4 f5
    obtain ⟨oi, e, c, dd⟩ := id st'
    refine ⟨key, rfl, go_of (s := { s with heap := h' }) e c dd (by decide) ⟨ckV kvs[i].1, H, J1, ck_rel isk, ⟨rfl, kvs[i], ei, rfl⟩, ?_, fun b hb => (free b hb).1⟩⟩
    show h'.IsKeyIter it d (i + 1) kvs.length _
    rw [len]; exact st'
  done := by
    rintro X rfl rfl rfl hc i pins s σ H E J free st ⟨at_, ge⟩
    obtain ⟨f0, f1, f2, f3, f4, f5⟩ := free it (List.mem_singleton.mpr rfl)
    obtain ⟨_, g, _, es', ep', vs, dt, sz, _, _⟩ := lk_raw J at_
    obtain ⟨rfl, rfl⟩ := dict_ep hod dt
    exact next_key_end (J.ok.hd hc) st g dt sz ge fun h' eb => ⟨rfl, J.turned (t' := s.toks) (fun b ob hb e => eb b ob hb e) f0 f1 f3 f4 f5⟩
  self := fun A i s Q E st h => wpAny_pyIter_keyiter st h
def iDk (re : RT) : RTi := fun env S k => re env S fun d S1 => match d with
  | .dic ks _ => k (ks.map ckD) (fun _ => True) S1
  | _ => False
theorem ri_dk {tg e : Expr} {re : RT} (h : RE X e re) : RI X tg e (iDk re) := by
  constructor
  rintro pins s σ H0 R I ⟨env, S, k, hE, hS, q, cl⟩
  refine thn (PE.run h pins s σ H0 (fun v H1 => ∃ d S1, (match d with
    | .dic ks _ => k (ks.map ckD) (fun _ => True) S1
    | _ => False) ∧ Stp H0 S H1 S1 ∧ Rp X.K H1 d v ∧ AbsS X.K S1 H1) I ⟨env, S, _, hE, hS, q, fun d S1 v H1 q1 st1 r1 hS1 => ⟨d, S1, q1, st1, r1, hS1⟩⟩) ?_
  rintro u s1 ⟨v, H1, I1, ru, d, S1, q1, st, rd, hS1⟩
  split at q1
  · rename_i ks ds
    obtain ⟨a, o, us, rfl, at_, ll, r⟩ := rd.dic_
    obtain rfl : u = Value.ref a := ru
    obtain ⟨n, g, x, es, ep, vs, dt, sz, kv, da⟩ := lk_raw I1 at_
    have kz : (ks.zip us).length = ks.length := by rw [List.length_zip]; omega
    refine iter_keys n g x dt (pi_one (tk := s1.toks) I1 _ (turn_dk _ dt) ⟨_, Heap.get?_push_size _ rfl, rfl, by rw [← sz] <;> rfl⟩ ?_)
    refine cl _ _ _ _ _ q1 st hS1 ⟨fun H => H a = some (.frz o (dkO a (ks.zip us))), fun i H x H' => H' = H ∧ ∃ p, (ks.zip us)[i]? = some p ∧ x = ckV p.1, ?_, fun S' H' m _ _ => m _ _ at_ fun z => z, ?_⟩
    · rw [List.length_map, ← kz]
      exact ⟨fun i H lt q => ⟨q, lt⟩, fun H q => ⟨q, Nat.le_refl _⟩, fun i H x H' _ _ y => y⟩
    · rintro i H' x H'' lt at' ⟨rfl, p, e, rfl⟩
      have ek : ks[i]? = some p.1 := by
        have := congrArg (Option.map Prod.fst) e
        rw [← List.getElem?_map, List.map_fst_zip (by omega)] at this
        exact this
      exact ⟨ckD p.1, by rw [List.getElem?_map, ek]; rfl, fun S' m hS' => ⟨ck_rp _, Stp.refl, hS'⟩⟩
  · exact q1.elim
end
end DL
/-! more builtins and methods -/
namespace DL
open PySem PySem.Spec PyProof.Rows L2
section
variable {X : Cx}
/-! ### great powers -/
def CPowB (i j : Int) : Prop := 0 ≤ j ∧ j ≤ 100000 ∧ i.natAbs.log2 < 1000
theorem op_powB : OpR X (binaryOp .Pow) (rI CPowB fun i j => .int (i ^ j.toNat)) := opI fun i j _ _ _ _ _ hc q => by
  obtain ⟨h0, h1, h2⟩ := hc
  refine pow_int h0 ?_ q
  have b : Builtin.Int.intBits i ≤ 1000 := by
    unfold Builtin.Int.intBits
    split <;> omega
  exact Int.le_trans (Int.mul_le_mul (show (Builtin.Int.intBits i : Int) ≤ 1000 by omega) h1 h0 (by omega)) (by decide)
theorem opPowB : Op2 X (binaryOp .Pow) (i2 CPowB fun i j => i ^ j.toNat) := opI2 op_powB
/-! ### min, abs, int, sum -/
def minD : FL := fun ds S k => match ds with
  | [.int i, .int j] => k (.int (if j < i then j else i)) S
  | _ => False
theorem cMin (hc : X.calm = true) : CallD X (.builtin "min") minD := by
  refine ⟨_, call_min2 hc, fun ds S k vs H Q q r hS c => ?_⟩
  unfold minD at q
  split at q
  · obtain ⟨a, b, rfl, ra, rb⟩ := r.two
    obtain rfl := ra.int_
    obtain rfl := rb.int_
    exact ⟨_, _, rfl, c _ _ _ _ q Stp.refl .int hS⟩
  · exact q.elim
def absD : FL := fun ds S k => match ds with
  | [.int i] => k (.int (if i < 0 then -i else i)) S
  | _ => False
theorem cAbs : CallD X (.builtin "abs") absD := by
  refine ⟨_, call_abs, fun ds S k vs H Q q r hS c => ?_⟩
  unfold absD at q
  split at q
  · obtain ⟨a, rfl, ra⟩ := r.one
    obtain rfl := ra.int_
    exact ⟨_, rfl, c _ _ _ _ q Stp.refl .int hS⟩
  · exact q.elim
def intD : FL := fun ds S k => match ds with
  | [.int i] => k (.int i) S
  | [.bl b] => k (.int (if b then 1 else 0)) S
  | _ => False
theorem cInt : CallD X (.type "int") intD := by
  refine ⟨_, call_int1, fun ds S k vs H Q q r hS c => ?_⟩
  unfold intD at q
  split at q
  · obtain ⟨a, rfl, ra⟩ := r.one
    obtain rfl := ra.int_
    exact .inl ⟨_, rfl, c _ _ _ _ q Stp.refl .int hS⟩
  · obtain ⟨a, rfl, ra⟩ := r.one
    obtain rfl := ra.bl_
    exact .inr ⟨_, rfl, c _ _ _ _ q Stp.refl .int hS⟩
  · exact q.elim
/-! ### methods of lists -/
def extendD : D → FL := fun x ds S k => match x, ds with
  | .ref l, [.ref b] => match S l, S b with
    | some (.lst xs), some (.lst ys) => xs.length + ys.length ≤ sizeLine ∧ k .non (S.upd l (.lst (xs ++ ys)))
    | _, _ => False
  | _, _ => False
theorem mExtend : MtD X "list.extend" extendD := by
  refine ⟨_, mt_extend, fun x ds S k v vs H Q q rx rl hS c => ?_⟩
  unfold extendD at q
  split at q
  · split at q
    · rename_i l b _ _ xs ys e1 e2
      have := rx.ref_; subst this
      obtain ⟨u, rfl, ru⟩ := rl.one
      have := ru.ref_; subst this
      obtain ⟨ws, h1, h2⟩ := hS.lst e1
      obtain ⟨zs, h3, h4⟩ := hS.lst e2
      refine ⟨l, b, ws, zs, rfl, rfl, h1, h3, by rw [← h2.length, ← h4.length]; exact q.1, c _ _ _ _ q.2 (Stp.write e1) .non (hS.write h1 True.intro True.intro ⟨_, rfl, (h2.append h4).mon (Mon.write h1 True.intro)⟩)⟩
    · exact q.elim
  · exact q.elim
def clearD : D → FL := fun x ds S k => match x, ds with
  | .ref l, [] => match S l with
    | some (.lst _) => k .non (S.upd l (.lst []))
    | _ => False
  | _, _ => False
theorem mClear : MtD X "list.clear" clearD := by
  refine ⟨_, mt_clear, fun x ds S k v vs H Q q rx rl hS c => ?_⟩
  unfold clearD at q
  split at q
  · split at q
    · rename_i l _ xs e1
      have := rx.ref_; subst this
      obtain rfl := rl.nil_of
      obtain ⟨ws, h1, h2⟩ := hS.lst e1
      exact ⟨l, ws, rfl, rfl, h1, c _ _ _ _ q (Stp.write e1) .non (hS.write h1 True.intro True.intro ⟨_, rfl, .nil⟩)⟩
    · exact q.elim
  · exact q.elim
def insertD : D → FL := fun x ds S k => match x, ds with
  | .ref l, [.int i, d] => match S l with
    | some (.lst xs) => xs.length < sizeLine ∧ 0 ≤ i ∧ i < 2 ^ 63 ∧ k .non (S.upd l (.lst (xs.take i.toNat ++ [d] ++ xs.drop i.toNat)))
    | _ => False
  | _, _ => False
theorem mInsert : MtD X "list.insert" insertD := by
  refine ⟨_, mt_insert, fun x ds S k v vs H Q q rx rl hS c => ?_⟩
  unfold insertD at q
  split at q
  · split at q
    · rename_i l i d _ xs e1
      have := rx.ref_; subst this
      obtain ⟨a, b, rfl, ra, rb⟩ := rl.two
      have := ra.int_; subst this
      obtain ⟨ws, h1, h2⟩ := hS.lst e1
      obtain ⟨q1, q2, q3, q⟩ := q
      exact ⟨l, ws, i, b, rfl, rfl, h1, by rw [← h2.length]; exact q1, q2, q3, c _ _ _ _ q (Stp.write e1) .non (hS.write h1 True.intro True.intro ⟨_, rfl, (((h2.take _).append (.cons rb .nil)).append (h2.drop _)).mon (Mon.write h1 True.intro)⟩)⟩
    · exact q.elim
  · exact q.elim
/-- xs.pop() -/
def popD : D → FL := fun x ds S k => match x, ds with
  | .ref l, [] => match S l with
    | some (.lst xs) => ∃ ys d, xs = ys ++ [d] ∧ k d (S.upd l (.lst ys))
    | _ => False
  | _, _ => False
theorem mPop : MtD X "list.pop" popD := by
  refine ⟨_, mt_pop, fun x ds S k v vs H Q q rx rl hS c => ?_⟩
  unfold popD at q
  split at q
  · split at q
    · rename_i l _ xs e1
      have := rx.ref_; subst this
      obtain rfl := rl.nil_of
      obtain ⟨ys, d, rfl, q⟩ := q
      obtain ⟨ws, h1, h2⟩ := hS.lst e1
      obtain ⟨y, e2, ry⟩ := h2.get (i := ys.length) (d := d) (by simp)
      have hl := h2.length
      have t := h2.take ys.length
      rw [List.take_left] at t
      have el : ws.dropLast = ws.take ys.length := by
        rw [List.dropLast_eq_take]
        congr 1
        simp at hl; omega
      refine ⟨l, ws, y, rfl, rfl, h1, by rw [show ws.length - 1 = ys.length by simp at hl; omega]; exact e2, ?_⟩
      rw [el]
      exact c _ _ _ _ q (Stp.write e1) (ry.mon (Mon.write h1 True.intro)) (hS.write h1 True.intro True.intro ⟨_, rfl, t.mon (Mon.write h1 True.intro)⟩)
    · exact q.elim
  · exact q.elim
end
end DL
/-! sorted(set(..)), stars, sum -/
namespace DL
open PySem PySem.Spec PyProof.Rows L2
section
variable {X : Cx} {e a : Expr} {re : RT} {p pos : Pos}
/-- sorted(set(t)) of a tuple of ints: a new list, ascending -/
def rSortSet (re : RT) : RT := fun env S k => re env S fun d S1 => ∃ ns : List Int, d = .tup (ns.map D.int) ∧ ns.length ≤ 4000 ∧ (∀ L : List Int, L.Nodup → (∀ i ∈ L, i ∈ ns) → L.length < 64) ∧ ∀ (L : List Int) (p : Addr), L.Pairwise (· < ·) → (∀ i, i ∈ L ↔ i ∈ ns) → S1 p = none → k (.ref p) (S1.upd p (.lst (L.map D.int)))
theorem re_sortSet {p2 q : Pos} (hg : Gl X "sorted") (hm : X.mg "sorted" = none) (hg2 : Gl X "set") (hm2 : X.mg "set" = none) (ha : RE X a re) (hc : X.calm = true := by rfl)
    (na : starEach [a] X.env = (false, eval a X.env) :: starEach [] X.env := by rfl) : RE X (.Call (.Name "sorted" p) [.Call (.Name "set" p2) [a] [] q] [] pos) (rSortSet re) := by
  constructor
  rintro pins s σ H Q I ⟨env, S, k, hE, hS, hq, c⟩
  refine Call_ (ld_blt I hg hm boot_sorted (PyProof.Rows.callWith_builtin1 (PyProof.Rows.args_cons (Call_ (ld_blt I hg2 hm2 boot_set ?_)) rfl) rfl rfl))
  refine PyProof.Rows.callWith_type1 (PyProof.Rows.args_cons (thn (PE.run ha pins s σ H (fun v H1 => ∃ d S1, (∃ ns : List Int, d = .tup (ns.map D.int) ∧ ns.length ≤ 4000 ∧ (∀ L : List Int, L.Nodup → (∀ i ∈ L, i ∈ ns) → L.length < 64) ∧ ∀ (L : List Int) (p : Addr), L.Pairwise (· < ·) → (∀ i, i ∈ L ↔ i ∈ ns) → S1 p = none → k (.ref p) (S1.upd p (.lst (L.map D.int)))) ∧ Stp H S H1 S1 ∧ Rp X.K H1 d v ∧ AbsS X.K S1 H1) I ⟨env, S, _, hE, hS, hq, fun d S1 v H1 q1 st r1 hS1 => ⟨d, S1, q1, st, r1, hS1⟩⟩) ?_) na) na rfl
  rintro v s1 ⟨x, H1, I1, r1, d, S1, ⟨ns, rfl, hl, few, q1⟩, st, rd, hS1⟩
  refine PyProof.Rows.args_nil ?_
  obtain ⟨l, vs, rfl, h1, h2⟩ := rd.tup_
  have := h2.ints; subst this
  cases r1
  obtain ⟨its, r, pl, hz⟩ := I1.tuple h1.sq
  have hdn := I1.ok.hd hc
  refine call_set_tupI ns hdn (show s1.heap.IsTuple l its.toArray from pl) (by simpa using r.ints) (by unfold scanBound; omega) fun h' tk cc R1 hcn kp => PyProof.Rows.args_nil ?_
  have I2 : Inv X pins σ H1 { s1 with heap := h', toks := tk } := I1.kept kp
  have room : cc < 64 := by
    obtain ⟨o, es, ep, t, ho, hex, hd, g, nd, mem, hb, hf, hn, _, _⟩ := R1
    have el : (es.toList.map keyOf).length = cc := by rw [List.length_map, Array.length_toList, hn]
    rw [← el]
    exact few _ nd fun i hi => of_decide_eq_true ((mem i).mpr hi)
  refine sorted_set R1 hdn room fun s' q out cap L keep gens os young at_ il asc mem len => ?_
  have fresh : H1 q = none := I2.hok.fresh young
  have short : (L.map V.int).length ≤ sizeLine := by rw [List.length_map, len]; exact Nat.le_of_lt (Nat.lt_trans room (by decide))
  have J : Inv X pins σ (L2.upd H1 q (.lst (L.map V.int))) { ({ s1 with heap := h', toks := tk } : Shared) with heap := s'.heap, gens := s'.gens, drawn := s'.drawn, toks := s'.toks } := by
    refine I2.call (ch := []) (Un.laid keep young fresh) (I2.hok.laid keep young ⟨short, out.toList, cap, vals_of_ints il, at_⟩) ?_ (fun _ z => nomatch z)
    rw [gens]; exact I2.bare
  have same : s' = { s1 with heap := s'.heap, gens := s'.gens, drawn := s'.drawn, toks := s'.toks } := by
    cases s'; cases os; rfl
  rw [same]
  refine ⟨.ref q, _, J, rfl, ?_⟩
  refine c _ _ _ _ (q1 L q asc (fun i => by rw [mem i, decide_eq_true_iff]) (hS1.free fresh)) (st.trans (Stp.laid fresh)) .ref (hS1.laid fresh True.intro ⟨_, rfl, RpL.of_ints.mon (Mon.laid fresh)⟩)
end
end DL
namespace DL
open PySem PySem.Spec PyProof.Rows L2
section
variable {X : Cx} {e : Expr} {es : List Expr} {re : RT} {rl : RTa} {p : Pos}
/-- *e among arguments or in a display -/
def rStar (re : RT) (rl : RTa) : RTa := fun env S k => re env S fun d S1 => ∃ xs, seqOf S1 d = some xs ∧ rl env S1 fun ys S2 => k (xs ++ ys) S2
theorem ra_star (he : RE X e re) (hr : RA X es rl) (hs : starEach (.Starred e p :: es) X.env = (true, eval e X.env) :: starEach es X.env := by rfl) : RA X (.Starred e p :: es) (rStar re rl) := by
  refine PA.imp (StX.pa_star he hr hs) fun σ H Q ⟨env, S, k, hE, hS, q, c⟩ => ?_
  refine ⟨env, S, _, hE, hS, q, fun d S1 v H1 ⟨xs, ex, q1⟩ st1 r1 hS1 => ?_⟩
  obtain ⟨a, vs, rfl, hq, rl1⟩ := seq_of ex r1 hS1
  refine ⟨a, vs, rfl, hq.symm, env, S1, _, hE.mon (st1.mon hS), hS1, q1, fun ys S2 us H2 q2 st2 r2 hS2 => ?_⟩
  exact c _ _ _ _ q2 (st1.trans st2) ((rl1.mon (st2.mon hS1)).append r2) hS2
/-- sum of a list of ints -/
def sumD : FL := fun ds S k => match ds with
  | [d] => ∃ ns : List Int, seqOf S d = some (ns.map D.int) ∧ isTup d = false ∧ k (.int ns.sum) S
  | _ => False
theorem cSum (hc : X.calm = true) : CallD X (.builtin "sum") sumD := by
  refine ⟨_, cr_sum hc, fun ds S k vs H Q q r hS c => ?_⟩
  unfold sumD at q
  split at q
  · obtain ⟨v, rfl, rv⟩ := r.one
    obtain ⟨ns, ex, nt, q⟩ := q
    obtain ⟨a, us, rfl, _, _⟩ := seq_of ex rv hS
    obtain ⟨ws, hl, rw_⟩ := sq_lst ex nt rv hS
    have := rw_.ints; subst this
    exact ⟨a, ns, rfl, hl, c _ _ _ _ q Stp.refl .int hS⟩
  · exact q.elim
/-- xs.count(i) of a list of ints -/
def countD : D → FL := fun x ds S k => match ds with
  | [.int i] => ∃ ns : List Int, seqOf S x = some (ns.map D.int) ∧ isTup x = false ∧ k (.int (ns.count i : Nat)) S
  | _ => False
theorem mCount : MtD X "list.count" countD := by
  refine ⟨_, mt_lcount, fun x ds S k v vs H Q q rx rl hS c => ?_⟩
  unfold countD at q
  split at q
  · obtain ⟨u, rfl, ru⟩ := rl.one
    obtain rfl := ru.int_
    obtain ⟨ns, ex, nt, q⟩ := q
    obtain ⟨a, us, rfl, _, _⟩ := seq_of ex rx hS
    obtain ⟨ws, hl, rw_⟩ := sq_lst ex nt rx hS
    have := rw_.ints; subst this
    exact ⟨a, ns, _, rfl, rfl, hl, c _ _ _ _ q Stp.refl .int hS⟩
  · exact q.elim
end
end DL
namespace DL
open PySem PySem.Spec PyProof.Rows L2
/-! ### sets of None and ints -/
def SkAt (a : Addr) (f : Ck → Bool) (n : Nat) : Heap → Prop := fun h => ∀ (P : Program) (w : World), h.SetOf (caseK P w) a f n
abbrev skO (a : Addr) (f : Ck → Bool) (n : Nat) : HO := .ext (SkAt a f n)
theorem set_world {P P' : Program} {w w' : World} {h : Heap} {a : Addr} {f : Ck → Bool} {n : Nat} (d : h.SetOf (caseK P w) a f n) : h.SetOf (caseK P' w') a f n := d
theorem sk_ok {P : Program} {w : World} {H : Hp} {h : Heap} {a : Addr} {f : Ck → Bool} {n : Nat} (d : h.SetOf (caseK P w) a f n) : ObjOk P w H h a (skO a f n) := by
  refine ⟨fun P' w' => set_world d, ?_, ?_⟩
  · obtain ⟨o, _, _, _, e, _⟩ := d
    exact ⟨o, e⟩
  · intro h1 h2 p k P' w'
    obtain ⟨o, es, ep, t, e, rest⟩ := p P' w'
    exact ⟨o, es, ep, t, k o e, rest⟩
theorem ck_scan {k : Ck} {u : Value} (r : RelV (ckV k) u) : u.scannable = true := by
  cases k with
  | none => cases (show u = Value.none from r); rfl
  | some i => obtain ⟨t, rfl⟩ := r; rfl
section
variable {X : Cx}
/-- set() -/
def rSet0 : RT := fun _ S k => ∀ p, S p = none → k (.ref p) (S.upd p (.ho (skO p (fun _ => false) 0)))
theorem cr_skNew : CallR X (.type "set") (fun xs H Q => xs = [] ∧ ∀ p, H p = none → Q (.ref p) (L2.upd H p (skO p (fun _ => false) 0))) := by
  rintro pins s σ H xs us Q I r ⟨rfl, q⟩
  cases r
  refine setR_new fun _ => ?_
  have d : (s.heap.push { cls := .type "set", dict := none, data := .set #[] 0 (.fresh 0 0 (!X.w.params.followText "set-order")) }).SetOf (caseK X.prog X.w) s.heap.objs.size (fun _ => false) 0 :=
    ⟨_, #[], 0, _, Heap.get?_push_size _ rfl, ⟨rfl, rfl, rfl⟩, rfl, (fun e he => by simp at he), (fun k => by simp), (by decide), (by rfl), rfl⟩
  exact ⟨.ref _, _, I.laid (t' := s.toks) (fun b u e => Heap.get?_push_of_some _ e) (Nat.le_refl _) (sk_ok d), rfl, q _ (I.hok.fresh (Nat.le_refl _))⟩
theorem re_set0 {p pos : Pos} (hg : Gl X "set") (hm : X.mg "set" = none) : RE X (.Call (.Name "set" p) [] [] pos) rSet0 := by
  refine PE.imp (pe_callTy0 cr_skNew hg hm PyProof.Rows.boot_set) fun σ H Q ⟨env, S, k, hE, hS, q, c⟩ => ?_
  refine ⟨rfl, fun p hp => c _ _ _ _ (q p (hS.free hp)) (Stp.laid hp) .ref (hS.laid hp True.intro rfl)⟩
/-- k in found -/
def inSk (neg : Bool) : F2 := fun x y S k => ∃ c a f n, x = ckD c ∧ y = .ref a ∧ S a = some (.ho (skO a f n)) ∧ k (.bl (neg ^^ f c)) S
def rInSk (neg : Bool) : R2 := fun x y H Q => ∃ c a f n, x = ckV c ∧ y = .ref a ∧ H a = some (skO a f n) ∧ Q (.bl (neg ^^ f c)) H
theorem or_inSk : OpR X (compareOp .In) (rInSk false) := by
  rintro pins s σ H x y v u Q I rx ry ⟨c, a, f, n, rfl, rfl, e, q⟩
  cases ry
  refine wpAny_inSet_of (ck_is rx) (ck_scan rx) ((I.hok a _ e).1 X.prog X.w) ⟨.bl (f c), H, I.tok _, rfl, ?_⟩
  rw [Bool.false_xor] at q; exact q
theorem or_notinSk : OpR X (compareOp .NotIn) (rInSk true) := by
  rintro pins s σ H x y v u Q I rx ry ⟨c, a, f, n, rfl, rfl, e, q⟩
  cases ry
  refine wpAny_notInSet_of (ck_is rx) (ck_scan rx) ((I.hok a _ e).1 X.prog X.w) ⟨.bl (!f c), H, I.tok _, rfl, ?_⟩
  rw [Bool.true_xor] at q; exact q
theorem inSk_go {neg : Bool} {x y : D} {S : Sto} {k : RK} {v u : V} {H : Hp} {Q : VK} (q : inSk neg x y S k) (rx : Rp X.K H x v) (ry : Rp X.K H y u) (hS : AbsS X.K S H) (c : Cl X.K H S k Q) : rInSk neg v u H Q := by
  obtain ⟨c0, a, f, n, rfl, rfl, e, q⟩ := q
  obtain rfl := ry.ref_
  obtain ⟨h, e1, _, e2⟩ := hS _ _ e
  have e2' : h = skO a f n := e2
  subst e2'
  exact ⟨c0, a, f, n, ck_of rx, rfl, e1, c _ _ _ _ q Stp.refl .bl hS⟩
theorem opInSk : Op2 X (compareOp .In) (inSk false) := ⟨_, or_inSk, fun x y S k v u H Q q rx ry hS c => inSk_go q rx ry hS c⟩
theorem opNotInSk : Op2 X (compareOp .NotIn) (inSk true) := ⟨_, or_notinSk, fun x y S k v u H Q q rx ry hS c => inSk_go q rx ry hS c⟩
/-- found.add(k) -/
def rSAdd (ro ra : RT) : RT := fun env S k => ro env S fun x S1 => ∃ a f n, x = .ref a ∧ S1 a = some (.ho (skO a f n)) ∧ ra env S1 fun y S2 => ∃ c f n, y = ckD c ∧ S2 a = some (.ho (skO a f n)) ∧ n + 1 < scanBound ∧
  k .non (S2.upd a (.ho (skO a (fun j => f j || decide (j = c)) (if f c = true then n else n + 1))))
theorem re_sadd {o e : Expr} {ro ra : RT} {apos cpos : Pos} (ho : RE X o ro) (ha : RE X e ra)
    (hbase : attributeBase o "add" X.env (eval o X.env) = eval o X.env := by rfl)
    (few : ((backTo cpos (starEach [e] X.env)).all (fun x => !x.1) && (backToKw cpos (keywordEach [] X.env)).all (fun x => x.1.isSome) && decide ([e].length + ([] : List Keyword).length + (if ([] : List Keyword).isEmpty then 0 else 1) < 30)) = true := by rfl)
    (hline : (apos.endLine == cpos.line) = true := by rfl) (hs : starEach [e] X.env = (false, eval e X.env) :: starEach [] X.env := by rfl) (hp : (backTo cpos (starEach [] X.env)).any (·.1) = false := by rfl) :
    RE X (.Call (.Attribute o "add" apos) [e] [] cpos) (rSAdd ro ra) := by
  constructor
  rintro pins s σ H Q I ⟨env, S, k, hE, hS, q, c⟩
  refine wpAny_Call_method_late hbase few hline rfl (thn (PE.run ho pins s σ H (fun v H1 => ∃ x S1, (∃ a f n, x = D.ref a ∧ S1 a = some (.ho (skO a f n)) ∧ ra env S1 fun y S2 => ∃ c f n, y = ckD c ∧ S2 a = some (.ho (skO a f n)) ∧ n + 1 < scanBound ∧
    k .non (S2.upd a (.ho (skO a (fun j => f j || decide (j = c)) (if f c = true then n else n + 1))))) ∧ Stp H S H1 S1 ∧ Rp X.K H1 x v ∧ AbsS X.K S1 H1) I ⟨env, S, _, hE, hS, q, fun d S1 v H1 q1 st r1 hS1 => ⟨d, S1, q1, st, r1, hS1⟩⟩) ?_)
  rintro v s1 ⟨xv, H1, I1, rx, d, S1, ⟨a, f, n, rfl, e1, q1⟩, st, rd, hS1⟩
  obtain rfl := rd.ref_
  obtain rfl : v = Value.ref a := rx
  obtain ⟨h, e2, _, e3⟩ := hS1 _ _ e1
  have e3' : h = skO a f n := e3
  subst e3'
  have so := (I1.hok a _ e2).1 X.prog X.w
  refine ⟨"set", "set.add", F.plainAttrs_set, F.slot_set_add, F.type_set_add, so.typeIs, so.noDict, ?_⟩
  rw [hs]
  refine Calls.callWith_builtin (by show (false || (backTo cpos (starEach [] X.env)).any (·.1)) = false; rw [hp]; rfl) (Calls.evalArgs_plain ?_)
  refine Calls.spliced_cons (thn (PE.run ha pins s1 σ H1 (fun v H2 => ∃ y S2, (∃ c f n, y = ckD c ∧ S2 a = some (.ho (skO a f n)) ∧ n + 1 < scanBound ∧
    k .non (S2.upd a (.ho (skO a (fun j => f j || decide (j = c)) (if f c = true then n else n + 1))))) ∧ Stp H1 S1 H2 S2 ∧ Rp X.K H2 y v ∧ AbsS X.K S2 H2) I1 ⟨env, S1, _, hE.mon (st.mon hS), hS1, q1, fun d S2 v H2 q2 st2 r2 hS2 => ⟨d, S2, q2, st2, r2, hS2⟩⟩) ?_)
  rintro v2 s2 ⟨yv, H2, I2, ry, d2, S2, ⟨c0, f2, n2, rfl, e4, room, q2⟩, st2, rd2, hS2⟩
  refine Calls.spliced_nil ?_
  obtain ⟨h2, e5, _, e6⟩ := hS2 _ _ e4
  have e6' : h2 = skO a f2 n2 := e6
  subst e6'
  obtain rfl := ck_of rd2
  refine call_set_add (ck_is ry) (ck_scan ry) ((I2.hok a _ e5).1 X.prog X.w) room fun h' sb new => ?_
  have he : ∃ u, h'.get? a = some u := by
    obtain ⟨o, _, _, _, z, _⟩ := id new
    exact ⟨o, z⟩
  refine ⟨.non, _, I2.write (e := a) (t' := s2.toks + 1) (by rw [e5]; exact True.intro) (.inl rfl) (fun b u hb hu => (sb.2 b hb).trans hu) he (sk_ok new), rfl, ?_⟩
  exact c _ _ _ _ q2 ((st.trans st2).trans (Stp.write e4)) .non (hS2.write e5 True.intro True.intro rfl)
end
end DL
/-! lanes and days as numbers: what the document says, without any program -/
namespace DL
open PySem PySem.Spec PyProof.Rows L2
def playN (ns cs : List Int) : List Int := cs.foldl stepN ns
/-- an exchange: no car for c, c for no car -/
def exN (x : Ck) (c : Int) : Ck := match x with
  | none => some c
  | some y => if y = c then none else some y
def dayN (cs : List Int) (x : Ck) : Ck := cs.foldl exN x
def fixN (ns cs : List Int) : List Int := ns.takeWhile fun n => !decide (n ∈ cs)
def restN (ns cs : List Int) : List Int := ns.dropWhile fun n => !decide (n ∈ cs)
def caseN (ns cs : List Int) : Ck := (restN ns cs).head?
def endN (cs : List Int) (x : Ck) : List Int := playN x.toList cs
/-- a case of the calls -/
def IsCase (cs : List Int) (x : Ck) : Prop := ∀ c, x = some c → c ∈ cs
theorem fix_rest (ns cs : List Int) : fixN ns cs ++ restN ns cs = ns := List.takeWhile_append_dropWhile
theorem fix_out {ns cs : List Int} {n : Int} (h : n ∈ fixN ns cs) : n ∉ cs := by
  unfold fixN at h
  induction ns with
  | nil => cases h
  | cons m ns ih =>
    rw [List.takeWhile_cons] at h
    by_cases e : m ∈ cs
    · rw [if_neg (by simpa using e)] at h; cases h
    · rw [if_pos (by simpa using e)] at h
      rcases List.mem_cons.mp h with rfl | q
      · exact e
      · exact ih q
theorem case_is {ns cs : List Int} : IsCase cs (caseN ns cs) := by
  intro c e
  unfold caseN restN at e
  induction ns with
  | nil => cases e
  | cons m ns ih =>
    rw [List.dropWhile_cons] at e
    by_cases g : m ∈ cs
    · rw [if_neg (by simpa using g)] at e
      cases e; exact g
    · rw [if_pos (by simpa using g)] at e
      exact ih e
theorem fix_app {f r cs : List Int} (h : ∀ n ∈ f, n ∉ cs) : fixN (f ++ r) cs = f ++ fixN r cs := by
  unfold fixN
  rw [List.takeWhile_append_of_pos]
  intro n hn
  simpa using h n hn
theorem rest_app {f r cs : List Int} (h : ∀ n ∈ f, n ∉ cs) : restN (f ++ r) cs = restN r cs := by
  unfold restN
  rw [List.dropWhile_append_of_pos]
  intro n hn
  simpa using h n hn
theorem fix_none {r cs : List Int} (h : ∀ n ∈ r, n ∈ cs) : fixN r cs = [] ∧ restN r cs = r := by
  cases r with
  | nil => exact ⟨rfl, rfl⟩
  | cons n r =>
    have e := h n (List.mem_cons_self ..)
    unfold fixN restN
    rw [List.takeWhile_cons, List.dropWhile_cons, if_neg (by simpa using e), if_neg (by simpa using e)]
    exact ⟨rfl, rfl⟩
/-- the fixed cars stay, and the rest behaves as a lane of its own -/
theorem step_app {f r : List Int} {c : Int} (h : c ∉ f) : stepN (f ++ r) c = f ++ stepN r c := by
  by_cases m : c ∈ r
  · rw [step_in m, step_in (List.mem_append_right _ m), List.takeWhile_append_of_pos]
    intro n hn
    simp
    intro e; subst e; exact h hn
  · rw [step_out m, step_out (by simp [h, m]), List.append_assoc]
theorem play_app {f : List Int} : ∀ {cs r : List Int}, (∀ n ∈ f, n ∉ cs) → playN (f ++ r) cs = f ++ playN r cs
  | [], r, _ => rfl
  | c :: cs, r, h => by
    show playN (stepN (f ++ r) c) cs = f ++ playN (stepN r c) cs
    rw [step_app fun z => h c z (List.mem_cons_self ..)]
    exact play_app fun n hn z => h n hn (List.mem_cons_of_mem _ z)
theorem step_cons {y c : Int} {r : List Int} (h : c ≠ y) : ∃ r', stepN (y :: r) c = y :: r' := by
  by_cases m : c ∈ r
  · rw [step_in (List.mem_cons_of_mem _ m), List.takeWhile_cons, if_pos (by simpa using Ne.symm h)]
    exact ⟨_, rfl⟩
  · rw [step_out (by simp [h, m])]
    exact ⟨_, rfl⟩
theorem step_self {y : Int} {r : List Int} : stepN (y :: r) y = [] := by
  rw [step_in (List.mem_cons_self ..), List.takeWhile_cons, if_neg (by simp)]
/-- only the innermost car decides -/
theorem play_head {y : Int} : ∀ {cs r r' : List Int}, y ∈ cs → playN (y :: r) cs = playN (y :: r') cs
  | c :: cs, r, r', h => by
    show playN (stepN (y :: r) c) cs = playN (stepN (y :: r') c) cs
    by_cases e : c = y
    · subst e; rw [step_self, step_self]
    · obtain ⟨a, ea⟩ := step_cons (r := r) e
      obtain ⟨b, eb⟩ := step_cons (r := r') e
      rw [ea, eb]
      exact play_head (by rcases List.mem_cons.mp h with q | q; exact absurd q.symm e; exact q)
theorem head_step (r : List Int) (c : Int) : (stepN r c).head? = exN r.head? c := by
  cases r with
  | nil => rfl
  | cons y r =>
    by_cases e : c = y
    · subst e; rw [step_self]; simp [exN]
    · obtain ⟨a, ea⟩ := step_cons (r := r) e
      rw [ea]
      simp [exN, Ne.symm e]
theorem head_play : ∀ (cs r : List Int), (playN r cs).head? = dayN cs r.head?
  | [], _ => rfl
  | c :: cs, r => by
    show (playN (stepN r c) cs).head? = dayN cs (exN r.head? c)
    rw [head_play cs, head_step]
theorem mem_step {r : List Int} {c n : Int} (h : n ∈ stepN r c) : n ∈ r ∨ n = c := by
  by_cases m : c ∈ r
  · rw [step_in m] at h
    exact .inl ((List.takeWhile_prefix _).subset h)
  · rw [step_out m] at h
    rcases List.mem_append.mp h with q | q
    · exact .inl q
    · exact .inr (List.mem_singleton.mp q)
theorem mem_play : ∀ {cs r : List Int} {n : Int}, n ∈ playN r cs → n ∈ r ∨ n ∈ cs
  | [], _, _, h => .inl h
  | c :: cs, r, n, h => by
    rcases mem_play (cs := cs) (r := stepN r c) h with q | q
    · rcases mem_step q with z | z
      · exact .inl z
      · exact .inr (z ▸ List.mem_cons_self ..)
    · exact .inr (List.mem_cons_of_mem _ q)
theorem end_in {cs : List Int} {x : Ck} (h : IsCase cs x) : ∀ n ∈ endN cs x, n ∈ cs := by
  intro n hn
  rcases mem_play hn with q | q
  · cases x with
    | none => simp at q
    | some y =>
      have : n = y := by simpa using q
      rw [this]; exact h y rfl
  · exact q
/-- a day: the fixed part, and the end lane of the case -/
theorem day_end (ns cs : List Int) : playN ns cs = fixN ns cs ++ endN cs (caseN ns cs) := by
  have e := fix_rest ns cs
  have p := play_app (f := fixN ns cs) (cs := cs) (r := restN ns cs) fun n hn => fix_out hn
  rw [e] at p
  rw [p]
  congr 1
  unfold endN caseN
  cases h : restN ns cs with
  | nil => rfl
  | cons y r =>
    have c : IsCase cs (caseN ns cs) := case_is
    have m : y ∈ cs := c y (by unfold caseN; rw [h]; rfl)
    exact play_head m
theorem head_end (cs : List Int) (x : Ck) : (endN cs x).head? = dayN cs x := by
  unfold endN
  rw [head_play]
  cases x <;> rfl
theorem fix_day (ns cs : List Int) : fixN (playN ns cs) cs = fixN ns cs := by
  rw [day_end, fix_app fun n hn => fix_out hn, (fix_none (end_in case_is)).1, List.append_nil]
theorem case_day (ns cs : List Int) : caseN (playN ns cs) cs = dayN cs (caseN ns cs) := by
  rw [day_end]
  show (restN (fixN ns cs ++ endN cs (caseN ns cs)) cs).head? = dayN cs (caseN ns cs)
  rw [rest_app fun n hn => fix_out hn, (fix_none (end_in (x := caseN ns cs) case_is)).2]
  exact head_end cs _
theorem case_fix {f e cs : List Int} (hf : ∀ n ∈ f, n ∉ cs) (he : ∀ n ∈ e, n ∈ cs) : fixN (f ++ e) cs = f ∧ caseN (f ++ e) cs = e.head? := by
  refine ⟨by rw [fix_app hf, (fix_none he).1, List.append_nil], ?_⟩
  unfold caseN
  rw [rest_app hf, (fix_none he).2]
/-! ### days in a row -/
def daysN (cs : List Int) : Nat → List Int → List Int
  | 0, ns => ns
  | n + 1, ns => daysN cs n (playN ns cs)
def iterN (cs : List Int) : Nat → Ck → Ck
  | 0, x => x
  | n + 1, x => iterN cs n (dayN cs x)
theorem iter_succ (cs : List Int) : ∀ (n : Nat) (x : Ck), iterN cs (n + 1) x = dayN cs (iterN cs n x)
  | 0, _ => rfl
  | n + 1, x => by
    show iterN cs (n + 1) (dayN cs x) = _
    rw [iter_succ cs n]; rfl
theorem iter_add (cs : List Int) : ∀ (m n : Nat) (x : Ck), iterN cs (m + n) x = iterN cs m (iterN cs n x)
  | m, 0, x => rfl
  | m, n + 1, x => by
    show iterN cs (m + n) (dayN cs x) = _
    exact iter_add cs m n _
theorem days_add (cs : List Int) : ∀ (m n : Nat) (ns : List Int), daysN cs (m + n) ns = daysN cs m (daysN cs n ns)
  | m, 0, ns => rfl
  | m, n + 1, ns => days_add cs m n _
/-- after n + 1 days -/
theorem days_end (cs : List Int) : ∀ (n : Nat) (ns : List Int), daysN cs (n + 1) ns = fixN ns cs ++ endN cs (iterN cs n (caseN ns cs))
  | 0, ns => day_end ns cs
  | n + 1, ns => by
    show daysN cs (n + 1) (playN ns cs) = _
    rw [days_end cs n, fix_day, case_day]; rfl
/-! ### cases in a row: exchanges are turned about by themselves -/
theorem ex_ex (x : Ck) (c : Int) : exN (exN x c) c = x := by
  cases x with
  | none => simp [exN]
  | some y =>
    by_cases e : y = c
    · subst e; simp [exN]
    · simp [exN, e]
theorem ex_inj {x y : Ck} {c : Int} (h : exN x c = exN y c) : x = y := by rw [← ex_ex x c, h, ex_ex]
theorem day_inj : ∀ {cs : List Int} {x y : Ck}, dayN cs x = dayN cs y → x = y
  | [], _, _, h => h
  | c :: cs, x, y, h => ex_inj (day_inj (cs := cs) h)
theorem iter_inj {cs : List Int} : ∀ {n : Nat} {x y : Ck}, iterN cs n x = iterN cs n y → x = y
  | 0, _, _, h => h
  | n + 1, x, y, h => day_inj (iter_inj (n := n) h)
theorem ex_case {cs : List Int} {x : Ck} {c : Int} (h : IsCase cs x) (hc : c ∈ cs) : IsCase cs (exN x c) := by
  intro y e
  cases x with
  | none => cases e; exact hc
  | some z =>
    unfold exN at e
    dsimp only at e
    split at e
    · cases e
    · cases e; exact h _ rfl
theorem fold_case {cs : List Int} : ∀ {ds : List Int} {x : Ck}, IsCase cs x → (∀ d ∈ ds, d ∈ cs) → IsCase cs (ds.foldl exN x)
  | [], _, h, _ => h
  | d :: ds, x, h, g => by
    show IsCase cs (ds.foldl exN (exN x d))
    exact fold_case (ex_case h (g d (List.mem_cons_self ..))) fun e he => g e (List.mem_cons_of_mem _ he)
theorem day_case {cs : List Int} {x : Ck} (h : IsCase cs x) : IsCase cs (dayN cs x) := fold_case h fun d hd => hd
theorem iter_case {cs : List Int} : ∀ {n : Nat} {x : Ck}, IsCase cs x → IsCase cs (iterN cs n x)
  | 0, _, h => h
  | n + 1, _, h => iter_case (n := n) (day_case h)
theorem end_inj {cs : List Int} {x y : Ck} (h : endN cs x = endN cs y) : x = y := by
  have := congrArg List.head? h
  rw [head_end, head_end] at this
  exact day_inj this
/-! ### round and round -/
theorem nd_leK : ∀ {L M : List Ck}, L.Nodup → (∀ x ∈ L, x ∈ M) → L.length ≤ M.length
  | [], M, _, _ => Nat.zero_le _
  | x :: L, M, h, g => by
    have hx := g x (List.mem_cons_self ..)
    have h' := List.nodup_cons.mp h
    have := nd_leK (L := L) (M := M.erase x) h'.2 fun y hy => (List.mem_erase_of_ne (fun e => by rw [e] at hy; exact h'.1 hy)).mpr (g y (List.mem_cons_of_mem _ hy))
    rw [List.length_erase_of_mem hx] at this
    have := List.length_pos_of_mem hx
    rw [List.length_cons]; omega
def casesN (cs : List Int) : List Ck := none :: cs.map some
theorem mem_cases {cs : List Int} {x : Ck} : x ∈ casesN cs ↔ IsCase cs x := by
  unfold casesN IsCase
  cases x with
  | none => simp
  | some y => simp
theorem some_period {cs : List Int} {x : Ck} (h : IsCase cs x) : ∃ p, 0 < p ∧ p ≤ cs.length + 1 ∧ iterN cs p x = x := by
  by_cases nd : ((List.range (cs.length + 2)).map fun n => iterN cs n x).Nodup
  · have := nd_leK (M := casesN cs) nd fun y hy => by
      obtain ⟨n, _, rfl⟩ := List.mem_map.mp hy
      exact mem_cases.mpr (iter_case h)
    simp [casesN] at this
  · rw [List.nodup_iff_pairwise_ne, List.pairwise_iff_getElem] at nd
    have ⟨i, j, hi, hj, hij, e⟩ : ∃ i j, i < cs.length + 2 ∧ j < cs.length + 2 ∧ i < j ∧ iterN cs i x = iterN cs j x := Classical.byContradiction fun no => nd fun i j hi hj hij e => by
      simp only [List.length_map, List.length_range] at hi hj
      simp only [List.getElem_map, List.getElem_range] at e
      exact no ⟨i, j, hi, hj, hij, e⟩
    refine ⟨j - i, by omega, by omega, ?_⟩
    have : iterN cs i (iterN cs (j - i) x) = iterN cs i x := by
      rw [← iter_add, e]
      congr 1
      omega
    exact iter_inj this
/-- the least period -/
theorem least_period {cs : List Int} {x : Ck} (h : IsCase cs x) : ∃ p, 0 < p ∧ p ≤ cs.length + 1 ∧ iterN cs p x = x ∧ ∀ q, 0 < q → q < p → iterN cs q x ≠ x := by
  have go : ∀ n, ∀ p, p ≤ n → 0 < p → p ≤ cs.length + 1 → iterN cs p x = x → ∃ p, 0 < p ∧ p ≤ cs.length + 1 ∧ iterN cs p x = x ∧ ∀ q, 0 < q → q < p → iterN cs q x ≠ x := by
    intro n
    induction n with
    | zero => intro p hp h0; omega
    | succ n ih =>
      intro p hp h0 hl e
      by_cases g : ∃ q, 0 < q ∧ q < p ∧ iterN cs q x = x
      · obtain ⟨q, q0, ql, qe⟩ := g
        exact ih q (by omega) q0 (by omega) qe
      · exact ⟨p, h0, hl, e, fun q q0 ql qe => g ⟨q, q0, ql, qe⟩⟩
  obtain ⟨p, p0, pl, e⟩ := some_period h
  exact go p p (Nat.le_refl _) p0 pl e
theorem iter_mul {cs : List Int} {x : Ck} {p : Nat} (e : iterN cs p x = x) : ∀ k, iterN cs (p * k) x = x
  | 0 => rfl
  | k + 1 => by rw [Nat.mul_succ, iter_add, e, iter_mul e k]
theorem iter_mod {cs : List Int} {x : Ck} {p : Nat} (e : iterN cs p x = x) (n : Nat) : iterN cs n x = iterN cs (n % p) x := by
  have h : n = n % p + p * (n / p) := (Nat.mod_add_div n p).symm
  conv => lhs; rw [h, iter_add, iter_mul e]
/-- the cycle of a case -/
def cycN (cs : List Int) (p : Nat) (x : Ck) : List Ck := (List.range p).map fun n => iterN cs n x
theorem cyc_nodup {cs : List Int} {x : Ck} {p : Nat} (hp : ∀ q, 0 < q → q < p → iterN cs q x ≠ x) : (cycN cs p x).Nodup := by
  unfold cycN
  rw [List.nodup_iff_pairwise_ne, List.pairwise_iff_getElem]
  intro i j hi hj hij e
  simp only [List.length_map, List.length_range] at hi hj
  simp only [List.getElem_map, List.getElem_range] at e
  refine hp (j - i) (by omega) (by omega) (iter_inj (cs := cs) (n := i) ?_)
  rw [← iter_add, e]
  congr 1
  omega
/-- the lane after one day and so many more comes again exactly when the case does -/
theorem lane_again {cs ns : List Int} {n p : Nat} : daysN cs (n + 1 + p) ns = daysN cs (n + 1) ns ↔ iterN cs p (caseN ns cs) = caseN ns cs := by
  have e : n + 1 + p = (p + n) + 1 := by omega
  rw [e, days_end, days_end]
  constructor
  · intro h
    have := end_inj (List.append_cancel_left h)
    rw [Nat.add_comm, iter_add] at this
    exact iter_inj this
  · intro h
    rw [Nat.add_comm p n, iter_add, h]
end DL
/-! contracts of the functions of days -/
namespace DL
open PySem PySem.Spec PyProof.Rows L2
def perN (cs : List Int) (x : Ck) : Nat := ((List.range (cs.length + 1)).find? fun n => decide (iterN cs (n + 1) x = x)).getD 0 + 1
theorem per_spec {cs : List Int} {x : Ck} (h : IsCase cs x) : 0 < perN cs x ∧ perN cs x ≤ cs.length + 1 ∧ iterN cs (perN cs x) x = x ∧ ∀ q, 0 < q → q < perN cs x → iterN cs q x ≠ x := by
  obtain ⟨p, p0, pl, e, no⟩ := least_period h
  have f : (List.range (cs.length + 1)).find? (fun n => decide (iterN cs (n + 1) x = x)) = some (p - 1) := by
    rw [List.find?_range_eq_some]
    refine ⟨by simpa [show p - 1 + 1 = p by omega] using e, by simp; omega, fun j hj => ?_⟩
    simpa using no (j + 1) (by omega) (by omega)
  have ep : perN cs x = p := by
    unfold perN
    rw [f]
    simp; omega
  rw [ep]
  exact ⟨p0, pl, e, no⟩
theorem per_is {cs : List Int} {x : Ck} {p : Nat} (h : IsCase cs x) (p0 : 0 < p) (e : iterN cs p x = x) (no : ∀ q, 0 < q → q < p → iterN cs q x ≠ x) : perN cs x = p := by
  obtain ⟨a, _, b, c⟩ := per_spec h
  rcases Nat.lt_trichotomy (perN cs x) p with l | l | l
  · exact absurd b (no _ a l)
  · exact l
  · exact absurd e (c _ p0 l)
/-- the cases of calls, by the cars in ascending order -/
structure Cars (cs L : List Int) : Prop where
  asc : L.Pairwise (· < ·)
  mem : ∀ i, i ∈ L ↔ i ∈ cs
def keysN (L : List Int) : List Ck := none :: L.map some
abbrev dayD (cs L : List Int) : D := .dic (keysN L) ((keysN L).map fun x => ckD (dayN cs x))
theorem mem_keys {cs L : List Int} (h : Cars cs L) {x : Ck} : x ∈ keysN L ↔ IsCase cs x := by
  unfold keysN IsCase
  cases x with
  | none => simp
  | some y => simp [h.mem]
theorem keys_nodup {cs L : List Int} (h : Cars cs L) : (keysN L).Nodup := by
  unfold keysN
  refine List.nodup_cons.mpr ⟨by simp, ?_⟩
  rw [List.nodup_iff_pairwise_ne, List.pairwise_map]
  exact h.asc.imp fun {a b} l e => by cases e; omega
theorem dic_map {ks : List Ck} {f : Ck → D} {x : Ck} (h : x ∈ ks) : dicAt ks (ks.map f) x = some (f x) := by
  induction ks with
  | nil => cases h
  | cons k ks ih =>
    rw [List.map_cons]
    unfold dicAt
    by_cases e : k = x
    · subst e; rw [if_pos rfl]
    · rw [if_neg e]
      exact ih (by rcases List.mem_cons.mp h with q | q; exact absurd q.symm e; exact q)
theorem cars_few {cs L : List Int} (h : CallsN cs) (g : ∀ i ∈ L, i ∈ cs) (nd : L.Nodup) : L.length ≤ 60 := cars60 ⟨fun n hn => h.cars n (g n hn), nd⟩
def c_play : Cn := fun ds S k _ => ∃ ns cs, ds = [tupI ns, tupI cs] ∧ LaneN ns ∧ CallsN cs ∧ k (tupI (playN ns cs)) S
def c_fixed_size : Cn := fun ds S k _ => ∃ ns cs, ds = [tupI ns, tupI cs] ∧ LaneN ns ∧ CallsN cs ∧ k (.int ((fixN ns cs).length : Nat)) S
def c_fixed_part : Cn := fun ds S k _ => ∃ ns cs, ds = [tupI ns, tupI cs] ∧ LaneN ns ∧ CallsN cs ∧ k (tupI (fixN ns cs)) S
def c_case_of : Cn := fun ds S k _ => ∃ ns cs, ds = [tupI ns, tupI cs] ∧ LaneN ns ∧ CallsN cs ∧ k (ckD (caseN ns cs)) S
def c_after_calls : Cn := c_play
def c_cases_of : Cn := fun ds S k _ => ∃ cs, ds = [tupI cs] ∧ CallsN cs ∧ ∀ L p, Cars cs L → S p = none → k (.ref p) (S.upd p (.lst ((keysN L).map ckD)))
def c_case_after : Cn := fun ds S k _ => ∃ x cs, ds = [ckD x, tupI cs] ∧ CallsN cs ∧ k (ckD (dayN cs x)) S
def c_check_case : Cn := fun ds S k _ => ∃ x cs, ds = [ckD x, tupI cs] ∧ CallsN cs ∧ IsCase cs x ∧ k .non S
def c_end_lane : Cn := fun ds S k _ => ∃ cs x, ds = [tupI cs, ckD x] ∧ CallsN cs ∧ IsCase cs x ∧ k (tupI (endN cs x)) S
def c_day_map : Cn := fun ds S k _ => ∃ cs, ds = [tupI cs] ∧ CallsN cs ∧ ∀ L, Cars cs L → k (dayD cs L) S
def c_cycle_from : Cn := fun ds S k _ => ∃ cs L x, ds = [dayD cs L, ckD x] ∧ CallsN cs ∧ Cars cs L ∧ IsCase cs x ∧ ∀ p, S p = none → k (.ref p) (S.upd p (.lst ((cycN cs (perN cs x) x).map ckD)))
def c_period : Cn := fun ds S k _ => ∃ ns cs, ds = [tupI ns, tupI cs] ∧ LaneN ns ∧ CallsN cs ∧ k (.int (perN cs (caseN ns cs) : Nat)) S
theorem play_lane {ns : List Int} (h : LaneN ns) : ∀ {cs : List Int}, (∀ c ∈ cs, Car c) → LaneN (playN ns cs) := by
  intro cs
  induction cs generalizing ns with
  | nil => intro _; exact h
  | cons c cs ih => intro g; exact ih (lane_step h (g c (List.mem_cons_self ..))) fun d hd => g d (List.mem_cons_of_mem _ hd)
theorem play_take {ns cs : List Int} {i : Nat} (hi : i < cs.length) : stepN (playN ns (cs.take i)) cs[i] = playN ns (cs.take (i + 1)) := by
  unfold playN
  rw [List.take_add_one, List.getElem?_eq_getElem hi, List.foldl_append]; rfl
theorem case_take {x : Ck} {cs : List Int} {i : Nat} (hi : i < cs.length) : exN (dayN (cs.take i) x) cs[i] = dayN (cs.take (i + 1)) x := by
  unfold dayN
  rw [List.take_add_one, List.getElem?_eq_getElem hi, List.foldl_append]; rfl
end DL
namespace DL
open PySem PySem.Spec PyProof.Rows L2
theorem isN_ck {neg : Bool} {x : Ck} {S : Sto} {k : RK} (q : k (.bl (neg ^^ x.isNone)) S) : isN neg (ckD x) .non S k := by
  cases x <;> exact q
theorem eq_ck {neg : Bool} {x y : Ck} {S : Sto} {k : RK} (q : k (.bl (neg ^^ decide (x = y))) S) : eqD neg (ckD x) (ckD y) S k := by
  cases x with
  | none =>
    cases y with
    | none => rw [decide_eq_true rfl] at q; exact q
    | some j => rw [decide_eq_false (by simp)] at q; exact q
  | some i =>
    cases y with
    | none => rw [decide_eq_false (by simp)] at q; exact q
    | some j =>
      have e : decide ((some i : Ck) = some j) = decide (i = j) := by rw [decide_eq_decide]; simp
      rw [e] at q
      exact q
theorem eq_cki {neg : Bool} {x : Ck} {j : Int} {S : Sto} {k : RK} (q : k (.bl (neg ^^ decide (x = some j))) S) : eqD neg (ckD x) (.int j) S k := eq_ck (y := some j) q
theorem kind_ck {S : Sto} {x : Ck} : (kindD S (ckD x)).isSome = true := by cases x <;> rfl
theorem ints_ck (L : List Int) : L.map D.int = (L.map some).map ckD := by rw [List.map_map]; rfl
theorem keys_ck (L : List Int) : D.non :: L.map D.int = (keysN L).map ckD := by
  unfold keysN; rw [List.map_cons, ← ints_ck]; rfl
theorem asc_nodup {L : List Int} (h : L.Pairwise (· < ·)) : L.Nodup := by
  rw [List.nodup_iff_pairwise_ne]
  exact h.imp fun {a b} l e => by omega
theorem fix_take {ns cs : List Int} {i : Nat} (hi : i < ns.length) (fx : fixN (ns.take i) cs = ns.take i) (h : ns[i] ∉ cs) : fixN (ns.take (i + 1)) cs = ns.take (i + 1) := by
  have e : ns.take (i + 1) = ns.take i ++ [ns[i]] := by rw [List.take_add_one, List.getElem?_eq_getElem hi]; rfl
  have out : ∀ n ∈ ns.take i, n ∉ cs := fun n hn => fix_out (ns := ns.take i) (by rw [fx]; exact hn)
  rw [e, fix_app out]
  congr 1
  unfold fixN
  rw [List.takeWhile_cons, if_pos (by simpa using h)]; rfl
theorem fix_here {ns cs : List Int} {i : Nat} (hi : i < ns.length) (fx : fixN (ns.take i) cs = ns.take i) (h : ns[i] ∈ cs) : (fixN ns cs).length = i := by
  have out : ∀ n ∈ ns.take i, n ∉ cs := fun n hn => fix_out (ns := ns.take i) (by rw [fx]; exact hn)
  have e : ns = ns.take i ++ ns.drop i := (List.take_append_drop i ns).symm
  have d : ns.drop i = ns[i] :: ns.drop (i + 1) := List.drop_eq_getElem_cons hi
  have f : fixN ns cs = ns.take i := by
    conv => lhs; rw [e]
    rw [fix_app out, d]
    unfold fixN
    rw [List.takeWhile_cons, if_neg (by simpa using h), List.append_nil]
  rw [f, List.length_take]; omega
end DL
namespace DL
open PySem PySem.Spec PyProof.Rows L2
theorem cyc_succ (cs : List Int) (n : Nat) (x : Ck) : cycN cs (n + 1) x = cycN cs n x ++ [iterN cs n x] := by
  unfold cycN
  rw [List.range_succ, List.map_append]; rfl
theorem ixDk_day {cs L : List Int} {x : Ck} {S : Sto} {k : RK} (hL : Cars cs L) (hx : IsCase cs x) (q : k (ckD (dayN cs x)) S) : ixDk (dayD cs L) (ckD x) S k := ⟨_, _, x, _, rfl, rfl, dic_map (f := fun x => ckD (dayN cs x)) ((mem_keys hL).mpr hx), q⟩
theorem app_ref {l : Addr} {xs : List D} {d : D} {S : Sto} {k : RK} (h : S l = some (.lst xs)) (hl : xs.length < sizeLine) (q : k .non (S.upd l (.lst (xs ++ [d])))) : appendD (.ref l) [d] S k := by
  unfold appendD
  simp only [h]
  exact ⟨hl, q⟩
theorem Cars.ex (cs : List Int) : ∃ L, Cars cs L := by
  have ins : ∀ (L : List Int) (c : Int), L.Pairwise (· < ·) → ∃ M : List Int, M.Pairwise (· < ·) ∧ ∀ i, i ∈ M ↔ i = c ∨ i ∈ L := by
    intro L c
    induction L with
    | nil => intro _; exact ⟨[c], List.pairwise_singleton .., fun i => by simp⟩
    | cons y L ih =>
      intro h
      have ⟨h1, h2⟩ := List.pairwise_cons.mp h
      rcases Int.lt_trichotomy c y with l | l | l
      · exact ⟨c :: y :: L, List.pairwise_cons.mpr ⟨fun z hz => by
          rcases List.mem_cons.mp hz with rfl | q
          · exact l
          · exact Int.lt_trans l (h1 z q), h⟩, fun i => by simp⟩
      · exact ⟨y :: L, h, fun i => by simp [l]⟩
      · obtain ⟨M, m1, m2⟩ := ih h2
        exact ⟨y :: M, List.pairwise_cons.mpr ⟨fun z hz => by
          rcases (m2 z).mp hz with rfl | q
          · exact l
          · exact h1 z q, m1⟩, fun i => by simp [m2]; constructor <;> (rintro (a | a | a) <;> simp [a])⟩
  induction cs with
  | nil => exact ⟨[], .nil, fun i => Iff.rfl⟩
  | cons c cs ih =>
    obtain ⟨L, hL⟩ := ih
    obtain ⟨M, m1, m2⟩ := ins L c hL.asc
    exact ⟨M, m1, fun i => by rw [m2, hL.mem]; simp⟩
theorem Cars.one {cs L M : List Int} (a : Cars cs L) (b : Cars cs M) : L = M := by
  have go : ∀ {L M : List Int}, L.Pairwise (· < ·) → M.Pairwise (· < ·) → (∀ i, i ∈ L ↔ i ∈ M) → L = M := by
    intro L
    induction L with
    | nil =>
      intro M _ _ h
      cases M with
      | nil => rfl
      | cons m M => exact absurd ((h m).mpr (List.mem_cons_self ..)) List.not_mem_nil
    | cons x L ih =>
      intro M hl hm h
      cases M with
      | nil => exact absurd ((h x).mp (List.mem_cons_self ..)) List.not_mem_nil
      | cons y M =>
        obtain ⟨l1, l2⟩ := List.pairwise_cons.mp hl
        obtain ⟨m1, m2⟩ := List.pairwise_cons.mp hm
        have e : x = y := by
          rcases List.mem_cons.mp ((h x).mp (List.mem_cons_self ..)) with q | q
          · exact q
          · rcases List.mem_cons.mp ((h y).mpr (List.mem_cons_self ..)) with r | r
            · exact r.symm
            · have := m1 x q
              have := l1 y r
              omega
        subst e
        congr 1
        refine ih l2 m2 fun i => ?_
        have hi := h i
        simp only [List.mem_cons] at hi
        constructor
        · intro z
          rcases hi.mp (.inr z) with q | q
          · have := l1 i z; omega
          · exact q
        · intro z
          rcases hi.mpr (.inr z) with q | q
          · have := m1 i z; omega
          · exact q
  exact go a.asc b.asc fun i => (a.mem i).trans (b.mem i).symm
end DL
namespace DL
open PySem PySem.Spec PyProof.Rows L2
def c_check_days : Cn := fun ds S k _ => ∃ n : Int, ds = [.int n] ∧ 0 ≤ n ∧ n ≤ 10 ^ 30 ∧ k .non S
def c_after_days : Cn := fun ds S k _ => ∃ ns cs n, ds = [tupI ns, tupI cs, .int n] ∧ LaneN ns ∧ CallsN cs ∧ 0 ≤ n ∧ n ≤ 10 ^ 30 ∧ k (tupI (daysN cs n.toNat ns)) S
theorem cyc_get {cs : List Int} {x : Ck} {p n : Nat} (h : n < p) : (cycN cs p x)[n]? = some (iterN cs n x) := by
  unfold cycN
  rw [List.getElem?_map, List.getElem?_range h]; rfl
theorem end_len {cs : List Int} {x : Ck} (h : CallsN cs) (hx : IsCase cs x) : LaneN (endN cs x) := by
  unfold endN
  refine play_lane ?_ h.cars
  cases x with
  | none => exact ⟨fun _ z => (nomatch z), List.nodup_nil⟩
  | some c => exact ⟨fun n z => by rw [List.mem_singleton.mp z]; exact h.cars c (hx c rfl), List.nodup_cons.mpr ⟨List.not_mem_nil, List.nodup_nil⟩⟩
end DL
namespace DL
open PySem PySem.Spec PyProof.Rows L2
/-! ### rows of cases, compared and shown -/
def ckP : Ck → PyData
  | none => .none
  | some i => .int i
theorem eqv_ck (a b : Ck) : PyData.eqv (ckP a) (ckP b) = decide (a = b) := by
  cases a with
  | none =>
    cases b with
    | none => simp [ckP, PyData.eqv]
    | some j => simp [ckP, PyData.eqv]
  | some i =>
    cases b with
    | none => simp [ckP, PyData.eqv]
    | some j =>
      simp only [ckP, PyData.eqv]
      by_cases h : i = j
      · subst h; simp
      · simp [h]
theorem eqv_rows : ∀ a b : List Ck, PyData.eqvAll (a.map ckP) (b.map ckP) = decide (a = b)
  | [], [] => by simp [PyData.eqvAll]
  | [], _ :: _ => by simp [PyData.eqvAll]
  | _ :: _, [] => by simp [PyData.eqvAll]
  | x :: a, y :: b => by
    rw [List.map_cons, List.map_cons, PyData.eqvAll, eqv_ck, eqv_rows a b]
    by_cases h : x = y
    · subst h; simp
    · simp [h]
theorem py_ck {S : Sto} (x : Ck) : Py S (ckD x) (ckP x) := by
  cases x with
  | none => exact .non
  | some i => exact .int i
theorem pyl_ck {S : Sto} : ∀ a : List Ck, PyL S (a.map ckD) (a.map ckP)
  | [] => .nil
  | x :: a => .cons (py_ck x) (pyl_ck a)
theorem lay_ck : ∀ a : List Ck, PyData.canLayAll0 (a.map ckP) = true
  | [] => by simp [PyData.canLayAll0]
  | x :: a => by
    rw [List.map_cons, PyData.canLayAll0, lay_ck a]
    cases x <;> simp [ckP, PyData.canLay0]
theorem dep_ck : ∀ a : List Ck, PyData.depthAll (a.map ckP) = 0
  | [] => by simp [PyData.depthAll]
  | x :: a => by
    rw [List.map_cons, PyData.depthAll, dep_ck a]
    cases x <;> simp [ckP, PyData.depth]
theorem shaped_tup (a : List Ck) : SeqAt.shaped (.tuple (a.map ckP)) = true := by
  unfold SeqAt.shaped
  rw [Bool.and_eq_true, decide_eq_true_eq]
  exact ⟨by simpa only [PyData.canLay0] using lay_ck a, by simp [PyData.depth, dep_ck]⟩
theorem shaped_lst (a : List Ck) : SeqAt.shaped (.list (a.map ckP)) = true := by
  unfold SeqAt.shaped
  rw [Bool.and_eq_true, decide_eq_true_eq]
  exact ⟨by simpa only [PyData.canLay0] using lay_ck a, by simp [PyData.depth, dep_ck]⟩
theorem shaped_ck (x : Ck) : SeqAt.shaped (ckP x) = true := by
  unfold SeqAt.shaped
  cases x <;> simp [ckP, PyData.canLay0, PyData.depth]
theorem some_inj {a b : List Int} : decide (a.map some = b.map some) = decide (a = b) := by
  rw [decide_eq_decide]
  constructor
  · intro h
    have := congrArg (List.map (Option.getD · 0)) h
    simpa [List.map_map, Function.comp_def] using this
  · intro h; rw [h]
/-- tuples of ints -/
theorem eq_tup {neg : Bool} {a b : List Int} {S : Sto} {k : RK} (q : k (.bl (neg ^^ decide (a = b))) S) : eqD neg (tupI a) (tupI b) S k := by
  have ea : a.map D.int = (a.map some).map ckD := ints_ck a
  have eb : b.map D.int = (b.map some).map ckD := ints_ck b
  show eqG neg (.tup (a.map D.int)) (.tup (b.map D.int)) S k
  rw [ea, eb]
  refine ⟨_, _, .tup (pyl_ck _), .tup (pyl_ck _), shaped_tup _, shaped_tup _, ?_⟩
  rw [PyData.eqv, eqv_rows, some_inj]
  exact q
/-- a case among a list of cases -/
theorem in_row {neg : Bool} {x : Ck} {a : List Ck} {y : D} {S : Sto} {k : RK} (hy : Py S y (.list (a.map ckP))) (q : k (.bl (neg ^^ decide (x ∈ a))) S) : inD neg (ckD x) y S k := by
  refine .inr ⟨ckP x, a.map ckP, py_ck x, hy, shaped_ck x, shaped_lst a, ?_⟩
  have e : ((a.map ckP).any fun z => PyData.eqv z (ckP x)) = decide (x ∈ a) := by
    rw [List.any_map, Bool.eq_iff_iff, List.any_eq_true, decide_eq_true_iff]
    constructor
    · rintro ⟨z, hz, e⟩
      have : PyData.eqv (ckP z) (ckP x) = true := e
      rw [eqv_ck, decide_eq_true_iff] at this
      rw [← this]; exact hz
    · intro h
      exact ⟨x, h, by show PyData.eqv (ckP x) (ckP x) = true; rw [eqv_ck]; simp⟩
  rw [e]; exact q
end DL
namespace DL
open PySem PySem.Spec PyProof.Rows L2
/-! ### the cycles of the day map, in the order of their first cases -/
def cycsN (cs : List Int) : List Ck → List (List Ck) → List (List Ck)
  | [], acc => acc
  | x :: xs, acc => if x ∈ acc.flatten then cycsN cs xs acc else cycsN cs xs (acc ++ [cycN cs (perN cs x) x])
theorem cycs_snoc {cs : List Int} : ∀ {xs : List Ck} {x : Ck} {acc : List (List Ck)}, cycsN cs (xs ++ [x]) acc = if x ∈ (cycsN cs xs acc).flatten then cycsN cs xs acc else cycsN cs xs acc ++ [cycN cs (perN cs x) x]
  | [], x, acc => by
    rfl
  | y :: xs, x, acc => by
    rw [List.cons_append]
    unfold cycsN
    by_cases h : y ∈ acc.flatten
    · rw [if_pos h, if_pos h]; exact cycs_snoc
    · rw [if_neg h, if_neg h]; exact cycs_snoc
/-- the store holds the rows at the places qs -/
def Rows (S : Sto) (qs : List Addr) (rows : List (List Ck)) : Prop := qs.length = rows.length ∧ ∀ (i : Nat) (q : Addr) (r : List Ck), qs[i]? = some q → rows[i]? = some r → S q = some (.lst (r.map ckD))
theorem Rows.nil {S : Sto} : Rows S [] [] := ⟨rfl, fun i q r h => by simp at h⟩
theorem Rows.snoc {S S' : Sto} {qs : List Addr} {rows : List (List Ck)} {q : Addr} {r : List Ck} (h : Rows S qs rows) (k : ∀ p ∈ qs, ∀ o, S p = some o → S' p = some o) (e : S' q = some (.lst (r.map ckD))) : Rows S' (qs ++ [q]) (rows ++ [r]) := by
  obtain ⟨l, g⟩ := h
  refine ⟨by simp [l], fun i p t hp ht => ?_⟩
  by_cases hi : i < qs.length
  · rw [List.getElem?_append_left hi] at hp
    rw [List.getElem?_append_left (by omega)] at ht
    exact k p (List.mem_of_getElem? hp) _ (g i p t hp ht)
  · rw [List.getElem?_append_right (by omega)] at hp
    rw [List.getElem?_append_right (by omega)] at ht
    have i0 : i - qs.length = 0 := by
      have := (List.getElem?_eq_some_iff.mp hp).1
      simp at this; omega
    rw [i0] at hp
    rw [← l, i0] at ht
    simp at hp ht
    subst hp ht
    exact e
theorem Rows.keep {S S' : Sto} {qs : List Addr} {rows : List (List Ck)} (h : Rows S qs rows) (k : ∀ p ∈ qs, ∀ o, S p = some o → S' p = some o) : Rows S' qs rows := ⟨h.1, fun i q r hq hr => k q (List.mem_of_getElem? hq) _ (h.2 i q r hq hr)⟩
def c_cycles_of : Cn := fun ds S k _ => ∃ cs, ds = [tupI cs] ∧ CallsN cs ∧ ∀ L p qs S', Cars cs L → Sub S S' → S p = none → S' p = some (.lst (qs.map D.ref)) → (∀ q ∈ qs, S q = none ∧ q ≠ p) → Rows S' qs (cycsN cs (keysN L) []) → k (.ref p) S'
end DL
namespace DL
open PySem PySem.Spec PyProof.Rows L2
theorem cyc_mem {cs : List Int} {y z : Ck} (h : IsCase cs y) : z ∈ cycN cs (perN cs y) y ↔ ∃ n, z = iterN cs n y := by
  obtain ⟨p0, _, pe, _⟩ := per_spec h
  unfold cycN
  constructor
  · intro m
    obtain ⟨n, _, rfl⟩ := List.mem_map.mp m
    exact ⟨n, rfl⟩
  · rintro ⟨n, rfl⟩
    rw [iter_mod pe]
    exact List.mem_map.mpr ⟨n % perN cs y, List.mem_range.mpr (Nat.mod_lt _ p0), rfl⟩
/-- back again -/
theorem iter_back {cs : List Int} {x : Ck} (h : IsCase cs x) (k : Nat) : ∃ m, iterN cs m (iterN cs k x) = x := by
  obtain ⟨p0, _, pe, _⟩ := per_spec h
  refine ⟨perN cs x * k - k, ?_⟩
  rw [← iter_add]
  have e : perN cs x * k - k + k = perN cs x * k := by
    have : k ≤ perN cs x * k := Nat.le_mul_of_pos_left k p0
    omega
  rw [e, iter_mul pe]
structure Closed (cs : List Int) (acc : List (List Ck)) : Prop where
  nd : acc.flatten.Nodup
  cl : ∀ z ∈ acc.flatten, ∀ n, iterN cs n z ∈ acc.flatten
  ca : ∀ z ∈ acc.flatten, IsCase cs z
theorem Closed.nil (cs : List Int) : Closed cs [] := ⟨List.nodup_nil, fun _ z => (nomatch z), fun _ z => (nomatch z)⟩
theorem Closed.snoc {cs : List Int} {acc : List (List Ck)} {x : Ck} (h : Closed cs acc) (hx : IsCase cs x) (n : x ∉ acc.flatten) : Closed cs (acc ++ [cycN cs (perN cs x) x]) := by
  have fl : (acc ++ [cycN cs (perN cs x) x]).flatten = acc.flatten ++ cycN cs (perN cs x) x := by simp
  have apart : ∀ z ∈ cycN cs (perN cs x) x, z ∉ acc.flatten := fun z hz m => by
    obtain ⟨k, rfl⟩ := (cyc_mem hx).mp hz
    obtain ⟨j, e⟩ := iter_back hx k
    have := h.cl _ m j
    rw [e] at this
    exact n this
  refine ⟨?_, ?_, ?_⟩
  · rw [fl, List.nodup_append]
    exact ⟨h.nd, cyc_nodup (per_spec hx).2.2.2, fun a ha b hb e => apart b hb (e ▸ ha)⟩
  · intro z hz k
    rw [fl] at hz ⊢
    rcases List.mem_append.mp hz with m | m
    · exact List.mem_append_left _ (h.cl z m k)
    · refine List.mem_append_right _ ?_
      obtain ⟨j, rfl⟩ := (cyc_mem hx).mp m
      exact (cyc_mem hx).mpr ⟨k + j, (iter_add cs k j x).symm⟩
  · intro z hz
    rw [fl] at hz
    rcases List.mem_append.mp hz with m | m
    · exact h.ca z m
    · obtain ⟨j, rfl⟩ := (cyc_mem hx).mp m
      exact iter_case hx
theorem cycs_closed {cs L : List Int} (hL : Cars cs L) : ∀ i, Closed cs (cycsN cs ((keysN L).take i) [])
  | 0 => by rw [List.take_zero]; exact Closed.nil cs
  | i + 1 => by
    by_cases hi : i < (keysN L).length
    · rw [List.take_add_one, List.getElem?_eq_getElem hi]
      show Closed cs (cycsN cs ((keysN L).take i ++ [(keysN L)[i]]) [])
      rw [cycs_snoc]
      by_cases m : (keysN L)[i] ∈ (cycsN cs ((keysN L).take i) []).flatten
      · rw [if_pos m]; exact cycs_closed hL i
      · rw [if_neg m]
        exact (cycs_closed hL i).snoc ((mem_keys hL).mp (List.getElem_mem hi)) m
    · rw [List.take_of_length_le (by omega), ← List.take_of_length_le (show (keysN L).length ≤ i by omega)]
      exact cycs_closed hL i
theorem closed_few {cs L : List Int} {acc : List (List Ck)} (hL : Cars cs L) (h : CallsN cs) (c : Closed cs acc) : acc.flatten.length ≤ 61 := by
  have := nd_leK (M := keysN L) c.nd fun z hz => (mem_keys hL).mpr (c.ca z hz)
  have few := cars_few h (fun i hi => (hL.mem i).mp hi) (asc_nodup hL.asc)
  have e : (keysN L).length = L.length + 1 := by simp [keysN]
  omega
end DL
namespace DL
open PySem PySem.Spec PyProof.Rows L2
theorem cycs_len {cs : List Int} : ∀ {xs : List Ck} {acc : List (List Ck)}, (cycsN cs xs acc).length ≤ acc.length + xs.length
  | [], acc => Nat.le_refl _
  | x :: xs, acc => by
    unfold cycsN
    by_cases h : x ∈ acc.flatten
    · rw [if_pos h]
      have := cycs_len (cs := cs) (xs := xs) (acc := acc)
      rw [List.length_cons]; omega
    · rw [if_neg h]
      have := cycs_len (cs := cs) (xs := xs) (acc := acc ++ [cycN cs (perN cs x) x])
      rw [List.length_append] at this
      simp at this
      rw [List.length_cons]; omega
end DL
namespace DL
open PySem PySem.Spec PyProof.Rows L2
def c_case_ending_in : Cn := fun ds S k _ => ∃ cs x, ds = [tupI (endN cs x), tupI cs] ∧ CallsN cs ∧ IsCase cs x ∧ k (ckD x) S
def c_day_before : Cn := fun ds S k _ => ∃ cs x, ds = [tupI (endN cs x), tupI cs] ∧ CallsN cs ∧ IsCase cs x ∧ k (tupI (endN cs (iterN cs (perN cs x - 1) x))) S
end DL
/-! own defs called with keywords -/
namespace DL
open PySem PySem.Spec PyProof.Rows L2
section
variable {X : Cx} {e : Expr} {re : RT} {rl rk : RTa} {kws : List Keyword} {es : List Expr} {p pos kpos : Pos}
def RK1 (X : Cx) (kws : List Keyword) (r : RTa) : Prop := PK X kws (tA X.K r)
theorem PK.imp {t t' : TA} (h : PK X kws t) (i : ∀ σ H Q, t' σ H Q → t σ H Q) : PK X kws t' := ⟨fun pos pins s σ H Q I q => h.run pos pins s σ H Q I (i σ H Q q)⟩
theorem rk_nil : RK1 X [] rNil := PK.imp pk_nil fun σ H Q ⟨env, S, k, hE, hS, q, c⟩ => c _ _ _ _ q Stp.refl .nil hS
theorem rk_cons {nm : Option Str} (ha : RE X e re) (hr : RK1 X kws rl) : RK1 X (⟨nm, e, kpos⟩ :: kws) (rCons re rl) := by
  refine PK.imp (pk_cons ha hr) fun σ H Q ⟨env, S, k, hE, hS, q, c⟩ => ?_
  refine ⟨env, S, _, hE, hS, q, fun d S1 v H1 q1 st r hS1 => ?_⟩
  refine ⟨env, S1, _, hE.mon (st.mon hS), hS1, q1, fun ds S2 vs H2 q2 st2 r2 hS2 => ?_⟩
  exact c _ _ _ _ q2 (st.trans st2) (.cons (r.mon (st2.mon hS1)) r2) hS2
/-- the def x, called with n values and the keywords ks, keeps C -/
def CalleeK (P : Program) (w : World) (K : PySem.W.Frag) (mg : Str → Option Value) (base : Heap) (CX : CXT) (k : Nat) (x : Str) (n : Nat) (ks : List Str) (C : Cn) : Prop :=
  ∃ f fd ps, FnG P w K mg base CX k f fd ps (spD K (n + ks.length) C) ∧ mg x = some (.ref f) ∧ PySem.W.keepIn K (.ref f) = true ∧ KBn K fd ps n ks (fun us ws => us ++ ws) (fun vs zs => vs ++ zs)
theorem runGK {CX : CXT} {k n : Nat} {f : Addr} {fd : FuncData} {ps ks : List Str} {sp : Sp} {g : List Value → List Value → List Value} {gV : List V → List V → List V} {E : XK} {Q : VK} {pins : List (Addr × Obj)} {s : Shared} {σ : L2.St} {H : Hp} {us ws : List Value} {vs zs : List V}
    (F : FnG X.prog X.w X.K X.mg X.base CX k f fd ps sp) (hr : RoomG k X.A) (hb : KBn X.K fd ps n ks g gV) (hx : Passes CX X E) (I : Inv X pins σ H s) (r : Vals vs us) (rz : Vals zs ws) (l1 : vs.length = n) (l2 : zs.length = ks.length) (h : sp (gV vs zs) H Q E) :
    wpAny (model X.prog X.w) X.A (call (.ref f) us (ks.zip ws)) (EP X pins σ Q) X.xe s := by
  have both := hb.rel r rz
  refine wpAny_call (codeAny_mono (F.go X.A X.stack s H ⟨us, ks.zip ws⟩ (g us ws) (gV vs zs) Q E hr.r hr.g I.env0 (hb.to s us ws I.kIn (r.length.symm.trans l1) (rz.length.symm.trans l2)) both h) fun res s2 z => ?_)
  match res, z with
  | .error ev, z => exact hx pins σ H s ev s2 I z
  | .ok (.ret _), z => exact I.after z
  | .ok .next, z => exact z.elim
  | .ok .brk, z => exact z.elim
  | .ok .cont, z => exact z.elim
def rCallK (n m : Nat) (C : Cn) (rl rk : RTa) : RT := fun env S k => rl env S fun ds S1 => rk env S1 fun zs S2 => ds.length = n ∧ zs.length = m ∧ C (ds ++ zs) S2 k noX
theorem re_callK {k n : Nat} {x : Str} {ks : List Str} {C : Cn} (F : CalleeK X.prog X.w X.K X.mg X.base CX0 k x n ks C) (hr : RoomG k X.A) (hg : Gl X x) (ha : RA X (e :: es) rl) (hkw : RK1 X kws rk)
    (hall : (backToKw pos (keywordEach kws X.env)).all (·.1.isSome) = true := by rfl) (hks : (backToKw pos (keywordEach kws X.env)).filterMap (·.1) = ks := by rfl)
    (hdb : (x == ("__debug__" : Str)) = false := by decide) (he : starEach (e :: es) X.env = (false, eval e X.env) :: starEach es X.env := by rfl)
    (hpl : ((backTo pos (starEach (e :: es) X.env)).any (·.1) || (backToKw pos (keywordEach kws X.env)).any (·.1.isNone)) = false := by rfl) : RE X (.Call (.Name x p) (e :: es) kws pos) (rCallK n ks.length C rl rk) := by
  obtain ⟨f, fd, ps, G, hm, hk, hb⟩ := F
  constructor
  rintro pins s σ H Q I ⟨env, S, kk, hE, hS, q, cl⟩
  refine wpAny_Call_Name_kw (ld_glob I hg hm ?_ hdb)
  refine PySem.W.callWith_KW (h₀ := X.base) I.ok.mod.kin hk hall (thn (PA.run ha pos pins s σ H (fun vs H1 => ∃ ds S1, (rk env S1 fun zs S2 => ds.length = n ∧ zs.length = ks.length ∧ C (ds ++ zs) S2 kk noX) ∧ Stp H S H1 S1 ∧ RpL X.K H1 ds vs ∧ AbsS X.K S1 H1) I
    ⟨env, S, _, hE, hS, q, fun ds S1 vs H1 q1 st r1 hS1 => ⟨ds, S1, q1, st, r1, hS1⟩⟩) fun us s1 ⟨vs, H1, I1, r, ds, S1, q1, st, rd, hS1⟩ => ?_) hpl he
  refine thn (hkw.run pos pins s1 σ H1 (fun zs H2 => ∃ es S2, (ds.length = n ∧ es.length = ks.length ∧ C (ds ++ es) S2 kk noX) ∧ Stp H1 S1 H2 S2 ∧ RpL X.K H2 es zs ∧ AbsS X.K S2 H2) I1
    ⟨env, S1, _, hE.mon (st.mon hS), hS1, q1, fun es S2 zs H2 q2 st2 r2 hS2 => ⟨es, S2, q2, st2, r2, hS2⟩⟩) fun ws s2 ⟨zs, H2, I2, rz, es', S2, ⟨l1, l2, q2⟩, st2, rz2, hS2⟩ => ⟨I2.kIn, ?_⟩
  rw [hks]
  refine runGK G hr hb (pass0 (X := X)) I2 r rz (by rw [← rd.length, l1]) (by rw [← rz2.length, l2]) ?_
  exact ⟨ds ++ es', S2, kk, noX, by rw [List.length_append, l1, l2], (rd.mon (st2.mon hS1)).append rz2, hS2, q2, (cl.after st).after st2, fun _ _ _ z => z.elim⟩
/-- a def of the text that is called with keywords -/
structure DefAtK (K : PySem.W.Frag) (mg : Str → Option Value) (x : Str) (st : Stmt) (ps : List Str) (n : Nat) (ks : List Str) : Prop where
  ex : ∃ f fd, Fun K x x st f fd ∧ mg x = some (.ref f) ∧ KBn K fd ps n ks (fun us ws => us ++ ws) (fun vs zs => vs ++ zs)
theorem mkCalleeK {P : Program} {w : World} {K : PySem.W.Frag} {mg : Str → Option Value} {base : Heap} {k : Nat} {x : Str} {st : Stmt} {N ps ks : List Str} {n : Nat} {C : Cn} (F : DefAtK K mg x st ps n ks) (Sc : FnScope N ps (defScope st)) (hn : ps.length = n + ks.length)
    (r : RTs) (hd : ∀ (cdv : Value) (A : Around) (outer : List Env) (s : Shared) (H : Hp) (E : XK) (f : Addr), RoomG k (A.deeper (envOfC x (defScope st) s.heap.objs.size f cdv)) → RSs (cxOf CX0 P w K mg base N x (defScope st) f cdv A outer s H E).nox (defBody st) r)
    (hs : ∀ ds S kk, ds.length = n + ks.length → C ds S kk noX → r (endOf kk) (DL.envOf N ds) S) (hx : ∀ ds S kk ek, C ds S kk ek → C ds S kk noX) : CalleeK P w K mg base CX0 (k + 1) x n ks C := by
  obtain ⟨f, fd, F, hm, hb⟩ := F.ex
  exact ⟨f, fd, ps, mkFnG F Sc (n + ks.length) hn r hd hs hx, hm, F.kp, hb⟩
theorem def_atK {K : PySem.W.Frag} {h : Heap} {mg : Str → Option Value} {x : Str} {st : Stmt} {ps ks : List Str} {n : Nat} {f : Addr} {oc : Value} {od an : Option Addr} {osl : Array (Option Value)} {kV doc pm cdv ct : Value} (X : K.In h) (G : h.Ns mainGlobals mg)
    (a : PySem.W.nsIn K mainGlobals x = some (some (.ref f))) (l : K.lookup f = some ⟨oc, od, .func (PySem.W.fnOf x x (defArgs st) (defBody st) (defScope st) .none kV doc pm an cdv ct), osl⟩) (c : PySem.W.codeIn K cdv x = true) (k : PySem.W.keepIn K (.ref f) = true)
    (hb : ∀ (us ws : List Value), us.length = n → ws.length = ks.length → bindArgs (PySem.W.fnOf x x (defArgs st) (defBody st) (defScope st) .none kV doc pm an cdv ct) ⟨us, ks.zip ws⟩ = pure (ps.zip (us ++ ws))) : DefAtK K mg x st ps n ks :=
  ⟨f, _, fun_mk l c k, PySem.W.mg_of X G a, ⟨fun s us ws _ l1 l2 => .of_eq (hb us ws l1 l2), fun r1 r2 => r1.append r2⟩⟩
end
end DL
/-! dicts of cases that hold the same -/
namespace DL
open PySem PySem.Spec PyProof.Rows L2
section
variable {X : Cx} {K : PySem.W.Frag} {H : Hp}
theorem RpL.cks : ∀ {vs : List Ck} {us : List V}, RpL K H (vs.map ckD) us → us = vs.map ckV
  | [], us, h => h.nil_of
  | v :: vs, us, h => by
    obtain ⟨u, r, e, p, t⟩ := RpL.cons_of (d := ckD v) (ds := vs.map ckD) h
    subst e
    rw [ck_of p, t.cks]; rfl
/-- the value of a key -/
def ckAt : List Ck → List Ck → Ck → Option Ck
  | k :: ks, v :: vs, c => if k = c then some v else ckAt ks vs c
  | _, _, _ => none
theorem ckAt_val : ∀ {ks vs : List Ck} {c v : Ck}, ckAt ks vs c = some v → valV (ks.zip (vs.map ckV)) c = some (ckV v)
  | [], _, _, _, e => by simp [ckAt] at e
  | k :: ks, [], _, _, e => by simp [ckAt] at e
  | k :: ks, x :: vs, c, v, e => by
    unfold ckAt at e
    rw [List.map_cons, List.zip_cons_cons]
    by_cases h : k = c
    · rw [if_pos h] at e; cases e
      exact valV_pos h
    · rw [if_neg h] at e
      rw [valV_neg h]
      exact ckAt_val e
/-- two dicts of the same pairs -/
structure Same2 (ks vs ls ts : List Ck) : Prop where
  l1 : ks.length = vs.length
  l2 : ls.length = ts.length
  len : ks.length = ls.length
  same : ∀ p ∈ ks.zip vs, ckAt ls ts p.1 = some p.2
def rSame (neg : Bool) : R2 := fun x y H Q => ∃ a b o u ks vs ls ts, x = .ref a ∧ y = .ref b ∧ H a = some (.frz o (dkO a (ks.zip (vs.map ckV)))) ∧ H b = some (.frz u (dkO b (ls.zip (ts.map ckV)))) ∧ Same2 ks vs ls ts ∧ Q (.bl (!neg)) H
theorem same_hits {ks vs ls ts : List Ck} (h : Same2 ks vs ls ts) : ∀ p ∈ ks.zip (vs.map ckV), valV (ls.zip (ts.map ckV)) p.1 = some p.2 ∧ flatB p.2 = true := by
  intro p hp
  rw [List.zip_map_right] at hp
  obtain ⟨q, hq, rfl⟩ := List.mem_map.mp hp
  refine ⟨ckAt_val (h.same q hq), ?_⟩
  show flatB (ckV q.2) = true
  cases q.2 <;> rfl
theorem op_neSame (hu : X.A.units < cLine) : OpR X (compareOp .NotEq) (rSame true) := by
  rintro pins s σ H x y v u Q I rx ry ⟨a, b, oa, ob, ks, vs, ls, ts, rfl, rfl, ea, eb, h, q⟩
  cases rx
  cases ry
  obtain ⟨_, _, na, va, ra, da⟩ := lk_at I ea
  obtain ⟨_, _, nb, vb, rb, db⟩ := lk_at I eb
  have z1 : (ks.zip (vs.map ckV)).length = ks.length := by rw [List.length_zip, List.length_map]; have := h.l1; omega
  have z2 : (ls.zip (ts.map ckV)).length = ls.length := by rw [List.length_zip, List.length_map]; have := h.l2; omega
  have hl : va.length = vb.length := by rw [← ra.length, ← rb.length, z1, z2]; exact h.len
  exact PySem.W.keq_ne (knd := caseK X.prog X.w) (r := true) na nb da db hu (fun _ => hits_all rb ra (same_hits h)) (fin_bl I q (by simp [hl]))
theorem op_eqSame (hu : X.A.units < cLine) : OpR X (compareOp .Eq) (rSame false) := by
  rintro pins s σ H x y v u Q I rx ry ⟨a, b, oa, ob, ks, vs, ls, ts, rfl, rfl, ea, eb, h, q⟩
  cases rx
  cases ry
  obtain ⟨_, _, na, va, ra, da⟩ := lk_at I ea
  obtain ⟨_, _, nb, vb, rb, db⟩ := lk_at I eb
  have z1 : (ks.zip (vs.map ckV)).length = ks.length := by rw [List.length_zip, List.length_map]; have := h.l1; omega
  have z2 : (ls.zip (ts.map ckV)).length = ls.length := by rw [List.length_zip, List.length_map]; have := h.l2; omega
  have hl : va.length = vb.length := by rw [← ra.length, ← rb.length, z1, z2]; exact h.len
  exact PySem.W.keq_eq (knd := caseK X.prog X.w) (r := true) na nb da db hu (fun _ => hits_all rb ra (same_hits h)) (fin_bl I q (by simp [hl]))
def sameD (neg : Bool) : F2 := fun x y S k => ∃ ks vs ls ts, x = .dic ks (vs.map ckD) ∧ y = .dic ls (ts.map ckD) ∧ Same2 ks vs ls ts ∧ k (.bl (!neg)) S
theorem same_go {neg : Bool} {x y : D} {S : Sto} {k : RK} {v u : V} {Q : VK} (q : sameD neg x y S k) (rx : Rp X.K H x v) (ry : Rp X.K H y u) (hS : AbsS X.K S H) (c : Cl X.K H S k Q) : rSame neg v u H Q := by
  obtain ⟨ks, vs, ls, ts, rfl, rfl, h, q⟩ := q
  obtain ⟨a, o, us, rfl, e1, l1, r1⟩ := rx.dic_
  obtain ⟨b, o2, ws, rfl, e2, l2, r2⟩ := ry.dic_
  have := r1.cks; subst this
  have := r2.cks; subst this
  exact ⟨a, b, o, o2, ks, vs, ls, ts, rfl, rfl, e1, e2, h, c _ _ _ _ q Stp.refl .bl hS⟩
theorem opNeDic (hu : X.A.units < cLine) : Op2 X (compareOp .NotEq) (sameD true) := ⟨_, op_neSame hu, fun x y S k v u H Q q rx ry hS c => same_go q rx ry hS c⟩
theorem opEqDic (hu : X.A.units < cLine) : Op2 X (compareOp .Eq) (sameD false) := ⟨_, op_eqSame hu, fun x y S k v u H Q q rx ry hS c => same_go q rx ry hS c⟩
end
end DL
/-! dict(list of pairs), the keys None or ints -/
namespace DL
open PySem PySem.Spec PyProof.Rows L2
section
variable {prog : Program} {w : World} {A : Around} {E : Value → Shared → Prop}
/-- the walk over the pairs: T the dict, J the iterator, src the list -/
theorem fill_pairs {R : Result → Shared → Prop} {T J src : Addr} {cells : Array Value} {out : Value} (calm : A.handled = none) (d1 : src ≠ J) (d2 : T ≠ J) (d3 : T ≠ src) :
    ∀ (todo : List (Ck × Value)) (at_ : Nat) (done : List (Ck × Value)) (ix : Int) (tk0 : Tok) (s : Shared), cells.size = at_ + todo.length → done.length + todo.length ≤ sizeLine →
      (∀ (j : Nat) (p : Ck × Value), todo[j]? = some p → ∃ (b : Addr) (u : Value), cells[at_ + j]? = some (.ref b) ∧ b ≠ T ∧ b ≠ J ∧ IsTup s.heap b #[u, p.2] ∧ (caseK prog w).is p.1 u = true) →
      s.heap.IsListIter J src at_ → s.heap.IsList src cells → s.heap.DictOf (caseK prog w) T done →
      (∀ h' tk, h'.DictOf (caseK prog w) T (merged done todo) → (∀ b o, b ≠ T → b ≠ J → s.heap.get? b = some o → h'.get? b = some o) → R (.ok (.ret out)) { s with heap := h', toks := tk }) →
      codeAny (model prog w) A (.builtin "dict.update.loop" ⟨[.ref T, .ref J, .int ix tk0, out], []⟩) R s := by
  intro todo
  induction todo with
  | nil =>
    intro at_ done ix tk0 s size room rows iter lst dic fin
    refine codeAny_builtin ud_entry ?_
    rw [Around.under_plainId ud_plain _]
    refine wpAny_bind (m := pyNext (.ref J)) (wpAny_pyNext_list_end (A := A.in1) calm iter lst (Array.getElem?_eq_none (by simp at size; omega)) fun h' ext => ?_)
    refine wpAny_bind (m := Builtin.Dict.addKeywords T []) (wpAny_pure (wpAny_pure ?_))
    exact fin h' s.toks (dic.extBut ext d2) fun b o _ nb e => ext b o nb e
  | cons p todo ih =>
    intro at_ done ix tk0 s size room rows iter lst dic fin
    obtain ⟨b, u, cb, bT, bJ, tup, isk⟩ := rows 0 p rfl
    rw [List.length_cons] at size room
    refine codeAny_builtin ud_entry ?_
    rw [Around.under_plainId ud_plain _]
    refine wpAny_bind (m := pyNext (.ref J)) (wpAny_pyNext_list_item (x := .ref b) iter lst (by simpa using cb) fun h1 iter1 same1 => ?_)
    have tup1 : IsTup h1 b #[u, p.2] := tup.extBut same1.extBut bJ
    have lst1 : h1.IsList src cells := lst.extBut same1.extBut d1
    have dic1 : h1.DictOf (caseK prog w) T done := dic.extBut same1.extBut d2
    obtain ⟨ob, at1, cls1, n1, dat1⟩ := id tup1
    refine wpAny_bind (m := holding [Value.ref b] _) (wpAny_holding (wpAny_bind (wpAny_tryCatch ?_)))
    unfold Builtin.Dict.pairItems
    refine wpAny_bind (wpAny_typeOf (T := "tuple") ⟨ob, at1, cls1⟩ ?_)
    rw [if_pos (by first | decide | rfl | simp)]
    refine wpAny_bind (wpAny_seqItems at1 dat1 (wpAny_pure ?_))
    refine wpAny_holding (vs := [u, p.2]) (m := dictSet T u p.2) (wpAny_dictSet_pairs (knd := caseK prog w) (k := p.1) isk dic1 (fun h2 dic2 same2 => ?_) (by omega))
    refine wpAny_pure ⟨plainId_quiet ud_plain _, ih (at_ + 1) (stored done p.1 p.2) (ix + 1) 0 _ (by omega) ?_ (fun j p' e => ?_) ?_ ?_ dic2 fun h' tk dd k => ?_⟩
    · have := stored_length_le done p.1 p.2
      omega
    · obtain ⟨b', u', e1, e2, e3, e4, e5⟩ := rows (j + 1) p' (by simpa using e)
      exact ⟨b', u', by rw [show at_ + 1 + j = at_ + (j + 1) by omega]; exact e1, e2, e3, (e4.extBut same1.extBut e3).extBut same2.extBut e2, e5⟩
    · exact iter1.at fun o' e => same2.extBut J o' (Ne.symm d2) e
    · exact lst1.extBut same2.extBut (Ne.symm d3)
    · exact fin h' tk dd fun c oc z1 z2 e => k c oc z1 z2 (same2.extBut c oc z1 (same1.extBut c oc z2 e))
end
end DL
namespace DL
open PySem PySem.Spec PyProof.Rows L2
section
variable {prog : Program} {w : World} {A : Around} {E : Value → Shared → Prop}
theorem new_pairs {s : Shared} {src : Addr} {ol : Obj} {cells : Array Value} {n : Nat} {todo : List (Ck × Value)} {Q : Value → Shared → Prop} (calm : A.handled = none) (at_ : s.heap.get? src = some ol) (cls : ol.cls = .type "list") (own : ol.dict = none) (dat : ol.data = .seq cells n)
    (size : cells.size = todo.length) (room : todo.length ≤ sizeLine)
    (rows : ∀ (j : Nat) (p : Ck × Value), todo[j]? = some p → ∃ (b : Addr) (u : Value), cells[j]? = some (.ref b) ∧ IsTup s.heap b #[u, p.2] ∧ (caseK prog w).is p.1 u = true)
    (fin : ∀ h' tk, h'.DictOf (caseK prog w) s.heap.objs.size (merged [] todo) → (∀ b o, s.heap.get? b = some o → h'.get? b = some o) → Q (.ref s.heap.objs.size) { s with heap := h', toks := tk }) :
    wpAny (model prog w) A (call (.type "dict") [.ref src]) Q E s := by
  refine callType_codes (Q₁ := fun obj s₁ => obj = .ref s.heap.objs.size ∧ s₁ = { s with heap := s.heap.push { cls := .type "dict", data := .dict #[] } }) PySem.F.kt_called_dict (PySem.F.kt_typeCall_dict_1 _) PySem.F.entry_dict_init (kt_code_dict_new _ ⟨rfl, rfl⟩) ?_
  rintro _ _ ⟨rfl, rfl⟩
  have fresh : (s.heap.push { cls := .type "dict", data := .dict #[] }).DictOf (caseK prog w) s.heap.objs.size [] := Heap.DictOf.new s.heap
  have old : ∀ b o, s.heap.get? b = some o → (s.heap.push { cls := .type "dict", data := .dict #[] }).get? b = some o := fun b o e => Heap.get?_push_of_some _ e
  refine ⟨fresh.typeIs, PySem.F.args_dict_init_2 _ _, ?_⟩
  unfold Builtin.«dict.__init__» Builtin.Dict.selfAndRest
  refine wpAny_bind (wpAny_bind (wpAny_notOrdered_dict fresh.typeIs (wpAny_pure ?_)))
  show wpAny _ _ (Builtin.Dict.updateFrom "dict.__init__" s.heap.objs.size (.ref src) [] .none) _ _ _
  unfold Builtin.Dict.updateFrom
  refine wpAny_bind (wpAny_typeOf (T := "list") ⟨ol, old _ _ at_, cls⟩ ?_)
  rw [if_pos (by first | decide | rfl | simp)]
  refine wpAny_bind (miss_list (old _ _ at_) cls dat own calm fun h1 tk1 kept1 => ?_)
  rw [if_pos (show (none : Option Value).isNone = true from rfl)]
  refine wpAny_bind (wpAny_rule ?_)
  have lst1 : h1.IsList src cells := ⟨ol, kept1 _ _ (old _ _ at_), cls, n, dat⟩
  have lt1 : s.heap.objs.size < h1.objs.size := Heap.lt_size (kept1 s.heap.objs.size { cls := .type "dict", data := .dict #[] } (Heap.get?_push_size _ rfl))
  refine wpAny_bind (wpAny_pyIter_list lst1 ?_)
  have kept2 : ∀ b o, h1.get? b = some o → (h1.push { cls := .type "list_iterator", data := .fields #[.ref src, .int 0 0] }).get? b = some o := fun b o e => Heap.get?_push_of_some _ e
  have lt0 : src < s.heap.objs.size := Heap.lt_size at_
  have walk := fill_pairs (prog := prog) (w := w) (A := A.in1) (R := wants (fun r s₂ => r = .none ∧ Q (.ref s.heap.objs.size) s₂) E) (T := s.heap.objs.size) (J := h1.objs.size) (src := src) (cells := cells) (out := Value.none) calm
    (Nat.ne_of_lt (Nat.lt_trans lt0 lt1)) (Nat.ne_of_lt lt1) (Nat.ne_of_gt lt0) todo 0 [] 0 0 { s with heap := h1.push { cls := .type "list_iterator", data := .fields #[.ref src, .int 0 0] }, toks := tk1 } (by omega) (by simpa using room)
    (fun j p e => by
      obtain ⟨b, u, e1, e2, e3⟩ := rows j p e
      have below : b < s.heap.objs.size := e2.lt
      exact ⟨b, u, by rw [Nat.zero_add]; exact e1, Nat.ne_of_lt below, Nat.ne_of_lt (Nat.lt_trans below lt1), e2.keeps fun c o z => kept2 _ _ (kept1 _ _ (old _ _ z)), e3⟩)
    ⟨_, Heap.get?_push_size _ rfl, rfl, rfl⟩ (lst1.at fun o e => kept2 _ _ e) ((fresh.at fun o e => kept1 _ _ e).at fun o e => kept2 _ _ e)
    fun h' tk dd k => ⟨rfl, fin h' tk dd fun b o e => by
      have := Heap.lt_size e
      exact k b o (Nat.ne_of_lt this) (Nat.ne_of_lt (Nat.lt_trans this lt1)) (kept2 _ _ (kept1 _ _ (old _ _ e)))⟩
  first
    | exact wpAny_pure ⟨plainId_quiet ud_plain _, walk⟩
    | exact wpAny_bind (wpAny_pure (wpAny_pure ⟨plainId_quiet ud_plain _, walk⟩))
end
end DL
namespace DL
open PySem PySem.Spec PyProof.Rows L2
section
variable {X : Cx} {K : PySem.W.Frag} {H : Hp}
theorem stored_new {l : List (Ck × Value)} {c : Ck} {u : Value} (h : c ∉ l.map (·.1)) : stored l c u = l ++ [(c, u)] := by
  unfold stored
  rw [if_neg]
  intro z
  rw [List.any_eq_true] at z
  obtain ⟨p, hp, e⟩ := z
  exact h (List.mem_map.mpr ⟨p, hp, of_decide_eq_true e⟩)
theorem merged_new : ∀ {m l : List (Ck × Value)}, ((l ++ m).map (·.1)).Nodup → merged l m = l ++ m
  | [], l, _ => by rw [List.append_nil]; rfl
  | p :: m, l, h => by
    show merged (stored l p.1 p.2) m = _
    have nl : p.1 ∉ l.map (·.1) := by
      rw [List.map_append, List.nodup_append] at h
      exact fun z => h.2.2 p.1 z p.1 (List.mem_cons_self ..) rfl
    rw [stored_new nl, merged_new (by rw [List.append_assoc]; exact h), List.append_assoc]; rfl
/-- the pairs behind a list of tuples -/
theorem pair_rows {pins : List (Addr × Obj)} {σ : L2.St} {s : Shared} (I : Inv X pins σ H s) : ∀ {ks : List Ck} {ds : List D} {vs : List V} {its : List Value}, ks.length = ds.length → RpL X.K H ((ks.zip ds).map fun p => .tup [ckD p.1, p.2]) vs → Vals vs its →
    ∃ (us : List V) (prs : List (Ck × Value)), ks.length = us.length ∧ RpL X.K H ds us ∧ KV (ks.zip us) prs ∧ prs.map (·.1) = ks ∧ prs.length = its.length ∧
      ∀ (j : Nat) (p : Ck × Value), prs[j]? = some p → ∃ (b : Addr) (u : Value), its[j]? = some (.ref b) ∧ IsTup s.heap b #[u, p.2] ∧ (caseK X.prog X.w).is p.1 u = true
  | [], [], vs, its, _, r, rv => by
    have := r.nil_of; subst this
    cases rv
    exact ⟨[], [], rfl, .nil, .nil, rfl, rfl, fun j p e => by simp at e⟩
  | c :: ks, d :: ds, vs, its, l, r, rv => by
    obtain ⟨v, vs', rfl, p1, t⟩ := RpL.cons_of (d := D.tup [ckD c, d]) (ds := (ks.zip ds).map fun p => D.tup [ckD p.1, p.2]) r
    obtain ⟨b, ws, rfl, q1, q2⟩ := p1.tup_
    obtain ⟨w1, w2, rfl, r1, r2⟩ := q2.two
    cases rv with
    | cons rb rest =>
      obtain ⟨us, prs, h1, h2, h3, h4, h5, h6⟩ := pair_rows I (by simpa using l) t rest
      cases rb
      obtain ⟨its2, rv2, tp, _⟩ := I.tuple q1.sq
      obtain ⟨u1, u2, rfl, ru1, ru2⟩ := vals2 rv2
      obtain rfl := ck_of r1
      refine ⟨w2 :: us, (c, u2) :: prs, by simp [h1], .cons r2 h2, .cons ⟨rfl, ru2⟩ h3, by simp [h4], by simp [h5], fun j p e => ?_⟩
      cases j with
      | zero =>
        simp at e; subst e
        exact ⟨b, u1, rfl, tp, ck_is ru1⟩
      | succ j =>
        obtain ⟨b', u', e1, e2, e3⟩ := h6 j p (by simpa using e)
        exact ⟨b', u', by simpa using e1, e2, e3⟩
def rDictF (K : PySem.W.Frag) : List V → Hp → VK → Prop := fun xs H Q => ∃ (a : Addr) (ks : List Ck) (ds : List D) (vs : List V), xs = [.ref a] ∧ SqL K H a vs ∧ ks.length = ds.length ∧ ks.Nodup ∧ RpL K H ((ks.zip ds).map fun p => .tup [ckD p.1, p.2]) vs ∧
  ∀ (us : List V) (p : Addr), ks.length = us.length → RpL K H ds us → H p = none → Q (.ref p) (L2.upd H p (dkO p (ks.zip us)))
theorem cr_dictF (hc : X.calm = true) : CallR X (.type "dict") (rDictF X.K) := by
  rintro pins s σ H xs us Q I r ⟨a, ks, ds, vs, rfl, hq, l, nd, rl, q⟩
  obtain ⟨u, rfl, ru⟩ := vals1 r
  cases ru
  obtain ⟨its, rv, pl, hz⟩ := I.list hq
  obtain ⟨ws, prs, h1, h2, h3, h4, h5, h6⟩ := pair_rows I l rl rv
  obtain ⟨o, n, ho, hcl, hd, hdat⟩ := pl
  refine new_pairs (todo := prs) (I.ok.hd hc) ho hcl hd hdat (by simp [h5]) (by rw [h5, ← rv.length]; exact hz) (fun j p e => ?_) fun h' tk dd k => ?_
  · obtain ⟨b, u, e1, e2, e3⟩ := h6 j p e
    exact ⟨b, u, by simpa using e1, e2, e3⟩
  · have nm : (s.heap.objs.size == sysModules) = false := beq_eq_false_iff_ne.mpr (Nat.ne_of_gt I.big)
    rw [merged_new (by rw [List.nil_append, h4]; exact nd), List.nil_append] at dd
    have z : (ks.zip ws).length ≤ sizeLine := by
      have a1 : (ks.zip ws).length = prs.length := Paired.length h3
      rw [a1, h5, ← rv.length]; exact hz
    exact ⟨.ref s.heap.objs.size, _, I.laid (t' := tk) k (Nat.le_refl _) (dk_ok z nm h3 dd), rfl, q ws _ h1 h2 (I.hok.fresh (Nat.le_refl _))⟩
/-- dict(xs) of a list of pairs, the keys different: it never changes afterwards -/
def rDictL (re : RT) : RT := fun env S k => re env S fun d S1 => ∃ (ks : List Ck) (ds : List D), seqOf S1 d = some ((ks.zip ds).map fun p => .tup [ckD p.1, p.2]) ∧ isTup d = false ∧ ks.length = ds.length ∧ ks.Nodup ∧ k (.dic ks ds) S1
theorem re_dictL {e : Expr} {re : RT} {p pos : Pos} (hc : X.calm = true) (hg : Gl X "dict") (hm : X.mg "dict" = none) (he : RE X e re) (ha : starEach [e] X.env = (false, eval e X.env) :: starEach [] X.env := by rfl) : RE X (.Call (.Name "dict" p) [e] [] pos) (rDictL re) := by
  refine PE.imp (pe_lk (pe_callTy (cr_dictF hc) hg hm (by decide +kernel) (ra_cons he ra_nil ha) (he := ha) (hpl := by rfl))) fun σ H Q ⟨env, S, k, hE, hS, q, c⟩ => ?_
  refine ⟨env, S, fun ds S1 => match ds with
    | [d] => ∃ (ks : List Ck) (es : List D), seqOf S1 d = some ((ks.zip es).map fun p => .tup [ckD p.1, p.2]) ∧ isTup d = false ∧ ks.length = es.length ∧ ks.Nodup ∧ k (.dic ks es) S1
    | _ => False, hE, hS, q, ?_⟩
  rintro ds S1 vs H1 q1 st r1 hS1
  split at q1
  · obtain ⟨ks, es, ex, nt, l, nd, q1⟩ := q1
    obtain ⟨v, rfl, rd⟩ := r1.one
    obtain ⟨a, us, rfl, _, _⟩ := seq_of ex rd hS1
    obtain ⟨ws, hl, rl⟩ := sq_lst ex nt rd hS1
    refine ⟨a, ks, es, ws, rfl, hl, l, nd, rl, fun us p h1 h2 hp => ⟨p, _, rfl, L2.upd_same, True.intro, fun od => ?_⟩⟩
    have e2 : L2.upd (L2.upd H1 p (dkO p (ks.zip us))) p (.frz od (dkO p (ks.zip us))) = L2.upd H1 p (.frz od (dkO p (ks.zip us))) := by
      funext b; unfold L2.upd; split <;> rfl
    rw [e2]
    exact c _ _ _ _ q1 (st.trans (Stp.laid0 hp)) (.dic L2.upd_same h1 (h2.mon (Mon.laid hp))) (hS1.laid0 hp)
  · exact q1.elim
end
end DL
namespace DL
open PySem PySem.Spec PyProof.Rows L2
section
variable {X : Cx} {K : PySem.W.Frag} {H : Hp}
/-- d.get(k, y) -/
def get2D : D → FL := fun x ds S k => ∃ ks es c y, x = .dic ks es ∧ ks.length = es.length ∧ ds = [ckD c, y] ∧ k ((dicAt ks es c).getD y) S
theorem dicAt_none : ∀ {ks : List Ck} {ds : List D} {us : List V} {c : Ck}, ks.length = ds.length → dicAt ks ds c = none → RpL K H ds us → valV (ks.zip us) c = none
  | [], _, _, _, _, _, _ => rfl
  | k :: ks, [], _, _, l, _, _ => by simp at l
  | k :: ks, x :: ds, us, c, l, e, r => by
    obtain ⟨v, r', eu, p, t⟩ := r.cons_of
    subst eu
    unfold dicAt at e
    by_cases h : k = c
    · rw [if_pos h] at e; cases e
    · rw [if_neg h] at e
      rw [List.zip_cons_cons, valV_neg h]
      exact dicAt_none (by simpa using l) e t
theorem mt_get2 : MtR X "dict.get" (fun x xs H Q => ∃ a o kvs c y, x = .ref a ∧ xs = [ckV c, y] ∧ H a = some (.frz o (dkO a kvs)) ∧ Q ((valV kvs c).getD y) H) := by
  rintro pins s σ H x xs v us Q I rx rs ⟨a, o, kvs, c, y, rfl, rfl, e, q⟩
  cases rx
  obtain ⟨u1, u2, rfl, r1, r2⟩ := vals2 rs
  obtain ⟨_, _, n, vs, rel, d⟩ := lk_at I e
  refine call_meetsIn PySem.F.slot_dict_get d.typeIs PySem.F.entry_dict_get (PySem.F.args_dict_get_3 _ _ _) (meets_dict_get_default (caseK X.prog X.w) a (ck_is r1) n u2) ⟨_, d.mapOf, ?_⟩
  exact ⟨_, H, I.tok _, (rel.val c).getD r2, q⟩
theorem mGet2 : MtD X "dict.get" get2D := by
  refine ⟨_, mt_get2, fun x ds S k v vs H Q ⟨ks, es, c, y, ex, l, ed, q⟩ rx rl hS cl => ?_⟩
  subst ex ed
  obtain ⟨a, o, us, rfl, e, ll, r⟩ := rx.dic_
  obtain ⟨v1, v2, rfl, p1, p2⟩ := rl.two
  obtain rfl := ck_of p1
  refine ⟨a, o, _, c, v2, rfl, rfl, e, ?_⟩
  cases h : dicAt ks es c with
  | some d =>
    rw [h] at q
    obtain ⟨v', h1, h2⟩ := dicAt_val h r
    rw [h1]
    exact cl _ _ _ _ q Stp.refl h2 hS
  | none =>
    rw [h] at q
    rw [dicAt_none l h r]
    exact cl _ _ _ _ q Stp.refl p2 hS
end
end DL
namespace DL
open PySem PySem.Spec PyProof.Rows L2
section
variable {X : Cx} {K : PySem.W.Frag} {H : Hp} {S : Sto}
/-! ### type(x) -/
def typD : FL := fun ds S k => match ds with
  | [x] => ∃ t, kindD S x = some t ∧ k (.ty t) S
  | _ => False
theorem kind_tb {x : D} {v : V} {t : String} (e : kindD S x = some t) (r : Rp K H x v) (hS : AbsS K S H) : TyB K H v t := by
  cases x with
  | non => cases e; rw [r.non_]; exact .non
  | bl b => cases e; rw [r.bl_]; exact .bl b
  | int b => cases e; rw [r.int_]; exact .int b
  | str b => cases e; rw [r.str_]; exact .str b
  | ty n => cases e
  | par n => cases e
  | dic _ _ => cases e
  | tup xs =>
    cases e
    obtain ⟨a, vs, rfl, h, _⟩ := r.tup_
    exact .tup h.sq
  | lis xs =>
    cases e
    obtain ⟨a, vs, rfl, h, _⟩ := r.lis_
    exact .lst h.sq
  | ref a =>
    rw [r.ref_]
    unfold kindD at e
    dsimp only at e
    split at e
    · rename_i xs q
      cases e
      obtain ⟨vs, h1, _⟩ := hS.lst q
      exact .lst (.of h1)
    · rename_i kvs q
      cases e
      obtain ⟨h, e1, _, e2⟩ := hS _ _ q
      have e2' : h = .dK kvs := e2
      subst e2'
      exact .dK e1
    · cases e
theorem cType : CallD X (.type "type") typD := by
  refine ⟨_, call_type1, fun ds S k vs H Q q r hS c => ?_⟩
  unfold typD at q
  split at q
  · obtain ⟨v, rfl, r1⟩ := r.one
    obtain ⟨t, e1, q⟩ := q
    exact ⟨v, t, rfl, kind_tb e1 r1 hS, c _ _ _ _ q Stp.refl .ty hS⟩
  · exact q.elim
def isTD (neg : Bool) : F2 := fun x y S k => match x, y with
  | .ty a, .ty b => k (.bl (neg ^^ decide (a = b))) S
  | _, _ => False
theorem opIsTy : Op2 X (compareOp .Is) (isTD false) := by
  refine ⟨_, op_isTy, fun x y S k v u H Q q rx ry hS c => ?_⟩
  unfold isTD at q
  split at q
  · exact ⟨_, _, rx.ty_, ry.ty_, c _ _ _ _ (by simpa using q) Stp.refl .bl hS⟩
  · exact q.elim
theorem opNotTy : Op2 X (compareOp .IsNot) (isTD true) := by
  refine ⟨_, op_isNotTy, fun x y S k v u H Q q rx ry hS c => ?_⟩
  unfold isTD at q
  split at q
  · exact ⟨_, _, rx.ty_, ry.ty_, c _ _ _ _ (by simpa using q) Stp.refl .bl hS⟩
  · exact q.elim
/-! ### t.index(z, start) -/
theorem mt_tup_index3 : MtR X "tuple.index" (fun x xs H Q => ∃ p, ∃ ys : List Int, ∃ (z : Int) (a : Int) (j : Nat), x = .ref p ∧ xs = [.int z, .int a] ∧ SqT X.K H p (ys.map V.int) ∧ 0 ≤ a ∧ a.toNat ≤ j ∧ ys[j]? = some z ∧ (∀ m, a.toNat ≤ m → m < j → ys[m]? ≠ some z) ∧ Q (.int (j : Nat)) H) := by
  rintro pins s σ H x xs v us Q I rx rs ⟨p, ys, z, a, j, rfl, rfl, hq, ha, hlo, hy, hno, q⟩
  cases rx
  obtain ⟨u, u2, rfl, ⟨t, rfl⟩, ⟨t2, rfl⟩⟩ := vals2 rs
  obtain ⟨its, r, pl, hz⟩ := I.tuple hq
  obtain ⟨⟨cls, dd, dt, sl⟩, ho, hc, n, hd⟩ := pl
  simp only at hc hd
  subst hc hd
  have hl : its.toArray.size = ys.length := by rw [List.size_toArray, ← r.length, List.length_map]
  have hj : j < its.toArray.size := hl ▸ (List.getElem?_eq_some_iff.mp hy).1
  have item : ∀ (m : Nat) (hm : m < its.toArray.size), ∃ y t', ys[m]? = some y ∧ its.toArray[m] = Value.int y t' := by
    intro m hm
    have hm' : m < ys.length := hl ▸ hm
    obtain ⟨w, hw, t', hw'⟩ := r.get (i := m) (x := .int ys[m]) (by simp [hm'])
    refine ⟨ys[m], t', List.getElem?_eq_getElem hm', ?_⟩
    rw [← hw', ← (List.getElem?_eq_some_iff.mp hw).2]
    simp
  have sf : PySem.SeqAt.searchFrom a its.toArray.size = a.toNat := PySem.SeqAt.searchFrom_nonneg ha _
  refine call_meets PySem.F.slot_tuple_index ⟨_, ho, rfl⟩ PySem.F.entry_tuple_index (PySem.F.args_tuple_index_3 _ _ _) (PySem.SeqAt.tuple_index3_found p its.toArray n dd sl (.int z t) (fun m => if h : m < its.toArray.size then eqU (.int z) its.toArray[m] else false) a t2 j hj (by rw [sf]; exact hlo) hj ?_ ?_) ⟨ho, ?_, ⟨.int (j : Nat), H, I.tok _, ⟨_, rfl⟩, q⟩⟩
  · obtain ⟨y, t', h1, h2⟩ := item j hj
    rw [hy] at h1
    cases h1
    simp only [dif_pos hj]
    rw [h2]
    exact beq_self_eq_true z
  · intro m hm hlo' hmj
    rw [sf] at hlo'
    obtain ⟨y, t', h1, h2⟩ := item m hm
    simp only [dif_pos hm]
    rw [h2]
    exact beq_eq_false_iff_ne.mpr fun e => hno m hlo' hmj (e ▸ h1)
  · intro m hm
    simp only [dif_pos hm]
    exact mem_eqAt (x := .int z) ⟨t, rfl⟩ rfl r (flat_ints ys) _ (by simp)
def index3D : D → FL := fun x ds S k => ∃ (ys : List Int) (z a : Int) (j : Nat), x = .tup (ys.map D.int) ∧ ds = [.int z, .int a] ∧ 0 ≤ a ∧ a.toNat ≤ j ∧ ys[j]? = some z ∧ (∀ m, a.toNat ≤ m → m < j → ys[m]? ≠ some z) ∧ k (.int (j : Nat)) S
theorem mIndex3 : MtD X "tuple.index" index3D := by
  refine ⟨_, mt_tup_index3, fun x ds S k v vs H Q q rx rl hS c => ?_⟩
  obtain ⟨ys, z, a, j, rfl, rfl, h0, h1, h2, h3, q⟩ := q
  obtain ⟨u, u2, rfl, ru, ru2⟩ := rl.two
  have := ru.int_; subst this
  have := ru2.int_; subst this
  obtain ⟨b, ws, rfl, h4, h5⟩ := rx.tup_
  have := h5.ints; subst this
  exact ⟨b, ys, z, a, j, rfl, rfl, h4.sq, h0, h1, h2, h3, c _ _ _ _ q Stp.refl .int hS⟩
end
end DL
namespace DL
open PySem PySem.Spec PyProof.Rows L2
/-! ### the first place of a car -/
theorem find_end (ns : List Int) (c : Int) : ∃ j, j ≤ ns.length ∧ (ns ++ [c])[j]? = some c ∧ (∀ m, m < j → (ns ++ [c])[m]? ≠ some c) ∧ stepN ns c = (if j < ns.length then ns.take j else ns ++ [c]) ∧ leftN ns c = ns.drop j := by
  by_cases h : c ∈ ns
  · obtain ⟨j, h1, h2, h3, h4⟩ := find_first h
    have hj := (List.getElem?_eq_some_iff.mp h1).1
    refine ⟨j, Nat.le_of_lt hj, by rw [List.getElem?_append_left hj]; exact h1, fun m hm => ?_, ?_, h4⟩
    · rw [List.getElem?_append_left (Nat.lt_trans hm hj)]; exact h2 m hm
    · rw [step_in h, if_pos hj, h3]
  · refine ⟨ns.length, Nat.le_refl _, by simp, fun m hm => ?_, ?_, ?_⟩
    · rw [List.getElem?_append_left hm]
      exact fun e => h (List.mem_of_getElem? e)
    · rw [step_out h, if_neg (Nat.lt_irrefl _)]
    · rw [left_out h, List.drop_length]
theorem step_front {xs ys : List Int} {d : Int} (h : d ∉ xs) : stepN (xs ++ ys) d = xs ++ stepN ys d := by
  by_cases m : d ∈ ys
  · rw [step_in (List.mem_append_right _ m), step_in m]
    induction xs with
    | nil => rfl
    | cons x xs ih =>
      rw [List.cons_append, List.takeWhile_cons, if_pos (by simp; intro e; exact h (e ▸ List.mem_cons_self ..)), List.cons_append, ih fun q => h (List.mem_cons_of_mem _ q)]
  · rw [step_out m, step_out (fun z => (List.mem_append.mp z).elim h m), List.append_assoc]
theorem step_head {c : Int} {ys : List Int} : stepN (c :: ys) c = [] := by
  rw [step_in (List.mem_cons_self ..), List.takeWhile_cons, if_neg (by simp)]
theorem step_tail {c d : Int} {ys : List Int} (h : d ≠ c) : stepN (c :: ys) d = c :: stepN ys d := step_front (xs := [c]) (by simpa using h)
theorem step_mem {ns : List Int} {d x : Int} (h : x ∈ stepN ns d) : x ∈ ns ∨ x = d := by
  by_cases m : d ∈ ns
  · rw [step_in m] at h; exact .inl ((List.takeWhile_sublist _).subset h)
  · rw [step_out m] at h
    rcases List.mem_append.mp h with z | z
    · exact .inl z
    · exact .inr (List.mem_singleton.mp z)
theorem kind_int {S : Sto} {y : D} (h : kindD S y = some "int") : ∃ z, y = .int z := by
  cases y with
  | int z => exact ⟨z, rfl⟩
  | ref a =>
    unfold kindD at h
    dsimp only at h
    split at h
    · exact absurd (Option.some.inj h) (by decide)
    · exact absurd (Option.some.inj h) (by decide)
    · cases h
  | non => exact absurd (Option.some.inj h) (by decide)
  | bl b => exact absurd (Option.some.inj h) (by decide)
  | str b => exact absurd (Option.some.inj h) (by decide)
  | tup b => exact absurd (Option.some.inj h) (by decide)
  | lis b => exact absurd (Option.some.inj h) (by decide)
  | _ => cases h
/-! ### the next call of a car -/
structure NextN (cs : List Int) (t j : Nat) : Prop where
  lt : t < j
  hit : cs[j % cs.length]? = cs[t % cs.length]?
  no : ∀ i, t < i → i < j → cs[i % cs.length]? ≠ cs[t % cs.length]?
theorem NextN.uniq {cs : List Int} {t j k : Nat} (a : NextN cs t j) (b : NextN cs t k) : j = k := by
  rcases Nat.lt_trichotomy j k with h | h | h
  · exact absurd a.hit (b.no j a.lt h)
  · exact h
  · exact absurd b.hit (a.no k b.lt h)
theorem NextN.shift {cs : List Int} {r j : Nat} (q : Nat) (a : NextN cs r j) : NextN cs (r + q * cs.length) (j + q * cs.length) := by
  refine ⟨by have := a.lt; omega, ?_, fun i h1 h2 => ?_⟩
  · rw [Nat.add_mul_mod_self_right, Nat.add_mul_mod_self_right]; exact a.hit
  · obtain ⟨i', rfl⟩ : ∃ i', i = i' + q * cs.length := ⟨i - q * cs.length, by omega⟩
    rw [Nat.add_mul_mod_self_right, Nat.add_mul_mod_self_right]
    exact a.no i' (by omega) (by omega)
theorem NextN.le {cs : List Int} {t j : Nat} (a : NextN cs t j) (h : 1 ≤ cs.length) : j ≤ t + cs.length := by
  rcases Nat.lt_or_ge (t + cs.length) j with g | g
  · exact absurd (by rw [Nat.add_mod_right]) (a.no (t + cs.length) (by omega) g)
  · exact g
theorem least_of {P : Nat → Prop} : ∀ k, P k → ∃ j, j ≤ k ∧ P j ∧ ∀ i, i < j → ¬ P i := by
  intro k
  induction k using Nat.strongRecOn with
  | _ k ih =>
    intro h
    by_cases e : ∃ i, i < k ∧ P i
    · obtain ⟨i, hi, pi⟩ := e
      obtain ⟨j, h1, h2, h3⟩ := ih i hi pi
      exact ⟨j, by omega, h2, h3⟩
    · exact ⟨k, Nat.le_refl _, h, fun i hi pi => e ⟨i, hi, pi⟩⟩
theorem next_ex {cs : List Int} (t : Nat) (h : 1 ≤ cs.length) : ∃ j, NextN cs t j := by
  obtain ⟨j, _, ⟨h1, h2⟩, h3⟩ := least_of (P := fun j => t < j ∧ cs[j % cs.length]? = cs[t % cs.length]?) (t + cs.length) ⟨by omega, by rw [Nat.add_mod_right]⟩
  exact ⟨j, h1, h2, fun i g1 g2 e => h3 i g2 ⟨g1, e⟩⟩
/-! ### drawing of the second kind -/
def ShedV (N : Nat) (b : List D) : Prop := ∃ u c t : Int, 0 ≤ u ∧ 0 ≤ c ∧ c ≤ 10 ^ 39 ∧ 0 ≤ t ∧ t ≤ N ∧ b = [.int u, .int c, .int t]
theorem ShedV.mono {N M : Nat} {b : List D} (h : ShedV N b) (l : N ≤ M) : ShedV M b := by
  obtain ⟨u, c, t, h1, h2, h3, h4, h5, h6⟩ := h
  exact ⟨u, c, t, h1, h2, h3, h4, by omega, h6⟩
def c_law_shed : Cn := fun ds S k _ => ∃ (ns : List Int) (i : Int), ds = [.lis (ns.map D.int), .int i] ∧ 0 ≤ i ∧ i ≤ 100 ∧ ns.length ≤ 63 ∧ ∀ b p, ShedV 0 b → S p = none → k (.ref p) (S.upd p (.lst b))
def c_law_take : Cn := fun ds S k _ => ∃ a m b N, ds = [.ref a, .int m] ∧ 0 < m ∧ m ≤ 10 ^ 36 ∧ S a = some (.lst b) ∧ ShedV N b ∧ N ≤ 10 ^ 30 ∧ ∀ told b', 0 ≤ told → told < m → ShedV (N + 1) b' → k (.int told) (S.upd a (.lst b'))
def c_law_mixed : Cn := fun ds S k _ => ∃ (a c : Addr) (b : List D) (N : Nat) (ns : List Int), ds = [.ref a, .ref c] ∧ a ≠ c ∧ S a = some (.lst b) ∧ ShedV N b ∧ N ≤ 10 ^ 20 ∧ S c = some (.lst (ns.map D.int)) ∧ ns.length ≤ 1000 ∧
  ∀ b' (ms : List Int) p, ShedV (N + ns.length) b' → ns.Perm ms → S p = none → k (.ref p) ((S.upd a (.lst b')).upd p (.lst (ms.map D.int)))
def c_law_day : Cn := fun ds S k _ => ∃ a m b N, ds = [.ref a, .int m] ∧ 0 < m ∧ m ≤ 200 ∧ S a = some (.lst b) ∧ ShedV N b ∧ N ≤ 10 ^ 10 ∧
  ∀ b' cs, ShedV (N + 2000) b' → CallsN cs → k (tupI cs) (S.upd a (.lst b'))
def c_law_moved : Cn := c_step
def c_law_due16 : Cn := fun ds S k _ => ∃ (cs : List Int) (m : Nat) (fr : List Int), ds = [tupI cs, .int (m : Nat), tupI fr] ∧ CallsN cs ∧ LaneN fr ∧ (∀ x ∈ cs, x ∉ fr) ∧ ∀ j, NextN cs m j → k (.int ((j + 1 : Nat) : Int)) S
def c_next_clear : Cn := fun ds S k _ => ∃ (cs : List Int) (m : Nat), ds = [tupI cs, .int (m : Nat)] ∧ CallsN cs ∧ m ≤ 10 ^ 36 ∧ ∀ j, NextN cs m j → k (.int ((j + 1 : Nat) : Int)) S
def c_check_moment : Cn := fun ds S k _ => ∃ m : Int, ds = [.int m] ∧ 0 ≤ m ∧ m ≤ 10 ^ 36 ∧ k .non S
def c_law_right16 : Cn := fun ds S k _ => ∃ a b N cs, ds = [.ref a, tupI cs] ∧ S a = some (.lst b) ∧ ShedV N b ∧ N ≤ 10 ^ 9 ∧ CallsN cs ∧ ∀ b' S', ShedV (N + 100) b' → Ex a S b' S' → k (.bl true) S'
end DL
namespace DL
open PySem PySem.Spec PyProof.Rows L2
theorem take_at {a : Addr} {m : Int} {N : Nat} {S : Sto} {k : RK} {ek : XKd} {S0 : Sto} {b : List D} (hx : Ex a S0 b S) (hb : ShedV N b) (hN : N ≤ 10 ^ 30) (h0 : 0 < m) (h1 : m ≤ 10 ^ 36) (q : ∀ told b' S', 0 ≤ told → told < m → ShedV (N + 1) b' → Ex a S0 b' S' → (∀ c, c ≠ a → S' c = S c) → k (.int told) S') : c_law_take [.ref a, .int m] S k ek :=
  ⟨a, m, b, N, rfl, h0, h1, hx.bag, hb, hN, fun told b' t0 t1 hb' => q told b' _ t0 t1 hb' hx.upd fun c hc => Sto.upd_ne hc⟩
theorem comp_mix {a p : Addr} {S : Sto} {b : List D} {N vi : Nat} {m : Nat} {left : List Int} {env : DEnv} {S0 : Sto} {k : RK} {vb vl : Nat} {ri : RTi}
    (hri : ∀ K : List D → (Sto → Prop) → Sto → Prop, K (rngD 0 m) (fun _ => True) S0 → ri env S0 K)
    (e0 : ∀ d, ((wipeE env [vi]).set vi (some d))[vb]? = some (some (.ref a))) (e1 : ∀ d, ((wipeE env [vi]).set vi (some d))[vl]? = some (some (.ref p)))
    (hx : Ex a S b S0) (hb : ShedV N b) (hN : N ≤ 10 ^ 20) (hp : S p = none) (hpa : p ≠ a) (hl : S0 p = some (.lst (left.map D.int))) (hL : left.length ≤ 1000) (hm : m ≤ left.length)
    (q : ∀ b' cs rest S', ShedV (N + m) b' → Ex a S b' S' → left.Perm (cs ++ rest) → cs.length = m → ∀ p, S' p = none → k (.ref p) (S'.upd p (.lst (cs.map D.int)))) :
    rComp ri (gN vi) rYes (rBm "list" popAtD (rVar vl) (rCons (rCall 2 c_law_take (rCons (rVar vb) (rCons (rCallB lenD (rCons (rVar vl) rNil)) rNil))) rNil)) [vi] env S0 k := by
  refine hri _ ⟨fun i acc S' => ∃ b' cs rest, ShedV (N + i) b' ∧ Ex a S b' S' ∧ S' p = some (.lst (rest.map D.int)) ∧ acc = cs.map D.int ∧ cs.length = i ∧ left.Perm (cs ++ rest), ⟨b, [], left, hb, hx, hl, rfl, rfl, List.Perm.refl _⟩, fun _ _ _ _ _ => trivial, ?_, ?_⟩
  · rintro i x acc S' hi ⟨b', cs, rest, hb', hx', hp', rfl, rfl, pm⟩
    obtain ⟨hi', rfl⟩ := rngD_it hi
    have ln := pm.length_eq
    rw [List.length_append] at ln
    simp only [gN, rYes, if_true, rBm, rVar, e0, e1, rCons, rNil, rCall, rCallB]
    refine ⟨tyD_lst hp', len_at (seq_ref hp') ⟨rfl, a, _, b', _, rfl, ?_, ?_, hx'.bag, hb', ?_, fun told b'' t0 t1 hb'' => ?_⟩⟩
    · rw [List.length_map]; omega
    · rw [List.length_map]; omega
    · omega
    · rw [List.length_map] at t1
      have hj : told.toNat < rest.length := by omega
      have ej : rest[told.toNat]? = some rest[told.toNat] := List.getElem?_eq_getElem hj
      refine popAt_at (xs := rest.map D.int) (d := .int rest[told.toNat]) (by rw [Sto.upd_ne hpa]; exact hp') t0 (by omega) (by rw [List.getElem?_map, ej]; rfl) ⟨?_, _, Sub.refl _, b'', cs ++ [rest[told.toNat]], rest.eraseIdx told.toNat, hb'', ?_, ?_, ?_, ?_, ?_⟩
      · rw [List.length_map]; exact Nat.lt_of_le_of_lt (show cs.length ≤ 1000 by omega) (by decide)
      · exact (hx'.upd).mod hp hpa
      · rw [Sto.upd_same, eraseIdx_ints]
      · simp
      · simp
      · rw [List.append_assoc, List.singleton_append]
        exact pm.trans (List.Perm.append_left cs (erase_perm ej))
  · rintro acc S' ⟨b', cs, rest, hb', hx', hp', rfl, hcs, pm⟩
    rw [rngD_len] at hcs
    subst hcs
    rw [rngD_len] at hb'
    exact q b' cs rest S' hb' hx' pm rfl
theorem dbl_get {cs : List Int} {i : Nat} (h : i < cs.length + cs.length) : (cs ++ cs)[i]? = cs[i % cs.length]? := by
  rcases Nat.lt_or_ge i cs.length with g | g
  · rw [List.getElem?_append_left g, Nat.mod_eq_of_lt g]
  · rw [List.getElem?_append_right g, Nat.mod_eq_sub_mod g, Nat.mod_eq_of_lt (by omega)]
end DL
namespace DL
open PySem PySem.Spec PyProof.Rows L2
theorem sh_int {S : Sto} {i : Int} : ShP S (.int i) (.int i) := .inr (.int i)
theorem fit_int {i : Int} (h : i.natAbs < 10 ^ 60) : (PyData.int i).showable = true ∧ (PyData.int i).depth ≤ 30 ∧ (PyData.int i).shown.length ≤ sizeLine := by
  have lg : i.natAbs.log2 < 200 := by
    by_cases z : i.natAbs = 0
    · rw [z]; decide
    · exact (Nat.log2_lt z).mpr (Nat.lt_trans h (by decide))
  refine ⟨by simp only [PyData.showable, decide_eq_true_eq]; omega, Nat.zero_le _, ?_⟩
  have lv : (PyData.int i).leavesShort 61 = true := by
    simp only [PyData.leavesShort, decide_eq_true_eq]
    have e := int_text_length_le10 (k := 60) (by decide) h
    show (Str.ofString (toString i)).length ≤ 61
    rw [PySem.ofString_length]; exact e
  have a := PyData.shown_le 61 (by decide) _ lv
  have w : (PyData.int i).weight ≤ 200 := by
    unfold PyData.weight
    split
    · omega
    · omega
  have b : (61 + 2) * (PyData.int i).weight ≤ 63 * 200 := Nat.mul_le_mul (by decide) w
  rw [sizeLine_eq]
  omega
theorem lg_lt {n k : Nat} (h : n < 2 ^ k) (hk : 0 < k) : n.log2 < k := by
  by_cases z : n = 0
  · rw [z]; exact hk
  · exact (Nat.log2_lt z).mpr h
theorem powB_3 {i : Int} (h0 : 0 ≤ i) (h1 : i < 2 ^ 200) : CPowB i 3 := by
  refine ⟨by decide, by decide, ?_⟩
  have : i.natAbs < 2 ^ 200 := by omega
  have := lg_lt this (by decide)
  omega
theorem powB_10 {j : Int} (h0 : 0 ≤ j) (h1 : j ≤ 100) : CPowB 10 j := ⟨h0, by omega, by decide⟩
theorem mul_intC {i j : Int} {S : Sto} {k : RK} (h : CMul i j) (q : k (.int (i * j)) S) : mulD (.int i) (.int j) S k := ⟨h, q⟩
theorem due_step {cs fr row : List Int} {c d : Int} {m j here : Nat} (hj : NextN cs m j) (hc : cs[m % cs.length]? = some c) (hdis : ∀ x ∈ cs, x ∉ fr) (h2 : here ≤ j)
    (cas : here = m ∧ row = fr ∨ m < here ∧ ∃ r, row = fr ++ c :: r) (hd : cs[here % cs.length]? = some d) :
    here + 1 ≤ j ∧ (∃ r, stepN row d = fr ++ c :: r) ∨ here = j ∧ stepN row d = fr := by
  have cf : c ∉ fr := hdis c (List.mem_of_getElem? hc)
  have df : d ∉ fr := hdis d (List.mem_of_getElem? hd)
  have jl := hj.lt
  rcases cas with ⟨rfl, rfl⟩ | ⟨h1, r, rfl⟩
  · rw [hc] at hd
    cases hd
    exact .inl ⟨by omega, [], step_out cf⟩
  · rcases Nat.lt_or_ge here j with g | g
    · have ne : d ≠ c := fun e => hj.no here h1 g (by rw [hd, hc, e])
      exact .inl ⟨g, stepN r d, by rw [step_front df, step_tail ne]⟩
    · have e : here = j := by omega
      subst e
      have := hj.hit
      rw [hd, hc] at this
      cases this
      exact .inr ⟨rfl, by rw [step_front cf, step_head, List.append_nil]⟩
end DL
namespace K01
open PySem PySem.Spec PyProof.Rows L2 DL
theorem rVar_zero {d : D} {e : DEnv} {S : Sto} {k : RK} : rVar 0 (some d :: e) S k = k d S := rfl
theorem rVar_succ {i : Nat} {x : Option D} {e : DEnv} {S : Sto} {k : RK} : rVar (i + 1) (x :: e) S k = rVar i e S k := by
  unfold rVar
  rw [List.getElem?_cons_succ]
theorem seq_gen {r u : RTs} {ed : DE} {env : DEnv} {S : Sto} (h : ∀ N : DEnv → Sto → Prop, N = (fun env' S' => u ed env' S') → r { ed with nx := N } env S) : rSeq r u ed env S := h _ rfl
theorem ret_gen {re : RT} {ed : DE} {env : DEnv} {S : Sto} (h : ∀ R : RK, R = ed.rt → re env S R) : rRet re ed env S := h _ rfl
theorem for_gen {ri : RTi} {g : RTg} {rb : RTs} {ed : DE} {env : DEnv} {S : Sto} (h : ∀ B : RTs, B = rb → rFor ri g B ed env S) : rFor ri g rb ed env S := h _ rfl
/-! the text by places -/
def topS (i : Nat) : Stmt := PySem.Challenge.pw_deadlane_k01_lanes_and_calls.main.body.getD i (.Pass ⟨0, 0, 0, 0⟩)
abbrev s_is_whole : Stmt := topS 7
theorem sc_is_whole : FnScope ["value"] ["value"] (defScope s_is_whole) := ⟨rfl, rfl, rfl, by decide +kernel, rfl, by decide +kernel, by decide +kernel⟩
abbrev s_is_car : Stmt := topS 8
theorem sc_is_car : FnScope ["value"] ["value"] (defScope s_is_car) := ⟨rfl, rfl, rfl, by decide +kernel, rfl, by decide +kernel, by decide +kernel⟩
abbrev s_are_cars : Stmt := topS 9
theorem sc_are_cars : FnScope ["value", "item"] ["value"] (defScope s_are_cars) := ⟨rfl, rfl, rfl, by decide +kernel, rfl, by decide +kernel, by decide +kernel⟩
abbrev s_is_lane : Stmt := topS 10
theorem sc_is_lane : FnScope ["value"] ["value"] (defScope s_is_lane) := ⟨rfl, rfl, rfl, by decide +kernel, rfl, by decide +kernel, by decide +kernel⟩
abbrev s_are_calls : Stmt := topS 11
theorem sc_are_calls : FnScope ["value"] ["value"] (defScope s_are_calls) := ⟨rfl, rfl, rfl, by decide +kernel, rfl, by decide +kernel, by decide +kernel⟩
abbrev s_check_lane : Stmt := topS 12
theorem sc_check_lane : FnScope ["value"] ["value"] (defScope s_check_lane) := ⟨rfl, rfl, rfl, by decide +kernel, rfl, by decide +kernel, by decide +kernel⟩
abbrev s_check_car : Stmt := topS 13
theorem sc_check_car : FnScope ["value"] ["value"] (defScope s_check_car) := ⟨rfl, rfl, rfl, by decide +kernel, rfl, by decide +kernel, by decide +kernel⟩
abbrev s_step : Stmt := topS 14
theorem sc_step : FnScope ["lane", "car", "longer", "at"] ["lane", "car"] (defScope s_step) := ⟨rfl, rfl, rfl, by decide +kernel, rfl, by decide +kernel, by decide +kernel⟩
abbrev s_called : Stmt := topS 15
theorem sc_called : FnScope ["lane", "car"] ["lane", "car"] (defScope s_called) := ⟨rfl, rfl, rfl, by decide +kernel, rfl, by decide +kernel, by decide +kernel⟩
abbrev s_leaving : Stmt := topS 16
theorem sc_leaving : FnScope ["lane", "car"] ["lane", "car"] (defScope s_leaving) := ⟨rfl, rfl, rfl, by decide +kernel, rfl, by decide +kernel, by decide +kernel⟩
abbrev s_law_bag : Stmt := topS 18
theorem sc_law_bag : FnScope ["cell"] ["cell"] (defScope s_law_bag) := ⟨rfl, rfl, rfl, by decide +kernel, rfl, by decide +kernel, by decide +kernel⟩
abbrev s_law_pick : Stmt := topS 19
theorem sc_law_pick : FnScope ["bag", "many", "first", "second", "told"] ["bag", "many"] (defScope s_law_pick) := ⟨rfl, rfl, rfl, by decide +kernel, rfl, by decide +kernel, by decide +kernel⟩
abbrev s_law_cars : Stmt := topS 20
theorem sc_law_cars : FnScope ["bag", "many", "left", "k"] ["bag", "many"] (defScope s_law_cars) := ⟨rfl, rfl, rfl, by decide +kernel, rfl, by decide +kernel, by decide +kernel⟩
abbrev s_law_calls : Stmt := topS 21
theorem sc_law_calls : FnScope ["bag", "cars", "most", "many", "way", "some", "k"] ["bag", "cars", "most"] (defScope s_law_calls) := ⟨rfl, rfl, rfl, by decide +kernel, rfl, by decide +kernel, by decide +kernel⟩
abbrev s_law_lane : Stmt := topS 22
theorem sc_law_lane : FnScope ["bag", "cars", "row", "way", "inside", "outside", "some", "many", "found", "car", "k"] ["bag", "cars", "row"] (defScope s_law_lane) := ⟨rfl, rfl, rfl, by decide +kernel, rfl, by decide +kernel, by decide +kernel⟩
abbrev s_law_case : Stmt := topS 23
theorem sc_law_case : FnScope ["bag", "most", "length", "cars", "row"] ["bag", "most", "length"] (defScope s_law_case) := ⟨rfl, rfl, rfl, by decide +kernel, rfl, by decide +kernel, by decide +kernel⟩
abbrev s_law_call : Stmt := topS 24
theorem sc_law_call : FnScope ["lane", "car", "k"] ["lane", "car"] (defScope s_law_call) := ⟨rfl, rfl, rfl, by decide +kernel, rfl, by decide +kernel, by decide +kernel⟩
abbrev s_law_day : Stmt := topS 25
theorem sc_law_day : FnScope ["lane", "row", "car"] ["lane", "row"] (defScope s_law_day) := ⟨rfl, rfl, rfl, by decide +kernel, rfl, by decide +kernel, by decide +kernel⟩
abbrev s_law_fixed : Stmt := topS 26
theorem sc_law_fixed : FnScope ["lane", "row", "k"] ["lane", "row"] (defScope s_law_fixed) := ⟨rfl, rfl, rfl, by decide +kernel, rfl, by decide +kernel, by decide +kernel⟩
abbrev s_law_is_car : Stmt := topS 27
theorem sc_law_is_car : FnScope ["value"] ["value"] (defScope s_law_is_car) := ⟨rfl, rfl, rfl, by decide +kernel, rfl, by decide +kernel, by decide +kernel⟩
abbrev s_law_due : Stmt := topS 28
theorem sc_law_due : FnScope ["value", "one", "k"] ["value"] (defScope s_law_due) := ⟨rfl, rfl, rfl, by decide +kernel, rfl, by decide +kernel, by decide +kernel⟩
abbrev s_law_others : Stmt := topS 29
theorem sc_law_others : FnScope ["bag", "row", "at", "odds", "odd", "some", "one"] ["bag", "row"] (defScope s_law_others) := ⟨rfl, rfl, rfl, by decide +kernel, rfl, by decide +kernel, by decide +kernel⟩
abbrev s_law : Stmt := topS 30
theorem sc_law : FnScope ["script", "cell", "bag", "value", "car", "lane", "row", "kept", "later", "left"] ["script"] (defScope s_law) := ⟨rfl, rfl, rfl, by decide +kernel, rfl, by decide +kernel, by decide +kernel⟩
/-- what the module's names hold -/
structure Txt (mg : Str → Option Value) : Prop where
  g_CARS : ∃ t, mg "CARS" = some (.int 60 t)
  g_MOST_CALLS : ∃ t, mg "MOST_CALLS" = some (.int 200 t)
  g_bool : mg "bool" = none
  g_enumerate : mg "enumerate" = none
  g_int : mg "int" = none
  g_isinstance : mg "isinstance" = none
  g_len : mg "len" = none
  g_list : mg "list" = none
  g_max : mg "max" = none
  g_range : mg "range" = none
  g_repr : mg "repr" = none
  g_set : mg "set" = none
  g_str : mg "str" = none
  g_tuple : mg "tuple" = none
  g_type : mg "type" = none
section
variable {P : Program} {w : World} {K : PySem.W.Frag} {mg : Str → Option Value} {base : Heap}
theorem ok_is_whole (T : Txt mg)  (hdef : DefAt K mg "is_whole" s_is_whole ["value"]) : Callee P w K mg base CX0 1 "is_whole" 1 c_is_whole := by
  refine mkCallee hdef sc_is_whole 1 rfl _ (fun cdv A outer s H E f hr => (have hc : (cxOf CX0 P w K mg base ["value"] "is_whole" (defScope s_is_whole) f cdv A outer s H E).nox.calm = true := rfl; have nd := sc_is_whole.nd; (rs_one (rs_ret (re_and (re_callB cIsi rfl T.g_isinstance (by decide +kernel) (ra_cons (re_var 0) (ra_cons (re_type (n := "int") rfl T.g_int (by decide +kernel)) ra_nil))) (re_one (re_not (re_callB cIsi rfl T.g_isinstance (by decide +kernel) (ra_cons (re_var 0) (ra_cons (re_type (n := "bool") rfl T.g_bool (by decide +kernel)) ra_nil)))))))))) (fun ds S kk hl hC => ?_) (fun ds S kk ek z => z)
  obtain ⟨x, rfl, hk, q⟩ := hC
  simp only [↓rSeq, ↓rAsg, ↓gN, ↓rRet, ↓rRetN, ↓rIf, ↓rBin, ↓rUn, ↓rB, ↓rChain, ↓rC, ↓rVar_zero, ↓rVar_succ, ↓rSkip, ↓rDrop, ↓rCons, ↓rNil, ↓rTup, ↓rLst, ↓rCallB, ↓rAndV, ↓rOrV, ↓rNotV, ↓rNot, ↓rAnd, ↓rOr, ↓rIfE, ↓rBm, ↓rBm0, ↓rSl, ↓oNone, ↓oSome, ↓gIx, ↓gTup', ↓gCons', ↓gNil', ↓rCall, ↓rPar, ↓rNever, ↓rBreak, ↓rCont, ↓i2, ↓i20, ↓b20, ↓rYes, wipeE, ↓negD, ↓endOf, ↓DL.envOf, List.map_cons, List.map_nil, List.cons_append, List.nil_append, List.length_cons, List.length_nil, List.replicate, List.getElem?_cons_zero, List.getElem?_cons_succ, List.set_cons_zero, List.set_cons_succ, Nat.zero_add, Nat.reduceAdd, Nat.reduceSub, ↓reduceIte, Bool.false_eq_true, Bool.xor_false, Bool.false_xor, Bool.true_xor, Bool.not_true, Bool.not_false, if_true, if_false, decide_true, decide_false]
  refine isi_int hk ?_
  cases x with
  | int i => exact isi_bool hk ⟨S, Sub.refl S, q⟩
  | bl i => exact isi_bool hk ⟨S, Sub.refl S, q⟩
  | _ => exact ⟨S, Sub.refl S, q⟩
theorem ok_step (T : Txt mg)  (hdef : DefAt K mg "step" s_step ["lane", "car"]) : Callee P w K mg base CX0 1 "step" 2 c_step := by
  refine mkCallee hdef sc_step 2 rfl _ (fun cdv A outer s H E f hr => (have hc : (cxOf CX0 P w K mg base ["lane", "car", "longer", "at"] "step" (defScope s_step) f cdv A outer s H E).nox.calm = true := rfl; have nd := sc_step.nd; (rs_cons (rs_set 2 nd (re_bin opAdd (re_var 0) (re_tup (ra_cons (re_var 1) ra_nil))))
    (rs_cons (rs_set 3 nd (re_bm PySem.F.plainAttrs_tuple PySem.F.slot_tuple_index PySem.F.type_tuple_index mIndex (re_var 2) (ra_cons (re_var 1) ra_nil)))
    (rs_one (rs_ret (re_if (tr_cmp opLt (re_var 3) (re_callB cLen rfl T.g_len (by decide +kernel) (ra_cons (re_var 0) ra_nil)) (nomark _)) (re_slice slSeq (re_var 2) ro_none (ro_some (re_var 3))) (re_var 2)))))))) (fun ds S kk hl hC => ?_) (fun ds S kk ek z => z)
  obtain ⟨ns, c, rfl, hl, q⟩ := hC
  obtain ⟨j, jl, h1, h2, h3, h4⟩ := find_end ns c
  simp only [↓rSeq, ↓rAsg, ↓gN, ↓rRet, ↓rRetN, ↓rIf, ↓rBin, ↓rUn, ↓rB, ↓rChain, ↓rC, ↓rVar_zero, ↓rVar_succ, ↓rSkip, ↓rDrop, ↓rCons, ↓rNil, ↓rTup, ↓rLst, ↓rCallB, ↓rAndV, ↓rOrV, ↓rNotV, ↓rNot, ↓rAnd, ↓rOr, ↓rIfE, ↓rBm, ↓rBm0, ↓rSl, ↓oNone, ↓oSome, ↓gIx, ↓gTup', ↓gCons', ↓gNil', ↓rCall, ↓rPar, ↓rNever, ↓rBreak, ↓rCont, ↓i2, ↓i20, ↓b20, ↓rYes, wipeE, ↓negD, ↓endOf, ↓DL.envOf, List.map_cons, List.map_nil, List.cons_append, List.nil_append, List.length_cons, List.length_nil, List.replicate, List.getElem?_cons_zero, List.getElem?_cons_succ, List.set_cons_zero, List.set_cons_succ, Nat.zero_add, Nat.reduceAdd, Nat.reduceSub, ↓reduceIte, Bool.false_eq_true, Bool.xor_false, Bool.false_xor, Bool.true_xor, Bool.not_true, Bool.not_false, if_true, if_false, decide_true, decide_false]
  refine ⟨by decide, add_tup (by rw [List.length_map]; exact Nat.le_trans (Nat.add_le_add_right hl 1) (by decide)) ?_⟩
  have e : ns.map D.int ++ [D.int c] = (ns ++ [c]).map D.int := by simp
  rw [e]
  refine ⟨rfl, ns ++ [c], c, j, rfl, rfl, h1, h2, ?_⟩
  simp only [↓rSeq, ↓rAsg, ↓gN, ↓rRet, ↓rRetN, ↓rIf, ↓rBin, ↓rUn, ↓rB, ↓rChain, ↓rC, ↓rVar_zero, ↓rVar_succ, ↓rSkip, ↓rDrop, ↓rCons, ↓rNil, ↓rTup, ↓rLst, ↓rCallB, ↓rAndV, ↓rOrV, ↓rNotV, ↓rNot, ↓rAnd, ↓rOr, ↓rIfE, ↓rBm, ↓rBm0, ↓rSl, ↓oNone, ↓oSome, ↓gIx, ↓gTup', ↓gCons', ↓gNil', ↓rCall, ↓rPar, ↓rNever, ↓rBreak, ↓rCont, ↓i2, ↓i20, ↓b20, ↓rYes, wipeE, ↓negD, ↓endOf, ↓DL.envOf, List.map_cons, List.map_nil, List.cons_append, List.nil_append, List.length_cons, List.length_nil, List.replicate, List.getElem?_cons_zero, List.getElem?_cons_succ, List.set_cons_zero, List.set_cons_succ, Nat.zero_add, Nat.reduceAdd, Nat.reduceSub, ↓reduceIte, Bool.false_eq_true, Bool.xor_false, Bool.false_xor, Bool.true_xor, Bool.not_true, Bool.not_false, if_true, if_false, decide_true, decide_false]
  refine len_at seq_tup ?_
  rw [h3] at q
  rw [List.length_map]
  simp only [↓rSeq, ↓rAsg, ↓gN, ↓rRet, ↓rRetN, ↓rIf, ↓rBin, ↓rUn, ↓rB, ↓rChain, ↓rC, ↓rVar_zero, ↓rVar_succ, ↓rSkip, ↓rDrop, ↓rCons, ↓rNil, ↓rTup, ↓rLst, ↓rCallB, ↓rAndV, ↓rOrV, ↓rNotV, ↓rNot, ↓rAnd, ↓rOr, ↓rIfE, ↓rBm, ↓rBm0, ↓rSl, ↓oNone, ↓oSome, ↓gIx, ↓gTup', ↓gCons', ↓gNil', ↓rCall, ↓rPar, ↓rNever, ↓rBreak, ↓rCont, ↓i2, ↓i20, ↓b20, ↓rYes, wipeE, ↓negD, ↓endOf, ↓DL.envOf, List.map_cons, List.map_nil, List.cons_append, List.nil_append, List.length_cons, List.length_nil, List.replicate, List.getElem?_cons_zero, List.getElem?_cons_succ, List.set_cons_zero, List.set_cons_succ, Nat.zero_add, Nat.reduceAdd, Nat.reduceSub, ↓reduceIte, Bool.false_eq_true, Bool.xor_false, Bool.false_xor, Bool.true_xor, Bool.not_true, Bool.not_false, if_true, if_false, decide_true, decide_false]
  by_cases m : j < ns.length
  · have m' : (j : Int) < (ns.length : Nat) := by omega
    rw [if_pos m] at q
    rw [if_pos (by simpa using m')]
    refine sl_tup ?_
    rw [cut_to, ← List.map_take, List.take_append_of_le_length jl]
    exact ⟨S, Sub.refl S, q⟩
  · have m' : ¬ (j : Int) < (ns.length : Nat) := by omega
    rw [if_neg m] at q
    rw [if_neg (by simpa using m')]
    exact ⟨S, Sub.refl S, q⟩
theorem ok_law_bag (T : Txt mg)  (hdef : DefAt K mg "_law_bag" s_law_bag ["cell"]) : Callee P w K mg base CX0 1 "_law_bag" 1 c_law_bag := by
  refine mkCallee hdef sc_law_bag 1 rfl _ (fun cdv A outer s H E f hr => (have hc : (cxOf CX0 P w K mg base ["cell"] "_law_bag" (defScope s_law_bag) f cdv A outer s H E).nox.calm = true := rfl; have nd := sc_law_bag.nd; (rs_one (rs_ret (re_lst (ra_cons (re_callB (cMax hc) rfl T.g_max (by decide +kernel) (ra_cons re_int (ra_cons (re_bin opSub (re_var 0) (re_bin opPowB re_int re_int)) ra_nil))) (ra_cons (re_var 0) (ra_cons re_int ra_nil)))))))) (fun ds S kk hl hC => ?_) (fun ds S kk ek z => z)
  obtain ⟨c, rfl, q⟩ := hC
  simp only [↓rSeq, ↓rAsg, ↓gN, ↓rRet, ↓rRetN, ↓rIf, ↓rBin, ↓rUn, ↓rB, ↓rChain, ↓rC, ↓rVar_zero, ↓rVar_succ, ↓rSkip, ↓rDrop, ↓rCons, ↓rNil, ↓rTup, ↓rLst, ↓rCallB, ↓rAndV, ↓rOrV, ↓rNotV, ↓rNot, ↓rAnd, ↓rOr, ↓rIfE, ↓rBm, ↓rBm0, ↓rSl, ↓oNone, ↓oSome, ↓gIx, ↓gTup', ↓gCons', ↓gNil', ↓rCall, ↓rPar, ↓rNever, ↓rBreak, ↓rCont, ↓i2, ↓i20, ↓b20, ↓rYes, wipeE, ↓negD, ↓endOf, ↓DL.envOf, List.map_cons, List.map_nil, List.cons_append, List.nil_append, List.length_cons, List.length_nil, List.replicate, List.getElem?_cons_zero, List.getElem?_cons_succ, List.set_cons_zero, List.set_cons_succ, Nat.zero_add, Nat.reduceAdd, Nat.reduceSub, ↓reduceIte, Bool.false_eq_true, Bool.xor_false, Bool.false_xor, Bool.true_xor, Bool.not_true, Bool.not_false, if_true, if_false, decide_true, decide_false]
  refine ⟨⟨by decide, by decide, by decide⟩, max0 fun u hu => ⟨by decide, fun p hp => ⟨_, Sub.refl _, q _ p ⟨u, c, 0, hu, rfl⟩ hp⟩⟩⟩
theorem ok_law_pick (T : Txt mg)  (hdef : DefAt K mg "_law_pick" s_law_pick ["bag", "many"]) : Callee P w K mg base CX0 1 "_law_pick" 2 c_law_pick := by
  refine mkCallee hdef sc_law_pick 2 rfl _ (fun cdv A outer s H E f hr => (have hc : (cxOf CX0 P w K mg base ["bag", "many", "first", "second", "told"] "_law_pick" (defScope s_law_pick) f cdv A outer s H E).nox.calm = true := rfl; have nd := sc_law_pick.nd; (rs_cons (rs_asg (is := List.range 50) (re_bin opAdd (re_ix ixSeq (re_var 0) re_int) re_int) (rg_sub (re_var 0) re_int setLst))
    (rs_cons (rs_if (tr_cmp opGt (re_ix ixSeq (re_var 0) re_int) re_int (nomark _))
    (rs_cons (rs_set 4 nd (re_bin opMod (re_ix ixSeq (re_var 0) re_int) (re_var 1)))
    (rs_cons (rs_asg (is := List.range 50) (re_bin opDiv (re_ix ixSeq (re_var 0) re_int) (re_var 1)) (rg_sub (re_var 0) re_int setLst))
    (rs_one (rs_ret (re_var 4)))))
    rs_nil)
    (rs_cons (rs_set 2 nd (re_bin opMod (re_bin opAdd (re_bin opAdd (re_bin opMul (re_bin opMod (re_ix ixSeq (re_var 0) re_int) re_int) re_int) (re_bin opMul (re_ix ixSeq (re_var 0) re_int) re_int)) re_int) re_int))
    (rs_cons (rs_set 3 nd (re_bin opMod (re_bin opAdd (re_bin opMul (re_var 2) (re_var 2)) (re_bin opMul (re_ix ixSeq (re_var 0) re_int) re_int)) re_int))
    (rs_one (rs_ret (re_bin opMod (re_bin opDiv (re_bin opAdd (re_bin opMul (re_var 2) re_int) (re_var 3)) re_int) (re_var 1)))))))))) (fun ds S kk hl hC => ?_) (fun ds S kk ek z => z)
  obtain ⟨a, m, b, rfl, m0, m1, ha, ⟨u, c, t, u0, rfl⟩, q⟩ := hC
  have q' : ∀ told u' c' t', 0 ≤ told → told < m → 0 ≤ u' → ∃ S', DL.Sub S' (S.upd a (.lst [.int u', .int c', .int t'])) ∧ kk (.int told) S' := fun told u' c' t' h1 h2 h3 => ⟨_, Sub.refl _, q told _ h1 h2 ⟨u', c', t', h3, rfl⟩⟩
  simp only [↓rSeq, ↓rAsg, ↓gN, ↓rRet, ↓rRetN, ↓rIf, ↓rBin, ↓rUn, ↓rB, ↓rChain, ↓rC, ↓rVar_zero, ↓rVar_succ, ↓rSkip, ↓rDrop, ↓rCons, ↓rNil, ↓rTup, ↓rLst, ↓rCallB, ↓rAndV, ↓rOrV, ↓rNotV, ↓rNot, ↓rAnd, ↓rOr, ↓rIfE, ↓rBm, ↓rBm0, ↓rSl, ↓oNone, ↓oSome, ↓gIx, ↓gTup', ↓gCons', ↓gNil', ↓rCall, ↓rPar, ↓rNever, ↓rBreak, ↓rCont, ↓i2, ↓i20, ↓b20, ↓rYes, wipeE, ↓negD, ↓endOf, ↓DL.envOf, List.map_cons, List.map_nil, List.cons_append, List.nil_append, List.length_cons, List.length_nil, List.replicate, List.getElem?_cons_zero, List.getElem?_cons_succ, List.set_cons_zero, List.set_cons_succ, Nat.zero_add, Nat.reduceAdd, Nat.reduceSub, ↓reduceIte, Bool.false_eq_true, Bool.xor_false, Bool.false_xor, Bool.true_xor, Bool.not_true, Bool.not_false, if_true, if_false, decide_true, decide_false]
  refine ixD_at (seq_ref ha) rfl ?_
  refine add_int ?_
  refine setL_lit ha rfl ?_
  refine ixD_at (seq_ref Sto.upd_same) rfl ?_
  simp only [↓rSeq, ↓rAsg, ↓gN, ↓rRet, ↓rRetN, ↓rIf, ↓rBin, ↓rUn, ↓rB, ↓rChain, ↓rC, ↓rVar_zero, ↓rVar_succ, ↓rSkip, ↓rDrop, ↓rCons, ↓rNil, ↓rTup, ↓rLst, ↓rCallB, ↓rAndV, ↓rOrV, ↓rNotV, ↓rNot, ↓rAnd, ↓rOr, ↓rIfE, ↓rBm, ↓rBm0, ↓rSl, ↓oNone, ↓oSome, ↓gIx, ↓gTup', ↓gCons', ↓gNil', ↓rCall, ↓rPar, ↓rNever, ↓rBreak, ↓rCont, ↓i2, ↓i20, ↓b20, ↓rYes, wipeE, ↓negD, ↓endOf, ↓DL.envOf, List.map_cons, List.map_nil, List.cons_append, List.nil_append, List.length_cons, List.length_nil, List.replicate, List.getElem?_cons_zero, List.getElem?_cons_succ, List.set_cons_zero, List.set_cons_succ, Nat.zero_add, Nat.reduceAdd, Nat.reduceSub, ↓reduceIte, Bool.false_eq_true, Bool.xor_false, Bool.false_xor, Bool.true_xor, Bool.not_true, Bool.not_false, if_true, if_false, decide_true, decide_false]
  by_cases hu : 0 < u
  · rw [if_pos (by simpa using hu)]
    refine ixD_at (seq_ref Sto.upd_same) rfl ?_
    simp only [↓rSeq, ↓rAsg, ↓gN, ↓rRet, ↓rRetN, ↓rIf, ↓rBin, ↓rUn, ↓rB, ↓rChain, ↓rC, ↓rVar_zero, ↓rVar_succ, ↓rSkip, ↓rDrop, ↓rCons, ↓rNil, ↓rTup, ↓rLst, ↓rCallB, ↓rAndV, ↓rOrV, ↓rNotV, ↓rNot, ↓rAnd, ↓rOr, ↓rIfE, ↓rBm, ↓rBm0, ↓rSl, ↓oNone, ↓oSome, ↓gIx, ↓gTup', ↓gCons', ↓gNil', ↓rCall, ↓rPar, ↓rNever, ↓rBreak, ↓rCont, ↓i2, ↓i20, ↓b20, ↓rYes, wipeE, ↓negD, ↓endOf, ↓DL.envOf, List.map_cons, List.map_nil, List.cons_append, List.nil_append, List.length_cons, List.length_nil, List.replicate, List.getElem?_cons_zero, List.getElem?_cons_succ, List.set_cons_zero, List.set_cons_succ, Nat.zero_add, Nat.reduceAdd, Nat.reduceSub, ↓reduceIte, Bool.false_eq_true, Bool.xor_false, Bool.false_xor, Bool.true_xor, Bool.not_true, Bool.not_false, if_true, if_false, decide_true, decide_false]
    refine ⟨m0, ixD_at (seq_ref Sto.upd_same) rfl ?_⟩
    simp only [↓rSeq, ↓rAsg, ↓gN, ↓rRet, ↓rRetN, ↓rIf, ↓rBin, ↓rUn, ↓rB, ↓rChain, ↓rC, ↓rVar_zero, ↓rVar_succ, ↓rSkip, ↓rDrop, ↓rCons, ↓rNil, ↓rTup, ↓rLst, ↓rCallB, ↓rAndV, ↓rOrV, ↓rNotV, ↓rNot, ↓rAnd, ↓rOr, ↓rIfE, ↓rBm, ↓rBm0, ↓rSl, ↓oNone, ↓oSome, ↓gIx, ↓gTup', ↓gCons', ↓gNil', ↓rCall, ↓rPar, ↓rNever, ↓rBreak, ↓rCont, ↓i2, ↓i20, ↓b20, ↓rYes, wipeE, ↓negD, ↓endOf, ↓DL.envOf, List.map_cons, List.map_nil, List.cons_append, List.nil_append, List.length_cons, List.length_nil, List.replicate, List.getElem?_cons_zero, List.getElem?_cons_succ, List.set_cons_zero, List.set_cons_succ, Nat.zero_add, Nat.reduceAdd, Nat.reduceSub, ↓reduceIte, Bool.false_eq_true, Bool.xor_false, Bool.false_xor, Bool.true_xor, Bool.not_true, Bool.not_false, if_true, if_false, decide_true, decide_false]
    refine ⟨⟨m0, m1⟩, setL_lit Sto.upd_same rfl ?_⟩
    rw [Sto.upd_upd]
    exact q' _ _ _ _ (Int.emod_nonneg _ (by omega)) (Int.emod_lt_of_pos _ m0) (Int.ediv_nonneg u0 (by omega))
  · rw [if_neg (by simpa using hu)]
    refine ixD_at (seq_ref Sto.upd_same) rfl ?_
    simp only [↓rSeq, ↓rAsg, ↓gN, ↓rRet, ↓rRetN, ↓rIf, ↓rBin, ↓rUn, ↓rB, ↓rChain, ↓rC, ↓rVar_zero, ↓rVar_succ, ↓rSkip, ↓rDrop, ↓rCons, ↓rNil, ↓rTup, ↓rLst, ↓rCallB, ↓rAndV, ↓rOrV, ↓rNotV, ↓rNot, ↓rAnd, ↓rOr, ↓rIfE, ↓rBm, ↓rBm0, ↓rSl, ↓oNone, ↓oSome, ↓gIx, ↓gTup', ↓gCons', ↓gNil', ↓rCall, ↓rPar, ↓rNever, ↓rBreak, ↓rCont, ↓i2, ↓i20, ↓b20, ↓rYes, wipeE, ↓negD, ↓endOf, ↓DL.envOf, List.map_cons, List.map_nil, List.cons_append, List.nil_append, List.length_cons, List.length_nil, List.replicate, List.getElem?_cons_zero, List.getElem?_cons_succ, List.set_cons_zero, List.set_cons_succ, Nat.zero_add, Nat.reduceAdd, Nat.reduceSub, ↓reduceIte, Bool.false_eq_true, Bool.xor_false, Bool.false_xor, Bool.true_xor, Bool.not_true, Bool.not_false, if_true, if_false, decide_true, decide_false]
    refine ⟨by decide, mul_int (by decide) (ixD_at (seq_ref Sto.upd_same) rfl (mul_int (by decide) ?_))⟩
    refine add_int (add_int ?_)
    simp only [↓rSeq, ↓rAsg, ↓gN, ↓rRet, ↓rRetN, ↓rIf, ↓rBin, ↓rUn, ↓rB, ↓rChain, ↓rC, ↓rVar_zero, ↓rVar_succ, ↓rSkip, ↓rDrop, ↓rCons, ↓rNil, ↓rTup, ↓rLst, ↓rCallB, ↓rAndV, ↓rOrV, ↓rNotV, ↓rNot, ↓rAnd, ↓rOr, ↓rIfE, ↓rBm, ↓rBm0, ↓rSl, ↓oNone, ↓oSome, ↓gIx, ↓gTup', ↓gCons', ↓gNil', ↓rCall, ↓rPar, ↓rNever, ↓rBreak, ↓rCont, ↓i2, ↓i20, ↓b20, ↓rYes, wipeE, ↓negD, ↓endOf, ↓DL.envOf, List.map_cons, List.map_nil, List.cons_append, List.nil_append, List.length_cons, List.length_nil, List.replicate, List.getElem?_cons_zero, List.getElem?_cons_succ, List.set_cons_zero, List.set_cons_succ, Nat.zero_add, Nat.reduceAdd, Nat.reduceSub, ↓reduceIte, Bool.false_eq_true, Bool.xor_false, Bool.false_xor, Bool.true_xor, Bool.not_true, Bool.not_false, if_true, if_false, decide_true, decide_false]
    refine ⟨by decide, ?_⟩
    generalize hf : (_ % 2147483647 : Int) = f1
    have f0 : 0 ≤ f1 := by rw [← hf]; exact Int.emod_nonneg _ (by decide)
    have f2 : f1 < 2147483647 := by rw [← hf]; exact Int.emod_lt_of_pos _ (by decide)
    refine mul_int ⟨by omega, by omega⟩ (ixD_at (seq_ref Sto.upd_same) rfl (mul_int (by decide) (add_int ?_)))
    simp only [↓rSeq, ↓rAsg, ↓gN, ↓rRet, ↓rRetN, ↓rIf, ↓rBin, ↓rUn, ↓rB, ↓rChain, ↓rC, ↓rVar_zero, ↓rVar_succ, ↓rSkip, ↓rDrop, ↓rCons, ↓rNil, ↓rTup, ↓rLst, ↓rCallB, ↓rAndV, ↓rOrV, ↓rNotV, ↓rNot, ↓rAnd, ↓rOr, ↓rIfE, ↓rBm, ↓rBm0, ↓rSl, ↓oNone, ↓oSome, ↓gIx, ↓gTup', ↓gCons', ↓gNil', ↓rCall, ↓rPar, ↓rNever, ↓rBreak, ↓rCont, ↓i2, ↓i20, ↓b20, ↓rYes, wipeE, ↓negD, ↓endOf, ↓DL.envOf, List.map_cons, List.map_nil, List.cons_append, List.nil_append, List.length_cons, List.length_nil, List.replicate, List.getElem?_cons_zero, List.getElem?_cons_succ, List.set_cons_zero, List.set_cons_succ, Nat.zero_add, Nat.reduceAdd, Nat.reduceSub, ↓reduceIte, Bool.false_eq_true, Bool.xor_false, Bool.false_xor, Bool.true_xor, Bool.not_true, Bool.not_false, if_true, if_false, decide_true, decide_false]
    refine ⟨by decide, mul_int (by decide) (add_int ?_)⟩
    simp only [↓rSeq, ↓rAsg, ↓gN, ↓rRet, ↓rRetN, ↓rIf, ↓rBin, ↓rUn, ↓rB, ↓rChain, ↓rC, ↓rVar_zero, ↓rVar_succ, ↓rSkip, ↓rDrop, ↓rCons, ↓rNil, ↓rTup, ↓rLst, ↓rCallB, ↓rAndV, ↓rOrV, ↓rNotV, ↓rNot, ↓rAnd, ↓rOr, ↓rIfE, ↓rBm, ↓rBm0, ↓rSl, ↓oNone, ↓oSome, ↓gIx, ↓gTup', ↓gCons', ↓gNil', ↓rCall, ↓rPar, ↓rNever, ↓rBreak, ↓rCont, ↓i2, ↓i20, ↓b20, ↓rYes, wipeE, ↓negD, ↓endOf, ↓DL.envOf, List.map_cons, List.map_nil, List.cons_append, List.nil_append, List.length_cons, List.length_nil, List.replicate, List.getElem?_cons_zero, List.getElem?_cons_succ, List.set_cons_zero, List.set_cons_succ, Nat.zero_add, Nat.reduceAdd, Nat.reduceSub, ↓reduceIte, Bool.false_eq_true, Bool.xor_false, Bool.false_xor, Bool.true_xor, Bool.not_true, Bool.not_false, if_true, if_false, decide_true, decide_false]
    refine ⟨⟨by decide, by decide⟩, m0, ?_⟩
    exact q' _ _ _ _ (Int.emod_nonneg _ (by omega)) (Int.emod_lt_of_pos _ m0) u0
theorem ok_law_call (T : Txt mg)  (hdef : DefAt K mg "_law_call" s_law_call ["lane", "car"]) : Callee P w K mg base CX0 1 "_law_call" 2 c_law_call := by
  refine mkCallee hdef sc_law_call 2 rfl _ (fun cdv A outer s H E f hr => (have hc : (cxOf CX0 P w K mg base ["lane", "car", "k"] "_law_call" (defScope s_law_call) f cdv A outer s H E).nox.calm = true := rfl; have nd := sc_law_call.nd; (rs_cons (rs_for (is := List.range 50) PassesOwn.never hc (ri_rng rfl T.g_range (ra_cons (re_callB cLen rfl T.g_len (by decide +kernel) (ra_cons (re_var 0) ra_nil)) ra_nil)) (rg_name 2 nd (by simp))
    (rs_one (rs_if (tr_cmp (opEq hr.u64) (re_ix ixSeq (re_var 0) (re_var 2)) (re_var 1) (nomark _))
    (rs_one (rs_ret (re_tup (ra_cons (re_slice slSeq (re_var 0) ro_none (ro_some (re_var 2))) (ra_cons (re_slice slSeq (re_var 0) (ro_some (re_var 2)) ro_none) ra_nil)))))
    rs_nil)))
    (rs_one (rs_ret (re_tup (ra_cons (re_bin opAdd (re_var 0) (re_tup (ra_cons (re_var 1) ra_nil))) (ra_cons (re_tup ra_nil) ra_nil)))))))) (fun ds S kk hl hC => ?_) (fun ds S kk ek z => z)
  obtain ⟨ns, c, rfl, hl, q⟩ := hC
  simp only [↓rSeq, ↓rAsg, ↓gN, ↓rRet, ↓rRetN, ↓rIf, ↓rBin, ↓rUn, ↓rB, ↓rChain, ↓rC, ↓rVar_zero, ↓rVar_succ, ↓rSkip, ↓rDrop, ↓rCons, ↓rNil, ↓rTup, ↓rLst, ↓rCallB, ↓rAndV, ↓rOrV, ↓rNotV, ↓rNot, ↓rAnd, ↓rOr, ↓rIfE, ↓rBm, ↓rBm0, ↓rSl, ↓oNone, ↓oSome, ↓gIx, ↓gTup', ↓gCons', ↓gNil', ↓rCall, ↓rPar, ↓rNever, ↓rBreak, ↓rCont, ↓i2, ↓i20, ↓b20, ↓rYes, wipeE, ↓negD, ↓endOf, ↓DL.envOf, List.map_cons, List.map_nil, List.cons_append, List.nil_append, List.length_cons, List.length_nil, List.replicate, List.getElem?_cons_zero, List.getElem?_cons_succ, List.set_cons_zero, List.set_cons_succ, Nat.zero_add, Nat.reduceAdd, Nat.reduceSub, ↓reduceIte, Bool.false_eq_true, Bool.xor_false, Bool.false_xor, Bool.true_xor, Bool.not_true, Bool.not_false, if_true, if_false, decide_true, decide_false]
  unfold rFor iRng
  simp only [↓rSeq, ↓rAsg, ↓gN, ↓rRet, ↓rRetN, ↓rIf, ↓rBin, ↓rUn, ↓rB, ↓rChain, ↓rC, ↓rVar_zero, ↓rVar_succ, ↓rSkip, ↓rDrop, ↓rCons, ↓rNil, ↓rTup, ↓rLst, ↓rCallB, ↓rAndV, ↓rOrV, ↓rNotV, ↓rNot, ↓rAnd, ↓rOr, ↓rIfE, ↓rBm, ↓rBm0, ↓rSl, ↓oNone, ↓oSome, ↓gIx, ↓gTup', ↓gCons', ↓gNil', ↓rCall, ↓rPar, ↓rNever, ↓rBreak, ↓rCont, ↓i2, ↓i20, ↓b20, ↓rYes, wipeE, ↓negD, ↓endOf, ↓DL.envOf, List.map_cons, List.map_nil, List.cons_append, List.nil_append, List.length_cons, List.length_nil, List.replicate, List.getElem?_cons_zero, List.getElem?_cons_succ, List.set_cons_zero, List.set_cons_succ, Nat.zero_add, Nat.reduceAdd, Nat.reduceSub, ↓reduceIte, Bool.false_eq_true, Bool.xor_false, Bool.false_xor, Bool.true_xor, Bool.not_true, Bool.not_false, if_true, if_false, decide_true, decide_false]
  refine len_at seq_tup ⟨by rw [List.length_map]; omega, by omega, ?_⟩
  rw [Int.toNat_natCast]
  refine ⟨fun i env S' => S' = S ∧ (∃ o, env = [some (tupI ns), some (.int c), o]) ∧ ∀ m, m < i → ns[m]? ≠ some c, ⟨rfl, ⟨none, rfl⟩, fun m hm => absurd hm (Nat.not_lt_zero m)⟩, fun _ _ _ _ _ => trivial, ?_, ?_⟩
  · rintro i x env S' hi ⟨rfl, ⟨o, rfl⟩, hno⟩
    obtain ⟨hi', rfl⟩ := rngD_it hi
    rw [List.length_map] at hi'
    have en : ns[i]? = some ns[i] := List.getElem?_eq_getElem hi'
    simp only [↓rSeq, ↓rAsg, ↓gN, ↓rRet, ↓rRetN, ↓rIf, ↓rBin, ↓rUn, ↓rB, ↓rChain, ↓rC, ↓rVar_zero, ↓rVar_succ, ↓rSkip, ↓rDrop, ↓rCons, ↓rNil, ↓rTup, ↓rLst, ↓rCallB, ↓rAndV, ↓rOrV, ↓rNotV, ↓rNot, ↓rAnd, ↓rOr, ↓rIfE, ↓rBm, ↓rBm0, ↓rSl, ↓oNone, ↓oSome, ↓gIx, ↓gTup', ↓gCons', ↓gNil', ↓rCall, ↓rPar, ↓rNever, ↓rBreak, ↓rCont, ↓i2, ↓i20, ↓b20, ↓rYes, wipeE, ↓negD, ↓endOf, ↓DL.envOf, List.map_cons, List.map_nil, List.cons_append, List.nil_append, List.length_cons, List.length_nil, List.replicate, List.getElem?_cons_zero, List.getElem?_cons_succ, List.set_cons_zero, List.set_cons_succ, Nat.zero_add, Nat.reduceAdd, Nat.reduceSub, ↓reduceIte, Bool.false_eq_true, Bool.xor_false, Bool.false_xor, Bool.true_xor, Bool.not_true, Bool.not_false, if_true, if_false, decide_true, decide_false]
    refine ixD_at seq_tup (atI_nat (v := D.int ns[i]) (by rw [List.getElem?_map, en]; rfl)) (eq_int ?_)
    simp only [↓rSeq, ↓rAsg, ↓gN, ↓rRet, ↓rRetN, ↓rIf, ↓rBin, ↓rUn, ↓rB, ↓rChain, ↓rC, ↓rVar_zero, ↓rVar_succ, ↓rSkip, ↓rDrop, ↓rCons, ↓rNil, ↓rTup, ↓rLst, ↓rCallB, ↓rAndV, ↓rOrV, ↓rNotV, ↓rNot, ↓rAnd, ↓rOr, ↓rIfE, ↓rBm, ↓rBm0, ↓rSl, ↓oNone, ↓oSome, ↓gIx, ↓gTup', ↓gCons', ↓gNil', ↓rCall, ↓rPar, ↓rNever, ↓rBreak, ↓rCont, ↓i2, ↓i20, ↓b20, ↓rYes, wipeE, ↓negD, ↓endOf, ↓DL.envOf, List.map_cons, List.map_nil, List.cons_append, List.nil_append, List.length_cons, List.length_nil, List.replicate, List.getElem?_cons_zero, List.getElem?_cons_succ, List.set_cons_zero, List.set_cons_succ, Nat.zero_add, Nat.reduceAdd, Nat.reduceSub, ↓reduceIte, Bool.false_eq_true, Bool.xor_false, Bool.false_xor, Bool.true_xor, Bool.not_true, Bool.not_false, if_true, if_false, decide_true, decide_false]
    by_cases h : ns[i] = c
    · rw [if_pos (by simpa using h)]
      show 2 ≤ sizeLine ∧ ∃ S'_1, DL.Sub S'_1 S' ∧ kk (.tup [.tup (cutD (ns.map D.int) none (some (i : Int))), .tup (cutD (ns.map D.int) (some (i : Int)) none)]) S'_1
      rw [cut_to, cut_from, ← List.map_take, ← List.map_drop]
      have m : c ∈ ns := by rw [← h]; exact List.getElem_mem hi'
      obtain ⟨j, h1, h2, h3, h4⟩ := find_first m
      have e : j = i := by
        rcases Nat.lt_trichotomy j i with g | g | g
        · exact absurd h1 (hno j g)
        · exact g
        · exact absurd (by rw [en, h]) (h2 i g)
      subst e
      rw [step_in m, h3, h4] at q
      exact ⟨by decide, S', Sub.refl _, q⟩
    · rw [if_neg (by simpa using h)]
      refine ⟨S', Sub.refl _, rfl, ⟨_, rfl⟩, fun m hm => ?_⟩
      rcases Nat.lt_succ_iff_lt_or_eq.mp hm with g | g
      · exact hno m g
      · subst g; rw [en]; exact fun z => h (by cases z; rfl)
  · rintro env S' ⟨rfl, ⟨o, rfl⟩, hno⟩
    simp only [↓rSeq, ↓rAsg, ↓gN, ↓rRet, ↓rRetN, ↓rIf, ↓rBin, ↓rUn, ↓rB, ↓rChain, ↓rC, ↓rVar_zero, ↓rVar_succ, ↓rSkip, ↓rDrop, ↓rCons, ↓rNil, ↓rTup, ↓rLst, ↓rCallB, ↓rAndV, ↓rOrV, ↓rNotV, ↓rNot, ↓rAnd, ↓rOr, ↓rIfE, ↓rBm, ↓rBm0, ↓rSl, ↓oNone, ↓oSome, ↓gIx, ↓gTup', ↓gCons', ↓gNil', ↓rCall, ↓rPar, ↓rNever, ↓rBreak, ↓rCont, ↓i2, ↓i20, ↓b20, ↓rYes, wipeE, ↓negD, ↓endOf, ↓DL.envOf, List.map_cons, List.map_nil, List.cons_append, List.nil_append, List.length_cons, List.length_nil, List.replicate, List.getElem?_cons_zero, List.getElem?_cons_succ, List.set_cons_zero, List.set_cons_succ, Nat.zero_add, Nat.reduceAdd, Nat.reduceSub, ↓reduceIte, Bool.false_eq_true, Bool.xor_false, Bool.false_xor, Bool.true_xor, Bool.not_true, Bool.not_false, if_true, if_false, decide_true, decide_false]
    have m : c ∉ ns := fun m => by
      obtain ⟨j, h1, _⟩ := find_first m
      refine hno j ?_ h1
      rw [rngD_len, List.length_map]
      exact (List.getElem?_eq_some_iff.mp h1).1
    rw [step_out m, left_out m] at q
    refine ⟨by decide, add_tup (by rw [List.length_map]; exact Nat.le_trans (Nat.add_le_add_right hl 1) (by decide)) ⟨by decide, by decide, S', Sub.refl _, ?_⟩⟩
    have e : ns.map D.int ++ [D.int c] = (ns ++ [c]).map D.int := by simp
    rw [e]
    exact q
theorem ok_law_is_car (T : Txt mg)  (hdef : DefAt K mg "_law_is_car" s_law_is_car ["value"]) : Callee P w K mg base CX0 1 "_law_is_car" 1 c_law_is_car := by
  refine mkCallee hdef sc_law_is_car 1 rfl _ (fun cdv A outer s H E f hr => (have hc : (cxOf CX0 P w K mg base ["value"] "_law_is_car" (defScope s_law_is_car) f cdv A outer s H E).nox.calm = true := rfl; have nd := sc_law_is_car.nd; (rs_one (rs_ret (re_and (re_callB cIsi rfl T.g_isinstance (by decide +kernel) (ra_cons (re_var 0) (ra_cons (re_type (n := "int") rfl T.g_int (by decide +kernel)) ra_nil))) (re_and (re_not (re_callB cIsi rfl T.g_isinstance (by decide +kernel) (ra_cons (re_var 0) (ra_cons (re_type (n := "bool") rfl T.g_bool (by decide +kernel)) ra_nil)))) (re_one (re_chain opLe opLe re_int (re_var 0) re_int)))))))) (fun ds S kk hl hC => ?_) (fun ds S kk ek z => z)
  obtain ⟨x, rfl, hk, q⟩ := hC
  simp only [↓rSeq, ↓rAsg, ↓gN, ↓rRet, ↓rRetN, ↓rIf, ↓rBin, ↓rUn, ↓rB, ↓rChain, ↓rC, ↓rVar_zero, ↓rVar_succ, ↓rSkip, ↓rDrop, ↓rCons, ↓rNil, ↓rTup, ↓rLst, ↓rCallB, ↓rAndV, ↓rOrV, ↓rNotV, ↓rNot, ↓rAnd, ↓rOr, ↓rIfE, ↓rBm, ↓rBm0, ↓rSl, ↓oNone, ↓oSome, ↓gIx, ↓gTup', ↓gCons', ↓gNil', ↓rCall, ↓rPar, ↓rNever, ↓rBreak, ↓rCont, ↓i2, ↓i20, ↓b20, ↓rYes, wipeE, ↓negD, ↓endOf, ↓DL.envOf, List.map_cons, List.map_nil, List.cons_append, List.nil_append, List.length_cons, List.length_nil, List.replicate, List.getElem?_cons_zero, List.getElem?_cons_succ, List.set_cons_zero, List.set_cons_succ, Nat.zero_add, Nat.reduceAdd, Nat.reduceSub, ↓reduceIte, Bool.false_eq_true, Bool.xor_false, Bool.false_xor, Bool.true_xor, Bool.not_true, Bool.not_false, if_true, if_false, decide_true, decide_false]
  refine isi_int hk ?_
  cases x with
  | int i =>
    refine isi_bool hk ?_
    simp only [isB, Bool.not_false]
    by_cases h0 : 0 ≤ i
    · have e : decide (i ≤ 59) = decide (i < 60) := by rw [decide_eq_decide]; omega
      simp only [isCar, h0, decide_true, Bool.true_and, e] at q ⊢
      exact ⟨S, Sub.refl S, q⟩
    · simp only [isCar, h0, decide_false, Bool.false_and] at q ⊢
      exact ⟨S, Sub.refl S, q⟩
  | bl b =>
    refine isi_bool hk ?_
    exact ⟨S, Sub.refl S, q⟩
  | _ => exact ⟨S, Sub.refl S, q⟩
theorem ok_is_car (T : Txt mg) (F_is_whole : Callee P w K mg base CX0 1 "is_whole" 1 c_is_whole) (hdef : DefAt K mg "is_car" s_is_car ["value"]) : Callee P w K mg base CX0 2 "is_car" 1 c_is_car := by
  refine mkCallee hdef sc_is_car 1 rfl _ (fun cdv A outer s H E f hr => (have hc : (cxOf CX0 P w K mg base ["value"] "is_car" (defScope s_is_car) f cdv A outer s H E).nox.calm = true := rfl; have nd := sc_is_car.nd; (rs_one (rs_ret (re_and (re_call F_is_whole (hr.mono (by decide)) rfl (ra_cons (re_var 0) ra_nil)) (re_one (re_chain opLe opLt re_int (re_var 0) (re_gint rfl T.g_CARS)))))))) (fun ds S kk hl hC => ?_) (fun ds S kk ek z => z)
  obtain ⟨x, rfl, hk, q⟩ := hC
  simp only [↓rSeq, ↓rAsg, ↓gN, ↓rRet, ↓rRetN, ↓rIf, ↓rBin, ↓rUn, ↓rB, ↓rChain, ↓rC, ↓rVar_zero, ↓rVar_succ, ↓rSkip, ↓rDrop, ↓rCons, ↓rNil, ↓rTup, ↓rLst, ↓rCallB, ↓rAndV, ↓rOrV, ↓rNotV, ↓rNot, ↓rAnd, ↓rOr, ↓rIfE, ↓rBm, ↓rBm0, ↓rSl, ↓oNone, ↓oSome, ↓gIx, ↓gTup', ↓gCons', ↓gNil', ↓rCall, ↓rPar, ↓rNever, ↓rBreak, ↓rCont, ↓i2, ↓i20, ↓b20, ↓rYes, wipeE, ↓negD, ↓endOf, ↓DL.envOf, List.map_cons, List.map_nil, List.cons_append, List.nil_append, List.length_cons, List.length_nil, List.replicate, List.getElem?_cons_zero, List.getElem?_cons_succ, List.set_cons_zero, List.set_cons_succ, Nat.zero_add, Nat.reduceAdd, Nat.reduceSub, ↓reduceIte, Bool.false_eq_true, Bool.xor_false, Bool.false_xor, Bool.true_xor, Bool.not_true, Bool.not_false, if_true, if_false, decide_true, decide_false]
  refine ⟨trivial, x, rfl, hk, ?_⟩
  cases x with
  | int i =>
    simp only [isW]
    by_cases h0 : 0 ≤ i
    · simp only [isCar, h0, decide_true, Bool.true_and] at q ⊢
      exact ⟨S, Sub.refl S, q⟩
    · simp only [isCar, h0, decide_false, Bool.false_and] at q ⊢
      exact ⟨S, Sub.refl S, q⟩
  | _ => exact ⟨S, Sub.refl S, q⟩
theorem ok_law_cars (T : Txt mg) (F__law_pick : Callee P w K mg base CX0 1 "_law_pick" 2 c_law_pick) (hdef : DefAt K mg "_law_cars" s_law_cars ["bag", "many"]) : Callee P w K mg base CX0 2 "_law_cars" 2 c_law_cars := by
  refine mkCallee hdef sc_law_cars 2 rfl _ (fun cdv A outer s H E f hr => (have hc : (cxOf CX0 P w K mg base ["bag", "many", "left", "k"] "_law_cars" (defScope s_law_cars) f cdv A outer s H E).nox.calm = true := rfl; have nd := sc_law_cars.nd; (rs_cons (rs_set 2 nd (re_lrg hc rfl T.g_list rfl T.g_range re_int))
    (rs_one (rs_ret (re_comp [("k", 3)] hc nd (ri_rng rfl T.g_range (ra_cons (re_var 1) ra_nil)) (blkOk_by (N := ["bag", "many", "left", "k"]) (sc := defScope s_law_cars) (by decide +kernel)) (fun _ _ _ _ _ => (rg_name 3 nd (by simp))) (fun _ _ _ _ _ => ts_nil) (fun _ _ _ _ _ => (re_bm PySem.F.plainAttrs_list PySem.F.slot_list_pop PySem.F.type_list_pop mPopAt (re_var 2) (ra_cons (re_call F__law_pick (hr.mono (by decide)) rfl (ra_cons (re_var 0) (ra_cons (re_callB cLen rfl T.g_len (by decide +kernel) (ra_cons (re_var 2) ra_nil)) ra_nil))) ra_nil))))))))) (fun ds S kk hl hC => ?_) (fun ds S kk ek z => z)
  obtain ⟨a, m, b, rfl, m0, m1, ha, hb, q⟩ := hC
  simp only [↓rSeq, ↓rAsg, ↓gN, ↓rRet, ↓rRetN, ↓rIf, ↓rBin, ↓rUn, ↓rB, ↓rChain, ↓rC, ↓rVar_zero, ↓rVar_succ, ↓rSkip, ↓rDrop, ↓rCons, ↓rNil, ↓rTup, ↓rLst, ↓rCallB, ↓rAndV, ↓rOrV, ↓rNotV, ↓rNot, ↓rAnd, ↓rOr, ↓rIfE, ↓rBm, ↓rBm0, ↓rSl, ↓oNone, ↓oSome, ↓gIx, ↓gTup', ↓gCons', ↓gNil', ↓rCall, ↓rPar, ↓rNever, ↓rBreak, ↓rCont, ↓i2, ↓i20, ↓b20, ↓rYes, wipeE, ↓negD, ↓endOf, ↓DL.envOf, List.map_cons, List.map_nil, List.cons_append, List.nil_append, List.length_cons, List.length_nil, List.replicate, List.getElem?_cons_zero, List.getElem?_cons_succ, List.set_cons_zero, List.set_cons_succ, Nat.zero_add, Nat.reduceAdd, Nat.reduceSub, ↓reduceIte, Bool.false_eq_true, Bool.xor_false, Bool.false_xor, Bool.true_xor, Bool.not_true, Bool.not_false, if_true, if_false, decide_true, decide_false]
  unfold rLrg
  simp only [↓rSeq, ↓rAsg, ↓gN, ↓rRet, ↓rRetN, ↓rIf, ↓rBin, ↓rUn, ↓rB, ↓rChain, ↓rC, ↓rVar_zero, ↓rVar_succ, ↓rSkip, ↓rDrop, ↓rCons, ↓rNil, ↓rTup, ↓rLst, ↓rCallB, ↓rAndV, ↓rOrV, ↓rNotV, ↓rNot, ↓rAnd, ↓rOr, ↓rIfE, ↓rBm, ↓rBm0, ↓rSl, ↓oNone, ↓oSome, ↓gIx, ↓gTup', ↓gCons', ↓gNil', ↓rCall, ↓rPar, ↓rNever, ↓rBreak, ↓rCont, ↓i2, ↓i20, ↓b20, ↓rYes, wipeE, ↓negD, ↓endOf, ↓DL.envOf, List.map_cons, List.map_nil, List.cons_append, List.nil_append, List.length_cons, List.length_nil, List.replicate, List.getElem?_cons_zero, List.getElem?_cons_succ, List.set_cons_zero, List.set_cons_succ, Nat.zero_add, Nat.reduceAdd, Nat.reduceSub, ↓reduceIte, Bool.false_eq_true, Bool.xor_false, Bool.false_xor, Bool.true_xor, Bool.not_true, Bool.not_false, if_true, if_false, decide_true, decide_false]
  refine ⟨by decide, by decide, fun p hp => ?_⟩
  have hpa : p ≠ a := fun e => by rw [e, ha] at hp; cases hp
  refine comp_draw (a := a) (p := p) (b := b) (S := S) (m := m.toNat) (left := (List.range 60).map fun i : Nat => (i : Int)) (fun K h => ?_) (fun d => rfl) (fun d => rfl) ((Ex.refl ha).new hp) hb hp hpa ?_ all60 ?_ ?_
  · unfold iRng
    simp only [↓rSeq, ↓rAsg, ↓gN, ↓rRet, ↓rRetN, ↓rIf, ↓rBin, ↓rUn, ↓rB, ↓rChain, ↓rC, ↓rVar_zero, ↓rVar_succ, ↓rSkip, ↓rDrop, ↓rCons, ↓rNil, ↓rTup, ↓rLst, ↓rCallB, ↓rAndV, ↓rOrV, ↓rNotV, ↓rNot, ↓rAnd, ↓rOr, ↓rIfE, ↓rBm, ↓rBm0, ↓rSl, ↓oNone, ↓oSome, ↓gIx, ↓gTup', ↓gCons', ↓gNil', ↓rCall, ↓rPar, ↓rNever, ↓rBreak, ↓rCont, ↓i2, ↓i20, ↓b20, ↓rYes, wipeE, ↓negD, ↓endOf, ↓DL.envOf, List.map_cons, List.map_nil, List.cons_append, List.nil_append, List.length_cons, List.length_nil, List.replicate, List.getElem?_cons_zero, List.getElem?_cons_succ, List.set_cons_zero, List.set_cons_succ, Nat.zero_add, Nat.reduceAdd, Nat.reduceSub, ↓reduceIte, Bool.false_eq_true, Bool.xor_false, Bool.false_xor, Bool.true_xor, Bool.not_true, Bool.not_false, if_true, if_false, decide_true, decide_false]
    exact ⟨by omega, by omega, h⟩
  · rw [Sto.upd_same, ← rngD_ints]; rfl
  · simp; omega
  · intro b' cs S' hb' hx hc hl' p' hp'
    exact ⟨_, Sub.both hx.sub, q b' cs p' hb' (by omega) hc (hx.free hp')⟩
theorem ok_law_calls (T : Txt mg) (F__law_pick : Callee P w K mg base CX0 1 "_law_pick" 2 c_law_pick) (hdef : DefAt K mg "_law_calls" s_law_calls ["bag", "cars", "most"]) : Callee P w K mg base CX0 2 "_law_calls" 3 c_law_calls := by
  refine mkCallee hdef sc_law_calls 3 rfl _ (fun cdv A outer s H E f hr => (have hc : (cxOf CX0 P w K mg base ["bag", "cars", "most", "many", "way", "some", "k"] "_law_calls" (defScope s_law_calls) f cdv A outer s H E).nox.calm = true := rfl; have nd := sc_law_calls.nd; (rs_cons (rs_set 3 nd (re_bin opAdd re_int (re_call F__law_pick (hr.mono (by decide)) rfl (ra_cons (re_var 0) (ra_cons (re_var 2) ra_nil)))))
    (rs_cons (rs_set 4 nd (re_call F__law_pick (hr.mono (by decide)) rfl (ra_cons (re_var 0) (ra_cons re_int ra_nil))))
    (rs_cons (rs_set 5 nd (re_slice slSeq (re_var 1) ro_none (ro_some (re_bin opAdd re_int (re_call F__law_pick (hr.mono (by decide)) rfl (ra_cons (re_var 0) (ra_cons (re_callB cLen rfl T.g_len (by decide +kernel) (ra_cons (re_var 1) ra_nil)) ra_nil)))))))
    (rs_cons (rs_if (tr_cmp (opEq hr.u64) (re_var 4) re_int (nomark _))
    (rs_one (rs_ret (re_callTy cTuple rfl T.g_tuple (by decide +kernel) (ra_cons (re_slice slSeq (re_var 5) ro_none (ro_some (re_var 3))) ra_nil))))
    rs_nil)
    (rs_cons (rs_if (tr_cmp (opEq hr.u64) (re_var 4) re_int (nomark _))
    (rs_one (rs_ret (re_callTy cTuple rfl T.g_tuple (by decide +kernel) (ra_cons (re_slice slSeq (re_bin opAdd (re_var 5) (re_revL (re_var 5))) ro_none (ro_some (re_var 3))) ra_nil))))
    rs_nil)
    (rs_cons (rs_if (tr_cmp (opEq hr.u64) (re_var 4) re_int (nomark _))
    (rs_one (rs_ret (re_callTy cTuple rfl T.g_tuple (by decide +kernel) (ra_cons (re_comp [("k", 6)] hc nd (ri_rng rfl T.g_range (ra_cons (re_var 3) ra_nil)) (blkOk_by (N := ["bag", "cars", "most", "many", "way", "some", "k"]) (sc := defScope s_law_calls) (by decide +kernel)) (fun _ _ _ _ _ => (rg_name 6 nd (by simp))) (fun _ _ _ _ _ => ts_nil) (fun _ _ _ _ _ => (re_ix ixSeq (re_var 5) (re_bin opMod (re_var 6) (re_callB cLen rfl T.g_len (by decide +kernel) (ra_cons (re_var 5) ra_nil)))))) ra_nil))))
    rs_nil)
    (rs_cons (rs_if (tr_cmp (opEq hr.u64) (re_var 4) re_int (nomark _))
    (rs_one (rs_set 5 nd (re_slice slSeq (re_var 5) ro_none (ro_some re_int))))
    rs_nil)
    (rs_one (rs_ret (re_callTy cTuple rfl T.g_tuple (by decide +kernel) (ra_cons (re_comp [("k", 6)] hc nd (ri_rng rfl T.g_range (ra_cons (re_var 3) ra_nil)) (blkOk_by (N := ["bag", "cars", "most", "many", "way", "some", "k"]) (sc := defScope s_law_calls) (by decide +kernel)) (fun _ _ _ _ _ => (rg_name 6 nd (by simp))) (fun _ _ _ _ _ => ts_nil) (fun _ _ _ _ _ => (re_ix ixSeq (re_var 5) (re_call F__law_pick (hr.mono (by decide)) rfl (ra_cons (re_var 0) (ra_cons (re_callB cLen rfl T.g_len (by decide +kernel) (ra_cons (re_var 5) ra_nil)) ra_nil)))))) ra_nil))))))))))))) (fun ds S kk hl hC => ?_) (fun ds S kk ek z => z)
  obtain ⟨a, c, m, b, ns, rfl, m0, m1, ha, hb, hac, hcs, hne, h60, q⟩ := hC
  have lp : 0 < ns.length := List.length_pos_iff.mpr hne
  simp only [↓rSeq, ↓rAsg, ↓gN, ↓rRet, ↓rRetN, ↓rIf, ↓rBin, ↓rUn, ↓rB, ↓rChain, ↓rC, ↓rVar_zero, ↓rVar_succ, ↓rSkip, ↓rDrop, ↓rCons, ↓rNil, ↓rTup, ↓rLst, ↓rCallB, ↓rAndV, ↓rOrV, ↓rNotV, ↓rNot, ↓rAnd, ↓rOr, ↓rIfE, ↓rBm, ↓rBm0, ↓rSl, ↓oNone, ↓oSome, ↓gIx, ↓gTup', ↓gCons', ↓gNil', ↓rCall, ↓rPar, ↓rNever, ↓rBreak, ↓rCont, ↓i2, ↓i20, ↓b20, ↓rYes, wipeE, ↓negD, ↓endOf, ↓DL.envOf, List.map_cons, List.map_nil, List.cons_append, List.nil_append, List.length_cons, List.length_nil, List.replicate, List.getElem?_cons_zero, List.getElem?_cons_succ, List.set_cons_zero, List.set_cons_succ, Nat.zero_add, Nat.reduceAdd, Nat.reduceSub, ↓reduceIte, Bool.false_eq_true, Bool.xor_false, Bool.false_xor, Bool.true_xor, Bool.not_true, Bool.not_false, if_true, if_false, decide_true, decide_false]
  refine ⟨trivial, pick_at (Ex.refl ha) hb m0 (by omega) fun t1 b1 S1 t10 t11 hb1 x1 k1 => add_int ⟨trivial, pick_at x1 hb1 (by decide) (by decide) fun t2 b2 S2 t20 t21 hb2 x2 k2 => ?_⟩⟩
  have h2 : S2 c = some (.lst (ns.map D.int)) := (k2 c hac.symm).trans ((k1 c hac.symm).trans hcs)
  refine len_at (seq_ref h2) ⟨trivial, pick_at x2 hb2 (by rw [List.length_map]; omega) (by rw [List.length_map]; omega) fun t3 b3 S3 t30 t31 hb3 x3 k3 => add_int ?_⟩
  have h3 : S3 c = some (.lst (ns.map D.int)) := (k3 c hac.symm).trans h2
  rw [List.length_map] at t31
  simp only [↓rSeq, ↓rAsg, ↓gN, ↓rRet, ↓rRetN, ↓rIf, ↓rBin, ↓rUn, ↓rB, ↓rChain, ↓rC, ↓rVar_zero, ↓rVar_succ, ↓rSkip, ↓rDrop, ↓rCons, ↓rNil, ↓rTup, ↓rLst, ↓rCallB, ↓rAndV, ↓rOrV, ↓rNotV, ↓rNot, ↓rAnd, ↓rOr, ↓rIfE, ↓rBm, ↓rBm0, ↓rSl, ↓oNone, ↓oSome, ↓gIx, ↓gTup', ↓gCons', ↓gNil', ↓rCall, ↓rPar, ↓rNever, ↓rBreak, ↓rCont, ↓i2, ↓i20, ↓b20, ↓rYes, wipeE, ↓negD, ↓endOf, ↓DL.envOf, List.map_cons, List.map_nil, List.cons_append, List.nil_append, List.length_cons, List.length_nil, List.replicate, List.getElem?_cons_zero, List.getElem?_cons_succ, List.set_cons_zero, List.set_cons_succ, Nat.zero_add, Nat.reduceAdd, Nat.reduceSub, ↓reduceIte, Bool.false_eq_true, Bool.xor_false, Bool.false_xor, Bool.true_xor, Bool.not_true, Bool.not_false, if_true, if_false, decide_true, decide_false]
  refine sl_ref h3 fun p hp => ?_
  rw [cut_toI (by omega), ← List.map_take]
  have x4 := x3.new (o := .lst ((ns.take (1 + t3).toNat).map D.int)) hp
  have hpa := x3.ne hp
  have h4 : (S3.upd p (.lst ((ns.take (1 + t3).toNat).map D.int))) p = some (.lst ((ns.take (1 + t3).toNat).map D.int)) := Sto.upd_same
  revert x4 h4
  generalize S3.upd p (.lst ((ns.take (1 + t3).toNat).map D.int)) = S4
  have hsub : ∀ x ∈ ns.take (1 + t3).toNat, x ∈ ns := fun x hx => List.mem_of_mem_take hx
  have hpos : 1 ≤ (ns.take (1 + t3).toNat).length := by rw [List.length_take]; omega
  have hle : (ns.take (1 + t3).toNat).length ≤ 60 := by rw [List.length_take]; omega
  revert hsub hpos hle
  generalize ns.take (1 + t3).toNat = sm
  intro hsub hpos hle x4 h4
  have hn1 : 1 ≤ (1 + t1).toNat := by omega
  have hn2 : ((1 + t1).toNat : Int) ≤ m := by omega
  have fin : ∀ (S5 : Sto) (b5 : List D) (cs : List Int), BagV b5 → Ex a S b5 S5 → 1 ≤ cs.length → (cs.length : Int) ≤ m → (∀ x ∈ cs, x ∈ ns) → ∃ S', DL.Sub S' S5 ∧ kk (tupI cs) S' := fun S5 b5 cs g1 g2 g3 g4 g5 => ⟨_, g2.sub, q b5 cs g1 g3 g4 g5⟩
  refine eq_int ?_
  simp only [↓rSeq, ↓rAsg, ↓gN, ↓rRet, ↓rRetN, ↓rIf, ↓rBin, ↓rUn, ↓rB, ↓rChain, ↓rC, ↓rVar_zero, ↓rVar_succ, ↓rSkip, ↓rDrop, ↓rCons, ↓rNil, ↓rTup, ↓rLst, ↓rCallB, ↓rAndV, ↓rOrV, ↓rNotV, ↓rNot, ↓rAnd, ↓rOr, ↓rIfE, ↓rBm, ↓rBm0, ↓rSl, ↓oNone, ↓oSome, ↓gIx, ↓gTup', ↓gCons', ↓gNil', ↓rCall, ↓rPar, ↓rNever, ↓rBreak, ↓rCont, ↓i2, ↓i20, ↓b20, ↓rYes, wipeE, ↓negD, ↓endOf, ↓DL.envOf, List.map_cons, List.map_nil, List.cons_append, List.nil_append, List.length_cons, List.length_nil, List.replicate, List.getElem?_cons_zero, List.getElem?_cons_succ, List.set_cons_zero, List.set_cons_succ, Nat.zero_add, Nat.reduceAdd, Nat.reduceSub, ↓reduceIte, Bool.false_eq_true, Bool.xor_false, Bool.false_xor, Bool.true_xor, Bool.not_true, Bool.not_false, if_true, if_false, decide_true, decide_false]
  by_cases w0 : t2 = 0
  · rw [if_pos (by simpa using w0)]
    refine sl_ref h4 fun p2 hp2 => tuple_lst Sto.upd_same ?_
    rw [cut_toI (by omega), ← List.map_take]
    refine fin _ b3 (sm.take (1 + t1).toNat) hb3 (x4.new hp2) ?_ ?_ fun x hx => hsub x (List.mem_of_mem_take hx)
    · rw [List.length_take]; omega
    · rw [List.length_take]; omega
  rw [if_neg (by simpa using w0)]
  refine eq_int ?_
  simp only [↓rSeq, ↓rAsg, ↓gN, ↓rRet, ↓rRetN, ↓rIf, ↓rBin, ↓rUn, ↓rB, ↓rChain, ↓rC, ↓rVar_zero, ↓rVar_succ, ↓rSkip, ↓rDrop, ↓rCons, ↓rNil, ↓rTup, ↓rLst, ↓rCallB, ↓rAndV, ↓rOrV, ↓rNotV, ↓rNot, ↓rAnd, ↓rOr, ↓rIfE, ↓rBm, ↓rBm0, ↓rSl, ↓oNone, ↓oSome, ↓gIx, ↓gTup', ↓gCons', ↓gNil', ↓rCall, ↓rPar, ↓rNever, ↓rBreak, ↓rCont, ↓i2, ↓i20, ↓b20, ↓rYes, wipeE, ↓negD, ↓endOf, ↓DL.envOf, List.map_cons, List.map_nil, List.cons_append, List.nil_append, List.length_cons, List.length_nil, List.replicate, List.getElem?_cons_zero, List.getElem?_cons_succ, List.set_cons_zero, List.set_cons_succ, Nat.zero_add, Nat.reduceAdd, Nat.reduceSub, ↓reduceIte, Bool.false_eq_true, Bool.xor_false, Bool.false_xor, Bool.true_xor, Bool.not_true, Bool.not_false, if_true, if_false, decide_true, decide_false]
  by_cases w1 : t2 = 1
  · rw [if_pos (by simpa using w1)]
    refine rev_ref (fun K h => by simp only [↓rSeq, ↓rAsg, ↓gN, ↓rRet, ↓rRetN, ↓rIf, ↓rBin, ↓rUn, ↓rB, ↓rChain, ↓rC, ↓rVar_zero, ↓rVar_succ, ↓rSkip, ↓rDrop, ↓rCons, ↓rNil, ↓rTup, ↓rLst, ↓rCallB, ↓rAndV, ↓rOrV, ↓rNotV, ↓rNot, ↓rAnd, ↓rOr, ↓rIfE, ↓rBm, ↓rBm0, ↓rSl, ↓oNone, ↓oSome, ↓gIx, ↓gTup', ↓gCons', ↓gNil', ↓rCall, ↓rPar, ↓rNever, ↓rBreak, ↓rCont, ↓i2, ↓i20, ↓b20, ↓rYes, wipeE, ↓negD, ↓endOf, ↓DL.envOf, List.map_cons, List.map_nil, List.cons_append, List.nil_append, List.length_cons, List.length_nil, List.replicate, List.getElem?_cons_zero, List.getElem?_cons_succ, List.set_cons_zero, List.set_cons_succ, Nat.zero_add, Nat.reduceAdd, Nat.reduceSub, ↓reduceIte, Bool.false_eq_true, Bool.xor_false, Bool.false_xor, Bool.true_xor, Bool.not_true, Bool.not_false, if_true, if_false, decide_true, decide_false]; exact h) h4 fun p2 hp2 => ?_
    have hp2p : p ≠ p2 := fun e => by rw [← e, h4] at hp2; cases hp2
    refine add_ref (by rw [Sto.upd_ne hp2p]; exact h4) Sto.upd_same ?_ fun p3 hp3 => sl_ref Sto.upd_same fun p4 hp4 => tuple_lst Sto.upd_same ?_
    · rw [List.length_reverse, List.length_map]; exact Nat.le_trans (show _ ≤ 120 by omega) (by decide)
    have ex : (sm.map D.int ++ (sm.map D.int).reverse).take (1 + t1).toNat = ((sm ++ sm.reverse).take (1 + t1).toNat).map D.int := by rw [List.map_take, List.map_append, List.map_reverse]
    rw [cut_toI (by omega), ex]
    refine fin _ b3 ((sm ++ sm.reverse).take (1 + t1).toNat) hb3 (((x4.new hp2).new hp3).new hp4) ?_ ?_ fun x hx => ?_
    · rw [List.length_take, List.length_append]; omega
    · rw [List.length_take]; omega
    · rcases List.mem_append.mp (List.mem_of_mem_take hx) with z | z
      · exact hsub x z
      · exact hsub x (List.mem_reverse.mp z)
  rw [if_neg (by simpa using w1)]
  refine eq_int ?_
  simp only [↓rSeq, ↓rAsg, ↓gN, ↓rRet, ↓rRetN, ↓rIf, ↓rBin, ↓rUn, ↓rB, ↓rChain, ↓rC, ↓rVar_zero, ↓rVar_succ, ↓rSkip, ↓rDrop, ↓rCons, ↓rNil, ↓rTup, ↓rLst, ↓rCallB, ↓rAndV, ↓rOrV, ↓rNotV, ↓rNot, ↓rAnd, ↓rOr, ↓rIfE, ↓rBm, ↓rBm0, ↓rSl, ↓oNone, ↓oSome, ↓gIx, ↓gTup', ↓gCons', ↓gNil', ↓rCall, ↓rPar, ↓rNever, ↓rBreak, ↓rCont, ↓i2, ↓i20, ↓b20, ↓rYes, wipeE, ↓negD, ↓endOf, ↓DL.envOf, List.map_cons, List.map_nil, List.cons_append, List.nil_append, List.length_cons, List.length_nil, List.replicate, List.getElem?_cons_zero, List.getElem?_cons_succ, List.set_cons_zero, List.set_cons_succ, Nat.zero_add, Nat.reduceAdd, Nat.reduceSub, ↓reduceIte, Bool.false_eq_true, Bool.xor_false, Bool.false_xor, Bool.true_xor, Bool.not_true, Bool.not_false, if_true, if_false, decide_true, decide_false]
  by_cases w2 : t2 = 2
  · rw [if_pos (by simpa using w2)]
    have hz : 0 < sm.length := hpos
    refine comp_map (xs := rngD 0 (1 + t1).toNat) (G := fun _ => True) (fun d => match d with | .int k => .int (sm.getD (k % (sm.length : Nat)).toNat 0) | _ => .non) (fun K h => ?_) trivial ?_ (fun y hy kt h => ?_) fun p2 hp2 => ?_
    · unfold iRng
      simp only [↓rSeq, ↓rAsg, ↓gN, ↓rRet, ↓rRetN, ↓rIf, ↓rBin, ↓rUn, ↓rB, ↓rChain, ↓rC, ↓rVar_zero, ↓rVar_succ, ↓rSkip, ↓rDrop, ↓rCons, ↓rNil, ↓rTup, ↓rLst, ↓rCallB, ↓rAndV, ↓rOrV, ↓rNotV, ↓rNot, ↓rAnd, ↓rOr, ↓rIfE, ↓rBm, ↓rBm0, ↓rSl, ↓oNone, ↓oSome, ↓gIx, ↓gTup', ↓gCons', ↓gNil', ↓rCall, ↓rPar, ↓rNever, ↓rBreak, ↓rCont, ↓i2, ↓i20, ↓b20, ↓rYes, wipeE, ↓negD, ↓endOf, ↓DL.envOf, List.map_cons, List.map_nil, List.cons_append, List.nil_append, List.length_cons, List.length_nil, List.replicate, List.getElem?_cons_zero, List.getElem?_cons_succ, List.set_cons_zero, List.set_cons_succ, Nat.zero_add, Nat.reduceAdd, Nat.reduceSub, ↓reduceIte, Bool.false_eq_true, Bool.xor_false, Bool.false_xor, Bool.true_xor, Bool.not_true, Bool.not_false, if_true, if_false, decide_true, decide_false]
      exact ⟨by omega, by omega, h⟩
    · rw [rngD_len]; exact Nat.le_trans (show _ ≤ 1000 by omega) (by decide)
    · obtain ⟨i, hi⟩ := List.getElem?_of_mem hy
      obtain ⟨_, rfl⟩ := rngD_it hi
      simp only [↓rSeq, ↓rAsg, ↓gN, ↓rRet, ↓rRetN, ↓rIf, ↓rBin, ↓rUn, ↓rB, ↓rChain, ↓rC, ↓rVar_zero, ↓rVar_succ, ↓rSkip, ↓rDrop, ↓rCons, ↓rNil, ↓rTup, ↓rLst, ↓rCallB, ↓rAndV, ↓rOrV, ↓rNotV, ↓rNot, ↓rAnd, ↓rOr, ↓rIfE, ↓rBm, ↓rBm0, ↓rSl, ↓oNone, ↓oSome, ↓gIx, ↓gTup', ↓gCons', ↓gNil', ↓rCall, ↓rPar, ↓rNever, ↓rBreak, ↓rCont, ↓i2, ↓i20, ↓b20, ↓rYes, wipeE, ↓negD, ↓endOf, ↓DL.envOf, List.map_cons, List.map_nil, List.cons_append, List.nil_append, List.length_cons, List.length_nil, List.replicate, List.getElem?_cons_zero, List.getElem?_cons_succ, List.set_cons_zero, List.set_cons_succ, Nat.zero_add, Nat.reduceAdd, Nat.reduceSub, ↓reduceIte, Bool.false_eq_true, Bool.xor_false, Bool.false_xor, Bool.true_xor, Bool.not_true, Bool.not_false, if_true, if_false, decide_true, decide_false]
      refine len_at (seq_ref h4) ⟨?_, ?_⟩
      · rw [List.length_map]; omega
      · rw [List.length_map]
        have hm0 := Int.emod_nonneg (i : Int) (b := (sm.length : Nat)) (by omega)
        have hm1 := Int.emod_lt_of_pos (i : Int) (b := (sm.length : Nat)) (by omega)
        have hj : ((i : Int) % (sm.length : Nat)).toNat < sm.length := by omega
        have ej : sm[((i : Int) % (sm.length : Nat)).toNat]? = some sm[((i : Int) % (sm.length : Nat)).toNat] := List.getElem?_eq_getElem hj
        have et : (i : Int) % (sm.length : Nat) = (((i : Int) % (sm.length : Nat)).toNat : Int) := by omega
        have h' := h
        simp only [List.getD, ej, Option.getD_some] at h'
        rw [et]
        exact ixD_at (xs := sm.map D.int) (seq_ref h4) (atI_nat (v := D.int sm[((i : Int) % (sm.length : Nat)).toNat]) (by rw [List.getElem?_map, ej]; rfl)) h'
    · refine tuple_lst Sto.upd_same ?_
      have e : (rngD 0 (1 + t1).toNat).map (fun d => match d with | .int k => D.int (sm.getD (k % (sm.length : Nat)).toNat 0) | _ => .non) = ((List.range (1 + t1).toNat).map fun i : Nat => sm.getD ((i : Int) % (sm.length : Nat)).toNat 0).map D.int := by
        rw [rngD_ints, List.map_map, List.map_map, List.map_map]; rfl
      rw [e]
      refine fin _ b3 _ hb3 (x4.new hp2) (by simp; omega) (by simp; omega) fun x hx => ?_
      obtain ⟨i, _, rfl⟩ := List.mem_map.mp hx
      have hm0 := Int.emod_nonneg (i : Int) (b := (sm.length : Nat)) (by omega)
      have hm1 := Int.emod_lt_of_pos (i : Int) (b := (sm.length : Nat)) (by omega)
      have hj : ((i : Int) % (sm.length : Nat)).toNat < sm.length := by omega
      rw [List.getD, List.getElem?_eq_getElem hj]
      exact hsub _ (List.getElem_mem hj)
  rw [if_neg (by simpa using w2)]
  refine eq_int ?_
  simp only [↓rSeq, ↓rAsg, ↓gN, ↓rRet, ↓rRetN, ↓rIf, ↓rBin, ↓rUn, ↓rB, ↓rChain, ↓rC, ↓rVar_zero, ↓rVar_succ, ↓rSkip, ↓rDrop, ↓rCons, ↓rNil, ↓rTup, ↓rLst, ↓rCallB, ↓rAndV, ↓rOrV, ↓rNotV, ↓rNot, ↓rAnd, ↓rOr, ↓rIfE, ↓rBm, ↓rBm0, ↓rSl, ↓oNone, ↓oSome, ↓gIx, ↓gTup', ↓gCons', ↓gNil', ↓rCall, ↓rPar, ↓rNever, ↓rBreak, ↓rCont, ↓i2, ↓i20, ↓b20, ↓rYes, wipeE, ↓negD, ↓endOf, ↓DL.envOf, List.map_cons, List.map_nil, List.cons_append, List.nil_append, List.length_cons, List.length_nil, List.replicate, List.getElem?_cons_zero, List.getElem?_cons_succ, List.set_cons_zero, List.set_cons_succ, Nat.zero_add, Nat.reduceAdd, Nat.reduceSub, ↓reduceIte, Bool.false_eq_true, Bool.xor_false, Bool.false_xor, Bool.true_xor, Bool.not_true, Bool.not_false, if_true, if_false, decide_true, decide_false]
  have hsm : sm ≠ [] := fun e => by rw [e] at hpos; simp at hpos
  by_cases w3 : t2 = 3
  · rw [if_pos (by simpa using w3)]
    refine sl_ref h4 fun p2 hp2 => ?_
    rw [cut_toI (by decide), ← List.map_take]
    have hp2a := x4.ne hp2
    refine comp_pick (a := a) (p := p2) (S := S) (m := (1 + t1).toNat) (sm := sm.take (Int.toNat 3)) (fun K h => ?_) (fun d => rfl) (fun d => rfl) (x4.new hp2) hb3 hp2a Sto.upd_same ?_ ?_ (by omega) fun b5 cs S5 hb5 x5 hin hlen p5 hp5 => ?_
    · unfold iRng
      simp only [↓rSeq, ↓rAsg, ↓gN, ↓rRet, ↓rRetN, ↓rIf, ↓rBin, ↓rUn, ↓rB, ↓rChain, ↓rC, ↓rVar_zero, ↓rVar_succ, ↓rSkip, ↓rDrop, ↓rCons, ↓rNil, ↓rTup, ↓rLst, ↓rCallB, ↓rAndV, ↓rOrV, ↓rNotV, ↓rNot, ↓rAnd, ↓rOr, ↓rIfE, ↓rBm, ↓rBm0, ↓rSl, ↓oNone, ↓oSome, ↓gIx, ↓gTup', ↓gCons', ↓gNil', ↓rCall, ↓rPar, ↓rNever, ↓rBreak, ↓rCont, ↓i2, ↓i20, ↓b20, ↓rYes, wipeE, ↓negD, ↓endOf, ↓DL.envOf, List.map_cons, List.map_nil, List.cons_append, List.nil_append, List.length_cons, List.length_nil, List.replicate, List.getElem?_cons_zero, List.getElem?_cons_succ, List.set_cons_zero, List.set_cons_succ, Nat.zero_add, Nat.reduceAdd, Nat.reduceSub, ↓reduceIte, Bool.false_eq_true, Bool.xor_false, Bool.false_xor, Bool.true_xor, Bool.not_true, Bool.not_false, if_true, if_false, decide_true, decide_false]
      exact ⟨by omega, by omega, h⟩
    · intro e
      have h3' : Int.toNat 3 = 3 := rfl
      have := congrArg List.length e
      rw [List.length_take, h3', List.length_nil] at this
      omega
    · rw [List.length_take]; omega
    · exact tuple_lst Sto.upd_same (fin _ b5 cs hb5 (x5.new hp5) (by omega) (by omega) fun x hx => hsub x (List.mem_of_mem_take (hin x hx)))
  rw [if_neg (by simpa using w3)]
  refine comp_pick (a := a) (p := p) (S := S) (m := (1 + t1).toNat) (sm := sm) (fun K h => ?_) (fun d => rfl) (fun d => rfl) x4 hb3 hpa h4 hsm hle (by omega) fun b5 cs S5 hb5 x5 hin hlen p5 hp5 => ?_
  · unfold iRng
    simp only [↓rSeq, ↓rAsg, ↓gN, ↓rRet, ↓rRetN, ↓rIf, ↓rBin, ↓rUn, ↓rB, ↓rChain, ↓rC, ↓rVar_zero, ↓rVar_succ, ↓rSkip, ↓rDrop, ↓rCons, ↓rNil, ↓rTup, ↓rLst, ↓rCallB, ↓rAndV, ↓rOrV, ↓rNotV, ↓rNot, ↓rAnd, ↓rOr, ↓rIfE, ↓rBm, ↓rBm0, ↓rSl, ↓oNone, ↓oSome, ↓gIx, ↓gTup', ↓gCons', ↓gNil', ↓rCall, ↓rPar, ↓rNever, ↓rBreak, ↓rCont, ↓i2, ↓i20, ↓b20, ↓rYes, wipeE, ↓negD, ↓endOf, ↓DL.envOf, List.map_cons, List.map_nil, List.cons_append, List.nil_append, List.length_cons, List.length_nil, List.replicate, List.getElem?_cons_zero, List.getElem?_cons_succ, List.set_cons_zero, List.set_cons_succ, Nat.zero_add, Nat.reduceAdd, Nat.reduceSub, ↓reduceIte, Bool.false_eq_true, Bool.xor_false, Bool.false_xor, Bool.true_xor, Bool.not_true, Bool.not_false, if_true, if_false, decide_true, decide_false]
    exact ⟨by omega, by omega, h⟩
  · exact tuple_lst Sto.upd_same (fin _ b5 cs hb5 (x5.new hp5) (by omega) (by omega) fun x hx => hsub x (hin x hx))
theorem ok_law_lane (T : Txt mg) (F__law_pick : Callee P w K mg base CX0 1 "_law_pick" 2 c_law_pick) (hdef : DefAt K mg "_law_lane" s_law_lane ["bag", "cars", "row"]) : Callee P w K mg base CX0 2 "_law_lane" 3 c_law_lane := by
  refine mkCallee hdef sc_law_lane 3 rfl _ (fun cdv A outer s H E f hr => (have hc : (cxOf CX0 P w K mg base ["bag", "cars", "row", "way", "inside", "outside", "some", "many", "found", "car", "k"] "_law_lane" (defScope s_law_lane) f cdv A outer s H E).nox.calm = true := rfl; have nd := sc_law_lane.nd; (rs_cons (rs_set 3 nd (re_call F__law_pick (hr.mono (by decide)) rfl (ra_cons (re_var 0) (ra_cons re_int ra_nil))))
    (rs_cons (rs_setComp 4 [("car", 9)] hc nd (sw_true rfl rfl rfl (by decide +kernel)) (ri_seq (re_var 1)) (blkOk_by (N := ["bag", "cars", "row", "way", "inside", "outside", "some", "many", "found", "car", "k"]) (sc := defScope s_law_lane) (by decide +kernel)) (fun _ _ _ _ _ => (rg_name 9 nd (by simp))) (fun _ _ _ _ _ => (ts_one (tr_cmp (opIn hr.u65) (re_var 9) (re_var 2) rfl))) (fun _ _ _ _ _ => (re_var 9)))
    (rs_cons (rs_setComp 5 [("car", 9)] hc nd (sw_true rfl rfl rfl (by decide +kernel)) (ri_rng rfl T.g_range (ra_cons re_int ra_nil)) (blkOk_by (N := ["bag", "cars", "row", "way", "inside", "outside", "some", "many", "found", "car", "k"]) (sc := defScope s_law_lane) (by decide +kernel)) (fun _ _ _ _ _ => (rg_name 9 nd (by simp))) (fun _ _ _ _ _ => (ts_one (tr_cmp (opNotIn hr.u65) (re_var 9) (re_var 2) rfl))) (fun _ _ _ _ _ => (re_var 9)))
    (rs_cons (rs_set 6 nd (re_ix ixSeq (re_lst (ra_cons (re_lst ra_nil) (ra_cons (re_var 4) (ra_cons (re_var 5) (ra_cons (re_bin opAdd (re_slice slSeq (re_var 5) ro_none (ro_some (re_call F__law_pick (hr.mono (by decide)) rfl (ra_cons (re_var 0) (ra_cons re_int ra_nil))))) (re_var 4)) (ra_cons (re_bin opAdd (re_var 4) (re_var 5)) ra_nil)))))) (re_var 3)))
    (rs_cons (rs_set 7 nd (re_call F__law_pick (hr.mono (by decide)) rfl (ra_cons (re_var 0) (ra_cons (re_bin opAdd (re_callB cLen rfl T.g_len (by decide +kernel) (ra_cons (re_var 6) ra_nil)) re_int) ra_nil))))
    (rs_cons (rs_if (tr_cmp (opEq hr.u64) (re_var 3) re_int (nomark _))
    (rs_one (rs_ret (re_callTy cTuple rfl T.g_tuple (by decide +kernel) (ra_cons (re_slice slSeq (re_var 6) ro_none (ro_some (re_var 7))) ra_nil))))
    rs_nil)
    (rs_cons (rs_setComp 8 [("k", 10)] hc nd (sw_true rfl rfl rfl (by decide +kernel)) (ri_rng rfl T.g_range (ra_cons (re_var 7) ra_nil)) (blkOk_by (N := ["bag", "cars", "row", "way", "inside", "outside", "some", "many", "found", "car", "k"]) (sc := defScope s_law_lane) (by decide +kernel)) (fun _ _ _ _ _ => (rg_name 10 nd (by simp))) (fun _ _ _ _ _ => ts_nil) (fun _ _ _ _ _ => (re_bm PySem.F.plainAttrs_list PySem.F.slot_list_pop PySem.F.type_list_pop mPopAt (re_var 6) (ra_cons (re_call F__law_pick (hr.mono (by decide)) rfl (ra_cons (re_var 0) (ra_cons (re_callB cLen rfl T.g_len (by decide +kernel) (ra_cons (re_var 6) ra_nil)) ra_nil))) ra_nil))))
    (rs_one (rs_ret (re_callTy cTuple rfl T.g_tuple (by decide +kernel) (ra_cons (re_var 8) ra_nil))))))))))))) (fun ds S kk hl hC => ?_) (fun ds S kk ek z => z)
  obtain ⟨a, c, b, ns, cs, rfl, ha, hb, hac, hcs, hns, hcl, q⟩ := hC
  have l60 := cars60 hns
  simp only [↓rSeq, ↓rAsg, ↓gN, ↓rRet, ↓rRetN, ↓rIf, ↓rBin, ↓rUn, ↓rB, ↓rChain, ↓rC, ↓rVar_zero, ↓rVar_succ, ↓rSkip, ↓rDrop, ↓rCons, ↓rNil, ↓rTup, ↓rLst, ↓rCallB, ↓rAndV, ↓rOrV, ↓rNotV, ↓rNot, ↓rAnd, ↓rOr, ↓rIfE, ↓rBm, ↓rBm0, ↓rSl, ↓oNone, ↓oSome, ↓gIx, ↓gTup', ↓gCons', ↓gNil', ↓rCall, ↓rPar, ↓rNever, ↓rBreak, ↓rCont, ↓i2, ↓i20, ↓b20, ↓rYes, wipeE, ↓negD, ↓endOf, ↓DL.envOf, List.map_cons, List.map_nil, List.cons_append, List.nil_append, List.length_cons, List.length_nil, List.replicate, List.getElem?_cons_zero, List.getElem?_cons_succ, List.set_cons_zero, List.set_cons_succ, Nat.zero_add, Nat.reduceAdd, Nat.reduceSub, ↓reduceIte, Bool.false_eq_true, Bool.xor_false, Bool.false_xor, Bool.true_xor, Bool.not_true, Bool.not_false, if_true, if_false, decide_true, decide_false]
  refine ⟨trivial, pick_at (Ex.refl ha) hb (by decide) (by decide) fun t1 b1 S1 t10 t11 hb1 x1 k1 => ?_⟩
  have h1 : S1 c = some (.lst (ns.map D.int)) := (k1 c hac.symm).trans hcs
  refine comp_fm (xs := ns.map D.int) (G := fun S => S c = some (.lst (ns.map D.int))) (fun d => match d with | .int i => decide (i ∈ cs) | _ => false) id (fun K h => iSeq_ref (fun K' h' => by simp only [↓rSeq, ↓rAsg, ↓gN, ↓rRet, ↓rRetN, ↓rIf, ↓rBin, ↓rUn, ↓rB, ↓rChain, ↓rC, ↓rVar_zero, ↓rVar_succ, ↓rSkip, ↓rDrop, ↓rCons, ↓rNil, ↓rTup, ↓rLst, ↓rCallB, ↓rAndV, ↓rOrV, ↓rNotV, ↓rNot, ↓rAnd, ↓rOr, ↓rIfE, ↓rBm, ↓rBm0, ↓rSl, ↓oNone, ↓oSome, ↓gIx, ↓gTup', ↓gCons', ↓gNil', ↓rCall, ↓rPar, ↓rNever, ↓rBreak, ↓rCont, ↓i2, ↓i20, ↓b20, ↓rYes, wipeE, ↓negD, ↓endOf, ↓DL.envOf, List.map_cons, List.map_nil, List.cons_append, List.nil_append, List.length_cons, List.length_nil, List.replicate, List.getElem?_cons_zero, List.getElem?_cons_succ, List.set_cons_zero, List.set_cons_succ, Nat.zero_add, Nat.reduceAdd, Nat.reduceSub, ↓reduceIte, Bool.false_eq_true, Bool.xor_false, Bool.false_xor, Bool.true_xor, Bool.not_true, Bool.not_false, if_true, if_false, decide_true, decide_false]; exact h') h1 h) h1 ?_ (fun y hy kt kf g1 g2 => ?_) fun p hp => ?_
  · rw [List.length_map]; exact Nat.le_trans l60 (by decide)
  · obtain ⟨n, _, rfl⟩ := mem_ints hy
    simp only [↓rSeq, ↓rAsg, ↓gN, ↓rRet, ↓rRetN, ↓rIf, ↓rBin, ↓rUn, ↓rB, ↓rChain, ↓rC, ↓rVar_zero, ↓rVar_succ, ↓rSkip, ↓rDrop, ↓rCons, ↓rNil, ↓rTup, ↓rLst, ↓rCallB, ↓rAndV, ↓rOrV, ↓rNotV, ↓rNot, ↓rAnd, ↓rOr, ↓rIfE, ↓rBm, ↓rBm0, ↓rSl, ↓oNone, ↓oSome, ↓gIx, ↓gTup', ↓gCons', ↓gNil', ↓rCall, ↓rPar, ↓rNever, ↓rBreak, ↓rCont, ↓i2, ↓i20, ↓b20, ↓rYes, wipeE, ↓negD, ↓endOf, ↓DL.envOf, List.map_cons, List.map_nil, List.cons_append, List.nil_append, List.length_cons, List.length_nil, List.replicate, List.getElem?_cons_zero, List.getElem?_cons_succ, List.set_cons_zero, List.set_cons_succ, Nat.zero_add, Nat.reduceAdd, Nat.reduceSub, ↓reduceIte, Bool.false_eq_true, Bool.xor_false, Bool.false_xor, Bool.true_xor, Bool.not_true, Bool.not_false, if_true, if_false, decide_true, decide_false]
    refine inD_int seq_tup ?_
    simp only [↓rSeq, ↓rAsg, ↓gN, ↓rRet, ↓rRetN, ↓rIf, ↓rBin, ↓rUn, ↓rB, ↓rChain, ↓rC, ↓rVar_zero, ↓rVar_succ, ↓rSkip, ↓rDrop, ↓rCons, ↓rNil, ↓rTup, ↓rLst, ↓rCallB, ↓rAndV, ↓rOrV, ↓rNotV, ↓rNot, ↓rAnd, ↓rOr, ↓rIfE, ↓rBm, ↓rBm0, ↓rSl, ↓oNone, ↓oSome, ↓gIx, ↓gTup', ↓gCons', ↓gNil', ↓rCall, ↓rPar, ↓rNever, ↓rBreak, ↓rCont, ↓i2, ↓i20, ↓b20, ↓rYes, wipeE, ↓negD, ↓endOf, ↓DL.envOf, List.map_cons, List.map_nil, List.cons_append, List.nil_append, List.length_cons, List.length_nil, List.replicate, List.getElem?_cons_zero, List.getElem?_cons_succ, List.set_cons_zero, List.set_cons_succ, Nat.zero_add, Nat.reduceAdd, Nat.reduceSub, ↓reduceIte, Bool.false_eq_true, Bool.xor_false, Bool.false_xor, Bool.true_xor, Bool.not_true, Bool.not_false, if_true, if_false, decide_true, decide_false]
    by_cases h : n ∈ cs
    · rw [if_pos (by simpa using h)]; exact g1 (by simpa using h)
    · rw [if_neg (by simpa using h)]; exact g2 (by simpa using h)
  have e1 : ((ns.map D.int).filter (fun d => match d with | .int i => decide (i ∈ cs) | _ => false)).map id = (ns.filter fun i => decide (i ∈ cs)).map D.int := by
    rw [List.map_id, List.filter_map]; rfl
  rw [e1]
  have li : LaneN (ns.filter fun i => decide (i ∈ cs)) := hns.sub (List.filter_sublist ..)
  have mi : ∀ x ∈ ns.filter (fun i => decide (i ∈ cs)), x ∈ cs := fun x hx => by simpa using (List.mem_filter.mp hx).2
  revert li mi
  generalize ns.filter (fun i => decide (i ∈ cs)) = ins
  intro li mi
  have x2 := x1.new (o := .lst (ins.map D.int)) hp
  have h2 : (S1.upd p (.lst (ins.map D.int))) p = some (.lst (ins.map D.int)) := Sto.upd_same
  have hpa := x1.ne hp
  revert x2 h2
  generalize S1.upd p (.lst (ins.map D.int)) = S2
  intro x2 h2
  refine comp_fm (xs := rngD 0 (Int.toNat 60)) (G := fun _ => True) (fun d => match d with | .int i => !decide (i ∈ cs) | _ => false) id (fun K h => ?_) trivial ?_ (fun y hy kt kf g1 g2 => ?_) fun p2 hp2 => ?_
  · unfold iRng
    simp only [↓rSeq, ↓rAsg, ↓gN, ↓rRet, ↓rRetN, ↓rIf, ↓rBin, ↓rUn, ↓rB, ↓rChain, ↓rC, ↓rVar_zero, ↓rVar_succ, ↓rSkip, ↓rDrop, ↓rCons, ↓rNil, ↓rTup, ↓rLst, ↓rCallB, ↓rAndV, ↓rOrV, ↓rNotV, ↓rNot, ↓rAnd, ↓rOr, ↓rIfE, ↓rBm, ↓rBm0, ↓rSl, ↓oNone, ↓oSome, ↓gIx, ↓gTup', ↓gCons', ↓gNil', ↓rCall, ↓rPar, ↓rNever, ↓rBreak, ↓rCont, ↓i2, ↓i20, ↓b20, ↓rYes, wipeE, ↓negD, ↓endOf, ↓DL.envOf, List.map_cons, List.map_nil, List.cons_append, List.nil_append, List.length_cons, List.length_nil, List.replicate, List.getElem?_cons_zero, List.getElem?_cons_succ, List.set_cons_zero, List.set_cons_succ, Nat.zero_add, Nat.reduceAdd, Nat.reduceSub, ↓reduceIte, Bool.false_eq_true, Bool.xor_false, Bool.false_xor, Bool.true_xor, Bool.not_true, Bool.not_false, if_true, if_false, decide_true, decide_false]
    exact ⟨by decide, by decide, h⟩
  · rw [rngD_len]; decide
  · rw [rngD_ints] at hy
    obtain ⟨n, _, rfl⟩ := mem_ints hy
    simp only [↓rSeq, ↓rAsg, ↓gN, ↓rRet, ↓rRetN, ↓rIf, ↓rBin, ↓rUn, ↓rB, ↓rChain, ↓rC, ↓rVar_zero, ↓rVar_succ, ↓rSkip, ↓rDrop, ↓rCons, ↓rNil, ↓rTup, ↓rLst, ↓rCallB, ↓rAndV, ↓rOrV, ↓rNotV, ↓rNot, ↓rAnd, ↓rOr, ↓rIfE, ↓rBm, ↓rBm0, ↓rSl, ↓oNone, ↓oSome, ↓gIx, ↓gTup', ↓gCons', ↓gNil', ↓rCall, ↓rPar, ↓rNever, ↓rBreak, ↓rCont, ↓i2, ↓i20, ↓b20, ↓rYes, wipeE, ↓negD, ↓endOf, ↓DL.envOf, List.map_cons, List.map_nil, List.cons_append, List.nil_append, List.length_cons, List.length_nil, List.replicate, List.getElem?_cons_zero, List.getElem?_cons_succ, List.set_cons_zero, List.set_cons_succ, Nat.zero_add, Nat.reduceAdd, Nat.reduceSub, ↓reduceIte, Bool.false_eq_true, Bool.xor_false, Bool.false_xor, Bool.true_xor, Bool.not_true, Bool.not_false, if_true, if_false, decide_true, decide_false]
    refine inD_int seq_tup ?_
    simp only [↓rSeq, ↓rAsg, ↓gN, ↓rRet, ↓rRetN, ↓rIf, ↓rBin, ↓rUn, ↓rB, ↓rChain, ↓rC, ↓rVar_zero, ↓rVar_succ, ↓rSkip, ↓rDrop, ↓rCons, ↓rNil, ↓rTup, ↓rLst, ↓rCallB, ↓rAndV, ↓rOrV, ↓rNotV, ↓rNot, ↓rAnd, ↓rOr, ↓rIfE, ↓rBm, ↓rBm0, ↓rSl, ↓oNone, ↓oSome, ↓gIx, ↓gTup', ↓gCons', ↓gNil', ↓rCall, ↓rPar, ↓rNever, ↓rBreak, ↓rCont, ↓i2, ↓i20, ↓b20, ↓rYes, wipeE, ↓negD, ↓endOf, ↓DL.envOf, List.map_cons, List.map_nil, List.cons_append, List.nil_append, List.length_cons, List.length_nil, List.replicate, List.getElem?_cons_zero, List.getElem?_cons_succ, List.set_cons_zero, List.set_cons_succ, Nat.zero_add, Nat.reduceAdd, Nat.reduceSub, ↓reduceIte, Bool.false_eq_true, Bool.xor_false, Bool.false_xor, Bool.true_xor, Bool.not_true, Bool.not_false, if_true, if_false, decide_true, decide_false]
    by_cases h : n ∈ cs
    · rw [if_neg (by simpa using h)]; exact g2 (by simpa using h)
    · rw [if_pos (by simpa using h)]; exact g1 (by simpa using h)
  have e2 : ((rngD 0 (Int.toNat 60)).filter (fun d => match d with | .int i => !decide (i ∈ cs) | _ => false)).map id = (((List.range (Int.toNat 60)).map fun i : Nat => (i : Int)).filter fun i => !decide (i ∈ cs)).map D.int := by
    rw [List.map_id, rngD_ints, List.filter_map]; rfl
  rw [e2]
  have lo : LaneN (((List.range (Int.toNat 60)).map fun i : Nat => (i : Int)).filter fun i => !decide (i ∈ cs)) := all60.sub (List.filter_sublist ..)
  have mo : ∀ x ∈ ((List.range (Int.toNat 60)).map fun i : Nat => (i : Int)).filter (fun i => !decide (i ∈ cs)), x ∉ cs := fun x hx => by simpa using (List.mem_filter.mp hx).2
  revert lo mo
  generalize ((List.range (Int.toNat 60)).map fun i : Nat => (i : Int)).filter (fun i => !decide (i ∈ cs)) = out
  intro lo mo
  have x3 := x2.new (o := .lst (out.map D.int)) hp2
  have h3 : (S2.upd p2 (.lst (out.map D.int))) p2 = some (.lst (out.map D.int)) := Sto.upd_same
  have h3p : (S2.upd p2 (.lst (out.map D.int))) p = some (.lst (ins.map D.int)) := by rw [Sto.upd_ne (fun e => by rw [← e, h2] at hp2; cases hp2)]; exact h2
  have hp2a := x2.ne hp2
  revert x3 h3 h3p
  generalize S2.upd p2 (.lst (out.map D.int)) = S3
  intro x3 h3 h3p
  refine ⟨by decide, fun p3 hp3 => ⟨trivial, ?_⟩⟩
  have x4 := x3.new (o := .lst []) hp3
  have h4 : (S3.upd p3 (.lst [])) p3 = some (.lst []) := Sto.upd_same
  have h4o : (S3.upd p3 (.lst [])) p2 = some (.lst (out.map D.int)) := by rw [Sto.upd_ne (fun e => by rw [← e, h3] at hp3; cases hp3)]; exact h3
  have h4i : (S3.upd p3 (.lst [])) p = some (.lst (ins.map D.int)) := by rw [Sto.upd_ne (fun e => by rw [← e, h3p] at hp3; cases hp3)]; exact h3p
  have hp3a := x3.ne hp3
  revert x4 h4 h4o h4i
  generalize S3.upd p3 (.lst []) = S4
  intro x4 h4 h4o h4i
  have lil := cars60 li
  have lol := cars60 lo
  refine pick_at x4 hb1 (by decide) (by decide) fun t5 b5 S5 t50 t51 hb5 x5 k5 => ?_
  have h5 := (k5 p3 hp3a).trans h4
  have h5o := (k5 p2 hp2a).trans h4o
  have h5i := (k5 p hpa).trans h4i
  simp only [↓rSeq, ↓rAsg, ↓gN, ↓rRet, ↓rRetN, ↓rIf, ↓rBin, ↓rUn, ↓rB, ↓rChain, ↓rC, ↓rVar_zero, ↓rVar_succ, ↓rSkip, ↓rDrop, ↓rCons, ↓rNil, ↓rTup, ↓rLst, ↓rCallB, ↓rAndV, ↓rOrV, ↓rNotV, ↓rNot, ↓rAnd, ↓rOr, ↓rIfE, ↓rBm, ↓rBm0, ↓rSl, ↓oNone, ↓oSome, ↓gIx, ↓gTup', ↓gCons', ↓gNil', ↓rCall, ↓rPar, ↓rNever, ↓rBreak, ↓rCont, ↓i2, ↓i20, ↓b20, ↓rYes, wipeE, ↓negD, ↓endOf, ↓DL.envOf, List.map_cons, List.map_nil, List.cons_append, List.nil_append, List.length_cons, List.length_nil, List.replicate, List.getElem?_cons_zero, List.getElem?_cons_succ, List.set_cons_zero, List.set_cons_succ, Nat.zero_add, Nat.reduceAdd, Nat.reduceSub, ↓reduceIte, Bool.false_eq_true, Bool.xor_false, Bool.false_xor, Bool.true_xor, Bool.not_true, Bool.not_false, if_true, if_false, decide_true, decide_false]
  refine sl_ref h5o fun p6 hp6 => ?_
  rw [cut_toI t50, ← List.map_take]
  have x6 := x5.new (o := .lst ((out.take t5.toNat).map D.int)) hp6
  have h6 : (S5.upd p6 (.lst ((out.take t5.toNat).map D.int))) p6 = some (.lst ((out.take t5.toNat).map D.int)) := Sto.upd_same
  have h6i : (S5.upd p6 (.lst ((out.take t5.toNat).map D.int))) p = some (.lst (ins.map D.int)) := by rw [Sto.upd_ne (fun e => by rw [← e, h5i] at hp6; cases hp6)]; exact h5i
  have h6o : (S5.upd p6 (.lst ((out.take t5.toNat).map D.int))) p2 = some (.lst (out.map D.int)) := by rw [Sto.upd_ne (fun e => by rw [← e, h5o] at hp6; cases hp6)]; exact h5o
  have h6e : (S5.upd p6 (.lst ((out.take t5.toNat).map D.int))) p3 = some (.lst []) := by rw [Sto.upd_ne (fun e => by rw [← e, h5] at hp6; cases hp6)]; exact h5
  revert x6 h6 h6i h6o h6e
  generalize S5.upd p6 (.lst ((out.take t5.toNat).map D.int)) = S6
  intro x6 h6 h6i h6o h6e
  have l6 : (out.take t5.toNat).length ≤ 60 := by rw [List.length_take]; omega
  refine add_ref h6 h6i (by rw [List.length_map, List.length_map]; exact Nat.le_trans (show _ ≤ 120 by omega) (by decide)) fun p7 hp7 => ?_
  rw [← List.map_append]
  have lane1 : LaneN (out.take t5.toNat ++ ins) := by
    refine ⟨fun n hn => ?_, ?_⟩
    · rcases List.mem_append.mp hn with z | z
      · exact lo.cars n (List.mem_of_mem_take z)
      · exact li.cars n z
    · rw [List.nodup_append]
      exact ⟨lo.nodup.sublist (List.take_sublist ..), li.nodup, fun x hx y hy e => mo x (List.mem_of_mem_take hx) (mi x (e ▸ hy))⟩
  have lane2 : LaneN (ins ++ out) := by
    refine ⟨fun n hn => ?_, ?_⟩
    · rcases List.mem_append.mp hn with z | z
      · exact li.cars n z
      · exact lo.cars n z
    · rw [List.nodup_append]
      exact ⟨li.nodup, lo.nodup, fun x hx y hy e => mo y hy (mi y (e ▸ hx))⟩
  revert lane1
  generalize out.take t5.toNat ++ ins = mid
  intro lane1
  have x7 := x6.new (o := .lst (mid.map D.int)) hp7
  have h7 : (S6.upd p7 (.lst (mid.map D.int))) p7 = some (.lst (mid.map D.int)) := Sto.upd_same
  have h7i : (S6.upd p7 (.lst (mid.map D.int))) p = some (.lst (ins.map D.int)) := by rw [Sto.upd_ne (fun e => by rw [← e, h6i] at hp7; cases hp7)]; exact h6i
  have h7o : (S6.upd p7 (.lst (mid.map D.int))) p2 = some (.lst (out.map D.int)) := by rw [Sto.upd_ne (fun e => by rw [← e, h6o] at hp7; cases hp7)]; exact h6o
  have h7e : (S6.upd p7 (.lst (mid.map D.int))) p3 = some (.lst []) := by rw [Sto.upd_ne (fun e => by rw [← e, h6e] at hp7; cases hp7)]; exact h6e
  have hp7a := x6.ne hp7
  revert x7 h7 h7i h7o h7e
  generalize S6.upd p7 (.lst (mid.map D.int)) = S7
  intro x7 h7 h7i h7o h7e
  refine add_ref h7i h7o (by rw [List.length_map, List.length_map]; exact Nat.le_trans (show _ ≤ 120 by omega) (by decide)) fun p8 hp8 => ⟨by decide, fun p9 hp9 => ?_⟩
  rw [← List.map_append] at hp9 ⊢
  have x8 := x7.new (o := .lst ((ins ++ out).map D.int)) hp8
  have hp8a := x7.ne hp8
  have x9 := x8.new (o := .lst [.ref p3, .ref p, .ref p2, .ref p7, .ref p8]) hp9
  have at9 : ∀ {z : Addr} {o : O}, S7 z = some o → ((S7.upd p8 (.lst ((ins ++ out).map D.int))).upd p9 (.lst [.ref p3, .ref p, .ref p2, .ref p7, .ref p8])) z = some o := fun {z o} hz => by
    have n8 : z ≠ p8 := fun e => by rw [← e, hz] at hp8; cases hp8
    have hz8 : (S7.upd p8 (.lst ((ins ++ out).map D.int))) z = some o := by rw [Sto.upd_ne n8]; exact hz
    have n9 : z ≠ p9 := fun e => by rw [← e, hz8] at hp9; cases hp9
    rw [Sto.upd_ne n9]; exact hz8
  have n89 : p8 ≠ p9 := fun e => by rw [← e, Sto.upd_same] at hp9; cases hp9
  have h9 : ((S7.upd p8 (.lst ((ins ++ out).map D.int))).upd p9 (.lst [.ref p3, .ref p, .ref p2, .ref p7, .ref p8])) p8 = some (.lst ((ins ++ out).map D.int)) := by rw [Sto.upd_ne n89, Sto.upd_same]
  have h9s : ((S7.upd p8 (.lst ((ins ++ out).map D.int))).upd p9 (.lst [.ref p3, .ref p, .ref p2, .ref p7, .ref p8])) p9 = some (.lst [.ref p3, .ref p, .ref p2, .ref p7, .ref p8]) := Sto.upd_same
  have h9e := at9 h7e
  have h9i := at9 h7i
  have h9o := at9 h7o
  have h9m := at9 h7
  clear at9
  revert x9 h9 h9s h9e h9i h9o h9m
  generalize (S7.upd p8 (.lst ((ins ++ out).map D.int))).upd p9 (.lst [.ref p3, .ref p, .ref p2, .ref p7, .ref p8]) = S9
  intro x9 h9 h9s h9e h9i h9o h9m
  -- which
  have fresh : ∀ {z : Addr}, S z = none ∨ z = z := fun {z} => .inr rfl
  obtain ⟨s, sm, hs, hsm, hsa, hd, hSs⟩ : ∃ s sm, S9 s = some (.lst (sm.map D.int)) ∧ LaneN sm ∧ s ≠ a ∧ atI [D.ref p3, D.ref p, D.ref p2, D.ref p7, D.ref p8] t1 = some (.ref s) ∧ S s = none := by
    have c1 : t1 = 0 ∨ t1 = 1 ∨ t1 = 2 ∨ t1 = 3 ∨ t1 = 4 := by omega
    rcases c1 with rfl | rfl | rfl | rfl | rfl
    · exact ⟨p3, [], h9e, ⟨fun _ z => (nomatch z), List.nodup_nil⟩, hp3a, rfl, x3.free hp3⟩
    · exact ⟨p, ins, h9i, li, hpa, rfl, x1.free hp⟩
    · exact ⟨p2, out, h9o, lo, hp2a, rfl, x2.free hp2⟩
    · exact ⟨p7, mid, h9m, lane1, hp7a, rfl, x6.free hp7⟩
    · exact ⟨p8, ins ++ out, h9, lane2, hp8a, rfl, x7.free hp8⟩
  refine ixD_at (seq_ref h9s) hd ?_
  have ls := cars60 hsm
  refine len_at (seq_ref hs) (add_int ⟨trivial, pick_at x9 hb5 (by rw [List.length_map]; omega) (by rw [List.length_map]; omega) fun ta ba Sa ta0 ta1 hba xa ka => ?_⟩)
  have ha' := (ka s hsa).trans hs
  rw [List.length_map] at ta1
  refine eq_int ?_
  simp only [↓rSeq, ↓rAsg, ↓gN, ↓rRet, ↓rRetN, ↓rIf, ↓rBin, ↓rUn, ↓rB, ↓rChain, ↓rC, ↓rVar_zero, ↓rVar_succ, ↓rSkip, ↓rDrop, ↓rCons, ↓rNil, ↓rTup, ↓rLst, ↓rCallB, ↓rAndV, ↓rOrV, ↓rNotV, ↓rNot, ↓rAnd, ↓rOr, ↓rIfE, ↓rBm, ↓rBm0, ↓rSl, ↓oNone, ↓oSome, ↓gIx, ↓gTup', ↓gCons', ↓gNil', ↓rCall, ↓rPar, ↓rNever, ↓rBreak, ↓rCont, ↓i2, ↓i20, ↓b20, ↓rYes, wipeE, ↓negD, ↓endOf, ↓DL.envOf, List.map_cons, List.map_nil, List.cons_append, List.nil_append, List.length_cons, List.length_nil, List.replicate, List.getElem?_cons_zero, List.getElem?_cons_succ, List.set_cons_zero, List.set_cons_succ, Nat.zero_add, Nat.reduceAdd, Nat.reduceSub, ↓reduceIte, Bool.false_eq_true, Bool.xor_false, Bool.false_xor, Bool.true_xor, Bool.not_true, Bool.not_false, if_true, if_false, decide_true, decide_false]
  by_cases w3 : t1 = 3
  · rw [if_pos (by simpa using w3)]
    refine sl_ref ha' fun pb hpb => tuple_lst Sto.upd_same ?_
    rw [cut_toI ta0, ← List.map_take]
    exact ⟨_, (xa.new hpb).sub, q ba _ hba (hsm.sub (List.take_sublist ..))⟩
  rw [if_neg (by simpa using w3)]
  refine comp_draw (a := a) (p := s) (S := S) (m := ta.toNat) (left := sm) (fun K h => ?_) (fun d => rfl) (fun d => rfl) xa hba hSs hsa ha' hsm (by omega) fun bc ds Sc hbc xc hds hlen pc hpc => ?_
  · unfold iRng
    simp only [↓rSeq, ↓rAsg, ↓gN, ↓rRet, ↓rRetN, ↓rIf, ↓rBin, ↓rUn, ↓rB, ↓rChain, ↓rC, ↓rVar_zero, ↓rVar_succ, ↓rSkip, ↓rDrop, ↓rCons, ↓rNil, ↓rTup, ↓rLst, ↓rCallB, ↓rAndV, ↓rOrV, ↓rNotV, ↓rNot, ↓rAnd, ↓rOr, ↓rIfE, ↓rBm, ↓rBm0, ↓rSl, ↓oNone, ↓oSome, ↓gIx, ↓gTup', ↓gCons', ↓gNil', ↓rCall, ↓rPar, ↓rNever, ↓rBreak, ↓rCont, ↓i2, ↓i20, ↓b20, ↓rYes, wipeE, ↓negD, ↓endOf, ↓DL.envOf, List.map_cons, List.map_nil, List.cons_append, List.nil_append, List.length_cons, List.length_nil, List.replicate, List.getElem?_cons_zero, List.getElem?_cons_succ, List.set_cons_zero, List.set_cons_succ, Nat.zero_add, Nat.reduceAdd, Nat.reduceSub, ↓reduceIte, Bool.false_eq_true, Bool.xor_false, Bool.false_xor, Bool.true_xor, Bool.not_true, Bool.not_false, if_true, if_false, decide_true, decide_false]
    exact ⟨by omega, by omega, h⟩
  · exact tuple_lst Sto.upd_same ⟨_, (xc.new hpc).sub, q bc ds hbc hds⟩
theorem ok_law_due (T : Txt mg) (F__law_is_car : Callee P w K mg base CX0 1 "_law_is_car" 1 c_law_is_car) (hdef : DefAt K mg "_law_due" s_law_due ["value"]) : Callee P w K mg base CX0 2 "_law_due" 1 c_law_due := by
  refine mkCallee hdef sc_law_due 1 rfl _ (fun cdv A outer s H E f hr => (have hc : (cxOf CX0 P w K mg base ["value", "one", "k"] "_law_due" (defScope s_law_due) f cdv A outer s H E).nox.calm = true := rfl; have nd := sc_law_due.nd; (rs_cons (rs_if (TR.w (wr_or (tr_not (tr_val (re_callB cIsi rfl T.g_isinstance (by decide +kernel) (ra_cons (re_var 0) (ra_cons (re_type (n := "tuple") rfl T.g_tuple (by decide +kernel)) ra_nil))))) (wr_or1 (tr_cmp (opNeNil hr.u0) (re_comp [("one", 1)] hc nd (ri_seq (re_var 0)) (blkOk_by (N := ["value", "one", "k"]) (sc := defScope s_law_due) (by decide +kernel)) (fun _ _ _ _ _ => (rg_name 1 nd (by simp))) (fun _ _ _ _ _ => (ts_one (tr_not (tr_val (re_call F__law_is_car (hr.mono (by decide)) rfl (ra_cons (re_var 1) ra_nil)))))) (fun _ _ _ _ _ => (re_var 1))) (re_lst ra_nil) (nomark _)))))
    (rs_one (rs_ret (re_lst (ra_cons re_bl (ra_cons re_bl ra_nil)))))
    rs_nil)
    (rs_one (rs_ret (re_lst (ra_cons (re_cmp (opEqNil hr.u0) (re_comp [("k", 2), ("one", 1)] hc nd (ri_enumT rfl T.g_enumerate (ra_cons (re_var 0) ra_nil)) (blkOk_by (N := ["value", "one", "k"]) (sc := defScope s_law_due) (by decide +kernel)) (fun _ _ _ _ _ => (rg_tup (n := 2) rfl (rgs_cons (rg_name 2 nd (by simp)) (rgs_cons (rg_name 1 nd (by simp)) rgs_nil)))) (fun _ _ _ _ _ => (ts_one (tr_cmp (opIn hr.u65) (re_var 1) (re_slice slSeq (re_var 0) ro_none (ro_some (re_var 2))) rfl))) (fun _ _ _ _ _ => (re_var 2))) (re_lst ra_nil) (nomark _)) (ra_cons (re_chain opLt opLt re_int (re_callB cLen rfl T.g_len (by decide +kernel) (ra_cons (re_var 0) ra_nil)) re_int) ra_nil)))))))) (fun ds S kk hl hC => ?_) (fun ds S kk ek z => z)
  obtain ⟨x, rfl, hk, q⟩ := hC
  have q' : ∀ p, S p = none → kk (.ref p) (S.upd p (.lst [.bl (isLaneD x), .bl (areCallsD x)])) := fun p hp => q p S (Sub.refl S) hp
  clear q
  simp only [↓rSeq, ↓rAsg, ↓gN, ↓rRet, ↓rRetN, ↓rIf, ↓rBin, ↓rUn, ↓rB, ↓rChain, ↓rC, ↓rVar_zero, ↓rVar_succ, ↓rSkip, ↓rDrop, ↓rCons, ↓rNil, ↓rTup, ↓rLst, ↓rCallB, ↓rAndV, ↓rOrV, ↓rNotV, ↓rNot, ↓rAnd, ↓rOr, ↓rIfE, ↓rBm, ↓rBm0, ↓rSl, ↓oNone, ↓oSome, ↓gIx, ↓gTup', ↓gCons', ↓gNil', ↓rCall, ↓rPar, ↓rNever, ↓rBreak, ↓rCont, ↓i2, ↓i20, ↓b20, ↓rYes, wipeE, ↓negD, ↓endOf, ↓DL.envOf, List.map_cons, List.map_nil, List.cons_append, List.nil_append, List.length_cons, List.length_nil, List.replicate, List.getElem?_cons_zero, List.getElem?_cons_succ, List.set_cons_zero, List.set_cons_succ, Nat.zero_add, Nat.reduceAdd, Nat.reduceSub, ↓reduceIte, Bool.false_eq_true, Bool.xor_false, Bool.false_xor, Bool.true_xor, Bool.not_true, Bool.not_false, if_true, if_false, decide_true, decide_false]
  refine isi_tup hk.1 ?_
  cases x with
  | tup xs =>
    obtain ⟨hl, hi⟩ := hk.2 xs rfl
    simp only [isTup, Bool.not_true, Bool.false_eq_true, ↓reduceIte]
    refine comp_fm (xs := xs) (G := fun _ => True) (fun y => !isCar y) id (fun K h => by unfold iSeq; simp only [↓rSeq, ↓rAsg, ↓gN, ↓rRet, ↓rRetN, ↓rIf, ↓rBin, ↓rUn, ↓rB, ↓rChain, ↓rC, ↓rVar_zero, ↓rVar_succ, ↓rSkip, ↓rDrop, ↓rCons, ↓rNil, ↓rTup, ↓rLst, ↓rCallB, ↓rAndV, ↓rOrV, ↓rNotV, ↓rNot, ↓rAnd, ↓rOr, ↓rIfE, ↓rBm, ↓rBm0, ↓rSl, ↓oNone, ↓oSome, ↓gIx, ↓gTup', ↓gCons', ↓gNil', ↓rCall, ↓rPar, ↓rNever, ↓rBreak, ↓rCont, ↓i2, ↓i20, ↓b20, ↓rYes, wipeE, ↓negD, ↓endOf, ↓DL.envOf, List.map_cons, List.map_nil, List.cons_append, List.nil_append, List.length_cons, List.length_nil, List.replicate, List.getElem?_cons_zero, List.getElem?_cons_succ, List.set_cons_zero, List.set_cons_succ, Nat.zero_add, Nat.reduceAdd, Nat.reduceSub, ↓reduceIte, Bool.false_eq_true, Bool.xor_false, Bool.false_xor, Bool.true_xor, Bool.not_true, Bool.not_false, if_true, if_false, decide_true, decide_false]; exact h) trivial (Nat.le_trans hl (by decide)) (fun y hy kt kf g1 g2 => ?_) fun p1 hp1 => ?_
    · simp only [↓rSeq, ↓rAsg, ↓gN, ↓rRet, ↓rRetN, ↓rIf, ↓rBin, ↓rUn, ↓rB, ↓rChain, ↓rC, ↓rVar_zero, ↓rVar_succ, ↓rSkip, ↓rDrop, ↓rCons, ↓rNil, ↓rTup, ↓rLst, ↓rCallB, ↓rAndV, ↓rOrV, ↓rNotV, ↓rNot, ↓rAnd, ↓rOr, ↓rIfE, ↓rBm, ↓rBm0, ↓rSl, ↓oNone, ↓oSome, ↓gIx, ↓gTup', ↓gCons', ↓gNil', ↓rCall, ↓rPar, ↓rNever, ↓rBreak, ↓rCont, ↓i2, ↓i20, ↓b20, ↓rYes, wipeE, ↓negD, ↓endOf, ↓DL.envOf, List.map_cons, List.map_nil, List.cons_append, List.nil_append, List.length_cons, List.length_nil, List.replicate, List.getElem?_cons_zero, List.getElem?_cons_succ, List.set_cons_zero, List.set_cons_succ, Nat.zero_add, Nat.reduceAdd, Nat.reduceSub, ↓reduceIte, Bool.false_eq_true, Bool.xor_false, Bool.false_xor, Bool.true_xor, Bool.not_true, Bool.not_false, if_true, if_false, decide_true, decide_false]
      refine ⟨trivial, y, rfl, hi y hy, ?_⟩
      cases h : isCar y with
      | true => exact g2 (by rw [h]; rfl)
      | false => exact g1 (by rw [h]; rfl)
    rw [List.map_id]
    refine ⟨by decide, fun p2 hp2 => ?_⟩
    have e1 : (S.upd p1 (.lst (xs.filter fun y => !isCar y))) p1 = some (.lst (xs.filter fun y => !isCar y)) := Sto.upd_same
    have s1 : DL.Sub S ((S.upd p1 (.lst (xs.filter fun y => !isCar y))).upd p2 (.lst [])) := (Sub.upd hp1).trans (Sub.upd hp2)
    have e2 := old_new (o := .lst []) hp2 e1
    have e3 : ((S.upd p1 (.lst (xs.filter fun y => !isCar y))).upd p2 (.lst [])) p2 = some (.lst []) := Sto.upd_same
    revert s1 e2 e3
    generalize ((S.upd p1 (.lst (xs.filter fun y => !isCar y))).upd p2 (.lst [])) = S2
    intro s1 e2 e3
    unfold eqNilD
    simp only [e2, e3]
    rw [filt_all]
    cases h : xs.all isCar with
    | false =>
      simp only [Bool.xor_false, ↓reduceIte]
      refine ⟨by decide, fun p3 hp3 => ⟨_, s1.both, ?_⟩⟩
      have z := q' p3 (s1.free hp3)
      simp only [isLaneD, areCallsD, h, Bool.false_and] at z
      exact z
    | true =>
      simp only [Bool.xor_true, Bool.not_true, Bool.false_eq_true, ↓reduceIte]
      have hx := map_intsOf xs h
      refine comp_fm (xs := enumD xs) (G := fun _ => True) (fun d => match d with | .par [.int k, .int v] => decide (v ∈ (intsOf xs).take k.toNat) | _ => false) (fun d => match d with | .par [k, _] => k | _ => .non) (fun K h => by unfold iEnumT; simp only [↓rSeq, ↓rAsg, ↓gN, ↓rRet, ↓rRetN, ↓rIf, ↓rBin, ↓rUn, ↓rB, ↓rChain, ↓rC, ↓rVar_zero, ↓rVar_succ, ↓rSkip, ↓rDrop, ↓rCons, ↓rNil, ↓rTup, ↓rLst, ↓rCallB, ↓rAndV, ↓rOrV, ↓rNotV, ↓rNot, ↓rAnd, ↓rOr, ↓rIfE, ↓rBm, ↓rBm0, ↓rSl, ↓oNone, ↓oSome, ↓gIx, ↓gTup', ↓gCons', ↓gNil', ↓rCall, ↓rPar, ↓rNever, ↓rBreak, ↓rCont, ↓i2, ↓i20, ↓b20, ↓rYes, wipeE, ↓negD, ↓endOf, ↓DL.envOf, List.map_cons, List.map_nil, List.cons_append, List.nil_append, List.length_cons, List.length_nil, List.replicate, List.getElem?_cons_zero, List.getElem?_cons_succ, List.set_cons_zero, List.set_cons_succ, Nat.zero_add, Nat.reduceAdd, Nat.reduceSub, ↓reduceIte, Bool.false_eq_true, Bool.xor_false, Bool.false_xor, Bool.true_xor, Bool.not_true, Bool.not_false, if_true, if_false, decide_true, decide_false]; exact h) trivial (by unfold enumD; rw [List.length_map, List.length_range]; exact Nat.le_trans hl (by decide)) (fun y hy kt kf g1 g2 => ?_) fun p3 hp3 => ?_
      · unfold enumD at hy
        obtain ⟨i, hir, rfl⟩ := List.mem_map.mp hy
        have hil : i < xs.length := List.mem_range.mp hir
        have hxi : xs.getD i .non = .int ((intsOf xs).getD i 0) := by
          have hl2 := congrArg List.length hx
          rw [List.length_map] at hl2
          have c : xs.getD i .non = ((intsOf xs).map D.int).getD i .non := by rw [← hx]
          rw [c, List.getD, List.getD, List.getElem?_map, List.getElem?_eq_getElem (show i < (intsOf xs).length by omega)]
          rfl
        rw [hxi] at g1 g2 ⊢
        simp only [↓rSeq, ↓rAsg, ↓gN, ↓rRet, ↓rRetN, ↓rIf, ↓rBin, ↓rUn, ↓rB, ↓rChain, ↓rC, ↓rVar_zero, ↓rVar_succ, ↓rSkip, ↓rDrop, ↓rCons, ↓rNil, ↓rTup, ↓rLst, ↓rCallB, ↓rAndV, ↓rOrV, ↓rNotV, ↓rNot, ↓rAnd, ↓rOr, ↓rIfE, ↓rBm, ↓rBm0, ↓rSl, ↓oNone, ↓oSome, ↓gIx, ↓gTup', ↓gCons', ↓gNil', ↓rCall, ↓rPar, ↓rNever, ↓rBreak, ↓rCont, ↓i2, ↓i20, ↓b20, ↓rYes, wipeE, ↓negD, ↓endOf, ↓DL.envOf, List.map_cons, List.map_nil, List.cons_append, List.nil_append, List.length_cons, List.length_nil, List.replicate, List.getElem?_cons_zero, List.getElem?_cons_succ, List.set_cons_zero, List.set_cons_succ, Nat.zero_add, Nat.reduceAdd, Nat.reduceSub, ↓reduceIte, Bool.false_eq_true, Bool.xor_false, Bool.false_xor, Bool.true_xor, Bool.not_true, Bool.not_false, if_true, if_false, decide_true, decide_false]
        refine ⟨trivial, _, _, rfl, _, _, rfl, rfl, ?_⟩
        simp only [↓rSeq, ↓rAsg, ↓gN, ↓rRet, ↓rRetN, ↓rIf, ↓rBin, ↓rUn, ↓rB, ↓rChain, ↓rC, ↓rVar_zero, ↓rVar_succ, ↓rSkip, ↓rDrop, ↓rCons, ↓rNil, ↓rTup, ↓rLst, ↓rCallB, ↓rAndV, ↓rOrV, ↓rNotV, ↓rNot, ↓rAnd, ↓rOr, ↓rIfE, ↓rBm, ↓rBm0, ↓rSl, ↓oNone, ↓oSome, ↓gIx, ↓gTup', ↓gCons', ↓gNil', ↓rCall, ↓rPar, ↓rNever, ↓rBreak, ↓rCont, ↓i2, ↓i20, ↓b20, ↓rYes, wipeE, ↓negD, ↓endOf, ↓DL.envOf, List.map_cons, List.map_nil, List.cons_append, List.nil_append, List.length_cons, List.length_nil, List.replicate, List.getElem?_cons_zero, List.getElem?_cons_succ, List.set_cons_zero, List.set_cons_succ, Nat.zero_add, Nat.reduceAdd, Nat.reduceSub, ↓reduceIte, Bool.false_eq_true, Bool.xor_false, Bool.false_xor, Bool.true_xor, Bool.not_true, Bool.not_false, if_true, if_false, decide_true, decide_false]
        refine sl_tup ?_
        rw [cut_to]
        refine inD_int (ns := (intsOf xs).take i) (by rw [List.map_take, ← hx]; rfl) ?_
        simp only [↓rSeq, ↓rAsg, ↓gN, ↓rRet, ↓rRetN, ↓rIf, ↓rBin, ↓rUn, ↓rB, ↓rChain, ↓rC, ↓rVar_zero, ↓rVar_succ, ↓rSkip, ↓rDrop, ↓rCons, ↓rNil, ↓rTup, ↓rLst, ↓rCallB, ↓rAndV, ↓rOrV, ↓rNotV, ↓rNot, ↓rAnd, ↓rOr, ↓rIfE, ↓rBm, ↓rBm0, ↓rSl, ↓oNone, ↓oSome, ↓gIx, ↓gTup', ↓gCons', ↓gNil', ↓rCall, ↓rPar, ↓rNever, ↓rBreak, ↓rCont, ↓i2, ↓i20, ↓b20, ↓rYes, wipeE, ↓negD, ↓endOf, ↓DL.envOf, List.map_cons, List.map_nil, List.cons_append, List.nil_append, List.length_cons, List.length_nil, List.replicate, List.getElem?_cons_zero, List.getElem?_cons_succ, List.set_cons_zero, List.set_cons_succ, Nat.zero_add, Nat.reduceAdd, Nat.reduceSub, ↓reduceIte, Bool.false_eq_true, Bool.xor_false, Bool.false_xor, Bool.true_xor, Bool.not_true, Bool.not_false, if_true, if_false, decide_true, decide_false]
        simp only [Int.toNat_natCast] at g1 g2
        by_cases hm : (intsOf xs).getD i 0 ∈ (intsOf xs).take i
        · rw [if_pos (by simpa using hm)]; exact g1 (by simpa using hm)
        · rw [if_neg (by simpa using hm)]; exact g2 (by simpa using hm)
      refine ⟨by decide, fun p4 hp4 => ?_⟩
      generalize hF : ((enumD xs).filter _).map _ = F at hp4 ⊢
      have hFe : F.isEmpty = decide ((intsOf xs).Nodup) := by
        rw [← hF, Bool.eq_iff_iff, List.isEmpty_iff, List.map_eq_nil_iff, List.filter_eq_nil_iff, decide_eq_true_iff, nodup_take]
        have hl2 := congrArg List.length hx
        rw [List.length_map] at hl2
        have hxi : ∀ i, i < xs.length → xs.getD i .non = .int ((intsOf xs).getD i 0) := fun i hil => by
          have c : xs.getD i .non = ((intsOf xs).map D.int).getD i .non := by rw [← hx]
          rw [c, List.getD, List.getD, List.getElem?_map, List.getElem?_eq_getElem (show i < (intsOf xs).length by omega)]
          rfl
        constructor
        · intro g i hi' hm
          have z := g (.par [.int (i : Nat), xs.getD i .non]) (List.mem_map.mpr ⟨i, List.mem_range.mpr (by omega), rfl⟩)
          rw [hxi i (by omega)] at z
          simp only [Int.toNat_natCast, decide_eq_true_eq] at z
          exact z hm
        · intro g y hy
          obtain ⟨i, hir, rfl⟩ := List.mem_map.mp hy
          have hil : i < xs.length := List.mem_range.mp hir
          rw [hxi i hil]
          simp only [Int.toNat_natCast, decide_eq_true_eq]
          exact g i (by omega)
      have e5 : (S2.upd p3 (.lst F)) p3 = some (.lst F) := Sto.upd_same
      have s3 : DL.Sub S ((S2.upd p3 (.lst F)).upd p4 (.lst [])) := (s1.trans (Sub.upd hp3)).trans (Sub.upd hp4)
      have e6 := old_new (o := .lst []) hp4 e5
      have e7 : ((S2.upd p3 (.lst F)).upd p4 (.lst [])) p4 = some (.lst []) := Sto.upd_same
      revert s3 e6 e7
      generalize ((S2.upd p3 (.lst F)).upd p4 (.lst [])) = S4
      intro s3 e6 e7
      simp only [e6, e7]
      rw [hFe]
      refine len_at seq_tup ?_
      have e8 : (decide ((1 : Nat) ≤ xs.length) && decide (xs.length ≤ 200)) = (decide ((0 : Int) < (xs.length : Nat)) && decide (((xs.length : Nat) : Int) < 201)) := by
        rw [Bool.eq_iff_iff]
        simp only [Bool.and_eq_true, decide_eq_true_eq]
        omega
      rw [Bool.false_xor]
      simp only [isLaneD, areCallsD, h, Bool.true_and, e8] at q'
      by_cases hz : (0 : Int) < (xs.length : Nat)
      · simp only [hz, decide_true, Bool.true_and] at q' ⊢
        exact ⟨by decide, fun p5 hp5 => ⟨_, s3.both, q' p5 (s3.free hp5)⟩⟩
      · simp only [hz, decide_false, Bool.false_and] at q' ⊢
        exact ⟨by decide, fun p5 hp5 => ⟨_, s3.both, q' p5 (s3.free hp5)⟩⟩
  | _ => exact ⟨by decide, fun p hp => ⟨_, Sub.refl _, q' p hp⟩⟩
theorem ok_law_others (T : Txt mg) (F__law_pick : Callee P w K mg base CX0 1 "_law_pick" 2 c_law_pick) (hdef : DefAt K mg "_law_others" s_law_others ["bag", "row"]) : Callee P w K mg base CX0 2 "_law_others" 2 c_law_others := by
  refine mkCallee hdef sc_law_others 2 rfl _ (fun cdv A outer s H E f hr => (have hc : (cxOf CX0 P w K mg base ["bag", "row", "at", "odds", "odd", "some", "one"] "_law_others" (defScope s_law_others) f cdv A outer s H E).nox.calm = true := rfl; have nd := sc_law_others.nd; (rs_cons (rs_set 2 nd (re_call F__law_pick (hr.mono (by decide)) rfl (ra_cons (re_var 0) (ra_cons (re_bin opAdd (re_callB cLen rfl T.g_len (by decide +kernel) (ra_cons (re_var 1) ra_nil)) re_int) ra_nil))))
    (rs_cons (rs_set 3 nd (re_lst (ra_cons re_non (ra_cons re_bl (ra_cons re_bl (ra_cons re_str (ra_cons (re_tup ra_nil) (ra_cons (re_lst ra_nil) (ra_cons re_dnew (ra_cons (re_un unNeg re_int) (ra_cons (re_un unNeg re_int) (ra_cons re_int (ra_cons re_int (ra_cons re_int (ra_cons (re_bin opPowB re_int re_int) (ra_cons re_int (ra_cons re_int ra_nil)))))))))))))))))
    (rs_cons (rs_set 4 nd (re_ix ixSeq (re_bin opAdd (re_var 3) (re_callTy cList rfl T.g_list (by decide +kernel) (ra_cons (re_slice slSeq (re_var 1) ro_none (ro_some re_int)) ra_nil))) (re_call F__law_pick (hr.mono (by decide)) rfl (ra_cons (re_var 0) (ra_cons (re_bin opAdd re_int (re_callB cLen rfl T.g_len (by decide +kernel) (ra_cons (re_slice slSeq (re_var 1) ro_none (ro_some re_int)) ra_nil))) ra_nil)))))
    (rs_cons (rs_set 5 nd (re_lst (ra_cons (re_bin opAdd (re_bin opAdd (re_slice slSeq (re_var 1) ro_none (ro_some (re_var 2))) (re_tup (ra_cons (re_var 4) ra_nil))) (re_slice slSeq (re_var 1) (ro_some (re_var 2)) ro_none)) (ra_cons (re_bin opAdd (re_bin opAdd (re_slice slSeq (re_var 1) ro_none (ro_some (re_var 2))) (re_tup (ra_cons (re_var 4) ra_nil))) (re_slice slSeq (re_var 1) (ro_some (re_bin opAdd (re_var 2) re_int)) ro_none)) (ra_cons (re_bin opAdd (re_slice slSeq (re_var 1) ro_none (ro_some (re_var 2))) (re_slice slSeq (re_var 1) (ro_some (re_bin opAdd (re_var 2) re_int)) ro_none)) (ra_cons (re_var 4) (ra_cons (re_callTy cList rfl T.g_list (by decide +kernel) (ra_cons (re_var 1) ra_nil)) ra_nil)))))))
    (rs_cons (rs_set 5 nd (re_bin opAdd (re_var 5) (re_lst (ra_cons (re_revT (re_var 1)) (ra_cons (re_bin opAdd (re_var 1) (re_slice slSeq (re_var 1) ro_none (ro_some re_int))) (ra_cons (re_tup (ra_cons (re_var 1) ra_nil)) (ra_cons re_non (ra_cons re_dnew (ra_cons re_str (ra_cons (re_bm PySem.F.plainAttrs_str PySem.F.slot_str_join PySem.F.type_str_join mJoin re_str (ra_cons (re_comp [("one", 6)] hc nd (ri_seq (re_var 1)) (blkOk_by (N := ["bag", "row", "at", "odds", "odd", "some", "one"]) (sc := defScope s_law_others) (by decide +kernel)) (fun _ _ _ _ _ => (rg_name 6 nd (by simp))) (fun _ _ _ _ _ => ts_nil) (fun _ _ _ _ _ => (re_callTy cStr rfl T.g_str (by decide +kernel) (ra_cons (re_var 6) ra_nil)))) ra_nil)) (ra_cons (re_tup ra_nil) ra_nil)))))))))))
    (rs_cons (rs_set 5 nd (re_bin opAdd (re_var 5) (re_lst (ra_cons (re_trg hc rfl T.g_tuple rfl T.g_range re_int) (ra_cons (re_trg hc rfl T.g_tuple rfl T.g_range re_int) (ra_cons (re_bin opMul (re_tup (ra_cons re_int ra_nil)) re_int) (ra_cons (re_bin opMul (re_tup (ra_cons re_int ra_nil)) re_int) (ra_cons (re_bin opMul (re_tup (ra_cons re_int ra_nil)) re_int) (ra_cons (re_tup (ra_cons re_bl ra_nil)) (ra_cons (re_tup (ra_cons re_int (ra_cons re_bl ra_nil))) ra_nil))))))))))
    (rs_one (rs_ret (re_bin opAdd (re_var 5) (re_lst (ra_cons (re_tup (ra_cons re_int (ra_cons re_bl ra_nil))) (ra_cons (re_tup (ra_cons (re_lst ra_nil) ra_nil)) (ra_cons (re_tup (ra_cons re_int ra_nil)) (ra_cons (re_tup (ra_cons re_int ra_nil)) (ra_cons (re_tup (ra_cons (re_un unNeg re_int) ra_nil)) (ra_cons (re_tup (ra_cons re_int (ra_cons re_int ra_nil))) (ra_cons (re_tup (ra_cons re_int (ra_cons re_int (ra_cons re_int ra_nil)))) ra_nil))))))))))))))))))) (fun ds S kk hl hC => ?_) (fun ds S kk ek z => z)
  obtain ⟨a, b, row, rfl, ha, hb, hrow, hlr, q⟩ := hC
  refine seq_gen fun N hN => ?_
  simp only [↓rSeq, ↓rAsg, ↓gN, ↓rRet, ↓rRetN, ↓rIf, ↓rBin, ↓rUn, ↓rB, ↓rChain, ↓rC, ↓rVar_zero, ↓rVar_succ, ↓rSkip, ↓rDrop, ↓rCons, ↓rNil, ↓rTup, ↓rLst, ↓rCallB, ↓rAndV, ↓rOrV, ↓rNotV, ↓rNot, ↓rAnd, ↓rOr, ↓rIfE, ↓rBm, ↓rBm0, ↓rSl, ↓oNone, ↓oSome, ↓gIx, ↓gTup', ↓gCons', ↓gNil', ↓rCall, ↓rPar, ↓rNever, ↓rBreak, ↓rCont, ↓i2, ↓i20, ↓b20, ↓rYes, wipeE, ↓negD, ↓endOf, ↓DL.envOf, List.map_cons, List.map_nil, List.cons_append, List.nil_append, List.length_cons, List.length_nil, List.replicate, List.getElem?_cons_zero, List.getElem?_cons_succ, List.set_cons_zero, List.set_cons_succ, Nat.zero_add, Nat.reduceAdd, Nat.reduceSub, ↓reduceIte, Bool.false_eq_true, Bool.xor_false, Bool.false_xor, Bool.true_xor, Bool.not_true, Bool.not_false, if_true, if_false, decide_true, decide_false]
  refine len_at seq_tup (add_int ⟨trivial, pick_at (Ex.refl ha) hb (by rw [List.length_map]; omega) (by rw [List.length_map]; omega) fun t1 b1 S1 t10 t11 hb1 x1 k1 => ?_⟩)
  rw [List.length_map] at t11
  subst hN
  clear k1
  refine seq_gen fun N hN => ?_
  simp only [↓rSeq, ↓rAsg, ↓gN, ↓rRet, ↓rRetN, ↓rIf, ↓rBin, ↓rUn, ↓rB, ↓rChain, ↓rC, ↓rVar_zero, ↓rVar_succ, ↓rSkip, ↓rDrop, ↓rCons, ↓rNil, ↓rTup, ↓rLst, ↓rCallB, ↓rAndV, ↓rOrV, ↓rNotV, ↓rNot, ↓rAnd, ↓rOr, ↓rIfE, ↓rBm, ↓rBm0, ↓rSl, ↓oNone, ↓oSome, ↓gIx, ↓gTup', ↓gCons', ↓gNil', ↓rCall, ↓rPar, ↓rNever, ↓rBreak, ↓rCont, ↓i2, ↓i20, ↓b20, ↓rYes, wipeE, ↓negD, ↓endOf, ↓DL.envOf, List.map_cons, List.map_nil, List.cons_append, List.nil_append, List.length_cons, List.length_nil, List.replicate, List.getElem?_cons_zero, List.getElem?_cons_succ, List.set_cons_zero, List.set_cons_succ, Nat.zero_add, Nat.reduceAdd, Nat.reduceSub, ↓reduceIte, Bool.false_eq_true, Bool.xor_false, Bool.false_xor, Bool.true_xor, Bool.not_true, Bool.not_false, if_true, if_false, decide_true, decide_false]
  refine ⟨by decide, by decide, fun p hp => ?_⟩
  unfold rDnew
  intro pd hpd
  refine ⟨⟨by decide, by decide, by decide⟩, by decide, fun p1 hp1 => ?_⟩
  have x2 := ((x1.new (o := .lst []) hp).new (o := .ho (.dK [])) hpd).new (o := .lst [.non, .bl true, .bl false, .str "1", .tup [], .ref p, .ref pd, .int (-1), .int (-2), .int 59, .int 60, .int 61, .int (10 ^ Int.toNat 20), .int 0, .int 1]) hp1
  have g2 : ∀ d ∈ [D.non, .bl true, .bl false, .str "1", .tup [], .ref p, .ref pd, .int (-1), .int (-2), .int 59, .int 60, .int 61, .int (10 ^ Int.toNat 20), .int 0, .int 1], ∃ q, Od a (((S1.upd p (.lst [])).upd pd (.ho (.dK []))).upd p1 (.lst [.non, .bl true, .bl false, .str "1", .tup [], .ref p, .ref pd, .int (-1), .int (-2), .int 59, .int 60, .int 61, .int (10 ^ Int.toNat 20), .int 0, .int 1])) d q := by
    have o1 : Od a (((S1.upd p (.lst [])).upd pd (.ho (.dK []))).upd p1 (.lst [.non, .bl true, .bl false, .str "1", .tup [], .ref p, .ref pd, .int (-1), .int (-2), .int 59, .int 60, .int 61, .int (10 ^ Int.toNat 20), .int 0, .int 1])) (.ref p) (.list []) := .ls (x1.ne hp) (old_new hp1 (old_new hpd Sto.upd_same))
    have o2 : Od a (((S1.upd p (.lst [])).upd pd (.ho (.dK []))).upd p1 (.lst [.non, .bl true, .bl false, .str "1", .tup [], .ref p, .ref pd, .int (-1), .int (-2), .int 59, .int 60, .int 61, .int (10 ^ Int.toNat 20), .int 0, .int 1])) (.ref pd) (.dict []) := .dc ((x1.new hp).ne hpd) (old_new hp1 Sto.upd_same)
    intro d hd
    simp only [List.mem_cons, List.not_mem_nil, or_false] at hd
    have small : ∀ i : Int, i.natAbs < 10 ^ 21 → ∃ q, Od a (((S1.upd p (.lst [])).upd pd (.ho (.dK []))).upd p1 (.lst [.non, .bl true, .bl false, .str "1", .tup [], .ref p, .ref pd, .int (-1), .int (-2), .int 59, .int 60, .int 61, .int (10 ^ Int.toNat 20), .int 0, .int 1])) (.int i) q := fun i h => ⟨_, .int h⟩
    rcases hd with rfl | rfl | rfl | rfl | rfl | rfl | rfl | rfl | rfl | rfl | rfl | rfl | rfl | rfl | rfl
    · exact ⟨_, .non⟩
    · exact ⟨_, .bl _⟩
    · exact ⟨_, .bl _⟩
    · exact ⟨_, .str (Tx.of "1") (by decide +kernel)⟩
    · exact ⟨_, .nil⟩
    · exact ⟨_, o1⟩
    · exact ⟨_, o2⟩
    all_goals exact small _ (by decide)
  have h2 : (((S1.upd p (.lst [])).upd pd (.ho (.dK []))).upd p1 (.lst [.non, .bl true, .bl false, .str "1", .tup [], .ref p, .ref pd, .int (-1), .int (-2), .int 59, .int 60, .int 61, .int (10 ^ Int.toNat 20), .int 0, .int 1])) p1 = some (.lst [.non, .bl true, .bl false, .str "1", .tup [], .ref p, .ref pd, .int (-1), .int (-2), .int 59, .int 60, .int 61, .int (10 ^ Int.toNat 20), .int 0, .int 1]) := Sto.upd_same
  have hlen : [D.non, .bl true, .bl false, .str "1", .tup [], .ref p, .ref pd, .int (-1), .int (-2), .int 59, .int 60, .int 61, .int (10 ^ Int.toNat 20), .int 0, .int 1].length = 15 := rfl
  revert x2 g2 h2 hlen
  generalize (((S1.upd p (.lst [])).upd pd (.ho (.dK []))).upd p1 (.lst [.non, .bl true, .bl false, .str "1", .tup [], .ref p, .ref pd, .int (-1), .int (-2), .int 59, .int 60, .int 61, .int (10 ^ Int.toNat 20), .int 0, .int 1])) = S2
  generalize [D.non, .bl true, .bl false, .str "1", .tup [], .ref p, .ref pd, .int (-1), .int (-2), .int 59, .int 60, .int 61, .int (10 ^ Int.toNat 20), .int 0, .int 1] = odds
  intro x2 g2 h2 hlen
  clear hp hpd hp1
  subst hN
  refine seq_gen fun N hN => ?_
  simp only [↓rSeq, ↓rAsg, ↓gN, ↓rRet, ↓rRetN, ↓rIf, ↓rBin, ↓rUn, ↓rB, ↓rChain, ↓rC, ↓rVar_zero, ↓rVar_succ, ↓rSkip, ↓rDrop, ↓rCons, ↓rNil, ↓rTup, ↓rLst, ↓rCallB, ↓rAndV, ↓rOrV, ↓rNotV, ↓rNot, ↓rAnd, ↓rOr, ↓rIfE, ↓rBm, ↓rBm0, ↓rSl, ↓oNone, ↓oSome, ↓gIx, ↓gTup', ↓gCons', ↓gNil', ↓rCall, ↓rPar, ↓rNever, ↓rBreak, ↓rCont, ↓i2, ↓i20, ↓b20, ↓rYes, wipeE, ↓negD, ↓endOf, ↓DL.envOf, List.map_cons, List.map_nil, List.cons_append, List.nil_append, List.length_cons, List.length_nil, List.replicate, List.getElem?_cons_zero, List.getElem?_cons_succ, List.set_cons_zero, List.set_cons_succ, Nat.zero_add, Nat.reduceAdd, Nat.reduceSub, ↓reduceIte, Bool.false_eq_true, Bool.xor_false, Bool.false_xor, Bool.true_xor, Bool.not_true, Bool.not_false, if_true, if_false, decide_true, decide_false]
  refine sl_tup ?_
  rw [cut_toI (by decide), ← List.map_take]
  obtain ⟨r1, hr1⟩ : ∃ r, r = row.take (Int.toNat 1) := ⟨_, rfl⟩
  have ht : ∀ x ∈ r1, x ∈ row := fun x hx => by rw [hr1] at hx; exact List.mem_of_mem_take hx
  have htl : r1.length ≤ 1 := by rw [hr1, List.length_take]; exact Nat.min_le_left ..
  rw [← hr1]
  refine list_at seq_tup fun p3 hp3 => ?_
  refine add_ref (old_new hp3 h2) Sto.upd_same (by rw [hlen, List.length_map]; exact Nat.le_trans (show _ ≤ 16 by omega) (by decide)) fun p4 hp4 => ?_
  have x4 := (x2.new (o := .lst (r1.map D.int)) hp3).new (o := .lst (odds ++ r1.map D.int)) hp4
  have k4 : Keep a S2 ((S2.upd p3 (.lst (r1.map D.int))).upd p4 (.lst (odds ++ r1.map D.int))) := fun c o n e => old_new hp4 (old_new hp3 e)
  have h4 : ((S2.upd p3 (.lst (r1.map D.int))).upd p4 (.lst (odds ++ r1.map D.int))) p4 = some (.lst (odds ++ r1.map D.int)) := Sto.upd_same
  have g4 : ∀ d ∈ odds ++ r1.map D.int, ∃ q, Od a ((S2.upd p3 (.lst (r1.map D.int))).upd p4 (.lst (odds ++ r1.map D.int))) d q := fun d hd => by
    rcases List.mem_append.mp hd with z | z
    · obtain ⟨q, hq⟩ := g2 d z
      exact ⟨q, hq.mono k4⟩
    · obtain ⟨n, hn, rfl⟩ := mem_ints z
      exact ⟨_, .int (hrow n (ht n hn)).sm⟩
  have hpa4 := (x2.new (o := .lst (r1.map D.int)) hp3).ne hp4
  revert x4 h4 g4
  generalize ((S2.upd p3 (.lst (r1.map D.int))).upd p4 (.lst (odds ++ r1.map D.int))) = S4
  intro x4 h4 g4
  clear k4 hp3 hp4
  refine sl_tup ?_
  rw [cut_toI (by decide), ← List.map_take, ← hr1]
  refine len_at seq_tup (add_int ⟨trivial, pick_at x4 hb1 (by omega) (by rw [List.length_map]; omega) fun t5 b5 S5 t50 t51 hb5 x5 k5 => ?_⟩)
  have h5 := (k5 p4 hpa4).trans h4
  obtain ⟨odd, hodd, hat⟩ := atI_in (xs := odds ++ r1.map D.int) (i := t5) t50 (by
    rw [List.length_append, hlen]; omega)
  refine ixD_at (seq_ref h5) hat ?_
  obtain ⟨op, g5⟩ := g4 odd hodd
  replace g5 : Od a S5 odd op := g5.mono fun c o n e => by rw [k5 c n]; exact e
  clear k5
  subst hN
  refine seq_gen fun N hN => ?_
  simp only [↓rSeq, ↓rAsg, ↓gN, ↓rRet, ↓rRetN, ↓rIf, ↓rBin, ↓rUn, ↓rB, ↓rChain, ↓rC, ↓rVar_zero, ↓rVar_succ, ↓rSkip, ↓rDrop, ↓rCons, ↓rNil, ↓rTup, ↓rLst, ↓rCallB, ↓rAndV, ↓rOrV, ↓rNotV, ↓rNot, ↓rAnd, ↓rOr, ↓rIfE, ↓rBm, ↓rBm0, ↓rSl, ↓oNone, ↓oSome, ↓gIx, ↓gTup', ↓gCons', ↓gNil', ↓rCall, ↓rPar, ↓rNever, ↓rBreak, ↓rCont, ↓i2, ↓i20, ↓b20, ↓rYes, wipeE, ↓negD, ↓endOf, ↓DL.envOf, List.map_cons, List.map_nil, List.cons_append, List.nil_append, List.length_cons, List.length_nil, List.replicate, List.getElem?_cons_zero, List.getElem?_cons_succ, List.set_cons_zero, List.set_cons_succ, Nat.zero_add, Nat.reduceAdd, Nat.reduceSub, ↓reduceIte, Bool.false_eq_true, Bool.xor_false, Bool.false_xor, Bool.true_xor, Bool.not_true, Bool.not_false, if_true, if_false, decide_true, decide_false]
  refine sl_tup ?_
  rw [cut_toI t10, ← List.map_take]
  have smt : ∀ (n : Nat), ∀ i ∈ row.take n, Sm i := fun n i hi => (hrow i (List.mem_of_mem_take hi)).sm
  have smd : ∀ (n : Nat), ∀ i ∈ row.drop n, Sm i := fun n i hi => (hrow i (List.mem_of_mem_drop hi)).sm
  have big : ∀ {n : Nat}, n ≤ 700 → n ≤ sizeLine := fun h => Nat.le_trans h (by decide)
  have lt : ∀ n : Nat, (row.take n).length ≤ 200 := fun n => by rw [List.length_take]; omega
  have ld : ∀ n : Nat, (row.drop n).length ≤ 200 := fun n => by rw [List.length_drop]; omega
  have lt' := lt t1.toNat
  have ld' := ld t1.toNat
  have ld'' := ld (t1 + 1).toNat
  refine ⟨by decide, add_tup (by rw [List.length_map]; exact big (by simp only [List.length_cons, List.length_nil]; omega)) (sl_tup ?_)⟩
  rw [cut_fromI t10, ← List.map_drop]
  refine add_tup (by rw [List.length_append, List.length_map, List.length_map]; exact big (by simp only [List.length_cons, List.length_nil]; omega)) (sl_tup ?_)
  rw [cut_toI t10, ← List.map_take]
  refine ⟨by decide, add_tup (by rw [List.length_map]; exact big (by simp only [List.length_cons, List.length_nil]; omega)) (add_int ?_)⟩
  simp only [↓rSeq, ↓rAsg, ↓gN, ↓rRet, ↓rRetN, ↓rIf, ↓rBin, ↓rUn, ↓rB, ↓rChain, ↓rC, ↓rVar_zero, ↓rVar_succ, ↓rSkip, ↓rDrop, ↓rCons, ↓rNil, ↓rTup, ↓rLst, ↓rCallB, ↓rAndV, ↓rOrV, ↓rNotV, ↓rNot, ↓rAnd, ↓rOr, ↓rIfE, ↓rBm, ↓rBm0, ↓rSl, ↓oNone, ↓oSome, ↓gIx, ↓gTup', ↓gCons', ↓gNil', ↓rCall, ↓rPar, ↓rNever, ↓rBreak, ↓rCont, ↓i2, ↓i20, ↓b20, ↓rYes, wipeE, ↓negD, ↓endOf, ↓DL.envOf, List.map_cons, List.map_nil, List.cons_append, List.nil_append, List.length_cons, List.length_nil, List.replicate, List.getElem?_cons_zero, List.getElem?_cons_succ, List.set_cons_zero, List.set_cons_succ, Nat.zero_add, Nat.reduceAdd, Nat.reduceSub, ↓reduceIte, Bool.false_eq_true, Bool.xor_false, Bool.false_xor, Bool.true_xor, Bool.not_true, Bool.not_false, if_true, if_false, decide_true, decide_false]
  refine sl_tup ?_
  rw [cut_fromI (by omega), ← List.map_drop]
  refine add_tup (by rw [List.length_append, List.length_map, List.length_map]; exact big (by simp only [List.length_cons, List.length_nil]; omega)) (sl_tup ?_)
  rw [cut_toI t10, ← List.map_take]
  refine add_int ?_
  simp only [↓rSeq, ↓rAsg, ↓gN, ↓rRet, ↓rRetN, ↓rIf, ↓rBin, ↓rUn, ↓rB, ↓rChain, ↓rC, ↓rVar_zero, ↓rVar_succ, ↓rSkip, ↓rDrop, ↓rCons, ↓rNil, ↓rTup, ↓rLst, ↓rCallB, ↓rAndV, ↓rOrV, ↓rNotV, ↓rNot, ↓rAnd, ↓rOr, ↓rIfE, ↓rBm, ↓rBm0, ↓rSl, ↓oNone, ↓oSome, ↓gIx, ↓gTup', ↓gCons', ↓gNil', ↓rCall, ↓rPar, ↓rNever, ↓rBreak, ↓rCont, ↓i2, ↓i20, ↓b20, ↓rYes, wipeE, ↓negD, ↓endOf, ↓DL.envOf, List.map_cons, List.map_nil, List.cons_append, List.nil_append, List.length_cons, List.length_nil, List.replicate, List.getElem?_cons_zero, List.getElem?_cons_succ, List.set_cons_zero, List.set_cons_succ, Nat.zero_add, Nat.reduceAdd, Nat.reduceSub, ↓reduceIte, Bool.false_eq_true, Bool.xor_false, Bool.false_xor, Bool.true_xor, Bool.not_true, Bool.not_false, if_true, if_false, decide_true, decide_false]
  refine sl_tup ?_
  rw [cut_fromI (by omega), ← List.map_drop]
  refine add_tup (by rw [List.length_map, List.length_map]; exact big (by omega)) (list_at seq_tup fun p6 hp6 => ⟨by decide, fun p7 hp7 => ?_⟩)
  rw [← List.map_append]
  have hpa6 := x5.ne hp6
  have x7 := (x5.new (o := .lst (row.map D.int)) hp6).new (o := .lst [.tup ((row.take t1.toNat).map D.int ++ [odd] ++ (row.drop t1.toNat).map D.int), .tup ((row.take t1.toNat).map D.int ++ [odd] ++ (row.drop (t1 + 1).toNat).map D.int), tupI (row.take t1.toNat ++ row.drop (t1 + 1).toNat), odd, .ref p6]) hp7
  have k7 : Keep a S5 ((S5.upd p6 (.lst (row.map D.int))).upd p7 (.lst [.tup ((row.take t1.toNat).map D.int ++ [odd] ++ (row.drop t1.toNat).map D.int), .tup ((row.take t1.toNat).map D.int ++ [odd] ++ (row.drop (t1 + 1).toNat).map D.int), tupI (row.take t1.toNat ++ row.drop (t1 + 1).toNat), odd, .ref p6])) := fun c o n e => old_new hp7 (old_new hp6 e)
  have g7 : ∀ d ∈ [D.tup ((row.take t1.toNat).map D.int ++ [odd] ++ (row.drop t1.toNat).map D.int), .tup ((row.take t1.toNat).map D.int ++ [odd] ++ (row.drop (t1 + 1).toNat).map D.int), tupI (row.take t1.toNat ++ row.drop (t1 + 1).toNat), odd, .ref p6], GD a ((S5.upd p6 (.lst (row.map D.int))).upd p7 (.lst [.tup ((row.take t1.toNat).map D.int ++ [odd] ++ (row.drop t1.toNat).map D.int), .tup ((row.take t1.toNat).map D.int ++ [odd] ++ (row.drop (t1 + 1).toNat).map D.int), tupI (row.take t1.toNat ++ row.drop (t1 + 1).toNat), odd, .ref p6])) d := by
    have g5' := g5.mono k7
    have l6 : ((S5.upd p6 (.lst (row.map D.int))).upd p7 (.lst [.tup ((row.take t1.toNat).map D.int ++ [odd] ++ (row.drop t1.toNat).map D.int), .tup ((row.take t1.toNat).map D.int ++ [odd] ++ (row.drop (t1 + 1).toNat).map D.int), tupI (row.take t1.toNat ++ row.drop (t1 + 1).toNat), odd, .ref p6])) p6 = some (.lst (row.map D.int)) := old_new hp7 Sto.upd_same
    intro d hd
    simp only [List.mem_cons, List.not_mem_nil, or_false] at hd
    rcases hd with rfl | rfl | rfl | rfl | rfl
    · exact .mix (smt _) (smd _) g5' (by omega)
    · exact .mix (smt _) (smd _) g5' (by omega)
    · exact .il (fun i hi => (List.mem_append.mp hi).elim (smt _ i) (smd _ i)) (by rw [List.length_append]; omega)
    · exact .odd g5'
    · exact .lst hpa6 l6 (fun i hi => (hrow i hi).sm) (by omega)
  have h7 : ((S5.upd p6 (.lst (row.map D.int))).upd p7 (.lst [.tup ((row.take t1.toNat).map D.int ++ [odd] ++ (row.drop t1.toNat).map D.int), .tup ((row.take t1.toNat).map D.int ++ [odd] ++ (row.drop (t1 + 1).toNat).map D.int), tupI (row.take t1.toNat ++ row.drop (t1 + 1).toNat), odd, .ref p6])) p7 = some (.lst [.tup ((row.take t1.toNat).map D.int ++ [odd] ++ (row.drop t1.toNat).map D.int), .tup ((row.take t1.toNat).map D.int ++ [odd] ++ (row.drop (t1 + 1).toNat).map D.int), tupI (row.take t1.toNat ++ row.drop (t1 + 1).toNat), odd, .ref p6]) := Sto.upd_same
  have hl7 : [D.tup ((row.take t1.toNat).map D.int ++ [odd] ++ (row.drop t1.toNat).map D.int), .tup ((row.take t1.toNat).map D.int ++ [odd] ++ (row.drop (t1 + 1).toNat).map D.int), tupI (row.take t1.toNat ++ row.drop (t1 + 1).toNat), odd, .ref p6].length = 5 := rfl
  revert x7 g7 h7 hl7
  generalize ((S5.upd p6 (.lst (row.map D.int))).upd p7 (.lst [.tup ((row.take t1.toNat).map D.int ++ [odd] ++ (row.drop t1.toNat).map D.int), .tup ((row.take t1.toNat).map D.int ++ [odd] ++ (row.drop (t1 + 1).toNat).map D.int), tupI (row.take t1.toNat ++ row.drop (t1 + 1).toNat), odd, .ref p6])) = S7
  generalize [D.tup ((row.take t1.toNat).map D.int ++ [odd] ++ (row.drop t1.toNat).map D.int), .tup ((row.take t1.toNat).map D.int ++ [odd] ++ (row.drop (t1 + 1).toNat).map D.int), tupI (row.take t1.toNat ++ row.drop (t1 + 1).toNat), odd, .ref p6] = some4
  intro x7 g7 h7 hl7
  clear k7 hp6 hp7 g5 x4 x2
  subst hN
  refine seq_gen fun N hN => ?_
  simp only [↓rSeq, ↓rAsg, ↓gN, ↓rRet, ↓rRetN, ↓rIf, ↓rBin, ↓rUn, ↓rB, ↓rChain, ↓rC, ↓rVar_zero, ↓rVar_succ, ↓rSkip, ↓rDrop, ↓rCons, ↓rNil, ↓rTup, ↓rLst, ↓rCallB, ↓rAndV, ↓rOrV, ↓rNotV, ↓rNot, ↓rAnd, ↓rOr, ↓rIfE, ↓rBm, ↓rBm0, ↓rSl, ↓oNone, ↓oSome, ↓gIx, ↓gTup', ↓gCons', ↓gNil', ↓rCall, ↓rPar, ↓rNever, ↓rBreak, ↓rCont, ↓i2, ↓i20, ↓b20, ↓rYes, wipeE, ↓negD, ↓endOf, ↓DL.envOf, List.map_cons, List.map_nil, List.cons_append, List.nil_append, List.length_cons, List.length_nil, List.replicate, List.getElem?_cons_zero, List.getElem?_cons_succ, List.set_cons_zero, List.set_cons_succ, Nat.zero_add, Nat.reduceAdd, Nat.reduceSub, ↓reduceIte, Bool.false_eq_true, Bool.xor_false, Bool.false_xor, Bool.true_xor, Bool.not_true, Bool.not_false, if_true, if_false, decide_true, decide_false]
  unfold rRevT
  simp only [↓rSeq, ↓rAsg, ↓gN, ↓rRet, ↓rRetN, ↓rIf, ↓rBin, ↓rUn, ↓rB, ↓rChain, ↓rC, ↓rVar_zero, ↓rVar_succ, ↓rSkip, ↓rDrop, ↓rCons, ↓rNil, ↓rTup, ↓rLst, ↓rCallB, ↓rAndV, ↓rOrV, ↓rNotV, ↓rNot, ↓rAnd, ↓rOr, ↓rIfE, ↓rBm, ↓rBm0, ↓rSl, ↓oNone, ↓oSome, ↓gIx, ↓gTup', ↓gCons', ↓gNil', ↓rCall, ↓rPar, ↓rNever, ↓rBreak, ↓rCont, ↓i2, ↓i20, ↓b20, ↓rYes, wipeE, ↓negD, ↓endOf, ↓DL.envOf, List.map_cons, List.map_nil, List.cons_append, List.nil_append, List.length_cons, List.length_nil, List.replicate, List.getElem?_cons_zero, List.getElem?_cons_succ, List.set_cons_zero, List.set_cons_succ, Nat.zero_add, Nat.reduceAdd, Nat.reduceSub, ↓reduceIte, Bool.false_eq_true, Bool.xor_false, Bool.false_xor, Bool.true_xor, Bool.not_true, Bool.not_false, if_true, if_false, decide_true, decide_false]
  refine sl_tup ?_
  rw [cut_toI (by decide), ← List.map_take, ← hr1]
  refine add_tup (by rw [List.length_map, List.length_map]; exact big (by omega)) ⟨by decide, ?_⟩
  rw [← List.map_append, ← List.map_reverse]
  unfold rDnew
  intro pd2 hpd2
  refine ⟨rfl, ?_⟩
  have x8 := x7.new (o := .ho (.dK [])) hpd2
  have hpda := x7.ne hpd2
  have h8 := old_new (o := .ho (.dK [])) hpd2 h7
  have g8 : ∀ d ∈ some4, GD a (S7.upd pd2 (.ho (.dK []))) d := fun d hd => (g7 d hd).mono (keep_new hpd2)
  have hd8 : (S7.upd pd2 (.ho (.dK []))) pd2 = some (.ho (.dK [])) := Sto.upd_same
  revert x8 h8 g8 hd8
  generalize S7.upd pd2 (.ho (.dK [])) = S8
  intro x8 h8 g8 hd8
  clear hpd2
  refine comp_map (xs := row.map D.int) (G := fun _ => True) (fun d => match d with | .int i => .str (Str.ofString (toString i)) | _ => .non) (fun K h => by unfold iSeq; simp only [↓rSeq, ↓rAsg, ↓gN, ↓rRet, ↓rRetN, ↓rIf, ↓rBin, ↓rUn, ↓rB, ↓rChain, ↓rC, ↓rVar_zero, ↓rVar_succ, ↓rSkip, ↓rDrop, ↓rCons, ↓rNil, ↓rTup, ↓rLst, ↓rCallB, ↓rAndV, ↓rOrV, ↓rNotV, ↓rNot, ↓rAnd, ↓rOr, ↓rIfE, ↓rBm, ↓rBm0, ↓rSl, ↓oNone, ↓oSome, ↓gIx, ↓gTup', ↓gCons', ↓gNil', ↓rCall, ↓rPar, ↓rNever, ↓rBreak, ↓rCont, ↓i2, ↓i20, ↓b20, ↓rYes, wipeE, ↓negD, ↓endOf, ↓DL.envOf, List.map_cons, List.map_nil, List.cons_append, List.nil_append, List.length_cons, List.length_nil, List.replicate, List.getElem?_cons_zero, List.getElem?_cons_succ, List.set_cons_zero, List.set_cons_succ, Nat.zero_add, Nat.reduceAdd, Nat.reduceSub, ↓reduceIte, Bool.false_eq_true, Bool.xor_false, Bool.false_xor, Bool.true_xor, Bool.not_true, Bool.not_false, if_true, if_false, decide_true, decide_false]; exact h) trivial (by rw [List.length_map]; exact big (by omega)) (fun y hy kt h => ?_) fun p9 hp9 => ?_
  · obtain ⟨n, hn, rfl⟩ := mem_ints hy
    simp only [↓rSeq, ↓rAsg, ↓gN, ↓rRet, ↓rRetN, ↓rIf, ↓rBin, ↓rUn, ↓rB, ↓rChain, ↓rC, ↓rVar_zero, ↓rVar_succ, ↓rSkip, ↓rDrop, ↓rCons, ↓rNil, ↓rTup, ↓rLst, ↓rCallB, ↓rAndV, ↓rOrV, ↓rNotV, ↓rNot, ↓rAnd, ↓rOr, ↓rIfE, ↓rBm, ↓rBm0, ↓rSl, ↓oNone, ↓oSome, ↓gIx, ↓gTup', ↓gCons', ↓gNil', ↓rCall, ↓rPar, ↓rNever, ↓rBreak, ↓rCont, ↓i2, ↓i20, ↓b20, ↓rYes, wipeE, ↓negD, ↓endOf, ↓DL.envOf, List.map_cons, List.map_nil, List.cons_append, List.nil_append, List.length_cons, List.length_nil, List.replicate, List.getElem?_cons_zero, List.getElem?_cons_succ, List.set_cons_zero, List.set_cons_succ, Nat.zero_add, Nat.reduceAdd, Nat.reduceSub, ↓reduceIte, Bool.false_eq_true, Bool.xor_false, Bool.false_xor, Bool.true_xor, Bool.not_true, Bool.not_false, if_true, if_false, decide_true, decide_false]
    exact str_at (hrow n hn).sm h
  have em : (row.map D.int).map (fun d => match d with | .int i => D.str (Str.ofString (toString i)) | _ => .non) = (row.map fun i => Str.ofString (toString i)).map D.str := by
    rw [List.map_map, List.map_map]; rfl
  rw [em]
  have jt : ∀ y ∈ row.map (fun i => Str.ofString (toString i)), y.length ≤ 22 := fun y hy => by
    obtain ⟨i, hi, rfl⟩ := List.mem_map.mp hy
    exact txt_sm (hrow i hi).sm
  have jx : ∀ y ∈ row.map (fun i => Str.ofString (toString i)), Tx y := fun y hy => by
    obtain ⟨i, hi, rfl⟩ := List.mem_map.mp hy
    exact Tx.of _
  have jl : (row.map fun i => Str.ofString (toString i)).length ≤ 200 := by rw [List.length_map]; exact hlr
  revert jt jx jl
  generalize (row.map fun i => Str.ofString (toString i)) = ys
  intro jt jx jl
  have js := sum_txt jt
  have e1 : (Str.ofString " ").length = 1 := by decide +kernel
  have jj : (ys.map (·.length)).sum + ys.length * (Str.ofString " ").length ≤ 5000 := by rw [e1]; omega
  have jw := Nat.le_trans (joinLen (Str.ofString " ") ys) jj
  have jtx := Tx.join (Tx.of " ") jx
  refine ⟨ys, seq_ref Sto.upd_same, Nat.le_trans jj (by decide), by decide, by decide, fun p10 hp10 => ?_⟩
  have x9 := x8.new (o := .lst (ys.map D.str)) hp9
  have h9 := old_new (o := .lst (ys.map D.str)) hp9 h8
  have g9 : ∀ d ∈ some4, GD a (S8.upd p9 (.lst (ys.map D.str))) d := fun d hd => (g8 d hd).mono (keep_new hp9)
  have hd9 := old_new (o := .lst (ys.map D.str)) hp9 hd8
  revert x9 h9 g9 hd9 hp10
  generalize S8.upd p9 (.lst (ys.map D.str)) = S9
  intro hp10 x9 h9 g9 hd9
  generalize Txt.join (Str.ofString " ") ys = tx at jw jtx ⊢
  obtain ⟨L, hL⟩ : ∃ L, L = [tupI row.reverse, tupI (row ++ r1), .tup [tupI row], .non, .ref pd2, .str (Str.ofString ""), .str tx, .tup []] := ⟨_, rfl⟩
  have hLl : L.length = 8 := by rw [hL]; rfl
  have gL : ∀ d ∈ L, GD a S9 d := by
    intro d hd
    rw [hL] at hd
    simp only [List.mem_cons, List.not_mem_nil, or_false] at hd
    rcases hd with rfl | rfl | rfl | rfl | rfl | rfl | rfl | rfl
    · exact .il (fun i hi => (hrow i (List.mem_reverse.mp hi)).sm) (by rw [List.length_reverse]; omega)
    · exact .il (fun i hi => (List.mem_append.mp hi).elim (fun z => (hrow i z).sm) fun z => (hrow i (ht i z)).sm) (by rw [List.length_append]; omega)
    · exact .tt (fun i hi => (hrow i hi).sm) (by omega)
    · exact .odd .non
    · exact .odd (.dc hpda hd9)
    · exact .odd (.str (Tx.of "") (by decide +kernel))
    · exact .odd (.str jtx jw)
    · exact .odd .nil
  rw [← hL]
  refine add_ref (old_new hp10 h9) Sto.upd_same (by rw [hl7, hLl]; decide) fun p11 hp11 => ?_
  have x11 := (x9.new (o := .lst L) hp10).new (o := .lst (some4 ++ L)) hp11
  have g11 : ∀ d ∈ some4 ++ L, GD a ((S9.upd p10 (.lst L)).upd p11 (.lst (some4 ++ L))) d := fun d hd => by
    have k : Keep a S9 ((S9.upd p10 (.lst L)).upd p11 (.lst (some4 ++ L))) := fun c o n e => old_new hp11 (old_new hp10 e)
    rcases List.mem_append.mp hd with z | z
    · exact (g9 d z).mono k
    · exact (gL d z).mono k
  have h11 : ((S9.upd p10 (.lst L)).upd p11 (.lst (some4 ++ L))) p11 = some (.lst (some4 ++ L)) := Sto.upd_same
  have hl11 : (some4 ++ L).length = 13 := by rw [List.length_append, hl7, hLl]
  revert x11 g11 h11 hl11
  generalize ((S9.upd p10 (.lst L)).upd p11 (.lst (some4 ++ L))) = S11
  generalize some4 ++ L = some5
  intro x11 g11 h11 hl11
  clear x9 h9 g9 hd9 hp10 hp11 gL hL hLl L x8 h8 g8 hd8 hp9 x7 g7 h7 hl7
  subst hN
  refine seq_gen fun N hN => ?_
  simp only [↓rSeq, ↓rAsg, ↓gN, ↓rRet, ↓rRetN, ↓rIf, ↓rBin, ↓rUn, ↓rB, ↓rChain, ↓rC, ↓rVar_zero, ↓rVar_succ, ↓rSkip, ↓rDrop, ↓rCons, ↓rNil, ↓rTup, ↓rLst, ↓rCallB, ↓rAndV, ↓rOrV, ↓rNotV, ↓rNot, ↓rAnd, ↓rOr, ↓rIfE, ↓rBm, ↓rBm0, ↓rSl, ↓oNone, ↓oSome, ↓gIx, ↓gTup', ↓gCons', ↓gNil', ↓rCall, ↓rPar, ↓rNever, ↓rBreak, ↓rCont, ↓i2, ↓i20, ↓b20, ↓rYes, wipeE, ↓negD, ↓endOf, ↓DL.envOf, List.map_cons, List.map_nil, List.cons_append, List.nil_append, List.length_cons, List.length_nil, List.replicate, List.getElem?_cons_zero, List.getElem?_cons_succ, List.set_cons_zero, List.set_cons_succ, Nat.zero_add, Nat.reduceAdd, Nat.reduceSub, ↓reduceIte, Bool.false_eq_true, Bool.xor_false, Bool.false_xor, Bool.true_xor, Bool.not_true, Bool.not_false, if_true, if_false, decide_true, decide_false]
  unfold rTrg
  simp only [↓rSeq, ↓rAsg, ↓gN, ↓rRet, ↓rRetN, ↓rIf, ↓rBin, ↓rUn, ↓rB, ↓rChain, ↓rC, ↓rVar_zero, ↓rVar_succ, ↓rSkip, ↓rDrop, ↓rCons, ↓rNil, ↓rTup, ↓rLst, ↓rCallB, ↓rAndV, ↓rOrV, ↓rNotV, ↓rNot, ↓rAnd, ↓rOr, ↓rIfE, ↓rBm, ↓rBm0, ↓rSl, ↓oNone, ↓oSome, ↓gIx, ↓gTup', ↓gCons', ↓gNil', ↓rCall, ↓rPar, ↓rNever, ↓rBreak, ↓rCont, ↓i2, ↓i20, ↓b20, ↓rYes, wipeE, ↓negD, ↓endOf, ↓DL.envOf, List.map_cons, List.map_nil, List.cons_append, List.nil_append, List.length_cons, List.length_nil, List.replicate, List.getElem?_cons_zero, List.getElem?_cons_succ, List.set_cons_zero, List.set_cons_succ, Nat.zero_add, Nat.reduceAdd, Nat.reduceSub, ↓reduceIte, Bool.false_eq_true, Bool.xor_false, Bool.false_xor, Bool.true_xor, Bool.not_true, Bool.not_false, if_true, if_false, decide_true, decide_false]
  refine ⟨by decide, by decide, by decide, by decide, by decide, mul_tup (by decide) (by decide) (by decide) (by decide) ⟨by decide, mul_tup (by decide) (by decide) (by decide) (by decide) ⟨by decide, mul_tup (by decide) (by decide) (by decide) (by decide) ⟨by decide, by decide, by decide, fun p12 hp12 => ?_⟩⟩⟩⟩
  have gone : ∀ {S : Sto} (ns : List Int), (∀ i ∈ ns, i.natAbs < 10 ^ 21) → ns.length ≤ 401 → GD a S (.tup (ns.map D.int)) := fun ns h l => .il h l
  obtain ⟨L, hL⟩ : ∃ L, L = [D.tup (rngD 0 (Int.toNat 60)), .tup (rngD 0 (Int.toNat 61)), .tup (List.replicate (Int.toNat 200) [D.int 0]).flatten, .tup (List.replicate (Int.toNat 201) [D.int 0]).flatten, .tup (List.replicate (Int.toNat 300) [D.int 0]).flatten, .tup [.bl true], .tup [.int 0, .bl true]] := ⟨_, rfl⟩
  have hLl : L.length = 7 := by rw [hL]; rfl
  have gL : ∀ d ∈ L, GD a S11 d := by
    intro d hd
    rw [hL] at hd
    simp only [List.mem_cons, List.not_mem_nil, or_false] at hd
    rcases hd with rfl | rfl | rfl | rfl | rfl | rfl | rfl
    · exact gd_rng (by decide)
    · exact gd_rng (by decide)
    · exact gd_rep (by decide)
    · exact gd_rep (by decide)
    · exact gd_rep (by decide)
    · exact .mix (as := []) (bs := []) (fun _ z => nomatch z) (fun _ z => nomatch z) (.bl true) (by decide)
    · exact .mix (as := [0]) (bs := []) (fun i z => by rw [List.mem_singleton.mp z]; unfold Sm; decide) (fun _ z => nomatch z) (.bl true) (by decide)
  rw [← hL]
  refine add_ref (old_new hp12 h11) Sto.upd_same (by rw [hl11, hLl]; decide) fun p13 hp13 => ?_
  have x13 := (x11.new (o := .lst L) hp12).new (o := .lst (some5 ++ L)) hp13
  have g13 : ∀ d ∈ some5 ++ L, GD a ((S11.upd p12 (.lst L)).upd p13 (.lst (some5 ++ L))) d := fun d hd => by
    have k : Keep a S11 ((S11.upd p12 (.lst L)).upd p13 (.lst (some5 ++ L))) := fun c o n e => old_new hp13 (old_new hp12 e)
    rcases List.mem_append.mp hd with z | z
    · exact (g11 d z).mono k
    · exact (gL d z).mono k
  have h13 : ((S11.upd p12 (.lst L)).upd p13 (.lst (some5 ++ L))) p13 = some (.lst (some5 ++ L)) := Sto.upd_same
  have hl13 : (some5 ++ L).length = 20 := by rw [List.length_append, hl11, hLl]
  revert x13 g13 h13 hl13
  generalize ((S11.upd p12 (.lst L)).upd p13 (.lst (some5 ++ L))) = S13
  generalize some5 ++ L = some6
  intro x13 g13 h13 hl13
  clear x11 g11 h11 hl11 hp12 hp13 gL hL hLl L
  subst hN
  refine ret_gen fun R hR => ?_
  simp only [↓rSeq, ↓rAsg, ↓gN, ↓rRet, ↓rRetN, ↓rIf, ↓rBin, ↓rUn, ↓rB, ↓rChain, ↓rC, ↓rVar_zero, ↓rVar_succ, ↓rSkip, ↓rDrop, ↓rCons, ↓rNil, ↓rTup, ↓rLst, ↓rCallB, ↓rAndV, ↓rOrV, ↓rNotV, ↓rNot, ↓rAnd, ↓rOr, ↓rIfE, ↓rBm, ↓rBm0, ↓rSl, ↓oNone, ↓oSome, ↓gIx, ↓gTup', ↓gCons', ↓gNil', ↓rCall, ↓rPar, ↓rNever, ↓rBreak, ↓rCont, ↓i2, ↓i20, ↓b20, ↓rYes, wipeE, ↓negD, ↓endOf, ↓DL.envOf, List.map_cons, List.map_nil, List.cons_append, List.nil_append, List.length_cons, List.length_nil, List.replicate, List.getElem?_cons_zero, List.getElem?_cons_succ, List.set_cons_zero, List.set_cons_succ, Nat.zero_add, Nat.reduceAdd, Nat.reduceSub, ↓reduceIte, Bool.false_eq_true, Bool.xor_false, Bool.false_xor, Bool.true_xor, Bool.not_true, Bool.not_false, if_true, if_false, decide_true, decide_false]
  refine ⟨by decide, by decide, fun p14 hp14 => ⟨by decide, by decide, by decide, by decide, by decide, by decide, by decide, fun p15 hp15 => ?_⟩⟩
  have x14 := x13.new (o := .lst []) hp14
  have hpa14 := x13.ne hp14
  have h14 := old_new (o := .lst []) hp14 h13
  have hn14 : (S13.upd p14 (.lst [])) p14 = some (.lst []) := Sto.upd_same
  have g14 : ∀ d ∈ some6, GD a (S13.upd p14 (.lst [])) d := fun d hd => (g13 d hd).mono (keep_new hp14)
  revert x14 h14 hn14 g14 hp15
  generalize S13.upd p14 (.lst []) = S14
  intro hp15 x14 h14 hn14 g14
  obtain ⟨L, hL⟩ : ∃ L, L = [D.tup [.int 0, .bl false], .tup [.ref p14], .tup [.int 59], .tup [.int 60], .tup [.int (-1)], .tup [.int 3, .int 3], .tup [.int 3, .int 1, .int 3]] := ⟨_, rfl⟩
  have hLl : L.length = 7 := by rw [hL]; rfl
  have gL : ∀ d ∈ L, GD a S14 d := by
    intro d hd
    rw [hL] at hd
    simp only [List.mem_cons, List.not_mem_nil, or_false] at hd
    rcases hd with rfl | rfl | rfl | rfl | rfl | rfl | rfl
    · exact .mix (as := [0]) (bs := []) (fun i z => by rw [List.mem_singleton.mp z]; unfold Sm; decide) (fun _ z => nomatch z) (.bl false) (by decide)
    · exact .mix (as := []) (bs := []) (fun _ z => nomatch z) (fun _ z => nomatch z) (.ls hpa14 hn14) (by decide)
    · exact gone [59] (by decide) (by decide)
    · exact gone [60] (by decide) (by decide)
    · exact gone [-1] (by decide) (by decide)
    · exact gone [3, 3] (by decide) (by decide)
    · exact gone [3, 1, 3] (by decide) (by decide)
  rw [← hL]
  refine add_ref (old_new hp15 h14) Sto.upd_same (by rw [hl13, hLl]; decide) fun p16 hp16 => ?_
  subst hR
  have k16 : Keep a S14 (S14.upd p15 (.lst L)) := keep_new hp15
  refine ⟨_, Sub.refl _, q b5 (some6 ++ L) (S14.upd p15 (.lst L)) p16 hb5 (x14.new hp15) (fun d hd => ?_) (by rw [List.length_append, hl13, hLl]; decide) hp16⟩
  rcases List.mem_append.mp hd with z | z
  · exact (g14 d z).mono k16
  · exact (gL d z).mono k16
theorem ok_are_cars (T : Txt mg) (F_is_car : Callee P w K mg base CX0 2 "is_car" 1 c_is_car) (hdef : DefAt K mg "are_cars" s_are_cars ["value"]) : Callee P w K mg base CX0 3 "are_cars" 1 c_are_cars := by
  refine mkCallee hdef sc_are_cars 1 rfl _ (fun cdv A outer s H E f hr => (have hc : (cxOf CX0 P w K mg base ["value", "item"] "are_cars" (defScope s_are_cars) f cdv A outer s H E).nox.calm = true := rfl; have nd := sc_are_cars.nd; (rs_cons (rs_if (tr_not (tr_val (re_callB cIsi rfl T.g_isinstance (by decide +kernel) (ra_cons (re_var 0) (ra_cons (re_type (n := "tuple") rfl T.g_tuple (by decide +kernel)) ra_nil)))))
    (rs_one (rs_ret re_bl))
    rs_nil)
    (rs_cons (rs_for (is := List.range 50) PassesOwn.never hc (ri_seq (re_var 0)) (rg_name 1 nd (by simp))
    (rs_one (rs_if (TR.w (wr_and (TR.w (wr_or (tr_cmp opNotTy (re_callTy cType rfl T.g_type (by decide +kernel) (ra_cons (re_var 1) ra_nil)) (re_type (n := "int") rfl T.g_int (by decide +kernel)) (nomark _)) (wr_or1 (tr_not (tr_chain opLe opLt re_int (re_var 1) (re_gint rfl T.g_CARS)))))) (wr_and1 (tr_not (tr_val (re_call F_is_car (hr.mono (by decide)) rfl (ra_cons (re_var 1) ra_nil)))))))
    (rs_one (rs_ret re_bl))
    rs_nil)))
    (rs_one (rs_ret re_bl)))))) (fun ds S kk hl hC => ?_) (fun ds S kk ek z => z)
  obtain ⟨x, rfl, hk, q⟩ := hC
  refine seq_gen fun N hN => ?_
  simp only [↓rSeq, ↓rAsg, ↓gN, ↓rRet, ↓rRetN, ↓rIf, ↓rBin, ↓rUn, ↓rB, ↓rChain, ↓rC, ↓rVar_zero, ↓rVar_succ, ↓rSkip, ↓rDrop, ↓rCons, ↓rNil, ↓rTup, ↓rLst, ↓rCallB, ↓rAndV, ↓rOrV, ↓rNotV, ↓rNot, ↓rAnd, ↓rOr, ↓rIfE, ↓rBm, ↓rBm0, ↓rSl, ↓oNone, ↓oSome, ↓gIx, ↓gTup', ↓gCons', ↓gNil', ↓rCall, ↓rPar, ↓rNever, ↓rBreak, ↓rCont, ↓i2, ↓i20, ↓b20, ↓rYes, wipeE, ↓negD, ↓endOf, ↓DL.envOf, List.map_cons, List.map_nil, List.cons_append, List.nil_append, List.length_cons, List.length_nil, List.replicate, List.getElem?_cons_zero, List.getElem?_cons_succ, List.set_cons_zero, List.set_cons_succ, Nat.zero_add, Nat.reduceAdd, Nat.reduceSub, ↓reduceIte, Bool.false_eq_true, Bool.xor_false, Bool.false_xor, Bool.true_xor, Bool.not_true, Bool.not_false, if_true, if_false, decide_true, decide_false]
  refine isi_tup hk.1 ?_
  cases x with
  | tup xs =>
    obtain ⟨hl, hi⟩ := hk.2 xs rfl
    simp only [isTup, Bool.not_true, Bool.false_eq_true, if_false]
    subst hN
    refine seq_gen fun N hN => ?_
    refine for_gen fun B hB => ?_
    unfold rFor iSeq
    simp only [↓rSeq, ↓rAsg, ↓gN, ↓rRet, ↓rRetN, ↓rIf, ↓rBin, ↓rUn, ↓rB, ↓rChain, ↓rC, ↓rVar_zero, ↓rVar_succ, ↓rSkip, ↓rDrop, ↓rCons, ↓rNil, ↓rTup, ↓rLst, ↓rCallB, ↓rAndV, ↓rOrV, ↓rNotV, ↓rNot, ↓rAnd, ↓rOr, ↓rIfE, ↓rBm, ↓rBm0, ↓rSl, ↓oNone, ↓oSome, ↓gIx, ↓gTup', ↓gCons', ↓gNil', ↓rCall, ↓rPar, ↓rNever, ↓rBreak, ↓rCont, ↓i2, ↓i20, ↓b20, ↓rYes, wipeE, ↓negD, ↓endOf, ↓DL.envOf, List.map_cons, List.map_nil, List.cons_append, List.nil_append, List.length_cons, List.length_nil, List.replicate, List.getElem?_cons_zero, List.getElem?_cons_succ, List.set_cons_zero, List.set_cons_succ, Nat.zero_add, Nat.reduceAdd, Nat.reduceSub, ↓reduceIte, Bool.false_eq_true, Bool.xor_false, Bool.false_xor, Bool.true_xor, Bool.not_true, Bool.not_false, if_true, if_false, decide_true, decide_false]
    refine ⟨fun i env S' => S' = S ∧ (∃ o, env = [some (.tup xs), o]) ∧ (xs.take i).all isCar = true, ⟨rfl, ⟨none, rfl⟩, rfl⟩, fun _ _ _ _ _ => trivial, ?_, ?_⟩
    · rintro i y env S' hx ⟨rfl, ⟨o, rfl⟩, al⟩
      obtain ⟨hi', rfl⟩ := List.getElem?_eq_some_iff.mp hx
      have hy := hi xs[i] (List.getElem_mem hi')
      have tk : (xs.take (i + 1)).all isCar = isCar xs[i] := by
        rw [List.take_succ, hx, List.all_append, al]
        simp
      have far : isCar xs[i] = false → carsIn (.tup xs) = false := fun e => by
        simp only [carsIn]
        exact List.all_eq_false.mpr ⟨xs[i], List.getElem_mem hi', by rw [e]; decide⟩
      subst hB
      simp only [↓rSeq, ↓rAsg, ↓gN, ↓rRet, ↓rRetN, ↓rIf, ↓rBin, ↓rUn, ↓rB, ↓rChain, ↓rC, ↓rVar_zero, ↓rVar_succ, ↓rSkip, ↓rDrop, ↓rCons, ↓rNil, ↓rTup, ↓rLst, ↓rCallB, ↓rAndV, ↓rOrV, ↓rNotV, ↓rNot, ↓rAnd, ↓rOr, ↓rIfE, ↓rBm, ↓rBm0, ↓rSl, ↓oNone, ↓oSome, ↓gIx, ↓gTup', ↓gCons', ↓gNil', ↓rCall, ↓rPar, ↓rNever, ↓rBreak, ↓rCont, ↓i2, ↓i20, ↓b20, ↓rYes, wipeE, ↓negD, ↓endOf, ↓DL.envOf, List.map_cons, List.map_nil, List.cons_append, List.nil_append, List.length_cons, List.length_nil, List.replicate, List.getElem?_cons_zero, List.getElem?_cons_succ, List.set_cons_zero, List.set_cons_succ, Nat.zero_add, Nat.reduceAdd, Nat.reduceSub, ↓reduceIte, Bool.false_eq_true, Bool.xor_false, Bool.false_xor, Bool.true_xor, Bool.not_true, Bool.not_false, if_true, if_false, decide_true, decide_false]
      generalize xs[i] = y at hy tk far
      obtain ⟨t, ht⟩ := Option.isSome_iff_exists.mp hy
      refine ⟨t, ht, ?_⟩
      have goOn : isCar y = true → ∃ S3, DL.Sub S3 S' ∧ S3 = S' ∧ (∃ o, [some (D.tup xs), some y] = [some (.tup xs), o]) ∧ (xs.take (i + 1)).all isCar = true := fun e => ⟨S', Sub.refl _, rfl, ⟨_, rfl⟩, by rw [tk, e]⟩
      by_cases e : t = "int"
      · subst e
        obtain ⟨z, rfl⟩ := kind_int ht
        simp only [isTD, decide_true, Bool.xor_true, Bool.not_true]
        simp only [↓rSeq, ↓rAsg, ↓gN, ↓rRet, ↓rRetN, ↓rIf, ↓rBin, ↓rUn, ↓rB, ↓rChain, ↓rC, ↓rVar_zero, ↓rVar_succ, ↓rSkip, ↓rDrop, ↓rCons, ↓rNil, ↓rTup, ↓rLst, ↓rCallB, ↓rAndV, ↓rOrV, ↓rNotV, ↓rNot, ↓rAnd, ↓rOr, ↓rIfE, ↓rBm, ↓rBm0, ↓rSl, ↓oNone, ↓oSome, ↓gIx, ↓gTup', ↓gCons', ↓gNil', ↓rCall, ↓rPar, ↓rNever, ↓rBreak, ↓rCont, ↓i2, ↓i20, ↓b20, ↓rYes, wipeE, ↓negD, ↓endOf, ↓DL.envOf, List.map_cons, List.map_nil, List.cons_append, List.nil_append, List.length_cons, List.length_nil, List.replicate, List.getElem?_cons_zero, List.getElem?_cons_succ, List.set_cons_zero, List.set_cons_succ, Nat.zero_add, Nat.reduceAdd, Nat.reduceSub, ↓reduceIte, Bool.false_eq_true, Bool.xor_false, Bool.false_xor, Bool.true_xor, Bool.not_true, Bool.not_false, if_true, if_false, decide_true, decide_false]
        by_cases z0 : 0 ≤ z
        · simp only [z0, decide_true]
          by_cases z1 : z < 60
          · simp only [z1, decide_true, Bool.not_true, Bool.false_eq_true, if_false]
            exact goOn (by simp [isCar, z0, z1])
          · simp only [z1, decide_false, Bool.not_false, if_true]
            refine ⟨trivial, _, rfl, hy, ?_⟩
            have f : isCar (.int z) = false := by simp [isCar, z1]
            rw [far f] at q
            simp only [f, Bool.not_false, if_true]
            exact ⟨S', Sub.refl _, q⟩
        · simp only [z0, decide_false]
          refine ⟨trivial, _, rfl, hy, ?_⟩
          have f : isCar (.int z) = false := by simp [isCar, z0]
          rw [far f] at q
          simp only [f, Bool.not_false, if_true]
          exact ⟨S', Sub.refl _, q⟩
      · simp only [isTD, e, decide_false, Bool.xor_false, Bool.true_xor, Bool.not_false]
        simp only [↓rSeq, ↓rAsg, ↓gN, ↓rRet, ↓rRetN, ↓rIf, ↓rBin, ↓rUn, ↓rB, ↓rChain, ↓rC, ↓rVar_zero, ↓rVar_succ, ↓rSkip, ↓rDrop, ↓rCons, ↓rNil, ↓rTup, ↓rLst, ↓rCallB, ↓rAndV, ↓rOrV, ↓rNotV, ↓rNot, ↓rAnd, ↓rOr, ↓rIfE, ↓rBm, ↓rBm0, ↓rSl, ↓oNone, ↓oSome, ↓gIx, ↓gTup', ↓gCons', ↓gNil', ↓rCall, ↓rPar, ↓rNever, ↓rBreak, ↓rCont, ↓i2, ↓i20, ↓b20, ↓rYes, wipeE, ↓negD, ↓endOf, ↓DL.envOf, List.map_cons, List.map_nil, List.cons_append, List.nil_append, List.length_cons, List.length_nil, List.replicate, List.getElem?_cons_zero, List.getElem?_cons_succ, List.set_cons_zero, List.set_cons_succ, Nat.zero_add, Nat.reduceAdd, Nat.reduceSub, ↓reduceIte, Bool.false_eq_true, Bool.xor_false, Bool.false_xor, Bool.true_xor, Bool.not_true, Bool.not_false, if_true, if_false, decide_true, decide_false]
        refine ⟨trivial, _, rfl, hy, ?_⟩
        cases f : isCar y with
        | true =>
          simp only [Bool.not_true, Bool.false_eq_true, if_false]
          exact goOn f
        | false =>
          rw [far f] at q
          simp only [Bool.not_false, if_true]
          exact ⟨S', Sub.refl _, q⟩
    · rintro env S' ⟨rfl, ⟨o, rfl⟩, al⟩
      subst hN
      simp only [↓rSeq, ↓rAsg, ↓gN, ↓rRet, ↓rRetN, ↓rIf, ↓rBin, ↓rUn, ↓rB, ↓rChain, ↓rC, ↓rVar_zero, ↓rVar_succ, ↓rSkip, ↓rDrop, ↓rCons, ↓rNil, ↓rTup, ↓rLst, ↓rCallB, ↓rAndV, ↓rOrV, ↓rNotV, ↓rNot, ↓rAnd, ↓rOr, ↓rIfE, ↓rBm, ↓rBm0, ↓rSl, ↓oNone, ↓oSome, ↓gIx, ↓gTup', ↓gCons', ↓gNil', ↓rCall, ↓rPar, ↓rNever, ↓rBreak, ↓rCont, ↓i2, ↓i20, ↓b20, ↓rYes, wipeE, ↓negD, ↓endOf, ↓DL.envOf, List.map_cons, List.map_nil, List.cons_append, List.nil_append, List.length_cons, List.length_nil, List.replicate, List.getElem?_cons_zero, List.getElem?_cons_succ, List.set_cons_zero, List.set_cons_succ, Nat.zero_add, Nat.reduceAdd, Nat.reduceSub, ↓reduceIte, Bool.false_eq_true, Bool.xor_false, Bool.false_xor, Bool.true_xor, Bool.not_true, Bool.not_false, if_true, if_false, decide_true, decide_false]
      rw [List.take_length] at al
      have : carsIn (.tup xs) = true := al
      rw [this] at q
      exact ⟨S', Sub.refl _, q⟩
  | _ => exact ⟨S, Sub.refl S, q⟩
theorem ok_check_car (T : Txt mg) (F_is_car : Callee P w K mg base CX0 2 "is_car" 1 c_is_car) (hdef : DefAt K mg "check_car" s_check_car ["value"]) : Callee P w K mg base CX0 3 "check_car" 1 c_check_car := by
  refine mkCallee hdef sc_check_car 1 rfl _ (fun cdv A outer s H E f hr => (have hc : (cxOf CX0 P w K mg base ["value"] "check_car" (defScope s_check_car) f cdv A outer s H E).nox.calm = true := rfl; have nd := sc_check_car.nd; (rs_one (rs_if (tr_not (tr_val (re_call F_is_car (hr.mono (by decide)) rfl (ra_cons (re_var 0) ra_nil)))) rss_never rs_nil)))) (fun ds S kk hl hC => ?_) (fun ds S kk ek z => z)
  obtain ⟨c, rfl, hn, q⟩ := hC
  simp only [↓rSeq, ↓rAsg, ↓gN, ↓rRet, ↓rRetN, ↓rIf, ↓rBin, ↓rUn, ↓rB, ↓rChain, ↓rC, ↓rVar_zero, ↓rVar_succ, ↓rSkip, ↓rDrop, ↓rCons, ↓rNil, ↓rTup, ↓rLst, ↓rCallB, ↓rAndV, ↓rOrV, ↓rNotV, ↓rNot, ↓rAnd, ↓rOr, ↓rIfE, ↓rBm, ↓rBm0, ↓rSl, ↓oNone, ↓oSome, ↓gIx, ↓gTup', ↓gCons', ↓gNil', ↓rCall, ↓rPar, ↓rNever, ↓rBreak, ↓rCont, ↓i2, ↓i20, ↓b20, ↓rYes, wipeE, ↓negD, ↓endOf, ↓DL.envOf, List.map_cons, List.map_nil, List.cons_append, List.nil_append, List.length_cons, List.length_nil, List.replicate, List.getElem?_cons_zero, List.getElem?_cons_succ, List.set_cons_zero, List.set_cons_succ, Nat.zero_add, Nat.reduceAdd, Nat.reduceSub, ↓reduceIte, Bool.false_eq_true, Bool.xor_false, Bool.false_xor, Bool.true_xor, Bool.not_true, Bool.not_false, if_true, if_false, decide_true, decide_false]
  refine ⟨trivial, .int c, rfl, rfl, ?_⟩
  simp only [isCar_int.mpr hn]
  exact ⟨S, Sub.refl S, q⟩
theorem ok_law_case (T : Txt mg) (F__law_calls : Callee P w K mg base CX0 2 "_law_calls" 3 c_law_calls) (F__law_cars : Callee P w K mg base CX0 2 "_law_cars" 2 c_law_cars) (F__law_lane : Callee P w K mg base CX0 2 "_law_lane" 3 c_law_lane) (F__law_pick : Callee P w K mg base CX0 1 "_law_pick" 2 c_law_pick) (hdef : DefAt K mg "_law_case" s_law_case ["bag", "most", "length"]) : Callee P w K mg base CX0 3 "_law_case" 3 c_law_case := by
  refine mkCallee hdef sc_law_case 3 rfl _ (fun cdv A outer s H E f hr => (have hc : (cxOf CX0 P w K mg base ["bag", "most", "length", "cars", "row"] "_law_case" (defScope s_law_case) f cdv A outer s H E).nox.calm = true := rfl; have nd := sc_law_case.nd; (rs_cons (rs_set 3 nd (re_call F__law_cars (hr.mono (by decide)) rfl (ra_cons (re_var 0) (ra_cons (re_bin opAdd re_int (re_call F__law_pick (hr.mono (by decide)) rfl (ra_cons (re_var 0) (ra_cons (re_var 1) ra_nil)))) ra_nil))))
    (rs_cons (rs_set 4 nd (re_call F__law_calls (hr.mono (by decide)) rfl (ra_cons (re_var 0) (ra_cons (re_var 3) (ra_cons (re_var 2) ra_nil)))))
    (rs_one (rs_ret (re_tup (ra_cons (re_call F__law_lane (hr.mono (by decide)) rfl (ra_cons (re_var 0) (ra_cons (re_var 3) (ra_cons (re_var 4) ra_nil)))) (ra_cons (re_var 4) ra_nil))))))))) (fun ds S kk hl hC => ?_) (fun ds S kk ek z => z)
  obtain ⟨a, m, l, b, rfl, m0, m1, l0, l1, ha, hb, q⟩ := hC
  simp only [↓rSeq, ↓rAsg, ↓gN, ↓rRet, ↓rRetN, ↓rIf, ↓rBin, ↓rUn, ↓rB, ↓rChain, ↓rC, ↓rVar_zero, ↓rVar_succ, ↓rSkip, ↓rDrop, ↓rCons, ↓rNil, ↓rTup, ↓rLst, ↓rCallB, ↓rAndV, ↓rOrV, ↓rNotV, ↓rNot, ↓rAnd, ↓rOr, ↓rIfE, ↓rBm, ↓rBm0, ↓rSl, ↓oNone, ↓oSome, ↓gIx, ↓gTup', ↓gCons', ↓gNil', ↓rCall, ↓rPar, ↓rNever, ↓rBreak, ↓rCont, ↓i2, ↓i20, ↓b20, ↓rYes, wipeE, ↓negD, ↓endOf, ↓DL.envOf, List.map_cons, List.map_nil, List.cons_append, List.nil_append, List.length_cons, List.length_nil, List.replicate, List.getElem?_cons_zero, List.getElem?_cons_succ, List.set_cons_zero, List.set_cons_succ, Nat.zero_add, Nat.reduceAdd, Nat.reduceSub, ↓reduceIte, Bool.false_eq_true, Bool.xor_false, Bool.false_xor, Bool.true_xor, Bool.not_true, Bool.not_false, if_true, if_false, decide_true, decide_false]
  refine ⟨trivial, a, m, b, rfl, m0, ?_, ha, hb, fun t1 b1 t10 t11 hb1 => add_int ?_⟩
  · have : m.natAbs < 2 ^ 64 := by omega
    have := (Nat.log2_lt (n := m.natAbs) (k := 64) (by omega)).mpr this
    omega
  refine ⟨trivial, a, _, b1, rfl, by omega, by omega, Sto.upd_same, hb1, fun b2 ns p hb2 hl2 hns hp => ?_⟩
  rw [Sto.upd_upd]
  have hpa : p ≠ a := fun e => by rw [e, Sto.upd_same] at hp; cases hp
  have hp' : S p = none := by rw [Sto.upd_ne hpa] at hp; exact hp
  have hne : ns ≠ [] := fun e => by rw [e] at hl2; simp at hl2; omega
  have x1 : Ex a S b2 ((S.upd a (.lst b2)).upd p (.lst (ns.map D.int))) := ((Ex.refl ha).upd).mod hp' hpa
  refine ⟨trivial, a, p, l, b2, ns, rfl, l0, l1, x1.bag, hb2, hpa.symm, Sto.upd_same, hne, cars60 hns, fun b3 cs hb3 c1 c2 c3 => ?_⟩
  have x2 := x1.upd (b' := b3)
  have hcs : CallsN cs := ⟨fun n hn => hns.cars n (c3 n hn), c1, by omega⟩
  refine ⟨trivial, a, p, b3, ns, cs, rfl, x2.bag, hb3, hpa.symm, by rw [Sto.upd_ne hpa, Sto.upd_same], hns, hcs, fun b4 ls hb4 hls => ⟨by decide, _, (x2.upd (b' := b4)).sub, q b4 ls cs hb4 hls hcs c2⟩⟩
theorem ok_is_lane (T : Txt mg) (F_are_cars : Callee P w K mg base CX0 3 "are_cars" 1 c_are_cars) (hdef : DefAt K mg "is_lane" s_is_lane ["value"]) : Callee P w K mg base CX0 4 "is_lane" 1 c_is_lane := by
  refine mkCallee hdef sc_is_lane 1 rfl _ (fun cdv A outer s H E f hr => (have hc : (cxOf CX0 P w K mg base ["value"] "is_lane" (defScope s_is_lane) f cdv A outer s H E).nox.calm = true := rfl; have nd := sc_is_lane.nd; (rs_one (rs_ret (re_and (re_call F_are_cars (hr.mono (by decide)) rfl (ra_cons (re_var 0) ra_nil)) (re_one (re_cmp (opEq hr.u64) (re_lenSet rfl T.g_len rfl T.g_set (re_var 0)) (re_callB cLen rfl T.g_len (by decide +kernel) (ra_cons (re_var 0) ra_nil)) (nomark _)))))))) (fun ds S kk hl hC => ?_) (fun ds S kk ek z => z)
  obtain ⟨x, rfl, hk, q⟩ := hC
  simp only [↓rSeq, ↓rAsg, ↓gN, ↓rRet, ↓rRetN, ↓rIf, ↓rBin, ↓rUn, ↓rB, ↓rChain, ↓rC, ↓rVar_zero, ↓rVar_succ, ↓rSkip, ↓rDrop, ↓rCons, ↓rNil, ↓rTup, ↓rLst, ↓rCallB, ↓rAndV, ↓rOrV, ↓rNotV, ↓rNot, ↓rAnd, ↓rOr, ↓rIfE, ↓rBm, ↓rBm0, ↓rSl, ↓oNone, ↓oSome, ↓gIx, ↓gTup', ↓gCons', ↓gNil', ↓rCall, ↓rPar, ↓rNever, ↓rBreak, ↓rCont, ↓i2, ↓i20, ↓b20, ↓rYes, wipeE, ↓negD, ↓endOf, ↓DL.envOf, List.map_cons, List.map_nil, List.cons_append, List.nil_append, List.length_cons, List.length_nil, List.replicate, List.getElem?_cons_zero, List.getElem?_cons_succ, List.set_cons_zero, List.set_cons_succ, Nat.zero_add, Nat.reduceAdd, Nat.reduceSub, ↓reduceIte, Bool.false_eq_true, Bool.xor_false, Bool.false_xor, Bool.true_xor, Bool.not_true, Bool.not_false, if_true, if_false, decide_true, decide_false]
  refine ⟨trivial, x, rfl, hk, ?_⟩
  cases x with
  | tup xs =>
    obtain ⟨hl, hi⟩ := hk.2 xs rfl
    cases h : xs.all isCar with
    | false =>
      simp only [isLaneD, carsIn, h, Bool.false_and] at q ⊢
      exact ⟨S, Sub.refl S, q⟩
    | true =>
      simp only [isLaneD, carsIn, h, Bool.true_and] at q ⊢
      have hx := map_intsOf xs h
      refine ⟨intsOf xs, by rw [← hx], ?_, fun L hL hm => ?_⟩
      · have := congrArg List.length hx
        rw [List.length_map] at this
        omega
      · refine len_at seq_tup ?_
        show ∃ S', DL.Sub S' S ∧ kk (.bl (false ^^ decide ((L.length : Int) = (xs.length : Int)))) S'
        refine ⟨S, Sub.refl S, ?_⟩
        have e : xs.length = (intsOf xs).length := by
          have := congrArg List.length hx
          rw [List.length_map] at this
          exact this
        rw [e, Bool.false_xor, nodup_len hL hm]
        exact q
  | _ => exact ⟨S, Sub.refl S, q⟩
theorem ok_are_calls (T : Txt mg) (F_are_cars : Callee P w K mg base CX0 3 "are_cars" 1 c_are_cars) (hdef : DefAt K mg "are_calls" s_are_calls ["value"]) : Callee P w K mg base CX0 4 "are_calls" 1 c_are_calls := by
  refine mkCallee hdef sc_are_calls 1 rfl _ (fun cdv A outer s H E f hr => (have hc : (cxOf CX0 P w K mg base ["value"] "are_calls" (defScope s_are_calls) f cdv A outer s H E).nox.calm = true := rfl; have nd := sc_are_calls.nd; (rs_one (rs_ret (re_and (re_call F_are_cars (hr.mono (by decide)) rfl (ra_cons (re_var 0) ra_nil)) (re_one (re_chain opLe opLe re_int (re_callB cLen rfl T.g_len (by decide +kernel) (ra_cons (re_var 0) ra_nil)) (re_gint rfl T.g_MOST_CALLS)))))))) (fun ds S kk hl hC => ?_) (fun ds S kk ek z => z)
  obtain ⟨x, rfl, hk, q⟩ := hC
  simp only [↓rSeq, ↓rAsg, ↓gN, ↓rRet, ↓rRetN, ↓rIf, ↓rBin, ↓rUn, ↓rB, ↓rChain, ↓rC, ↓rVar_zero, ↓rVar_succ, ↓rSkip, ↓rDrop, ↓rCons, ↓rNil, ↓rTup, ↓rLst, ↓rCallB, ↓rAndV, ↓rOrV, ↓rNotV, ↓rNot, ↓rAnd, ↓rOr, ↓rIfE, ↓rBm, ↓rBm0, ↓rSl, ↓oNone, ↓oSome, ↓gIx, ↓gTup', ↓gCons', ↓gNil', ↓rCall, ↓rPar, ↓rNever, ↓rBreak, ↓rCont, ↓i2, ↓i20, ↓b20, ↓rYes, wipeE, ↓negD, ↓endOf, ↓DL.envOf, List.map_cons, List.map_nil, List.cons_append, List.nil_append, List.length_cons, List.length_nil, List.replicate, List.getElem?_cons_zero, List.getElem?_cons_succ, List.set_cons_zero, List.set_cons_succ, Nat.zero_add, Nat.reduceAdd, Nat.reduceSub, ↓reduceIte, Bool.false_eq_true, Bool.xor_false, Bool.false_xor, Bool.true_xor, Bool.not_true, Bool.not_false, if_true, if_false, decide_true, decide_false]
  refine ⟨trivial, x, rfl, hk, ?_⟩
  cases x with
  | tup xs =>
    cases h : xs.all isCar with
    | false =>
      simp only [areCallsD, carsIn, h, Bool.false_and] at q ⊢
      exact ⟨S, Sub.refl S, q⟩
    | true =>
      simp only [areCallsD, carsIn, h, Bool.true_and] at q ⊢
      refine len_at seq_tup ?_
      by_cases h1 : 1 ≤ xs.length
      · have h1' : (1 : Int) ≤ (xs.length : Nat) := by omega
        have e : decide ((xs.length : Int) ≤ 200) = decide (xs.length ≤ 200) := by
          rw [decide_eq_decide]; omega
        simp only [h1, h1', decide_true, Bool.true_and, e] at q ⊢
        exact ⟨S, Sub.refl S, q⟩
      · have h1' : ¬ (1 : Int) ≤ (xs.length : Nat) := by omega
        simp only [h1, h1', decide_false, Bool.false_and] at q ⊢
        exact ⟨S, Sub.refl S, q⟩
  | _ => exact ⟨S, Sub.refl S, q⟩
theorem ok_check_lane (T : Txt mg) (F_is_lane : Callee P w K mg base CX0 4 "is_lane" 1 c_is_lane) (hdef : DefAt K mg "check_lane" s_check_lane ["value"]) : Callee P w K mg base CX0 5 "check_lane" 1 c_check_lane := by
  refine mkCallee hdef sc_check_lane 1 rfl _ (fun cdv A outer s H E f hr => (have hc : (cxOf CX0 P w K mg base ["value"] "check_lane" (defScope s_check_lane) f cdv A outer s H E).nox.calm = true := rfl; have nd := sc_check_lane.nd; (rs_one (rs_if (tr_not (tr_val (re_call F_is_lane (hr.mono (by decide)) rfl (ra_cons (re_var 0) ra_nil)))) rss_never rs_nil)))) (fun ds S kk hl hC => ?_) (fun ds S kk ek z => z)
  obtain ⟨ns, rfl, hn, q⟩ := hC
  simp only [↓rSeq, ↓rAsg, ↓gN, ↓rRet, ↓rRetN, ↓rIf, ↓rBin, ↓rUn, ↓rB, ↓rChain, ↓rC, ↓rVar_zero, ↓rVar_succ, ↓rSkip, ↓rDrop, ↓rCons, ↓rNil, ↓rTup, ↓rLst, ↓rCallB, ↓rAndV, ↓rOrV, ↓rNotV, ↓rNot, ↓rAnd, ↓rOr, ↓rIfE, ↓rBm, ↓rBm0, ↓rSl, ↓oNone, ↓oSome, ↓gIx, ↓gTup', ↓gCons', ↓gNil', ↓rCall, ↓rPar, ↓rNever, ↓rBreak, ↓rCont, ↓i2, ↓i20, ↓b20, ↓rYes, wipeE, ↓negD, ↓endOf, ↓DL.envOf, List.map_cons, List.map_nil, List.cons_append, List.nil_append, List.length_cons, List.length_nil, List.replicate, List.getElem?_cons_zero, List.getElem?_cons_succ, List.set_cons_zero, List.set_cons_succ, Nat.zero_add, Nat.reduceAdd, Nat.reduceSub, ↓reduceIte, Bool.false_eq_true, Bool.xor_false, Bool.false_xor, Bool.true_xor, Bool.not_true, Bool.not_false, if_true, if_false, decide_true, decide_false]
  refine ⟨trivial, tupI ns, rfl, kn_ints (Nat.le_trans (cars60 hn) (by decide)), ?_⟩
  simp only [lane_is hn]
  exact ⟨S, Sub.refl S, q⟩
theorem ok_called (T : Txt mg) (F_check_car : Callee P w K mg base CX0 3 "check_car" 1 c_check_car) (F_check_lane : Callee P w K mg base CX0 5 "check_lane" 1 c_check_lane) (F_step : Callee P w K mg base CX0 1 "step" 2 c_step) (hdef : DefAt K mg "called" s_called ["lane", "car"]) : Callee P w K mg base CX0 6 "called" 2 c_called := by
  refine mkCallee hdef sc_called 2 rfl _ (fun cdv A outer s H E f hr => (have hc : (cxOf CX0 P w K mg base ["lane", "car"] "called" (defScope s_called) f cdv A outer s H E).nox.calm = true := rfl; have nd := sc_called.nd; (rs_cons (rs_expr (re_call F_check_lane (hr.mono (by decide)) rfl (ra_cons (re_var 0) ra_nil)))
    (rs_cons (rs_expr (re_call F_check_car (hr.mono (by decide)) rfl (ra_cons (re_var 1) ra_nil)))
    (rs_one (rs_ret (re_call F_step (hr.mono (by decide)) rfl (ra_cons (re_var 0) (ra_cons (re_var 1) ra_nil))))))))) (fun ds S kk hl hC => ?_) (fun ds S kk ek z => z)
  obtain ⟨ns, c, rfl, hn, hcar, q⟩ := hC
  simp only [↓rSeq, ↓rAsg, ↓gN, ↓rRet, ↓rRetN, ↓rIf, ↓rBin, ↓rUn, ↓rB, ↓rChain, ↓rC, ↓rVar_zero, ↓rVar_succ, ↓rSkip, ↓rDrop, ↓rCons, ↓rNil, ↓rTup, ↓rLst, ↓rCallB, ↓rAndV, ↓rOrV, ↓rNotV, ↓rNot, ↓rAnd, ↓rOr, ↓rIfE, ↓rBm, ↓rBm0, ↓rSl, ↓oNone, ↓oSome, ↓gIx, ↓gTup', ↓gCons', ↓gNil', ↓rCall, ↓rPar, ↓rNever, ↓rBreak, ↓rCont, ↓i2, ↓i20, ↓b20, ↓rYes, wipeE, ↓negD, ↓endOf, ↓DL.envOf, List.map_cons, List.map_nil, List.cons_append, List.nil_append, List.length_cons, List.length_nil, List.replicate, List.getElem?_cons_zero, List.getElem?_cons_succ, List.set_cons_zero, List.set_cons_succ, Nat.zero_add, Nat.reduceAdd, Nat.reduceSub, ↓reduceIte, Bool.false_eq_true, Bool.xor_false, Bool.false_xor, Bool.true_xor, Bool.not_true, Bool.not_false, if_true, if_false, decide_true, decide_false]
  refine ⟨trivial, ns, rfl, hn, trivial, c, rfl, hcar, trivial, ns, c, rfl, Nat.le_trans (cars60 hn) (by decide), S, Sub.refl S, q⟩
theorem ok_leaving (T : Txt mg) (F_check_car : Callee P w K mg base CX0 3 "check_car" 1 c_check_car) (F_check_lane : Callee P w K mg base CX0 5 "check_lane" 1 c_check_lane) (hdef : DefAt K mg "leaving" s_leaving ["lane", "car"]) : Callee P w K mg base CX0 6 "leaving" 2 c_leaving := by
  refine mkCallee hdef sc_leaving 2 rfl _ (fun cdv A outer s H E f hr => (have hc : (cxOf CX0 P w K mg base ["lane", "car"] "leaving" (defScope s_leaving) f cdv A outer s H E).nox.calm = true := rfl; have nd := sc_leaving.nd; (rs_cons (rs_expr (re_call F_check_lane (hr.mono (by decide)) rfl (ra_cons (re_var 0) ra_nil)))
    (rs_cons (rs_expr (re_call F_check_car (hr.mono (by decide)) rfl (ra_cons (re_var 1) ra_nil)))
    (rs_one (rs_ret (re_slice slSeq (re_var 0) (ro_some (re_bm PySem.F.plainAttrs_tuple PySem.F.slot_tuple_index PySem.F.type_tuple_index mIndex (re_bin opAdd (re_var 0) (re_tup (ra_cons (re_var 1) ra_nil))) (ra_cons (re_var 1) ra_nil))) ro_none))))))) (fun ds S kk hl hC => ?_) (fun ds S kk ek z => z)
  obtain ⟨ns, c, rfl, hn, hcar, q⟩ := hC
  obtain ⟨j, jl, h1, h2, h3, h4⟩ := find_end ns c
  simp only [↓rSeq, ↓rAsg, ↓gN, ↓rRet, ↓rRetN, ↓rIf, ↓rBin, ↓rUn, ↓rB, ↓rChain, ↓rC, ↓rVar_zero, ↓rVar_succ, ↓rSkip, ↓rDrop, ↓rCons, ↓rNil, ↓rTup, ↓rLst, ↓rCallB, ↓rAndV, ↓rOrV, ↓rNotV, ↓rNot, ↓rAnd, ↓rOr, ↓rIfE, ↓rBm, ↓rBm0, ↓rSl, ↓oNone, ↓oSome, ↓gIx, ↓gTup', ↓gCons', ↓gNil', ↓rCall, ↓rPar, ↓rNever, ↓rBreak, ↓rCont, ↓i2, ↓i20, ↓b20, ↓rYes, wipeE, ↓negD, ↓endOf, ↓DL.envOf, List.map_cons, List.map_nil, List.cons_append, List.nil_append, List.length_cons, List.length_nil, List.replicate, List.getElem?_cons_zero, List.getElem?_cons_succ, List.set_cons_zero, List.set_cons_succ, Nat.zero_add, Nat.reduceAdd, Nat.reduceSub, ↓reduceIte, Bool.false_eq_true, Bool.xor_false, Bool.false_xor, Bool.true_xor, Bool.not_true, Bool.not_false, if_true, if_false, decide_true, decide_false]
  refine ⟨trivial, ns, rfl, hn, trivial, c, rfl, hcar, ?_⟩
  refine ⟨by decide, add_tup (by rw [List.length_map]; exact Nat.le_trans (Nat.add_le_add_right (cars60 hn) 1) (by decide)) ?_⟩
  have e : ns.map D.int ++ [D.int c] = (ns ++ [c]).map D.int := by simp
  rw [e]
  refine ⟨rfl, ns ++ [c], c, j, rfl, rfl, h1, h2, ?_⟩
  simp only [↓rSeq, ↓rAsg, ↓gN, ↓rRet, ↓rRetN, ↓rIf, ↓rBin, ↓rUn, ↓rB, ↓rChain, ↓rC, ↓rVar_zero, ↓rVar_succ, ↓rSkip, ↓rDrop, ↓rCons, ↓rNil, ↓rTup, ↓rLst, ↓rCallB, ↓rAndV, ↓rOrV, ↓rNotV, ↓rNot, ↓rAnd, ↓rOr, ↓rIfE, ↓rBm, ↓rBm0, ↓rSl, ↓oNone, ↓oSome, ↓gIx, ↓gTup', ↓gCons', ↓gNil', ↓rCall, ↓rPar, ↓rNever, ↓rBreak, ↓rCont, ↓i2, ↓i20, ↓b20, ↓rYes, wipeE, ↓negD, ↓endOf, ↓DL.envOf, List.map_cons, List.map_nil, List.cons_append, List.nil_append, List.length_cons, List.length_nil, List.replicate, List.getElem?_cons_zero, List.getElem?_cons_succ, List.set_cons_zero, List.set_cons_succ, Nat.zero_add, Nat.reduceAdd, Nat.reduceSub, ↓reduceIte, Bool.false_eq_true, Bool.xor_false, Bool.false_xor, Bool.true_xor, Bool.not_true, Bool.not_false, if_true, if_false, decide_true, decide_false]
  refine sl_tup ?_
  rw [cut_from, ← List.map_drop]
  rw [h4] at q
  exact ⟨S, Sub.refl S, q⟩
theorem ok_law (T : Txt mg) (F__law_bag : Callee P w K mg base CX0 1 "_law_bag" 1 c_law_bag) (F__law_call : Callee P w K mg base CX0 1 "_law_call" 2 c_law_call) (F__law_case : Callee P w K mg base CX0 3 "_law_case" 3 c_law_case) (F__law_due : Callee P w K mg base CX0 2 "_law_due" 1 c_law_due) (F__law_others : Callee P w K mg base CX0 2 "_law_others" 2 c_law_others) (F_are_calls : Callee P w K mg base CX0 4 "are_calls" 1 c_are_calls) (F_called : Callee P w K mg base CX0 6 "called" 2 c_called) (F_is_lane : Callee P w K mg base CX0 4 "is_lane" 1 c_is_lane) (F_leaving : Callee P w K mg base CX0 6 "leaving" 2 c_leaving) {f : Addr} {fd : FuncData} (F : Fun K "law" "law" s_law f fd) : FnG P w K mg base CX0 7 f fd ["script"] (spD K 1 c_law) := by
  refine mkFnG F sc_law 1 rfl _ (fun cdv A outer s H E f hr => (have hc : (cxOf CX0 P w K mg base ["script", "cell", "bag", "value", "car", "lane", "row", "kept", "later", "left"] "law" (defScope s_law) f cdv A outer s H E).nox.calm = true := rfl; have nd := sc_law.nd; (rs_cons (rs_for (is := List.range 50) PassesOwn.never hc (ri_seq (re_bin opAdd (re_slice slSeq (re_var 0) ro_none (ro_some re_int)) (re_lst (ra_cons re_int ra_nil)))) (rg_name 1 nd (by simp))
    (rs_cons (rs_set 2 nd (re_call F__law_bag (hr.mono (by decide)) rfl (ra_cons (re_var 1) ra_nil)))
    (rs_cons (rs_asg (is := List.range 50) (re_call F__law_case (hr.mono (by decide)) rfl (ra_cons (re_var 2) (ra_cons re_int (ra_cons re_int ra_nil)))) (rg_tup (n := 2) rfl (rgs_cons (rg_name 5 nd (by simp)) (rgs_cons (rg_name 6 nd (by simp)) rgs_nil))))
    (rs_cons (rs_for (is := List.range 50) PassesOwn.never hc (ri_seq (re_bin opAdd (re_bin opAdd (re_lst (ra_cons (re_var 5) (ra_cons (re_var 6) ra_nil))) (re_call F__law_others (hr.mono (by decide)) rfl (ra_cons (re_var 2) (ra_cons (re_var 5) ra_nil)))) (re_call F__law_others (hr.mono (by decide)) rfl (ra_cons (re_var 2) (ra_cons (re_var 6) ra_nil))))) (rg_name 3 nd (by simp))
    (rs_cons (rs_set 7 nd (re_callB (cRepr hr.u64 hr.g) rfl T.g_repr (by decide +kernel) (ra_cons (re_var 3) ra_nil)))
    (rs_one (rs_if (TR.w (wr_or (tr_cmp (opNe hr.u64) (re_callB (cRepr hr.u64 hr.g) rfl T.g_repr (by decide +kernel) (ra_cons (re_lst (ra_cons (re_call F_is_lane (hr.mono (by decide)) rfl (ra_cons (re_var 3) ra_nil)) (ra_cons (re_call F_are_calls (hr.mono (by decide)) rfl (ra_cons (re_var 3) ra_nil)) ra_nil))) ra_nil)) (re_callB (cRepr hr.u64 hr.g) rfl T.g_repr (by decide +kernel) (ra_cons (re_call F__law_due (hr.mono (by decide)) rfl (ra_cons (re_var 3) ra_nil)) ra_nil)) (nomark _)) (wr_or1 (tr_cmp (opNe hr.u64) (re_callB (cRepr hr.u64 hr.g) rfl T.g_repr (by decide +kernel) (ra_cons (re_var 3) ra_nil)) (re_var 7) (nomark _)))))
    (rs_one (rs_ret re_bl))
    rs_nil))))
    (rs_one (rs_for (is := List.range 50) PassesOwn.never hc (ri_rng rfl T.g_range (ra_cons re_int ra_nil)) (rg_name 4 nd (by simp))
    (rs_cons (rs_asg (is := List.range 50) (re_call F__law_call (hr.mono (by decide)) rfl (ra_cons (re_var 5) (ra_cons (re_var 4) ra_nil))) (rg_tup (n := 2) rfl (rgs_cons (rg_name 8 nd (by simp)) (rgs_cons (rg_name 9 nd (by simp)) rgs_nil))))
    (rs_one (rs_if (TR.w (wr_or (tr_cmp (opNe hr.u64) (re_callB (cRepr hr.u64 hr.g) rfl T.g_repr (by decide +kernel) (ra_cons (re_call F_called (hr.mono (by decide)) rfl (ra_cons (re_var 5) (ra_cons (re_var 4) ra_nil))) ra_nil)) (re_callB (cRepr hr.u64 hr.g) rfl T.g_repr (by decide +kernel) (ra_cons (re_var 8) ra_nil)) (nomark _)) (wr_or1 (tr_cmp (opNe hr.u64) (re_callB (cRepr hr.u64 hr.g) rfl T.g_repr (by decide +kernel) (ra_cons (re_call F_leaving (hr.mono (by decide)) rfl (ra_cons (re_var 5) (ra_cons (re_var 4) ra_nil))) ra_nil)) (re_callB (cRepr hr.u64 hr.g) rfl T.g_repr (by decide +kernel) (ra_cons (re_var 9) ra_nil)) (nomark _)))))
    (rs_one (rs_ret re_bl))
    rs_nil)))))))))
    (rs_one (rs_ret re_bl))))) (fun ds S kk hl hC => ?_) (fun ds S kk ek z => z)
  obtain ⟨ns, rfl, hl63, q⟩ := hC
  refine seq_gen fun N hN => ?_
  refine for_gen fun B hB => ?_
  unfold rFor iSeq
  simp only [↓rSeq, ↓rAsg, ↓gN, ↓rRet, ↓rRetN, ↓rIf, ↓rBin, ↓rUn, ↓rB, ↓rChain, ↓rC, ↓rVar_zero, ↓rVar_succ, ↓rSkip, ↓rDrop, ↓rCons, ↓rNil, ↓rTup, ↓rLst, ↓rCallB, ↓rAndV, ↓rOrV, ↓rNotV, ↓rNot, ↓rAnd, ↓rOr, ↓rIfE, ↓rBm, ↓rBm0, ↓rSl, ↓oNone, ↓oSome, ↓gIx, ↓gTup', ↓gCons', ↓gNil', ↓rCall, ↓rPar, ↓rNever, ↓rBreak, ↓rCont, ↓i2, ↓i20, ↓b20, ↓rYes, wipeE, ↓negD, ↓endOf, ↓DL.envOf, List.map_cons, List.map_nil, List.cons_append, List.nil_append, List.length_cons, List.length_nil, List.replicate, List.getElem?_cons_zero, List.getElem?_cons_succ, List.set_cons_zero, List.set_cons_succ, Nat.zero_add, Nat.reduceAdd, Nat.reduceSub, ↓reduceIte, Bool.false_eq_true, Bool.xor_false, Bool.false_xor, Bool.true_xor, Bool.not_true, Bool.not_false, if_true, if_false, decide_true, decide_false]
  intro p1 hp1
  rw [cut_toI (by decide), ← List.map_take]
  have l16 : (ns.take (Int.toNat 16)).length ≤ 63 := by rw [List.length_take]; omega
  revert l16
  generalize ns.take (Int.toNat 16) = cs
  intro l16
  refine ⟨by decide, fun p2 hp2 => add_ref (old_new hp2 Sto.upd_same) Sto.upd_same (by rw [List.length_map]; exact Nat.le_trans (show _ ≤ 64 by simp only [List.length_cons, List.length_nil]; omega) (by decide)) fun p3 hp3 => ?_⟩
  have s0 : DL.Sub S (((S.upd p1 (.lst (cs.map D.int))).upd p2 (.lst [.int 0])).upd p3 (.lst (cs.map D.int ++ [.int 0]))) := ((Sub.upd hp1).trans (Sub.upd hp2)).trans (Sub.upd hp3)
  have e0 : (((S.upd p1 (.lst (cs.map D.int))).upd p2 (.lst [.int 0])).upd p3 (.lst (cs.map D.int ++ [.int 0]))) p3 = some (.lst (cs.map D.int ++ [.int 0])) := Sto.upd_same
  have ei : cs.map D.int ++ [D.int 0] = (cs ++ [0]).map D.int := by simp
  rw [ei] at s0 e0 ⊢
  revert s0 e0
  generalize (((S.upd p1 (.lst (cs.map D.int))).upd p2 (.lst [.int 0])).upd p3 (.lst ((cs ++ [0]).map D.int))) = S0
  generalize cs ++ [0] = cells
  intro s0 e0
  simp only [e0]
  refine ⟨fun i env S' => S' = S0 ∧ ∃ o1 o2 o3 o4 o5 o6 o7 o8 o9, env = [some (.lis (ns.map D.int)), o1, o2, o3, o4, o5, o6, o7, o8, o9], ⟨rfl, _, _, _, _, _, _, _, _, _, rfl⟩, ?_, ?_, ?_⟩
  · rintro i env S' _ ⟨rfl, _⟩; exact e0
  · rintro i x env S' hx ⟨rfl, o1, o2, o3, o4, o5, o6, o7, o8, o9, rfl⟩
    obtain ⟨cell, _, rfl⟩ := mem_ints (List.mem_of_getElem? hx)
    subst hB
    refine seq_gen fun N2 hN2 => ?_
    simp only [↓rSeq, ↓rAsg, ↓gN, ↓rRet, ↓rRetN, ↓rIf, ↓rBin, ↓rUn, ↓rB, ↓rChain, ↓rC, ↓rVar_zero, ↓rVar_succ, ↓rSkip, ↓rDrop, ↓rCons, ↓rNil, ↓rTup, ↓rLst, ↓rCallB, ↓rAndV, ↓rOrV, ↓rNotV, ↓rNot, ↓rAnd, ↓rOr, ↓rIfE, ↓rBm, ↓rBm0, ↓rSl, ↓oNone, ↓oSome, ↓gIx, ↓gTup', ↓gCons', ↓gNil', ↓rCall, ↓rPar, ↓rNever, ↓rBreak, ↓rCont, ↓i2, ↓i20, ↓b20, ↓rYes, wipeE, ↓negD, ↓endOf, ↓DL.envOf, List.map_cons, List.map_nil, List.cons_append, List.nil_append, List.length_cons, List.length_nil, List.replicate, List.getElem?_cons_zero, List.getElem?_cons_succ, List.set_cons_zero, List.set_cons_succ, Nat.zero_add, Nat.reduceAdd, Nat.reduceSub, ↓reduceIte, Bool.false_eq_true, Bool.xor_false, Bool.false_xor, Bool.true_xor, Bool.not_true, Bool.not_false, if_true, if_false, decide_true, decide_false]
    refine ⟨trivial, cell, rfl, fun b pb hb hpb => ?_⟩
    subst hN2
    refine seq_gen fun N2 hN2 => ?_
    simp only [↓rSeq, ↓rAsg, ↓gN, ↓rRet, ↓rRetN, ↓rIf, ↓rBin, ↓rUn, ↓rB, ↓rChain, ↓rC, ↓rVar_zero, ↓rVar_succ, ↓rSkip, ↓rDrop, ↓rCons, ↓rNil, ↓rTup, ↓rLst, ↓rCallB, ↓rAndV, ↓rOrV, ↓rNotV, ↓rNot, ↓rAnd, ↓rOr, ↓rIfE, ↓rBm, ↓rBm0, ↓rSl, ↓oNone, ↓oSome, ↓gIx, ↓gTup', ↓gCons', ↓gNil', ↓rCall, ↓rPar, ↓rNever, ↓rBreak, ↓rCont, ↓i2, ↓i20, ↓b20, ↓rYes, wipeE, ↓negD, ↓endOf, ↓DL.envOf, List.map_cons, List.map_nil, List.cons_append, List.nil_append, List.length_cons, List.length_nil, List.replicate, List.getElem?_cons_zero, List.getElem?_cons_succ, List.set_cons_zero, List.set_cons_succ, Nat.zero_add, Nat.reduceAdd, Nat.reduceSub, ↓reduceIte, Bool.false_eq_true, Bool.xor_false, Bool.false_xor, Bool.true_xor, Bool.not_true, Bool.not_false, if_true, if_false, decide_true, decide_false]
    refine ⟨trivial, pb, 60, 200, b, rfl, by decide, by decide, by decide, by decide, Sto.upd_same, hb, fun b1 ls rs hb1 hls hrs hr200 => ?_⟩
    rw [Sto.upd_upd]
    simp only [↓rSeq, ↓rAsg, ↓gN, ↓rRet, ↓rRetN, ↓rIf, ↓rBin, ↓rUn, ↓rB, ↓rChain, ↓rC, ↓rVar_zero, ↓rVar_succ, ↓rSkip, ↓rDrop, ↓rCons, ↓rNil, ↓rTup, ↓rLst, ↓rCallB, ↓rAndV, ↓rOrV, ↓rNotV, ↓rNot, ↓rAnd, ↓rOr, ↓rIfE, ↓rBm, ↓rBm0, ↓rSl, ↓oNone, ↓oSome, ↓gIx, ↓gTup', ↓gCons', ↓gNil', ↓rCall, ↓rPar, ↓rNever, ↓rBreak, ↓rCont, ↓i2, ↓i20, ↓b20, ↓rYes, wipeE, ↓negD, ↓endOf, ↓DL.envOf, List.map_cons, List.map_nil, List.cons_append, List.nil_append, List.length_cons, List.length_nil, List.replicate, List.getElem?_cons_zero, List.getElem?_cons_succ, List.set_cons_zero, List.set_cons_succ, Nat.zero_add, Nat.reduceAdd, Nat.reduceSub, ↓reduceIte, Bool.false_eq_true, Bool.xor_false, Bool.false_xor, Bool.true_xor, Bool.not_true, Bool.not_false, if_true, if_false, decide_true, decide_false]
    refine ⟨trivial, _, _, rfl, _, _, rfl, rfl, ?_⟩
    subst hN2
    refine seq_gen fun N2 hN2 => ?_
    refine for_gen fun B hB => ?_
    unfold rFor iSeq
    simp only [↓rSeq, ↓rAsg, ↓gN, ↓rRet, ↓rRetN, ↓rIf, ↓rBin, ↓rUn, ↓rB, ↓rChain, ↓rC, ↓rVar_zero, ↓rVar_succ, ↓rSkip, ↓rDrop, ↓rCons, ↓rNil, ↓rTup, ↓rLst, ↓rCallB, ↓rAndV, ↓rOrV, ↓rNotV, ↓rNot, ↓rAnd, ↓rOr, ↓rIfE, ↓rBm, ↓rBm0, ↓rSl, ↓oNone, ↓oSome, ↓gIx, ↓gTup', ↓gCons', ↓gNil', ↓rCall, ↓rPar, ↓rNever, ↓rBreak, ↓rCont, ↓i2, ↓i20, ↓b20, ↓rYes, wipeE, ↓negD, ↓endOf, ↓DL.envOf, List.map_cons, List.map_nil, List.cons_append, List.nil_append, List.length_cons, List.length_nil, List.replicate, List.getElem?_cons_zero, List.getElem?_cons_succ, List.set_cons_zero, List.set_cons_succ, Nat.zero_add, Nat.reduceAdd, Nat.reduceSub, ↓reduceIte, Bool.false_eq_true, Bool.xor_false, Bool.false_xor, Bool.true_xor, Bool.not_true, Bool.not_false, if_true, if_false, decide_true, decide_false]
    refine ⟨by decide, fun p4 hp4 => ⟨trivial, ?_⟩⟩
    have n4 : p4 ≠ pb := fun e => by rw [e, Sto.upd_same] at hp4; cases hp4
    have lsl := cars60 hls
    refine ⟨pb, b1, ls, rfl, by rw [Sto.upd_ne n4.symm, Sto.upd_same], hb1, hls.cars, by omega, fun b2 xs1 S2 p5 hb2 x2 g1 l1 hp5 => ?_⟩
    have h2 : S2 p4 = some (.lst [tupI ls, tupI rs]) := x2.rest p4 _ n4 Sto.upd_same
    refine add_ref (old_new hp5 h2) Sto.upd_same (Nat.le_trans (show _ ≤ 200 by simp only [List.length_cons, List.length_nil]; omega) (by decide)) fun p6 hp6 => ?_
    have x3 := (x2.new (o := .lst xs1) hp5).new (o := .lst ([tupI ls, tupI rs] ++ xs1)) hp6
    have k3 : Keep pb S2 ((S2.upd p5 (.lst xs1)).upd p6 (.lst ([tupI ls, tupI rs] ++ xs1))) := fun c o n e => old_new hp6 (old_new hp5 e)
    have g3 : ∀ d ∈ [tupI ls, tupI rs] ++ xs1, GD pb ((S2.upd p5 (.lst xs1)).upd p6 (.lst ([tupI ls, tupI rs] ++ xs1))) d := fun d hd => by
      rcases List.mem_append.mp hd with z | z
      · simp only [List.mem_cons, List.not_mem_nil, or_false] at z
        rcases z with rfl | rfl
        · exact .il (fun i hi => (hls.cars i hi).sm) (by omega)
        · exact .il (fun i hi => (hrs.cars i hi).sm) (by have := hrs.most; omega)
      · exact (g1 d z).mono k3
    have n6 := (x2.new (o := .lst xs1) hp5).ne hp6
    have h3 : ((S2.upd p5 (.lst xs1)).upd p6 (.lst ([tupI ls, tupI rs] ++ xs1))) p6 = some (.lst ([tupI ls, tupI rs] ++ xs1)) := Sto.upd_same
    have l3 : ([tupI ls, tupI rs] ++ xs1).length ≤ 102 := by simp only [List.length_append, List.length_cons, List.length_nil]; omega
    have up3 : ∀ c o, S' c = some o → ((S2.upd p5 (.lst xs1)).upd p6 (.lst ([tupI ls, tupI rs] ++ xs1))) c = some o := fun c o e => by
      have nc : c ≠ pb := fun z => by rw [z, hpb] at e; cases e
      exact x3.rest c o nc (old_new hp4 (by rw [Sto.upd_ne nc]; exact e))
    revert x3 g3 h3 l3 up3
    generalize ((S2.upd p5 (.lst xs1)).upd p6 (.lst ([tupI ls, tupI rs] ++ xs1))) = S3
    generalize [tupI ls, tupI rs] ++ xs1 = vs1
    intro x3 g3 h3 l3 up3
    refine ⟨trivial, pb, b2, rs, rfl, x3.bag, hb2, hrs.cars, hrs.most, fun b3 xs2 S4 p7 hb3 x4 g4 l4 hp7 => ?_⟩
    refine add_ref (old_new hp7 (x4.rest p6 _ n6 h3)) Sto.upd_same (Nat.le_trans (show _ ≤ 300 by omega) (by decide)) fun p8 hp8 => ?_
    have k4 : Keep pb S3 S4 := fun c o n e => x4.rest c o n e
    have k5 : Keep pb S4 ((S4.upd p7 (.lst xs2)).upd p8 (.lst (vs1 ++ xs2))) := fun c o n e => old_new hp8 (old_new hp7 e)
    have g5 : ∀ d ∈ vs1 ++ xs2, GD pb ((S4.upd p7 (.lst xs2)).upd p8 (.lst (vs1 ++ xs2))) d := fun d hd => by
      rcases List.mem_append.mp hd with z | z
      · exact ((g3 d z).mono k4).mono k5
      · exact (g4 d z).mono k5
    have h5 : ((S4.upd p7 (.lst xs2)).upd p8 (.lst (vs1 ++ xs2))) p8 = some (.lst (vs1 ++ xs2)) := Sto.upd_same
    have up5 : DL.Sub S' ((S4.upd p7 (.lst xs2)).upd p8 (.lst (vs1 ++ xs2))) := fun c o e => by
      have nc : c ≠ pb := fun z => by rw [z, hpb] at e; cases e
      exact k5 c o nc (k4 c o nc (up3 c o e))
    revert g5 h5 up5
    generalize ((S4.upd p7 (.lst xs2)).upd p8 (.lst (vs1 ++ xs2))) = S5
    generalize vs1 ++ xs2 = vs
    intro g5 h5 up5
    simp only [h5]
    refine ⟨fun i env S'' => S'' = S5 ∧ ∃ o3 o4 o7 o8 o9, env = [some (.lis (ns.map D.int)), some (.int cell), some (.ref pb), o3, o4, some (tupI ls), some (tupI rs), o7, o8, o9], ⟨rfl, _, _, _, _, _, rfl⟩, ?_, ?_, ?_⟩
    · rintro i env S'' _ ⟨rfl, _⟩; exact h5
    · rintro i x env S'' hx ⟨rfl, o3, o4, o7, o8, o9, rfl⟩
      have gx := g5 x (List.mem_of_getElem? hx)
      obtain ⟨pd, sh, fit⟩ := gx.show
      subst hB
      refine seq_gen fun N3 hN3 => ?_
      simp only [↓rSeq, ↓rAsg, ↓gN, ↓rRet, ↓rRetN, ↓rIf, ↓rBin, ↓rUn, ↓rB, ↓rChain, ↓rC, ↓rVar_zero, ↓rVar_succ, ↓rSkip, ↓rDrop, ↓rCons, ↓rNil, ↓rTup, ↓rLst, ↓rCallB, ↓rAndV, ↓rOrV, ↓rNotV, ↓rNot, ↓rAnd, ↓rOr, ↓rIfE, ↓rBm, ↓rBm0, ↓rSl, ↓oNone, ↓oSome, ↓gIx, ↓gTup', ↓gCons', ↓gNil', ↓rCall, ↓rPar, ↓rNever, ↓rBreak, ↓rCont, ↓i2, ↓i20, ↓b20, ↓rYes, wipeE, ↓negD, ↓endOf, ↓DL.envOf, List.map_cons, List.map_nil, List.cons_append, List.nil_append, List.length_cons, List.length_nil, List.replicate, List.getElem?_cons_zero, List.getElem?_cons_succ, List.set_cons_zero, List.set_cons_succ, Nat.zero_add, Nat.reduceAdd, Nat.reduceSub, ↓reduceIte, Bool.false_eq_true, Bool.xor_false, Bool.false_xor, Bool.true_xor, Bool.not_true, Bool.not_false, if_true, if_false, decide_true, decide_false]
      refine repr_at sh fit ?_
      subst hN3
      simp only [↓rSeq, ↓rAsg, ↓gN, ↓rRet, ↓rRetN, ↓rIf, ↓rBin, ↓rUn, ↓rB, ↓rChain, ↓rC, ↓rVar_zero, ↓rVar_succ, ↓rSkip, ↓rDrop, ↓rCons, ↓rNil, ↓rTup, ↓rLst, ↓rCallB, ↓rAndV, ↓rOrV, ↓rNotV, ↓rNot, ↓rAnd, ↓rOr, ↓rIfE, ↓rBm, ↓rBm0, ↓rSl, ↓oNone, ↓oSome, ↓gIx, ↓gTup', ↓gCons', ↓gNil', ↓rCall, ↓rPar, ↓rNever, ↓rBreak, ↓rCont, ↓i2, ↓i20, ↓b20, ↓rYes, wipeE, ↓negD, ↓endOf, ↓DL.envOf, List.map_cons, List.map_nil, List.cons_append, List.nil_append, List.length_cons, List.length_nil, List.replicate, List.getElem?_cons_zero, List.getElem?_cons_succ, List.set_cons_zero, List.set_cons_succ, Nat.zero_add, Nat.reduceAdd, Nat.reduceSub, ↓reduceIte, Bool.false_eq_true, Bool.xor_false, Bool.false_xor, Bool.true_xor, Bool.not_true, Bool.not_false, if_true, if_false, decide_true, decide_false]
      refine ⟨trivial, x, rfl, gx.kn, trivial, x, rfl, gx.kn, by decide, fun p9 hp9 => ?_⟩
      refine repr_at (sh_bls (bs := [isLaneD x, areCallsD x]) Sto.upd_same) (fit_bls (bs := [isLaneD x, areCallsD x]) (by simp)) ⟨trivial, x, rfl, kn_sub (Sub.upd hp9) gx, fun p10 S7 s7 hp10 => ?_⟩
      refine repr_at (sh_bls (bs := [isLaneD x, areCallsD x]) Sto.upd_same) (fit_bls (bs := [isLaneD x, areCallsD x]) (by simp)) (ne_str ?_)
      simp only [↓rSeq, ↓rAsg, ↓gN, ↓rRet, ↓rRetN, ↓rIf, ↓rBin, ↓rUn, ↓rB, ↓rChain, ↓rC, ↓rVar_zero, ↓rVar_succ, ↓rSkip, ↓rDrop, ↓rCons, ↓rNil, ↓rTup, ↓rLst, ↓rCallB, ↓rAndV, ↓rOrV, ↓rNotV, ↓rNot, ↓rAnd, ↓rOr, ↓rIfE, ↓rBm, ↓rBm0, ↓rSl, ↓oNone, ↓oSome, ↓gIx, ↓gTup', ↓gCons', ↓gNil', ↓rCall, ↓rPar, ↓rNever, ↓rBreak, ↓rCont, ↓i2, ↓i20, ↓b20, ↓rYes, wipeE, ↓negD, ↓endOf, ↓DL.envOf, List.map_cons, List.map_nil, List.cons_append, List.nil_append, List.length_cons, List.length_nil, List.replicate, List.getElem?_cons_zero, List.getElem?_cons_succ, List.set_cons_zero, List.set_cons_succ, Nat.zero_add, Nat.reduceAdd, Nat.reduceSub, ↓reduceIte, Bool.false_eq_true, Bool.xor_false, Bool.false_xor, Bool.true_xor, Bool.not_true, Bool.not_false, if_true, if_false, decide_true, decide_false]
      have s8 : DL.Sub S'' (S7.upd p10 (.lst [.bl (isLaneD x), .bl (areCallsD x)])) := ((Sub.upd hp9).trans s7).trans (Sub.upd hp10)
      refine repr_at (sh.sub s8) fit (ne_str ?_)
      simp only [↓rSeq, ↓rAsg, ↓gN, ↓rRet, ↓rRetN, ↓rIf, ↓rBin, ↓rUn, ↓rB, ↓rChain, ↓rC, ↓rVar_zero, ↓rVar_succ, ↓rSkip, ↓rDrop, ↓rCons, ↓rNil, ↓rTup, ↓rLst, ↓rCallB, ↓rAndV, ↓rOrV, ↓rNotV, ↓rNot, ↓rAnd, ↓rOr, ↓rIfE, ↓rBm, ↓rBm0, ↓rSl, ↓oNone, ↓oSome, ↓gIx, ↓gTup', ↓gCons', ↓gNil', ↓rCall, ↓rPar, ↓rNever, ↓rBreak, ↓rCont, ↓i2, ↓i20, ↓b20, ↓rYes, wipeE, ↓negD, ↓endOf, ↓DL.envOf, List.map_cons, List.map_nil, List.cons_append, List.nil_append, List.length_cons, List.length_nil, List.replicate, List.getElem?_cons_zero, List.getElem?_cons_succ, List.set_cons_zero, List.set_cons_succ, Nat.zero_add, Nat.reduceAdd, Nat.reduceSub, ↓reduceIte, Bool.false_eq_true, Bool.xor_false, Bool.false_xor, Bool.true_xor, Bool.not_true, Bool.not_false, if_true, if_false, decide_true, decide_false]
      exact ⟨S'', s8, rfl, _, _, _, _, _, rfl⟩
    · rintro env S'' ⟨rfl, o3, o4, o7, o8, o9, rfl⟩
      subst hN2
      refine for_gen fun B hB => ?_
      unfold rFor iRng
      simp only [↓rSeq, ↓rAsg, ↓gN, ↓rRet, ↓rRetN, ↓rIf, ↓rBin, ↓rUn, ↓rB, ↓rChain, ↓rC, ↓rVar_zero, ↓rVar_succ, ↓rSkip, ↓rDrop, ↓rCons, ↓rNil, ↓rTup, ↓rLst, ↓rCallB, ↓rAndV, ↓rOrV, ↓rNotV, ↓rNot, ↓rAnd, ↓rOr, ↓rIfE, ↓rBm, ↓rBm0, ↓rSl, ↓oNone, ↓oSome, ↓gIx, ↓gTup', ↓gCons', ↓gNil', ↓rCall, ↓rPar, ↓rNever, ↓rBreak, ↓rCont, ↓i2, ↓i20, ↓b20, ↓rYes, wipeE, ↓negD, ↓endOf, ↓DL.envOf, List.map_cons, List.map_nil, List.cons_append, List.nil_append, List.length_cons, List.length_nil, List.replicate, List.getElem?_cons_zero, List.getElem?_cons_succ, List.set_cons_zero, List.set_cons_succ, Nat.zero_add, Nat.reduceAdd, Nat.reduceSub, ↓reduceIte, Bool.false_eq_true, Bool.xor_false, Bool.false_xor, Bool.true_xor, Bool.not_true, Bool.not_false, if_true, if_false, decide_true, decide_false]
      refine ⟨by decide, by decide, fun i env S3 => S3 = S'' ∧ ∃ o3 o4 o7 o8 o9, env = [some (.lis (ns.map D.int)), some (.int cell), some (.ref pb), o3, o4, some (tupI ls), some (tupI rs), o7, o8, o9], ⟨rfl, _, _, _, _, _, rfl⟩, fun _ _ _ _ _ => trivial, ?_, ?_⟩
      · rintro i x env S3 hx ⟨rfl, o3, o4, o7, o8, o9, rfl⟩
        obtain ⟨hi, rfl⟩ := rngD_it hx
        have hi60 : i < 60 := hi
        have hcar : Car (i : Int) := ⟨by omega, by omega⟩
        subst hB
        refine seq_gen fun N3 hN3 => ?_
        simp only [↓rSeq, ↓rAsg, ↓gN, ↓rRet, ↓rRetN, ↓rIf, ↓rBin, ↓rUn, ↓rB, ↓rChain, ↓rC, ↓rVar_zero, ↓rVar_succ, ↓rSkip, ↓rDrop, ↓rCons, ↓rNil, ↓rTup, ↓rLst, ↓rCallB, ↓rAndV, ↓rOrV, ↓rNotV, ↓rNot, ↓rAnd, ↓rOr, ↓rIfE, ↓rBm, ↓rBm0, ↓rSl, ↓oNone, ↓oSome, ↓gIx, ↓gTup', ↓gCons', ↓gNil', ↓rCall, ↓rPar, ↓rNever, ↓rBreak, ↓rCont, ↓i2, ↓i20, ↓b20, ↓rYes, wipeE, ↓negD, ↓endOf, ↓DL.envOf, List.map_cons, List.map_nil, List.cons_append, List.nil_append, List.length_cons, List.length_nil, List.replicate, List.getElem?_cons_zero, List.getElem?_cons_succ, List.set_cons_zero, List.set_cons_succ, Nat.zero_add, Nat.reduceAdd, Nat.reduceSub, ↓reduceIte, Bool.false_eq_true, Bool.xor_false, Bool.false_xor, Bool.true_xor, Bool.not_true, Bool.not_false, if_true, if_false, decide_true, decide_false]
        refine ⟨trivial, ls, (i : Int), rfl, by omega, ?_⟩
        simp only [↓rSeq, ↓rAsg, ↓gN, ↓rRet, ↓rRetN, ↓rIf, ↓rBin, ↓rUn, ↓rB, ↓rChain, ↓rC, ↓rVar_zero, ↓rVar_succ, ↓rSkip, ↓rDrop, ↓rCons, ↓rNil, ↓rTup, ↓rLst, ↓rCallB, ↓rAndV, ↓rOrV, ↓rNotV, ↓rNot, ↓rAnd, ↓rOr, ↓rIfE, ↓rBm, ↓rBm0, ↓rSl, ↓oNone, ↓oSome, ↓gIx, ↓gTup', ↓gCons', ↓gNil', ↓rCall, ↓rPar, ↓rNever, ↓rBreak, ↓rCont, ↓i2, ↓i20, ↓b20, ↓rYes, wipeE, ↓negD, ↓endOf, ↓DL.envOf, List.map_cons, List.map_nil, List.cons_append, List.nil_append, List.length_cons, List.length_nil, List.replicate, List.getElem?_cons_zero, List.getElem?_cons_succ, List.set_cons_zero, List.set_cons_succ, Nat.zero_add, Nat.reduceAdd, Nat.reduceSub, ↓reduceIte, Bool.false_eq_true, Bool.xor_false, Bool.false_xor, Bool.true_xor, Bool.not_true, Bool.not_false, if_true, if_false, decide_true, decide_false]
        refine ⟨trivial, _, _, rfl, _, _, rfl, rfl, ?_⟩
        subst hN3
        have ls1 := lane_step hls hcar
        have ls2 : LaneN (leftN ls (i : Int)) := hls.sub (List.dropWhile_sublist _)
        have f1 := fit_tupI (fun j hj => (ls1.cars j hj).sm) (by have := cars60 ls1; omega)
        have f2 := fit_tupI (fun j hj => (ls2.cars j hj).sm) (by have := cars60 ls2; omega)
        simp only [↓rSeq, ↓rAsg, ↓gN, ↓rRet, ↓rRetN, ↓rIf, ↓rBin, ↓rUn, ↓rB, ↓rChain, ↓rC, ↓rVar_zero, ↓rVar_succ, ↓rSkip, ↓rDrop, ↓rCons, ↓rNil, ↓rTup, ↓rLst, ↓rCallB, ↓rAndV, ↓rOrV, ↓rNotV, ↓rNot, ↓rAnd, ↓rOr, ↓rIfE, ↓rBm, ↓rBm0, ↓rSl, ↓oNone, ↓oSome, ↓gIx, ↓gTup', ↓gCons', ↓gNil', ↓rCall, ↓rPar, ↓rNever, ↓rBreak, ↓rCont, ↓i2, ↓i20, ↓b20, ↓rYes, wipeE, ↓negD, ↓endOf, ↓DL.envOf, List.map_cons, List.map_nil, List.cons_append, List.nil_append, List.length_cons, List.length_nil, List.replicate, List.getElem?_cons_zero, List.getElem?_cons_succ, List.set_cons_zero, List.set_cons_succ, Nat.zero_add, Nat.reduceAdd, Nat.reduceSub, ↓reduceIte, Bool.false_eq_true, Bool.xor_false, Bool.false_xor, Bool.true_xor, Bool.not_true, Bool.not_false, if_true, if_false, decide_true, decide_false]
        refine ⟨trivial, ls, (i : Int), rfl, hls, hcar, repr_at sh_tupI f1 (repr_at sh_tupI f1 (ne_str ?_))⟩
        simp only [↓rSeq, ↓rAsg, ↓gN, ↓rRet, ↓rRetN, ↓rIf, ↓rBin, ↓rUn, ↓rB, ↓rChain, ↓rC, ↓rVar_zero, ↓rVar_succ, ↓rSkip, ↓rDrop, ↓rCons, ↓rNil, ↓rTup, ↓rLst, ↓rCallB, ↓rAndV, ↓rOrV, ↓rNotV, ↓rNot, ↓rAnd, ↓rOr, ↓rIfE, ↓rBm, ↓rBm0, ↓rSl, ↓oNone, ↓oSome, ↓gIx, ↓gTup', ↓gCons', ↓gNil', ↓rCall, ↓rPar, ↓rNever, ↓rBreak, ↓rCont, ↓i2, ↓i20, ↓b20, ↓rYes, wipeE, ↓negD, ↓endOf, ↓DL.envOf, List.map_cons, List.map_nil, List.cons_append, List.nil_append, List.length_cons, List.length_nil, List.replicate, List.getElem?_cons_zero, List.getElem?_cons_succ, List.set_cons_zero, List.set_cons_succ, Nat.zero_add, Nat.reduceAdd, Nat.reduceSub, ↓reduceIte, Bool.false_eq_true, Bool.xor_false, Bool.false_xor, Bool.true_xor, Bool.not_true, Bool.not_false, if_true, if_false, decide_true, decide_false]
        refine ⟨trivial, ls, (i : Int), rfl, hls, hcar, repr_at sh_tupI f2 (repr_at sh_tupI f2 (ne_str ?_))⟩
        simp only [↓rSeq, ↓rAsg, ↓gN, ↓rRet, ↓rRetN, ↓rIf, ↓rBin, ↓rUn, ↓rB, ↓rChain, ↓rC, ↓rVar_zero, ↓rVar_succ, ↓rSkip, ↓rDrop, ↓rCons, ↓rNil, ↓rTup, ↓rLst, ↓rCallB, ↓rAndV, ↓rOrV, ↓rNotV, ↓rNot, ↓rAnd, ↓rOr, ↓rIfE, ↓rBm, ↓rBm0, ↓rSl, ↓oNone, ↓oSome, ↓gIx, ↓gTup', ↓gCons', ↓gNil', ↓rCall, ↓rPar, ↓rNever, ↓rBreak, ↓rCont, ↓i2, ↓i20, ↓b20, ↓rYes, wipeE, ↓negD, ↓endOf, ↓DL.envOf, List.map_cons, List.map_nil, List.cons_append, List.nil_append, List.length_cons, List.length_nil, List.replicate, List.getElem?_cons_zero, List.getElem?_cons_succ, List.set_cons_zero, List.set_cons_succ, Nat.zero_add, Nat.reduceAdd, Nat.reduceSub, ↓reduceIte, Bool.false_eq_true, Bool.xor_false, Bool.false_xor, Bool.true_xor, Bool.not_true, Bool.not_false, if_true, if_false, decide_true, decide_false]
        exact ⟨S3, Sub.refl _, rfl, _, _, _, _, _, rfl⟩
      · rintro env S3 ⟨rfl, o3, o4, o7, o8, o9, rfl⟩
        exact ⟨S', up5, rfl, _, _, _, _, _, _, _, _, _, rfl⟩
  · rintro env S' ⟨rfl, o1, o2, o3, o4, o5, o6, o7, o8, o9, rfl⟩
    subst hN
    simp only [↓rSeq, ↓rAsg, ↓gN, ↓rRet, ↓rRetN, ↓rIf, ↓rBin, ↓rUn, ↓rB, ↓rChain, ↓rC, ↓rVar_zero, ↓rVar_succ, ↓rSkip, ↓rDrop, ↓rCons, ↓rNil, ↓rTup, ↓rLst, ↓rCallB, ↓rAndV, ↓rOrV, ↓rNotV, ↓rNot, ↓rAnd, ↓rOr, ↓rIfE, ↓rBm, ↓rBm0, ↓rSl, ↓oNone, ↓oSome, ↓gIx, ↓gTup', ↓gCons', ↓gNil', ↓rCall, ↓rPar, ↓rNever, ↓rBreak, ↓rCont, ↓i2, ↓i20, ↓b20, ↓rYes, wipeE, ↓negD, ↓endOf, ↓DL.envOf, List.map_cons, List.map_nil, List.cons_append, List.nil_append, List.length_cons, List.length_nil, List.replicate, List.getElem?_cons_zero, List.getElem?_cons_succ, List.set_cons_zero, List.set_cons_succ, Nat.zero_add, Nat.reduceAdd, Nat.reduceSub, ↓reduceIte, Bool.false_eq_true, Bool.xor_false, Bool.false_xor, Bool.true_xor, Bool.not_true, Bool.not_false, if_true, if_false, decide_true, decide_false]
    exact ⟨S, s0, q⟩
end
theorem all_mk {l : PySem.W.OpenLaw} {w : World} {K : PySem.W.Frag} {h : Heap} {mg : Str → Option Value} {fa : Addr} (X : K.In h) (G : h.Ns mainGlobals mg) (hfa : mg "law" = some (.ref fa))
    {f0 : Addr} {oc0 kV0 dc0 pm0 cd0 ct0 : Value} {od0 an0 : Option Addr} {sl0 : Array (Option Value)}
    (a0 : PySem.W.nsIn K mainGlobals "_law_bag" = some (some (.ref f0))) (l0 : K.lookup f0 = some ⟨oc0, od0, .func (PySem.W.fnOf "_law_bag" "_law_bag" (defArgs s_law_bag) (defBody s_law_bag) (defScope s_law_bag) .none kV0 dc0 pm0 an0 cd0 ct0), sl0⟩) (c0 : PySem.W.codeIn K cd0 "_law_bag" = true) (k0 : PySem.W.keepIn K (.ref f0) = true)
    {f1 : Addr} {oc1 kV1 dc1 pm1 cd1 ct1 : Value} {od1 an1 : Option Addr} {sl1 : Array (Option Value)}
    (a1 : PySem.W.nsIn K mainGlobals "_law_call" = some (some (.ref f1))) (l1 : K.lookup f1 = some ⟨oc1, od1, .func (PySem.W.fnOf "_law_call" "_law_call" (defArgs s_law_call) (defBody s_law_call) (defScope s_law_call) .none kV1 dc1 pm1 an1 cd1 ct1), sl1⟩) (c1 : PySem.W.codeIn K cd1 "_law_call" = true) (k1 : PySem.W.keepIn K (.ref f1) = true)
    {f2 : Addr} {oc2 kV2 dc2 pm2 cd2 ct2 : Value} {od2 an2 : Option Addr} {sl2 : Array (Option Value)}
    (a2 : PySem.W.nsIn K mainGlobals "_law_pick" = some (some (.ref f2))) (l2 : K.lookup f2 = some ⟨oc2, od2, .func (PySem.W.fnOf "_law_pick" "_law_pick" (defArgs s_law_pick) (defBody s_law_pick) (defScope s_law_pick) .none kV2 dc2 pm2 an2 cd2 ct2), sl2⟩) (c2 : PySem.W.codeIn K cd2 "_law_pick" = true) (k2 : PySem.W.keepIn K (.ref f2) = true)
    {f3 : Addr} {oc3 kV3 dc3 pm3 cd3 ct3 : Value} {od3 an3 : Option Addr} {sl3 : Array (Option Value)}
    (a3 : PySem.W.nsIn K mainGlobals "_law_calls" = some (some (.ref f3))) (l3 : K.lookup f3 = some ⟨oc3, od3, .func (PySem.W.fnOf "_law_calls" "_law_calls" (defArgs s_law_calls) (defBody s_law_calls) (defScope s_law_calls) .none kV3 dc3 pm3 an3 cd3 ct3), sl3⟩) (c3 : PySem.W.codeIn K cd3 "_law_calls" = true) (k3 : PySem.W.keepIn K (.ref f3) = true)
    {f4 : Addr} {oc4 kV4 dc4 pm4 cd4 ct4 : Value} {od4 an4 : Option Addr} {sl4 : Array (Option Value)}
    (a4 : PySem.W.nsIn K mainGlobals "_law_cars" = some (some (.ref f4))) (l4 : K.lookup f4 = some ⟨oc4, od4, .func (PySem.W.fnOf "_law_cars" "_law_cars" (defArgs s_law_cars) (defBody s_law_cars) (defScope s_law_cars) .none kV4 dc4 pm4 an4 cd4 ct4), sl4⟩) (c4 : PySem.W.codeIn K cd4 "_law_cars" = true) (k4 : PySem.W.keepIn K (.ref f4) = true)
    {f5 : Addr} {oc5 kV5 dc5 pm5 cd5 ct5 : Value} {od5 an5 : Option Addr} {sl5 : Array (Option Value)}
    (a5 : PySem.W.nsIn K mainGlobals "_law_lane" = some (some (.ref f5))) (l5 : K.lookup f5 = some ⟨oc5, od5, .func (PySem.W.fnOf "_law_lane" "_law_lane" (defArgs s_law_lane) (defBody s_law_lane) (defScope s_law_lane) .none kV5 dc5 pm5 an5 cd5 ct5), sl5⟩) (c5 : PySem.W.codeIn K cd5 "_law_lane" = true) (k5 : PySem.W.keepIn K (.ref f5) = true)
    {f6 : Addr} {oc6 kV6 dc6 pm6 cd6 ct6 : Value} {od6 an6 : Option Addr} {sl6 : Array (Option Value)}
    (a6 : PySem.W.nsIn K mainGlobals "_law_case" = some (some (.ref f6))) (l6 : K.lookup f6 = some ⟨oc6, od6, .func (PySem.W.fnOf "_law_case" "_law_case" (defArgs s_law_case) (defBody s_law_case) (defScope s_law_case) .none kV6 dc6 pm6 an6 cd6 ct6), sl6⟩) (c6 : PySem.W.codeIn K cd6 "_law_case" = true) (k6 : PySem.W.keepIn K (.ref f6) = true)
    {f7 : Addr} {oc7 kV7 dc7 pm7 cd7 ct7 : Value} {od7 an7 : Option Addr} {sl7 : Array (Option Value)}
    (a7 : PySem.W.nsIn K mainGlobals "_law_is_car" = some (some (.ref f7))) (l7 : K.lookup f7 = some ⟨oc7, od7, .func (PySem.W.fnOf "_law_is_car" "_law_is_car" (defArgs s_law_is_car) (defBody s_law_is_car) (defScope s_law_is_car) .none kV7 dc7 pm7 an7 cd7 ct7), sl7⟩) (c7 : PySem.W.codeIn K cd7 "_law_is_car" = true) (k7 : PySem.W.keepIn K (.ref f7) = true)
    {f8 : Addr} {oc8 kV8 dc8 pm8 cd8 ct8 : Value} {od8 an8 : Option Addr} {sl8 : Array (Option Value)}
    (a8 : PySem.W.nsIn K mainGlobals "_law_due" = some (some (.ref f8))) (l8 : K.lookup f8 = some ⟨oc8, od8, .func (PySem.W.fnOf "_law_due" "_law_due" (defArgs s_law_due) (defBody s_law_due) (defScope s_law_due) .none kV8 dc8 pm8 an8 cd8 ct8), sl8⟩) (c8 : PySem.W.codeIn K cd8 "_law_due" = true) (k8 : PySem.W.keepIn K (.ref f8) = true)
    {f9 : Addr} {oc9 kV9 dc9 pm9 cd9 ct9 : Value} {od9 an9 : Option Addr} {sl9 : Array (Option Value)}
    (a9 : PySem.W.nsIn K mainGlobals "_law_others" = some (some (.ref f9))) (l9 : K.lookup f9 = some ⟨oc9, od9, .func (PySem.W.fnOf "_law_others" "_law_others" (defArgs s_law_others) (defBody s_law_others) (defScope s_law_others) .none kV9 dc9 pm9 an9 cd9 ct9), sl9⟩) (c9 : PySem.W.codeIn K cd9 "_law_others" = true) (k9 : PySem.W.keepIn K (.ref f9) = true)
    {f10 : Addr} {oc10 kV10 dc10 pm10 cd10 ct10 : Value} {od10 an10 : Option Addr} {sl10 : Array (Option Value)}
    (a10 : PySem.W.nsIn K mainGlobals "is_whole" = some (some (.ref f10))) (l10 : K.lookup f10 = some ⟨oc10, od10, .func (PySem.W.fnOf "is_whole" "is_whole" (defArgs s_is_whole) (defBody s_is_whole) (defScope s_is_whole) .none kV10 dc10 pm10 an10 cd10 ct10), sl10⟩) (c10 : PySem.W.codeIn K cd10 "is_whole" = true) (k10 : PySem.W.keepIn K (.ref f10) = true)
    {f11 : Addr} {oc11 kV11 dc11 pm11 cd11 ct11 : Value} {od11 an11 : Option Addr} {sl11 : Array (Option Value)}
    (a11 : PySem.W.nsIn K mainGlobals "is_car" = some (some (.ref f11))) (l11 : K.lookup f11 = some ⟨oc11, od11, .func (PySem.W.fnOf "is_car" "is_car" (defArgs s_is_car) (defBody s_is_car) (defScope s_is_car) .none kV11 dc11 pm11 an11 cd11 ct11), sl11⟩) (c11 : PySem.W.codeIn K cd11 "is_car" = true) (k11 : PySem.W.keepIn K (.ref f11) = true)
    {f12 : Addr} {oc12 kV12 dc12 pm12 cd12 ct12 : Value} {od12 an12 : Option Addr} {sl12 : Array (Option Value)}
    (a12 : PySem.W.nsIn K mainGlobals "are_cars" = some (some (.ref f12))) (l12 : K.lookup f12 = some ⟨oc12, od12, .func (PySem.W.fnOf "are_cars" "are_cars" (defArgs s_are_cars) (defBody s_are_cars) (defScope s_are_cars) .none kV12 dc12 pm12 an12 cd12 ct12), sl12⟩) (c12 : PySem.W.codeIn K cd12 "are_cars" = true) (k12 : PySem.W.keepIn K (.ref f12) = true)
    {f13 : Addr} {oc13 kV13 dc13 pm13 cd13 ct13 : Value} {od13 an13 : Option Addr} {sl13 : Array (Option Value)}
    (a13 : PySem.W.nsIn K mainGlobals "are_calls" = some (some (.ref f13))) (l13 : K.lookup f13 = some ⟨oc13, od13, .func (PySem.W.fnOf "are_calls" "are_calls" (defArgs s_are_calls) (defBody s_are_calls) (defScope s_are_calls) .none kV13 dc13 pm13 an13 cd13 ct13), sl13⟩) (c13 : PySem.W.codeIn K cd13 "are_calls" = true) (k13 : PySem.W.keepIn K (.ref f13) = true)
    {f14 : Addr} {oc14 kV14 dc14 pm14 cd14 ct14 : Value} {od14 an14 : Option Addr} {sl14 : Array (Option Value)}
    (a14 : PySem.W.nsIn K mainGlobals "check_car" = some (some (.ref f14))) (l14 : K.lookup f14 = some ⟨oc14, od14, .func (PySem.W.fnOf "check_car" "check_car" (defArgs s_check_car) (defBody s_check_car) (defScope s_check_car) .none kV14 dc14 pm14 an14 cd14 ct14), sl14⟩) (c14 : PySem.W.codeIn K cd14 "check_car" = true) (k14 : PySem.W.keepIn K (.ref f14) = true)
    {f15 : Addr} {oc15 kV15 dc15 pm15 cd15 ct15 : Value} {od15 an15 : Option Addr} {sl15 : Array (Option Value)}
    (a15 : PySem.W.nsIn K mainGlobals "is_lane" = some (some (.ref f15))) (l15 : K.lookup f15 = some ⟨oc15, od15, .func (PySem.W.fnOf "is_lane" "is_lane" (defArgs s_is_lane) (defBody s_is_lane) (defScope s_is_lane) .none kV15 dc15 pm15 an15 cd15 ct15), sl15⟩) (c15 : PySem.W.codeIn K cd15 "is_lane" = true) (k15 : PySem.W.keepIn K (.ref f15) = true)
    {f16 : Addr} {oc16 kV16 dc16 pm16 cd16 ct16 : Value} {od16 an16 : Option Addr} {sl16 : Array (Option Value)}
    (a16 : PySem.W.nsIn K mainGlobals "check_lane" = some (some (.ref f16))) (l16 : K.lookup f16 = some ⟨oc16, od16, .func (PySem.W.fnOf "check_lane" "check_lane" (defArgs s_check_lane) (defBody s_check_lane) (defScope s_check_lane) .none kV16 dc16 pm16 an16 cd16 ct16), sl16⟩) (c16 : PySem.W.codeIn K cd16 "check_lane" = true) (k16 : PySem.W.keepIn K (.ref f16) = true)
    {f17 : Addr} {oc17 kV17 dc17 pm17 cd17 ct17 : Value} {od17 an17 : Option Addr} {sl17 : Array (Option Value)}
    (a17 : PySem.W.nsIn K mainGlobals "step" = some (some (.ref f17))) (l17 : K.lookup f17 = some ⟨oc17, od17, .func (PySem.W.fnOf "step" "step" (defArgs s_step) (defBody s_step) (defScope s_step) .none kV17 dc17 pm17 an17 cd17 ct17), sl17⟩) (c17 : PySem.W.codeIn K cd17 "step" = true) (k17 : PySem.W.keepIn K (.ref f17) = true)
    {f18 : Addr} {oc18 kV18 dc18 pm18 cd18 ct18 : Value} {od18 an18 : Option Addr} {sl18 : Array (Option Value)}
    (a18 : PySem.W.nsIn K mainGlobals "called" = some (some (.ref f18))) (l18 : K.lookup f18 = some ⟨oc18, od18, .func (PySem.W.fnOf "called" "called" (defArgs s_called) (defBody s_called) (defScope s_called) .none kV18 dc18 pm18 an18 cd18 ct18), sl18⟩) (c18 : PySem.W.codeIn K cd18 "called" = true) (k18 : PySem.W.keepIn K (.ref f18) = true)
    {f19 : Addr} {oc19 kV19 dc19 pm19 cd19 ct19 : Value} {od19 an19 : Option Addr} {sl19 : Array (Option Value)}
    (a19 : PySem.W.nsIn K mainGlobals "leaving" = some (some (.ref f19))) (l19 : K.lookup f19 = some ⟨oc19, od19, .func (PySem.W.fnOf "leaving" "leaving" (defArgs s_leaving) (defBody s_leaving) (defScope s_leaving) .none kV19 dc19 pm19 an19 cd19 ct19), sl19⟩) (c19 : PySem.W.codeIn K cd19 "leaving" = true) (k19 : PySem.W.keepIn K (.ref f19) = true)
    {f20 : Addr} {oc20 kV20 dc20 pm20 cd20 ct20 : Value} {od20 an20 : Option Addr} {sl20 : Array (Option Value)}
    (a20 : PySem.W.nsIn K mainGlobals "law" = some (some (.ref f20))) (l20 : K.lookup f20 = some ⟨oc20, od20, .func (PySem.W.fnOf "law" "law" (defArgs s_law) (defBody s_law) (defScope s_law) .none kV20 dc20 pm20 an20 cd20 ct20), sl20⟩) (c20 : PySem.W.codeIn K cd20 "law" = true) (k20 : PySem.W.keepIn K (.ref f20) = true)
    {t0 : Tok} (z0 : PySem.W.nsIn K mainGlobals "CARS" = some (some (.int 60 t0)))
    {t1 : Tok} (z1 : PySem.W.nsIn K mainGlobals "MOST_CALLS" = some (some (.int 200 t1)))
    (z2 : PySem.W.nsIn K mainGlobals "bool" = some none)
    (z3 : PySem.W.nsIn K mainGlobals "enumerate" = some none)
    (z4 : PySem.W.nsIn K mainGlobals "int" = some none)
    (z5 : PySem.W.nsIn K mainGlobals "isinstance" = some none)
    (z6 : PySem.W.nsIn K mainGlobals "len" = some none)
    (z7 : PySem.W.nsIn K mainGlobals "list" = some none)
    (z8 : PySem.W.nsIn K mainGlobals "max" = some none)
    (z9 : PySem.W.nsIn K mainGlobals "range" = some none)
    (z10 : PySem.W.nsIn K mainGlobals "repr" = some none)
    (z11 : PySem.W.nsIn K mainGlobals "set" = some none)
    (z12 : PySem.W.nsIn K mainGlobals "str" = some none)
    (z13 : PySem.W.nsIn K mainGlobals "tuple" = some none)
    (z14 : PySem.W.nsIn K mainGlobals "type" = some none)
    : ∃ fd : FuncData, (∀ (s : Shared) (v : Value), BindsTo s fd ⟨[v], []⟩ [("script", v)]) ∧ ∀ base : Heap, K.In base → base.Ns mainGlobals mg → FnG l.prog w K mg base CX0 7 fa fd ["script"] (spD K 1 c_law) := by
  have e := hfa.symm.trans (PySem.W.mg_of X G a20)
  cases e
  have T : Txt mg := ⟨⟨_, PySem.W.mg_of X G z0⟩, ⟨_, PySem.W.mg_of X G z1⟩, PySem.W.mg_none_of X G z2, PySem.W.mg_none_of X G z3, PySem.W.mg_none_of X G z4, PySem.W.mg_none_of X G z5, PySem.W.mg_none_of X G z6, PySem.W.mg_none_of X G z7, PySem.W.mg_none_of X G z8, PySem.W.mg_none_of X G z9, PySem.W.mg_none_of X G z10, PySem.W.mg_none_of X G z11, PySem.W.mg_none_of X G z12, PySem.W.mg_none_of X G z13, PySem.W.mg_none_of X G z14⟩
  refine ⟨PySem.W.fnOf "law" "law" (defArgs s_law) (defBody s_law) (defScope s_law) .none kV20 dc20 pm20 an20 cd20 ct20, fun s v => .of_eq rfl, fun base _ _ => ?_⟩
  have F__law_bag : Callee l.prog w K mg base CX0 1 "_law_bag" 1 c_law_bag := ok_law_bag T  (def_at X G a0 l0 c0 k0 fun _ _ _ _ _ _ us hl => match us, hl with | [_], _ => rfl)
  have F__law_call : Callee l.prog w K mg base CX0 1 "_law_call" 2 c_law_call := ok_law_call T  (def_at X G a1 l1 c1 k1 fun _ _ _ _ _ _ us hl => match us, hl with | [_, _], _ => rfl)
  have F__law_pick : Callee l.prog w K mg base CX0 1 "_law_pick" 2 c_law_pick := ok_law_pick T  (def_at X G a2 l2 c2 k2 fun _ _ _ _ _ _ us hl => match us, hl with | [_, _], _ => rfl)
  have F__law_calls : Callee l.prog w K mg base CX0 2 "_law_calls" 3 c_law_calls := ok_law_calls T F__law_pick (def_at X G a3 l3 c3 k3 fun _ _ _ _ _ _ us hl => match us, hl with | [_, _, _], _ => rfl)
  have F__law_cars : Callee l.prog w K mg base CX0 2 "_law_cars" 2 c_law_cars := ok_law_cars T F__law_pick (def_at X G a4 l4 c4 k4 fun _ _ _ _ _ _ us hl => match us, hl with | [_, _], _ => rfl)
  have F__law_lane : Callee l.prog w K mg base CX0 2 "_law_lane" 3 c_law_lane := ok_law_lane T F__law_pick (def_at X G a5 l5 c5 k5 fun _ _ _ _ _ _ us hl => match us, hl with | [_, _, _], _ => rfl)
  have F__law_case : Callee l.prog w K mg base CX0 3 "_law_case" 3 c_law_case := ok_law_case T F__law_calls F__law_cars F__law_lane F__law_pick (def_at X G a6 l6 c6 k6 fun _ _ _ _ _ _ us hl => match us, hl with | [_, _, _], _ => rfl)
  have F__law_is_car : Callee l.prog w K mg base CX0 1 "_law_is_car" 1 c_law_is_car := ok_law_is_car T  (def_at X G a7 l7 c7 k7 fun _ _ _ _ _ _ us hl => match us, hl with | [_], _ => rfl)
  have F__law_due : Callee l.prog w K mg base CX0 2 "_law_due" 1 c_law_due := ok_law_due T F__law_is_car (def_at X G a8 l8 c8 k8 fun _ _ _ _ _ _ us hl => match us, hl with | [_], _ => rfl)
  have F__law_others : Callee l.prog w K mg base CX0 2 "_law_others" 2 c_law_others := ok_law_others T F__law_pick (def_at X G a9 l9 c9 k9 fun _ _ _ _ _ _ us hl => match us, hl with | [_, _], _ => rfl)
  have F_is_whole : Callee l.prog w K mg base CX0 1 "is_whole" 1 c_is_whole := ok_is_whole T  (def_at X G a10 l10 c10 k10 fun _ _ _ _ _ _ us hl => match us, hl with | [_], _ => rfl)
  have F_is_car : Callee l.prog w K mg base CX0 2 "is_car" 1 c_is_car := ok_is_car T F_is_whole (def_at X G a11 l11 c11 k11 fun _ _ _ _ _ _ us hl => match us, hl with | [_], _ => rfl)
  have F_are_cars : Callee l.prog w K mg base CX0 3 "are_cars" 1 c_are_cars := ok_are_cars T F_is_car (def_at X G a12 l12 c12 k12 fun _ _ _ _ _ _ us hl => match us, hl with | [_], _ => rfl)
  have F_are_calls : Callee l.prog w K mg base CX0 4 "are_calls" 1 c_are_calls := ok_are_calls T F_are_cars (def_at X G a13 l13 c13 k13 fun _ _ _ _ _ _ us hl => match us, hl with | [_], _ => rfl)
  have F_check_car : Callee l.prog w K mg base CX0 3 "check_car" 1 c_check_car := ok_check_car T F_is_car (def_at X G a14 l14 c14 k14 fun _ _ _ _ _ _ us hl => match us, hl with | [_], _ => rfl)
  have F_is_lane : Callee l.prog w K mg base CX0 4 "is_lane" 1 c_is_lane := ok_is_lane T F_are_cars (def_at X G a15 l15 c15 k15 fun _ _ _ _ _ _ us hl => match us, hl with | [_], _ => rfl)
  have F_check_lane : Callee l.prog w K mg base CX0 5 "check_lane" 1 c_check_lane := ok_check_lane T F_is_lane (def_at X G a16 l16 c16 k16 fun _ _ _ _ _ _ us hl => match us, hl with | [_], _ => rfl)
  have F_step : Callee l.prog w K mg base CX0 1 "step" 2 c_step := ok_step T  (def_at X G a17 l17 c17 k17 fun _ _ _ _ _ _ us hl => match us, hl with | [_, _], _ => rfl)
  have F_called : Callee l.prog w K mg base CX0 6 "called" 2 c_called := ok_called T F_check_car F_check_lane F_step (def_at X G a18 l18 c18 k18 fun _ _ _ _ _ _ us hl => match us, hl with | [_, _], _ => rfl)
  have F_leaving : Callee l.prog w K mg base CX0 6 "leaving" 2 c_leaving := ok_leaving T F_check_car F_check_lane (def_at X G a19 l19 c19 k19 fun _ _ _ _ _ _ us hl => match us, hl with | [_, _], _ => rfl)
  exact ok_law T F__law_bag F__law_call F__law_case F__law_due F__law_others F_are_calls F_called F_is_lane F_leaving (fun_mk (st := s_law) l20 c20 k20)
end K01
open PySem PySem.W PyProof.Rows in
set_option maxRecDepth 100000 in
set_option maxHeartbeats 0 in
theorem PySem.Challenge.cw_deadlane_k01_lanes_and_calls_holds : PySem.Challenge.rw_deadlane_k01_lanes_and_calls.Holds := by
  w_on; o_law; k_head; (case hw => w_witness2)
  k_fill
  refine DL.walkG (l := PySem.Challenge.rw_deadlane_k01_lanes_and_calls) (n := 63) (k := 7) (x := "script") (C := DL.c_law) rfl (by decide) rfl ⟨rfl, by decide, by decide⟩ (fun w h Y => PySem.W.kIn_of Y) ?F (fun ns hn => ⟨ns, rfl, hn, rfl⟩)
  case F =>
    intro w mg fa h KX G hmg
    refine' K01.all_mk KX G hmg ?a0 ?l0 ?c0 ?k0 ?a1 ?l1 ?c1 ?k1 ?a2 ?l2 ?c2 ?k2 ?a3 ?l3 ?c3 ?k3 ?a4 ?l4 ?c4 ?k4 ?a5 ?l5 ?c5 ?k5 ?a6 ?l6 ?c6 ?k6 ?a7 ?l7 ?c7 ?k7 ?a8 ?l8 ?c8 ?k8 ?a9 ?l9 ?c9 ?k9 ?a10 ?l10 ?c10 ?k10 ?a11 ?l11 ?c11 ?k11 ?a12 ?l12 ?c12 ?k12 ?a13 ?l13 ?c13 ?k13 ?a14 ?l14 ?c14 ?k14 ?a15 ?l15 ?c15 ?k15 ?a16 ?l16 ?c16 ?k16 ?a17 ?l17 ?c17 ?k17 ?a18 ?l18 ?c18 ?k18 ?a19 ?l19 ?c19 ?k19 ?a20 ?l20 ?c20 ?k20 ?z0 ?z1 ?z2 ?z3 ?z4 ?z5 ?z6 ?z7 ?z8 ?z9 ?z10 ?z11 ?z12 ?z13 ?z14
    (case a0 => k_is)
    (case l0 => k_is)
    (case c0 => k_is)
    (case k0 => k_is)
    (case a1 => k_is)
    (case l1 => k_is)
    (case c1 => k_is)
    (case k1 => k_is)
    (case a2 => k_is)
    (case l2 => k_is)
    (case c2 => k_is)
    (case k2 => k_is)
    (case a3 => k_is)
    (case l3 => k_is)
    (case c3 => k_is)
    (case k3 => k_is)
    (case a4 => k_is)
    (case l4 => k_is)
    (case c4 => k_is)
    (case k4 => k_is)
    (case a5 => k_is)
    (case l5 => k_is)
    (case c5 => k_is)
    (case k5 => k_is)
    (case a6 => k_is)
    (case l6 => k_is)
    (case c6 => k_is)
    (case k6 => k_is)
    (case a7 => k_is)
    (case l7 => k_is)
    (case c7 => k_is)
    (case k7 => k_is)
    (case a8 => k_is)
    (case l8 => k_is)
    (case c8 => k_is)
    (case k8 => k_is)
    (case a9 => k_is)
    (case l9 => k_is)
    (case c9 => k_is)
    (case k9 => k_is)
    (case a10 => k_is)
    (case l10 => k_is)
    (case c10 => k_is)
    (case k10 => k_is)
    (case a11 => k_is)
    (case l11 => k_is)
    (case c11 => k_is)
    (case k11 => k_is)
    (case a12 => k_is)
    (case l12 => k_is)
    (case c12 => k_is)
    (case k12 => k_is)
    (case a13 => k_is)
    (case l13 => k_is)
    (case c13 => k_is)
    (case k13 => k_is)
    (case a14 => k_is)
    (case l14 => k_is)
    (case c14 => k_is)
    (case k14 => k_is)
    (case a15 => k_is)
    (case l15 => k_is)
    (case c15 => k_is)
    (case k15 => k_is)
    (case a16 => k_is)
    (case l16 => k_is)
    (case c16 => k_is)
    (case k16 => k_is)
    (case a17 => k_is)
    (case l17 => k_is)
    (case c17 => k_is)
    (case k17 => k_is)
    (case a18 => k_is)
    (case l18 => k_is)
    (case c18 => k_is)
    (case k18 => k_is)
    (case a19 => k_is)
    (case l19 => k_is)
    (case c19 => k_is)
    (case k19 => k_is)
    (case a20 => k_is)
    (case l20 => k_is)
    (case c20 => k_is)
    (case k20 => k_is)
    (case z0 => k_is)
    (case z1 => k_is)
    (case z2 => k_is)
    (case z3 => k_is)
    (case z4 => k_is)
    (case z5 => k_is)
    (case z6 => k_is)
    (case z7 => k_is)
    (case z8 => k_is)
    (case z9 => k_is)
    (case z10 => k_is)
    (case z11 => k_is)
    (case z12 => k_is)
    (case z13 => k_is)
    (case z14 => k_is)
